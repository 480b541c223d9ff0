import Derived.Test.YthcppbmkacbbiaaGreatYAS
import Derived.Test.YthcppbmkacbbiaaGreatBld
import Derived.Laws.IdiomStrings
import Derived.Deep.OwnRows
set_option linter.unusedSimpArgs false
set_option maxHeartbeats 2000000
set_option maxRecDepth 100000
namespace Go.Proofs.YthcppbmkacbbiaaGreat
open Go.Proofs.Tryz
open Go.RowKit Go.Maps Go.WideMaps
open aB (Key put dM mO jn au dX aT)
def nums(f:Nat->Nat):Nat->List Nat
 |0=>[]
 |k+1=>put (nums f k) (f k)
def uf(f:Nat->Nat)(k:Nat):List UInt8:=(List.range k).map λt=>UInt8.ofNat (48+(nums f t).idxOf (f t))
def bits(hl:List Bool):List UInt8:=hl.map λb=>if b then 49 else 48
def wrt(f:Nat->Nat)(n:Nat)(hl:List Bool):List UInt8:=uf f n++[47]++bits hl
theorem Ad{T e B b m:Nat}{bs:List Value}{w w':World}(h:Lib.IsBuilderF T e B b bs w)(hg:w.grownBy w' (some m))(hm:m≠b)(hc:∃o:Obj,w.heap[m]?=some o/\∀c t fz,o≠.cells c t fz):Lib.IsBuilderF T e B b bs w':=by
 have key:∀p,Lib.BuilderAtF T e B b p bs w->Lib.BuilderAtF T e B b p bs w':=by
  rintro p ⟨hB,v,hb,hown,hne⟩;have hlt:b<w.heap.size:=(Js.1 hb).1;refine⟨hB,v,(hg.block b hlt (λe=>hm (ah4 e).symm)).trans hb,hown.kept hg (Or.inr λe=>?_),hne⟩;obtain⟨c,fz,h1⟩:=Lib.ownsRowF_kind hown m e;obtain⟨o,h2,h3⟩:=hc;rw[h1]at h2;exact h3 _ _ _ (ah4 h2).symm
 exact h.elim (λx=>.inl (key _ x)) (λx=>.inr (key _ x))
theorem aH.obj{w:World}{k b:Nat}{kv:Nat->Value}{ts:List Nat}(h:aH w k b kv ts):∃o:Obj,w.heap[b]?=some o/\∀c t fz,o≠.cells c t fz:=by
 obtain⟨D,⟨es,clock,h1,h2⟩,h3⟩:=h;exact⟨_,h1,λ_ _ _ e=>by cases e⟩
theorem nums_length(f:Nat->Nat):∀k,(nums f k).length<=k
 |0=>SH _
 |k+1=>by
  have h:=nums_length f k;unfold nums put;split
  ·omega
  ·simp;omega
theorem Qi(f:Nat->Nat)(k:Nat):uf f (k+1)=uf f k++[UInt8.ofNat (48+(nums f k).idxOf (f k))]:=by
 simp[uf,an4]
structure WG(w:World)(b H nh:Nat)(acc:List UInt8)(l:List Nat)(W:World):Prop where
 Za:Lib.IsBuilderF 217 5 w.heap.size (w.heap.size+1+1) (Lib.byteCells acc) W
 s:W.heap[w.heap.size+1]?=some (.cells #[.map (some b),.slice (some ⟨H,0,none⟩) nh nh] 105 (0,0))
 m:aH W 3 (w.heap.size+1+1+1) gX l
 below:Below w.heap.size w W
theorem WG.x0{w W:World}{b H nh:Nat}{acc:List UInt8}{l:List Nat}(h:WG w b H nh acc l W):W.cell? ⟨w.heap.size+1,0,none⟩=some (.map (some b)):=by
 rw[Lib.cell_of_heap h.s];rfl
theorem WG.x1{w W:World}{b H nh:Nat}{acc:List UInt8}{l:List Nat}(h:WG w b H nh acc l W):W.cell? ⟨w.heap.size+1,1,none⟩=some (.slice (some ⟨H,0,none⟩) nh nh):=by
 rw[Lib.cell_of_heap h.s];rfl
theorem WG.write{w W W':World}{b H nh:Nat}{acc:List UInt8}{l:List Nat}{x:UInt8}(h:WG w b H nh acc l W)
 (h1:Lib.BuilderAtF 217 5 w.heap.size (w.heap.size+1+1) (.pointer (some ⟨w.heap.size+1+1,0,none⟩)) (Lib.byteCells acc++[.int .u8 x.toNat]) W')(h2:Below w.heap.size W W')(h3:Lib.OthersKept 5 (some (w.heap.size+1+1)) W W'):WG w b H nh (acc++[x]) l W' where
 Za:=by rw[Lib.byteCells_append];exact Or.inr h1
 s:=h3 _ _ h.s (by simp) (λc fz e=>by cases e)
 m:=by
  obtain⟨o,h4,h5⟩:=h.m.obj;exact h.m.kept ((h3 _ _ h4 (by simp) (λc fz=>h5 c _ fz)).trans h4.symm)
 below:=h.below.trans h2
theorem WG.ask{w W W':World}{b H nh x:Nat}{acc:List UInt8}{l:List Nat}(h:WG w b H nh acc l W)(h1:aH W' 3 (w.heap.size+1+1+1) gX (put l x))(h2:W.grownBy W' (some (w.heap.size+1+1+1))):WG w b H nh acc (put l x) W' where
 Za:=Ad h.Za h2 (by omega) h.m.obj
 s:=(h2.block _ (Js.1 h.s).1 (by simp)).trans h.s
 m:=h1
 below:=h.below.grown h2 h.below.size (λk e=>by cases e;omega)
theorem WG.call{w W:World}{b H nh:Nat}{acc:List UInt8}{l:List Nat}(h:WG w b H nh acc l W)(x:UInt8)(c:Int)(hc:c=x.toNat)(hl:acc.length<=100) :
  Calls prog 138 #[.pointer (some ⟨w.heap.size+1+1,0,none⟩),.int .u8 c] W λe W'=>e=.returned .nilIface/\WG w b H nh (acc++[x]) l W':=by
 subst hc;refine(bWrite w.heap.size (w.heap.size+1+1) _ _ W h.Za (by rw[Lib.byteCells_length];omega) h.below.size).mono ?_;rintro e W' ⟨rfl,h1,h2,h3⟩;exact⟨rfl,h.write h1 h2 h3⟩
theorem oK(GT GC GP nt nc np b c H:Nat)(f:Nat->Nat)(hl:List Bool)(w:World)(h7:nt<=7)(h4:hl.length<=4)(hf:∀i,i<nt->f i<nt)(hM:gK w b f nt c)(hH:cO w H hl) :
  Calls prog 89 #[fv GT GC GP nt nc np,sv b H hl.length] w λe w'=>e=.returned (.string ⟨(wrt f nt hl).toArray⟩)/\Below w.heap.size w w':=by
 unfold fv sv;have hmm:=@ap3 prog;obtain⟨w0,hw0⟩:∃w0,(((w.alloc (.cells #[.slice (some ⟨GT,0,none⟩) nt nt,.slice (some ⟨GC,0,none⟩) nc nc,.slice (some ⟨GP,0,none⟩) np np] 54)).alloc (.cells #[.map (some b),.slice (some ⟨H,0,none⟩) hl.length hl.length] 105)).alloc (.cells #[.pointer none,.slice none 0 0] 217)).alloc (.map #[] 0)=w0:=⟨_,rfl⟩;have hW0:WG w b H hl.length [] [] w0:=by
  rw[<-hw0];have hsz:((w.alloc (.cells #[.slice (some ⟨GT,0,none⟩) nt nt,.slice (some ⟨GC,0,none⟩) nc nc,.slice (some ⟨GP,0,none⟩) np np] 54)).alloc (.cells #[.map (some b),.slice (some ⟨H,0,none⟩) hl.length hl.length] 105)).heap.size=w.heap.size+1+1:=by simp
  refine⟨?_,?_,?_,?_⟩
  ·have h:=Lib.fresh_isBuilder 217 5 ((w.alloc (.cells #[.slice (some ⟨GT,0,none⟩) nt nt,.slice (some ⟨GC,0,none⟩) nc nc,.slice (some ⟨GP,0,none⟩) np np] 54)).alloc (.cells #[.map (some b),.slice (some ⟨H,0,none⟩) hl.length hl.length] 105));rw[hsz]at h;have h2:Lib.IsBuilderF 217 5 (w.heap.size+1+1) (w.heap.size+1+1) [] _:=Lib.IsBuilderF.of h;have h3:Lib.IsBuilderF 217 5 w.heap.size (w.heap.size+1+1) [] (((w.alloc (.cells #[.slice (some ⟨GT,0,none⟩) nt nt,.slice (some ⟨GC,0,none⟩) nc nc,.slice (some ⟨GP,0,none⟩) np np] 54)).alloc (.cells #[.map (some b),.slice (some ⟨H,0,none⟩) hl.length hl.length] 105)).alloc (.cells #[.pointer none,.slice none 0 0] 217)):=by
    refine Or.inl ⟨by omega,.slice none 0 0,?_,⟨by simp,.inl ⟨rfl,rfl⟩⟩,by simp[Value.ownBlock]⟩;rw[<-hsz];exact ac3 _ _
   exact h3.alloc _
  ·rw[ab6 _ _ _ (by simp),ab6 _ _ _ (by simp)];have h:=ac3 (w.alloc (.cells #[.slice (some ⟨GT,0,none⟩) nt nt,.slice (some ⟨GC,0,none⟩) nc nc,.slice (some ⟨GP,0,none⟩) np np] 54)) (.cells #[.map (some b),.slice (some ⟨H,0,none⟩) hl.length hl.length] 105);simpa using h
  ·have h:=je (((w.alloc (.cells #[.slice (some ⟨GT,0,none⟩) nt nt,.slice (some ⟨GC,0,none⟩) nc nc,.slice (some ⟨GP,0,none⟩) np np] 54)).alloc (.cells #[.map (some b),.slice (some ⟨H,0,none⟩) hl.length hl.length] 105)).alloc (.cells #[.pointer none,.slice none 0 0] 217)) 3 gX;have e:(((w.alloc (.cells #[.slice (some ⟨GT,0,none⟩) nt nt,.slice (some ⟨GC,0,none⟩) nc nc,.slice (some ⟨GP,0,none⟩) np np] 54)).alloc (.cells #[.map (some b),.slice (some ⟨H,0,none⟩) hl.length hl.length] 105)).alloc (.cells #[.pointer none,.slice none 0 0] 217)).heap.size=w.heap.size+1+1+1:=(by simp);rw[e]at h;exact h
  ·exact((((ae1 _ _).alloc (SH _) _).alloc (by simp) _).alloc (by simp;omega) _).alloc (by simp;omega) _
 have HW:=aj hw0;have hc0:w0.cell? ⟨w.heap.size,0,none⟩=some (.slice (some ⟨GT,0,none⟩) nt nt):=by rw[<-hw0];simp[go_sem]
 have hlM:=hM.lt;have hlH:=hH.1;have HM:=aj hM;have HH:=aj hH;have HF:=aj hf;clear hM hH hf hw0
 go_enter func89,ntmps89
 go_wp2_with fail
 rw[ah HW]
 go_loopw [14] (λi wr=>∃k:Nat,k<=nt/\i=.int .i64 k/\WG w b H hl.length (uf f k) (nums f k) wr) (λi _=>nt-(intOf i).toNat)
 case atStart=>exact⟨0,ae7 _,rfl,hW0⟩
 case round=>
  obtain⟨k,hk,rfl,hwg⟩:=hrel;by_cases hlt:k<nt
  ·have hbd:(k:Int)<(nt:Int):=(by omega);have hx0:=hwg.x0;have hof:=oV wr b nt c f k ((ah HM).kept (hwg.below.block b hlM)) hlt (by omega);have hnl:=nums_length f k;have hfk:f k<=1000:=ac9 (Nat.le_of_lt (ah HF k hlt)) (by omega);have hnum:=yh (w.heap.size+1+1+1) (nums f k) (f k) wr hfk (by omega) hwg.m;have hds:=Qi f k;have hdl:(uf f k).length<=100:=(by simp[uf];omega);have hns:nums f (k+1)=put (nums f k) (f k):=rfl;have hil:(nums f k).idxOf (f k)<=7:=ac9 ai8 (by omega);have HD:=aj hds;have HN:=aj hns;have HWG:=aj hwg;have HDL:=aj hdl;have WM:=aj hnum;clear hwg hns hds hnl hdl hnum;generalize (nums f k).idxOf (f k)=ix at HD WM hil;generalize f k=fk at hof HN WM
   go_wp2_with fail
   refine hof.mono ?_;rintro e w1 ⟨rfl,rfl⟩
   go_wp2_with fail
   refine(ah WM).mono ?_;rintro e w2 ⟨rfl,hm2,hg2⟩;have ZC:=(ah HWG).ask hm2 hg2
   go_wp2_with fail
   refine(ZC.call (UInt8.ofNat (48+ix)) (48+ix) (by simp[UInt8.toNat_ofNat'];omega) (ah HDL)).mono ?_;rintro e w3 ⟨rfl,OY⟩
   go_wp2_with fail
   exact⟨⟨k+1,hlt,by go_num,by rw[ah HD,ah HN];exact OY⟩,by simp[intOf];omega⟩
  ·have hkk:k=nt:=(by omega);subst hkk;have hbd:¬(k:Int)<(k:Int):=(by omega);have hdl:(uf f k).length<=100:=(by simp[uf];omega);have HWG:=aj hwg;have HDL:=aj hdl;clear hwg hdl
   go_wp2_with fail
   refine((ah HWG).call 47 47 rfl (ah HDL)).mono ?_;rintro e w1 ⟨rfl,U9⟩;have hx1:=U9.x1;have aaU:=aj U9;clear U9
   go_wp2_with fail
   go_loopw [31] (λi wr=>∃j:Nat,j<=hl.length/\i=.int .i64 j/\WG w b H hl.length (uf f k++[47]++bits (hl.take j)) (nums f k) wr) (λi _=>hl.length-(intOf i).toNat)
   case atStart=>exact⟨0,ae7 _,rfl,by simpa[bits]using ah aaU⟩
   case round=>
    obtain⟨j,hj,rfl,hwg⟩:=hrel;by_cases hjt:j<hl.length
    ·have hjd:(j:Int)<(hl.length:Int):=(by omega);have hcj:=((ah HH).same (hwg.below.block H hlH)).2 j hjt;have hbl:(uf f k++[47]++bits (hl.take j)).length<=100:=(by rw[ad3,ad3,bits,ah7,af6,uf,ah7,ao2,am2];omega);have hbs:bits (hl.take (j+1))=bits (hl.take j)++[if hl[j]then 49 else 48]:=(by unfold bits;rw[ae6,SI hjt,ah6];rfl);have HBS:=aj hbs;have HWG:=aj hwg;have HBL:=aj hbl;clear hwg hbl hbs;generalize hl[j]=bj at hcj HBS;cases bj
     ·go_wp2_with fail
      refine((ah HWG).call 48 48 rfl (ah HBL)).mono ?_;rintro e w3 ⟨rfl,OY⟩
      go_wp2_with fail
      exact⟨⟨j+1,hjt,by go_num,by rw[ah HBS,<-ah5];exact OY⟩,by simp[intOf];omega⟩
     ·go_wp2_with fail
      refine((ah HWG).call 49 49 rfl (ah HBL)).mono ?_;rintro e w3 ⟨rfl,OY⟩
      go_wp2_with fail
      exact⟨⟨j+1,hjt,by go_num,by rw[ah HBS,<-ah5];exact OY⟩,by simp[intOf];omega⟩
    ·have hjj:j=hl.length:=(by omega);subst hjj;have hjd:¬(hl.length:Int)<(hl.length:Int):=(by omega);have hbs:=bString w.heap.size (w.heap.size+1+1) _ wr hwg.Za hwg.below.size;have hbw:=hwg.below;have e1:uf f k++[47]++bits (hl.take hl.length)=wrt f k hl:=(by rw[ag4];rfl);rw[e1]at hbs;clear hwg e1
     go_wp2_with fail
     refine hbs.mono ?_;rintro e w3 ⟨rfl,_,hb3,_⟩;have hb4:=hbw.trans hb3
     go_wp2_with fail
     go_ret
     exact⟨rfl,hb4⟩
attribute [local go_sem] Oper.semAt_some
structure oD(w0:World)(keys:List UInt8)(nc:Nat)(o3 o4 o6 o8:Option Nat)(W:World):Prop where
 below:Below w0.heap.size w0 W
 i3:∀G,o3=some G->w0.heap.size<=G/\pX W G keys
 i4:∀b,o4=some b->w0.heap.size<=b/\dQ W b (fi keys) keys.length 100
 i6:∀H,o6=some H->w0.heap.size<=H/\W.heap[H]?=some (.cells (madeCells #[.bool false] nc) 4)
 i8:∀X,o8=some X->w0.heap.size<=X/\W.heap[X]?=some (.cells #[.map none,.slice none 0 0] 105)
theorem oD.grow{w0:World}{keys:List UInt8}{nc:Nat}{o3 o4 o6 o8:Option Nat}{W W':World}(h:oD w0 keys nc o3 o4 o6 o8 W)(hb:Below W.heap.size W W'):oD w0 keys nc o3 o4 o6 o8 W' where
 below:=h.below.trans ⟨hb.os,hb.tape,hb.output,hb.size,λj hj=>hb.block j (ac7 hj h.below.size)⟩
 i3:=λG e=>⟨(h.i3 G e).1,(h.i3 G e).2.same (hb.block G (h.i3 G e).2.1)⟩
 i4:=λb e=>⟨(h.i4 b e).1,(h.i4 b e).2.kept (hb.block b (h.i4 b e).2.lt)⟩
 i6:=λH e=>⟨(h.i6 H e).1,(hb.block H (Js.1 (h.i6 H e).2).1).trans (h.i6 H e).2⟩
 i8:=λX e=>⟨(h.i8 X e).1,(hb.block X (Js.1 (h.i8 X e).2).1).trans (h.i8 X e).2⟩
theorem gq{w:World}{p q:Addr}{v:Value}(h:p≠q):(w.setCell p v).cell? q=w.cell? q:=by
 apply World.cell?_setCell_other;exact h
theorem nU(W:World)(o:Obj):Below W.heap.size W (W.alloc o):=(ae1 _ _).alloc (SH _) _
theorem oD.s8{w0:World}{keys:List UInt8}{nc:Nat}{o3 o4 o6:Option Nat}{W:World}(h:oD w0 keys nc o3 o4 o6 none W):oD w0 keys nc o3 o4 o6 (some W.heap.size) (W.alloc (.cells #[.map none,.slice none 0 0] 105)):=by
 have h2:=h.grow (nU W (.cells #[.map none,.slice none 0 0] 105));exact⟨h2.below,h2.i3,h2.i4,h2.i6,λX e=>by cases e;exact⟨h.below.size,ac3 _ _⟩⟩
theorem oD.s6{w0:World}{keys:List UInt8}{nc:Nat}{o3 o4 o8:Option Nat}{W:World}(h:oD w0 keys nc o3 o4 none o8 W):oD w0 keys nc o3 o4 (some W.heap.size) o8 (W.alloc (.cells (madeCells #[.bool false] nc) 4)):=by
 have h2:=h.grow (nU W (.cells (madeCells #[.bool false] nc) 4));exact⟨h2.below,h2.i3,h2.i4,λX e=>(by cases e;exact⟨h.below.size,ac3 _ _⟩),h2.i8⟩
theorem oD.s3{w0:World}{t:ByteArray}{nc cap:Nat}{o6 o8:Option Nat}{W:World}{fz:Nat×Nat}(h:oD w0 t.data.toList nc none none o6 o8 W):oD w0 t.data.toList nc (some W.heap.size) none o6 o8 (W.drew.alloc (.cells (bytesRow t cap) 5 fz)):=by
 have hb:Below W.heap.size W (W.drew.alloc (.cells (bytesRow t cap) 5 fz)):=((ae1 _ W).drew).alloc (SH _) _;have h2:=h.grow hb;refine⟨h2.below,λG e=>?_,λb e=>(by cases e),h2.i6,h2.i8⟩;cases e;have hn:(W.drew.alloc (.cells (bytesRow t cap) 5 fz)).heap[W.heap.size]?=some (.cells (bytesRow t cap) 5 fz):=ac3 W.drew _;refine⟨h.below.size,(Js.1 hn).1,λi hi=>?_⟩;rw[Lib.cell_of_heap hn];have hi2:i<t.data.size:=by simpa using hi
 have h3:=bytesRow_at t cap i hi2;simpa using h3
theorem oD.s4{w0:World}{keys:List UInt8}{nc b G:Nat}{o6 o8:Option Nat}{W W':World}(h:oD w0 keys nc (some G) none o6 o8 W)(hb:Below W.heap.size W W')(h1:W.heap.size<=b)(h2:dQ W' b (fi keys) keys.length 100):oD w0 keys nc (some G) (some b) o6 o8 W':=by
 have h3:=h.grow hb;exact⟨h3.below,h3.i3,λc e=>(by cases e;exact⟨ac9 h.below.size h1,h2⟩),h3.i6,h3.i8⟩
theorem zQ(GT GC GP nt nc np:Nat)(s:ByteArray)(w:World)(h7:nt<=7)(h4:nc<=4)(hs:s.size≠nt+1+nc) :
  Calls prog 54 #[fv GT GC GP nt nc np,.string s] w λe w'=>e=.returned (.tuple #[.agg #[.map none,.slice none 0 0],.bool false])/\Below w.heap.size w w':=by
 unfold fv
 go_enter func54,ntmps54
 go_wp2_with fail
 obtain⟨w0,hw0⟩:∃w0,(w.alloc (.cells #[.slice (some ⟨GT,0,none⟩) nt nt,.slice (some ⟨GC,0,none⟩) nc nc,.slice (some ⟨GP,0,none⟩) np np] 54)).alloc (.cells #[.map none,.slice none 0 0] 105)=w0:=⟨_,rfl⟩;have hb0:Below w.heap.size w w0:=by rw[<-hw0];exact dB _ _ _
 have hz0:w0.heap.size=w.heap.size+2:=by rw[<-hw0];simp
 have hk0:w0.cell? ⟨w.heap.size,0,none⟩=some (.slice (some ⟨GT,0,none⟩) nt nt):=by rw[<-hw0];simp[go_sem]
 have hk1:w0.cell? ⟨w.heap.size,1,none⟩=some (.slice (some ⟨GC,0,none⟩) nc nc):=by rw[<-hw0];simp[go_sem]
 have hk2:w0.cell? ⟨w.heap.size,2,none⟩=some (.slice (some ⟨GP,0,none⟩) np np):=by rw[<-hw0];simp[go_sem]
 have hr0:w0.cell? ⟨w.heap.size+1,0,none⟩=some (.map none):=by rw[<-hw0];simp[go_sem]
 have hr1:w0.cell? ⟨w.heap.size+1,1,none⟩=some (.slice none 0 0):=by rw[<-hw0];simp[go_sem]
 have hq0:w0.frozen? ⟨w.heap.size+1,0,none⟩=false:=by rw[<-hw0];simp[go_sem]
 have hq1:w0.frozen? ⟨w.heap.size+1,1,none⟩=false:=by rw[<-hw0];simp[go_sem]
 rw[hw0];clear hw0;have hS0:w0.drew.cell? ⟨w.heap.size,0,none⟩=some (.slice (some ⟨GT,0,none⟩) nt nt)/\w0.drew.cell? ⟨w.heap.size,1,none⟩=some (.slice (some ⟨GC,0,none⟩) nc nc):=⟨hk0,hk1⟩;refine ae5 (S:=λW'=>W'.cell? ⟨w.heap.size,0,none⟩=some (.slice (some ⟨GT,0,none⟩) nt nt)/\W'.cell? ⟨w.heap.size,1,none⟩=some (.slice (some ⟨GC,0,none⟩) nc nc)) rfl ?_;simp only[ab7,ab5,ac2,Nat.reduceAdd,ab4,ab3,ab8,ac1,ac0];change wpAnyH prog .any _ _ _ _ _ _ w0.drew;refine tH 0 (.pointer (some ⟨w.heap.size,0,none⟩)) (λw' hS=>?_) hS0 ?_
 ·obtain⟨s1,s2⟩:=hS;go_simp
 simp only[aC];refine tH 1 (.slice (some ⟨GT,0,none⟩) nt nt) (λw' hS=>?_) hS0 ?_
 ·obtain⟨s1,s2⟩:=hS;go_simp
 simp only[aC];refine tH 2 (.int .i64 nt) (λw' hS=>?_) hS0 ?_
 ·obtain⟨s1,s2⟩:=hS;go_simp
 simp only[aC];refine tH 3 (.pointer (some ⟨w.heap.size,1,none⟩)) (λw' hS=>?_) hS0 ?_
 ·obtain⟨s1,s2⟩:=hS;go_simp
 simp only[aC];refine tH 4 (.slice (some ⟨GC,0,none⟩) nc nc) (λw' hS=>?_) hS0 ?_
 ·obtain⟨s1,s2⟩:=hS;go_simp
 simp only[aC];refine tH 5 (.int .i64 nc) (λw' hS=>?_) hS0 ?_
 ·obtain⟨s1,s2⟩:=hS;go_simp
 simp only[aC];refine oH 6 (λK hK=>?_);go_simp;refine hK.out _ _ hS0 ?_;clear hK K;refine oH 7 (λK hK=>?_);go_simp;refine hK.out _ _ hS0 (ae0 (by kernel_rfl) ?_ _);clear hK K hS0;have hne:decide ((s.size:Int)=(nt:Int)+1+(nc:Int))=false:=by simp;omega
 have hne2:¬((s.size:Int)=(nt:Int)+1+(nc:Int)):=by omega
 have hd0:w0.drew.cell? ⟨w.heap.size+1,0,none⟩=some (.map none):=hr0;have hd1:w0.drew.cell? ⟨w.heap.size+1,1,none⟩=some (.slice none 0 0):=hr1;have he0:w0.drew.frozen? ⟨w.heap.size+1,0,none⟩=false:=hq0;have he1:w0.drew.frozen? ⟨w.heap.size+1,1,none⟩=false:=hq1
 go_wp2_with fail
 obtain⟨wz,hwz⟩:∃wz,((w0.setCell ⟨w.heap.size+1,0,none⟩ (Value.map none)).setCell ⟨w.heap.size+1,1,none⟩ (Value.slice none 0 0)).drew=wz:=⟨_,rfl⟩;have z0:wz.cell? ⟨w.heap.size+1,0,none⟩=some (.map none):=by
  rw[<-hwz]
  show((w0.setCell ⟨w.heap.size+1,0,none⟩ (Value.map none)).setCell ⟨w.heap.size+1,1,none⟩ (Value.slice none 0 0)).cell? _=_
  rw[gq (by simp)];exact dG _ hr0
 have z1:wz.cell? ⟨w.heap.size+1,1,none⟩=some (.slice none 0 0):=by
  rw[<-hwz]
  show((w0.setCell ⟨w.heap.size+1,0,none⟩ (Value.map none)).setCell ⟨w.heap.size+1,1,none⟩ (Value.slice none 0 0)).cell? _=_
  exact dG _ ((gq (by simp)).trans hr1)
 have zb:Below w.heap.size w wz:=by
  rw[<-hwz];exact((hb0.setCell (p:=⟨w.heap.size+1,0,none⟩) (by show w.heap.size<=w.heap.size+1;omega) _).setCell (p:=⟨w.heap.size+1,1,none⟩) (by show w.heap.size<=w.heap.size+1;omega) _).drew
 rw[hwz];exact ad8 (v:=.tuple #[.agg #[.map none,.slice none 0 0],.bool false]) (by simp[results,results54,go_sem,z0,z1]) rfl ⟨rfl,zb⟩
end Go.Proofs.YthcppbmkacbbiaaGreat
