import Derived.Test.YthcppbmkacbbiaaGreatYAY
import Derived.Test.YthcppbmkacbbiaaGreatYBI
import Derived.Test.YthcppbmkacbbiaaGreatBld
import Derived.Laws.IdiomStrings
import Derived.Deep.OwnRows
import Derived.Lib.SliceRun
import Derived.BigFrame
set_option linter.unusedSimpArgs false
set_option maxHeartbeats 2000000
set_option maxRecDepth 100000
namespace Go.Proofs.YthcppbmkacbbiaaGreat
open Go.Proofs.Tryz
section
open Sat (View Rule jw bI)
open aB (Key put lY dP jn au aP dH fD isAtom)
def IX(τ:List Tr)(x:Nat):Bool:=match mX τ x with
 |some q=>q.1.2.1
 |none=>false
theorem Uo{τ:List Tr}{x:Nat}{b:jw}(h:bel τ x=some b):IX τ x=b.1:=by
 unfold bel at h;unfold IX;cases e:mX τ x with
 |none=>rw[e]at h;cases h
 |some q=>
  rw[e]at h;simp only[ap0,ai0]at h;rw[<-h]
theorem Un{τ:List Tr}{U x:Nat}(hlt:∀q∈τ,q.1<U)(hx:U<=x):IX τ x=false:=by
 have:mX τ x=none:=jF.2 (λh=>by
  obtain⟨q,hq,rfl⟩:=ae8.1 h;have:=hlt q hq;omega)
 unfold IX;rw[this]
theorem Jt{τ:List Tr}{x:Nat}(h:lG τ x=true):∃b,bel τ x=some b/\b.1=IX τ x:=by
 unfold lG at h;cases e:mX τ x with
 |none=>rw[e]at h;cases h
 |some q=>exact⟨(q.1.2.1,q.2,q.1.2.2.2),by simp[bel,e],by simp[IX,e]⟩
theorem zq{U:Nat}{aJ ak:List Rule}{τ:List Tr}(hd:Sat.Done ak (bel τ))(hs:∀r∈aJ,r∈ak)(hlt:∀r∈aJ,∀u∈r,u.1<U)(hall:∀x,x<U->lG τ x=true):∀r∈aJ,Sat.keeps (IX τ) r:=by
 intro r hr;rcases hd r (hs r hr)with⟨v,hv,b,h1,h2⟩|⟨u,hu,_,_,_,h1,_⟩
 ·exact⟨v,hv,(Uo h1).trans h2⟩
 ·obtain⟨b,h2,_⟩:=Jt (hall u.1 (hlt r hr u hu));rw[h2]at h1;cases h1
def wS(Us:List Key)(τ:List Tr)(x:Nat):List jL:=if isAtom (Us.getD x (0,0,0)).1=true then [(x,IX τ x,Us.getD x (0,0,0))]else []
def rJ(Us:List Key)(τ:List Tr)(k:Nat):List jL:=(List.range k).flatMap (wS Us τ)
def fA(Us:List Key)(τ:List Tr):List jL:=rJ Us τ Us.length
theorem uM(Us:List Key)(τ:List Tr)(k:Nat):rJ Us τ (k+1)=rJ Us τ k++wS Us τ k:=by
 unfold rJ;rw[ap9,List.flatMap_append];simp
theorem Oe(Us:List Key)(τ:List Tr)(x:Nat):(wS Us τ x).length<=1:=by
 unfold wS;split<;>simp
theorem pK(Us:List Key)(τ:List Tr):∀k,(rJ Us τ k).length<=k
 |0=>by simp[rJ]
 |k+1=>by
  have:=pK Us τ k;have:=Oe Us τ k;rw[uM,ae9];omega
theorem yF{Us:List Key}{τ:List Tr}{s:jL}:s∈fA Us τ↔∃h:s.1<Us.length,isAtom Us[s.1].1=true/\s.2.1=IX τ s.1/\s.2.2=Us[s.1]:=by
 unfold fA rJ wS;rw[ak7];constructor
 ·rintro⟨x,hx,hs⟩;have hx:=ai5.1 hx;rw[aG hx]at hs;split at hs
  ·rename_i ha;have e:=ae5.1 hs;subst e;exact⟨hx,ha,rfl,rfl⟩
  ·cases hs
 ·rintro⟨h,ha,e1,e2⟩;refine⟨s.1,ai5.2 h,?_⟩;rw[aG h,ae2 ha,ae5,<-e1,<-e2]
theorem Gj(Us:List Key)(τ:List Tr):((fA Us τ).map (·.1)).Nodup:=by
 have key:∀k,((rJ Us τ k).map (·.1)).Nodup/\∀x∈(rJ Us τ k).map (·.1),x<k:=by
  intro k
  induction k with
  |zero=>exact⟨by simp[rJ],by simp[rJ]⟩
  |succ k ih=>
   rw[uM,ak0];have ho:∀x∈(wS Us τ k).map (·.1),x=k:=by
    unfold wS;split<;>simp
   have hn:((wS Us τ k).map (·.1)).Nodup:=by
    unfold wS;split<;>simp
   refine⟨am9.2 ⟨ih.1,hn,λx hx y hy e=>?_⟩,λx hx=>?_⟩
   ·have h1:=ih.2 x hx;have h2:=ho y hy;omega
   ·rcases af7.1 hx with hx|hx
    ·have:=ih.2 x hx;omega
    ·have:=ho x hx;omega
 exact(key _).1
def kV(ss:List jL)(n:Nat):List Bool:=ss.foldl (λh s=>if s.2.2.1=61 then h else h.set s.2.2.2.1 s.2.1) (List.replicate n false)
theorem Cj(ss:List jL):∀h:List Bool,(ss.foldl (λh s=>if s.2.2.1=61 then h else h.set s.2.2.2.1 s.2.1) h).length=h.length:=by
 induction ss with
 |nil=>intro h;rfl
 |cons s ss ih=>
  intro h;rw[List.foldl_cons,ih];split<;>simp
theorem yM(ss:List jL)(n:Nat):(kV ss n).length=n:=by
 unfold kV;rw[Cj];simp
theorem MQ{ss:List jL}{n k:Nat}(hk:k<ss.length):kV (ss.take (k+1)) n=if ss[k].2.2.1=61 then kV (ss.take k) n else(kV (ss.take k) n).set ss[k].2.2.2.1 ss[k].2.1:=by
 unfold kV;rw[ag5,ac3 hk,an0];rfl
theorem Cm{c:Nat}{bv:Bool}(ss:List jL):∀h:List Bool,c<h.length->(∀s∈ss,s.2.2.1≠61->s.2.2.2.1=c->s.2.1=bv)->(h.getD c false=bv\/∃s∈ss,s.2.2.1≠61/\s.2.2.2.1=c)->
  (ss.foldl (λh s=>if s.2.2.1=61 then h else h.set s.2.2.2.1 s.2.1) h).getD c false=bv:=by
 induction ss with
 |nil=>
  intro h _ _ h2;rcases h2 with h2|⟨s,hs,_⟩
  ·exact h2
  ·cases hs
 |cons s ss ih=>
  intro h hc h1 h2;rw[List.foldl_cons];refine ih _ (by split<;>simpa using hc) (λt ht=>h1 t (List.mem_cons_of_mem _ ht)) ?_;by_cases e:s.2.2.1=61
  ·rw[ae2 e];rcases h2 with h2|⟨t,ht,g1,g2⟩
   ·exact Or.inl h2
   ·rcases ah0.1 ht with e2|ht
    ·subst e2;exact absurd e g1
    ·exact Or.inr ⟨t,ht,g1,g2⟩
  ·rw[ad6 e];by_cases e2:s.2.2.2.1=c
   ·left;subst e2;rw[ae7,List.getElem?_set_self hc];exact h1 s (by simp) e rfl
   ·rcases h2 with h2|⟨t,ht,g1,g2⟩
    ·left;rw[ae7,List.getElem?_set_ne e2,<-ae7];exact h2
    ·rcases ah0.1 ht with e3|ht
     ·subst e3;exact absurd g2 e2
     ·exact Or.inr ⟨t,ht,g1,g2⟩
theorem EZ{c n:Nat}{bv:Bool}{ss:List jL}(hc:c<n)(h1:∀s∈ss,s.2.2.1≠61->s.2.2.2.1=c->s.2.1=bv)(h2:bv=false\/∃s∈ss,s.2.2.1≠61/\s.2.2.2.1=c):(kV ss n).getD c false=bv:=by
 refine Cm ss _ (by simpa using hc) h1 ?_;rcases h2 with h2|h2
 ·left;rw[h2,aG (by simpa using hc)];simp
 ·exact Or.inr h2
def RS(Us:List Key)(τ:List Tr)(p:Key):Bool:=IX τ (Us.idxOf p)
theorem Jc{Us:List Key}{τ:List Tr}{p:Key}(hlt:∀q∈τ,q.1<Us.length)(h:RS Us τ p=true):p∈Us:=by
 refine ag1 λhn=>?_;unfold RS at h;rw[ag4 hn,Un hlt (ac2 _)]at h;cases h
theorem BJ{Us:List Key}{τ:List Tr}{p:Key}(hp:p∈Us)(ha:isAtom p.1=true):(Us.idxOf p,RS Us τ p,p)∈fA Us τ:=by
 have hl:=aj3.2 hp;have e:Us[Us.idxOf p]=p:=ag2 hl;exact yF.2 ⟨hl,by simp only[e];exact ha,rfl,e.symm⟩
theorem rP{Us:List Key}{τ:List Tr}(hn:Us.Nodup){s:jL}(h:s∈fA Us τ):s.2.2∈Us/\isAtom s.2.2.1=true/\s.2.1=RS Us τ s.2.2/\s.1=Us.idxOf s.2.2:=by
 obtain⟨hl,ha,h1,h2⟩:=yF.1 h;have e:s.1=Us.idxOf s.2.2:=by
  rw[h2];exact(hn.idxOf_getElem s.1 hl).symm
 refine⟨by rw[h2];exact ac4 hl,by rw[h2];exact ha,?_,e⟩;unfold RS;rw[h1,<-e]
end
section
open Go.RowKit Go.Maps Go.WideMaps
open aB (Key put dH lY jn au dP aP)
def nums(f:Nat->Nat):Nat->List Nat
 |0=>[]
 |k+1=>put (nums f k) (f k)
def uo(f:Nat->Nat)(k:Nat):List UInt8:=(List.range k).map λt=>UInt8.ofNat (48+(nums f t).idxOf (f t))
def bits(hl:List Bool):List UInt8:=hl.map λb=>if b then 49 else 48
def wrt(f:Nat->Nat)(n:Nat)(hl:List Bool):List UInt8:=uo f n++[47]++bits hl
theorem Ai{T e B b m:Nat}{bs:List Value}{w w':World}(h:Lib.IsBuilderF T e B b bs w)(hg:w.grownBy w' (some m))(hm:m≠b)(hc:∃o:Obj,w.heap[m]?=some o/\∀c t fz,o≠.cells c t fz):Lib.IsBuilderF T e B b bs w':=by
 have key:∀p,Lib.BuilderAtF T e B b p bs w->Lib.BuilderAtF T e B b p bs w':=by
  rintro p ⟨hB,v,hb,hown,hne⟩;have hlt:b<w.heap.size:=(ac0.1 hb).1;refine⟨hB,v,(hg.block b hlt (λe=>hm (aj6 e).symm)).trans hb,hown.kept hg (Or.inr λe=>?_),hne⟩;obtain⟨c,fz,h1⟩:=Lib.ownsRowF_kind hown m e;obtain⟨o,h2,h3⟩:=hc;rw[h1]at h2;exact h3 _ _ _ (aj6 h2).symm
 exact h.elim (λx=>.inl (key _ x)) (λx=>.inr (key _ x))
theorem aH.obj{w:World}{k b:Nat}{kv:Nat->Value}{ts:List Nat}(h:aH w k b kv ts):∃o:Obj,w.heap[b]?=some o/\∀c t fz,o≠.cells c t fz:=by
 obtain⟨D,⟨es,clock,h1,h2⟩,h3⟩:=h;exact⟨_,h1,λ_ _ _ e=>by cases e⟩
theorem nums_length(f:Nat->Nat):∀k,(nums f k).length<=k
 |0=>ac2 _
 |k+1=>by
  have h:=nums_length f k;unfold nums put;split
  ·omega
  ·simp;omega
theorem QD(f:Nat->Nat)(k:Nat):uo f (k+1)=uo f k++[UInt8.ofNat (48+(nums f k).idxOf (f k))]:=by
 simp[uo,ap9]
structure WG(w:World)(b H nh:Nat)(acc:List UInt8)(l:List Nat)(W:World):Prop where
 ZA:Lib.IsBuilderF 217 5 w.heap.size (w.heap.size+1+1) (Lib.byteCells acc) W
 s:W.heap[w.heap.size+1]?=some (.cells #[.map (some b),.slice (some ⟨H,0,none⟩) nh nh] 105 (0,0))
 m:aH W 3 (w.heap.size+1+1+1) kR l
 below:Below w.heap.size w W
theorem WG.x0{w W:World}{b H nh:Nat}{acc:List UInt8}{l:List Nat}(h:WG w b H nh acc l W):W.cell? ⟨w.heap.size+1,0,none⟩=some (.map (some b)):=by
 rw[Lib.cell_of_heap h.s];rfl
theorem WG.x1{w W:World}{b H nh:Nat}{acc:List UInt8}{l:List Nat}(h:WG w b H nh acc l W):W.cell? ⟨w.heap.size+1,1,none⟩=some (.slice (some ⟨H,0,none⟩) nh nh):=by
 rw[Lib.cell_of_heap h.s];rfl
theorem WG.write{w W W':World}{b H nh:Nat}{acc:List UInt8}{l:List Nat}{x:UInt8}(h:WG w b H nh acc l W)
 (h1:Lib.BuilderAtF 217 5 w.heap.size (w.heap.size+1+1) (.pointer (some ⟨w.heap.size+1+1,0,none⟩)) (Lib.byteCells acc++[.int .u8 x.toNat]) W')(h2:Below w.heap.size W W')(h3:Lib.OthersKept 5 (some (w.heap.size+1+1)) W W'):WG w b H nh (acc++[x]) l W' where
 ZA:=by rw[Lib.byteCells_append];exact Or.inr h1
 s:=h3 _ _ h.s (by simp) (λc fz e=>by cases e)
 m:=by
  obtain⟨o,h4,h5⟩:=h.m.obj;exact h.m.kept ((h3 _ _ h4 (by simp) (λc fz=>h5 c _ fz)).trans h4.symm)
 below:=h.below.trans h2
theorem WG.ask{w W W':World}{b H nh x:Nat}{acc:List UInt8}{l:List Nat}(h:WG w b H nh acc l W)(h1:aH W' 3 (w.heap.size+1+1+1) kR (put l x))(h2:W.grownBy W' (some (w.heap.size+1+1+1))):WG w b H nh acc (put l x) W' where
 ZA:=Ai h.ZA h2 (by omega) h.m.obj
 s:=(h2.block _ (ac0.1 h.s).1 (by simp)).trans h.s
 m:=h1
 below:=h.below.grown h2 h.below.size (λk e=>by cases e;omega)
theorem WG.call{w W:World}{b H nh:Nat}{acc:List UInt8}{l:List Nat}(h:WG w b H nh acc l W)(x:UInt8)(c:Int)(hc:c=x.toNat)(hl:acc.length<=100) :
  Calls prog 138 #[.pointer (some ⟨w.heap.size+1+1,0,none⟩),.int .u8 c] W λe W'=>e=.returned .nilIface/\WG w b H nh (acc++[x]) l W':=by
 subst hc;refine(bWrite w.heap.size (w.heap.size+1+1) _ _ W h.ZA (by rw[Lib.byteCells_length];omega) h.below.size).mono ?_;rintro e W' ⟨rfl,h1,h2,h3⟩;exact⟨rfl,h.write h1 h2 h3⟩
theorem pF(GT GC GP nt nc np b c H:Nat)(f:Nat->Nat)(hl:List Bool)(w:World)(h7:nt<=7)(h4:hl.length<=4)(hf:∀i,i<nt->f i<nt)(hM:gU w b f nt c)(hH:dw w H hl) :
  Calls prog 89 #[fv GT GC GP nt nc np,sv b H hl.length] w λe w'=>e=.returned (.string ⟨(wrt f nt hl).toArray⟩)/\Below w.heap.size w w':=by
 unfold fv sv;have hmm:=@ar7 prog;obtain⟨w0,hw0⟩:∃w0,(((w.alloc (.cells #[.slice (some ⟨GT,0,none⟩) nt nt,.slice (some ⟨GC,0,none⟩) nc nc,.slice (some ⟨GP,0,none⟩) np np] 54)).alloc (.cells #[.map (some b),.slice (some ⟨H,0,none⟩) hl.length hl.length] 105)).alloc (.cells #[.pointer none,.slice none 0 0] 217)).alloc (.map #[] 0)=w0:=⟨_,rfl⟩;have hW0:WG w b H hl.length [] [] w0:=by
  rw[<-hw0];have hsz:((w.alloc (.cells #[.slice (some ⟨GT,0,none⟩) nt nt,.slice (some ⟨GC,0,none⟩) nc nc,.slice (some ⟨GP,0,none⟩) np np] 54)).alloc (.cells #[.map (some b),.slice (some ⟨H,0,none⟩) hl.length hl.length] 105)).heap.size=w.heap.size+1+1:=by simp
  refine⟨?_,?_,?_,?_⟩
  ·have h:=Lib.fresh_isBuilder 217 5 ((w.alloc (.cells #[.slice (some ⟨GT,0,none⟩) nt nt,.slice (some ⟨GC,0,none⟩) nc nc,.slice (some ⟨GP,0,none⟩) np np] 54)).alloc (.cells #[.map (some b),.slice (some ⟨H,0,none⟩) hl.length hl.length] 105));rw[hsz]at h;have h2:Lib.IsBuilderF 217 5 (w.heap.size+1+1) (w.heap.size+1+1) [] _:=Lib.IsBuilderF.of h;have h3:Lib.IsBuilderF 217 5 w.heap.size (w.heap.size+1+1) [] (((w.alloc (.cells #[.slice (some ⟨GT,0,none⟩) nt nt,.slice (some ⟨GC,0,none⟩) nc nc,.slice (some ⟨GP,0,none⟩) np np] 54)).alloc (.cells #[.map (some b),.slice (some ⟨H,0,none⟩) hl.length hl.length] 105)).alloc (.cells #[.pointer none,.slice none 0 0] 217)):=by
    refine Or.inl ⟨by omega,.slice none 0 0,?_,⟨by simp,.inl ⟨rfl,rfl⟩⟩,by simp[Value.ownBlock]⟩;rw[<-hsz];exact ad7 _ _
   exact h3.alloc _
  ·rw[ad4 _ _ _ (by simp),ad4 _ _ _ (by simp)];have h:=ad7 (w.alloc (.cells #[.slice (some ⟨GT,0,none⟩) nt nt,.slice (some ⟨GC,0,none⟩) nc nc,.slice (some ⟨GP,0,none⟩) np np] 54)) (.cells #[.map (some b),.slice (some ⟨H,0,none⟩) hl.length hl.length] 105);simpa using h
  ·have h:=jm (((w.alloc (.cells #[.slice (some ⟨GT,0,none⟩) nt nt,.slice (some ⟨GC,0,none⟩) nc nc,.slice (some ⟨GP,0,none⟩) np np] 54)).alloc (.cells #[.map (some b),.slice (some ⟨H,0,none⟩) hl.length hl.length] 105)).alloc (.cells #[.pointer none,.slice none 0 0] 217)) 3 kR;have e:(((w.alloc (.cells #[.slice (some ⟨GT,0,none⟩) nt nt,.slice (some ⟨GC,0,none⟩) nc nc,.slice (some ⟨GP,0,none⟩) np np] 54)).alloc (.cells #[.map (some b),.slice (some ⟨H,0,none⟩) hl.length hl.length] 105)).alloc (.cells #[.pointer none,.slice none 0 0] 217)).heap.size=w.heap.size+1+1+1:=(by simp);rw[e]at h;exact h
  ·exact((((af5 _ _).alloc (ac2 _) _).alloc (by simp) _).alloc (by simp;omega) _).alloc (by simp;omega) _
 have HW:=aj hw0;have hc0:w0.cell? ⟨w.heap.size,0,none⟩=some (.slice (some ⟨GT,0,none⟩) nt nt):=by rw[<-hw0];simp[go_sem]
 have hlM:=hM.lt;have hlH:=hH.1;have HM:=aj hM;have HH:=aj hH;have HF:=aj hf;clear hM hH hf hw0
 go_enter func89,ntmps89
 go_wp2_with fail
 rw[ah HW]
 go_loopw [14] (λi wr=>∃k:Nat,k<=nt/\i=.int .i64 k/\WG w b H hl.length (uo f k) (nums f k) wr) (λi _=>nt-(intOf i).toNat)
 case atStart=>exact⟨0,ag3 _,rfl,hW0⟩
 case round=>
  obtain⟨k,hk,rfl,hwg⟩:=hrel;by_cases hlt:k<nt
  ·have hbd:(k:Int)<(nt:Int):=(by omega);have hx0:=hwg.x0;have hof:=pU wr b nt c f k ((ah HM).kept (hwg.below.block b hlM)) hlt (by omega);have hnl:=nums_length f k;have hfk:f k<=1000:=ae4 (Nat.le_of_lt (ah HF k hlt)) (by omega);have hnum:=yw (w.heap.size+1+1+1) (nums f k) (f k) wr hfk (by omega) hwg.m;have hds:=QD f k;have hdl:(uo f k).length<=100:=(by simp[uo];omega);have hns:nums f (k+1)=put (nums f k) (f k):=rfl;have hil:(nums f k).idxOf (f k)<=7:=ae4 ak8 (by omega);have HD:=aj hds;have HN:=aj hns;have HWG:=aj hwg;have HDL:=aj hdl;have Xi:=aj hnum;clear hwg hns hds hnl hdl hnum;generalize (nums f k).idxOf (f k)=ix at HD Xi hil;generalize f k=fk at hof HN Xi
   go_wp2_with fail
   refine hof.mono ?_;rintro e w1 ⟨rfl,rfl⟩
   go_wp2_with fail
   refine(ah Xi).mono ?_;rintro e w2 ⟨rfl,hm2,hg2⟩;have Z8:=(ah HWG).ask hm2 hg2
   go_wp2_with fail
   refine(Z8.call (UInt8.ofNat (48+ix)) (48+ix) (by simp[UInt8.toNat_ofNat'];omega) (ah HDL)).mono ?_;rintro e w3 ⟨rfl,Pv⟩
   go_wp2_with fail
   exact⟨⟨k+1,hlt,by go_num,by rw[ah HD,ah HN];exact Pv⟩,by simp[intOf];omega⟩
  ·have hkk:k=nt:=(by omega);subst hkk;have hbd:¬(k:Int)<(k:Int):=(by omega);have hdl:(uo f k).length<=100:=(by simp[uo];omega);have HWG:=aj hwg;have HDL:=aj hdl;clear hwg hdl
   go_wp2_with fail
   refine((ah HWG).call 47 47 rfl (ah HDL)).mono ?_;rintro e w1 ⟨rfl,Vz⟩;have hx1:=Vz.x1;have abr:=aj Vz;clear Vz
   go_wp2_with fail
   go_loopw [31] (λi wr=>∃j:Nat,j<=hl.length/\i=.int .i64 j/\WG w b H hl.length (uo f k++[47]++bits (hl.take j)) (nums f k) wr) (λi _=>hl.length-(intOf i).toNat)
   case atStart=>exact⟨0,ag3 _,rfl,by simpa[bits]using ah abr⟩
   case round=>
    obtain⟨j,hj,rfl,hwg⟩:=hrel;by_cases hjt:j<hl.length
    ·have hjd:(j:Int)<(hl.length:Int):=(by omega);have hcj:=((ah HH).same (hwg.below.block H hlH)).2 j hjt;have hbl:(uo f k++[47]++bits (hl.take j)).length<=100:=(by rw[ae9,ae9,bits,aj7,ai6,uo,aj7,ar1,an9];omega);have hbs:bits (hl.take (j+1))=bits (hl.take j)++[if hl[j]then 49 else 48]:=(by unfold bits;rw[ag5,ac3 hjt,ak0];rfl);have HBS:=aj hbs;have HWG:=aj hwg;have HBL:=aj hbl;clear hwg hbl hbs;generalize hl[j]=bj at hcj HBS;cases bj
     ·go_wp2_with fail
      refine((ah HWG).call 48 48 rfl (ah HBL)).mono ?_;rintro e w3 ⟨rfl,Pv⟩
      go_wp2_with fail
      exact⟨⟨j+1,hjt,by go_num,by rw[ah HBS,<-ai7];exact Pv⟩,by simp[intOf];omega⟩
     ·go_wp2_with fail
      refine((ah HWG).call 49 49 rfl (ah HBL)).mono ?_;rintro e w3 ⟨rfl,Pv⟩
      go_wp2_with fail
      exact⟨⟨j+1,hjt,by go_num,by rw[ah HBS,<-ai7];exact Pv⟩,by simp[intOf];omega⟩
    ·have hjj:j=hl.length:=(by omega);subst hjj;have hjd:¬(hl.length:Int)<(hl.length:Int):=(by omega);have hbs:=bString w.heap.size (w.heap.size+1+1) _ wr hwg.ZA hwg.below.size;have hbw:=hwg.below;have e1:uo f k++[47]++bits (hl.take hl.length)=wrt f k hl:=(by rw[ai1];rfl);rw[e1]at hbs;clear hwg e1
     go_wp2_with fail
     refine hbs.mono ?_;rintro e w3 ⟨rfl,_,hb3,_⟩;have hb4:=hbw.trans hb3
     go_wp2_with fail
     go_ret
     exact⟨rfl,hb4⟩
end
section
open Go.RowKit Go.Maps Go.WideMaps
open aB (Key put dH lY jn au dP aP)
attribute [local go_sem] Oper.semAt_some
structure oZ(w0:World)(keys:List UInt8)(nc:Nat)(o3 o4 o6 o8:Option Nat)(W:World):Prop where
 below:Below w0.heap.size w0 W
 i3:∀G,o3=some G->w0.heap.size<=G/\qE W G keys
 i4:∀b,o4=some b->w0.heap.size<=b/\gQ W b (fi keys) keys.length 100
 i6:∀H,o6=some H->w0.heap.size<=H/\W.heap[H]?=some (.cells (madeCells #[.bool false] nc) 4)
 i8:∀X,o8=some X->w0.heap.size<=X/\W.heap[X]?=some (.cells #[.map none,.slice none 0 0] 105)
theorem oZ.grow{w0:World}{keys:List UInt8}{nc:Nat}{o3 o4 o6 o8:Option Nat}{W W':World}(h:oZ w0 keys nc o3 o4 o6 o8 W)(hb:Below W.heap.size W W'):oZ w0 keys nc o3 o4 o6 o8 W' where
 below:=h.below.trans ⟨hb.os,hb.tape,hb.output,hb.size,λj hj=>hb.block j (ac8 hj h.below.size)⟩
 i3:=λG e=>⟨(h.i3 G e).1,(h.i3 G e).2.same (hb.block G (h.i3 G e).2.1)⟩
 i4:=λb e=>⟨(h.i4 b e).1,(h.i4 b e).2.kept (hb.block b (h.i4 b e).2.lt)⟩
 i6:=λH e=>⟨(h.i6 H e).1,(hb.block H (ac0.1 (h.i6 H e).2).1).trans (h.i6 H e).2⟩
 i8:=λX e=>⟨(h.i8 X e).1,(hb.block X (ac0.1 (h.i8 X e).2).1).trans (h.i8 X e).2⟩
theorem gu{w:World}{p q:Addr}{v:Value}(h:p≠q):(w.setCell p v).cell? q=w.cell? q:=by
 apply World.cell?_setCell_other;exact h
theorem oD(W:World)(o:Obj):Below W.heap.size W (W.alloc o):=(af5 _ _).alloc (ac2 _) _
theorem oZ.s8{w0:World}{keys:List UInt8}{nc:Nat}{o3 o4 o6:Option Nat}{W:World}(h:oZ w0 keys nc o3 o4 o6 none W):oZ w0 keys nc o3 o4 o6 (some W.heap.size) (W.alloc (.cells #[.map none,.slice none 0 0] 105)):=by
 have h2:=h.grow (oD W (.cells #[.map none,.slice none 0 0] 105));exact⟨h2.below,h2.i3,h2.i4,h2.i6,λX e=>by cases e;exact⟨h.below.size,ad7 _ _⟩⟩
theorem oZ.s6{w0:World}{keys:List UInt8}{nc:Nat}{o3 o4 o8:Option Nat}{W:World}(h:oZ w0 keys nc o3 o4 none o8 W):oZ w0 keys nc o3 o4 (some W.heap.size) o8 (W.alloc (.cells (madeCells #[.bool false] nc) 4)):=by
 have h2:=h.grow (oD W (.cells (madeCells #[.bool false] nc) 4));exact⟨h2.below,h2.i3,h2.i4,λX e=>(by cases e;exact⟨h.below.size,ad7 _ _⟩),h2.i8⟩
theorem oZ.s3{w0:World}{t:ByteArray}{nc cap:Nat}{o6 o8:Option Nat}{W:World}{fz:Nat×Nat}(h:oZ w0 t.data.toList nc none none o6 o8 W):oZ w0 t.data.toList nc (some W.heap.size) none o6 o8 (W.drew.alloc (.cells (bytesRow t cap) 5 fz)):=by
 have hb:Below W.heap.size W (W.drew.alloc (.cells (bytesRow t cap) 5 fz)):=((af5 _ W).drew).alloc (ac2 _) _;have h2:=h.grow hb;refine⟨h2.below,λG e=>?_,λb e=>(by cases e),h2.i6,h2.i8⟩;cases e;have hn:(W.drew.alloc (.cells (bytesRow t cap) 5 fz)).heap[W.heap.size]?=some (.cells (bytesRow t cap) 5 fz):=ad7 W.drew _;refine⟨h.below.size,(ac0.1 hn).1,λi hi=>?_⟩;rw[Lib.cell_of_heap hn];have hi2:i<t.data.size:=by simpa using hi
 have h3:=bytesRow_at t cap i hi2;simpa using h3
theorem oZ.s4{w0:World}{keys:List UInt8}{nc b G:Nat}{o6 o8:Option Nat}{W W':World}(h:oZ w0 keys nc (some G) none o6 o8 W)(hb:Below W.heap.size W W')(h1:W.heap.size<=b)(h2:gQ W' b (fi keys) keys.length 100):oZ w0 keys nc (some G) (some b) o6 o8 W':=by
 have h3:=h.grow hb;exact⟨h3.below,h3.i3,λc e=>(by cases e;exact⟨ae4 h.below.size h1,h2⟩),h3.i6,h3.i8⟩
theorem zV(GT GC GP nt nc np:Nat)(s:ByteArray)(w:World)(h7:nt<=7)(h4:nc<=4)(hs:s.size≠nt+1+nc) :
  Calls prog 54 #[fv GT GC GP nt nc np,.string s] w λe w'=>e=.returned (.tuple #[.agg #[.map none,.slice none 0 0],.bool false])/\Below w.heap.size w w':=by
 unfold fv
 go_enter func54,ntmps54
 go_wp2_with fail
 obtain⟨w0,hw0⟩:∃w0,(w.alloc (.cells #[.slice (some ⟨GT,0,none⟩) nt nt,.slice (some ⟨GC,0,none⟩) nc nc,.slice (some ⟨GP,0,none⟩) np np] 54)).alloc (.cells #[.map none,.slice none 0 0] 105)=w0:=⟨_,rfl⟩;have hb0:Below w.heap.size w w0:=by rw[<-hw0];exact dB _ _ _
 have hz0:w0.heap.size=w.heap.size+2:=by rw[<-hw0];simp
 have hk0:w0.cell? ⟨w.heap.size,0,none⟩=some (.slice (some ⟨GT,0,none⟩) nt nt):=by rw[<-hw0];simp[go_sem]
 have hk1:w0.cell? ⟨w.heap.size,1,none⟩=some (.slice (some ⟨GC,0,none⟩) nc nc):=by rw[<-hw0];simp[go_sem]
 have hk2:w0.cell? ⟨w.heap.size,2,none⟩=some (.slice (some ⟨GP,0,none⟩) np np):=by rw[<-hw0];simp[go_sem]
 have hr0:w0.cell? ⟨w.heap.size+1,0,none⟩=some (.map none):=by rw[<-hw0];simp[go_sem]
 have hr1:w0.cell? ⟨w.heap.size+1,1,none⟩=some (.slice none 0 0):=by rw[<-hw0];simp[go_sem]
 have hq0:w0.frozen? ⟨w.heap.size+1,0,none⟩=false:=by rw[<-hw0];simp[go_sem]
 have hq1:w0.frozen? ⟨w.heap.size+1,1,none⟩=false:=by rw[<-hw0];simp[go_sem]
 rw[hw0];clear hw0;have hS0:w0.drew.cell? ⟨w.heap.size,0,none⟩=some (.slice (some ⟨GT,0,none⟩) nt nt)/\w0.drew.cell? ⟨w.heap.size,1,none⟩=some (.slice (some ⟨GC,0,none⟩) nc nc):=⟨hk0,hk1⟩;refine ag0 (S:=λW'=>W'.cell? ⟨w.heap.size,0,none⟩=some (.slice (some ⟨GT,0,none⟩) nt nt)/\W'.cell? ⟨w.heap.size,1,none⟩=some (.slice (some ⟨GC,0,none⟩) nc nc)) rfl ?_;simp only[ad3,ac9,ae1,Nat.reduceAdd,ac7,ac6,ad5,ad9,ad8];change wpAnyH prog .any _ _ _ _ _ _ w0.drew;refine tH 0 (.pointer (some ⟨w.heap.size,0,none⟩)) (λw' hS=>?_) hS0 ?_
 ·obtain⟨s1,s2⟩:=hS;go_simp
 simp only[aC];refine tH 1 (.slice (some ⟨GT,0,none⟩) nt nt) (λw' hS=>?_) hS0 ?_
 ·obtain⟨s1,s2⟩:=hS;go_simp
 simp only[aC];refine tH 2 (.int .i64 nt) (λw' hS=>?_) hS0 ?_
 ·obtain⟨s1,s2⟩:=hS;go_simp
 simp only[aC];refine tH 3 (.pointer (some ⟨w.heap.size,1,none⟩)) (λw' hS=>?_) hS0 ?_
 ·obtain⟨s1,s2⟩:=hS;go_simp
 simp only[aC];refine tH 4 (.slice (some ⟨GC,0,none⟩) nc nc) (λw' hS=>?_) hS0 ?_
 ·obtain⟨s1,s2⟩:=hS;go_simp
 simp only[aC];refine tH 5 (.int .i64 nc) (λw' hS=>?_) hS0 ?_
 ·obtain⟨s1,s2⟩:=hS;go_simp
 simp only[aC];refine oH 6 (λK hK=>?_);go_simp;refine hK.out _ _ hS0 ?_;clear hK K;refine oH 7 (λK hK=>?_);go_simp;refine hK.out _ _ hS0 (af4 (by kernel_rfl) ?_ _);clear hK K hS0;have hne:decide ((s.size:Int)=(nt:Int)+1+(nc:Int))=false:=by simp;omega
 have hne2:¬((s.size:Int)=(nt:Int)+1+(nc:Int)):=by omega
 have hd0:w0.drew.cell? ⟨w.heap.size+1,0,none⟩=some (.map none):=hr0;have hd1:w0.drew.cell? ⟨w.heap.size+1,1,none⟩=some (.slice none 0 0):=hr1;have he0:w0.drew.frozen? ⟨w.heap.size+1,0,none⟩=false:=hq0;have he1:w0.drew.frozen? ⟨w.heap.size+1,1,none⟩=false:=hq1
 go_wp2_with fail
 obtain⟨wz,hwz⟩:∃wz,((w0.setCell ⟨w.heap.size+1,0,none⟩ (Value.map none)).setCell ⟨w.heap.size+1,1,none⟩ (Value.slice none 0 0)).drew=wz:=⟨_,rfl⟩;have z0:wz.cell? ⟨w.heap.size+1,0,none⟩=some (.map none):=by
  rw[<-hwz]
  show((w0.setCell ⟨w.heap.size+1,0,none⟩ (Value.map none)).setCell ⟨w.heap.size+1,1,none⟩ (Value.slice none 0 0)).cell? _=_
  rw[gu (by simp)];exact dJ _ hr0
 have z1:wz.cell? ⟨w.heap.size+1,1,none⟩=some (.slice none 0 0):=by
  rw[<-hwz]
  show((w0.setCell ⟨w.heap.size+1,0,none⟩ (Value.map none)).setCell ⟨w.heap.size+1,1,none⟩ (Value.slice none 0 0)).cell? _=_
  exact dJ _ ((gu (by simp)).trans hr1)
 have zb:Below w.heap.size w wz:=by
  rw[<-hwz];exact((hb0.setCell (p:=⟨w.heap.size+1,0,none⟩) (by show w.heap.size<=w.heap.size+1;omega) _).setCell (p:=⟨w.heap.size+1,1,none⟩) (by show w.heap.size<=w.heap.size+1;omega) _).drew
 rw[hwz];exact af2 (v:=.tuple #[.agg #[.map none,.slice none 0 0],.bool false]) (by simp[results,results54,go_sem,z0,z1]) rfl ⟨rfl,zb⟩
end
namespace Nx
def rws:Nat->Nat->List (List Nat)
 |_,0=>[[]]
 |m,n+1=>(List.range' 0 (m+1)).flatMap λd=>(rws (max m (d+1)) n).map (d::·)
theorem Jg:∀(n m:Nat),∀r∈rws m n,r.length=n
 |0,m,r,h=>by simp[rws]at h;simp[h]
 |n+1,m,r,h=>by
  unfold rws at h;obtain⟨d,hd,hr⟩:=ak7.1 h;obtain⟨r',hr',rfl⟩:=ae8.1 hr;simp[Jg n _ r' hr']
def nb:List Bool->Option (List Bool)
 |[]=>none
 |b::l=>match nb l with
  |some l'=>some (b::l')
  |none=>if b=false then some (true::List.replicate l.length false)else none
def Xq:Nat->List (List Bool)
 |0=>[[]]
 |n+1=>(Xq n).map (false::·)++(Xq n).map (true::·)
def tv(n k:Nat):List Bool:=(List.range n).map λi=>decide (k/2 ^ i%2=1)
theorem J6(n k:Nat):(tv n k).length=n:=by simp[tv]
theorem RZ{n:Nat}(h:n<=4):(Xq n).Perm ((List.range (2 ^ n)).map (tv n)):=by
 have h':n=0\/n=1\/n=2\/n=3\/n=4:=by omega
 rcases h' with rfl|rfl|rfl|rfl|rfl<;>decide +kernel
def sumTo{α:Type}(L:List α)(g:α->Nat)(k:Nat):Nat:=((L.take k).map g).sum
end Nx
end Go.Proofs.YthcppbmkacbbiaaGreat
