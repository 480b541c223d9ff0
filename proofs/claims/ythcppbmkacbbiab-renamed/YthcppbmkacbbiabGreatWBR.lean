import Derived.Test.YthcppbmkacbbiabGreatWBN
import Derived.Test.YthcppbmkacbbiabGreatWBD
set_option linter.unusedSimpArgs false
set_option maxHeartbeats 2000000
set_option maxRecDepth 100000
namespace Go.Proofs.YthcppbmkacbbiabGreat
open Go.Proofs.Tryz
section
open aB (Key Inv jR texts dY)
open Nx
def Og(row:List Nat):List Int:=row.map fun(d:Nat)=>(d:Int)
theorem DW(row:List Nat):∀i j,i<row.length->j<row.length->(fi row i=fi row j↔(Og row).getD i 0=(Og row).getD j 0):=by
 intro i j hi hj;rw[BA hi hj];unfold Og;rw[ag2,ag2,aj8,aj8,ad6 hi,ad6 hj];simp only[ap9,Option.getD_some];omega
def RU(f:Nat->Nat)(cs:List (Int×Nat))(ps:List Key)(cl:List Int)(hl:List Bool):Bool:=
 decide (∀p∈aO (uX f cs) cs.length,hl.getD p.1 false=hl.getD p.2 false)&&(dY cl hl ps).getD (ps.length-1) false
def rX(ts:List Key)(cs:List (Int×Nat))(ps:List Key)(row:List Nat):Nat:=
 if (∀p∈aO (mkd (fi row) ts) ts.length,fi row p.1=fi row p.2)then(List.range (2 ^ cs.length)).countP (λk=>RU (fi row) cs ps (Og row) (tv cs.length k))else 0
theorem VW{L:List (List Nat)}{g g':List Nat->Nat}(h:∀r∈L,g r=g' r)(k:Nat):sumTo L g k=sumTo L g' k:=by
 unfold sumTo;rw[List.map_congr_left (λx hx=>h x (al5 hx))]
def qR(ts:List Key)(cs:List (Int×Nat))(ps:List Key):Nat:=sumTo (rws 0 ts.length) (rX ts cs ps) (rws 0 ts.length).length
theorem U6(ts:List Key)(cs:List (Int×Nat))(ps:List Key)(h4:cs.length<=4)(row:List Nat):rX ts cs ps row<=16:=by
 unfold rX;split
 ·refine af7 List.countP_le_length ?_;rw[aq8];have h':cs.length=0\/cs.length=1\/cs.length=2\/cs.length=3\/cs.length=4:=by omega
  rcases h' with h|h|h|h|h<;>rw[h]<;>decide
 ·omega
end
section
open Go.RowKit Go.Maps Go.WideMaps
open aB (Key put dY aQ)
open Nx
attribute [local go_sem] Oper.semAt_some
structure CW(w:World)(GT GC GP nt nc np:Nat)(n:Nat)(W:World):Prop where
 f0:W.cell? ⟨w.heap.size,0,none⟩=some (.slice (some ⟨GT,0,none⟩) nt nt)
 f1:W.cell? ⟨w.heap.size,1,none⟩=some (.slice (some ⟨GC,0,none⟩) nc nc)
 f2:W.cell? ⟨w.heap.size,2,none⟩=some (.slice (some ⟨GP,0,none⟩) np np)
 c:W.cell? ⟨w.heap.size+1,0,none⟩=some (.int .i64 n)
 fr:W.frozen? ⟨w.heap.size+1,0,none⟩=false
 below:Below w.heap.size w W
 sz:w.heap.size+2<=W.heap.size
theorem CW.step{w:World}{GT GC GP nt nc np n B:Nat}{W W':World}(h:CW w GT GC GP nt nc np n W)(hb:Below B W W')(hB:w.heap.size+2<=B):CW w GT GC GP nt nc np n W':=
 ⟨(hb.cell (p:=⟨w.heap.size,0,none⟩) (by show w.heap.size<B;omega)).trans h.f0,(hb.cell (p:=⟨w.heap.size,1,none⟩) (by show w.heap.size<B;omega)).trans h.f1,(hb.cell (p:=⟨w.heap.size,2,none⟩) (by show w.heap.size<B;omega)).trans h.f2,
  (hb.cell (p:=⟨w.heap.size+1,0,none⟩) (by show w.heap.size+1<B;omega)).trans h.c,(ai1 (hb.block (w.heap.size+1) (by omega))).trans h.fr,h.below.trans (hb.mono (by omega)),af7 h.sz hb.size⟩
theorem CW.count{w:World}{GT GC GP nt nc np n:Nat}{W:World}(h:CW w GT GC GP nt nc np n W)(v:Nat):CW w GT GC GP nt nc np v (W.setCell ⟨w.heap.size+1,0,none⟩ (.int .i64 v)):=
 ⟨(ae5 (af4 _ _ _ _ (by show w.heap.size≠w.heap.size+1;omega))).trans h.f0,(ae5 (af4 _ _ _ _ (by show w.heap.size≠w.heap.size+1;omega))).trans h.f1,(ae5 (af4 _ _ _ _ (by show w.heap.size≠w.heap.size+1;omega))).trans h.f2,
  dB _ h.c,by rw[ap4];exact h.fr,h.below.setCell (by show w.heap.size<=w.heap.size+1;omega) _,by simpa[World.setCell]using h.sz⟩
def KB(C:Nat)(W0 W:World):Prop:=W0.heap.size<=W.heap.size/\∀j,j<W0.heap.size->j≠C->W.heap[j]?=W0.heap[j]?
theorem KB.refl(C:Nat)(W:World):KB C W W:=⟨ad5 _,λ_ _ _=>rfl⟩
theorem KB.below{C:Nat}{W0 W W':World}(h:KB C W0 W){B:Nat}(hB:W0.heap.size<=B)(hb:Below B W W'):KB C W0 W':=⟨af7 h.1 hb.size,λj hj hn=>(hb.block j (by omega)).trans (h.2 j hj hn)⟩
theorem KB.trans{C:Nat}{A B D:World}(h:KB C A B)(g:KB C B D):KB C A D:=⟨af7 h.1 g.1,λj hj hn=>(g.2 j (af5 hj h.1) hn).trans (h.2 j hj hn)⟩
theorem KB.set{C:Nat}{W0 W:World}(h:KB C W0 W)(v:Value):KB C W0 (W.setCell ⟨C,0,none⟩ v):=⟨by simpa[World.setCell]using h.1,λj hj hn=>(af4 _ _ _ _ (by show j≠C;exact hn)).trans (h.2 j hj hn)⟩
theorem KB.keeps{C B:Nat}{W0 W:World}(h:KB C W0 W)(hC:C<B):KeepsFrom B W0 W:=⟨h.1,λk o hk ho _=>(h.2 k (ad3.1 ho).1 (by omega)).trans ho⟩
theorem KB.ka{C m0 X:Nat}{W0 W:World}(h:KB C W0 W)(hC:C<m0)(hX:X≠C)(hl:X<W0.heap.size):KA m0 X X W0 W:=
 ⟨λk o hk ho _=>(h.2 k (ad3.1 ho).1 (by omega)).trans ho,h.2 X hl hX,h.2 X hl hX⟩
theorem dN.Ue{W:World}{b n c l:Nat}{f:Nat->Nat}{r:Loop}(h:dN W b f n c)(hl:W.heap[l]?=some (.loop r)):b≠l:=by
 rintro rfl;obtain⟨D,nn,_,⟨es,clock,h1,_⟩,_⟩:=h;rw[hl]at h1;cases h1
theorem dN.JW{W:World}{b n c C i:Nat}{f:Nat->Nat}{v:Value}(h:dN W b f n c)(hc:W.cell? ⟨C,i,none⟩=some v):b≠C:=by
 rintro rfl;obtain⟨D,nn,_,⟨es,clock,h1,_⟩,_⟩:=h;obtain⟨o,ho,hq⟩:=aq6 hc;rw[show W.heap[b]?=_ from h1]at ho;cases ho;cases hq
theorem wY(GT GC GP:Nat)(ts:List Key)(cs:List (Int×Nat))(ps:List Key)(w:World)(h0:0<ts.length)(h7:ts.length<=7)(h4:cs.length<=4)(h1:0<ps.length)(h100:ps.length<=100)
 (hrt:bQ w GT ts)(hrc:eF w GC cs)(hrp:bQ w GP ps)(hit:aB.Inv ts)(hic:∀x∈cs,(x.1=80\/x.1=81)/\x.2<ts.length)(kR:aQ ts.length cs.length ps) :
  Calls prog 23 #[fv GT GC GP ts.length cs.length ps.length] w λe w'=>e=.returned (.int .i64 (qR ts cs ps))/\Below w.heap.size w w':=by
 refine(ag4 (n:=7)).1 ?_;unfold fv;refine ai6 func23 rfl trivial ?_ rfl;simp only[ntmps23,ae2,ae1,ae8,Nat.reduceAdd,Nat.reduceSub,ae0,ad9,ae4,ag1,ae7,ae6]
 gi_wp2
 refine⟨trivial,(ag4.2 (zK ts.length _)).mono ?_⟩;rintro e wx ⟨rfl,rfl⟩
 gi_wp2
 obtain⟨wb,hwb⟩:∃wb,((w.alloc (.cells #[.slice (some ⟨GT,0,none⟩) ts.length ts.length,.slice (some ⟨GC,0,none⟩) cs.length cs.length,.slice (some ⟨GP,0,none⟩) ps.length ps.length] 46)).alloc (.cells #[.int .i64 0] 3)).alloc (.cells #[.int .i64 ts.length] 3)=wb:=⟨_,rfl⟩;rw[hwb];have hsb:wb.heap.size=w.heap.size+3:=by rw[<-hwb];simp
 have hgb:w.grownBy wb none:=by rw[<-hwb];exact((ad4 _ _ none).trans (ad4 _ _ none)).trans (ad4 _ _ none)
 have hbb:Below w.heap.size w wb:=⟨hgb.os,hgb.tape,hgb.output,hgb.size,λj hj=>hgb.block j hj (by simp)⟩;have hCW:CW w GT GC GP ts.length cs.length ps.length 0 wb:=⟨by rw[<-hwb];simp[go_sem],by rw[<-hwb];simp[go_sem],by rw[<-hwb];simp[go_sem],by rw[<-hwb];simp[go_sem],by rw[<-hwb];simp[go_sem],hbb,by omega⟩;have hX1:wb.cell? ⟨w.heap.size+1+1,0,none⟩=some (.int .i64 ts.length):=by rw[<-hwb];simp[go_sem]
 have hseq:=zL 6 (by omega) (w.heap.size+1+1) wb.heap.size ts.length wb (ad5 _) h0 h7 hX1;have HIT:=aj hit;have HIC:=aj hic;have HIP:=aj kR;have HRT:=aj hrt;have HRC:=aj hrc;have HRP:=aj hrp;have aaF:w.heap.size+3<=wb.heap.size:=by omega
 have hab:X5 wb.heap.size (fun(k:Nat) W=>CW w GT GC GP ts.length cs.length ps.length (sumTo (rws 0 ts.length) (rX ts cs ps) k) W):=λk A C h hs hb=>h.step hb (by omega);have hw0:CW w GT GC GP ts.length cs.length ps.length (sumTo (rws 0 ts.length) (rX ts cs ps) 0) wb:=by rw[GK];exact hCW
 have hlow:wb.heap.size<=w.heap.size+3:=by omega
 clear hwb hsb hgb hbb hCW hX1 hit hic kR hrt hrc hrp;refine ru rfl (by omega) rfl trivial (λ_ _=>by simp[go_sem]) hseq KA.trans ?_ (ag6 _ _) ?_ _ hab hw0
  (λk a' W=>∃E b row,a'={tmps:=#[.agg #[.slice (some ⟨GT,0,none⟩) ts.length ts.length,.slice (some ⟨GC,0,none⟩) cs.length cs.length,.slice (some ⟨GP,0,none⟩) ps.length ps.length],.pointer (some ⟨w.heap.size,0,none⟩),.int .i64 0,.pointer (some ⟨w.heap.size+1,0,none⟩),.pointer (some ⟨E,0,none⟩),undef,undef,.pointer (some ⟨w.heap.size,0,none⟩),.slice (some ⟨GT,0,none⟩) ts.length ts.length,.int .i64 ts.length,.func (.func 87) #[] #[.pointer (some ⟨w.heap.size+1+1,0,none⟩)],.map (some b),undef,undef,undef,undef,undef,undef,undef,undef,undef,undef,undef,undef,undef,undef,undef,undef,undef,undef,undef,undef,undef,undef,undef],defers:=[]}/\W.cell? ⟨E,0,none⟩=some (.map (some b))/\wb.heap.size<=E/\dN W b (fi row) ts.length 100/\(rws 0 ts.length)[k]?=some row) ?ax ?assign ?body ?done
 ·intro W l o o' hlw ho hc hwk;refine⟨λj x hj hx hxc=>(af0 (λe=>?_)).trans hx,af0 (by omega),af0 (by omega)⟩;subst e;rw[ho]at hx;cases hx;rcases hxc with h|h
  ·rw[hc]at h;cases h
  ·rw[hwk]at h;cases h
 ·rintro k xs W ⟨b,row,rfl,_⟩;simp
 case ax=>
  rintro k a' W l r r' hl hr ⟨E,b,row,h1,h2,h3,h4,h5⟩;exact⟨E,b,row,h1,aZ h2 (ak4 _ l _) (λq e=>by cases e;exact⟨_,hr,rfl⟩),h3,h4.kept (af0 (h4.Ue hr)),h5⟩
 case assign=>
  rintro l k xs W K hk hsW ⟨b,row,rfl,hrow,hcm⟩ hI hK;have hga:W.grownBy (W.alloc (.cells #[.map (some b)] 53)) none:=ad4 _ _ none;have hK2:=hK {tmps:=#[.agg #[.slice (some ⟨GT,0,none⟩) ts.length ts.length,.slice (some ⟨GC,0,none⟩) cs.length cs.length,.slice (some ⟨GP,0,none⟩) ps.length ps.length],.pointer (some ⟨w.heap.size,0,none⟩),.int .i64 0,.pointer (some ⟨w.heap.size+1,0,none⟩),.pointer (some ⟨W.heap.size,0,none⟩),undef,undef,.pointer (some ⟨w.heap.size,0,none⟩),.slice (some ⟨GT,0,none⟩) ts.length ts.length,.int .i64 ts.length,.func (.func 87) #[] #[.pointer (some ⟨w.heap.size+1+1,0,none⟩)],.map (some b),undef,undef,undef,undef,undef,undef,undef,undef,undef,undef,undef,undef,undef,undef,undef,undef,undef,undef,undef,undef,undef,undef,undef],defers:=[]} (W.alloc (.cells #[.map (some b)] 53)) ⟨by simp,λj o hj ho _=>(ae3 _ _ _ (ad3.1 ho).1).trans ho⟩
   ⟨λj o hj ho _=>(ae3 _ _ _ (ad3.1 ho).1).trans ho,ae3 _ _ _ (by omega),ae3 _ _ _ (by omega)⟩
   (hI.step ((ag6 _ W).alloc (ad5 _) _) (by have:=hI.sz;omega)) ⟨W.heap.size,b,row,rfl,by simp[go_sem],hsW,hcm.kept (ae3 _ _ _ hcm.lt),hrow⟩
  clear hK
  gi_wp2
  exact hK2
 case body=>
  rintro l k a' W hk hl ⟨r,hr⟩ hI ⟨E,b,row,rfl,hE,hEl,hcm,hrow⟩;have hgk:(rws 0 ts.length)[k]=row:=by rw[ad6 hk]at hrow;exact ak1 hrow
  have hrl:row.length=ts.length:=sU _ _ row (List.mem_of_getElem? hrow);have hsum:=xX (rws 0 ts.length) (rX ts cs ps) hk;rw[hgk]at hsum;have hle:=sumTo_le (rws 0 ts.length) (rX ts cs ps) (U6 ts cs ps h4) k;have hkf:k<=1000:=by have:=TD h7;omega
  have HF:Hid (∀i,i<ts.length->fi row i<=i/\fi row (fi row i)=fi row i):=λi hi=>⟨Bz row i (by omega),F6 row i (by omega)⟩;have HCL:Hid (∀i j,i<ts.length->j<ts.length->(fi row i=fi row j↔(Og row).getD i 0=(Og row).getD j 0)):=λi j h1 h2=>DW row i j (by omega) (by omega);obtain⟨nn,hnn⟩:∃nn,sumTo (rws 0 ts.length) (rX ts cs ps) k=nn:=⟨_,rfl⟩;rw[hnn]at hI hsum hle;have kS:=lI GT GC GP cs.length ps.length b 100 (fi row) ts W h7 ((ah HRT).below hI.below (ah HRT).1) (ah HIT) (λi h=>Nat.lt_of_le_of_lt ((ah HF) i h).1 h) (gG.of hcm (ah HF));unfold fv at kS;obtain⟨cb,hcb⟩:∃cb,decide (∀p∈aO (mkd (fi row) ts) ts.length,fi row p.1=fi row p.2)=cb:=⟨_,rfl⟩;rw[hcb]at kS;have hone:rX ts cs ps row=if cb=true then(List.range (2 ^ cs.length)).countP (λk=>RU (fi row) cs ps (Og row) (tv cs.length k))else 0:=by
   unfold rX;rw[<-hcb];by_cases hq:∀p∈aO (mkd (fi row) ts) ts.length,fi row p.1=fi row p.2
   ·rw[af6 hq,af6 (by simpa using hq)]
   ·rw[af2 hq,af2 (by simpa using hq)]
  have hsz:=hI.sz;have hlE:E<W.heap.size:=ad7 W _ hE;have hll:l<W.heap.size:=(ad3.1 hr).1;have hx0:=hI.f0;have hx1:=hI.f1;have hx2:=hI.f2;have HS:=aj hsum;have HO:=aj hone;have HIW:=aj hI;have eX:=aj hrow;have HRL:=aj hrl;clear hgk hsum hone hcb hnn hrow hI hrl;cases cb
  ·gi_wp2
   refine⟨trivial,al4 l (ag4.2 (kS.mono ?_))⟩;rintro e w2 ⟨rfl,hb2⟩;have hkb:KB (w.heap.size+1) W w2:=(KB.refl _ W).below (ad5 _) hb2;have hIe:=(ah HIW).step hb2 (by omega);have hs:sumTo (rws 0 ts.length) (rX ts cs ps) (k+1)=nn:=(by rw[ah HS,ah HO];simp);clear kS
   gi_wp2
   rw[hs];exact⟨hkb.keeps (by omega),hkb.ka (by omega) (by omega) (by omega),hIe⟩
  ·gi_wp2
   refine⟨trivial,al4 l (ag4.2 (kS.mono ?_))⟩;rintro e w2 ⟨rfl,hb2⟩;have hkb:KB (w.heap.size+1) W w2:=(KB.refl _ W).below (ad5 _) hb2;have hIe:=(ah HIW).step hb2 (by omega);have hy1:=hIe.f1;clear kS
   gi_wp2
   refine⟨trivial,al4 l (ag4.2 ((Ar cs.length _).mono ?_))⟩;rintro e wx ⟨rfl,rfl⟩
   gi_wp2
   obtain⟨wn,hwn⟩:∃wn,w2.alloc (.cells #[.int .i64 cs.length] 3)=wn:=⟨_,rfl⟩;rw[hwn];have hbn:Below w2.heap.size w2 wn:=(by rw[<-hwn];exact(ag6 _ _).alloc (ad5 _) _);have hX2:wn.cell? ⟨w2.heap.size,0,none⟩=some (.int .i64 cs.length):=(by rw[<-hwn];simp[go_sem]);have hsn:w2.heap.size<wn.heap.size:=(by rw[<-hwn];simp);have hs2:W.heap.size<=w2.heap.size:=hb2.size;have hkn:KB (w.heap.size+1) W wn:=hkb.below (B:=w2.heap.size) (by omega) hbn;have hIn:CW w GT GC GP ts.length cs.length ps.length nn wn:=hIe.step hbn (by omega);have hln:wn.heap[l]?=some (.loop r):=(hkn.2 l hll (by omega)).trans hr;have hcx:=(ah HIW).c;have Xb:dN wn b (fi row) ts.length 100:=hcm.kept (hkn.2 b hcm.lt (hcm.JW hcx));have hEn:wn.cell? ⟨E,0,none⟩=some (.map (some b)):=(ae5 (hkn.2 E hlE (by omega))).trans hE;have Vx:zT (Fence.wide.inRound l) 4 prog 90 #[.pointer (some ⟨w2.heap.size,0,none⟩)] (2 ^ cs.length) (TX cs.length) (KA wn.heap.size w2.heap.size w2.heap.size) wn:=Au 4 (by omega) w2.heap.size wn.heap.size cs.length wn h4 hX2;obtain⟨g,hg⟩:∃g:Nat->Bool,(λk=>RU (fi row) cs ps (Og row) (tv cs.length k))=g:=⟨_,rfl⟩;rw[hg]at HO;have HG:=aj hg;have aaY:b<wn.heap.size:=Xb.lt;have hbc:b≠w.heap.size+1:=hcm.JW hcx;have hEw:E<wn.heap.size:=(by omega);have Zv:X5 wn.heap.size (fun(j:Nat) V=>CW w GT GC GP ts.length cs.length ps.length (nn+(List.range j).countP g) V/\KB (w.heap.size+1) wn V):=λj A C h hs hb=>⟨h.1.step hb (by omega),h.2.below (ad5 _) hb⟩;have HCM:=aj Xb;have HEN:=aj hEn;have HKN:=aj hkn;clear hwn hX2 hkb hIe hy1 hbn hg Xb hEn hcm hE hx0 hx1 hx2 hkn hr;refine qN (l0:=l) rfl hln (by omega) rfl trivial (λ_ _=>by simp[go_sem]) Vx KA.trans ?_ (ag6 _ _) ?_ _ Zv ⟨by simpa using hIn,KB.refl _ _⟩
    (λj a' V=>∃H,a'={tmps:=#[.agg #[.slice (some ⟨GT,0,none⟩) ts.length ts.length,.slice (some ⟨GC,0,none⟩) cs.length cs.length,.slice (some ⟨GP,0,none⟩) ps.length ps.length],.pointer (some ⟨w.heap.size,0,none⟩),.int .i64 0,.pointer (some ⟨w.heap.size+1,0,none⟩),.pointer (some ⟨E,0,none⟩),.slice (some ⟨H,0,none⟩) cs.length cs.length,undef,.pointer (some ⟨w.heap.size,0,none⟩),.slice (some ⟨GT,0,none⟩) ts.length ts.length,.int .i64 ts.length,.func (.func 87) #[] #[.pointer (some ⟨w.heap.size+1+1,0,none⟩)],.map (some b),.agg #[.slice (some ⟨GT,0,none⟩) ts.length ts.length,.slice (some ⟨GC,0,none⟩) cs.length cs.length,.slice (some ⟨GP,0,none⟩) ps.length ps.length],.map (some b),.bool true,.bool false,.pointer (some ⟨w.heap.size,1,none⟩),.slice (some ⟨GC,0,none⟩) cs.length cs.length,.int .i64 cs.length,.func (.func 90) #[] #[.pointer (some ⟨w2.heap.size,0,none⟩)],.slice (some ⟨H,0,none⟩) cs.length cs.length,undef,undef,undef,undef,undef,undef,undef,undef,undef,undef,undef,undef,undef,undef],defers:=[]}/\bY V H (tv cs.length j)/\j<2 ^ cs.length) ?ax2 ?assign2 ?body2 ?done2
   ·intro V l o o' hlw ho hc hwk;refine⟨λj x hj hx hxc=>(af0 (λe=>?_)).trans hx,af0 (by omega),af0 (by omega)⟩;subst e;rw[ho]at hx;cases hx;rcases hxc with h|h
    ·rw[hc]at h;cases h
    ·rw[hwk]at h;cases h
   ·rintro k xs V ⟨H,rfl,_⟩;simp
   case ax2=>
    rintro j a' V l r r' hl hr ⟨H,q1,q2,q3⟩;refine⟨H,q1,⟨by simpa[World.putObj]using q2.1,λi hi=>aZ (q2.2 i hi) (ak4 _ l _) (λq e=>by cases e;exact⟨_,hr,rfl⟩)⟩,q3⟩
   case assign2=>
    rintro l2 j xs V K hj hsV ⟨H,rfl,hH⟩ hJ hK;have hK2:=hK {tmps:=#[.agg #[.slice (some ⟨GT,0,none⟩) ts.length ts.length,.slice (some ⟨GC,0,none⟩) cs.length cs.length,.slice (some ⟨GP,0,none⟩) ps.length ps.length],.pointer (some ⟨w.heap.size,0,none⟩),.int .i64 0,.pointer (some ⟨w.heap.size+1,0,none⟩),.pointer (some ⟨E,0,none⟩),.slice (some ⟨H,0,none⟩) cs.length cs.length,undef,.pointer (some ⟨w.heap.size,0,none⟩),.slice (some ⟨GT,0,none⟩) ts.length ts.length,.int .i64 ts.length,.func (.func 87) #[] #[.pointer (some ⟨w.heap.size+1+1,0,none⟩)],.map (some b),.agg #[.slice (some ⟨GT,0,none⟩) ts.length ts.length,.slice (some ⟨GC,0,none⟩) cs.length cs.length,.slice (some ⟨GP,0,none⟩) ps.length ps.length],.map (some b),.bool true,.bool false,.pointer (some ⟨w.heap.size,1,none⟩),.slice (some ⟨GC,0,none⟩) cs.length cs.length,.int .i64 cs.length,.func (.func 90) #[] #[.pointer (some ⟨w2.heap.size,0,none⟩)],.slice (some ⟨H,0,none⟩) cs.length cs.length,undef,undef,undef,undef,undef,undef,undef,undef,undef,undef,undef,undef,undef,undef],defers:=[]} V ⟨ad5 _,λj o hj ho _=>ho⟩ ⟨λj o hj ho _=>ho,rfl,rfl⟩ hJ ⟨H,rfl,hH,hj⟩;clear hK
    gi_wp2
    exact hK2
   case body2=>
    rintro l2 j a' V hj hl2 ⟨r2,hr2⟩ ⟨hJ,hKB⟩ ⟨H,rfl,hH,hj2⟩;have hVE:V.cell? ⟨E,0,none⟩=some (.map (some b)):=(ae5 (hKB.2 E hEw (by omega))).trans (ah HEN);have hVM:dN V b (fi row) ts.length 100:=(ah HCM).kept (hKB.2 b aaY hbc);have Qd:=hJ.sz;have hsV:wn.heap.size<=V.heap.size:=hKB.1;have hA:Hid (∀V':World,Below V.heap.size V V'->Calls prog 34 #[.agg #[.slice (some ⟨GT,0,none⟩) ts.length ts.length,.slice (some ⟨GC,0,none⟩) cs.length cs.length,.slice (some ⟨GP,0,none⟩) ps.length ps.length],.agg #[.map (some b),.slice (some ⟨H,0,none⟩) cs.length cs.length]] V' λe w'=>e=.returned (.bool (decide (∀p∈aO (uX (fi row) cs) cs.length,(tv cs.length j).getD p.1 false=(tv cs.length j).getD p.2 false)))/\Below V'.heap.size V' w'):=λV' h=>by
     have q:=zS GT GC GP ts.length ps.length b 100 H (fi row) cs (tv cs.length j) V' h4 h7 (dX _ _) ((ah HRC).below (hJ.below.trans (h.mono (by omega))) (ah HRC).1) (ah HIC) (ah HF) (hVM.kept (h.block b hVM.lt)) (hH.same (h.block H hH.1));unfold fv sv at q;rw[dX]at q;exact q
    have hB:Hid (∀V':World,Below V.heap.size V V'->Calls prog 35 #[.agg #[.slice (some ⟨GT,0,none⟩) ts.length ts.length,.slice (some ⟨GC,0,none⟩) cs.length cs.length,.slice (some ⟨GP,0,none⟩) ps.length ps.length],.agg #[.map (some b),.slice (some ⟨H,0,none⟩) cs.length cs.length]] V' λe w'=>e=.returned (.bool ((dY (Og row) (tv cs.length j) ps).getD (ps.length-1) false))/\Below V'.heap.size V' w'):=λV' h=>by
     have q:=yP GT GC GP ts.length cs.length b 100 H (fi row) ps (Og row) (tv cs.length j) V' h1 h100 h7 ((ah HRP).below (hJ.below.trans (h.mono (by omega))) (ah HRP).1) (by rw[dX];exact ah HIP) (ah HF) (ah HCL) (hVM.kept (h.block b hVM.lt)) (hH.same (h.block H hH.1));unfold fv sv at q;rw[dX]at q;exact q
    have hgj:g j=(decide (∀p∈aO (uX (fi row) cs) cs.length,(tv cs.length j).getD p.1 false=(tv cs.length j).getD p.2 false)&&(dY (Og row) (tv cs.length j) ps).getD (ps.length-1) false):=(by rw[<-ah HG];rfl);generalize decide (∀p∈aO (uX (fi row) cs) cs.length,(tv cs.length j).getD p.1 false=(tv cs.length j).getD p.2 false)=a1 at hA hgj;generalize (dY (Og row) (tv cs.length j) ps).getD (ps.length-1) false=a2 at hB hgj;have hcs:(List.range (j+1)).countP g=(List.range j).countP g+(if g j=true then 1 else 0):=by
     rw[aq0,List.countP_append];simp[ap5]
    have hle2:(List.range j).countP g<=j:=by
     have:=List.countP_le_length (p:=g) (l:=List.range j)
     rwa [aq8]at this
    have hp16:2 ^ cs.length<=16:=by
     have h':cs.length=0\/cs.length=1\/cs.length=2\/cs.length=3\/cs.length=4:=(by omega);rcases h' with h|h|h|h|h<;>rw[h]<;>decide
    generalize (List.range j).countP g=m0 at hJ hcs hle2;have hm0:m0<=16:=(by omega);obtain⟨V1,hV1⟩:∃V1,V.alloc (.cells #[.map (some b),.slice (some ⟨H,0,none⟩) cs.length cs.length] 56)=V1:=⟨_,rfl⟩;have hbv:Below V.heap.size V V1:=(by rw[<-hV1];exact(ag6 _ _).alloc (ad5 _) _);have hJ1:CW w GT GC GP ts.length cs.length ps.length (nn+m0) V1:=hJ.step hbv (by omega);have y0:V1.cell? ⟨V.heap.size,0,none⟩=some (.map (some b)):=(by rw[<-hV1];simp[go_sem]);have y1:V1.cell? ⟨V.heap.size,1,none⟩=some (.slice (some ⟨H,0,none⟩) cs.length cs.length):=(by rw[<-hV1];simp[go_sem]);have hs1:V.heap.size<V1.heap.size:=(by rw[<-hV1];simp);have HV1:=aj hV1;have HGJ:=aj hgj;have HCS:=aj hcs;have HJ:=aj hJ;have HJ1:=aj hJ1;have HKB:=aj hKB;have z0:=hJ1.f0;have z1:=hJ1.f1;have z2:=hJ1.f2;rw[<-hV1]at z0 z1 z2;clear hV1 hgj hcs hJ hJ1 hVM hKB hseq hab hw0 Vx Zv hIn hH hp16 hle2
    gi_wp2
    rw[ah HV1];refine⟨trivial,al4 l2 (al4 l (ag4.2 ((ah hA _ hbv).mono ?_)))⟩;rintro e w3 ⟨rfl,hb3⟩;have hb13:Below V.heap.size V w3:=hbv.trans (hb3.mono (by omega));have hJ3:=(ah HJ1).step hb3 (by have:=(ah HJ1).sz;omega);have y03:=(hb3.cell (p:=⟨V.heap.size,0,none⟩) hs1).trans y0;have y13:=(hb3.cell (p:=⟨V.heap.size,1,none⟩) hs1).trans y1;have hs3:V1.heap.size<=w3.heap.size:=hb3.size;have z0:=hJ3.f0;have z1:=hJ3.f1;have z2:=hJ3.f2;have HJ3:=aj hJ3;clear hJ3;have WU:KB (w.heap.size+1) V w3:=(KB.refl _ V).below (ad5 _) hb13;cases a1
    ·gi_wp2
     refine⟨trivial,?_⟩
     gi_wp2
     have hs:nn+(List.range (j+1)).countP g=nn+m0:=(by rw[ah HCS,ah HGJ];simp);refine⟨WU.keeps (by omega),WU.ka (by omega) (by omega) (by omega),?_,(ah HKB).trans WU⟩;rw[hs];exact ah HJ3
    ·gi_wp2
     refine⟨trivial,al4 l2 (al4 l (ag4.2 ((ah hB _ hb13).mono ?_)))⟩;rintro e w4 ⟨rfl,hb4⟩;have hb14:Below V.heap.size V w4:=hb13.trans (hb4.mono (by omega));have hJ4:=(ah HJ3).step hb4 (by have:=(ah HJ3).sz;omega);have Ut:KB (w.heap.size+1) V w4:=(KB.refl _ V).below (ad5 _) hb14;have hc4:=hJ4.c;have hf4:=hJ4.fr;have HJ4:=aj hJ4;clear hJ4;cases a2
     ·gi_wp2
      have hs:nn+(List.range (j+1)).countP g=nn+m0:=(by rw[ah HCS,ah HGJ];simp);refine⟨Ut.keeps (by omega),Ut.ka (by omega) (by omega) (by omega),?_,(ah HKB).trans Ut⟩;rw[hs];exact ah HJ4
     ·have hcast:(((nn+m0:Nat):Int)+1)=((nn+m0+1:Nat):Int):=(by omega);have HCA:=aj hcast;clear hcast;have hnm:nn+m0<=20000:=(by omega);generalize hN:nn+m0=N0 at hc4 hnm HCA;have HN:=aj hN;clear hN
      gi_wp2
      have hs:nn+(List.range (j+1)).countP g=N0+1:=(by rw[ah HCS,ah HGJ];have:=ah HN;simp;omega);have WT:=Ut.set (.int .i64 ((N0:Int)+1));refine⟨WT.keeps (by omega),WT.ka (by omega) (by omega) (by omega),?_,(ah HKB).trans WT⟩;rw[hs,ah HCA];exact(ah HJ4).count (N0+1)
   case done2=>
    rintro V hsV ⟨hJ,hKB⟩;have hs:sumTo (rws 0 ts.length) (rX ts cs ps) (k+1)=nn+(List.range (2 ^ cs.length)).countP g:=by rw[ah HS,ah HO];simp
    gi_wp2
    rw[hs];have hkk:=(ah HKN).trans hKB;exact⟨hkk.keeps (by omega),hkk.ka (by omega) (by omega) (by omega),hJ⟩
 case done=>
  intro D W hD hI hdef;have hx:=hI.c
  gi_wp2
  refine⟨by simp,.inl ⟨_,_,rfl,aj6 hdef,?_⟩⟩;refine⟨_,am8 rfl _ _ _,rfl,hI.below.trans ?_⟩;exact jh (by omega)
end
open Go.RowKit Go.Maps Go.WideMaps
open aB (Key put St aQ dY)
theorem NM(w:World)(s:ByteArray)(hm:s.size<=maxLen)(hE:(chk s).1≠0) :
  Calls prog 16 #[.string s] w λe w'=>e=.returned (.tuple #[.int .i64 0,.int .i64 (chk s).1])/\Below w.heap.size w w':=by
 have HR:=aj (λw=>EK w s hm);generalize chk s=c at HR hE;have hb:(c.1 != 0)=true:=by simpa using hE
 go_enter func16,ntmps16
 go_wp2_with fail
 refine((ah HR) _).mono ?_;rintro e w1 ⟨⟨p0,n0,c0,p1,n1,c1,p2,n2,c2,rfl⟩,h1⟩
 go_wp2_with fail
 go_ret2
 exact⟨rfl,h1.alloc h1.size _⟩
theorem Rn(w:World)(s:ByteArray)(hs:s.size<=100)(ts:List Key)(cs:List (Int×Nat))(ps:List Key)(mm:Nat)(HR:aB.gI (pk s) (s.size+1) 0 0 [] [] []=.ok (s.size,ts,cs,ps,mm))(h0:0<ts.length)(h7:ts.length<=7)(h4:cs.length<=4)(hi:aB.Inv ts)(hic:aB.jR ts cs)
 (hnd:cs.Nodup)(kR:aB.aQ ts.length cs.length ps)(hp0:0<ps.length)(hp:ps.length<=100)(Qn:∀x∈cs,(x.1=80\/x.1=81)/\x.2<ts.length) :
  Calls prog 16 #[.string s] w λe w'=>e=.returned (.tuple #[.int .i64 (qR ts cs ps),.int .i64 0])/\Below w.heap.size w w':=by
 have HO:=aj (mZ w s hs ts cs ps mm HR h7 h4 hi hic hnd kR hp);have HM:=aj (fun(GT GC GP:Nat) (W:World) r1 r2 r3=>wY GT GC GP ts cs ps W h0 h7 h4 hp0 hp r1 r2 r3 hi Qn kR);generalize qR ts cs ps=N at HM ⊢;clear hi hic HR kR Qn hnd;unfold fv at HO HM
 go_enter func16,ntmps16
 go_wp2_with fail
 refine(ah HO).mono ?_;rintro e w1 ⟨GT,GC,GP,rfl,h1,hfr⟩;have hT1:=qm hfr.t;have hC1:=Ci hfr.c;have hP1:=qm hfr.p;have M1:=aj hT1;have M2:=aj hC1;have M3:=aj hP1;clear hT1 hC1 hP1 HO hfr
 go_wp2_with fail
 obtain⟨w2,hw2⟩:∃w2,w1.alloc (.cells #[.slice (some ⟨GT,0,none⟩) ts.length ts.length,.slice (some ⟨GC,0,none⟩) cs.length cs.length,.slice (some ⟨GP,0,none⟩) ps.length ps.length] 46)=w2:=⟨_,rfl⟩;have hbn:Below w1.heap.size w1 w2:=by rw[<-hw2];exact(ag6 w1.heap.size w1).alloc (ad5 _) _
 rw[hw2];have hb2:Below w.heap.size w w2:=h1.trans (hbn.mono h1.size);clear hw2;refine(ah HM GT GC GP w2 ((ah M1).same (hbn.block _ (ah M1).1)) ((ah M2).same (hbn.block _ (ah M2).1)) ((ah M3).same (hbn.block _ (ah M3).1))).mono ?_;rintro e w3 ⟨rfl,h3⟩;have hb3:Below w.heap.size w w3:=hb2.trans (h3.mono hb2.size)
 go_wp2_with fail
 go_ret2
 exact⟨rfl,hb3⟩
end Go.Proofs.YthcppbmkacbbiabGreat
