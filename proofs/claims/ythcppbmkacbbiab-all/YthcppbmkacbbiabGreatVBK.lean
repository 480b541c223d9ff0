import Derived.Test.YthcppbmkacbbiabGreatVBI
import Derived.Test.YthcppbmkacbbiabGreatVBA
set_option linter.unusedSimpArgs false
set_option maxHeartbeats 2000000
set_option maxRecDepth 100000
namespace Go.Proofs.YthcppbmkacbbiabGreat
open Go.Proofs.Tryz
section
open au (Key Inv kD texts gV)
open Nx
def xU(row:List Nat):List Int:=row.map fun(d:Nat)=>(d:Int)
theorem Iz(row:List Nat):∀i j,i<row.length->j<row.length->(fi row i=fi row j↔(xU row).getD i 0=(xU row).getD j 0):=by
 intro i j hi hj;rw[Gt hi hj];unfold xU;rw[ao0,ao0,as1,as1,an3 hi,an3 hj];simp only[ay9,Option.getD_some];omega
def aa8(f:Nat->Nat)(cs:Ah)(ps:Ai)(cl:List Int)(hl:List Bool):Bool:=
 decide (∀p∈bI (BA f cs) cs.length,hl.getD p.1 false=hl.getD p.2 false)&&(gV cl hl ps).getD (ps.length-1) false
def A8(Y:Ai)(cs:Ah)(ps:Ai)(row:List Nat):Nat:=
 if (∀p∈bI (mkd (fi row) Y) Y.length,fi row p.1=fi row p.2)then(List.range (2 ^ cs.length)).countP (λk=>aa8 (fi row) cs ps (xU row) (tv cs.length k))else 0
def AZ(s:ByteArray)(T C:List (List UInt8))(row:List Nat):Nat:=(sZ C.length).countP λhl=>snd T C (xU row) hl&&Ou s (xU row) hl
theorem agI(s:ByteArray)(Y:Ai)(cs:Ah)(ps:Ai)(hR:au.lG (pk s) (s.size+1) 0 0 [] [] []=.ok (s.size,Y,cs,ps,ps.length-1))(h4:cs.length<=4)(hi:Inv Y)(Bd:kD Y cs)(row:List Nat)(aS:row.length=Y.length) :
  AZ s (texts Y) (ctx Y cs) row=A8 Y cs ps row:=by
 have ad3:(ctx Y cs).length=cs.length:=by simp[ctx]
 have iy:∀i j,i<Y.length->j<Y.length->(fi row i=fi row j↔(xU row).getD i 0=(xU row).getD j 0):=λi j I M=>Iz row i j O O;have e:(λhl=>snd (texts Y) (ctx Y cs) (xU row) hl&&Ou s (xU row) hl)=λhl=>(decide (∀p∈bI (mkd (fi row) Y) Y.length,fi row p.1=fi row p.2)&&aa8 (fi row) cs ps (xU row) hl):=by
  funext hl;rw[QO hi Bd iy,QD s (xU row) hl Y cs ps _ hR,Bool.and_assoc];rfl
 unfold AZ A8;rw[e,ad3,abG h4];by_cases h:∀p∈bI (mkd (fi row) Y) Y.length,fi row p.1=fi row p.2
 ·rw[ao4 h];simp only[ay5 h,Bool.true_and]
 ·rw[an8 h];simp only[ax4 h,Bool.false_and];exact List.countP_eq_zero.2 (λ_ _ h=>by cases h)
theorem agy{L:List (List Nat)}{g g':List Nat->Nat}(h:∀r∈L,g r=g' r)(k:Nat):sumTo L g k=sumTo L g' k:=by
 unfold sumTo;rw[List.map_congr_left (λx hx=>h x (au8 hx))]
def Uh(Y:Ai)(cs:Ah)(ps:Ai):Nat:=sumTo (rws 0 Y.length) (A8 Y cs ps) (rws 0 Y.length).length
def aaX(s:ByteArray)(T C:List (List UInt8)):Nat:=sumTo (rws 0 T.length) (AZ s T C) (rws 0 T.length).length
theorem all_eq(s:ByteArray)(Y:Ai)(cs:Ah)(ps:Ai)(hR:au.lG (pk s) (s.size+1) 0 0 [] [] []=.ok (s.size,Y,cs,ps,ps.length-1))(h4:cs.length<=4)(hi:Inv Y)(Bd:kD Y cs) :
  aaX s (texts Y) (ctx Y cs)=Uh Y cs ps:=by
 unfold aaX Uh;rw[au.aO];exact agy (λr hr=>agI s Y cs ps hR h4 hi Bd r (vO _ _ r hr)) _
theorem afD(Y:Ai)(cs:Ah)(ps:Ai)(h4:cs.length<=4)(row:List Nat):A8 Y cs ps row<=16:=by
 unfold A8;split
 ·refine ap3 List.countP_le_length ?_;rw[aB5];have h':cs.length=0\/cs.length=1\/cs.length=2\/cs.length=3\/cs.length=4:=O
  obtain h|h|h|h|h:=h'<;>rw[h]<;>decide
 ·omega
theorem afy(s:ByteArray)(T C:List (List UInt8))(h4:C.length<=4)(row:List Nat):AZ s T C row<=16:=by
 unfold AZ;refine ap3 List.countP_le_length ?_;rw[rY];have h':C.length=0\/C.length=1\/C.length=2\/C.length=3\/C.length=4:=O
 obtain h|h|h|h|h:=h'<;>rw[h]<;>decide
end
section
open Go.RowKit Go.Maps Go.WideMaps
open au (Key put gV bJ)
open Nx
attribute [local go_sem] Oper.semAt_some
structure CW(w:World)(GT GC GP nt nc np:Nat)(n:Nat)(W:World):Prop where
 f0:W.cell? (J w.heap.size 0)=some (Ac GT 0 nt nt)
 f1:W.cell? (J w.heap.size 1)=some (Ac GC 0 nc nc)
 f2:W.cell? (J w.heap.size 2)=some (Ac GP 0 np np)
 c:W.cell? (J (w.heap.size+1) 0)=some (A n)
 fr:W.frozen? (J (w.heap.size+1) 0)=false
 below:Below w.heap.size w W
 sz:w.heap.size+2<=W.heap.size
theorem CW.step{w:World}{GT GC GP nt nc np n B:Nat}{W W':World}(h:CW w GT GC GP nt nc np n W)(hb:Below B W W')(hB:w.heap.size+2<=B):CW w GT GC GP nt nc np n W':=
 ⟨(hb.cell (p:=(J w.heap.size 0)) (by show w.heap.size<B;omega)).trans h.f0,(hb.cell (p:=(J w.heap.size 1)) (by show w.heap.size<B;omega)).trans h.f1,(hb.cell (p:=(J w.heap.size 2)) (by show w.heap.size<B;omega)).trans h.f2,
  (hb.cell (p:=(J (w.heap.size+1) 0)) (by show w.heap.size+1<B;omega)).trans h.c,(ar5 (hb.block (w.heap.size+1) O)).trans h.fr,h.below.trans (hb.mono O),ap3 h.sz hb.size⟩
theorem CW.count{w:World}{GT GC GP nt nc np n:Nat}{W:World}(h:CW w GT GC GP nt nc np n W)(v:Nat):CW w GT GC GP nt nc np v (W.setCell (J (w.heap.size+1) 0) (A v)):=
 ⟨(an9 (ao9 _ _ _ _ (by show w.heap.size≠w.heap.size+1;omega))).trans h.f0,(an9 (ao9 _ _ _ _ (by show w.heap.size≠w.heap.size+1;omega))).trans h.f1,(an9 (ao9 _ _ _ _ (by show w.heap.size≠w.heap.size+1;omega))).trans h.f2,
  bH _ h.c,by rw[aw2];exact h.fr,h.below.setCell (by show w.heap.size<=w.heap.size+1;omega) _,by simpa[World.setCell]using h.sz⟩
def KB(C:Nat)(W0 W:World):Prop:=W0.heap.size<=W.heap.size/\∀j,j<W0.heap.size->j≠C->W.heap[j]?=W0.heap[j]?
theorem KB.refl(C:Nat)(W:World):KB C W W:=⟨an2 _,λ_ _ _=>rfl⟩
theorem KB.below{C:Nat}{W0 W W':World}(h:KB C W0 W){B:Nat}(hB:W0.heap.size<=B)(hb:Below B W W'):KB C W0 W':=⟨ap3 h.1 hb.size,λj hj hn=>(hb.block j O).trans (h.2 j hj hn)⟩
theorem KB.trans{C:Nat}{Ad B D:World}(h:KB C Ad B)(g:KB C B D):KB C Ad D:=⟨ap3 h.1 g.1,λj hj hn=>(g.2 j (ap2 hj h.1) hn).trans (h.2 j hj hn)⟩
theorem KB.set{C:Nat}{W0 W:World}(h:KB C W0 W)(v:Value):KB C W0 (W.setCell (J C 0) v):=⟨by simpa[World.setCell]using h.1,λj hj hn=>(ao9 _ _ _ _ (by show j≠C;exact hn)).trans (h.2 j hj hn)⟩
theorem KB.keeps{C B:Nat}{W0 W:World}(h:KB C W0 W)(hC:C<B):KeepsFrom B W0 W:=⟨h.1,λk o hk ho _=>(h.2 k (an0.1 ho).1 O).trans ho⟩
theorem KB.ka{C m0 X:Nat}{W0 W:World}(h:KB C W0 W)(hC:C<m0)(hX:X≠C)(hl:X<W0.heap.size):KA m0 X X W0 W:=
 ⟨λk o hk ho _=>(h.2 k (an0.1 ho).1 O).trans ho,h.2 X hl hX,h.2 X hl hX⟩
theorem gY.ae4{W:World}{b n c l:Nat}{f:Nat->Nat}{r:Loop}(h:gY W b f n c)(hl:W.heap[l]?=some (.loop r)):b≠l:=by
 rintro rfl;obtain⟨D,nn,_,⟨es,clock,I,_⟩,_⟩:=h;rw[hl]at I;cases I
theorem gY.Yb{W:World}{b n c C i:Nat}{f:Nat->Nat}{v:Value}(h:gY W b f n c)(hc:W.cell? (J C i)=some v):b≠C:=by
 rintro rfl;obtain⟨D,nn,_,⟨es,clock,I,_⟩,_⟩:=h;obtain⟨o,ho,hq⟩:=aB3 hc;rw[show W.heap[b]?=_ from I]at ho;cases ho;cases hq
theorem He(GT GC GP:Nat)(Y:Ai)(cs:Ah)(ps:Ai)(w:World)(h0:0<Y.length)(h7:Y.length<=7)(h4:cs.length<=4)(I:0<ps.length)(adG:ps.length<=100)
 (kE:dS w GT Y)(AA:gZ w GC cs)(Qj:dS w GP ps)(NV:au.Inv Y)(Bd:∀x∈cs,(x.1=80\/x.1=81)/\x.2<Y.length)(qj:bJ Y.length cs.length ps) :
  Calls prog 23 #[fv GT GC GP Y.length cs.length ps.length] w λe w'=>e=.returned (A (Uh Y cs ps))/\Ag w w':=by
 refine(aq2 (n:=7)).1 ?_;unfold fv;refine at6 func23 rfl trivial ?_ rfl;simp only[ntmps23,ao5,ao1,ap0,Nat.reduceAdd,Nat.reduceSub,an7,an6,ao6,ap9,ao8,ao7]
 gi_wp2
 refine⟨trivial,(aq2.2 (KE Y.length _)).mono ?_⟩;rintro e wx ⟨rfl,rfl⟩
 gi_wp2
 obtain⟨wb,kP⟩:∃wb,((w.alloc (.cells #[Ac GT 0 Y.length Y.length,Ac GC 0 cs.length cs.length,Ac GP 0 ps.length ps.length] 46)).alloc (.cells #[A 0] 3)).alloc (.cells #[A Y.length] 3)=wb:=⟨_,rfl⟩;rw[kP];have SA:wb.heap.size=w.heap.size+3:=by rw[<-kP];simp
 have fD:w.grownBy wb none:=by rw[<-kP];exact((an1 _ _ none).trans (an1 _ _ none)).trans (an1 _ _ none)
 have qK:Below w.heap.size w wb:=⟨fD.os,fD.tape,fD.output,fD.size,λj hj=>fD.block j hj R⟩;have hCW:CW w GT GC GP Y.length cs.length ps.length 0 wb:=⟨by rw[<-kP];simp[go_sem],by rw[<-kP];simp[go_sem],by rw[<-kP];simp[go_sem],by rw[<-kP];simp[go_sem],by rw[<-kP];simp[go_sem],qK,O⟩;have EH:wb.cell? (J (w.heap.size+1+1) 0)=some (A Y.length):=by rw[<-kP];simp[go_sem]
 have dK:=KF 6 O (w.heap.size+1+1) wb.heap.size Y.length wb (an2 _) h0 h7 EH;have HIT:=F NV;have HIC:=F Bd;have HIP:=F qj;have Eu:=F kE;have HRC:=F AA;have HRP:=F Qj;have ak9:w.heap.size+3<=wb.heap.size:=O
 have hab:AbB wb.heap.size (fun(k:Nat) W=>CW w GT GC GP Y.length cs.length ps.length (sumTo (rws 0 Y.length) (A8 Y cs ps) k) W):=λk Ad C h hs hb=>h.step hb O;have kW:CW w GT GC GP Y.length cs.length ps.length (sumTo (rws 0 Y.length) (A8 Y cs ps) 0) wb:=by rw[IJ];exact hCW
 have aff:wb.heap.size<=w.heap.size+3:=O
 clear kP SA fD qK hCW EH NV Bd qj kE AA Qj;refine Bo rfl O rfl trivial (λ_ _=>by simp[go_sem]) dK KA.trans ?_ (aq1 _ _) ?_ _ hab kW
  (λk a' W=>∃E b row,a'={tmps:=#[.agg #[Ac GT 0 Y.length Y.length,Ac GC 0 cs.length cs.length,Ac GP 0 ps.length ps.length],Aa w.heap.size 0,A 0,Aa (w.heap.size+1) 0,Aa E 0,undef,undef,Aa w.heap.size 0,Ac GT 0 Y.length Y.length,A Y.length,.func (.func 87) #[] #[Aa (w.heap.size+1+1) 0],.map (some b),undef,undef,undef,undef,undef,undef,undef,undef,undef,undef,undef,undef,undef,undef,undef,undef,undef,undef,undef,undef,undef,undef,undef],defers:=[]}/\W.cell? (J E 0)=some (.map (some b))/\wb.heap.size<=E/\gY W b (fi row) Y.length 100/\(rws 0 Y.length)[k]?=some row) ?ax ?assign ?body ?done
 ·intro W l o o' Yv ho hc EY;refine⟨λj x hj hx La=>(ap1 (λe=>?_)).trans hx,ap1 O,ap1 O⟩;subst e;rw[ho]at hx;cases hx;obtain h|h:=La
  ·rw[hc]at h;cases h
  ·rw[EY]at h;cases h
 ·rintro k xs W ⟨b,row,rfl,_⟩;simp
 case ax=>
  rintro k a' W l r r' hl hr ⟨E,b,row,I,M,h3,h4,h5⟩;exact⟨E,b,row,I,dB M (au9 _ l _) (λq e=>by cases e;exact⟨_,hr,rfl⟩),h3,h4.kept (ap1 (h4.ae4 hr)),h5⟩
 case assign=>
  rintro l k xs W K hk Gh ⟨b,row,rfl,aS,xg⟩ hI hK;have fK:W.grownBy (W.alloc (.cells #[.map (some b)] 53)) none:=an1 _ _ none;have oU:=hK {tmps:=#[.agg #[Ac GT 0 Y.length Y.length,Ac GC 0 cs.length cs.length,Ac GP 0 ps.length ps.length],Aa w.heap.size 0,A 0,Aa (w.heap.size+1) 0,Aa W.heap.size 0,undef,undef,Aa w.heap.size 0,Ac GT 0 Y.length Y.length,A Y.length,.func (.func 87) #[] #[Aa (w.heap.size+1+1) 0],.map (some b),undef,undef,undef,undef,undef,undef,undef,undef,undef,undef,undef,undef,undef,undef,undef,undef,undef,undef,undef,undef,undef,undef,undef],defers:=[]} (W.alloc (.cells #[.map (some b)] 53)) ⟨R,λj o hj ho _=>(ao3 _ _ _ (an0.1 ho).1).trans ho⟩
   ⟨λj o hj ho _=>(ao3 _ _ _ (an0.1 ho).1).trans ho,ao3 _ _ _ O,ao3 _ _ _ O⟩
   (hI.step ((aq1 _ W).alloc (an2 _) _) (by have:=hI.sz;omega)) ⟨W.heap.size,b,row,rfl,by simp[go_sem],Gh,xg.kept (ao3 _ _ _ xg.lt),aS⟩
  clear hK
  gi_wp2
  exact oU
 case body=>
  rintro l k a' W hk hl ⟨r,hr⟩ hI ⟨E,b,row,rfl,hE,hEl,xg,aS⟩;have hgk:(rws 0 Y.length)[k]=row:=by rw[an3 hk]at aS;exact at7 aS
  have OW:row.length=Y.length:=vO _ _ row (List.mem_of_getElem? aS);have Sv:=Bq (rws 0 Y.length) (A8 Y cs ps) hk;rw[hgk]at Sv;have hle:=sumTo_le (rws 0 Y.length) (A8 Y cs ps) (afD Y cs ps h4) k;have hkf:k<=1000:=by have:=X0 h7;omega
  have HF:Hid (∀i,i<Y.length->fi row i<=i/\fi row (fi row i)=fi row i):=λi hi=>⟨N9 row i O,TV row i O⟩;have HCL:Hid (∀i j,i<Y.length->j<Y.length->(fi row i=fi row j↔(xU row).getD i 0=(xU row).getD j 0)):=λi j I M=>Iz row i j O O;obtain⟨nn,Ih⟩:∃nn,sumTo (rws 0 Y.length) (A8 Y cs ps) k=nn:=⟨_,rfl⟩;rw[Ih]at hI Sv hle;have uO:=tN GT GC GP cs.length ps.length b 100 (fi row) Y W h7 ((Z Eu).below hI.below (Z Eu).1) (Z HIT) (λi h=>Nat.lt_of_le_of_lt ((Z HF) i h).1 h) (kM.of xg (Z HF));unfold fv at uO;obtain⟨cb,yP⟩:∃cb,decide (∀p∈bI (mkd (fi row) Y) Y.length,fi row p.1=fi row p.2)=cb:=⟨_,rfl⟩;rw[yP]at uO;have ajd:A8 Y cs ps row=if cb=true then(List.range (2 ^ cs.length)).countP (λk=>aa8 (fi row) cs ps (xU row) (tv cs.length k))else 0:=by
   unfold A8;rw[<-yP];by_cases hq:∀p∈bI (mkd (fi row) Y) Y.length,fi row p.1=fi row p.2
   ·rw[ao4 hq,ao4 (by simpa using hq)]
   ·rw[an8 hq,an8 (by simpa using hq)]
  have eH:=hI.sz;have hlE:E<W.heap.size:=an4 W _ hE;have GV:l<W.heap.size:=(an0.1 hr).1;have xI:=hI.f0;have nN:=hI.f1;have mM:=hI.f2;have HS:=F Sv;have HO:=F ajd;have HIW:=F hI;have jo:=F aS;have HRL:=F OW;clear hgk Sv ajd yP Ih aS hI OW;cases cb
  ·gi_wp2
   refine⟨trivial,aw1 l (aq2.2 (uO.mono ?_))⟩;rintro e w2 ⟨rfl,fF⟩;have hkb:KB (w.heap.size+1) W w2:=(KB.refl _ W).below (an2 _) fF;have hIe:=(Z HIW).step fF O;have hs:sumTo (rws 0 Y.length) (A8 Y cs ps) (k+1)=nn:=(by rw[Z HS,Z HO];simp);clear uO
   gi_wp2
   rw[hs];exact⟨hkb.keeps O,hkb.ka O O O,hIe⟩
  ·gi_wp2
   refine⟨trivial,aw1 l (aq2.2 (uO.mono ?_))⟩;rintro e w2 ⟨rfl,fF⟩;have hkb:KB (w.heap.size+1) W w2:=(KB.refl _ W).below (an2 _) fF;have hIe:=(Z HIW).step fF O;have hy1:=hIe.f1;clear uO
   gi_wp2
   refine⟨trivial,aw1 l (aq2.2 ((MR cs.length _).mono ?_))⟩;rintro e wx ⟨rfl,rfl⟩
   gi_wp2
   obtain⟨wn,hwn⟩:∃wn,w2.alloc (.cells #[A cs.length] 3)=wn:=⟨_,rfl⟩;rw[hwn];have Gq:Below w2.heap.size w2 wn:=(by rw[<-hwn];exact(aq1 _ _).alloc (an2 _) _);have pJ:wn.cell? (J w2.heap.size 0)=some (A cs.length):=(by rw[<-hwn];simp[go_sem]);have hsn:w2.heap.size<wn.heap.size:=(by rw[<-hwn];simp);have su:W.heap.size<=w2.heap.size:=fF.size;have hkn:KB (w.heap.size+1) W wn:=hkb.below (B:=w2.heap.size) O Gq;have hIn:CW w GT GC GP Y.length cs.length ps.length nn wn:=hIe.step Gq O;have hln:wn.heap[l]?=some (.loop r):=(hkn.2 l GV O).trans hr;have hcx:=(Z HIW).c;have ahq:gY wn b (fi row) Y.length 100:=xg.kept (hkn.2 b xg.lt (xg.Yb hcx));have hEn:wn.cell? (J E 0)=some (.map (some b)):=(an9 (hkn.2 E hlE O)).trans hE;have af2:KN (Fence.wide.inRound l) 4 prog 90 #[Aa w2.heap.size 0] (2 ^ cs.length) (TX cs.length) (KA wn.heap.size w2.heap.size w2.heap.size) wn:=MS 4 O w2.heap.size wn.heap.size cs.length wn h4 pJ;obtain⟨g,hg⟩:∃g:Nat->Bool,(λk=>aa8 (fi row) cs ps (xU row) (tv cs.length k))=g:=⟨_,rfl⟩;rw[hg]at HO;have HG:=F hg;have alL:b<wn.heap.size:=ahq.lt;have hbc:b≠w.heap.size+1:=xg.Yb hcx;have hEw:E<wn.heap.size:=O;have aj2:AbB wn.heap.size (fun(j:Nat) V=>CW w GT GC GP Y.length cs.length ps.length (nn+(List.range j).countP g) V/\KB (w.heap.size+1) wn V):=λj Ad C h hs hb=>⟨h.1.step hb O,h.2.below (an2 _) hb⟩;have HCM:=F ahq;have HEN:=F hEn;have HKN:=F hkn;clear hwn pJ hkb hIe hy1 Gq hg ahq hEn xg hE xI nN mM hkn hr;refine Am (l0:=l) rfl hln O rfl trivial (λ_ _=>by simp[go_sem]) af2 KA.trans ?_ (aq1 _ _) ?_ _ aj2 ⟨by simpa using hIn,KB.refl _ _⟩
    (λj a' V=>∃H,a'={tmps:=#[.agg #[Ac GT 0 Y.length Y.length,Ac GC 0 cs.length cs.length,Ac GP 0 ps.length ps.length],Aa w.heap.size 0,A 0,Aa (w.heap.size+1) 0,Aa E 0,Ac H 0 cs.length cs.length,undef,Aa w.heap.size 0,Ac GT 0 Y.length Y.length,A Y.length,.func (.func 87) #[] #[Aa (w.heap.size+1+1) 0],.map (some b),.agg #[Ac GT 0 Y.length Y.length,Ac GC 0 cs.length cs.length,Ac GP 0 ps.length ps.length],.map (some b),.bool true,.bool false,Aa w.heap.size 1,Ac GC 0 cs.length cs.length,A cs.length,.func (.func 90) #[] #[Aa w2.heap.size 0],Ac H 0 cs.length cs.length,undef,undef,undef,undef,undef,undef,undef,undef,undef,undef,undef,undef,undef,undef],defers:=[]}/\eP V H (tv cs.length j)/\j<2 ^ cs.length) ?ax2 ?assign2 ?body2 ?done2
   ·intro V l o o' Yv ho hc EY;refine⟨λj x hj hx La=>(ap1 (λe=>?_)).trans hx,ap1 O,ap1 O⟩;subst e;rw[ho]at hx;cases hx;obtain h|h:=La
    ·rw[hc]at h;cases h
    ·rw[EY]at h;cases h
   ·rintro k xs V ⟨H,rfl,_⟩;simp
   case ax2=>
    rintro j a' V l r r' hl hr ⟨H,q1,q2,q3⟩;refine⟨H,q1,⟨by simpa[World.putObj]using q2.1,λi hi=>dB (q2.2 i hi) (au9 _ l _) (λq e=>by cases e;exact⟨_,hr,rfl⟩)⟩,q3⟩
   case assign2=>
    rintro l2 j xs V K hj hsV ⟨H,rfl,hH⟩ hJ hK;have oU:=hK {tmps:=#[.agg #[Ac GT 0 Y.length Y.length,Ac GC 0 cs.length cs.length,Ac GP 0 ps.length ps.length],Aa w.heap.size 0,A 0,Aa (w.heap.size+1) 0,Aa E 0,Ac H 0 cs.length cs.length,undef,Aa w.heap.size 0,Ac GT 0 Y.length Y.length,A Y.length,.func (.func 87) #[] #[Aa (w.heap.size+1+1) 0],.map (some b),.agg #[Ac GT 0 Y.length Y.length,Ac GC 0 cs.length cs.length,Ac GP 0 ps.length ps.length],.map (some b),.bool true,.bool false,Aa w.heap.size 1,Ac GC 0 cs.length cs.length,A cs.length,.func (.func 90) #[] #[Aa w2.heap.size 0],Ac H 0 cs.length cs.length,undef,undef,undef,undef,undef,undef,undef,undef,undef,undef,undef,undef,undef,undef],defers:=[]} V ⟨an2 _,λj o hj ho _=>ho⟩ ⟨λj o hj ho _=>ho,rfl,rfl⟩ hJ ⟨H,rfl,hH,hj⟩;clear hK
    gi_wp2
    exact oU
   case body2=>
    rintro l2 j a' V hj lH ⟨r2,BJ⟩ ⟨hJ,hKB⟩ ⟨H,rfl,hH,hj2⟩;have hVE:V.cell? (J E 0)=some (.map (some b)):=(an9 (hKB.2 E hEw O)).trans (Z HEN);have hVM:gY V b (fi row) Y.length 100:=(Z HCM).kept (hKB.2 b alL hbc);have aiY:=hJ.sz;have hsV:wn.heap.size<=V.heap.size:=hKB.1;have hA:Hid (∀V':World,Below V.heap.size V V'->Calls prog 34 #[.agg #[Ac GT 0 Y.length Y.length,Ac GC 0 cs.length cs.length,Ac GP 0 ps.length ps.length],.agg #[.map (some b),Ac H 0 cs.length cs.length]] V' λe w'=>e=.returned (.bool (decide (∀p∈bI (BA (fi row) cs) cs.length,(tv cs.length j).getD p.1 false=(tv cs.length j).getD p.2 false)))/\Ag V' w'):=λV' h=>by
     have q:=KL GT GC GP Y.length ps.length b 100 H (fi row) cs (tv cs.length j) V' h4 h7 (iT _ _) ((Z HRC).below (hJ.below.trans (h.mono O)) (Z HRC).1) (Z HIC) (Z HF) (hVM.kept (h.block b hVM.lt)) (hH.same (h.block H hH.1));unfold fv sv at q;rw[iT]at q;exact q
    have hB:Hid (∀V':World,Below V.heap.size V V'->Calls prog 35 #[.agg #[Ac GT 0 Y.length Y.length,Ac GC 0 cs.length cs.length,Ac GP 0 ps.length ps.length],.agg #[.map (some b),Ac H 0 cs.length cs.length]] V' λe w'=>e=.returned (.bool ((gV (xU row) (tv cs.length j) ps).getD (ps.length-1) false))/\Ag V' w'):=λV' h=>by
     have q:=Jv GT GC GP Y.length cs.length b 100 H (fi row) ps (xU row) (tv cs.length j) V' I adG h7 ((Z HRP).below (hJ.below.trans (h.mono O)) (Z HRP).1) (by rw[iT];exact Z HIP) (Z HF) (Z HCL) (hVM.kept (h.block b hVM.lt)) (hH.same (h.block H hH.1));unfold fv sv at q;rw[iT]at q;exact q
    have hgj:g j=(decide (∀p∈bI (BA (fi row) cs) cs.length,(tv cs.length j).getD p.1 false=(tv cs.length j).getD p.2 false)&&(gV (xU row) (tv cs.length j) ps).getD (ps.length-1) false):=(by rw[<-Z HG];rfl);generalize decide (∀p∈bI (BA (fi row) cs) cs.length,(tv cs.length j).getD p.1 false=(tv cs.length j).getD p.2 false)=a1 at hA hgj;generalize (gV (xU row) (tv cs.length j) ps).getD (ps.length-1) false=a2 at hB hgj;have hcs:(List.range (j+1)).countP g=(List.range j).countP g+(if g j=true then 1 else 0):=by
     rw[aA8,List.countP_append];simp[az7]
    have wE:(List.range j).countP g<=j:=by
     have:=List.countP_le_length (p:=g) (l:=List.range j)
     rwa [aB5]at this
    have alg:2 ^ cs.length<=16:=by
     have h':cs.length=0\/cs.length=1\/cs.length=2\/cs.length=3\/cs.length=4:=O;obtain h|h|h|h|h:=h'<;>rw[h]<;>decide
    generalize (List.range j).countP g=m0 at hJ hcs wE;have UJ:m0<=16:=O;obtain⟨V1,Ws⟩:∃V1,V.alloc (.cells #[.map (some b),Ac H 0 cs.length cs.length] 56)=V1:=⟨_,rfl⟩;have UM:Below V.heap.size V V1:=(by rw[<-Ws];exact(aq1 _ _).alloc (an2 _) _);have Lm:CW w GT GC GP Y.length cs.length ps.length (nn+m0) V1:=hJ.step UM O;have y0:V1.cell? (J V.heap.size 0)=some (.map (some b)):=(by rw[<-Ws];simp[go_sem]);have y1:V1.cell? (J V.heap.size 1)=some (Ac H 0 cs.length cs.length):=(by rw[<-Ws];simp[go_sem]);have oI:V.heap.size<V1.heap.size:=(by rw[<-Ws];simp);have HV1:=F Ws;have HGJ:=F hgj;have Hg:=F hcs;have HJ:=F hJ;have HJ1:=F Lm;have HKB:=F hKB;have z0:=Lm.f0;have z1:=Lm.f1;have z2:=Lm.f2;rw[<-Ws]at z0 z1 z2;clear Ws hgj hcs hJ Lm hVM hKB dK hab kW af2 aj2 hIn hH alg wE
    gi_wp2
    rw[Z HV1];refine⟨trivial,aw1 l2 (aw1 l (aq2.2 ((Z hA _ UM).mono ?_)))⟩;rintro e w3 ⟨rfl,iR⟩;have yQ:Below V.heap.size V w3:=UM.trans (iR.mono O);have xM:=(Z HJ1).step iR (by have:=(Z HJ1).sz;omega);have y03:=(iR.cell (p:=(J V.heap.size 0)) oI).trans y0;have y13:=(iR.cell (p:=(J V.heap.size 1)) oI).trans y1;have Aw:V1.heap.size<=w3.heap.size:=iR.size;have z0:=xM.f0;have z1:=xM.f1;have z2:=xM.f2;have HJ3:=F xM;clear xM;have ahd:KB (w.heap.size+1) V w3:=(KB.refl _ V).below (an2 _) yQ;cases a1
    ·gi_wp2
     refine⟨trivial,?_⟩
     gi_wp2
     have hs:nn+(List.range (j+1)).countP g=nn+m0:=(by rw[Z Hg,Z HGJ];simp);refine⟨ahd.keeps O,ahd.ka O O O,?_,(Z HKB).trans ahd⟩;rw[hs];exact Z HJ3
    ·gi_wp2
     refine⟨trivial,aw1 l2 (aw1 l (aq2.2 ((Z hB _ yQ).mono ?_)))⟩;rintro e w4 ⟨rfl,sD⟩;have alP:Below V.heap.size V w4:=yQ.trans (sD.mono O);have hJ4:=(Z HJ3).step sD (by have:=(Z HJ3).sz;omega);have afh:KB (w.heap.size+1) V w4:=(KB.refl _ V).below (an2 _) alP;have Tz:=hJ4.c;have hf4:=hJ4.fr;have HJ4:=F hJ4;clear hJ4;cases a2
     ·gi_wp2
      have hs:nn+(List.range (j+1)).countP g=nn+m0:=(by rw[Z Hg,Z HGJ];simp);refine⟨afh.keeps O,afh.ka O O O,?_,(Z HKB).trans afh⟩;rw[hs];exact Z HJ4
     ·have xk:(((nn+m0:Nat):Int)+1)=((nn+m0+1:Nat):Int):=O;have HCA:=F xk;clear xk;have Lh:nn+m0<=20000:=O;generalize hN:nn+m0=N0 at Tz Lh HCA;have HN:=F hN;clear hN
      gi_wp2
      have hs:nn+(List.range (j+1)).countP g=N0+1:=(by rw[Z Hg,Z HGJ];have:=Z HN;simp;omega);have ahc:=afh.set (A ((N0:Int)+1));refine⟨ahc.keeps O,ahc.ka O O O,?_,(Z HKB).trans ahc⟩;rw[hs,Z HCA];exact(Z HJ4).count (N0+1)
   case done2=>
    rintro V hsV ⟨hJ,hKB⟩;have hs:sumTo (rws 0 Y.length) (A8 Y cs ps) (k+1)=nn+(List.range (2 ^ cs.length)).countP g:=by rw[Z HS,Z HO];simp
    gi_wp2
    rw[hs];have gW:=(Z HKN).trans hKB;exact⟨gW.keeps O,gW.ka O O O,hJ⟩
 case done=>
  intro D W hD hI eU;have hx:=hI.c
  gi_wp2
  refine⟨R,.inl ⟨_,_,rfl,au4 eU,?_⟩⟩;refine⟨_,ay0 rfl _ _ _,rfl,hI.below.trans ?_⟩;exact nV O
end
section
open Go.RowKit Go.Maps Go.WideMaps
open au (Key put St bJ gV)
theorem aaY(w:World)(s:ByteArray)(hm:s.size<=maxLen)(hE:(chk s).1≠0) :
  Calls prog 16 #[.string s] w λe w'=>e=.returned (.tuple #[A 0,A (chk s).1])/\Ag w w':=by
 have HR:=F (λw=>yx w s hm);generalize chk s=c at HR hE;have hb:(c.1 != 0)=true:=by simpa using hE
 go_in
 go_wp2_with fail
 refine((Z HR) _).mono ?_;rintro e w1 ⟨⟨p0,n0,c0,p1,n1,c1,p2,n2,c2,rfl⟩,I⟩
 go_wp2_with fail
 go_ret2
 exact⟨rfl,I.alloc I.size _⟩
theorem ad4(w:World)(s:ByteArray)(hs:s.size<=100)(Y:Ai)(cs:Ah)(ps:Ai)(mm:Nat)(HR:au.lG (pk s) (s.size+1) 0 0 [] [] []=.ok (s.size,Y,cs,ps,mm))(h0:0<Y.length)(h7:Y.length<=7)(h4:cs.length<=4)(hi:au.Inv Y)(Bd:au.kD Y cs)
 (iL:cs.Nodup)(qj:au.bJ Y.length cs.length ps)(hp0:0<ps.length)(hp:ps.length<=100)(ahe:∀x∈cs,(x.1=80\/x.1=81)/\x.2<Y.length) :
  Calls prog 16 #[.string s] w λe w'=>e=.returned (.tuple #[A (Uh Y cs ps),A 0])/\Ag w w':=by
 have HO:=F (qR w s hs Y cs ps mm HR h7 h4 hi Bd iL qj hp);have HM:=F (fun(GT GC GP:Nat) (W:World) r1 r2 r3=>He GT GC GP Y cs ps W h0 h7 h4 hp0 hp r1 r2 r3 hi ahe qj);generalize Uh Y cs ps=N at HM ⊢;unfold fv at HO HM
 go_in
 go_wp2_with fail
 refine(Z HO).mono ?_;rintro e w1 ⟨GT,GC,GP,rfl,I,NW⟩;have hT1:=vS NW.t;have hC1:=Hw NW.c;have hP1:=vS NW.p;have M1:=F hT1;have M2:=F hC1;have M3:=F hP1
 go_wp2_with fail
 obtain⟨w2,eu⟩:∃w2,w1.alloc (.cells #[Ac GT 0 Y.length Y.length,Ac GC 0 cs.length cs.length,Ac GP 0 ps.length ps.length] 46)=w2:=⟨_,rfl⟩;have Gq:Below w1.heap.size w1 w2:=by rw[<-eu];exact(aq1 w1.heap.size w1).alloc (an2 _) _
 rw[eu];have fF:Below w.heap.size w w2:=I.trans (Gq.mono I.size);refine(Z HM GT GC GP w2 ((Z M1).same (Gq.block _ (Z M1).1)) ((Z M2).same (Gq.block _ (Z M2).1)) ((Z M3).same (Gq.block _ (Z M3).1))).mono ?_;rintro e w3 ⟨rfl,h3⟩;have iR:Below w.heap.size w w3:=fF.trans (h3.mono fF.size)
 go_wp2_with fail
 go_ret2
 exact⟨rfl,iR⟩
end
section
open Go.RowKit
open Nx
attribute [local go_sem] Oper.semAt_some
structure NX(w:World)(G1 G2 nt nc:Nat)(row:List Nat)(hl:List Bool)(W:World):Prop where
 x0:W.cell? (J w.heap.size 0)=some (Ac G1 0 nt nt)
 x1:W.cell? (J w.heap.size 1)=some (Ac G2 0 nc nc)
 r1:W.ownsRow 0 3 1 (Ac G1 0 nt nt) nt (row.map kN)
 r2:W.ownsRow 0 4 1 (Ac G2 0 nc nc) nc (hl.map Value.bool)
 os:W.os=w.os
 tape:W.tape=w.tape
 output:W.output=w.output
 size:w.heap.size<W.heap.size
 block:∀j,j<w.heap.size->j≠G1->j≠G2->W.heap[j]?=w.heap[j]?
theorem NX.drew{w:World}{G1 G2 nt nc:Nat}{row:List Nat}{hl:List Bool}{W:World}(h:NX w G1 G2 nt nc row hl W):NX w G1 G2 nt nc row hl W.drew:=⟨h.x0,h.x1,h.r1,h.r2,h.os,h.tape,h.output,h.size,h.block⟩
theorem NX.set2{w:World}{G1 G2 nt nc:Nat}{row:List Nat}{hl:List Bool}{W:World}(h:NX w G1 G2 nt nc row hl W)(bg:G1≠G2)(M:G2<w.heap.size)(p:Nat)(b:Bool)(Ij:List Bool)(he:Ij=hl.set p b):NX w G1 G2 nt nc row Ij (W.setCell (J G2 p) (.bool b)):=by
 obtain⟨q1,q2⟩:=h.r2.stored p (.bool b);refine⟨q2.cell h.x0 anf,q2.cell h.x1 anf,h.r1.kept q2 (Or.inr (by simpa[Value.ownBlock]using bg)),?_,q2.os.trans h.os,q2.tape.trans h.tape,q2.output.trans h.output,ap2 h.size q2.size,λj hj n1 n2=>(q2.block j (Nat.lt_trans hj h.size) (by simpa using n2)).trans (h.block j hj n1 n2)⟩;rw[he,List.map_set];exact q1
theorem NX.set1{w:World}{G1 G2 nt nc:Nat}{row:List Nat}{hl:List Bool}{W:World}(h:NX w G1 G2 nt nc row hl W)(bg:G1≠G2)(M:G1<w.heap.size)(p d:Nat)(row':List Nat)(he:row'=row.set p d):NX w G1 G2 nt nc row' hl (W.setCell (J G1 p) (A d)):=by
 obtain⟨q1,q2⟩:=h.r1.stored p (A d);refine⟨q2.cell h.x0 anf,q2.cell h.x1 anf,?_,h.r2.kept q2 (Or.inr (by simpa[Value.ownBlock]using λe=>bg e.symm)),q2.os.trans h.os,q2.tape.trans h.tape,q2.output.trans h.output,ap2 h.size q2.size,λj hj n1 n2=>(q2.block j (Nat.lt_trans hj h.size) (by simpa using n1)).trans (h.block j hj n1 n2)⟩;rw[he,List.map_set];exact q1
def NP(w:World)(G1 G2:Nat)(row:List Nat)(hl:List Bool)(e:Ending)(w':World):Prop:=
 match nb hl with
 |some Ij=>e=.returned (.bool true)/\NX w G1 G2 row.length hl.length row Ij w'
 |none=>match zC 0 row with
  |some row'=>e=.returned (.bool true)/\NX w G1 G2 row.length hl.length row' (List.replicate hl.length false) w'
  |none=>e=.returned (.bool false)/\∃row' Ij,NX w G1 G2 row.length hl.length row' Ij w'
theorem abm(w:World)(G1 G2:Nat)(row:List Nat)(hl:List Bool)(h0:0<row.length)(h7:row.length<=7)(h4:hl.length<=4)(hv:∀x∈row,x<=100)(bg:G1≠G2)(zM:G1<w.heap.size)(lH:G2<w.heap.size)
 (I:w.ownsRow 0 3 1 (Ac G1 0 row.length row.length) row.length (row.map kN))(M:w.ownsRow 0 4 1 (Ac G2 0 hl.length hl.length) hl.length (hl.map Value.bool)) :
  Calls prog 86 #[.agg #[Ac G1 0 row.length row.length,Ac G2 0 hl.length hl.length]] w (NP w G1 G2 row hl):=by
 obtain⟨w0,kW⟩:∃w0,w.alloc (.cells #[Ac G1 0 row.length row.length,Ac G2 0 hl.length hl.length] 166)=w0:=⟨_,rfl⟩;have hN0:NX w G1 G2 row.length hl.length row hl w0:=by
  rw[<-kW];exact⟨by simp[go_sem],by simp[go_sem],I.alloc _,M.alloc _,rfl,rfl,rfl,R,λj hj _ _=>ao3 _ _ _ hj⟩
 obtain⟨nt,Bc⟩:∃nt,row.length=nt:=⟨_,rfl⟩;obtain⟨nc,UH⟩:∃nc,hl.length=nc:=⟨_,rfl⟩;rw[Bc]at hN0 kW h0 h7 ⊢;rw[UH]at hN0 kW h4 ⊢;have Qg:=F Bc;have HNC:=F UH;have HV:=F hv;have HW0:=F kW;clear I M Bc UH hv kW
 go_in
 go_wp2_with fail
 rw[Z HW0]
 go_loopw [3] (λi wr=>∃k:Nat,k<=nc/\i=A ((k:Int)-1)/\NX w G1 G2 nt nc row (hl.take k++List.replicate (nc-k) false) wr/\Hid (nb (hl.drop k)=none)) (λi _=>(intOf i+1).toNat)
 case atStart=>
  refine⟨nc,an2 _,rfl,?_,?_⟩
  ·rw[aq5 (by rw[Z HNC];exact an2 _),Nat.sub_self];simpa using hN0
  ·rw[List.drop_eq_nil_of_le (by rw[Z HNC];exact an2 _)];exact F rfl
 case round=>
  obtain⟨k,hk,rfl,hN,ny⟩:=hrel;by_cases kJ:0<k
  ·obtain⟨p,rfl⟩:∃p,k=p+1:=⟨k-1,O⟩;have xk:(((p+1:Nat):Int)-1)=(p:Int):=O;rw[xk];clear xk;have Yp:p<hl.length:=(by rw[Z HNC];omega);have kQ:(0:Int)<=(p:Int):=O;have hpb:(p:Int)<(nc:Int):=O;have kT:hl.take (p+1)=hl.take p++[hl[p]]:=(by rw[aq3,an3 Yp];rfl);have oP:=ae5 Yp (Z ny);have hA:(hl.take p).length=p:=(by rw[ar1];omega);have UL:wr.cell? (J G2 p)=some (.bool hl[p]):=by
    rw[hN.r2.cellAt p O,kT,at1,au0,List.getElem?_append_right (by rw[au3,hA];exact an2 _),au3,hA,Nat.sub_self];rfl
   have JC:∀b:Bool,(hl.take (p+1)++List.replicate (nc-(p+1)) false).set p b=hl.take p++b::List.replicate (nc-(p+1)) false:=λb=>by
    rw[kT,at1];exact set_mid _ _ _ _ hA
   have hfz:wr.frozen? (J G2 p)=false:=hN.r2.frozenAt p;rw[Z HNC]at oP;have kR:=F oP;have aey:=F JC;clear oP JC kT ny hA;generalize hl[p]=b at UL kR;have xI:=hN.x0;have nN:=hN.x1;have HN:=F hN;clear hN
   go_wp2_with fail
   have aA:wr.drew.cell? (J w.heap.size 1)=some (Ac G2 0 nc nc)/\wr.drew.cell? (J G2 p)=some (.bool b):=⟨nN,UL⟩;refine wp_region_any rfl (iI (S:=λW'=>W'.cell? (J w.heap.size 1)=some (Ac G2 0 nc nc)/\W'.cell? (J G2 p)=some (.bool b)) (z:=10) _ _ _ _ ?_);simp only[ao5,ao1,ap0,Nat.reduceAdd,an7,an6,ao6,ao8,ao7];change wpAnyL prog .any _ _ _ _ _ _ _ wr.drew;refine tL 0 (Aa w.heap.size 1) (λw' hS=>?_) aA ?_
   ·obtain⟨s1,s2⟩:=hS;go_simp
   simp only[aF];refine tL 1 (Ac G2 0 nc nc) (λw' hS=>?_) aA ?_
   ·obtain⟨s1,s2⟩:=hS;go_simp
   simp only[aF];refine tL 2 (A p) (λw' hS=>?_) aA ?_
   ·obtain⟨s1,s2⟩:=hS;go_simp
   simp only[aF];refine tL 3 (Aa w.heap.size 1) (λw' hS=>?_) aA ?_
   ·obtain⟨s1,s2⟩:=hS;go_simp
   simp only[aF];refine tL 4 (Ac G2 0 nc nc) (λw' hS=>?_) aA ?_
   ·obtain⟨s1,s2⟩:=hS;go_simp
   simp only[aF];refine tL 5 (A p) (λw' hS=>?_) aA ?_
   ·obtain⟨s1,s2⟩:=hS;go_simp
   simp only[aF];refine tL 6 (Aa G2 p) (λw' hS=>?_) aA ?_
   ·obtain⟨s1,s2⟩:=hS;go_simp
   simp only[aF];refine tL 7 (.bool b) (λw' hS=>?_) aA ?_
   ·obtain⟨s1,s2⟩:=hS;go_simp
   simp only[aF];refine tL 8 (.bool (!b)) (λw' hS=>?_) aA ?_
   ·obtain⟨s1,s2⟩:=hS;go_simp
   simp only[aF];refine tL 9 (Aa G2 p) (λw' hS=>?_) aA ?_
   ·obtain⟨s1,s2⟩:=hS;go_simp
   simp only[aF];have amW:wr.drew.frozen? (J G2 p)=false:=hfz;refine oL 10 (λK hK=>?_);go_simp;refine hK.out _ _ (λh=>absurd rfl h) (jh (by kernel_rfl) ?_ _);clear hK K;cases b
   ·have O9:=((Z HN).set2 bg lH p true _ (Z aey true).symm).drew;have y1:=O9.x1;have yc:(wr.setCell (J G2 p) (.bool true)).drew.cell? (J G2 p)=some (.bool true):=bH _ UL;have HN3:=F O9;have GU:=(Z kR).1 rfl;have HNB:=F GU;clear O9 GU
    go_wp2_with fail
    refine aq0 (v:=.bool true) (by simp[results,results86,go_sem]) rfl ?_;unfold NP;rw[Z HNB,Z Qg,Z HNC];exact⟨rfl,Z HN3⟩
   ·have O9:=((Z HN).set2 bg lH p false _ (Z aey false).symm).drew;have y1:=O9.x1;have yc:(wr.setCell (J G2 p) (.bool false)).drew.cell? (J G2 p)=some (.bool false):=bH _ UL;have HN3:=F O9;clear O9
    go_wp2_with fail
    refine⟨⟨p,O,rfl,?_,(Z kR).2 rfl⟩,by simp[intOf]⟩;have e:hl.take p++List.replicate (nc-p) false=hl.take p++false::List.replicate (nc-(p+1)) false:=by
     rw[show nc-p=nc-(p+1)+1 by omega,List.replicate_succ]
    rw[e];exact Z HN3
  ·have gW:k=0:=O;subst gW;have GU:nb hl=none:=(by simpa using Z ny);have HNB:=F GU;have hN2:NX w G1 G2 nt nc row (List.replicate nc false) wr:=(by simpa using hN);have xI:=hN2.x0;have nN:=hN2.x1;have HN:=F hN2;clear hN ny GU hN2
   go_wp2_with fail
   go_loopw [4] (λi wr=>∃k:Nat,1<=k/\k<=nt/\i=A ((k:Int)-1)/\NX w G1 G2 nt nc (row.take k++List.replicate (nt-k) 0) (List.replicate nc false) wr/\Hid (zC (cm 0 (row.take k)) (row.drop k)=none)) (λi _=>(intOf i).toNat)
   case atStart=>
    refine⟨nt,O,an2 _,rfl,?_,?_⟩
    ·rw[aq5 (by rw[Z Qg];exact an2 _),Nat.sub_self];simpa using Z HN
    ·rw[List.drop_eq_nil_of_le (by rw[Z Qg];exact an2 _)];exact F rfl
   case round=>
    clear HN xI nN;obtain⟨k,O4,hk,rfl,hN,ny⟩:=hrel;obtain⟨p,rfl⟩:∃p,k=p+1:=⟨k-1,O⟩;have xk:(((p+1:Nat):Int)-1)=(p:Int):=O;rw[xk];clear xk;have Yp:p<row.length:=(by rw[Z Qg];omega);by_cases hp0:0<p
    ·have kQ:(0:Int)<(p:Int):=O;have hpb:(p:Int)<(nt:Int):=O;have kT:row.take (p+1)=row.take p++[row[p]]:=(by rw[aq3,an3 Yp];rfl);have oP:=Ru Yp (Z ny);have hA:(row.take p).length=p:=(by rw[ar1];omega);have Lj:∀i (hi:i<row.length),row.getD i 0=row[i]:=λi hi=>by rw[ao0,an3 hi];rfl
     have Gm:∀i,i<p+1->wr.cell? (J G1 i)=some (A (row.getD i 0)):=λi hi=>by
      rw[hN.r1.cellAt i O,au0,as5 anf,as1,List.getElem?_take_of_lt hi,an3 O,Lj i O];rfl
     have hvv:∀i,i<p+1->row.getD i 0<=100:=λi hi=>by rw[Lj i O];exact Z HV _ (an5 _)
     have htm:∀i,i<p+1->cm 0 (row.take (i+1))=max (cm 0 (row.take i)) (row.getD i 0+1):=λi hi=>by rw[Lj i O];exact P7 O 0
     rw[<-Lj p Yp]at oP;have JC:∀d:Nat,(row.take (p+1)++List.replicate (nt-(p+1)) 0).set p d=row.take p++d::List.replicate (nt-(p+1)) 0:=λd=>by
      rw[kT,at1];exact set_mid _ _ _ _ hA
     have hfz:wr.frozen? (J G1 p)=false:=hN.r1.frozenAt p;rw[Z Qg]at oP;have kR:=F oP;have aey:=F JC;have xI:=hN.x0;have nN:=hN.x1;have HCC:=F Gm;have HVV:=F hvv;have HTM:=F htm;have HN:=F hN;clear oP JC kT ny hA hN Gm hvv htm Lj
     go_wp2_with fail
     go_loop [5,6] (λm j=>∃q:Nat,q<=p/\j=A q/\m=A ((cm 0 (row.take q):Int)-1)) (λ_ j=>p-(intOf j).toNat)
     case atStart=>exact⟨0,ap7 _,rfl,by simp[cm]⟩
     case round=>
      obtain⟨q,hq,rfl,rfl⟩:=hrel;by_cases hqp:q<p
      ·have hbq:(q:Int)<(p:Int):=O;have hqn:(q:Int)<(nt:Int):=O;have hcq:=Z HCC q O;have hvq:=Z HVV q O;have xg:=Z HTM q O;have hmb:=YX (vs:=row.take q) (λx hx=>Z HV x (au8 hx)) 0 O;have HCM:=F xg;clear xg;generalize row.getD q 0=d at hcq hvq HCM;generalize cm 0 (row.take q)=m at HCM hmb;by_cases Qm:(m:Int)-1<(d:Int)
       ·go_wp2_with fail
        refine⟨⟨q+1,hqp,by go_num,?_⟩,by simp[intOf];omega⟩;rw[Z HCM]
        congr 1;omega
       ·go_wp2_with fail
        refine⟨⟨q+1,hqp,by go_num,?_⟩,by simp[intOf];omega⟩;rw[Z HCM]
        congr 1;omega
      ·have hqq:q=p:=O;subst hqq;have hbq:¬(q:Int)<(q:Int):=O;have hcq:=Z HCC q O;have hvq:=Z HVV q O;have hmb:=YX (vs:=row.take q) (λx hx=>Z HV x (au8 hx)) 0 O;generalize row.getD q 0=d at hcq hvq kR;generalize hm:cm 0 (row.take q)=m at kR hmb;have HM:=F hm;clear hm;by_cases Qm:d<m
       ·have hle:(d:Int)<=(m:Int)-1:=O;have Yq:=(Z kR).1 Qm;have HNX:=F Yq;have O9:=(Z HN).set1 bg zM q (d+1) _ (Z aey (d+1)).symm;have HN3:=F O9;clear Yq O9
        go_wp2_with fail
        refine aq0 (v:=.bool true) (by simp[results,results86,go_sem]) rfl ?_;unfold NP;rw[Z HNB,Z HNX,Z Qg,Z HNC];exact⟨rfl,Z HN3⟩
       ·have hle:¬(d:Int)<=(m:Int)-1:=O;have O9:=(Z HN).set1 bg zM q 0 _ (Z aey 0).symm;have HN3:=F O9;clear O9
        go_wp2_with fail
        refine⟨⟨q,hp0,O,rfl,?_,?_⟩,by simp[intOf];omega⟩
        ·have e:row.take q++List.replicate (nt-q) 0=row.take q++0::List.replicate (nt-(q+1)) 0:=by
          rw[show nt-q=nt-(q+1)+1 by omega,List.replicate_succ]
         rw[e];exact Z HN3
        ·rw[Z HM];exact(Z kR).2 Qm
    ·have hpp:p=0:=O;subst hpp;have Ih:zC 0 row=none:=Rt (Z ny);have HNN:=F Ih;have HN:=F hN;clear Ih hN ny
     go_wp2_with fail
     refine aq0 (v:=.bool false) (by simp[results,results86,go_sem]) rfl ?_;unfold NP;rw[Z HNB,Z HNN,Z Qg,Z HNC];exact⟨rfl,_,_,Z HN⟩
end
section
open Go.RowKit
open au (St put cut)
open Nx
attribute [local go_sem] Oper.semAt_some
theorem XB(w:World)(s:ByteArray)(hm:s.size<=maxLen)(hE:(yA s).1≠0) :
  Calls prog 42 #[.string s] w λe w'=>e=.returned (.tuple #[A 0,A (yA s).1])/\Ag w w':=by
 have HR:=F (λw=>Aj w s hm);generalize yA s=c at HR hE;have hb:(c.1 != 0)=true:=by simpa using hE
 go_in
 go_wp2_with fail
 refine((Z HR) _).mono ?_;rintro e w1 ⟨rfl,I⟩
 go_wp2_with fail
 go_ret2
 exact⟨rfl,I⟩
structure mW(w0:World)(nt nc:Nat)(o3 o6 o8:Option Nat)(W:World):Prop where
 below:Below w0.heap.size w0 W
 i3:∀G,o3=some G->w0.heap.size<=G/\W.heap[G]?=some (.cells (madeCells #[A 0] nt) 3)
 i6:∀H,o6=some H->w0.heap.size<=H/\W.heap[H]?=some (.cells (madeCells #[.bool false] nc) 4)
 i8:∀X,o8=some X->w0.heap.size<=X/\W.heap[X]?=some (.cells #[.slice none 0 0,.slice none 0 0] 166)
theorem mW.grow{w0:World}{nt nc:Nat}{o3 o6 o8:Option Nat}{W W':World}(h:mW w0 nt nc o3 o6 o8 W)(hb:Below W.heap.size W W'):mW w0 nt nc o3 o6 o8 W' where
 below:=h.below.trans (hb.mono h.below.size)
 i3:=λH e=>⟨(h.i3 H e).1,(hb.block H (an0.1 (h.i3 H e).2).1).trans (h.i3 H e).2⟩
 i6:=λH e=>⟨(h.i6 H e).1,(hb.block H (an0.1 (h.i6 H e).2).1).trans (h.i6 H e).2⟩
 i8:=λX e=>⟨(h.i8 X e).1,(hb.block X (an0.1 (h.i8 X e).2).1).trans (h.i8 X e).2⟩
theorem mW.s3{w0:World}{nt nc:Nat}{o6 o8:Option Nat}{W:World}(h:mW w0 nt nc none o6 o8 W):mW w0 nt nc (some W.heap.size) o6 o8 (W.alloc (.cells (madeCells #[A 0] nt) 3)):=by
 have M:=h.grow (jC W (.cells (madeCells #[A 0] nt) 3));exact⟨M.below,λX e=>(by cases e;exact⟨h.below.size,ap5 _ _⟩),M.i6,M.i8⟩
theorem mW.s6{w0:World}{nt nc:Nat}{o3 o8:Option Nat}{W:World}(h:mW w0 nt nc o3 none o8 W):mW w0 nt nc o3 (some W.heap.size) o8 (W.alloc (.cells (madeCells #[.bool false] nc) 4)):=by
 have M:=h.grow (jC W (.cells (madeCells #[.bool false] nc) 4));exact⟨M.below,M.i3,λX e=>(by cases e;exact⟨h.below.size,ap5 _ _⟩),M.i8⟩
theorem mW.s8{w0:World}{nt nc:Nat}{o3 o6:Option Nat}{W:World}(h:mW w0 nt nc o3 o6 none W):mW w0 nt nc o3 o6 (some W.heap.size) (W.alloc (.cells #[.slice none 0 0,.slice none 0 0] 166)):=by
 have M:=h.grow (jC W (.cells #[.slice none 0 0,.slice none 0 0] 166));exact⟨M.below,M.i3,M.i6,λX e=>(by cases e;exact⟨h.below.size,ap5 _ _⟩)⟩
theorem mW.seen{w0:World}{nt nc B:Nat}{o3 o6 o8:Option Nat}{W:World}{v4 v5:Value}(h:mW w0 nt nc o3 o6 o8 W)(c4:w0.cell? (J B 4)=some v4)(c5:w0.cell? (J B 5)=some v5):W.cell? (J B 4)=some v4/\W.cell? (J B 5)=some v5:=
 ⟨(h.below.cell (p:=(J B 4)) (an4 w0 _ c4)).trans c4,(h.below.cell (p:=(J B 5)) (an4 w0 _ c5)).trans c5⟩
theorem mW.aiv{w0:World}{nt nc B X:Nat}{o3 o6:Option Nat}{W:World}{v4 v5 u v:Value}(h:mW w0 nt nc o3 o6 (some X) W)(c4:w0.cell? (J B 4)=some v4)(c5:w0.cell? (J B 5)=some v5) :
  ((W.setCell (J X 0) u).setCell (J X 1) v).cell? (J B 4)=some v4/\((W.setCell (J X 0) u).setCell (J X 1) v).cell? (J B 5)=some v5:=by
 have hB:=an4 w0 _ c4;have hX:=(h.i8 X rfl).1;have bg:B≠X:=λe=>by subst e;exact absurd hB (by show ¬B<_;omega)
 have hk:((W.setCell (J X 0) u).setCell (J X 1) v).heap[B]?=W.heap[B]?:=(ao9 _ _ _ _ bg).trans (ao9 _ _ _ _ bg);obtain⟨h4,h5⟩:=h.seen c4 c5;exact⟨(an9 hk).trans h4,(an9 hk).trans h5⟩
structure agq(w0:World)(nt nc G H X:Nat)(W:World):Prop where
 below:Below w0.heap.size w0 W
 lg:w0.heap.size<=G
 lh:w0.heap.size<=H
 lx:w0.heap.size<=X
 g:W.heap[G]?=some (.cells (madeCells #[A 0] nt) 3)
 h:W.heap[H]?=some (.cells (madeCells #[.bool false] nc) 4)
 x:W.heap[X]?=some (.cells #[Ac G 0 nt nt,Ac H 0 nc nc] 166)
theorem y8{W:World}{a b t u:Nat}{p q:Array Value}(ha:W.heap[a]?=some (.cells p t))(hb:W.heap[b]?=some (.cells q u))(h:t≠u):a≠b:=λe=>by
 subst e;rw[ha]at hb;have I:=at7 hb;injection I with _ M _
 exact h M
theorem mW.fin{w0:World}{nt nc G H X:Nat}{W:World}(h:mW w0 nt nc (some G) (some H) (some X) W):agq w0 nt nc G H X ((W.setCell (J X 0) (Ac G 0 nt nt)).setCell (J X 1) (Ac H 0 nc nc)):=by
 obtain⟨lx,hx⟩:=h.i8 X rfl;obtain⟨lh,hh⟩:=h.i6 H rfl;obtain⟨lg,hg⟩:=h.i3 G rfl;have n1:H≠X:=y8 hh hx ane;have n2:G≠X:=y8 hg hx ane;have hk:∀j,j≠X->((W.setCell (J X 0) (Ac G 0 nt nt)).setCell (J X 1) (Ac H 0 nc nc)).heap[j]?=W.heap[j]?:=λj hj=>(ao9 _ _ _ _ hj).trans (ao9 _ _ _ _ hj);exact⟨(h.below.setCell (p:=(J X 0)) lx _).setCell (p:=(J X 1)) lx _,lg,lh,lx,(hk G n2).trans hg,(hk H n1).trans hh,XV hx⟩
structure YW(w1:World)(G H X nt nc:Nat)(row:List Nat)(hl:List Bool)(W:World):Prop where
 x0:W.cell? (J X 0)=some (Ac G 0 nt nt)
 x1:W.cell? (J X 1)=some (Ac H 0 nc nc)
 r1:W.ownsRow 0 3 1 (Ac G 0 nt nt) nt (row.map kN)
 r2:W.ownsRow 0 4 1 (Ac H 0 nc nc) nc (hl.map Value.bool)
 below:Below w1.heap.size w1 W
theorem YW.step{w1:World}{G H X nt nc:Nat}{row:List Nat}{hl:List Bool}{W W':World}(h:YW w1 G H X nt nc row hl W)(hb:Below W.heap.size W W'):YW w1 G H X nt nc row hl W':=by
 have hg:W.grownBy W' none:=⟨hb.os,hb.tape,hb.output,hb.size,λk hk _=>hb.block k hk⟩;exact⟨hg.cell h.x0 R,hg.cell h.x1 R,h.r1.kept hg (Or.inr (by simp[Value.ownBlock])),h.r2.kept hg (Or.inr (by simp[Value.ownBlock])),h.below.trans (hb.mono h.below.size)⟩
theorem YW.next{w1:World}{G H X nt nc:Nat}{row row':List Nat}{hl Ij:List Bool}{W W':World}(h:YW w1 G H X nt nc row hl W)(hg:X≠G)(hh:X≠H)(lg:w1.heap.size<=G)(lh:w1.heap.size<=H)(hn:NX W G H nt nc row' Ij W'):YW w1 G H X nt nc row' Ij W':=by
 have hX:=an4 W _ h.x0;have hb:W'.heap[X]?=W.heap[X]?:=hn.block X hX hg hh;have hs:=h.below.size;exact⟨(an9 hb).trans h.x0,(an9 hb).trans h.x1,hn.r1,hn.r2,⟨hn.os.trans h.below.os,hn.tape.trans h.below.tape,hn.output.trans h.below.output,ap3 hs (Nat.le_of_lt hn.size),λj hj=>(hn.block j O O O).trans (h.below.block j hj)⟩⟩
theorem Iy(row:List Nat):(xU row).length=row.length:=by simp[xU]
theorem YW.cs{w1:World}{G H X nt nc:Nat}{row:List Nat}{hl:List Bool}{W:World}(h:YW w1 G H X nt nc row hl W)(I:row.length=nt)(M:hl.length=nc):CS W W.heap.size (Ac G 0 nt nt) (Ac H 0 nc nc) (xU row) hl:=by
 refine⟨⟨_,_,by rw[Iy,I],λ_=>⟨G,rfl,(h.r1.lt G rfl).2,λj hj=>?_⟩⟩,⟨_,_,by rw[M],λ_=>⟨H,rfl,(h.r2.lt H rfl).2,λj hj=>?_⟩⟩⟩
 ·have nR:j<row.length:=by rw[Iy]at hj;exact hj
  rw[h.r1.cellAt j O];simp[xU,kN,nR]
 ·rw[h.r2.cellAt j O];simp[hj]
def YI(w1:World)(s:ByteArray)(T C:List (List UInt8))(nt nc G H X r:Nat)(v:Value)(wr:World):Prop:=
 ∃k row j hl,(rws 0 nt)[k]?=some row/\(sZ nc)[j]?=some hl/\r=((rws 0 nt).length-k)*20-j/\v=A ((sumTo (rws 0 nt) (AZ s T C) k+((sZ nc).take j).countP (λhl=>snd T C (xU row) hl&&Ou s (xU row) hl):Nat))/\YW w1 G H X nt nc row hl wr
theorem QX{W:World}{G n e:Nat}{z:Value}(h:W.heap[G]?=some (.cells (madeCells #[z] n) e))(hn:n<=100):W.ownsRow 0 e 1 (Ac G 0 n n) n (List.replicate n z):=by
 have e1:(madeCells #[z] n).toList=List.replicate n z:=toList_madeCells_one _ _;refine⟨R,.inr ⟨G,n,madeCells #[z] n,rfl,ap7 _,h,an2 _,by unfold maxLen;omega,?_,?_⟩⟩
 ·have:=ax1 List.length e1;simpa using this
 ·rw[e1,Nat.mul_one,aq5 R]
theorem abo(w:World)(s:ByteArray)(hs:s.size<=100)(τ:St)(HT:Hid (iV s=τ))(hE:τ.E=0)(hlt:¬τ.a<s.size)(h0:0<τ.T.length)(h7:τ.T.length<=7)(h4:τ.C.length<=4)(hG:Y6 τ.T τ.C) :
  Calls prog 42 #[.string s] w λe w'=>e=.returned (.tuple #[A (aaX s τ.T τ.C),A 0])/\Ag w w':=by
 have HR:=F (Eo w s hs τ HT hE hlt h7 h4);have HS:=F (fun(w1:World) (cl:List Int) (hl:List Bool) (k1 k2 v4 v5:Value) I M h=>IQ w1 w.heap.size τ.T τ.C cl hl k1 k2 v4 v5 hG h7 h4 I M h);have HV:=F (fun(w1:World) (cl:List Int) (hl:List Bool) (k1 k2:Value) I M h=>QC w1 s k1 k2 cl hl hs (by rw[Z HT];exact hE) (by rw[Z HT];exact I) (by rw[Z HT];exact M) h);have Tq:=afy s τ.T τ.C h4;have HDL:=F Tq;obtain⟨N,hN⟩:∃N,aaX s τ.T τ.C=N:=⟨_,rfl⟩;rw[hN];have HN:=F hN;obtain⟨nt,Bc⟩:∃nt,τ.T.length=nt:=⟨_,rfl⟩;obtain⟨nc,UH⟩:∃nc,τ.C.length=nc:=⟨_,rfl⟩;rw[Bc]at h0 h7;rw[UH]at h4;have Qg:=F Bc;have HNC:=F UH;have HMI:Hid (∀W:World,(Instr.makeSlice 164 (A (nt:Int)) (A (nt:Int))).run prog W=.ok (Ac W.heap.size 0 nt nt) (W.alloc (.cells (madeCells #[A 0] nt) 3))):=λW=>
  run_make_row' (P:=prog) 164 3 (A 0) 8 underlying164 Sm rfl .i64 .i64 nt O O W
 have HMK:Hid (∀W:World,(Instr.makeSlice 54 (A (nc:Int)) (A (nc:Int))).run prog W=.ok (Ac W.heap.size 0 nc nc) (W.alloc (.cells (madeCells #[.bool false] nc) 4))):=λW=>
  run_make_row' (P:=prog) 54 4 (.bool false) 1 underlying54 Jw rfl .i64 .i64 nc O O W
 go_in
 go_wp2_with fail
 refine(Z HR).mono ?_;rintro e w1 ⟨rfl,I,hI⟩;obtain⟨v4,v5,c4,c5,r4,r5,_⟩:=hI.rows;have jL:=hI.lt;obtain⟨a4,p4,rfl⟩:=bD r4;obtain⟨a5,p5,rfl⟩:=bD r5;have R4:=F (fO r4 (ap7 _));have R5:=F (fO r5 (ap7 _));rw[Z Qg]at c4;rw[Z HNC]at c5;have hI:mW w1 nt nc none none none w1:=⟨aq1 _ _,λ_ e=>(by cases e),λ_ e=>(by cases e),λ_ e=>(by cases e)⟩
 go_wp2_with fail
 refine Code.wp_mono (Q:=λe a W'=>e=.normal/\∃(G H X:Nat),a={tmps:=#[.string s,undef,A 0,A 0,Aa w.heap.size 0,A 0,A 0,Aa X 0,undef,undef,undef,undef,.tuple #[Aa w.heap.size 0,A 0,A 0],.string s,.tuple #[Aa w.heap.size 0,A 0,A 0],Aa w.heap.size 0,A 0,A 0,A 0,.bool false,undef,Aa w.heap.size 0,Aa w.heap.size 0,Aa w.heap.size 4,.slice a4 nt p4,A nt,Ac G 0 nt nt,Aa w.heap.size 0,Aa w.heap.size 0,Aa w.heap.size 5,.slice a5 nc p5,A nc,Ac H 0 nc nc,.agg #[Ac G 0 nt nt,Ac H 0 nc nc],undef,undef,undef,undef,undef,undef,undef,undef,undef,undef,undef,undef,undef,undef,undef],defers:=[]}/\agq w1 nt nc G H X W') ?_ ?_
 rotate_left
 ·refine aq8 (S:=λW'=>W'.cell? (J w.heap.size 4)=some (.slice a4 nt p4)/\W'.cell? (J w.heap.size 5)=some (.slice a5 nc p5)) rfl ?_;simp only[ao5,ao1,ap0,Nat.reduceAdd,an7,an6,ao6,ao8,ao7];have hI:=hI.grow ((aq1 _ w1).drew);change wpAnyH prog .any _ _ _ _ _ _ w1.drew;generalize w1.drew=W at hI ⊢;have aA:=hI.seen c4 c5;refine tH 0 (Aa w.heap.size 0) (λw' hS=>?_) aA ?_
  ·obtain⟨s1,s2⟩:=hS;go_simp
  simp only[aF];refine tH 1 (Aa w.heap.size 0) (λw' hS=>?_) aA ?_
  ·obtain⟨s1,s2⟩:=hS;go_simp
  simp only[aF];refine tH 2 (Aa w.heap.size 4) (λw' hS=>?_) aA ?_
  ·obtain⟨s1,s2⟩:=hS;go_simp
  simp only[aF];refine tH 3 (.slice a4 nt p4) (λw' hS=>?_) aA ?_
  ·obtain⟨s1,s2⟩:=hS;go_simp
  simp only[aF];refine tH 4 (A nt) (λw' hS=>?_) aA ?_
  ·obtain⟨s1,s2⟩:=hS;go_simp
  simp only[aF];refine tH 6 (Aa w.heap.size 0) (λw' hS=>?_) aA ?_
  ·obtain⟨s1,s2⟩:=hS;go_simp
  simp only[aF];refine tH 7 (Aa w.heap.size 0) (λw' hS=>?_) aA ?_
  ·obtain⟨s1,s2⟩:=hS;go_simp
  simp only[aF];refine tH 8 (Aa w.heap.size 5) (λw' hS=>?_) aA ?_
  ·obtain⟨s1,s2⟩:=hS;go_simp
  simp only[aF];refine tH 9 (.slice a5 nc p5) (λw' hS=>?_) aA ?_
  ·obtain⟨s1,s2⟩:=hS;go_simp
  simp only[aF];refine tH 10 (A nc) (λw' hS=>?_) aA ?_
  ·obtain⟨s1,s2⟩:=hS;go_simp
  simp only[aF]
  repeat'
   first
   |(show pz _ _ _ _ _ _ _ 5 _ _
     refine oO (λK hK=>?_);have dD:=hI.s3;have wC:=Z HMI W;go_simp;refine hK.out _ _ ⟨dD.seen c4 c5,?_⟩;generalize W.alloc (.cells (madeCells #[A 0] nt) 3)=W2 at dD ⊢;generalize W.heap.size=G at dD ⊢
     rename World=>W
     have hI:=dD;clear dD)
   |(show pz _ _ _ _ _ _ _ 11 _ _
     refine oO (λK hK=>?_);have dD:=hI.s6;have wC:=Z HMK W;go_simp;refine hK.out _ _ ⟨dD.seen c4 c5,?_⟩;generalize W.alloc (.cells (madeCells #[.bool false] nc) 4)=W2 at dD ⊢;generalize W.heap.size=H at dD ⊢
     rename World=>W
     have hI:=dD;clear dD)
   |(show pz _ _ _ _ _ _ _ 12 _ _
     refine oO (λK hK=>?_);go_simp;refine hK.out _ _ ⟨hI.seen c4 c5,?_⟩;clear hK K)
   |(show pz _ _ _ _ _ _ _ 13 _ _
     refine oO (λK hK=>?_);have dD:=hI.s8;go_simp;refine hK.out _ _ ⟨dD.seen c4 c5,?_⟩;generalize W.alloc (.cells #[.slice none 0 0,.slice none 0 0] 166)=W2 at dD ⊢;generalize W.heap.size=X at dD ⊢
     rename World=>W
     have hI:=dD;clear dD)
   |(show pz _ _ _ _ _ _ _ 14 _ _
     refine oO (λK hK=>?_);have cx:=(hI.i8 X rfl).2;have cx0:W.cell? (J X 0)=some (.slice none 0 0):=(by rw[Lib.cell_of_heap cx];rfl);have cx1:W.cell? (J X 1)=some (.slice none 0 0):=(by rw[Lib.cell_of_heap cx];rfl);have fx0:W.frozen? (J X 0)=false:=Lib.frozen_of_heap cx 0;have fx1:W.frozen? (J X 1)=false:=Lib.frozen_of_heap cx 1;go_simp;exact hK.out _ _ ⟨hI.aiv c4 c5,ar2 (by kernel_rfl) ⟨rfl,G,H,X,rfl,hI.fin⟩ _⟩)
   |(show wpAnyH _ _ _ _ _ 5 _ _ _;have h:mW _ _ _ none none none W:=hI;clear h;refine a3 5 11 13 ?_ ?_ ?_)
   |(show wpAnyH _ _ _ _ _ 4 _ _ _;have h:mW _ _ _ (some _) none none W:=hI;clear h;refine a2 11 13 ?_ ?_)
   |(show wpAnyH _ _ _ _ _ 4 _ _ _;have h:mW _ _ _ none (some _) none W:=hI;clear h;refine a2 5 13 ?_ ?_)
   |(show wpAnyH _ _ _ _ _ 4 _ _ _;have h:mW _ _ _ none none (some _) W:=hI;clear h;refine a2 5 11 ?_ ?_)
   |(show wpAnyH _ _ _ _ _ 3 _ _ _;have h:mW _ _ _ (some _) (some _) none W:=hI;clear h;refine a2 12 13 ?_ ?_)
   |(show wpAnyH _ _ _ _ _ 2 _ _ _;have h:mW _ _ _ (some _) (some _) none W:=hI;clear h;refine a1 13 ?_)
   |(show wpAnyH _ _ _ _ _ 3 _ _ _;have h:mW _ _ _ (some _) none (some _) W:=hI;clear h;refine a1 11 ?_)
   |(show wpAnyH _ _ _ _ _ 3 _ _ _;have h:mW _ _ _ none (some _) (some _) W:=hI;clear h;refine a1 5 ?_)
   |(show wpAnyH _ _ _ _ _ 2 _ _ _;have h:mW _ _ _ (some _) (some _) (some _) W:=hI;clear h;refine a1 12 ?_)
   |(show wpAnyH _ _ _ _ _ 1 _ _ _;have h:mW _ _ _ (some _) (some _) (some _) W:=hI;clear h;refine a1 14 ?_)
 ·rintro e a W ⟨rfl,G,H,X,rfl,hL⟩;dsimp only;have hxg:X≠G:=y8 hL.x hL.g ane;have hxh:X≠H:=y8 hL.x hL.h ane;have hgh:G≠H:=y8 hL.g hL.h ane;have lg:=hL.lg;have lh:=hL.lh;have lx:=hL.lx;have xI:W.cell? (J X 0)=some (Ac G 0 nt nt):=by rw[Lib.cell_of_heap hL.x];rfl
  have nN:W.cell? (J X 1)=some (Ac H 0 nc nc):=by rw[Lib.cell_of_heap hL.x];rfl
  have hY0:YW w1 G H X nt nc (List.replicate nt 0) (List.replicate nc false) W:=⟨xI,nN,by rw[List.map_replicate];exact QX hL.g O,by rw[List.map_replicate];exact QX hL.h O,hL.below⟩;have kU:YI w1 s τ.T τ.C nt nc G H X ((rws 0 nt).length*20) (A 0) W:=⟨0,_,0,_,yu _ _,Ej _,R,by simp[IJ],hY0⟩
  go_wp2_with fail
  go_loopw [8] (λv wr=>∃r,YI w1 s τ.T τ.C nt nc G H X r v wr) (λv wr=>Classical.epsilon λr=>YI w1 s τ.T τ.C nt nc G H X r v wr/\∀m,YI w1 s τ.T τ.C nt nc G H X m v wr->r<=m)
  case atStart=>exact⟨_,kU⟩
  case round=>
   have hsp:=Ua hrel;obtain⟨k,row,j,hl,aS,hhl,hr,rfl,hY⟩:=hsp;have Fe:k<(rws 0 nt).length:=(List.getElem?_eq_some_iff.1 aS).1;have uN:j<(sZ nc).length:=(List.getElem?_eq_some_iff.1 hhl).1;have hgk:(rws 0 nt)[k]=row:=(List.getElem?_eq_some_iff.1 aS).2;have hgj:(sZ nc)[j]=hl:=(List.getElem?_eq_some_iff.1 hhl).2;have OW:row.length=nt:=vO _ _ row (List.mem_of_getElem? aS);have ajI:hl.length=nc:=Qb _ hl (List.mem_of_getElem? hhl);have hle:∀x∈row,x<=100:=λx hx=>by have:=Vd _ _ row (List.mem_of_getElem? aS) x hx;omega
   have ho1:=OA nt 0 k Fe;have ho2:=Y1 nc j uN;rw[hgk]at ho1;rw[hgj]at ho2;have am4:(sZ nc).length<=16:=by
    rw[rY];have h':nc=0\/nc=1\/nc=2\/nc=3\/nc=4:=O;obtain h|h|h|h|h:=h'<;>rw[h]<;>decide
   have Sv:=Bq (rws 0 nt) (AZ s τ.T τ.C) Fe;rw[hgk]at Sv;have amM:=sumTo_le (rws 0 nt) (AZ s τ.T τ.C) (Z HDL) k;have amX:=X0 h7;obtain⟨gg,hgg⟩:∃gg:List Bool->Bool,(λhl=>snd τ.T τ.C (xU row) hl&&Ou s (xU row) hl)=gg:=⟨_,rfl⟩;have Wi:AZ s τ.T τ.C row=(sZ nc).countP gg:=(by unfold AZ;rw[hgg,Z HNC]);have vC:((sZ nc).take (j+1)).countP gg=((sZ nc).take j).countP gg+if gg hl=true then 1 else 0:=by
    rw[aq3,hhl,List.countP_append];simp[az7]
   have am1:((sZ nc).take j).countP gg<=16:=ap3 List.countP_le_length (by rw[ar1];omega);have hgq:gg hl=(snd τ.T τ.C (xU row) hl&&Ou s (xU row) hl):=(by rw[<-hgg]);have mQ:Hid (∀(W3 W4:World) (e:Ending),YW w1 G H X nt nc row hl W3->NP W3 G H row hl e W4->
     (e=.returned (.bool true)/\∃r',r'<(Classical.epsilon λr=>YI w1 s τ.T τ.C nt nc G H X r (A ((sumTo (rws 0 nt) (AZ s τ.T τ.C) k+((sZ nc).take j).countP gg:Nat))) wr/\∀m,YI w1 s τ.T τ.C nt nc G H X m (A ((sumTo (rws 0 nt) (AZ s τ.T τ.C) k+((sZ nc).take j).countP gg:Nat))) wr->r<=m)/\YI w1 s τ.T τ.C nt nc G H X r' (A ((sumTo (rws 0 nt) (AZ s τ.T τ.C) k+((sZ nc).take j).countP gg+if gg hl=true then 1 else 0:Nat))) W4)\/
     (e=.returned (.bool false)/\N=sumTo (rws 0 nt) (AZ s τ.T τ.C) k+((sZ nc).take j).countP gg+(if gg hl=true then 1 else 0)/\Ag w1 W4)):=by
    intro W3 W4 e hy hn;rw[hgg]at hr;unfold NP at hn;rw[ho2,ho1,OW,ajI]at hn;by_cases Td:j+1<(sZ nc).length
    ·rw[ao4 Td,an3 Td]at hn;obtain⟨rfl,hn⟩:=hn;refine Or.inl ⟨rfl,((rws 0 nt).length-k)*20-(j+1),by rw[hr];omega,k,row,j+1,_,aS,an3 Td,rfl,?_,hy.next hxg hxh lg lh hn⟩;rw[hgg,vC,Nat.add_assoc]
    ·rw[an8 Td]at hn;have aX:(sZ nc).countP gg=((sZ nc).take (j+1)).countP gg:=(by rw[aq5 O]);by_cases hkn:k+1<(rws 0 nt).length
     ·rw[ao4 hkn,an3 hkn]at hn;obtain⟨rfl,hn⟩:=hn;refine Or.inl ⟨rfl,((rws 0 nt).length-(k+1))*20,by rw[hr];omega,k+1,_,0,_,an3 hkn,Ej _,R,?_,hy.next hxg hxh lg lh hn⟩;rw[Sv,Wi,aX,vC];simp[Nat.add_assoc]
     ·rw[an8 hkn]at hn;obtain⟨rfl,row',Ij,hn⟩:=hn;refine Or.inr ⟨rfl,?_,(hy.next hxg hxh lg lh hn).below⟩;rw[<-Z HN];unfold aaX;rw[Z Qg,show(rws 0 nt).length=k+1 by omega,Sv,Wi,aX,vC,Nat.add_assoc]
   have hmv:=hY.x0;have VY:=hY.x1;have HY:=F hY;have HGQ:=F hgq;have HRL:=F OW;have HHL:=F ajI;have HLE:=F hle;rw[hgg];have Fb:sumTo (rws 0 nt) (AZ s τ.T τ.C) k+((sZ nc).take j).countP gg<=40000:=O;generalize sumTo (rws 0 nt) (AZ s τ.T τ.C) k+((sZ nc).take j).countP gg=m0 at mQ Fb ⊢;have hsn:uX (wr.alloc (.cells #[Ac G 0 nt nt,Ac H 0 nc nc] 166)) w.heap.size wr.heap.size τ.T τ.C (xU row) hl (Ac G 0 nt nt) (Ac H 0 nc nc) (.slice a4 τ.T.length p4) (.slice a5 τ.C.length p5):=by
    have hb:=(Z HY).below;have fF:Below w1.heap.size w1 (wr.alloc (.cells #[Ac G 0 nt nt,Ac H 0 nc nc] 166)):=hb.alloc hb.size _;have hg:w1.grownBy (wr.alloc (.cells #[Ac G 0 nt nt,Ac H 0 nc nc] 166)) none:=⟨fF.os,fF.tape,fF.output,fF.size,λk hk _=>fF.block k hk⟩;refine⟨?_,?_,by simp[go_sem],by simp[go_sem],(Z R4).kept hg (Classical.em _),(Z R5).kept hg (Classical.em _),((Z HY).cs (Z HRL) (Z HHL)).below ((aq1 _ _).alloc (an2 _) _)⟩
    ·rw[Z Qg];exact hg.cell c4 R
    ·rw[Z HNC];exact hg.cell c5 R
   have hS:=Z HS wr (xU row) hl (Ac G 0 nt nt) (Ac H 0 nc nc) (.slice a4 τ.T.length p4) (.slice a5 τ.C.length p5) (by rw[Iy,Z HRL,Z Qg];exact an2 _) (by rw[Z HHL,Z HNC];exact an2 _) hsn;have hVV:Hid (∀W2:World,YW w1 G H X nt nc row hl W2->Calls prog 85 #[.string s,.agg #[Ac G 0 nt nt,Ac H 0 nc nc]] W2 λe w'=>e=.returned (.bool (Ou s (xU row) hl))/\Ag W2 w'):=λW2 hy=>
    Z HV W2 (xU row) hl (Ac G 0 nt nt) (Ac H 0 nc nc) (by rw[Iy,Z HRL,Z Qg];exact an2 _) (by rw[Z HHL,Z HNC];exact an2 _) (hy.cs (Z HRL) (Z HHL))
   have hNN:Hid (∀W2:World,YW w1 G H X nt nc row hl W2->Calls prog 86 #[.agg #[Ac G 0 nt nt,Ac H 0 nc nc]] W2 (NP W2 G H row hl)):=λW2 hy=>by
    have q:=abm W2 G H row hl (by rw[Z HRL];exact h0) (by rw[Z HRL];exact h7) (by rw[Z HHL];exact h4) (Z HLE) hgh (hy.r1.lt G rfl).2 (hy.r2.lt H rfl).2 (by rw[Z HRL];exact hy.r1) (by rw[Z HHL];exact hy.r2);rw[Z HRL,Z HHL]at q;exact q
   generalize snd τ.T τ.C (xU row) hl=q1 at hS HGQ;generalize Ou s (xU row) hl=q2 at hVV HGQ;generalize gg hl=gh at mQ HGQ
   go_wp2_with fail
   refine hS.mono ?_;rintro e w2 ⟨rfl,fF⟩;have hY2:=(Z HY).step fF;cases q1
   ·have hgf:gh=false:=(by rw[Z HGQ];rfl);subst hgf;have y0:=hY2.x0;have y1:=hY2.x1;have HY2:=F hY2
    go_wp2_with fail
    refine(Z hNN w2 (Z HY2)).mono ?_;rintro e w4 hnp;obtain⟨rfl,r',ng,hyi⟩|⟨rfl,hNe,hbe⟩:=Z mQ w2 w4 e (Z HY2) hnp
    ·go_wp2_with fail
     exact⟨⟨r',by simpa using hyi⟩,J9 (by simpa using hyi) ng⟩
    ·have HNE:=F hNe
     go_wp2_with fail
     refine aq0 (v:=.tuple #[A (m0:Nat),A 0]) (by simp[results,results42,go_sem]) rfl ⟨?_,I.trans (hbe.mono I.size)⟩;have:=Z HNE;rw[show N=m0 by simpa using this]
   ·have y0:=hY2.x0;have y1:=hY2.x1;have HY2:=F hY2
    go_wp2_with fail
    refine(Z hVV w2 (Z HY2)).mono ?_;rintro e w3 ⟨rfl,iR⟩;have hY3:=(Z HY2).step iR;have y0:=hY3.x0;have y1:=hY3.x1;have HY3:=F hY3;cases q2
    ·have hgf:gh=false:=(by rw[Z HGQ];rfl);subst hgf
     go_wp2_with fail
     refine(Z hNN w3 (Z HY3)).mono ?_;rintro e w4 hnp;obtain⟨rfl,r',ng,hyi⟩|⟨rfl,hNe,hbe⟩:=Z mQ w3 w4 e (Z HY3) hnp
     ·go_wp2_with fail
      exact⟨⟨r',by simpa using hyi⟩,J9 (by simpa using hyi) ng⟩
     ·have HNE:=F hNe
      go_wp2_with fail
      refine aq0 (v:=.tuple #[A (m0:Nat),A 0]) (by simp[results,results42,go_sem]) rfl ⟨?_,I.trans (hbe.mono I.size)⟩;have:=Z HNE;rw[show N=m0 by simpa using this]
    ·have hgf:gh=true:=(by rw[Z HGQ];rfl);subst hgf
     go_wp2_with fail
     refine(Z hNN w3 (Z HY3)).mono ?_;rintro e w4 hnp;obtain⟨rfl,r',ng,hyi⟩|⟨rfl,hNe,hbe⟩:=Z mQ w3 w4 e (Z HY3) hnp
     ·go_wp2_with fail
      have aiN:YI w1 s τ.T τ.C nt nc G H X r' (A ((m0:Int)+1)) w4:=(by simpa using hyi);exact⟨⟨r',aiN⟩,J9 aiN ng⟩
     ·have HNE:=F hNe
      go_wp2_with fail
      refine aq0 (v:=.tuple #[A ((m0:Int)+1),A 0]) (by simp[results,results42,go_sem]) rfl ⟨?_,I.trans (hbe.mono I.size)⟩;have hq:=Z HNE;rw[show N=m0+1 by simpa using hq];simp
end
open Go.RowKit
open au (St put Key)
def sV(s:ByteArray):Int×Int:=if s.size<=100/\(chk s).1=0 then((aaX s (iV s).T (iV s).C:Nat),0)else(0,(chk s).1)
theorem count_any(w:World)(s:ByteArray)(hm:s.size<=maxLen) :
  Calls prog 16 #[.string s] w λe w'=>e=.returned (.tuple #[A (sV s).1,A (sV s).2])/\Ag w w':=by
 unfold sV;by_cases h:s.size<=100/\(chk s).1=0
 ·rw[ao4 h];obtain⟨Y,cs,ps,I,M,h3,h4,h5,h6,h7,h8,h9,YK,h11,h12⟩:=ji s h.1 h.2;have h0:0<Y.length:=EN h5 YK h11;have g:=ad4 w s h.1 Y cs ps _ I h0 M h3 h4 h5 h9 YK h11 h12 (λx hx=>h5 x hx);rw[<-all_eq s Y cs ps I h3 h4 h5]at g;rw[h6];exact g
 ·rw[an8 h];exact aaY w s hm (yZ h)
theorem KW(w:World)(s:ByteArray)(hm:s.size<=maxLen) :
  Calls prog 42 #[.string s] w λe w'=>e=.returned (.tuple #[A (sV s).1,A (sV s).2])/\Ag w w':=by
 unfold sV;by_cases h:s.size<=100/\(chk s).1=0
 ·rw[ao4 h];obtain⟨Y,cs,ps,I,M,h3,h4,h5,h6,h7,h8,h9,YK,h11,h12⟩:=ji s h.1 h.2;have hT:(iV s).T=au.texts Y:=by rw[h6]
  have hC:(iV s).C=ctx Y cs:=by rw[h6]
  have h0:0<Y.length:=EN h5 YK h11;exact abo w s h.1 (iV s) (F rfl) (by rw[h6]) (by rw[h6];simp) (by rw[hT,au.aO];exact h0) (by rw[hT,au.aO];exact M) (by rw[hC,show(ctx Y cs).length=cs.length by simp[ctx]];exact h3) (by rw[hT,hC];exact JZ h4 h5 h7 h8)
 ·rw[an8 h];have g:=XB w s hm (by rw[qU];exact yZ h);rw[qU]at g;exact g
theorem Rj(w:World)(n:Int)(s t:ByteArray)(hm:s.size<=maxLen) :
  Calls prog 22 #[.agg #[A 4,A n,.string s,.string t]] w λe w'=>e=.returned (.bool true)/\Ag w w':=by
 have H1:=F (λw=>count_any w s hm);have H2:=F (λw=>KW w s hm);generalize sV s=c at H1 H2;obtain⟨x,E⟩:=c
 go_in
 go_wp2_with fail
 refine((Z H1) _).mono ?_;rintro e w1 ⟨rfl,b1⟩;have hlt:w.heap.size<(w.alloc (.cells #[A 4,A n,.string s,.string t] 61)).heap.size:=R
 have x0:w1.cell? (J w.heap.size 2)=some (.string s):=by rw[b1.cell hlt];exact az4 _ _ _ _ rfl
 go_wp2_with fail
 refine((Z H2) _).mono ?_;rintro e w2 ⟨rfl,b2⟩
 go_wp2_with fail
 refine(Dt _ _).mono ?_;rintro e w3 ⟨rfl,rfl⟩
 go_wp2_with fail
 go_ret
 refine⟨R,?_⟩;have eH:=b1.size;exact(((aq1 w.heap.size w).alloc (an2 _) _).trans (b1.mono R)).trans (b2.mono (by simp at eH;omega))
end Go.Proofs.YthcppbmkacbbiabGreat
