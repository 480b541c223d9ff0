import Derived.Test.YthcppbmkacbbiabGreatVBH
import Derived.Test.YthcppbmkacbbiabGreatVBP
set_option linter.unusedSimpArgs false
set_option maxHeartbeats 4000000
set_option maxRecDepth 100000
namespace Go.Proofs.YthcppbmkacbbiabGreat
open Go.Proofs.Tryz
open Go.RowKit Go.Maps Go.WideMaps
open Sat (View Rule og dN)
open au (Key put fQ aB isAtom cnt bJ jD)
theorem IK(f:Key->Key)(ps:Ai):(tZ f ps).length<=4*ps.length+1:=by
 unfold tZ;have:=Uc f ps ps.length;simp;omega
theorem zT{α:Type}(g:Nat->List α)(c:Nat):∀k,(∀i,i<k->(g i).length<=c)->((List.range k).flatMap g).length<=k*c:=by
 intro k
 induction k with
 |zero=>intro _;simp
 |succ k ih=>
  intro h;rw[iE,ap4,ay2];have I:=ih (λi hi=>h i O);have M:=h k O;omega
theorem YR(f:Key->Key){n:Nat}(h:n<=7):(eqC f n).length<=400:=by
 unfold eqC;have I:=zT (λa=>(List.range n).flatMap λb=>(List.range a).map λc=>[((f (dP a b),false):dw),(f (dP b c),false),(f (dP a c),true)]) 49 n (λa ha=>by
  have M:=zT (λb=>(List.range a).map λc=>[((f (dP a b),false):dw),(f (dP b c),false),(f (dP a c),true)]) 7 n (λb hb=>anf);omega)
 rw[ap4];simp only[au7];omega
theorem YL(f:Key->Key){Y:Ai}(h:Y.length<=7):(fnC f Y).length<=49:=by
 rw[adJ];have I:=zT (λa=>(List.range a).flatMap λb=>Ir f Y a b) 7 Y.length (λa ha=>by
  have M:=qL (λb=>Ir f Y a b) 1 (λb=>Py f Y a b) a;omega)
 omega
theorem Jo(w:World)(GT GC GP:Nat)(Y:Ai)(cs:Ah)(ps:Ai)(h7:Y.length<=7)(h0:0<Y.length)(h4:cs.length<=4)(hp0:0<ps.length)(hp:ps.length<=100)(kE:dS w GT Y)(AA:gZ w GC cs)(Qj:dS w GP ps)
 (qj:bJ Y.length cs.length ps)(hk:jD cs ps)(ht:∀i (hi:i<Y.length),Y[i].2.1<Y.length/\Y[i].2.2<Y.length)(hcs:∀x∈cs,(x.1=80\/x.1=81)/\x.2<Y.length)(hj:6*cnt aB ps+3<=100) :
  Calls prog 58 #[fv GT GC GP Y.length cs.length ps.length] w λe w'=>∃lb BU BS,e=.returned (Aa lb 0)/\LS w.heap.size lb BU BS kF (yV Y.length) (λ_=>False) (oZ Y.length cs ps) (KG Y cs ps) w'/\Ag w w':=by
 have h42:=Og (nt:=Y.length) h7 h4 hj;have hcE:∀a b,a<Y.length->b<Y.length->kF (61,a,b)∈oZ Y.length cs ps:=λa b ha hb=>as9 _ (as9 _ (Gu ha hb));have hcC:∀c (h:c<cs.length),kF (cs[c].1,c,0)∈oZ Y.length cs ps:=λc h=>by
  have h8:=hcs _ (an5 h);rw[jl.other _ (by show cs[c].1≠61;omega)];exact as9 _ (aA1 _ (Gw h))
 unfold fv;obtain⟨W0,Io⟩:∃W0,w.alloc (.cells #[Ac GT 0 Y.length Y.length,Ac GC 0 cs.length cs.length,Ac GP 0 ps.length ps.length] 46)=W0:=⟨_,rfl⟩;have Ql:w.grownBy W0 none:=by rw[<-Io];exact an1 _ _ none
 have b0:W0.heap[w.heap.size]?=some (.cells #[Ac GT 0 Y.length Y.length,Ac GC 0 cs.length cs.length,Ac GP 0 ps.length ps.length] 46 (0,0)):=by rw[<-Io,ap5]
 have kQ:Below w.heap.size w W0:=(But.aC Ql).below (an2 _) (λk _ e=>by cases e);have hnl:=Dy W0 (yV Y.length) (λ_=>False);have afd:w.heap.size<W0.heap.size:=(an0.1 b0).1;have Eu:=F kE;have HRC:=F AA;have HRP:=F Qj
 go_in
 go_wp2_with fail
 refine hnl.mono ?_;rintro e w1 ⟨lb,BU,BS,rfl,D8,hP1,bG⟩;have oI:=bG.size;have k1:=VK.grown bG;have b1:=aZ k1 b0;have NZ:Below w.heap.size w w1:=kQ.trans ((But.aC bG).below O (λk _ e=>by cases e));have q10:w1.cell? (J w.heap.size 0)=some (Ac GT 0 Y.length Y.length):=by rw[cell_of b1];rfl
 have hje:=VF (λ_=>False) W0.heap.size w1 lb BU BS Y.length [] [] D8 hP1 h7 O
 go_wp2_with fail
 refine hje.mono ?_;rintro e w2 ⟨⟨z2,rfl⟩,AU,BQ,oU,su⟩;have b2:=aZ oU b1;have aki:Below w.heap.size w w2:=NZ.trans (BQ.mono O);have q20:w2.cell? (J w.heap.size 0)=some (Ac GT 0 Y.length Y.length):=by rw[cell_of b2];rfl
 have q21:w2.cell? (J w.heap.size 1)=some (Ac GC 0 cs.length cs.length):=by rw[cell_of b2];rfl
 have q22:w2.cell? (J w.heap.size 2)=some (Ac GP 0 ps.length ps.length):=by rw[cell_of b2];rfl
 have hgp:=(Z HRP).1;have oP:=Na (λ_=>False) W0.heap.size w2 lb BU BS kF (yV Y.length) [] [] [] GT GC GP Y.length cs.length ps AU (λk h=>h.elim) vG.nil R R ((Z HRP).below aki hgp) O qj hp0 hp h7 h4 (XU _) O;unfold fv at oP
 go_wp2_with fail
 refine oP.mono ?_;rintro e w3 ⟨⟨z3,rfl⟩,jK,wL,qo,uQ,hK3⟩;rw[ao8]at qo;have Aw:=uQ.size;have b3:=aZ hK3 b2;have al3:Below w.heap.size w w3:=aki.trans (uQ.mono O);have q30:w3.cell? (J w.heap.size 0)=some (Ac GT 0 Y.length Y.length):=by rw[cell_of b3];rfl
 have Tc:=IK kF ps;have hde:=afz (λ_=>False) W0.heap.size w3 lb BU BS kF (yV Y.length) (oZ Y.length cs ps) (tZ kF ps) Y.length ⟨_,jK,wL,qo,QB (λp h=>by cases h) (Rn qj hk) _⟩ (λk h=>h.elim) O (XU _) hcE h0 h7 O O
 go_wp2_with fail
 refine hde.mono ?_;rintro e w4 ⟨⟨z4,rfl⟩,hE4⟩;have hs4:=hE4.size;have b4:=aZ hE4.keep b3;have akh:Below w.heap.size w w4:=al3.trans (hE4.below.mono O);have q40:w4.cell? (J w.heap.size 0)=some (Ac GT 0 Y.length Y.length):=by rw[cell_of b4];rfl
 have hgt:=(Z Eu).1;have ED:(tZ kF ps++eqC kF Y.length).length<=5000:=by
  have:=YR kF h7;rw[ap4];omega
 have hdf:=adX (λ_=>False) W0.heap.size w4 lb BU BS kF (yV Y.length) (oZ Y.length cs ps) (tZ kF ps++eqC kF Y.length) GT Y hE4.ls (λk h=>h.elim) O (XU _) hcE h7 O ED ((Z Eu).below akh hgt) O ht;have HE4:=F hE4
 go_wp2_with fail
 refine hdf.mono ?_;rintro e w5 ⟨⟨z5,rfl⟩,hE5⟩;have hs5:=hE5.size;have b5:=aZ hE5.keep b4;have akg:Below w.heap.size w w5:=akh.trans (hE5.below.mono O);have q51:w5.cell? (J w.heap.size 1)=some (Ac GC 0 cs.length cs.length):=by rw[cell_of b5];rfl
 have hgc:=(Z HRC).1;have hl5:(tZ kF ps++eqC kF Y.length++fnC kF Y).length<=6000:=by
  have:=YL kF h7;rw[ap4];omega
 have hdp:=aaW (λ_=>False) W0.heap.size w5 lb BU BS kF (yV Y.length) (oZ Y.length cs ps) (tZ kF ps++eqC kF Y.length++fnC kF Y) GC Y.length cs hE5.ls (λk h=>h.elim) O (XU _) hcE hcC h7 h4 O hl5 ((Z HRC).below akg hgc) O hcs
 go_wp2_with fail
 refine hdp.mono ?_;rintro e w6 ⟨⟨z6,rfl⟩,hE6⟩;have al2:Below w.heap.size w w6:=akg.trans (hE6.below.mono O);have HE6:=F hE6;have HB6:=F al2
 go_wp2_with fail
 go_ret
 refine⟨lb,BU,BS,rfl,?_,Z HB6⟩;obtain⟨Us,ak,g1,g2,g3⟩:=(Z HE6).ls;exact⟨Us,ak,⟨by obtain⟨rv,r1,r2,r3⟩:=g1.rv;exact⟨rv,r1,r2,λk hk=>ap3 O (r3 k hk)⟩,g1.us,g1.sm,g1.ne,by have:=g1.lo;omega⟩,g2,g3⟩
attribute [local go_sem] Oper.semAt_some
structure FF(Y:Ai)(cs:Ah)(ps:Ai):Prop where
 h7:Y.length<=7
 h0:0<Y.length
 h4:cs.length<=4
 hp0:0<ps.length
 hp:ps.length<=100
 inv:au.Inv Y
 qj:bJ Y.length cs.length ps
 hk:jD cs ps
 ht:∀i (hi:i<Y.length),Y[i].2.1<Y.length/\Y[i].2.2<Y.length
 hcs:∀x∈cs,(x.1=80\/x.1=81)/\x.2<Y.length
 hj:6*cnt aB ps+3<=100
 ha:3*(cnt aB ps+cnt isAtom ps)<=100
def Qi(Y:Ai)(cs:Ah)(ps:Ai)(e:Ending):Prop:=
 (e=.returned (.tuple #[.bool false,.string ⟨#[]⟩])/\¬∃f hl,hl.length=cs.length/\Om f Y cs ps hl)\/
 (∃f hl,hl.length=cs.length/\Om f Y cs ps hl/\e=.returned (.tuple #[.bool true,.string ⟨(wrt f Y.length hl).toArray⟩]))
theorem Ro{nt nc:Nat}{ps:Ai}(qj:bJ nt nc ps)(Bc:nt<=7)(UH:nc<=4)(hp:ps.length<=100){q:Key}(hq:q∈ps):(0<=q.1/\q.1<=255)/\q.2.1<=1000/\q.2.2<=1000:=by
 obtain⟨i,hlt,e⟩:=ar6 hq;have ho:=qj.ok i hlt;rw[e]at ho;obtain⟨a,b,c⟩|⟨a,b,c⟩|⟨a,b,c⟩|⟨a,b,c⟩:=ho
 ·exact⟨O,O,O⟩
 ·have hj:q.1=38\/q.1=124\/q.1=62\/q.1=45:=by simpa[aB,or_assoc]using a
  exact⟨O,O,O⟩
 ·exact⟨O,O,O⟩
 ·exact⟨O,O,O⟩
theorem FF.akX{Y:Ai}{cs:Ah}{ps:Ai}(h:FF Y cs ps){q:Key}(hq:q∈oZ Y.length cs ps):∃l,keyOf prog 82 (bZ q)=some l:=by
 have h7:=h.h7;have h4:=h.h4;have hb:(0<=q.1/\q.1<=255)/\q.2.1<=1000/\q.2.2<=1000:=by
  by_cases jP:q.1=61
  ·obtain e|⟨e1,e2⟩:=Kw h.hcs hq jP
   ·rw[e];simp
   ·exact⟨O,O,O⟩
  ·by_cases h8:q.1=80\/q.1=81
   ·obtain⟨I,M⟩:=Ky hq h8;have h3:q.2.2=0:=(by rw[M]);exact⟨O,O,O⟩
   ·unfold oZ at hq;obtain hq|hq:=aq7.1 hq
    ·obtain hq|hq:=aq7.1 hq
     ·exfalso;unfold sU at hq;obtain e|hq:=ar9.1 hq
      ·rw[e]at jP;exact jP rfl
      ·obtain⟨y,_,hq⟩:=aw5.1 hq;obtain⟨x,_,rfl⟩:=ap6.1 hq;exact jP rfl
     ·exfalso;unfold wO at hq;obtain⟨c,hc,rfl⟩:=ap6.1 hq;have hc:=as2.1 hc;simp only[aU hc]at h8;exact h8 (h.hcs _ (an5 hc)).1
    ·exact Ro h.qj h7 h4 h.hp (as6.1 hq).1
 exact aaj q hb.1 hb.2.1 hb.2.2
theorem FF.key1{Y:Ai}{cs:Ah}{ps:Ai}(h:FF Y cs ps){q:Key}(hq:q∈xA ps):∃l,keyOf prog 82 (bZ q)=some l:=by
 have hb:=Ro h.qj h.h7 h.h4 h.hp (as6.1 hq).1;exact aaj q hb.1 hb.2.1 hb.2.2
theorem aeS(f:Key->Key){cs:Ah}(h:cs.length<=4):(prC f cs).length<=32:=by
 rw[acg];have I:=zT (λa=>(List.range a).flatMap λb=>H9 f cs a b) 8 cs.length (λa ha=>by
  have M:=qL (λb=>H9 f cs a b) 2 (λb=>OE f cs a b) a;omega)
 omega
theorem aep{Y:Ai}{cs:Ah}{ps:Ai}(h7:Y.length<=7)(h4:cs.length<=4)(hp:ps.length<=100):(KG Y cs ps).length<=1000:=by
 have I:=IK kF ps;have M:=YR kF h7;have h3:=YL kF h7;have h5:=aeS kF h4;unfold KG;rw[ap4,ap4,ap4];omega
theorem ais{U:Nat}(h:U<=42):2 ^ U<=4398046511104:=by
 have:=Nat.pow_le_pow_right (n:=2) ane h;exact this
theorem ait{U:Nat}(h:U<=33):2 ^ U<=8589934592:=by
 have:=Nat.pow_le_pow_right (n:=2) ane h;exact this
theorem LG.after{n0:Nat}{w w1 w2:World}{lb BU BS b:Nat}{f:Key->Key}{dom:Key->Prop}{Us:Ai}{ak:List Rule}{X:Nat->Prop}{rv:Value}(h:LG n0 w lb BU BS f dom Us ak X)(I:xE w lb (some BU) (some BS) rv)(M:dM w rv ak)(hg:w.grownBy w1 none)(hb:But (λk=>k=b\/some k=rv.ownBlock) w1 w2)(rQ:w.heap.size<=b) :
  xE w2 lb (some BU) (some BS) rv/\aT w2 82 BU bZ Us:=by
 have GV:=I.lt;have hul:=h.us.lt;have hs:=hg.size;refine⟨(I.kept (hg.block lb GV R)).kept (hb.block lb O (λe=>?_)),(h.us.kept (hg.block BU hul R)).kept (hb.block BU O (λe=>?_))⟩
 ·obtain e|e:=e
  ·omega
  ·obtain⟨vs,⟨_,q⟩,_⟩:=M;obtain⟨rfl,_⟩|⟨g,cap,G9,rfl,q2,q3,q4⟩:=q
   ·cases e
   ·cases e;have:=I.out;rw[q3]at this;simp at this
 ·obtain e|e:=e
  ·omega
  ·exact M.Ji h.us _ e.symm rfl
theorem G5(w:World)(GT GC GP:Nat)(Y:Ai)(cs:Ah)(ps:Ai)(tape:ByteArray)(hF:FF Y cs ps)(hd:Hl tape.data.toList)(h60:tape.size<=60)(kE:dS w GT Y)(AA:gZ w GC cs)(Qj:dS w GP ps) :
  Calls prog 29 #[fv GT GC GP Y.length cs.length ps.length,.string tape] w λe w'=>Qi Y cs ps e/\Ag w w':=by
 obtain⟨w0,kW⟩:∃w0,w.alloc (.cells #[Ac GT 0 Y.length Y.length,Ac GC 0 cs.length cs.length,Ac GP 0 ps.length ps.length] 46)=w0:=⟨_,rfl⟩;have kQ:Below w.heap.size w w0:=by rw[<-kW];exact(aq1 _ w).alloc (an2 _) _
 have xI:w0.heap[w.heap.size]?=some (.cells #[Ac GT 0 Y.length Y.length,Ac GC 0 cs.length cs.length,Ac GP 0 ps.length ps.length] 46 (0,0)):=by rw[<-kW];exact ap5 _ _
 have hs0:w.heap.size<w0.heap.size:=(an0.1 xI).1;have q0:w0.cell? (J w.heap.size 0)=some (Ac GT 0 Y.length Y.length):=by rw[cell_of xI];rfl
 have q1:w0.cell? (J w.heap.size 1)=some (Ac GC 0 cs.length cs.length):=by rw[cell_of xI];rfl
 have q2:w0.cell? (J w.heap.size 2)=some (Ac GP 0 ps.length ps.length):=by rw[cell_of xI];rfl
 have hla:=Jo w0 GT GC GP Y cs ps hF.h7 hF.h0 hF.h4 hF.hp0 hF.hp (kE.below kQ kE.1) (AA.below kQ AA.1) (Qj.below kQ Qj.1) hF.qj hF.hk hF.ht hF.hcs hF.hj;have h42:=Og (nt:=Y.length) hF.h7 hF.h4 hF.hj;have hal:=aep hF.h7 hF.h4 hF.hp;have HF:=F hF;have HD:=F hd;unfold fv at hla ⊢
 go_in
 go_wp2_with fail
 refine hla.mono ?_;rintro e w1 ⟨lb,BU,BS,rfl,⟨Us,ak,wM,EJ,hUc⟩,iD⟩;obtain⟨rv,hL,hRX,yK⟩:=wM.rv;have hRV:=hRX.v;obtain⟨rp,rc,rfl⟩:=hRV.slice;have hUl:Us.length<=42:=ap3 (zD _ Us EJ.lp.nodup hUc) h42;have uM:=F7 w1 lb BU (some BS) rp ak.length rc Us tape 60 #[] hL wM.us;have oI:=iD.size;have HLG:=F wM;have HLP:=F EJ;have HUC:=F hUc;have HL:=F hL;have HRV:=F hRV;have HRO:=F yK;have HB1:=F iD
 go_wp2_with fail
 refine uM.mono ?_;rintro e w2 ⟨rfl,hS,dh⟩;have su:=dh.size;have OW:=(Z HLP).len;have h2U:=ais hUl;have htl:tape.data.toList.length<=60:=h60;have xK:=N8 w2 (λk=>k=w1.heap.size\/some k=(Value.slice rp ak.length rc).ownBlock) w1.heap.size Us.length 5000000000000 60 [] (.slice rp ak.length rc) tape.data.toList ak (λ_=>True) False (λ_=>True) (Jp0 Us.length) (J0 Us.length) (akS Us.length) (tape.data.toList.length+2 ^ Us.length) hS
  ((Z HRV).but (But.aC dh) (λk e=>by cases e) (λk _ e=>by cases e)) (Z HLP).lp.rg (Z HD) O
  ⟨λj hj=>by simp at hj,by
   by_cases e:tape.data.toList=[]
   ·exact Or.inr ⟨e,Or.inl (by simp[e])⟩
   ·exact Or.inl ⟨e,an2 _⟩⟩
  (Or.inl rfl) (λk hk=>Or.inr hk.symm) O (an2 _) (aC1 func60 (by kernel_rfl) rfl)
  (λW m τ _ _ _ _ _=>(FB (some m) W).mono (by
   rintro e w' ⟨rfl,rfl⟩;exact⟨_,[],rfl,Or.inl ⟨rfl,rfl⟩,aq1 _ _,λ_=>trivial,λh=>absurd rfl h⟩))
 have HG2:=F dh
 go_wp2_with fail
 refine xK.mono ?_;rintro e w3 ⟨hE,uQ⟩;obtain⟨hL3,hM3⟩:=(Z HLG).after (Z HL) (Z HRV) (Z HG2) uQ (an2 _);have alQ:Below w0.heap.size w0 w2:=(Z HB1).trans ((But.aC (Z HG2)).below O (λk _ e=>by cases e));have Wq:Below w0.heap.size w0 w3:=alQ.trans (uQ.below O (λk hk e=>by
  obtain e|e:=e
  ·omega
  ·have:=Z HRO k e.symm;omega))
 have iR:Below w.heap.size w w3:=kQ.trans (Wq.mono O);have Ak:=F iR;have akP:=F Wq;obtain⟨rfl,rv',tp',m,τ,dR,hFI,aX,Ar,nD,_⟩|⟨rfl,ny⟩:=hE
 ·have afe:=Zd (Z HF).qj (Z HF).hk (Z HF).hp0 (Z HF).h0 (Z HF).ht (Z HF).hcs (Z HLP) (Z HUC) nD Ar aX hFI.lt;have agV:=hFI.Ey.cells.2.2.2.2;have OV:=hFI.Ey.lt;have hlen:=JF (jr Us τ) cs.length;have hBM:=hFI.bs.m;have wu:Hid (∀W,Below w3.heap.size w3 W->Calls prog 63 #[Aa lb 0,.map (some m)] W λe w'=>∃v,e=.returned v/\kC w' v (jr Us τ)/\Ag W w'):=λW hW=>
   yj W lb BU m (some BS) (.slice rp ak.length rc) Us τ (hL3.kept (hW.block lb hL3.lt)) (hM3.kept (hW.block BU hM3.lt)) (Z HLP).lp.nodup O (λx hx=>(Z HF).akX (Z HUC x hx)) (hBM.kept (hW.block m hBM.lt)) hFI.lt aX
  have agU:∀s∈jr Us τ,(s.2.2.1=61->s.2.2.2.1<Y.length/\s.2.2.2.2<Y.length)/\(s.2.2.1≠61->s.2.2.2.1<cs.length):=λs hs=>by
   obtain⟨g1,g2,_,_⟩:=Bz (Z HLP).lp.nodup hs;have hc:=Z HUC _ g1;have h0:=(Z HF).h0;refine⟨λjP=>?_,λjP=>?_⟩
   ·obtain e|⟨e1,e2⟩:=Kw (Z HF).hcs hc jP
    ·rw[e];exact⟨h0,h0⟩
    ·exact⟨O,e2⟩
   ·obtain⟨I,_⟩:=Ky hc (by simp only[isAtom,as7]at g2;omega);exact I
  have ac6:(jr Us τ).length<=1000:=ap3 (yt Us τ Us.length) O;have HMD:=F afe;have aex:=F agU;generalize jr Us τ=ss at wu HMD aex ac6 hlen;have wK:Hid (∀W',Below w3.heap.size w3 W'->W'.cell? (J w.heap.size 0)=some (Ac GT 0 Y.length Y.length)/\W'.cell? (J w.heap.size 1)=some (Ac GC 0 cs.length cs.length)/\W'.cell? (J w.heap.size 2)=some (Ac GP 0 ps.length ps.length)/\W'.cell? (J w1.heap.size 4)=some (.map (some m))):=λW' hW=>by
   have hb:=(Z akP).trans (hW.mono (Z akP).size);have hx:=(hb.block w.heap.size hs0).trans xI;exact⟨by rw[cell_of hx];rfl,by rw[cell_of hx];rfl,by rw[cell_of hx];rfl,(hW.cell (p:=(J w1.heap.size 4)) OV).trans agV⟩
  have pR:=F hlen
  go_wp2_with fail
  refine aq8 (S:=λW'=>Below w3.heap.size w3 W') rfl ?_;have aA:Below w3.heap.size w3 w3.drew:=(aq1 _ _).drew;simp only[ao5,ao1,ap0,Nat.reduceAdd,an7,an6,ao6,ao8,ao7];change wpAnyH prog .any _ _ _ _ _ _ w3.drew;refine tH 0 (.agg #[Ac GT 0 Y.length Y.length,Ac GC 0 cs.length cs.length,Ac GP 0 ps.length ps.length]) (λw' hS=>?_) aA ?_
  ·obtain⟨s1,s2,s3,s4⟩:=Z wK _ hS;go_simp
  simp only[aF];refine tH 1 (.agg #[Ac GT 0 Y.length Y.length,Ac GC 0 cs.length cs.length,Ac GP 0 ps.length ps.length]) (λw' hS=>?_) aA ?_
  ·obtain⟨s1,s2,s3,s4⟩:=Z wK _ hS;go_simp
  simp only[aF];refine dF 2 (Aa lb 0) aA ?_
  simp only[aF];refine dF 3 (Aa w1.heap.size 0) aA ?_
  simp only[aF];refine dF 4 (Aa w1.heap.size 0) aA ?_
  simp only[aF];refine dF 5 (Aa w1.heap.size 4) aA ?_
  simp only[aF];refine tH 6 (.map (some m)) (λw' hS=>?_) aA ?_
  ·obtain⟨s1,s2,s3,s4⟩:=Z wK _ hS;go_simp
  simp only[aF];refine oH 7 (λK hK=>?_);go_simp;refine(Z wu _ aA).mono ?_;rintro e w4 ⟨v,rfl,NM,sD⟩;replace aA:=aA.trans (sD.mono aA.size);refine hK.out _ _ aA ?_;obtain⟨vp,vc,rfl,_⟩:=id NM;have aax:=wX GT GC GP Y.length cs.length ps.length _ ss w4 (Z HF).h7 (Z HF).h4 NM ac6 (Z aex);unfold fv sv at aax;refine oH 8 (λK hK=>?_);go_simp;refine(aax).mono ?_;rintro e w5 ⟨b,H,rfl,hH,hJ,mO⟩;replace aA:=aA.trans (hJ.below.mono aA.size);refine hK.out _ _ aA ?_;obtain⟨cm,hm,_⟩:=hJ.m;have uG:=xY GT GC GP Y.length cs.length ps.length b cm H (cZ (ss.map fM)) (rJ ss cs.length) w5 (Z HF).h7 (by rw[Z pR];exact(Z HF).h4) (λi hi=>(hJ.roots i hi).1) hm mO;unfold fv sv at uG;rw[Z pR]at uG;have HS0:=F aA;refine oH 9 (λK hK=>?_);go_simp;refine(uG).mono ?_;rintro e w6 ⟨rfl,hb6⟩;replace aA:=(Z HS0).trans (hb6.mono (Z HS0).size);refine hK.out _ _ aA ?_;refine oH 10 (λK hK=>?_);go_simp;replace aA:=aA;refine hK.out _ _ aA ?_;refine oH 11 (λK hK=>?_);go_simp;refine hK.out _ _ (aA) (ar2 (by kernel_rfl) ?_ _);have HS6:=F aA
  go_wp2_with fail
  refine aq0 (v:=.tuple #[.bool true,.string ⟨(wrt (cZ (ss.map fM)) Y.length (rJ ss cs.length)).toArray⟩]) (by simp[results,results29,go_sem]) rfl ⟨Or.inr ⟨_,_,Z pR,Z HMD,rfl⟩,(Z Ak).trans ((Z HS6).mono (Z Ak).size)⟩
 ·have adh:=Zc (Z HF).qj (Z HF).hp0 (Z HF).h0 (Z HF).ht (Z HF).hcs (Z HLP) ny;have HN:=F adh
  go_wp2_with fail
  refine aq0 (v:=.tuple #[.bool false,.string ⟨#[]⟩]) (by simp[results,results29,go_sem]) rfl ⟨Or.inl ⟨rfl,Z HN⟩,Z Ak⟩
def Y7(Y:Ai)(cs:Ah)(Us:Ai)(τ:List Tr):Prop:=
 ∃f',Closed Y (cZ ((jr Us τ).map fM)) f'/\cb f' cs ((jr Us τ).map fM)
theorem FD(W:World)(GT GC GP xf xl lb BU m:Nat)(ms:Option Nat)(rv:Value)(Y:Ai)(cs:Ah)(ps Us:Ai)(τ:List Tr)(hF:FF Y cs ps)(hU:Us.length<=33)(iL:Us.Nodup)(hUc:∀p∈Us,p∈xA ps)
 (kE:dS W GT Y)(AA:gZ W GC cs)(LW:W.heap[xf]?=some (.cells #[Ac GT 0 Y.length Y.length,Ac GC 0 cs.length cs.length,Ac GP 0 ps.length ps.length] 46 (0,0)))
 (hxl:W.heap[xl]?=some (.cells #[Aa lb 0] 124 (0,0)))(hL:xE W lb (some BU) ms rv)(hM:aT W 82 BU bZ Us)(hB:rZ W m τ)(hlt:∀q∈τ,q.1<Us.length)(aX:∀x,x<Us.length->sS τ x=true) :
  Calls prog 66 #[.map (some m),Aa xf 0,Aa xl 0] W λe W'=>∃v r,e=.returned v/\bQ W' v r/\Ag W W'/\(r=[]->Y7 Y cs Us τ)/\
   (r≠[]->True/\r.Nodup/\r.length<=1000/\(∀u∈r,u.1<Us.length/\Sat.wrong (bel τ) u)/\∀α,Th1 Y cs Us α->Sat.keeps α r):=by
 have Ar:=IV (τ:=τ) hF.qj hF.hk hUc iL (λs hs=>hs);have hfl:=(an0.1 LW).1;have GV:=(an0.1 hxl).1;have wu:Hid (∀W',Below W.heap.size W W'->Calls prog 63 #[Aa lb 0,.map (some m)] W' λe w'=>∃v,e=.returned v/\kC w' v (jr Us τ)/\Ag W' w'):=λW' hW=>
  yj W' lb BU m ms rv Us τ (hL.kept (hW.block lb hL.lt)) (hM.kept (hW.block BU hM.lt)) iL O (λx hx=>hF.key1 (hUc x hx)) (hB.kept (hW.block m hB.lt)) hlt aX
 have OV:(jr Us τ).length<=100:=ap3 (yt Us τ Us.length) O;have ag4:Hid (∀W' v,Below W.heap.size W W'->kC W' v (jr Us τ)->Calls prog 67 #[fv GT GC GP Y.length cs.length ps.length,v] W' λe w'=>∃v' r,e=.returned v'/\bQ w' v' r/\Ag W' w'/\(r=[]->Y7 Y cs Us τ)/\
   (r≠[]->True/\r.Nodup/\r.length<=1000/\(∀u∈r,u.1<Us.length/\Sat.wrong (bel τ) u)/\∀α,Th1 Y cs Us α->Sat.keeps α r)):=λW' v hW hs=>by
  refine(LV GT GC GP ps.length Y cs v (jr Us τ) W' hF.h7 hs OV (kE.below hW kE.1) (AA.below hW AA.1) hF.inv hF.ht hF.hcs Ar).mono ?_;rintro e w' ⟨v',r,rfl,hr,hb,h⟩;refine⟨v',r,rfl,hr,hb,?_,?_⟩
  ·intro hr0;obtain⟨_,f',I,M⟩|⟨S,hS,rfl,f',I,M⟩:=h
   ·exact⟨f',I,M⟩
   ·have:S=[]:=List.map_eq_nil_iff.1 hr0;subst this;exact absurd (ahX _ _) M
  ·intro hr0;obtain⟨h,_⟩|⟨S,hS,rfl,f',I,M⟩:=h
   ·exact absurd h hr0
   ·have hm:∀s∈S,s∈jr Us τ:=λs hs=>hS.subset hs;refine⟨trivial,ZV ((Vb Us τ).sublist (hS.map _)),?_,ZR aX hm,λα hα=>ZT hF.qj hF.hk hUc iL hF.hcs hm I M α hα⟩;rw[au3];have:=hS.length_le;omega
 have wK:Hid (∀W',Below W.heap.size W W'->W'.cell? (J xf 0)=some (Ac GT 0 Y.length Y.length)/\W'.cell? (J xf 1)=some (Ac GC 0 cs.length cs.length)/\W'.cell? (J xf 2)=some (Ac GP 0 ps.length ps.length)/\W'.cell? (J xl 0)=some (Aa lb 0)):=λW' hW=>by
  have hx:=(hW.block xf hfl).trans LW;have hy:=(hW.block xl GV).trans hxl;exact⟨by rw[cell_of hx];rfl,by rw[cell_of hx];rfl,by rw[cell_of hx];rfl,by rw[cell_of hy];rfl⟩
 generalize Y7 Y cs Us τ=Gd at ag4 ⊢;unfold fv at ag4
 go_in
 go_wp2_with fail
 refine aq8 (S:=λW'=>Below W.heap.size W W') rfl ?_;have aA:Below W.heap.size W W.drew:=(aq1 _ _).drew;simp only[ao5,ao1,ap0,Nat.reduceAdd,an7,an6,ao6,ao8,ao7];change wpAnyH prog .any _ _ _ _ _ _ W.drew;refine tH 0 (.agg #[Ac GT 0 Y.length Y.length,Ac GC 0 cs.length cs.length,Ac GP 0 ps.length ps.length]) (λw' hS=>?_) aA ?_
 ·obtain⟨s1,s2,s3,s4⟩:=Z wK _ hS;go_simp
 simp only[aF];refine tH 1 (Aa lb 0) (λw' hS=>?_) aA ?_
 ·obtain⟨s1,s2,s3,s4⟩:=Z wK _ hS;go_simp
 simp only[aF];refine dF 2 (.map (some m)) aA ?_
 simp only[aF];refine oH 3 (λK hK=>?_);go_simp;refine(Z wu _ aA).mono ?_;rintro e w4 ⟨v,rfl,NM,sD⟩;replace aA:=aA.trans (sD.mono aA.size);refine hK.out _ _ aA ?_;refine oH 4 (λK hK=>?_);go_simp;refine(Z ag4 _ _ aA NM).mono ?_;rintro e w5 ⟨v5,r5,rfl,JD,AP,AO,hn5⟩;replace aA:=aA.trans (AP.mono aA.size);refine hK.out _ _ aA ?_;have XE:=F aA;have HR5:=F JD;have HG5:=F AO;have HN5:=F hn5;obtain⟨rp5,rc5,rfl⟩:=JD.len;refine oH 5 (λK hK=>?_);go_simp;refine hK.out _ _ (aA) (ar2 (by kernel_rfl) ?_ _)
 go_wp2_with fail
 refine aq0 (v:=.slice rp5 r5.length rc5) (by simp[results,results66,go_sem]) rfl ?_;exact⟨_,r5,rfl,Z HR5,Z XE,Z HG5,Z HN5⟩
end Go.Proofs.YthcppbmkacbbiabGreat
