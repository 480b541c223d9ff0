import Derived.Test.YthcppbmkacbbiabGreatVBL
set_option linter.unusedSimpArgs false
set_option maxHeartbeats 4000000
set_option maxRecDepth 100000
namespace Go.Proofs.YthcppbmkacbbiabGreat
open Go.Proofs.Tryz
open Go.RowKit Go.Maps Go.WideMaps
open Sat (View Rule og dN)
open au (Key put isAtom)
attribute [local go_sem] Oper.semAt_some
def GK(ss:List pV):List Value:=ss.flatMap PI
theorem abV(ss:List pV)(s:pV):GK (ss++[s])=GK ss++PI s:=by simp[GK]
theorem OT:(prog.info? 210).map (λi=>(i.zero,i.size,i.bytes))=some (some (.agg #[A 0,.bool false,Ae 0,A 0,A 0]),5,40):=by kernel_rfl
structure MV(w:World)(G X6 U:Nat)(qw:Array Value)(ss:List pV)(W:World):Prop where
 x5:∃v,W.heap[w.heap.size]?=some (.cells #[v] 133 (0,0))/\W.ownsRow w.heap.size 210 5 v ss.length (GK ss)/\(v=.slice none 0 0↔ss=[])
 x6:W.heap[X6]?=some (.cells #[Ac G 0 U U] 44 (0,0))
 g:W.heap[G]?=some (.cells qw 82 (0,0))
 below:Below w.heap.size w W
theorem MV.grow{w:World}{G X6 U:Nat}{qw:Array Value}{ss:List pV}{W W':World}{row:Option Nat}(h:MV w G X6 U qw ss W)(hg:W.grownBy W' row)(hr:∀r,row=some r->w.heap.size<=r/\∃o:Obj,W.heap[r]?=some o/\o.isCells=false):MV w G X6 U qw ss W':=by
 obtain⟨v,I,M,h3⟩:=h.x5;have ng:∀r,row=some r->∃o:Obj,W.heap[r]?=some o/\o.isCells=false:=λr e=>(hr r e).2;have keep:∀(j:Nat) (cur:Array Value) (t:TypeId) (x:Nat×Nat),W.heap[j]?=some (.cells cur t x)->W'.heap[j]?=some (.cells cur t x):=λj cur t x hj=>by
  refine(hg.block j (an0.1 hj).1 (λe=>?_)).trans hj;obtain⟨o,ho,hc⟩:=ng j e.symm;rw[hj]at ho;cases ho;cases hc
 exact⟨⟨v,keep _ _ _ _ I,ou M hg ng,h3⟩,keep _ _ _ _ h.x6,keep _ _ _ _ h.g,h.below.grown hg h.below.size (λk e=>(hr k e).1)⟩
theorem MV.keeps{w:World}{W W2 W3:World}{v v':Value}{ss:List pV}(hx:W.heap[w.heap.size]?=some (.cells #[v] 133 (0,0)))(hg:W.grownBy W2 none)(dY:W2.grownBy W3 v.ownBlock)
 (hr:W.ownsRow w.heap.size 210 5 v ss.length (GK ss)):∀(j:Nat) (o:Obj),W.heap[j]?=some o->(∀cur x,o≠Obj.cells cur 210 x)->(∀cur x,o≠Obj.cells cur 133 x)->(W3.setCell (J w.heap.size 0) v').heap[j]?=some o:=by
 intro j o I M h3;have uN:=(an0.1 I).1;have hj5:j≠w.heap.size:=λe=>by
  subst e;rw[hx]at I;cases I;exact h3 _ _ rfl
 rw[ao9 _ _ _ _ hj5];refine(dY.block j (ap2 uN hg.size) (λe=>?_)).trans ((hg.block j uN R).trans I);obtain⟨rfl,_⟩|⟨g,cap,cur,rfl,hb,fD,_⟩:=hr.2
 ·cases e
 ·simp only[Value.ownBlock,as4]at e;subst e;rw[I]at fD;cases fD;exact M _ _ rfl
theorem MV.mid{w:World}{ss:List pV}{W W2 W3:World}{v:Value}(hx:W.heap[w.heap.size]?=some (.cells #[v] 133 (0,0)))(hg:W.grownBy W2 none)(dY:W2.grownBy W3 v.ownBlock)
 (hr:W.ownsRow w.heap.size 210 5 v ss.length (GK ss)):W3.heap[w.heap.size]?=some (.cells #[v] 133 (0,0)):=by
 have uN:=(an0.1 hx).1;refine(dY.block _ (ap2 uN hg.size) (λe=>?_)).trans ((hg.block _ uN R).trans hx);obtain⟨rfl,_⟩|⟨g,cap,cur,rfl,hb,fD,_⟩:=hr.2
 ·cases e
 ·simp only[Value.ownBlock,as4]at e;rw[<-e,hx]at fD;simp at fD
theorem MV.app{w:World}{G X6 U:Nat}{qw:Array Value}{ss:List pV}{W W2 W3:World}{v v':Value}{s:pV}(h:MV w G X6 U qw ss W)(hx:W.heap[w.heap.size]?=some (.cells #[v] 133 (0,0)))(hg:W.grownBy W2 none)(dY:W2.grownBy W3 v.ownBlock)
 (hr:W.ownsRow w.heap.size 210 5 v ss.length (GK ss))(UG:W3.ownsRow w.heap.size 210 5 v' (ss.length+1) (GK ss++PI s))(hn:v'≠.slice none 0 0):MV w G X6 U qw (ss++[s]) (W3.setCell (J w.heap.size 0) v'):=by
 have keep:=MV.keeps (v':=v') hx hg dY hr;have k5:=MV.mid hx hg dY hr;refine⟨⟨v',by rw[heap_setCell_same k5];rfl,?_,?_⟩,keep _ _ h.x6 (λcur x e=>by simp at e) (λcur x e=>by simp at e),keep _ _ h.g (λcur x e=>by simp at e) (λcur x e=>by simp at e),?_⟩
 ·rw[ap4,abV];refine UG.kept (grownBy_setCell' W3 w.heap.size _) ?_;obtain⟨e,_⟩|⟨g,cap,cur,rfl,hb,fD,_⟩:=UG.2
  ·exact absurd e hn
  ·refine Or.inr (λe=>?_);simp only[Value.ownBlock,as4]at e;rw[show g=w.heap.size by omega,k5]at fD;simp at fD
 ·constructor
  ·intro e;exact absurd e hn
  ·intro e;simp at e
 ·refine((h.below.grown hg h.below.size (λk e=>by cases e)).grown dY (by have:=h.below.size;have:=hg.size;omega) (λk e=>(hr.lt k e).1)).setCell (an2 _) _
theorem Zx{τ:List Tr}{U:Nat}(hn:(τ.map (·.1)).Nodup)(hlt:∀q∈τ,q.1<U)(aX:∀x,x<U->sS τ x=true):Rkd (λx _=>(x:Int)) τ (List.range U):=by
 refine⟨?_,λi j hi hj hij=>?_⟩
 ·rw[List.perm_ext_iff_of_nodup List.nodup_range hn];intro x;rw[as2];constructor
  ·intro hx;have:=aX x hx;refine aq4 λhm=>?_;unfold sS at this;rw[oW.2 hm]at this;cases this
  ·intro hx;obtain⟨q,hq,rfl⟩:=ap6.1 hx;exact hlt q hq
 ·simp only[List.getElem_range];omega
theorem FY{W:World}{base:Nat}{v:Value}{ss:List pV}(h:W.ownsRow base 210 5 v ss.length (GK ss)):kC W v ss:=by
 obtain⟨rfl,e0⟩|⟨g,cap,cur,rfl,hb,fD,I,M,h3,h4⟩:=h.2
 ·refine⟨none,0,by rw[e0],O,λbg=>?_⟩;have:ss=[]:=aq9 e0;exact absurd this bg
 ·refine⟨_,cap,rfl,O,λbg=>⟨g,0,cur,(0,0),rfl,fD,λi hi j hj=>?_⟩⟩;have h5:(cur.toList.take (ss.length*5))[i*5+j]?=(GK ss)[i*5+j]?:=by rw[h4]
  rw[av5,ao4 O]at h5;rw[show cur[0+i*5+j]?=cur.toList[i*5+j]? by simp,h5];exact flat_get (k:=5) (λ_=>rfl) ane ss i hi j hj
theorem Jf(w:World)(x:Nat)(i:Bool)(c:Int)(a b:Nat)(t:TypeId)(n:Nat)(hn:w.heap.size=n):∀j u,(PI (x,i,c,a,b))[j]?=some u->(w.alloc (.cells #[.int .i64 x,.bool i,.int .u8 c,.int .i64 a,.int .i64 b] t)).cell? ((⟨n,0,none⟩:Addr).add j)=some u:=by
 subst hn;intro j u hj
 match j,hj with
 |0,hj=>simp[PI]at hj;subst hj;simp[go_sem,Addr.add]
 |1,hj=>simp[PI]at hj;subst hj;simp[go_sem,Addr.add]
 |2,hj=>simp[PI]at hj;subst hj;simp[go_sem,Addr.add]
 |3,hj=>simp[PI]at hj;subst hj;simp[go_sem,Addr.add]
 |4,hj=>simp[PI]at hj;subst hj;simp[go_sem,Addr.add]
 |j+5,hj=>simp[PI]at hj
theorem aeY(s:pV):∀v∈PI s,v.oneCell'=true:=by
 intro v hv;simp[PI]at hv;obtain rfl|rfl|rfl|rfl|rfl:=hv<;>rfl
structure SyR(w:World)(G X6 h2 m:Nat)(Us:Ai)(qw:Array Value)(τ:List Tr)(k:Nat)(W:World):Prop where
 g:MV w G X6 Us.length qw (Bv Us τ k) W
 mb:W.heap[h2]?=some (.cells #[.map (some m)] 128 (0,0))
theorem SyR.fin{w:World}{G X6 h2 m:Nat}{Us:Ai}{qw:Array Value}{τ:List Tr}{k:Nat}{W W':World}{B0:Nat}{a:Act}(hI:SyR w G X6 h2 m Us qw τ k W)
 (eH:W.heap.size<=W'.heap.size)(hR:∀(j:Nat) (o:Obj),W.heap[j]?=some o->(∀cur x,o≠Obj.cells cur 210 x)->(∀cur x,o≠Obj.cells cur 133 x)->W'.heap[j]?=some o)
 (hG:MV w G X6 Us.length qw (Bv Us τ (k+1)) W')(hm:m<w.heap.size) :
  jX B0 (KIi B0 h2 m) (SyR w G X6 h2 m Us qw τ (k+1)) W .normal a W':=by
 have l9:W'.heap[h2]?=some (.cells #[.map (some m)] 128 (0,0)):=hR h2 _ hI.mb (λcur x e=>by simp at e) (λcur x e=>by simp at e);refine⟨⟨eH,λj o hj ho hc=>hR j o ho (λcur x e=>by rw[e]at hc;cases hc) (λcur x e=>by rw[e]at hc;cases hc)⟩,⟨λj cur x hj hx=>hR j _ hx (λcur x e=>by simp at e) (λcur x e=>by simp at e),l9.trans hI.mb.symm,?_⟩,⟨hG,l9⟩⟩;exact(hG.below.block m hm).trans (hI.g.below.block m hm).symm
theorem yj(w:World)(lb BU m:Nat)(ms:Option Nat)(rv:Value)(Us:Ai)(τ:List Tr)(hL:xE w lb (some BU) ms rv)(hM:aT w 82 BU bZ Us)(iL:Us.Nodup)(hU:Us.length<=500)(hv:∀x∈Us,∃l,keyOf prog 82 (bZ x)=some l)
 (hB:rZ w m τ)(hlt:∀q∈τ,q.1<Us.length)(aX:∀x,x<Us.length->sS τ x=true) :
  Calls prog 63 #[Aa lb 0,.map (some m)] w λe w'=>∃v,e=.returned v/\kC w' v (jr Us τ)/\Ag w w':=by
 refine(aq2 (n:=8)).1 ?_;obtain⟨i0,gK,jR,ig,jy⟩:=au5 OT;obtain⟨c0,_,_⟩:=hL.cells;have Yw:=hL.lt;have Le:=Zx hB.nodup hlt aX;have hτl:τ.length<=500:=by
  have:=Le.perm.length_eq;simp at this;omega
 have uM:=NC BU Us (w.alloc (.cells #[.slice none 0 0] 133)) O iL (hM.kept (ao3 _ _ _ hM.lt)) hv;have HB:=F hB;have jQ:=F aX;have HLT:=F hlt;clear hL hM hB aX hlt iL;refine at6 func63 rfl trivial ?_ rfl;simp only[ntmps63,ao5,ao1,ap0,Nat.reduceAdd,Nat.reduceSub,an7,an6,ao6,ap9,ao8,ao7]
 gi_wp2
 refine⟨trivial,(aq2.2 uM).mono ?_⟩;rintro e w1 ⟨G,rfl,hG,iD,aS⟩;have NR:=(Z HB).lt;obtain⟨qw,hcG,Yy⟩:∃qw:Array Value,w1.heap[G]?=some (.cells qw 82 (0,0))/\∀i (hi:i<Us.length) j,j<3->qw[i*3+j]?=(mY Us[i])[j]?:=by
  obtain⟨h0,_⟩|⟨g,cap,cur,hv0,kQ,fD,I,M,h3,h4⟩:=aS.2
  ·cases h0
  ·cases hv0;refine⟨cur,fD,λi hi j hj=>?_⟩;have h5:(cur.toList.take (Us.length*3))[i*3+j]?=(Us.flatMap mY)[i*3+j]?:=(by rw[h4]);rw[av5,ao4 O]at h5;rw[show cur[i*3+j]?=cur.toList[i*3+j]? by simp,h5];exact flat_get (k:=3) (λ_=>rfl) ane Us i hi j hj
 have NI:w1.heap[w.heap.size]?=some (.cells #[.slice none 0 0] 133 (0,0)):=by
  rw[iD.block _ R,ap5]
 have MB:Below w.heap.size w w1:=((aq1 _ w).alloc (an2 _) _).trans (iD.mono R);have oI:w.heap.size+1<=w1.heap.size:=by have:=iD.size;simpa using this
 have aeA:=F Yy;clear uM aS Yy
 gi_wp2
 obtain⟨wr,uG⟩:∃wr,w1.alloc (.cells #[Ac G 0 Us.length Us.length] 44)=wr:=⟨_,rfl⟩;have jS:w1.grownBy wr none:=by rw[<-uG];exact an1 _ _ none
 have hsr:w1.heap.size+1<=wr.heap.size:=by rw[<-uG];simp
 have TP:MV w G w1.heap.size Us.length qw [] wr:=by
  refine⟨⟨.slice none 0 0,(jS.block _ O R).trans NI,aw9 _ _ _ _,R⟩,by rw[<-uG,ap5],(jS.block _ (an0.1 hcG).1 R).trans hcG,MB.grown jS MB.size (λk e=>by cases e)⟩
 rw[uG];clear uG NI hcG jS MB iD;refine⟨trivial,(aq2.2 (I7 122 m wr)).mono ?_⟩;rintro e w3 ⟨rfl,t3,rfl⟩
 gi_wp2
 obtain⟨w2,eu⟩:∃w2,(wr.alloc (.cells #[.map (some m)] 128)).alloc (.cells #[.func (.func 122) #[] #[]] t3)=w2:=⟨_,rfl⟩;have dh:wr.grownBy w2 none:=by rw[<-eu];exact(an1 _ _ none).trans (an1 _ _ none)
 have su:wr.heap.size+2<=w2.heap.size:=by rw[<-eu];simp
 have UN:w2.heap[wr.heap.size]?=some (.cells #[.map (some m)] 128 (0,0)):=by rw[<-eu,ao3 _ _ _ R,ap5]
 have mX:w2.cell? (J (wr.heap.size+1) 0)=some (.func (.func 122) #[] #[]):=by rw[<-eu];simp[go_sem]
 have yT:MV w G w1.heap.size Us.length qw [] w2:=TP.grow dh (λr e=>by cases e);have hBM:rZ w2 m τ:=(Z HB).kept (yT.below.block m NR);have dK:=NH 122 _ Oy (aC1 func122 (by kernel_rfl) rfl) τ O 7 O wr.heap.size (wr.heap.size+1) m w2.heap.size _ w2 (an2 _) Le (by rw[cell_of UN];rfl) mX hBM;rw[eu];have kU:SyR w G w1.heap.size wr.heap.size m Us qw τ 0 w2:=⟨yT,UN⟩;have amJ:w.heap.size+2<=wr.heap.size:=O
 have aH:OwnFrom w2.heap.size (SyR w G w1.heap.size wr.heap.size m Us qw τ):=by
  intro k W W' row hI hg hr;refine⟨hI.g.grow hg (λr e=>⟨by have:=(hr r e).1;omega,(hr r e).2⟩),(hg.block _ (an0.1 hI.mb).1 (λe=>by have:=(hr _ e.symm).1;omega)).trans hI.mb⟩
 clear eu yT UN mX hBM dh TP;have hx6:∃x6,x6=w1.heap.size:=⟨_,rfl⟩;obtain⟨x6,hx6⟩:=hx6;rw[<-hx6]at kU aH ⊢;have amH:x6<w2.heap.size:=O
 clear hx6;refine dZ rfl O rfl trivial (λ_ _=>by simp[go_sem]) dK KIi.trans ?_ (aq1 _ _) ?_ (SyR w G x6 wr.heap.size m Us qw τ) aH kU
  (λk a' W=>∃(hk:k<Us.length) (p:Nat) (q:Tr×Nat),uS τ k=some q/\W.heap[p]?=some (.cells #[.bool q.1.2.1,.int .i64 q.2,q.1.2.2.1] 215 (0,0))/\
   a'={tmps:=#[Aa lb 0,.map (some m),undef,undef,.slice none 0 0,Aa w.heap.size 0,Aa x6 0,.int .i64 k,Aa p 0,Aa lb 0,Aa lb 0,Aa lb 0,.map (some BU),Ac G 0 Us.length Us.length,.map (some m),.func (.func 160) #[] #[Aa wr.heap.size 0,Aa (wr.heap.size+1) 0],.int .i64 k,xP q.1 q.2,undef,undef,undef,undef,undef,undef,undef,undef,undef,undef,undef,undef,undef,undef,undef,undef,undef,undef,undef,undef,undef,undef],defers:=[]}) ?own ?assign ?body ?done
 ·intro W l o o' Yv ho hc EY;refine⟨λj cur x hj hx=>(ap1 (λe=>?_)).trans hx,ap1 O,ap1 O⟩;subst e;rw[ho]at hx;cases hx;cases hc
 ·intro k hk;simp
 case own=>
  rintro k a' ⟨⟩ W W' row ⟨hk,p,q,hq,hp,e⟩ hg hr;refine⟨hk,p,q,hq,(hg.block p (an0.1 hp).1 (λe2=>?_)).trans hp,e⟩;obtain⟨o,ho,hc⟩:=(hr p e2.symm).2;rw[hp]at ho;cases ho;cases hc
 case assign=>
  intro l k hk W K hI hK;have iQ:k<Us.length:=by simpa using hk
  obtain⟨q,hq⟩:∃q,uS τ k=some q:=Option.isSome_iff_exists.1 (Z jQ k iQ);have e1:((List.range Us.length).map λx=>#[kN x,Ez τ x])[k]'hk=#[kN k,xP q.1 q.2]:=by
   simp only[ax5,List.getElem_range]
   congr 2
   unfold Ez;rw[hq]
  rw[e1];obtain⟨qp,ql,qc,hqs⟩:=(Z HB).shape q.1 (by
   obtain⟨_,Fe,M⟩:=fV (q:=q.1) (k:=q.2) hq;rw[<-M];exact an5 _)
  have oU:=λa' W' I M h3 p h4=>hK a' W' I M h3 ⟨iQ,p,q,hq,h4⟩;have hmb:=(an0.1 hI.mb).1;have hml:m<W.heap.size:=by have:=hI.g.below.size;omega
  have Pg:=(aH.alloc (.cells #[.bool q.1.2.1,.int .i64 q.2,q.1.2.2.1] 215) hI);clear hK;simp only[xP]at oU ⊢;obtain⟨⟨qx,qi,qv,qr⟩,t⟩:=q;simp only at hqs oU Pg ⊢;subst hqs;simp only[kN]at oU ⊢
  gi_wp2
  exact oU _ _ ((az8 _ _).from _) ⟨λj cur x hj hx=>(ao3 _ _ _ (an0.1 hx).1).trans hx,ao3 _ _ _ hmb,ao3 _ _ _ hml⟩ Pg W.heap.size ⟨ap5 _ _,rfl⟩
 case body=>
  rintro l k a' W hk Yv hI ⟨iQ,p,q,hq,hp,rfl⟩;have fZ:q.1∈τ:=by
   obtain⟨_,Fe,M⟩:=fV (q:=q.1) (k:=q.2) hq;rw[<-M];exact an5 _
  obtain⟨qp,ql,qc,hqs⟩:=(Z HB).shape q.1 fZ;have aj0:Xm τ k=q.1.2.1:=by unfold Xm;rw[hq]
  have VN:W.cell? (J x6 0)=some (Ac G 0 Us.length Us.length):=by rw[cell_of hI.g.x6];rfl
  have g0:W.cell? ⟨G,k*3,none⟩=some (.int .u8 Us[k].1):=by rw[cell_of hI.g.g];exact(Z aeA k iQ 0 O).trans rfl
  have g1:W.cell? ⟨G,k*3+1,none⟩=some (.int .i64 Us[k].2.1):=by rw[cell_of hI.g.g];exact(Z aeA k iQ 1 O).trans rfl
  have g2:W.cell? ⟨G,k*3+2,none⟩=some (.int .i64 Us[k].2.2):=by rw[cell_of hI.g.g];exact(Z aeA k iQ 2 O).trans rfl
  have p0:W.cell? (J p 0)=some (.bool q.1.2.1):=by rw[cell_of hp];rfl
  have Yp:p<W.heap.size:=(an0.1 hp).1;have OV:=yt Us τ k;have mQ:Hid (∀(a:Act) (W':World),W.heap.size<=W'.heap.size->(∀(j:Nat) (o:Obj),W.heap[j]?=some o->(∀cur x,o≠Obj.cells cur 210 x)->(∀cur x,o≠Obj.cells cur 133 x)->W'.heap[j]?=some o)->MV w G x6 Us.length qw (Bv Us τ k++GL Us τ k) W'->jX w2.heap.size (KIi w2.heap.size wr.heap.size m) (SyR w G x6 wr.heap.size m Us qw τ (k+1)) W .normal a W'):=λa W' I M h3=>hI.fin I M (by rw[EP];exact h3) NR;have Gg:GL Us τ k=if isAtom Us[k].1=true then [(k,q.1.2.1,Us[k])]else []:=by
   unfold GL;rw[aU iQ,aj0]
  rw[Gg]at mQ;have hG:=hI.g;have iF:(k:Int)<(Us.length:Int):=O
  simp only[xP];have HP:=F hp;clear hI kU aH dK hp Gg aj0 fZ hq;generalize Us[k]=u at mQ g0 g1 g2;generalize Bv Us τ k=ss at mQ hG OV;obtain⟨⟨qx,qi,qv,qr⟩,t⟩:=q;obtain⟨uc,ux,uy⟩:=u;simp only at hqs mQ p0 HP g0 g1 g2 ⊢;subst hqs;have gB:=F mQ;have HG:=F hG;clear mQ;by_cases ha:uc=61\/uc=80\/uc=81
  ·have gU:isAtom uc=true:=(by simpa[isAtom]using ha);rw[gU]at gB;simp only[av8]at gB;obtain⟨v5,NI,aS,fC⟩:=hG.x5;have hc5:W.cell? (J w.heap.size 0)=some v5:=(by rw[cell_of NI];rfl);have hf5:W.frozen? (J w.heap.size 0)=false:=(by simp[World.frozen?,NI]);have UA:=F NI;have jo:=F aS;have hgD:W.grownBy W.drew none:=⟨rfl,rfl,rfl,an2 _,λj hj _=>rfl⟩;clear hG NI aS fC gU;have hl5:w.heap.size<W.heap.size:=(an0.1 (Z UA)).1;have hl6:x6<W.heap.size:=(an0.1 (Z HG).x6).1;have AL:G<W.heap.size:=(an0.1 (Z HG).g).1;have adE:Hid (∀W2 W3,W.grownBy W2 none->W2.grownBy W3 v5.ownBlock->W3.heap[w.heap.size]?=W.heap[w.heap.size]?/\W3.heap[p]?=W.heap[p]?/\W3.heap[x6]?=W.heap[x6]?/\W3.heap[G]?=W.heap[G]?):=λW2 W3 hg dY=>by
    have hk:∀(j:Nat) (cur:Array Value) (t:TypeId) (x:Nat×Nat),W.heap[j]?=some (.cells cur t x)->t≠210->W3.heap[j]?=W.heap[j]?:=λj cur t x I M=>by
     have uN:=(an0.1 I).1;refine(dY.block j (ap2 uN hg.size) (λe=>?_)).trans (hg.block j uN R);obtain⟨rfl,_⟩|⟨g,cap,G9,rfl,hb,fD,_⟩:=(Z jo).2
     ·cases e
     ·simp only[Value.ownBlock,as4]at e;subst e;rw[I]at fD;cases fD;exact M rfl
    exact⟨hk _ _ _ _ (Z UA) ane,hk _ _ _ _ (Z HP) ane,hk _ _ _ _ (Z HG).x6 ane,hk _ _ _ _ (Z HG).g ane⟩
   obtain rfl|rfl|rfl:=ha
   ·gi_wp2
    refine qE ?_;have aA:W.drew.heap[w.heap.size]?=W.heap[w.heap.size]?/\W.drew.heap[p]?=W.heap[p]?/\W.drew.heap[x6]?=W.heap[x6]?/\W.drew.heap[G]?=W.heap[G]?:=⟨rfl,rfl,rfl,rfl⟩;refine yw (λW'=>W'.heap[w.heap.size]?=W.heap[w.heap.size]?/\W'.heap[p]?=W.heap[p]?/\W'.heap[x6]?=W.heap[x6]?/\W'.heap[G]?=W.heap[G]?) 12 13 #[false,false,false,false,false,false,false,false,false,false,false,false,false] (by kernel_rfl) rfl rfl (by kernel_rfl) (by rintro⟨_,_,h,_⟩;cases h) ?_;refine tL 0 (v5) (λw' hS=>?_) aA ?_
    ·obtain⟨s1,s2,s3,s4⟩:=hS;have e1:=(an9 s1).trans hc5
     go_simp
    simp only[aF];refine tL 1 (.int .i64 k) (λw' hS=>?_) aA ?_
    ·go_simp
    simp only[aF];refine tL 2 (Aa p 0) (λw' hS=>?_) aA ?_
    ·go_simp
    simp only[aF];refine tL 3 (.bool qi) (λw' hS=>?_) aA ?_
    ·obtain⟨s1,s2,s3,s4⟩:=hS;have e1:=(an9 s2).trans p0
     go_simp
    simp only[aF];refine tL 4 (.agg #[.int .i64 k,.bool qi]) (λw' hS=>?_) aA ?_
    ·go_simp
    simp only[aF];refine tL 5 (Ac G 0 Us.length Us.length) (λw' hS=>?_) aA ?_
    ·obtain⟨s1,s2,s3,s4⟩:=hS;have e1:=(an9 s3).trans VN
     go_simp
    simp only[aF];refine tL 6 (.int .i64 k) (λw' hS=>?_) aA ?_
    ·go_simp
    simp only[aF];refine tL 7 (.pointer (some ⟨G,k*3,none⟩)) (λw' hS=>?_) aA ?_
    ·go_simp
    simp only[aF];refine tL 8 (.agg #[.int .u8 61,.int .i64 ux,.int .i64 uy]) (λw' hS=>?_) aA ?_
    ·obtain⟨s1,s2,s3,s4⟩:=hS;have e1:=(an9 s4).trans g0;have e2:=(an9 s4).trans g1;have e3:=(an9 s4).trans g2
     go_simp
    simp only[aF];refine tL 9 (.agg #[.int .i64 k,.bool qi,.int .u8 61,.int .i64 ux,.int .i64 uy]) (λw' hS=>?_) aA ?_
    ·go_simp
    simp only[aF];have jd:W.drew.grownBy (W.drew.alloc (.cells #[.int .i64 k,.bool qi,.int .u8 61,.int .i64 ux,.int .i64 uy] 210)) none:=an1 _ _ none;have vg:W.grownBy (W.drew.alloc (.cells #[.int .i64 k,.bool qi,.int .u8 61,.int .i64 ux,.int .i64 uy] 210)) none:=hgD.trans jd;refine oL 10 (λK hK=>?_);go_simp;replace aA:=And.intro (vg.block _ hl5 R) (And.intro (vg.block _ Yp R) (And.intro (vg.block _ hl6 R) (vg.block _ AL R)));refine hK.out _ _ (λ_=>aA) ?_;clear hK K;refine oL 11 (λK hK=>?_);refine lK (.tmp 27) (.tmp 37) 133 rfl w.heap.size 210 i0 _ 5 40 underlying133 gK jR ig jy rfl ane v5 ss.length (GK ss) rfl (by exact aw7 (by exact Z jo) _) (J W.heap.size 0) 1 1 (PI (k,qi,61,ux,uy)) rfl rfl (Jf _ _ _ _ _ _ _ _ rfl) (aeY _) anj O (by simp[World.drew];omega) ?_;intro v' w3 fA dY;obtain⟨g',qB,Sr⟩:=gG fA (aw4 _);subst Sr;replace aA:=Z adE _ _ vg dY;refine hK.out _ _ (λ_=>aA) ?_;clear hK K;have qh:=MV.mid (Z UA) vg dY (Z jo);have hc3:w3.cell? (J w.heap.size 0)=some v5:=(by rw[cell_of qh];rfl);have Tn:w3.frozen? (J w.heap.size 0)=false:=(by simp[World.frozen?,qh]);refine oL 12 (λK hK=>?_);go_simp;refine hK.out _ _ (λh=>absurd rfl h) (jh (by kernel_rfl) ?_ _);clear hK K;have eH:W.heap.size<=(w3.setCell (J w.heap.size 0) (Ac g' 0 (ss.length+1) qB)).heap.size:=by
     have M:W.heap.size<=w3.heap.size:=ap3 vg.size dY.size;simp only[World.setCell,Array.size_modify];exact M
    exact⟨rfl,Z (Z gB) ⟨#[],[]⟩ _ eH (MV.keeps (Z UA) vg dY (Z jo)) ((Z HG).app (s:=(k,qi,61,ux,uy)) (Z UA) vg dY (Z jo) fA R)⟩
   ·gi_wp2
    refine qE ?_;have aA:W.drew.heap[w.heap.size]?=W.heap[w.heap.size]?/\W.drew.heap[p]?=W.heap[p]?/\W.drew.heap[x6]?=W.heap[x6]?/\W.drew.heap[G]?=W.heap[G]?:=⟨rfl,rfl,rfl,rfl⟩;refine yw (λW'=>W'.heap[w.heap.size]?=W.heap[w.heap.size]?/\W'.heap[p]?=W.heap[p]?/\W'.heap[x6]?=W.heap[x6]?/\W'.heap[G]?=W.heap[G]?) 12 13 #[false,false,false,false,false,false,false,false,false,false,false,false,false] (by kernel_rfl) rfl rfl (by kernel_rfl) (by rintro⟨_,_,h,_⟩;cases h) ?_;refine tL 0 (v5) (λw' hS=>?_) aA ?_
    ·obtain⟨s1,s2,s3,s4⟩:=hS;have e1:=(an9 s1).trans hc5
     go_simp
    simp only[aF];refine tL 1 (.int .i64 k) (λw' hS=>?_) aA ?_
    ·go_simp
    simp only[aF];refine tL 2 (Aa p 0) (λw' hS=>?_) aA ?_
    ·go_simp
    simp only[aF];refine tL 3 (.bool qi) (λw' hS=>?_) aA ?_
    ·obtain⟨s1,s2,s3,s4⟩:=hS;have e1:=(an9 s2).trans p0
     go_simp
    simp only[aF];refine tL 4 (.agg #[.int .i64 k,.bool qi]) (λw' hS=>?_) aA ?_
    ·go_simp
    simp only[aF];refine tL 5 (Ac G 0 Us.length Us.length) (λw' hS=>?_) aA ?_
    ·obtain⟨s1,s2,s3,s4⟩:=hS;have e1:=(an9 s3).trans VN
     go_simp
    simp only[aF];refine tL 6 (.int .i64 k) (λw' hS=>?_) aA ?_
    ·go_simp
    simp only[aF];refine tL 7 (.pointer (some ⟨G,k*3,none⟩)) (λw' hS=>?_) aA ?_
    ·go_simp
    simp only[aF];refine tL 8 (.agg #[.int .u8 80,.int .i64 ux,.int .i64 uy]) (λw' hS=>?_) aA ?_
    ·obtain⟨s1,s2,s3,s4⟩:=hS;have e1:=(an9 s4).trans g0;have e2:=(an9 s4).trans g1;have e3:=(an9 s4).trans g2
     go_simp
    simp only[aF];refine tL 9 (.agg #[.int .i64 k,.bool qi,.int .u8 80,.int .i64 ux,.int .i64 uy]) (λw' hS=>?_) aA ?_
    ·go_simp
    simp only[aF];have jd:W.drew.grownBy (W.drew.alloc (.cells #[.int .i64 k,.bool qi,.int .u8 80,.int .i64 ux,.int .i64 uy] 210)) none:=an1 _ _ none;have vg:W.grownBy (W.drew.alloc (.cells #[.int .i64 k,.bool qi,.int .u8 80,.int .i64 ux,.int .i64 uy] 210)) none:=hgD.trans jd;refine oL 10 (λK hK=>?_);go_simp;replace aA:=And.intro (vg.block _ hl5 R) (And.intro (vg.block _ Yp R) (And.intro (vg.block _ hl6 R) (vg.block _ AL R)));refine hK.out _ _ (λ_=>aA) ?_;clear hK K;refine oL 11 (λK hK=>?_);refine lK (.tmp 27) (.tmp 37) 133 rfl w.heap.size 210 i0 _ 5 40 underlying133 gK jR ig jy rfl ane v5 ss.length (GK ss) rfl (by exact aw7 (by exact Z jo) _) (J W.heap.size 0) 1 1 (PI (k,qi,80,ux,uy)) rfl rfl (Jf _ _ _ _ _ _ _ _ rfl) (aeY _) anj O (by simp[World.drew];omega) ?_;intro v' w3 fA dY;obtain⟨g',qB,Sr⟩:=gG fA (aw4 _);subst Sr;replace aA:=Z adE _ _ vg dY;refine hK.out _ _ (λ_=>aA) ?_;clear hK K;have qh:=MV.mid (Z UA) vg dY (Z jo);have hc3:w3.cell? (J w.heap.size 0)=some v5:=(by rw[cell_of qh];rfl);have Tn:w3.frozen? (J w.heap.size 0)=false:=(by simp[World.frozen?,qh]);refine oL 12 (λK hK=>?_);go_simp;refine hK.out _ _ (λh=>absurd rfl h) (jh (by kernel_rfl) ?_ _);clear hK K;have eH:W.heap.size<=(w3.setCell (J w.heap.size 0) (Ac g' 0 (ss.length+1) qB)).heap.size:=by
     have M:W.heap.size<=w3.heap.size:=ap3 vg.size dY.size;simp only[World.setCell,Array.size_modify];exact M
    exact⟨rfl,Z (Z gB) ⟨#[],[]⟩ _ eH (MV.keeps (Z UA) vg dY (Z jo)) ((Z HG).app (s:=(k,qi,80,ux,uy)) (Z UA) vg dY (Z jo) fA R)⟩
   ·gi_wp2
    refine qE ?_;have aA:W.drew.heap[w.heap.size]?=W.heap[w.heap.size]?/\W.drew.heap[p]?=W.heap[p]?/\W.drew.heap[x6]?=W.heap[x6]?/\W.drew.heap[G]?=W.heap[G]?:=⟨rfl,rfl,rfl,rfl⟩;refine yw (λW'=>W'.heap[w.heap.size]?=W.heap[w.heap.size]?/\W'.heap[p]?=W.heap[p]?/\W'.heap[x6]?=W.heap[x6]?/\W'.heap[G]?=W.heap[G]?) 12 13 #[false,false,false,false,false,false,false,false,false,false,false,false,false] (by kernel_rfl) rfl rfl (by kernel_rfl) (by rintro⟨_,_,h,_⟩;cases h) ?_;refine tL 0 (v5) (λw' hS=>?_) aA ?_
    ·obtain⟨s1,s2,s3,s4⟩:=hS;have e1:=(an9 s1).trans hc5
     go_simp
    simp only[aF];refine tL 1 (.int .i64 k) (λw' hS=>?_) aA ?_
    ·go_simp
    simp only[aF];refine tL 2 (Aa p 0) (λw' hS=>?_) aA ?_
    ·go_simp
    simp only[aF];refine tL 3 (.bool qi) (λw' hS=>?_) aA ?_
    ·obtain⟨s1,s2,s3,s4⟩:=hS;have e1:=(an9 s2).trans p0
     go_simp
    simp only[aF];refine tL 4 (.agg #[.int .i64 k,.bool qi]) (λw' hS=>?_) aA ?_
    ·go_simp
    simp only[aF];refine tL 5 (Ac G 0 Us.length Us.length) (λw' hS=>?_) aA ?_
    ·obtain⟨s1,s2,s3,s4⟩:=hS;have e1:=(an9 s3).trans VN
     go_simp
    simp only[aF];refine tL 6 (.int .i64 k) (λw' hS=>?_) aA ?_
    ·go_simp
    simp only[aF];refine tL 7 (.pointer (some ⟨G,k*3,none⟩)) (λw' hS=>?_) aA ?_
    ·go_simp
    simp only[aF];refine tL 8 (.agg #[.int .u8 81,.int .i64 ux,.int .i64 uy]) (λw' hS=>?_) aA ?_
    ·obtain⟨s1,s2,s3,s4⟩:=hS;have e1:=(an9 s4).trans g0;have e2:=(an9 s4).trans g1;have e3:=(an9 s4).trans g2
     go_simp
    simp only[aF];refine tL 9 (.agg #[.int .i64 k,.bool qi,.int .u8 81,.int .i64 ux,.int .i64 uy]) (λw' hS=>?_) aA ?_
    ·go_simp
    simp only[aF];have jd:W.drew.grownBy (W.drew.alloc (.cells #[.int .i64 k,.bool qi,.int .u8 81,.int .i64 ux,.int .i64 uy] 210)) none:=an1 _ _ none;have vg:W.grownBy (W.drew.alloc (.cells #[.int .i64 k,.bool qi,.int .u8 81,.int .i64 ux,.int .i64 uy] 210)) none:=hgD.trans jd;refine oL 10 (λK hK=>?_);go_simp;replace aA:=And.intro (vg.block _ hl5 R) (And.intro (vg.block _ Yp R) (And.intro (vg.block _ hl6 R) (vg.block _ AL R)));refine hK.out _ _ (λ_=>aA) ?_;clear hK K;refine oL 11 (λK hK=>?_);refine lK (.tmp 27) (.tmp 37) 133 rfl w.heap.size 210 i0 _ 5 40 underlying133 gK jR ig jy rfl ane v5 ss.length (GK ss) rfl (by exact aw7 (by exact Z jo) _) (J W.heap.size 0) 1 1 (PI (k,qi,81,ux,uy)) rfl rfl (Jf _ _ _ _ _ _ _ _ rfl) (aeY _) anj O (by simp[World.drew];omega) ?_;intro v' w3 fA dY;obtain⟨g',qB,Sr⟩:=gG fA (aw4 _);subst Sr;replace aA:=Z adE _ _ vg dY;refine hK.out _ _ (λ_=>aA) ?_;clear hK K;have qh:=MV.mid (Z UA) vg dY (Z jo);have hc3:w3.cell? (J w.heap.size 0)=some v5:=(by rw[cell_of qh];rfl);have Tn:w3.frozen? (J w.heap.size 0)=false:=(by simp[World.frozen?,qh]);refine oL 12 (λK hK=>?_);go_simp;refine hK.out _ _ (λh=>absurd rfl h) (jh (by kernel_rfl) ?_ _);clear hK K;have eH:W.heap.size<=(w3.setCell (J w.heap.size 0) (Ac g' 0 (ss.length+1) qB)).heap.size:=by
     have M:W.heap.size<=w3.heap.size:=ap3 vg.size dY.size;simp only[World.setCell,Array.size_modify];exact M
    exact⟨rfl,Z (Z gB) ⟨#[],[]⟩ _ eH (MV.keeps (Z UA) vg dY (Z jo)) ((Z HG).app (s:=(k,qi,81,ux,uy)) (Z UA) vg dY (Z jo) fA R)⟩
  ·have gU:isAtom uc=false:=(by simpa[isAtom]using ha);rw[gU]at gB;simp only[ay7,az0,av7]at gB;have I:¬uc=61:=λe=>ha (Or.inl e);have M:¬uc=80:=λe=>ha (Or.inr (Or.inl e));have h3:¬uc=81:=λe=>ha (Or.inr (Or.inr e));clear hG ha gU
   gi_wp2
   exact Z (Z gB) _ _ (an2 _) (λ_ _ h _ _=>h) (Z HG)
 case done=>
  intro D W hD hI eU;have dD:=aH.putObj (.deferred none) hI hD eU rfl;have hln:((List.range Us.length).map λx=>#[kN x,Ez τ x]).length=Us.length:=R
  rw[hln]at hI dD;obtain⟨v5,NI,SC,ajh⟩:=hI.g.x5;have hc5:W.cell? (J w.heap.size 0)=some v5:=by rw[cell_of NI];rfl
  gi_wp2
  refine⟨R,.inl ⟨_,_,rfl,au4 eU,?_⟩⟩;refine⟨_,ay0 rfl _ _ _,v5,rfl,?_,dD.g.below⟩;obtain⟨v6,VN,DW,Yr⟩:=dD.g.x5;have e56:v6=v5:=by
   have bg:D≠w.heap.size:=(by have:=(an0.1 NI).1;omega);have:(W.putObj D (.deferred none)).heap[w.heap.size]?=W.heap[w.heap.size]?:=ap1 (λe=>bg e.symm);rw[this,NI]at VN;simpa using VN.symm
  subst e56;exact FY DW
end Go.Proofs.YthcppbmkacbbiabGreat
