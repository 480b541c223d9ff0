import Derived.Test.YthcppbmkacbbiabGreatVBB
import Derived.Laws.StructEq
set_option linter.unusedSimpArgs false
set_option maxHeartbeats 8000000
set_option maxRecDepth 100000
namespace Go.Proofs.YthcppbmkacbbiabGreat
open Go.Proofs.Tryz
section
open Sat (View Rule og dN)
open au (Key put tV gV jn aB bJ fQ jD)
def clf(f:Nat->Nat)(n:Nat):List Int:=(List.range n).map λi=>(f i:Int)
theorem pK(f:Nat->Nat){n i:Nat}(h:i<n):(clf f n).getD i 0=(f i:Int):=by
 unfold clf;rw[ao0,as1,List.getElem?_range h];rfl
structure Om(f:Nat->Nat)(Y:Ai)(cs:Ah)(ps:Ai)(hl:List Bool):Prop where
 Ue:GI f Y
 agr:∀p∈bI (BA f cs) cs.length,hl.getD p.1 false=hl.getD p.2 false
 Ou:(gV (clf f Y.length) hl ps).getD (ps.length-1) false=true
def afU(f:Nat->Nat)(cs:Ah)(hl:List Bool):Prop:=∀i j (hi:i<cs.length) (hj:j<cs.length),cs[i].1=cs[j].1->f cs[i].2=f cs[j].2->hl.getD i false=hl.getD j false
theorem zZ(f:Nat->Nat)(cs:Ah)(hl:List Bool):(∀p∈bI (BA f cs) cs.length,hl.getD p.1 false=hl.getD p.2 false)↔afU f cs hl:=by
 have hB:=Dl (BA f cs) (λi j=>hl.getD i false=hl.getD j false) (λ_=>rfl) (λ_ _ e=>e.symm) (λ_ _ _ e1 e2=>e1.trans e2);rw[jm]at hB;rw[hB];constructor
 ·intro h i j hi hj e1 e2;exact h i j hi hj (by simp[BA,hi,hj,e1,e2])
 ·intro h i j hi hj e;simp only[BA,as1,an3 hi,an3 hj,ay9,as4,aA7]at e;exact h i j hi hj e.1 e.2
def kF(q:Key):Key:=if q.1=61 then(if q.2.1=q.2.2 then(61,0,0)else if q.2.2<q.2.1 then(61,q.2.2,q.2.1)else q)else q
theorem jl:Ur kF:=by
 refine⟨λq h=>?_,λq h=>?_⟩
 ·unfold kF;rw[ao4 h];by_cases e:q.2.1=q.2.2
  ·rw[ao4 e];exact⟨rfl,Or.inr (Or.inr ⟨e,rfl⟩)⟩
  ·rw[an8 e];by_cases e2:q.2.2<q.2.1
   ·rw[ao4 e2];exact⟨rfl,Or.inr (Or.inl rfl)⟩
   ·rw[an8 e2];exact⟨h,Or.inl rfl⟩
 ·unfold kF;rw[an8 h]
theorem QS(a:Nat):kF (dP a a)=dP 0 0:=by simp[kF,dP]
theorem abT(a b:Nat):kF (dP a b)=kF (dP b a):=by
 unfold kF dP;simp only[av8];by_cases e:a=b
 ·subst e;rfl
 ·have e':¬b=a:=λh=>e h.symm;rw[an8 e,an8 e'];by_cases h:b<a
  ·rw[ao4 h,an8 O]
  ·rw[an8 h,ao4 O]
def KG(Y:Ai)(cs:Ah)(ps:Ai):List (List dw):=tZ kF ps++eqC kF Y.length++fnC kF Y++prC kF cs
theorem aU{α:Type}{l:List α}{i:Nat}(h:i<l.length)(d:α):l.getD i d=l[i]:=by
 rw[ao0,an3 h];rfl
theorem Uo{sm:Key->Key}(hs:Ur sm){v:Key->Bool}{f:Nat->Nat}{Y:Ai}{cs:Ah}{ps:Ai}{hl:List Bool}(hi:bJ Y.length cs.length ps)(hk:jD cs ps)
 (hf:∀q∈ps,q.1=61->(f q.2.1=f q.2.2↔v (sm q)=true))(hh:∀c (h:c<cs.length),hl.getD c false=v (cs[c].1,c,0)):zo sm v (clf f Y.length) hl ps:=by
 intro q hq;obtain⟨i,hlt,e⟩:=ar6 hq;have ho:=hi.ok i hlt;rw[e]at ho;refine⟨λh=>?_,λh=>?_⟩
 ·obtain⟨a,_⟩|⟨a,_⟩|⟨a,_⟩|⟨_,I,M⟩:=ho
  ·omega
  ·rw[h]at a;simp[aB]at a
  ·omega
  ·rw[pK f I,pK f M];have:=hf q hq h;cases hv:v (sm q)
   ·rw[hv]at this;have:¬f q.2.1=f q.2.2:=λh=>by have:=this.1 h;cases this
    have:¬(f q.2.1:Int)=(f q.2.2:Int):=O;simp[this]
   ·rw[hv]at this;have:=this.2 rfl;simp[this]
 ·obtain⟨I,M⟩:=hk.letter q hq h;rw[hs.other q O,hh _ I,M];have h3:q.2.2=0:=by
   obtain⟨a,_,b⟩|⟨a,_⟩|⟨_,_,b⟩|⟨a,_⟩:=ho
   ·exact b
   ·obtain h|h:=h<;>(rw[h]at a;simp[aB]at a)
   ·exact b
   ·omega
  congr 1
  rw[<-h3]
theorem aks{v:Key->Bool}{n:Nat}(h:Hold v (eqC kF n)):(∀a,v (kF (dP a a))=true)/\(∀a b,v (kF (dP a b))=true->v (kF (dP b a))=true)/\∀a b c,a<n->b<n->c<n->v (kF (dP a b))=true->v (kF (dP b c))=true->v (kF (dP a c))=true:=by
 obtain⟨I,M⟩:=SN.1 h;rw[QS]at I;have hr:∀a,v (kF (dP a a))=true:=λa=>by rw[QS];exact I
 have hs:∀a b,v (kF (dP a b))=true->v (kF (dP b a))=true:=λa b e=>by rw[abT];exact e
 refine⟨hr,hs,λa b c ha hb hc e1 e2=>?_⟩;by_cases h3:c<a
 ·exact M a ha b hb c h3 e1 e2
 ·by_cases h4:a<c
  ·exact hs _ _ (M c hc b hb a h4 (hs _ _ e2) (hs _ _ e1))
  ·have:a=c:=O;subst this;exact hr a
theorem UW{v:Key->Bool}{f:Nat->Nat}{Y:Ai}{cs:Ah}{ps:Ai}{hl:List Bool}(hi:bJ Y.length cs.length ps)(hk:jD cs ps)(h0:0<ps.length)
 (ht:∀i (hi:i<Y.length),Y[i].2.1<Y.length/\Y[i].2.2<Y.length)(hc:∀x∈cs,(x.1=80\/x.1=81)/\x.2<Y.length)
 (h:Hold v (KG Y cs ps))(hf:∀a b,a<Y.length->b<Y.length->(f a=f b↔v (kF (dP a b))=true))(hh:∀c (h:c<cs.length),hl.getD c false=v (cs[c].1,c,0)):Om f Y cs ps hl:=by
 unfold KG at h;rw[iY,iY,iY]at h;obtain⟨⟨⟨I,M⟩,h3⟩,h4⟩:=h;obtain⟨e1,e2,e3⟩:=aks M;refine⟨?_,?_,?_⟩
 ·rw[qM];intro i j pI nR p1 p2 p3;obtain⟨a1,a2⟩:=ht i pI;obtain⟨b1,b2⟩:=ht j nR;have q2:=(hf _ _ a1 b1).1 p2;have q3:=(hf _ _ a2 b2).1 p3;refine(hf i j pI nR).2 ?_;have key:=SL.1 h3;by_cases hij:j<i
  ·have:=key i pI j hij;rw[aU pI,aU nR]at this;exact this p1 q2 q3
  ·by_cases hji:i<j
   ·have:=key j nR i hji;rw[aU pI,aU nR]at this;exact e2 _ _ (this p1.symm (e2 _ _ q2) (e2 _ _ q3))
   ·have:i=j:=O;subst this;exact e1 i
 ·rw[zZ];intro i j pI nR p1 p2;have a1:=(hc _ (an5 pI));have b1:=(hc _ (an5 nR));have q2:=(hf _ _ a1.2 b1.2).1 p2;have key:=SI.1 h4;have s1:kF (cs[i].1,i,0)=(cs[i].1,i,0):=jl.other _ (by show cs[i].1≠61;omega);have s2:kF (cs[j].1,j,0)=(cs[j].1,j,0):=jl.other _ (by show cs[j].1≠61;omega);rw[hh i pI,hh j nR];by_cases hij:j<i
  ·have:=key i pI j hij;rw[aU pI,aU nR,s1,s2]at this;exact this p1 q2
  ·by_cases hji:i<j
   ·have:=key j nR i hji;rw[aU pI,aU nR,s1,s2]at this;exact(this p1.symm (e2 _ _ q2)).symm
   ·have:i=j:=O;subst this;rfl
 ·refine QG hi h0 (DY.1 I) (Uo jl hi hk (λq hq jP=>?_) hh);obtain⟨i,hlt,e⟩:=ar6 hq;have ho:=hi.ok i hlt;rw[e]at ho;obtain⟨a,_⟩|⟨a,_⟩|⟨a,_⟩|⟨_,g1,g2⟩:=ho
  ·omega
  ·rw[jP]at a;simp[aB]at a
  ·omega
  ·have:=hf _ _ g1 g2;have eq:q=dP q.2.1 q.2.2:=(by unfold dP;rw[<-jP]);rw[<-eq]at this;exact this
theorem yX{sm:Key->Key}(hs:Ur sm){f:Nat->Nat}{n:Nat}{hl:List Bool}{ps:Ai}{a b:Nat}(ha:a<n)(hb:b<n):cv (clf f n) hl ps (sm (dP a b))=true↔f a=f b:=by
 rw[agn hs (q:=dP a b) rfl]
 show decide ((clf f n).getD a 0=(clf f n).getD b 0)=true↔_
 rw[pK f ha,pK f hb];simp only[as7];omega
theorem VA{f:Nat->Nat}{Y:Ai}{cs:Ah}{ps:Ai}{hl:List Bool}(hi:bJ Y.length cs.length ps)(h0:0<ps.length)(hn:0<Y.length)
 (ht:∀i (hi:i<Y.length),Y[i].2.1<Y.length/\Y[i].2.2<Y.length)(hc:∀x∈cs,(x.1=80\/x.1=81)/\x.2<Y.length)(h:Om f Y cs ps hl):Hold (cv (clf f Y.length) hl ps) (KG Y cs ps):=by
 unfold KG;rw[iY,iY,iY];refine⟨⟨⟨DY.2 (Uf jl hi h0 h.Ou),SN.2 ⟨?_,λa ha b hb c Fj=>?_⟩⟩,SL.2 λa ha b hb=>?_⟩,SI.2 λa ha b hb=>?_⟩
 ·rw[yX jl hn hn]
 ·rw[yX jl ha hb,yX jl hb O,yX jl ha O];exact Eq.trans
 ·have TF:b<Y.length:=O
  obtain⟨a1,a2⟩:=ht a ha;obtain⟨b1,b2⟩:=ht b TF;rw[aU ha,aU TF,yX jl a1 b1,yX jl a2 b2,yX jl ha TF];exact(qM f Y).1 h.Ue a b ha TF
 ·have TF:b<cs.length:=O
  have a1:=hc _ (an5 ha);have b1:=hc _ (an5 TF);rw[aU ha,aU TF,yX jl a1.2 b1.2];intro p1 p2;have s1:kF (cs[a].1,a,0)=(cs[a].1,a,0):=jl.other _ (by show cs[a].1≠61;omega);have s2:kF (cs[b].1,b,0)=(cs[b].1,b,0):=jl.other _ (by show cs[b].1≠61;omega);rw[s1,s2,Ee a1.1,Ee b1.1];exact(zZ f cs hl).1 h.agr a b ha TF p1 p2
theorem UU{v:Key->Bool}{f:Nat->Nat}{Y:Ai}{cs:Ah}{ps:Ai}{hl:List Bool}(hi:bJ Y.length cs.length ps)(hk:jD cs ps)(h0:0<ps.length)
 (h:Hold v (tZ id ps))(uO:GI f Y)(alS:afU f cs hl)(hf:∀q∈ps,q.1=61->(f q.2.1=f q.2.2↔v q=true))(hh:∀c (h:c<cs.length),hl.getD c false=v (cs[c].1,c,0)):Om f Y cs ps hl:=
 ⟨uO,(zZ f cs hl).2 alS,QG hi h0 (DY.1 h) (Uo XT hi hk hf hh)⟩
theorem Vz{f:Nat->Nat}{Y:Ai}{cs:Ah}{ps:Ai}{hl:List Bool}(hi:bJ Y.length cs.length ps)(h0:0<ps.length)(h:Om f Y cs ps hl):Hold (cv (clf f Y.length) hl ps) (tZ id ps):=
 DY.2 (Uf XT hi h0 h.Ou)
end
section
open Go.RowKit Go.Maps Go.WideMaps
open au (Key put)
theorem CQ{P:Program}{md:Region.Mode}{ops:Array Oper}{Q:Exit->Act->World->Prop}{S:World->Prop}{fuel:Nat}{listed:Array Bool}{a:Act}{w:World}(h:∀(ops':Array Oper) (Q':Exit->Act->World->Prop),ops'=ops->Q'=Q->wpAnyH P md ops' Q' S fuel listed a w):wpAnyH P md ops Q S fuel listed a w:=h _ _ rfl rfl
theorem kL.put{w:World}{b c:Nat}{f:Key->Key}{dom:Key->Prop}(h:kL w b f dom c)(hc:c<=500){k1 k2:Key}(bg:k1≠k2)(b2:(0<=k2.1/\k2.1<=255)/\k2.2.1<=1000/\k2.2.2<=1000) :
  ∃w',(Instr.mapUpdate 201 (.map (some b)) (bZ k2) (bZ k1)).run prog w=.ok () w'/\kL w' b (λq=>if q=k2 then k1 else f q) dom (c+1)/\w.grownBy w' (some b):=by
 obtain⟨D,nn,h0,aH,aX⟩:=h;obtain⟨l,aV⟩:=aaj k2 b2.1 b2.2.1 b2.2.2;obtain⟨w',iW,fA,hg⟩:=aH.update xH underlying201 anj aV (d:=.held (bZ k1)) (ps:=[]) rfl;have jO:=aH.tidy xH;refine⟨w',iW,⟨_,nn+1,O,fA,λq m hq hm=>?_⟩,hg⟩;by_cases e:m=l
 ·subst e;have:q=k2:=zH (xH.inj hm aV);subst this;simp only[av8];refine⟨?_,λ_ z=>?_⟩
  ·rw[has_put_same jO.isMap (xH.key aV)];simp[bg]
  ·rw[atKey_put_same jO.isMap (xH.key aV)]
 ·have hqe:q≠k2:=λe'=>e (by subst e';rw[hm]at aV;exact at7 aV);simp only[an8 hqe];obtain⟨q1,q2⟩:=aX q m hq hm;refine⟨by rw[has_put_other e];exact q1,λh z=>?_⟩;rw[atKey_put_other e];exact q2 h z
theorem eqP(a1 a2:Int)(x1 y1 x2 y2:Nat)(W:World):(Op.equalIn 10000 82 (.agg #[Ae a1,A x1,A y1]) (.agg #[Ae a2,A x2,A y2])).run prog W=.ok (decide ((a1,x1,y1)=(a2,x2,y2))) W:=by
 have u3:=underlying3;have a3:=isAgg3;have z3:=sizeOf3;have u4:=underlying5;have a4:=isAgg5;have z4:=sizeOf5;have hS:prog.underlying 82=some (.struct (prog.fieldsOf 82)):=by kernel_rfl
 have hp:prog.stoodInHeld 82=false:=by kernel_rfl
 rw[show(10000:Nat)=9999+1 from rfl,run_equalIn_agg W 9999 82 _ _ hS hp];simp only[Program.fieldsOf,underlying82];go_simp;by_cases I:a1=a2<;>by_cases M:x1=x2<;>by_cases h3:y1=y2<;>simp[I,M,h3]<;>omega
theorem kK{w W:World}{row:Option Nat}(h:w.grownBy W row){p:Addr}(hp:w.heap.size<=p.block)(v:Value):w.grownBy (W.setCell p v) row:=
 ⟨h.os,h.tape,h.output,ap3 h.size (by simp[World.setCell]),λk hk hn=>by rw[ao9 _ _ _ _ O];exact h.block k hk hn⟩
theorem ahO:prog.eqGuardType prog.depth 82=false:=by kernel_rfl
structure KY(V:World)(o6 o7:Option Nat)(W:World):Prop where
 g:V.grownBy W none
 i6:∀B,o6=some B->V.heap.size<=B/\W.heap[B]?=some (.cells #[Ae 0,A 0,A 0] 82 (0,0))
 i7:∀B,o7=some B->V.heap.size<=B/\W.heap[B]?=some (.cells #[Ae 0,A 0,A 0] 82 (0,0))
 ne:∀Ad B,o6=some Ad->o7=some B->Ad≠B
theorem KY.grow{V W W2:World}{o6 o7:Option Nat}(h:KY V o6 o7 W)(hg:W.grownBy W2 none):KY V o6 o7 W2:=
 ⟨h.g.trans hg,λB e=>⟨(h.i6 B e).1,(hg.block _ (an0.1 (h.i6 B e).2).1 R).trans (h.i6 B e).2⟩,λB e=>⟨(h.i7 B e).1,(hg.block _ (an0.1 (h.i7 B e).2).1 R).trans (h.i7 B e).2⟩,h.ne⟩
theorem KY.s6{V W:World}{o7:Option Nat}(h:KY V none o7 W):KY V (some W.heap.size) o7 (W.alloc (.cells #[Ae 0,A 0,A 0] 82)):=by
 have M:=h.grow (an1 W (.cells #[Ae 0,A 0,A 0] 82) none);refine⟨M.g,λB e=>?_,M.i7,λAd B e1 e2=>?_⟩
 ·cases e;exact⟨h.g.size,ap5 _ _⟩
 ·cases e1;have:=(an0.1 (h.i7 B e2).2).1;omega
theorem KY.s7{V W:World}{o6:Option Nat}(h:KY V o6 none W):KY V o6 (some W.heap.size) (W.alloc (.cells #[Ae 0,A 0,A 0] 82)):=by
 have M:=h.grow (an1 W (.cells #[Ae 0,A 0,A 0] 82) none);refine⟨M.g,M.i6,λB e=>?_,λAd B e1 e2=>?_⟩
 ·cases e;exact⟨h.g.size,ap5 _ _⟩
 ·cases e2;have:=(an0.1 (h.i6 Ad e1).2).1;omega
theorem ND(w:World)(BS c:Nat)(f:Key->Key)(dom:Key->Prop)(k1 k2:Key)(hM:kL w BS f dom c)(hc:c<=500)(d1:dom k1)(d2:dom k2)(f1:f k1=k1)(f2:f k2=k2)
 (b1:(0<=k1.1/\k1.1<=255)/\k1.2.1<=1000/\k1.2.2<=1000)(b2:(0<=k2.1/\k2.1<=255)/\k2.2.1<=1000/\k2.2.2<=1000) :
  Calls prog 152 #[.map (some BS),bZ k1,bZ k2] w λe w'=>(∃z,e=.returned z)/\w.grownBy w' (some BS)/\kL w' BS (λq=>if q=k2 then k1 else f q) dom (c+1):=by
 have hlt:=hM.lt;obtain⟨W0,Io⟩:∃W0,(w.alloc (.cells #[Ae k1.1,A k1.2.1,A k1.2.2] 82)).alloc (.cells #[Ae k2.1,A k2.2.1,A k2.2.2] 82)=W0:=⟨_,rfl⟩;have Ql:w.grownBy W0 none:=by rw[<-Io];exact(an1 _ _ none).trans (an1 _ _ none)
 have c4:W0.heap[w.heap.size]?=some (.cells #[Ae k1.1,A k1.2.1,A k1.2.2] 82 (0,0)):=by
  rw[<-Io,ao3 _ _ _ R,ap5]
 have c5:W0.heap[w.heap.size+1]?=some (.cells #[Ae k2.1,A k2.2.1,A k2.2.2] 82 (0,0)):=by
  have e:w.heap.size+1=(w.alloc (.cells #[Ae k1.1,A k1.2.1,A k1.2.2] 82)).heap.size:=R
  rw[<-Io,e,ap5]
 obtain⟨V,O8⟩:∃V,W0.drew=V:=⟨_,rfl⟩;have Gl:W0.grownBy V none:=by rw[<-O8];exact⟨rfl,rfl,rfl,an2 _,λ_ _ _=>rfl⟩
 have hwV:=Ql.trans Gl;have aje:Hid (∀W,V.grownBy W none->Calls prog 186 #[.map (some BS),bZ k1] W λe w'=>e=.returned (bZ k1)/\W.grownBy w' none):=λW hg=>by
  have h:=OJ W BS c f dom k1 (hM.kept ((hwV.trans hg).block BS hlt R)) d1 (by rw[f1];exact d1) (by rw[f1,f1]) b1 (by rw[f1];exact b1);rw[f1]at h;exact h
 have ade:Hid (∀W,V.grownBy W none->Calls prog 186 #[.map (some BS),bZ k2] W λe w'=>e=.returned (bZ k2)/\W.grownBy w' none):=λW hg=>by
  have h:=OJ W BS c f dom k2 (hM.kept ((hwV.trans hg).block BS hlt R)) d2 (by rw[f2];exact d2) (by rw[f2,f2]) b2 (by rw[f2];exact b2);rw[f2]at h;exact h
 have c4V:=(Gl.block _ (an0.1 c4).1 R).trans c4;have c5V:=(Gl.block _ (an0.1 c5).1 R).trans c5;have aiY:w.heap.size+2<=V.heap.size:=by have:=(an0.1 c5V).1;omega
 have HM:=F hM;have HWV:=F hwV;have HK:Hid (k1=k2\/k1≠k2):=Classical.em _;have HF:=F (And.intro f1 f2);have HD:=F (And.intro d1 d2);clear hM c4 c5 hwV d1 d2 f1 f2;obtain⟨a1,x1,y1⟩:=k1;obtain⟨a2,x2,y2⟩:=k2;simp only[bZ]at aje ade ⊢;simp only at c4V c5V b1 b2 Io
 go_in
 go_wp2_with fail
 clear Io;refine Code.wp_mono (Q:=λe a W=>e=Exit.normal/\∃b6 b7,b6≠b7/\w.heap.size+2<=b6/\w.heap.size+2<=b7/\W.heap[b6]?=some (.cells #[Ae a1,A x1,A y1] 82 (0,0))/\W.heap[b7]?=some (.cells #[Ae a2,A x2,A y2] 82 (0,0))/\V.grownBy W none/\
  a={tmps:=#[.map (some BS),.agg #[Ae a1,A x1,A y1],.agg #[Ae a2,A x2,A y2],undef,Aa w.heap.size 0,Aa (w.heap.size+1) 0,Aa b6 0,Aa b7 0,.map (some BS),.agg #[Ae a1,A x1,A y1],.agg #[Ae a1,A x1,A y1],.map (some BS),.agg #[Ae a2,A x2,A y2],.agg #[Ae a2,A x2,A y2],undef,undef,undef,undef,undef,undef],defers:=[]}) ?post ?region
 case post=>
  rintro e a W ⟨rfl,b6,b7,bg,l6,l7,z6,z7,hgW,rfl⟩;have r60:W.cell? (J b6 0)=some (Ae a1):=by rw[cell_of z6];rfl
  have r61:W.cell? (J b6 1)=some (A x1):=by rw[cell_of z6];rfl
  have r62:W.cell? (J b6 2)=some (A y1):=by rw[cell_of z6];rfl
  have r70:W.cell? (J b7 0)=some (Ae a2):=by rw[cell_of z7];rfl
  have r71:W.cell? (J b7 1)=some (A x2):=by rw[cell_of z7];rfl
  have r72:W.cell? (J b7 2)=some (A y2):=by rw[cell_of z7];rfl
  have hgp:=ahO;have hwW:=(Z HWV).trans hgW;have yS:=(Z HM).kept (hwW.block BS hlt R);have hq0:=eqP a1 a2 x1 y1 x2 y2 W;obtain e|e:=Z HK
  ·obtain⟨rfl,rfl,rfl⟩:a1=a2/\x1=x2/\y1=y2:=by
    have:=e;simp only[aA7]at this;exact this
   have Q1:=F yS;have Q2:=F hwW;clear yS hwW hgW z6 z7 hq0
   go_wp2_with fail
   go_end0
   refine⟨⟨_,rfl⟩,(Z Q2).but (some BS),?_⟩;have h:=(Z Q1).congr (g:=λq=>if q=(a1,x1,y1)then(a1,x1,y1)else f q) (λk _=>by
    by_cases ek:k=(a1,x1,y1)
    ·subst ek;simp[(Z HF).1]
    ·simp[ek])
   obtain⟨D,nn,h0,I,M⟩:=h;exact⟨D,nn,O,I,M⟩
  ·by_cases I:a1=a2
   ·subst I;by_cases M:x1=x2
    ·subst M;have h3:¬(y1:Int)=(y2:Int):=λh=>e (by
                                have:y1=y2:=O;rw[this])
     obtain⟨w2,iW,hP2,dh⟩:=yS.put hc e b2;simp only[bZ]at iW;have Q1:=F hP2;have Q2:=F ((hwW.but (some BS)).trans dh);clear yS hwW hgW z6 z7 hP2 dh e hq0
     go_wp2_with fail
     go_end0
     exact⟨⟨_,rfl⟩,Z Q2,Z Q1⟩
    ·have h3:¬(x1:Int)=(x2:Int):=O;obtain⟨w2,iW,hP2,dh⟩:=yS.put hc e b2;simp only[bZ]at iW;have Q1:=F hP2;have Q2:=F ((hwW.but (some BS)).trans dh);clear yS hwW hgW z6 z7 hP2 dh e hq0
     go_wp2_with fail
     go_end0
     exact⟨⟨_,rfl⟩,Z Q2,Z Q1⟩
   ·skip;obtain⟨w2,iW,hP2,dh⟩:=yS.put hc e b2;simp only[bZ]at iW;have Q1:=F hP2;have Q2:=F ((hwW.but (some BS)).trans dh);clear yS hwW hgW z6 z7 hP2 dh e hq0
    go_wp2_with fail
    go_end0
    exact⟨⟨_,rfl⟩,Z Q2,Z Q1⟩
 refine aq8 (S:=λW'=>V.grownBy W' none) rfl ?_;have aA:V.grownBy V none:=as8 _ _;simp only[ao5,ao1,ap0,Nat.reduceAdd,an7,an6,ao6,ao8,ao7];change wpAnyH prog .any _ _ _ _ _ _ W0.drew;rw[O8];clear O8;refine dF 0 (.map (some BS)) aA ?_
 simp only[aF];refine tH 1 (.agg #[Ae a1,A x1,A y1]) (λw' hS=>?_) aA ?_
 ·have q:=(hS.block _ (an0.1 c4V).1 R).trans c4V;have q0:=(cell_of q 0);have q1:=(cell_of q 1);have q2:=(cell_of q 2)
  go_simp
 simp only[aF];refine dF 3 (.map (some BS)) aA ?_
 simp only[aF];refine tH 4 (.agg #[Ae a2,A x2,A y2]) (λw' hS=>?_) aA ?_
 ·have q:=(hS.block _ (an0.1 c5V).1 R).trans c5V;have q0:=(cell_of q 0);have q1:=(cell_of q 1);have q2:=(cell_of q 2)
  go_simp
 simp only[aF];refine CQ (λops Q1 JE hQ1=>?_);have fin:∀(W:World) (b6 b7:Nat),V.grownBy W none->W.heap[b6]?=some (Obj.cells #[Ae 0,A 0,A 0] 82 (0,0))->W.heap[b7]?=some (Obj.cells #[Ae 0,A 0,A 0] 82 (0,0))->b6≠b7->V.heap.size<=b6->V.heap.size<=b7->
   wpAnyH prog .any ops Q1 (λW'=>V.grownBy W' none) 2 #[true,true,true,true,true,true,true,true,false,false] {tmps:=#[.map (some BS),.agg #[Ae a1,A x1,A y1],.agg #[Ae a2,A x2,A y2],undef,Aa w.heap.size 0,Aa (w.heap.size+1) 0,Aa b6 0,Aa b7 0,.map (some BS),.agg #[Ae a1,A x1,A y1],.agg #[Ae a1,A x1,A y1],.map (some BS),.agg #[Ae a2,A x2,A y2],.agg #[Ae a2,A x2,A y2],undef,undef,undef,undef,undef,undef],defers:=[]} W:=by
  intro W b6 b7 hgW z6 z7 bg l6 l7;subst JE;subst hQ1;have lt6:=(an0.1 z6).1;have lt7:=(an0.1 z7).1;have s60:W.cell? (J b6 0)=some (Ae 0):=by rw[cell_of z6];rfl
  have s61:W.cell? (J b6 1)=some (A 0):=by rw[cell_of z6];rfl
  have s62:W.cell? (J b6 2)=some (A 0):=by rw[cell_of z6];rfl
  have f60:W.frozen? (J b6 0)=false:=by simp[World.frozen?,z6]
  have f61:W.frozen? (J b6 1)=false:=by simp[World.frozen?,z6]
  have f62:W.frozen? (J b6 2)=false:=by simp[World.frozen?,z6]
  obtain⟨W1,dO⟩:∃W1,((W.setCell (J b6 0) (Ae a1)).setCell (J b6 1) (A x1)).setCell (J b6 2) (A y1)=W1:=⟨_,rfl⟩;have z61:W1.heap[b6]?=some (Obj.cells #[Ae a1,A x1,A y1] 82 (0,0)):=by
   rw[<-dO,heap_setCell_same (heap_setCell_same (heap_setCell_same z6))]
   congr 2
  have z71:W1.heap[b7]?=some (Obj.cells #[Ae 0,A 0,A 0] 82 (0,0)):=by
   rw[<-dO,ao9 _ _ _ _ (by show b7≠b6;omega),ao9 _ _ _ _ (by show b7≠b6;omega),ao9 _ _ _ _ (by show b7≠b6;omega)];exact z7
  have bG:V.grownBy W1 none:=by rw[<-dO];exact kK (kK (kK hgW l6 _) l6 _) l6 _
  refine oH 8 (λK hK=>?_);go_simp;refine hK.out _ _ bG ?_;clear hK K dO;have s70:W1.cell? (J b7 0)=some (Ae 0):=by rw[cell_of z71];rfl
  have s71:W1.cell? (J b7 1)=some (A 0):=by rw[cell_of z71];rfl
  have s72:W1.cell? (J b7 2)=some (A 0):=by rw[cell_of z71];rfl
  have f70:W1.frozen? (J b7 0)=false:=by simp[World.frozen?,z71]
  have f71:W1.frozen? (J b7 1)=false:=by simp[World.frozen?,z71]
  have f72:W1.frozen? (J b7 2)=false:=by simp[World.frozen?,z71]
  have lt71:=(an0.1 z71).1;clear s60 s61 s62 f60 f61 f62;obtain⟨W2,Il⟩:∃W2,((W1.setCell (J b7 0) (Ae a2)).setCell (J b7 1) (A x2)).setCell (J b7 2) (A y2)=W2:=⟨_,rfl⟩;have z72:W2.heap[b7]?=some (Obj.cells #[Ae a2,A x2,A y2] 82 (0,0)):=by
   rw[<-Il,heap_setCell_same (heap_setCell_same (heap_setCell_same z71))]
   congr 2
  have z62:W2.heap[b6]?=some (Obj.cells #[Ae a1,A x1,A y1] 82 (0,0)):=by
   rw[<-Il,ao9 _ _ _ _ (by show b6≠b7;omega),ao9 _ _ _ _ (by show b6≠b7;omega),ao9 _ _ _ _ (by show b6≠b7;omega)];exact z61
  have dh:V.grownBy W2 none:=by rw[<-Il];exact kK (kK (kK bG l7 _) l7 _) l7 _
  refine oH 9 (λK hK=>?_);go_simp;refine hK.out _ _ dh (ar2 (by kernel_rfl) ?_ _);exact⟨rfl,b6,b7,bg,O,O,z62,z72,dh,rfl⟩
 subst JE;have TP:=aA;have kU:KY V none none V:=⟨TP,λ_ e=>(by cases e),λ_ e=>(by cases e),λ_ _ e=>(by cases e)⟩;obtain⟨W,hW,hI⟩:∃W,V=W/\KY V none none W:=⟨V,rfl,kU⟩
 conv=>arg 9;rw[hW]
 clear hW kU
 repeat'
  first
  |(show pz _ _ _ _ _ _ _ 2 _ _
    refine oO (λK hK=>?_);go_simp;refine(Z aje W hI.g).mono ?_;rintro e W2 ⟨rfl,hg⟩;have dD:=hI.grow hg;refine hK.out _ _ ⟨dD.g,?_⟩;clear hK K hg hI W
    rename World=>W
    have hI:=dD;clear dD)
  |(show pz _ _ _ _ _ _ _ 5 _ _
    refine oO (λK hK=>?_);go_simp;refine(Z ade W hI.g).mono ?_;rintro e W2 ⟨rfl,hg⟩;have dD:=hI.grow hg;refine hK.out _ _ ⟨dD.g,?_⟩;clear hK K hg hI W
    rename World=>W
    have hI:=dD;clear dD)
  |(show pz _ _ _ _ _ _ _ 6 _ _
    refine oO (λK hK=>?_);have dD:=hI.s6;have dh:=dD.g;go_simp;refine hK.out _ _ ⟨dh,?_⟩;clear hK K dh;generalize W.alloc (.cells #[Ae 0,A 0,A 0] 82)=W2 at dD ⊢;generalize W.heap.size=B6 at dD ⊢;clear hI W
    rename World=>W
    have hI:=dD;clear dD)
  |(show pz _ _ _ _ _ _ _ 7 _ _
    refine oO (λK hK=>?_);have dD:=hI.s7;have dh:=dD.g;go_simp;refine hK.out _ _ ⟨dh,?_⟩;clear hK K dh;generalize W.alloc (.cells #[Ae 0,A 0,A 0] 82)=W2 at dD ⊢;generalize W.heap.size=B7 at dD ⊢;clear hI W
    rename World=>W
    have hI:=dD;clear dD)
  |(show wpAnyH _ _ _ _ _ 6 _ _ _;have h:KY _ none none W:=hI;clear h;refine Go.Proofs.YthcppbmkacbbiabGreat.a3 2 6 7 ?_ ?_ ?_)
  |(show wpAnyH _ _ _ _ _ 5 _ _ _;have h:KY _ none (some _) W:=hI;clear h;refine Go.Proofs.YthcppbmkacbbiabGreat.a2 2 6 ?_ ?_)
  |(show wpAnyH _ _ _ _ _ 5 _ _ _;have h:KY _ (some _) none W:=hI;clear h;refine Go.Proofs.YthcppbmkacbbiabGreat.a2 2 7 ?_ ?_)
  |(show wpAnyH _ _ _ _ _ 4 _ _ _;have h:KY _ (some _) (some _) W:=hI;clear h;refine Go.Proofs.YthcppbmkacbbiabGreat.a1 2 ?_)
  |(show wpAnyH _ _ _ _ _ 5 _ _ _;have h:KY _ none none W:=hI;clear h;refine Go.Proofs.YthcppbmkacbbiabGreat.a3 5 6 7 ?_ ?_ ?_)
  |(show wpAnyH _ _ _ _ _ 4 _ _ _;have h:KY _ none (some _) W:=hI;clear h;refine Go.Proofs.YthcppbmkacbbiabGreat.a2 5 6 ?_ ?_)
  |(show wpAnyH _ _ _ _ _ 4 _ _ _;have h:KY _ (some _) none W:=hI;clear h;refine Go.Proofs.YthcppbmkacbbiabGreat.a2 5 7 ?_ ?_)
  |(show wpAnyH _ _ _ _ _ 3 _ _ _;have h:KY _ (some _) (some _) W:=hI;clear h;refine Go.Proofs.YthcppbmkacbbiabGreat.a1 5 ?_)
  |(show wpAnyH _ _ _ _ _ 4 _ _ _;have h:KY _ none none W:=hI;clear h;refine Go.Proofs.YthcppbmkacbbiabGreat.a2 6 7 ?_ ?_)
  |(show wpAnyH _ _ _ _ _ 3 _ _ _;have h:KY _ none (some _) W:=hI;clear h;refine Go.Proofs.YthcppbmkacbbiabGreat.a1 6 ?_)
  |(show wpAnyH _ _ _ _ _ 3 _ _ _;have h:KY _ (some _) none W:=hI;clear h;refine Go.Proofs.YthcppbmkacbbiabGreat.a1 7 ?_)
  |(show wpAnyH _ _ _ _ _ 2 _ _ _;have h:KY _ (some _) (some _) W:=hI;clear h;exact fin W _ _ hI.g (hI.i6 _ rfl).2 (hI.i7 _ rfl).2 (hI.ne _ _ rfl rfl) (hI.i6 _ rfl).1 (hI.i7 _ rfl).1)
end
section
open Go.RowKit
theorem VG(w:World)(t:ByteArray) :
  Calls prog 18 #[.string t] w λe w'=>e=.returned (.bool (!fU t))/\Ag w w':=by
 by_cases h60:60<t.size
 ·have hb:(60:Int)<(t.size:Int):=O
  have hn:fU t=true:=by unfold fU;simp[h60]
  rw[hn]
  go_in
  go_wp2_with fail
  go_ret
  exact⟨rfl,aq1 _ _⟩
 ·have hb:¬(60:Int)<(t.size:Int):=O
  have hcv:=run_bytes_of_string (P:=prog) w 9 39 5 t underlying9 underlying39 underlying5;obtain⟨cap,hcap⟩:∃c,grownCap w t.size 0 5=c:=⟨_,rfl⟩;rw[hcap]at hcv;obtain⟨W,hW⟩:∃W,w.drew.alloc (.cells (bytesRow t cap) 5 ((bytesRow t cap).size,(bytesRow t cap).size+1))=W:=⟨_,rfl⟩;have rQ:Below w.heap.size w W:=by rw[<-hW];exact((aq1 _ w).drew).alloc (an2 _) _
  have hn:W.heap[w.heap.size]?=some (.cells (bytesRow t cap) 5 ((bytesRow t cap).size,(bytesRow t cap).size+1)):=by rw[<-hW];exact ap5 w.drew _
  have aS:∀i (hi:i<t.size),W.cell? (J w.heap.size i)=some (Ae (t[i].toNat:Int)):=λi hi=>by
   rw[Lib.cell_of_heap hn];have h3:=bytesRow_at t cap i hi;simpa[ar4]using h3
  rw[hW]at hcv;have HR:=F aS;clear hW hn aS hcap
  go_in
  go_wp2_with fail
  go_loop [11] (λiv=>∃k:Nat,k<=t.size/\iv=A k/\Hid ((t.data.toList.take k).any gI=false)) (λiv=>t.size-(intOf iv).toNat)
  case atStart=>exact⟨0,ap7 _,rfl,by simp[Hid]⟩
  case round=>
   obtain⟨k,hk,rfl,ny⟩:=hrel;by_cases hlt:k<t.size
   ·have hbk:(k:Int)<(t.size:Int):=O;have hck:=Z HR k hlt;have gU:=zi hlt;rw[Z ny,Bool.false_or]at gU;have iL:gI t[k]=(decide ((t[k].toNat:Int)<48)||decide ((57:Int)<(t[k].toNat:Int))):=rfl;have alk:(t[k].toNat:Int)<256:=(by have:=t[k].toNat_lt;omega);have Ew:=F gU;have MX:=F iL;clear gU iL ny;generalize gI t[k]=nd at Ew MX;generalize (t[k].toNat:Int)=c at hck MX alk;have aaM:Hid (nd=true->fU t=true):=λh=>by
     have q:=Z Ew;rw[h]at q;exact any_true (k:=k+1) (by rw[q];simp)
    by_cases Qr:c<48
    ·have Bc:fU t=true:=Z aaM (by rw[Z MX];simp[Qr]);have Qg:=F Bc;clear Bc
     go_wp2_with fail
     refine aq0 (v:=.bool false) (by simp[results,results18,go_sem]) rfl ⟨by rw[Z Qg];rfl,rQ⟩
    ·by_cases h57:57<c
     ·have Bc:fU t=true:=Z aaM (by rw[Z MX];simp[h57]);have Qg:=F Bc;clear Bc
      go_wp2_with fail
      refine aq0 (v:=.bool false) (by simp[results,results18,go_sem]) rfl ⟨by rw[Z Qg];rfl,rQ⟩
     ·have hnf:nd=false:=(by rw[Z MX];simp[Qr,h57]);have HNF:=F hnf;clear hnf
      go_wp2_with fail
      refine⟨⟨k+1,hlt,by go_num,by rw[Z Ew];exact HNF⟩,by simp[intOf];omega⟩
   ·have gW:k=t.size:=O;have hbk:¬(k:Int)<(t.size:Int):=O;have Bc:fU t=false:=by
     have q:=Z ny;rw[gW,aq5 R]at q;unfold fU;rw[q,show decide (60<t.size)=false by simp;omega];rfl
    have Qg:=F Bc;clear Bc gW ny
    go_wp2_with fail
    refine aq0 (v:=.bool true) (by simp[results,results18,go_sem]) rfl ⟨by rw[Z Qg];rfl,rQ⟩
end
open Go.RowKit Go.Maps Go.WideMaps
open au (Key put RT Lp RF RP RQ)
theorem qR(w:World)(s:ByteArray)(hs:s.size<=100)(Y:Ai)(cs:Ah)(ps:Ai)(m:Nat)(hR:au.lG (pk s) (s.size+1) 0 0 [] [] []=.ok (s.size,Y,cs,ps,m))(h7:Y.length<=7)(h4:cs.length<=4)
 (hi:au.Inv Y)(Bd:au.kD Y cs)(UH:cs.Nodup)(qj:au.bJ Y.length cs.length ps)(hp:ps.length<=100) :
  Calls prog 17 #[.string s] w λe w'=>∃GT GC GP,e=.returned (.tuple #[fv GT GC GP Y.length cs.length ps.length,A 0,A 0])/\Ag w w'/\FR w' (w.heap.size+1) GT GC GP Y cs ps:=
 aeN w s hs s.size Y cs ps m (F hR) rfl h7 h4 hi.nodup UH qj.nd hp (ae9 hi h7) (aa1 Bd h7) (ZF qj O O O)
theorem yx(w:World)(s:ByteArray)(hm:s.size<=maxLen) :
  Calls prog 17 #[.string s] w λe w'=>(∃p0 n0 c0 p1 n1 c1 p2 n2 c2,e=.returned (.tuple #[.agg #[.slice p0 n0 c0,.slice p1 n1 c1,.slice p2 n2 c2],A (chk s).1,A (chk s).2]))/\Ag w w':=by
 by_cases hs:100<s.size
 ·unfold chk;rw[ao4 hs];refine(Zz w s hs hm).mono ?_;rintro e w' ⟨rfl,h⟩;exact⟨⟨_,_,_,_,_,_,_,_,_,rfl⟩,h⟩
 ·have hs':s.size<=100:=O
  by_cases h0:(chk s).1=0
  ·obtain⟨Y,cs,ps,hR,h7,h4,hi,Bd,_,_,_,UH,qj,_,hp⟩:=ji s hs' h0;have I:(chk s).2=0:=by
    unfold chk au.check;rw[an8 hs,<-au.qZ (pk s) (s.size+1) 0 0 [] [] [],hR];simp[au.less,show ¬(7<Y.length\/4<cs.length) by omega]
   rw[h0,I];refine(qR w s hs' Y cs ps _ hR h7 h4 hi Bd UH qj hp).mono ?_;rintro e w' ⟨GT,GC,GP,rfl,h,_⟩;exact⟨⟨_,_,_,_,_,_,_,_,_,rfl⟩,h⟩
  ·revert h0;unfold chk;rw[an8 hs];have iq:=au.vW (pk:=pk s) (N:=s.size) (λa h=>dW h) (s.size+1) 0 0 [] [] O;have uM:=au.qZ (pk s) (s.size+1) 0 0 [] [] [];unfold au.check;rw[<-uM]at iq ⊢;rcases hR:au.lG (pk s) (s.size+1) 0 0 [] [] []with⟨E,p⟩|⟨a1,Y,cs,ps,m⟩
   ·intro _;refine(ab5 w s hs' E p (F hR)).mono ?_;rintro e w' ⟨rfl,h⟩;exact⟨⟨_,_,_,_,_,_,_,_,_,rfl⟩,h⟩
   ·rw[hR]at iq;obtain⟨p1,p2,p3,p4,p5⟩:=iq;simp only[au.less];by_cases I:a1<s.size
    ·simp only[ao4 I];intro _;refine(ab4 w s hs' a1 Y cs ps m (F hR) I).mono ?_;rintro e w' ⟨rfl,h⟩;exact⟨⟨_,_,_,_,_,_,_,_,_,rfl⟩,h⟩
    ·simp only[an8 I];by_cases M:7<Y.length\/4<cs.length
     ·simp only[ao4 M];intro _;refine(Zy w s hs' a1 Y cs ps m (F hR) O M).mono ?_;rintro e w' ⟨rfl,h⟩;exact⟨⟨_,_,_,_,_,_,_,_,_,rfl⟩,h⟩
     ·simp only[an8 M];intro h;exact absurd R h
theorem check_any(w:World)(s:ByteArray)(hm:s.size<=maxLen) :
  Calls prog 36 #[.string s] w λe w'=>e=.returned (.tuple #[A (chk s).1,A (chk s).2])/\Ag w w':=by
 have HR:=F (λw=>yx w s hm);generalize chk s=c at HR
 go_in
 go_wp2_with fail
 refine((Z HR) _).mono ?_;rintro e w1 ⟨⟨p0,n0,c0,p1,n1,c1,p2,n2,c2,rfl⟩,I⟩
 go_wp2_with fail
 go_ret2
 exact⟨rfl,I.alloc I.size _⟩
end Go.Proofs.YthcppbmkacbbiabGreat
