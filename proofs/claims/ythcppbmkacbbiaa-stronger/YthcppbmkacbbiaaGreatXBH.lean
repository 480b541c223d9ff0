import Derived.Test.YthcppbmkacbbiaaGreatXBF
import Derived.Test.YthcppbmkacbbiaaGreatXBD
import Derived.Laws.StructEq
set_option linter.unusedSimpArgs false
set_option maxHeartbeats 8000000
set_option maxRecDepth 100000
namespace Go.Proofs.YthcppbmkacbbiaaGreat
open Go.Proofs.Tryz
section
open Sat (View Rule je bG)
open aB (Key put lD dR jn au aO dF fA)
def vY(f:Nat->Nat)(n:Nat):List Int:=(List.range n).map λi=>(f i:Int)
theorem gI(f:Nat->Nat){n i:Nat}(h:i<n):(vY f n).getD i 0=(f i:Int):=by
 unfold vY;rw[ad4,aj0,List.getElem?_range h];rfl
structure Aa(f:Nat->Nat)(ts:List Key)(cs:List (Int×Nat))(ps:List Key)(hl:List Bool):Prop where
 CZ:wE f ts
 WT:∀p∈aY (wX f cs) cs.length,hl.getD p.1 false=hl.getD p.2 false
 WO:(dR (vY f ts.length) hl ps).getD (ps.length-1) false=true
def Du(f:Nat->Nat)(cs:List (Int×Nat))(hl:List Bool):Prop:=∀i j (hi:i<cs.length) (hj:j<cs.length),cs[i].1=cs[j].1->f cs[i].2=f cs[j].2->hl.getD i false=hl.getD j false
theorem kY(f:Nat->Nat)(cs:List (Int×Nat))(hl:List Bool):(∀p∈aY (wX f cs) cs.length,hl.getD p.1 false=hl.getD p.2 false)↔Du f cs hl:=by
 have hB:=BF (wX f cs) (λi j=>hl.getD i false=hl.getD j false) (λ_=>rfl) (λ_ _ e=>e.symm) (λ_ _ _ e1 e2=>e1.trans e2);rw[fO]at hB;rw[hB];constructor
 ·intro h i j hi hj e1 e2;exact h i j hi hj (by simp[wX,hi,hj,e1,e2])
 ·intro h i j hi hj e;simp only[wX,aj0,ab4 hi,ab4 hj,an3,ag8,an2]at e;exact h i j hi hj e.1 e.2
def fZ(q:Key):Key:=if q.1=61 then(if q.2.1=q.2.2 then(61,0,0)else if q.2.2<q.2.1 then(61,q.2.2,q.2.1)else q)else q
theorem eH:FK fZ:=by
 refine⟨λq h=>?_,λq h=>?_⟩
 ·unfold fZ;rw[ad3 h];by_cases e:q.2.1=q.2.2
  ·rw[ad3 e];exact⟨rfl,Or.inr (Or.inr ⟨e,rfl⟩)⟩
  ·rw[ac2 e];by_cases e2:q.2.2<q.2.1
   ·rw[ad3 e2];exact⟨rfl,Or.inr (Or.inl rfl)⟩
   ·rw[ac2 e2];exact⟨h,Or.inl rfl⟩
 ·unfold fZ;rw[ac2 h]
theorem DY(a:Nat):fZ (bH a a)=bH 0 0:=by simp[fZ,bH]
theorem NH(a b:Nat):fZ (bH a b)=fZ (bH b a):=by
 unfold fZ bH;simp only[ah9];by_cases e:a=b
 ·subst e;rfl
 ·have e':¬b=a:=λh=>e h.symm;rw[ac2 e,ac2 e'];by_cases h:b<a
  ·rw[ad3 h,ac2 (by omega)]
  ·rw[ac2 h,ad3 (by omega)]
def zA(ts:List Key)(cs:List (Int×Nat))(ps:List Key):List (List aT):=lG fZ ps++Qb fZ ts.length++Uz fZ ts++WQ fZ cs
theorem aG{α:Type}{l:List α}{i:Nat}(h:i<l.length)(d:α):l.getD i d=l[i]:=by
 rw[ad4,ab4 h];rfl
theorem FD{sm:Key->Key}(hs:FK sm){v:Key->Bool}{f:Nat->Nat}{ts:List Key}{cs:List (Int×Nat)}{ps:List Key}{hl:List Bool}(hi:aO ts.length cs.length ps)(hk:fA cs ps)
 (hf:∀q∈ps,q.1=61->(f q.2.1=f q.2.2↔v (sm q)=true))(hh:∀c (h:c<cs.length),hl.getD c false=v (cs[c].1,c,0)):pU sm v (vY f ts.length) hl ps:=by
 intro q hq;obtain⟨i,hlt,e⟩:=ag2 hq;have ho:=hi.ok i hlt;rw[e]at ho;refine⟨λh=>?_,λh=>?_⟩
 ·rcases ho with⟨a,_⟩|⟨a,_⟩|⟨a,_⟩|⟨_,h1,h2⟩
  ·omega
  ·rw[h]at a;simp[au]at a
  ·omega
  ·rw[gI f h1,gI f h2];have:=hf q hq h;cases hv:v (sm q)
   ·rw[hv]at this;have:¬f q.2.1=f q.2.2:=λh=>by have:=this.1 h;cases this
    have:¬(f q.2.1:Int)=(f q.2.2:Int):=(by omega);simp[this]
   ·rw[hv]at this;have:=this.2 rfl;simp[this]
 ·obtain⟨h1,h2⟩:=hk.letter q hq h;rw[hs.other q (by omega),hh _ h1,h2];have h3:q.2.2=0:=by
   rcases ho with⟨a,_,b⟩|⟨a,_⟩|⟨_,_,b⟩|⟨a,_⟩
   ·exact b
   ·rcases h with h|h<;>(rw[h]at a;simp[au]at a)
   ·exact b
   ·omega
  congr 1
  rw[<-h3]
theorem Y0{v:Key->Bool}{n:Nat}(h:Hold v (Qb fZ n)):(∀a,v (fZ (bH a a))=true)/\(∀a b,v (fZ (bH a b))=true->v (fZ (bH b a))=true)/\∀a b c,a<n->b<n->c<n->v (fZ (bH a b))=true->v (fZ (bH b c))=true->v (fZ (bH a c))=true:=by
 obtain⟨h1,h2⟩:=ER.1 h;rw[DY]at h1;have hr:∀a,v (fZ (bH a a))=true:=λa=>by rw[DY];exact h1
 have hs:∀a b,v (fZ (bH a b))=true->v (fZ (bH b a))=true:=λa b e=>by rw[NH];exact e
 refine⟨hr,hs,λa b c ha hb hc e1 e2=>?_⟩;by_cases h3:c<a
 ·exact h2 a ha b hb c h3 e1 e2
 ·by_cases h4:a<c
  ·exact hs _ _ (h2 c hc b hb a h4 (hs _ _ e2) (hs _ _ e1))
  ·have:a=c:=(by omega);subst this;exact hr a
theorem FQ{v:Key->Bool}{f:Nat->Nat}{ts:List Key}{cs:List (Int×Nat)}{ps:List Key}{hl:List Bool}(hi:aO ts.length cs.length ps)(hk:fA cs ps)(h0:0<ps.length)
 (ht:∀i (hi:i<ts.length),ts[i].2.1<ts.length/\ts[i].2.2<ts.length)(hc:∀x∈cs,(x.1=80\/x.1=81)/\x.2<ts.length)
 (h:Hold v (zA ts cs ps))(hf:∀a b,a<ts.length->b<ts.length->(f a=f b↔v (fZ (bH a b))=true))(hh:∀c (h:c<cs.length),hl.getD c false=v (cs[c].1,c,0)):Aa f ts cs ps hl:=by
 unfold zA at h;rw[dY,dY,dY]at h;obtain⟨⟨⟨h1,h2⟩,h3⟩,h4⟩:=h;obtain⟨e1,e2,e3⟩:=Y0 h2;refine⟨?_,?_,?_⟩
 ·rw[iF];intro i j hi' hj' p1 p2 p3;obtain⟨a1,a2⟩:=ht i hi';obtain⟨b1,b2⟩:=ht j hj';have q2:=(hf _ _ a1 b1).1 p2;have q3:=(hf _ _ a2 b2).1 p3;refine(hf i j hi' hj').2 ?_;have key:=EP.1 h3;by_cases hij:j<i
  ·have:=key i hi' j hij;rw[aG hi',aG hj']at this;exact this p1 q2 q3
  ·by_cases hji:i<j
   ·have:=key j hj' i hji;rw[aG hi',aG hj']at this;exact e2 _ _ (this p1.symm (e2 _ _ q2) (e2 _ _ q3))
   ·have:i=j:=(by omega);subst this;exact e1 i
 ·rw[kY];intro i j hi' hj' p1 p2;have a1:=(hc _ (ab5 hi'));have b1:=(hc _ (ab5 hj'));have q2:=(hf _ _ a1.2 b1.2).1 p2;have key:=EN.1 h4;have s1:fZ (cs[i].1,i,0)=(cs[i].1,i,0):=eH.other _ (by show cs[i].1≠61;omega);have s2:fZ (cs[j].1,j,0)=(cs[j].1,j,0):=eH.other _ (by show cs[j].1≠61;omega);rw[hh i hi',hh j hj'];by_cases hij:j<i
  ·have:=key i hi' j hij;rw[aG hi',aG hj',s1,s2]at this;exact this p1 q2
  ·by_cases hji:i<j
   ·have:=key j hj' i hji;rw[aG hi',aG hj',s1,s2]at this;exact(this p1.symm (e2 _ _ q2)).symm
   ·have:i=j:=(by omega);subst this;rfl
 ·refine DL hi h0 (sV.1 h1) (FD eH hi hk (λq hq h61=>?_) hh);obtain⟨i,hlt,e⟩:=ag2 hq;have ho:=hi.ok i hlt;rw[e]at ho;rcases ho with⟨a,_⟩|⟨a,_⟩|⟨a,_⟩|⟨_,g1,g2⟩
  ·omega
  ·rw[h61]at a;simp[au]at a
  ·omega
  ·have:=hf _ _ g1 g2;have eq:q=bH q.2.1 q.2.2:=(by unfold bH;rw[<-h61]);rw[<-eq]at this;exact this
theorem pJ{sm:Key->Key}(hs:FK sm){f:Nat->Nat}{n:Nat}{hl:List Bool}{ps:List Key}{a b:Nat}(ha:a<n)(hb:b<n):cv (vY f n) hl ps (sm (bH a b))=true↔f a=f b:=by
 rw[UE hs (q:=bH a b) rfl]
 show decide ((vY f n).getD a 0=(vY f n).getD b 0)=true↔_
 rw[gI f ha,gI f hb];simp only[ai0];omega
theorem Gy{f:Nat->Nat}{ts:List Key}{cs:List (Int×Nat)}{ps:List Key}{hl:List Bool}(hi:aO ts.length cs.length ps)(h0:0<ps.length)(hn:0<ts.length)
 (ht:∀i (hi:i<ts.length),ts[i].2.1<ts.length/\ts[i].2.2<ts.length)(hc:∀x∈cs,(x.1=80\/x.1=81)/\x.2<ts.length)(h:Aa f ts cs ps hl):Hold (cv (vY f ts.length) hl ps) (zA ts cs ps):=by
 unfold zA;rw[dY,dY,dY];refine⟨⟨⟨sV.2 (Fj eH hi h0 h.WO),ER.2 ⟨?_,λa ha b hb c hc'=>?_⟩⟩,EP.2 λa ha b hb=>?_⟩,EN.2 λa ha b hb=>?_⟩
 ·rw[pJ eH hn hn]
 ·rw[pJ eH ha hb,pJ eH hb (by omega),pJ eH ha (by omega)];exact Eq.trans
 ·have hb':b<ts.length:=by omega
  obtain⟨a1,a2⟩:=ht a ha;obtain⟨b1,b2⟩:=ht b hb';rw[aG ha,aG hb',pJ eH a1 b1,pJ eH a2 b2,pJ eH ha hb'];exact(iF f ts).1 h.CZ a b ha hb'
 ·have hb':b<cs.length:=by omega
  have a1:=hc _ (ab5 ha);have b1:=hc _ (ab5 hb');rw[aG ha,aG hb',pJ eH a1.2 b1.2];intro p1 p2;have s1:fZ (cs[a].1,a,0)=(cs[a].1,a,0):=eH.other _ (by show cs[a].1≠61;omega);have s2:fZ (cs[b].1,b,0)=(cs[b].1,b,0):=eH.other _ (by show cs[b].1≠61;omega);rw[s1,s2,tK a1.1,tK b1.1];exact(kY f cs hl).1 h.WT a b ha hb' p1 p2
theorem FP{v:Key->Bool}{f:Nat->Nat}{ts:List Key}{cs:List (Int×Nat)}{ps:List Key}{hl:List Bool}(hi:aO ts.length cs.length ps)(hk:fA cs ps)(h0:0<ps.length)
 (h:Hold v (lG id ps))(vS:wE f ts)(aaf:Du f cs hl)(hf:∀q∈ps,q.1=61->(f q.2.1=f q.2.2↔v q=true))(hh:∀c (h:c<cs.length),hl.getD c false=v (cs[c].1,c,0)):Aa f ts cs ps hl:=
 ⟨vS,(kY f cs hl).2 aaf,DL hi h0 (sV.1 h) (FD IY hi hk hf hh)⟩
theorem Gx{f:Nat->Nat}{ts:List Key}{cs:List (Int×Nat)}{ps:List Key}{hl:List Bool}(hi:aO ts.length cs.length ps)(h0:0<ps.length)(h:Aa f ts cs ps hl):Hold (cv (vY f ts.length) hl ps) (lG id ps):=
 sV.2 (Fj IY hi h0 h.WO)
end
section
open Go.RowKit Go.Maps Go.WideMaps
open aB (Key put)
theorem rM{P:Program}{md:Region.Mode}{ops:Array Oper}{Q:Exit->Act->World->Prop}{S:World->Prop}{fuel:Nat}{listed:Array Bool}{a:Act}{w:World}(h:∀(ops':Array Oper) (Q':Exit->Act->World->Prop),ops'=ops->Q'=Q->wpAnyH P md ops' Q' S fuel listed a w):wpAnyH P md ops Q S fuel listed a w:=h _ _ rfl rfl
theorem gB.put{w:World}{b c:Nat}{f:Key->Key}{dom:Key->Prop}(h:gB w b f dom c)(hc:c<=500){k1 k2:Key}(hne:k1≠k2)(b2:(0<=k2.1/\k2.1<=255)/\k2.2.1<=1000/\k2.2.2<=1000) :
  ∃w',(Instr.mapUpdate 208 (.map (some b)) (aQ k2) (aQ k1)).run prog w=.ok () w'/\gB w' b (λq=>if q=k2 then k1 else f q) dom (c+1)/\w.grownBy w' (some b):=by
 obtain⟨D,nn,h0,hown,hall⟩:=h;obtain⟨l,hkey⟩:=Lc k2 b2.1 b2.2.1 b2.2.2;obtain⟨w',hrun,hown',hg⟩:=hown.update nV underlying208 (by unfold maxLen;omega) hkey (d:=.held (aQ k1)) (ps:=[]) rfl;have fP:=hown.tidy nV;refine⟨w',hrun,⟨_,nn+1,by omega,hown',λq m hq hm=>?_⟩,hg⟩;by_cases e:m=l
 ·subst e;have:q=k2:=qA (nV.inj hm hkey);subst this;simp only[ah9];refine⟨?_,λ_ z=>?_⟩
  ·rw[has_put_same fP.isMap (nV.key hkey)];simp[hne]
  ·rw[atKey_put_same fP.isMap (nV.key hkey)]
 ·have hqe:q≠k2:=λe'=>e (by subst e';rw[hm]at hkey;exact ai3 hkey);simp only[ac2 hqe];obtain⟨q1,q2⟩:=hall q m hq hm;refine⟨by rw[has_put_other e];exact q1,λh z=>?_⟩;rw[atKey_put_other e];exact q2 h z
theorem eqP(a1 a2:Int)(x1 y1 x2 y2:Nat)(W:World):(Op.equalIn 10000 93 (.agg #[.int .u8 a1,.int .i64 x1,.int .i64 y1]) (.agg #[.int .u8 a2,.int .i64 x2,.int .i64 y2])).run prog W=.ok (decide ((a1,x1,y1)=(a2,x2,y2))) W:=by
 have u3:=underlying3;have a3:=isAgg3;have z3:=sizeOf3;have u4:=underlying5;have a4:=isAgg5;have z4:=sizeOf5;have hS:prog.underlying 93=some (.struct (prog.fieldsOf 93)):=by kernel_rfl
 have hp:prog.stoodInHeld 93=false:=by kernel_rfl
 rw[show(10000:Nat)=9999+1 from rfl,run_equalIn_agg W 9999 93 _ _ hS hp];simp only[Program.fieldsOf,underlying93];go_simp;by_cases h1:a1=a2<;>by_cases h2:x1=x2<;>by_cases h3:y1=y2<;>simp[h1,h2,h3]<;>omega
theorem gy{w W:World}{row:Option Nat}(h:w.grownBy W row){p:Addr}(hp:w.heap.size<=p.block)(v:Value):w.grownBy (W.setCell p v) row:=
 ⟨h.os,h.tape,h.output,ad6 h.size (by simp[World.setCell]),λk hk hn=>by rw[ad5 _ _ _ _ (by omega)];exact h.block k hk hn⟩
theorem VT:prog.eqGuardType prog.depth 93=false:=by kernel_rfl
theorem AA(w:World)(BS c:Nat)(f:Key->Key)(dom:Key->Prop)(k1 k2:Key)(hM:gB w BS f dom c)(hc:c<=500)(d1:dom k1)(d2:dom k2)(f1:f k1=k1)(f2:f k2=k2)
 (b1:(0<=k1.1/\k1.1<=255)/\k1.2.1<=1000/\k1.2.2<=1000)(b2:(0<=k2.1/\k2.1<=255)/\k2.2.1<=1000/\k2.2.2<=1000) :
  Calls prog 172 #[.map (some BS),aQ k1,aQ k2] w λe w'=>(∃z,e=.returned z)/\w.grownBy w' (some BS)/\gB w' BS (λq=>if q=k2 then k1 else f q) dom (c+1):=by
 have hlt:=hM.lt;obtain⟨W0,hW0⟩:∃W0,(w.alloc (.cells #[.int .u8 k1.1,.int .i64 k1.2.1,.int .i64 k1.2.2] 93)).alloc (.cells #[.int .u8 k2.1,.int .i64 k2.2.1,.int .i64 k2.2.2] 93)=W0:=⟨_,rfl⟩;have hg0:w.grownBy W0 none:=by rw[<-hW0];exact(ab2 _ _ none).trans (ab2 _ _ none)
 have c4:W0.heap[w.heap.size]?=some (.cells #[.int .u8 k1.1,.int .i64 k1.2.1,.int .i64 k1.2.2] 93 (0,0)):=by
  rw[<-hW0,ac1 _ _ _ (by simp),ac4]
 have c5:W0.heap[w.heap.size+1]?=some (.cells #[.int .u8 k2.1,.int .i64 k2.2.1,.int .i64 k2.2.2] 93 (0,0)):=by
  have e:w.heap.size+1=(w.alloc (.cells #[.int .u8 k1.1,.int .i64 k1.2.1,.int .i64 k1.2.2] 93)).heap.size:=by simp
  rw[<-hW0,e,ac4]
 obtain⟨V,hVd⟩:∃V,W0.drew=V:=⟨_,rfl⟩;have jm:W0.grownBy V none:=by rw[<-hVd];exact⟨rfl,rfl,rfl,ab3 _,λ_ _ _=>rfl⟩
 have hwV:=hg0.trans jm;have LU:Hid (∀W,V.grownBy W none->Calls prog 198 #[.map (some BS),aQ k1] W λe w'=>e=.returned (aQ k1)/\W.grownBy w' none):=λW hg=>by
  have h:=BI W BS c f dom k1 (hM.kept ((hwV.trans hg).block BS hlt (by simp))) d1 (by rw[f1];exact d1) (by rw[f1,f1]) b1 (by rw[f1];exact b1);rw[f1]at h;exact h
 have qY:Hid (∀W,V.grownBy W none->Calls prog 198 #[.map (some BS),aQ k2] W λe w'=>e=.returned (aQ k2)/\W.grownBy w' none):=λW hg=>by
  have h:=BI W BS c f dom k2 (hM.kept ((hwV.trans hg).block BS hlt (by simp))) d2 (by rw[f2];exact d2) (by rw[f2,f2]) b2 (by rw[f2];exact b2);rw[f2]at h;exact h
 have c4V:=(jm.block _ (ab1.1 c4).1 (by simp)).trans c4;have c5V:=(jm.block _ (ab1.1 c5).1 (by simp)).trans c5;have SC:w.heap.size+2<=V.heap.size:=by have:=(ab1.1 c5V).1;omega
 have HM:=aj hM;have HWV:=aj hwV;have HK:Hid (k1=k2\/k1≠k2):=Classical.em _;have HF:=aj (And.intro f1 f2);have HD:=aj (And.intro d1 d2);clear hM c4 c5 hwV d1 d2 f1 f2;obtain⟨a1,x1,y1⟩:=k1;obtain⟨a2,x2,y2⟩:=k2;simp only[aQ]at LU qY ⊢;simp only at c4V c5V b1 b2 hW0
 go_enter func172,ntmps172
 go_wp2_with fail
 clear hW0;refine Code.wp_mono (Q:=λe a W=>e=Exit.normal/\∃b6 b7,b6≠b7/\w.heap.size+2<=b6/\w.heap.size+2<=b7/\W.heap[b6]?=some (.cells #[.int .u8 a1,.int .i64 x1,.int .i64 y1] 93 (0,0))/\W.heap[b7]?=some (.cells #[.int .u8 a2,.int .i64 x2,.int .i64 y2] 93 (0,0))/\V.grownBy W none/\
  a={tmps:=#[.map (some BS),.agg #[.int .u8 a1,.int .i64 x1,.int .i64 y1],.agg #[.int .u8 a2,.int .i64 x2,.int .i64 y2],undef,.pointer (some ⟨w.heap.size,0,none⟩),.pointer (some ⟨w.heap.size+1,0,none⟩),.pointer (some ⟨b6,0,none⟩),.pointer (some ⟨b7,0,none⟩),.map (some BS),.agg #[.int .u8 a1,.int .i64 x1,.int .i64 y1],.agg #[.int .u8 a1,.int .i64 x1,.int .i64 y1],.map (some BS),.agg #[.int .u8 a2,.int .i64 x2,.int .i64 y2],.agg #[.int .u8 a2,.int .i64 x2,.int .i64 y2],undef,undef,undef,undef,undef,undef],defers:=[]}) ?post ?region
 case post=>
  rintro e a W ⟨rfl,b6,b7,hne,l6,l7,z6,z7,hgW,rfl⟩;have r60:W.cell? ⟨b6,0,none⟩=some (.int .u8 a1):=by rw[cell_of z6];rfl
  have r61:W.cell? ⟨b6,1,none⟩=some (.int .i64 x1):=by rw[cell_of z6];rfl
  have r62:W.cell? ⟨b6,2,none⟩=some (.int .i64 y1):=by rw[cell_of z6];rfl
  have r70:W.cell? ⟨b7,0,none⟩=some (.int .u8 a2):=by rw[cell_of z7];rfl
  have r71:W.cell? ⟨b7,1,none⟩=some (.int .i64 x2):=by rw[cell_of z7];rfl
  have r72:W.cell? ⟨b7,2,none⟩=some (.int .i64 y2):=by rw[cell_of z7];rfl
  have hgp:=VT;have hwW:=(ah HWV).trans hgW;have hMW:=(ah HM).kept (hwW.block BS hlt (by simp));have hq0:=eqP a1 a2 x1 y1 x2 y2 W;rcases ah HK with e|e
  ·obtain⟨rfl,rfl,rfl⟩:a1=a2/\x1=x2/\y1=y2:=by
    have:=e;simp only[an2]at this;exact this
   have Q1:=aj hMW;have Q2:=aj hwW;clear hMW hwW hgW z6 z7 hq0
   go_wp2_with fail
   go_end0
   refine⟨⟨_,rfl⟩,(ah Q2).but (some BS),?_⟩;have h:=(ah Q1).congr (g:=λq=>if q=(a1,x1,y1)then(a1,x1,y1)else f q) (λk _=>by
    by_cases ek:k=(a1,x1,y1)
    ·subst ek;simp[(ah HF).1]
    ·simp[ek])
   obtain⟨D,nn,h0,h1,h2⟩:=h;exact⟨D,nn,by omega,h1,h2⟩
  ·by_cases h1:a1=a2
   ·subst h1;by_cases h2:x1=x2
    ·subst h2;have h3:¬(y1:Int)=(y2:Int):=λh=>e (by
                                have:y1=y2:=(by omega);rw[this])
     obtain⟨w2,hrun,hP2,hg2⟩:=hMW.put hc e b2;simp only[aQ]at hrun;have Q1:=aj hP2;have Q2:=aj ((hwW.but (some BS)).trans hg2);clear hMW hwW hgW z6 z7 hP2 hg2 e hq0
     go_wp2_with fail
     go_end0
     exact⟨⟨_,rfl⟩,ah Q2,ah Q1⟩
    ·have h3:¬(x1:Int)=(x2:Int):=(by omega);obtain⟨w2,hrun,hP2,hg2⟩:=hMW.put hc e b2;simp only[aQ]at hrun;have Q1:=aj hP2;have Q2:=aj ((hwW.but (some BS)).trans hg2);clear hMW hwW hgW z6 z7 hP2 hg2 e hq0
     go_wp2_with fail
     go_end0
     exact⟨⟨_,rfl⟩,ah Q2,ah Q1⟩
   ·skip;obtain⟨w2,hrun,hP2,hg2⟩:=hMW.put hc e b2;simp only[aQ]at hrun;have Q1:=aj hP2;have Q2:=aj ((hwW.but (some BS)).trans hg2);clear hMW hwW hgW z6 z7 hP2 hg2 e hq0
    go_wp2_with fail
    go_end0
    exact⟨⟨_,rfl⟩,ah Q2,ah Q1⟩
 refine ae9 (S:=λW'=>V.grownBy W' none) rfl ?_;have hS0:V.grownBy V none:=af9 _ _;simp only[ac0,ab9,ac9,Nat.reduceAdd,ab8,ab7,ac3,ac6,ac5];change wpAnyH prog .any _ _ _ _ _ _ W0.drew;rw[hVd];clear hVd;refine tH 0 (.map (some BS)) (λw' hS=>?_) hS0 ?_
 ·go_simp
 simp only[aC];refine tH 1 (.agg #[.int .u8 a1,.int .i64 x1,.int .i64 y1]) (λw' hS=>?_) hS0 ?_
 ·have q:=(hS.block _ (ab1.1 c4V).1 (by simp)).trans c4V;have q0:=(cell_of q 0);have q1:=(cell_of q 1);have q2:=(cell_of q 2)
  go_simp
 simp only[aC];refine tH 3 (.map (some BS)) (λw' hS=>?_) hS0 ?_
 ·go_simp
 simp only[aC];refine tH 4 (.agg #[.int .u8 a2,.int .i64 x2,.int .i64 y2]) (λw' hS=>?_) hS0 ?_
 ·have q:=(hS.block _ (ab1.1 c5V).1 (by simp)).trans c5V;have q0:=(cell_of q 0);have q1:=(cell_of q 1);have q2:=(cell_of q 2)
  go_simp
 simp only[aC];refine rM (λops Q1 hops hQ1=>?_);have fin:∀(W:World) (b6 b7:Nat),V.grownBy W none->W.heap[b6]?=some (Obj.cells #[.int .u8 0,.int .i64 0,.int .i64 0] 93 (0,0))->W.heap[b7]?=some (Obj.cells #[.int .u8 0,.int .i64 0,.int .i64 0] 93 (0,0))->b6≠b7->V.heap.size<=b6->V.heap.size<=b7->
   wpAnyH prog .any ops Q1 (λW'=>V.grownBy W' none) 2 #[true,true,true,true,true,true,true,true,false,false] {tmps:=#[.map (some BS),.agg #[.int .u8 a1,.int .i64 x1,.int .i64 y1],.agg #[.int .u8 a2,.int .i64 x2,.int .i64 y2],undef,.pointer (some ⟨w.heap.size,0,none⟩),.pointer (some ⟨w.heap.size+1,0,none⟩),.pointer (some ⟨b6,0,none⟩),.pointer (some ⟨b7,0,none⟩),.map (some BS),.agg #[.int .u8 a1,.int .i64 x1,.int .i64 y1],.agg #[.int .u8 a1,.int .i64 x1,.int .i64 y1],.map (some BS),.agg #[.int .u8 a2,.int .i64 x2,.int .i64 y2],.agg #[.int .u8 a2,.int .i64 x2,.int .i64 y2],undef,undef,undef,undef,undef,undef],defers:=[]} W:=by
  intro W b6 b7 hgW z6 z7 hne l6 l7;subst hops;subst hQ1;have lt6:=(ab1.1 z6).1;have lt7:=(ab1.1 z7).1;have s60:W.cell? ⟨b6,0,none⟩=some (.int .u8 0):=by rw[cell_of z6];rfl
  have s61:W.cell? ⟨b6,1,none⟩=some (.int .i64 0):=by rw[cell_of z6];rfl
  have s62:W.cell? ⟨b6,2,none⟩=some (.int .i64 0):=by rw[cell_of z6];rfl
  have f60:W.frozen? ⟨b6,0,none⟩=false:=by simp[World.frozen?,z6]
  have f61:W.frozen? ⟨b6,1,none⟩=false:=by simp[World.frozen?,z6]
  have f62:W.frozen? ⟨b6,2,none⟩=false:=by simp[World.frozen?,z6]
  obtain⟨W1,hW1⟩:∃W1,((W.setCell ⟨b6,0,none⟩ (.int .u8 a1)).setCell ⟨b6,1,none⟩ (.int .i64 x1)).setCell ⟨b6,2,none⟩ (.int .i64 y1)=W1:=⟨_,rfl⟩;have z61:W1.heap[b6]?=some (Obj.cells #[.int .u8 a1,.int .i64 x1,.int .i64 y1] 93 (0,0)):=by
   rw[<-hW1,heap_setCell_same (heap_setCell_same (heap_setCell_same z6))]
   congr 2
  have z71:W1.heap[b7]?=some (Obj.cells #[.int .u8 0,.int .i64 0,.int .i64 0] 93 (0,0)):=by
   rw[<-hW1,ad5 _ _ _ _ (by show b7≠b6;omega),ad5 _ _ _ _ (by show b7≠b6;omega),ad5 _ _ _ _ (by show b7≠b6;omega)];exact z7
  have hg1:V.grownBy W1 none:=by rw[<-hW1];exact gy (gy (gy hgW l6 _) l6 _) l6 _
  refine oH 8 (λK hK=>?_);go_simp;refine hK.out _ _ hg1 ?_;clear hK K hW1;have s70:W1.cell? ⟨b7,0,none⟩=some (.int .u8 0):=by rw[cell_of z71];rfl
  have s71:W1.cell? ⟨b7,1,none⟩=some (.int .i64 0):=by rw[cell_of z71];rfl
  have s72:W1.cell? ⟨b7,2,none⟩=some (.int .i64 0):=by rw[cell_of z71];rfl
  have f70:W1.frozen? ⟨b7,0,none⟩=false:=by simp[World.frozen?,z71]
  have f71:W1.frozen? ⟨b7,1,none⟩=false:=by simp[World.frozen?,z71]
  have f72:W1.frozen? ⟨b7,2,none⟩=false:=by simp[World.frozen?,z71]
  have lt71:=(ab1.1 z71).1;clear s60 s61 s62 f60 f61 f62;obtain⟨W2,hW2⟩:∃W2,((W1.setCell ⟨b7,0,none⟩ (.int .u8 a2)).setCell ⟨b7,1,none⟩ (.int .i64 x2)).setCell ⟨b7,2,none⟩ (.int .i64 y2)=W2:=⟨_,rfl⟩;have z72:W2.heap[b7]?=some (Obj.cells #[.int .u8 a2,.int .i64 x2,.int .i64 y2] 93 (0,0)):=by
   rw[<-hW2,heap_setCell_same (heap_setCell_same (heap_setCell_same z71))]
   congr 2
  have z62:W2.heap[b6]?=some (Obj.cells #[.int .u8 a1,.int .i64 x1,.int .i64 y1] 93 (0,0)):=by
   rw[<-hW2,ad5 _ _ _ _ (by show b6≠b7;omega),ad5 _ _ _ _ (by show b6≠b7;omega),ad5 _ _ _ _ (by show b6≠b7;omega)];exact z61
  have hg2:V.grownBy W2 none:=by rw[<-hW2];exact gy (gy (gy hg1 l7 _) l7 _) l7 _
  refine oH 9 (λK hK=>?_);go_simp;refine hK.out _ _ hg2 (ae4 (by kernel_rfl) ?_ _);exact⟨rfl,b6,b7,hne,by omega,by omega,z62,z72,hg2,rfl⟩
 subst hops;have hG0:=hS0;refine Go.Proofs.YthcppbmkacbbiaaGreat.a3 2 6 7 ?_ ?_ ?_
 ·refine oO (λK hK=>?_);go_simp;refine(ah LU V hG0).mono ?_;rintro e W1 ⟨rfl,hg1⟩;have hG1:=hG0.trans hg1;have hsz1:=hg1.size;refine hK.out _ _ ⟨hG1,?_⟩;clear hK K;refine Go.Proofs.YthcppbmkacbbiaaGreat.a3 5 6 7 ?_ ?_ ?_
  ·refine oO (λK hK=>?_);go_simp;refine(ah qY W1 hG1).mono ?_;rintro e W2 ⟨rfl,hg2⟩;have hG2:=hG1.trans hg2;have hsz2:=hg2.size;refine hK.out _ _ ⟨hG2,?_⟩;clear hK K;refine Go.Proofs.YthcppbmkacbbiaaGreat.a2 6 7 ?_ ?_
   ·refine oO (λK hK=>?_);have hg3:W2.grownBy (W2.alloc (.cells #[.int .u8 0,.int .i64 0,.int .i64 0] 93)) none:=ab2 _ _ none;have hN3:(W2.alloc (.cells #[.int .u8 0,.int .i64 0,.int .i64 0] 93)).heap[W2.heap.size]?=some (.cells #[.int .u8 0,.int .i64 0,.int .i64 0] 93 (0,0)):=ac4 _ _;have hlo3:=hG2.size;go_simp;refine hK.out _ _ ⟨hG2.trans hg3,?_⟩;clear hK K;obtain⟨B3,hB3⟩:∃B,W2.heap.size=B:=⟨_,rfl⟩;obtain⟨W3,hW3⟩:∃V',W2.alloc (.cells #[.int .u8 0,.int .i64 0,.int .i64 0] 93)=V':=⟨_,rfl⟩;rw[hW3]at hg3 hN3 ⊢;rw[hB3]at hN3 hlo3 ⊢;have hG3:=hG2.trans hg3;have hlt3:B3<W3.heap.size:=(ab1.1 hN3).1;refine Go.Proofs.YthcppbmkacbbiaaGreat.a1 7 ?_;refine oO (λK hK=>?_);have hg4:W3.grownBy (W3.alloc (.cells #[.int .u8 0,.int .i64 0,.int .i64 0] 93)) none:=ab2 _ _ none;have hN4:(W3.alloc (.cells #[.int .u8 0,.int .i64 0,.int .i64 0] 93)).heap[W3.heap.size]?=some (.cells #[.int .u8 0,.int .i64 0,.int .i64 0] 93 (0,0)):=ac4 _ _;have ZW:=hG3.size;go_simp;refine hK.out _ _ ⟨hG3.trans hg4,?_⟩;clear hK K;obtain⟨B4,hB4⟩:∃B,W3.heap.size=B:=⟨_,rfl⟩;obtain⟨W4,hW4⟩:∃V',W3.alloc (.cells #[.int .u8 0,.int .i64 0,.int .i64 0] 93)=V':=⟨_,rfl⟩;rw[hW4]at hg4 hN4 ⊢;rw[hB4]at hN4 ZW ⊢;have hG4:=hG3.trans hg4;have hlt4:B4<W4.heap.size:=(ab1.1 hN4).1;have l64:=(ab1.1 hN3).1;have z64:=(hg4.block _ l64 (by simp)).trans hN3;exact fin W4 B3 B4 hG4 z64 hN4 (by omega) (by omega) (by omega)
   ·refine oO (λK hK=>?_);have hg5:W2.grownBy (W2.alloc (.cells #[.int .u8 0,.int .i64 0,.int .i64 0] 93)) none:=ab2 _ _ none;have hN5:(W2.alloc (.cells #[.int .u8 0,.int .i64 0,.int .i64 0] 93)).heap[W2.heap.size]?=some (.cells #[.int .u8 0,.int .i64 0,.int .i64 0] 93 (0,0)):=ac4 _ _;have ZV:=hG2.size;go_simp;refine hK.out _ _ ⟨hG2.trans hg5,?_⟩;clear hK K;obtain⟨B5,hB5⟩:∃B,W2.heap.size=B:=⟨_,rfl⟩;obtain⟨W5,hW5⟩:∃V',W2.alloc (.cells #[.int .u8 0,.int .i64 0,.int .i64 0] 93)=V':=⟨_,rfl⟩;rw[hW5]at hg5 hN5 ⊢;rw[hB5]at hN5 ZV ⊢;have hG5:=hG2.trans hg5;have abP:B5<W5.heap.size:=(ab1.1 hN5).1;refine Go.Proofs.YthcppbmkacbbiaaGreat.a1 6 ?_;refine oO (λK hK=>?_);have hg6:W5.grownBy (W5.alloc (.cells #[.int .u8 0,.int .i64 0,.int .i64 0] 93)) none:=ab2 _ _ none;have hN6:(W5.alloc (.cells #[.int .u8 0,.int .i64 0,.int .i64 0] 93)).heap[W5.heap.size]?=some (.cells #[.int .u8 0,.int .i64 0,.int .i64 0] 93 (0,0)):=ac4 _ _;have ZU:=hG5.size;go_simp;refine hK.out _ _ ⟨hG5.trans hg6,?_⟩;clear hK K;obtain⟨B6,hB6⟩:∃B,W5.heap.size=B:=⟨_,rfl⟩;obtain⟨W6,hW6⟩:∃V',W5.alloc (.cells #[.int .u8 0,.int .i64 0,.int .i64 0] 93)=V':=⟨_,rfl⟩;rw[hW6]at hg6 hN6 ⊢;rw[hB6]at hN6 ZU ⊢;have hG6:=hG5.trans hg6;have abO:B6<W6.heap.size:=(ab1.1 hN6).1;have l76:=(ab1.1 hN5).1;have z76:=(hg6.block _ l76 (by simp)).trans hN5;exact fin W6 B6 B5 hG6 hN6 z76 (by omega) (by omega) (by omega)
  ·refine oO (λK hK=>?_);have hg7:W1.grownBy (W1.alloc (.cells #[.int .u8 0,.int .i64 0,.int .i64 0] 93)) none:=ab2 _ _ none;have hN7:(W1.alloc (.cells #[.int .u8 0,.int .i64 0,.int .i64 0] 93)).heap[W1.heap.size]?=some (.cells #[.int .u8 0,.int .i64 0,.int .i64 0] 93 (0,0)):=ac4 _ _;have ZT:=hG1.size;go_simp;refine hK.out _ _ ⟨hG1.trans hg7,?_⟩;clear hK K;obtain⟨B7,hB7⟩:∃B,W1.heap.size=B:=⟨_,rfl⟩;obtain⟨W7,hW7⟩:∃V',W1.alloc (.cells #[.int .u8 0,.int .i64 0,.int .i64 0] 93)=V':=⟨_,rfl⟩;rw[hW7]at hg7 hN7 ⊢;rw[hB7]at hN7 ZT ⊢;have hG7:=hG1.trans hg7;have abN:B7<W7.heap.size:=(ab1.1 hN7).1;refine Go.Proofs.YthcppbmkacbbiaaGreat.a2 5 7 ?_ ?_
   ·refine oO (λK hK=>?_);go_simp;refine(ah qY W7 hG7).mono ?_;rintro e W8 ⟨rfl,hg8⟩;have hG8:=hG7.trans hg8;have abG:=hg8.size;have z68:=(hg8.block _ (ab1.1 hN7).1 (by simp)).trans hN7;refine hK.out _ _ ⟨hG8,?_⟩;clear hK K;refine Go.Proofs.YthcppbmkacbbiaaGreat.a1 7 ?_;refine oO (λK hK=>?_);have hg9:W8.grownBy (W8.alloc (.cells #[.int .u8 0,.int .i64 0,.int .i64 0] 93)) none:=ab2 _ _ none;have hN9:(W8.alloc (.cells #[.int .u8 0,.int .i64 0,.int .i64 0] 93)).heap[W8.heap.size]?=some (.cells #[.int .u8 0,.int .i64 0,.int .i64 0] 93 (0,0)):=ac4 _ _;have ZR:=hG8.size;go_simp;refine hK.out _ _ ⟨hG8.trans hg9,?_⟩;clear hK K;obtain⟨B9,hB9⟩:∃B,W8.heap.size=B:=⟨_,rfl⟩;obtain⟨W9,hW9⟩:∃V',W8.alloc (.cells #[.int .u8 0,.int .i64 0,.int .i64 0] 93)=V':=⟨_,rfl⟩;rw[hW9]at hg9 hN9 ⊢;rw[hB9]at hN9 ZR ⊢;have hG9:=hG8.trans hg9;have abM:B9<W9.heap.size:=(ab1.1 hN9).1;have l69:=(ab1.1 z68).1;have z69:=(hg9.block _ l69 (by simp)).trans z68;exact fin W9 B7 B9 hG9 z69 hN9 (by omega) (by omega) (by omega)
   ·refine oO (λK hK=>?_);have hg10:W7.grownBy (W7.alloc (.cells #[.int .u8 0,.int .i64 0,.int .i64 0] 93)) none:=ab2 _ _ none;have PI:(W7.alloc (.cells #[.int .u8 0,.int .i64 0,.int .i64 0] 93)).heap[W7.heap.size]?=some (.cells #[.int .u8 0,.int .i64 0,.int .i64 0] 93 (0,0)):=ac4 _ _;have X7:=hG7.size;go_simp;refine hK.out _ _ ⟨hG7.trans hg10,?_⟩;clear hK K;obtain⟨B10,yN⟩:∃B,W7.heap.size=B:=⟨_,rfl⟩;obtain⟨W10,aar⟩:∃V',W7.alloc (.cells #[.int .u8 0,.int .i64 0,.int .i64 0] 93)=V':=⟨_,rfl⟩;rw[aar]at hg10 PI ⊢;rw[yN]at PI X7 ⊢;have YO:=hG7.trans hg10;have abz:B10<W10.heap.size:=(ab1.1 PI).1;have l610:=(ab1.1 hN7).1;have z610:=(hg10.block _ l610 (by simp)).trans hN7;refine Go.Proofs.YthcppbmkacbbiaaGreat.a1 5 ?_;refine oO (λK hK=>?_);go_simp;refine(ah qY W10 YO).mono ?_;rintro e W11 ⟨rfl,hg11⟩;have YN:=YO.trans hg11;have abn:=hg11.size;have z611:=(hg11.block _ (ab1.1 z610).1 (by simp)).trans z610;have z711:=(hg11.block _ (ab1.1 PI).1 (by simp)).trans PI;refine hK.out _ _ ⟨YN,?_⟩;clear hK K;exact fin W11 B7 B10 YN z611 z711 (by omega) (by omega) (by omega)
  ·refine oO (λK hK=>?_);have hg12:W1.grownBy (W1.alloc (.cells #[.int .u8 0,.int .i64 0,.int .i64 0] 93)) none:=ab2 _ _ none;have Hq:(W1.alloc (.cells #[.int .u8 0,.int .i64 0,.int .i64 0] 93)).heap[W1.heap.size]?=some (.cells #[.int .u8 0,.int .i64 0,.int .i64 0] 93 (0,0)):=ac4 _ _;have X5:=hG1.size;go_simp;refine hK.out _ _ ⟨hG1.trans hg12,?_⟩;clear hK K;obtain⟨B12,aaK⟩:∃B,W1.heap.size=B:=⟨_,rfl⟩;obtain⟨W12,aaq⟩:∃V',W1.alloc (.cells #[.int .u8 0,.int .i64 0,.int .i64 0] 93)=V':=⟨_,rfl⟩;rw[aaq]at hg12 Hq ⊢;rw[aaK]at Hq X5 ⊢;have PY:=hG1.trans hg12;have aby:B12<W12.heap.size:=(ab1.1 Hq).1;refine Go.Proofs.YthcppbmkacbbiaaGreat.a2 5 6 ?_ ?_
   ·refine oO (λK hK=>?_);go_simp;refine(ah qY W12 PY).mono ?_;rintro e W13 ⟨rfl,hg13⟩;have Tn:=PY.trans hg13;have abm:=hg13.size;have z713:=(hg13.block _ (ab1.1 Hq).1 (by simp)).trans Hq;refine hK.out _ _ ⟨Tn,?_⟩;clear hK K;refine Go.Proofs.YthcppbmkacbbiaaGreat.a1 6 ?_;refine oO (λK hK=>?_);have hg14:W13.grownBy (W13.alloc (.cells #[.int .u8 0,.int .i64 0,.int .i64 0] 93)) none:=ab2 _ _ none;have Td:(W13.alloc (.cells #[.int .u8 0,.int .i64 0,.int .i64 0] 93)).heap[W13.heap.size]?=some (.cells #[.int .u8 0,.int .i64 0,.int .i64 0] 93 (0,0)):=ac4 _ _;have X4:=Tn.size;go_simp;refine hK.out _ _ ⟨Tn.trans hg14,?_⟩;clear hK K;obtain⟨B14,aaJ⟩:∃B,W13.heap.size=B:=⟨_,rfl⟩;obtain⟨W14,aap⟩:∃V',W13.alloc (.cells #[.int .u8 0,.int .i64 0,.int .i64 0] 93)=V':=⟨_,rfl⟩;rw[aap]at hg14 Td ⊢;rw[aaJ]at Td X4 ⊢;have aay:=Tn.trans hg14;have abx:B14<W14.heap.size:=(ab1.1 Td).1;have l714:=(ab1.1 z713).1;have z714:=(hg14.block _ l714 (by simp)).trans z713;exact fin W14 B14 B12 aay Td z714 (by omega) (by omega) (by omega)
   ·refine oO (λK hK=>?_);have hg15:W12.grownBy (W12.alloc (.cells #[.int .u8 0,.int .i64 0,.int .i64 0] 93)) none:=ab2 _ _ none;have PG:(W12.alloc (.cells #[.int .u8 0,.int .i64 0,.int .i64 0] 93)).heap[W12.heap.size]?=some (.cells #[.int .u8 0,.int .i64 0,.int .i64 0] 93 (0,0)):=ac4 _ _;have X3:=PY.size;go_simp;refine hK.out _ _ ⟨PY.trans hg15,?_⟩;clear hK K;obtain⟨B15,aaI⟩:∃B,W12.heap.size=B:=⟨_,rfl⟩;obtain⟨W15,aao⟩:∃V',W12.alloc (.cells #[.int .u8 0,.int .i64 0,.int .i64 0] 93)=V':=⟨_,rfl⟩;rw[aao]at hg15 PG ⊢;rw[aaI]at PG X3 ⊢;have YM:=PY.trans hg15;have abw:B15<W15.heap.size:=(ab1.1 PG).1;have l715:=(ab1.1 Hq).1;have z715:=(hg15.block _ l715 (by simp)).trans Hq;refine Go.Proofs.YthcppbmkacbbiaaGreat.a1 5 ?_;refine oO (λK hK=>?_);go_simp;refine(ah qY W15 YM).mono ?_;rintro e W16 ⟨rfl,hg16⟩;have YL:=YM.trans hg16;have abl:=hg16.size;have z616:=(hg16.block _ (ab1.1 PG).1 (by simp)).trans PG;have z716:=(hg16.block _ (ab1.1 z715).1 (by simp)).trans z715;refine hK.out _ _ ⟨YL,?_⟩;clear hK K;exact fin W16 B15 B12 YL z616 z716 (by omega) (by omega) (by omega)
 ·refine oO (λK hK=>?_);have hg17:V.grownBy (V.alloc (.cells #[.int .u8 0,.int .i64 0,.int .i64 0] 93)) none:=ab2 _ _ none;have Ho:(V.alloc (.cells #[.int .u8 0,.int .i64 0,.int .i64 0] 93)).heap[V.heap.size]?=some (.cells #[.int .u8 0,.int .i64 0,.int .i64 0] 93 (0,0)):=ac4 _ _;have X0:=hG0.size;go_simp;refine hK.out _ _ ⟨hG0.trans hg17,?_⟩;clear hK K;obtain⟨B17,aaH⟩:∃B,V.heap.size=B:=⟨_,rfl⟩;obtain⟨W17,aan⟩:∃V',V.alloc (.cells #[.int .u8 0,.int .i64 0,.int .i64 0] 93)=V':=⟨_,rfl⟩;rw[aan]at hg17 Ho ⊢;rw[aaH]at Ho X0 ⊢;have PW:=hG0.trans hg17;have abv:B17<W17.heap.size:=(ab1.1 Ho).1;refine Go.Proofs.YthcppbmkacbbiaaGreat.a2 2 7 ?_ ?_
  ·refine oO (λK hK=>?_);go_simp;refine(ah LU W17 PW).mono ?_;rintro e W18 ⟨rfl,hg18⟩;have Me:=PW.trans hg18;have abk:=hg18.size;have z618:=(hg18.block _ (ab1.1 Ho).1 (by simp)).trans Ho;refine hK.out _ _ ⟨Me,?_⟩;clear hK K;refine Go.Proofs.YthcppbmkacbbiaaGreat.a2 5 7 ?_ ?_
   ·refine oO (λK hK=>?_);go_simp;refine(ah qY W18 Me).mono ?_;rintro e W19 ⟨rfl,hg19⟩;have Tj:=Me.trans hg19;have abj:=hg19.size;have z619:=(hg19.block _ (ab1.1 z618).1 (by simp)).trans z618;refine hK.out _ _ ⟨Tj,?_⟩;clear hK K;refine Go.Proofs.YthcppbmkacbbiaaGreat.a1 7 ?_;refine oO (λK hK=>?_);have hg20:W19.grownBy (W19.alloc (.cells #[.int .u8 0,.int .i64 0,.int .i64 0] 93)) none:=ab2 _ _ none;have Tc:(W19.alloc (.cells #[.int .u8 0,.int .i64 0,.int .i64 0] 93)).heap[W19.heap.size]?=some (.cells #[.int .u8 0,.int .i64 0,.int .i64 0] 93 (0,0)):=ac4 _ _;have XZ:=Tj.size;go_simp;refine hK.out _ _ ⟨Tj.trans hg20,?_⟩;clear hK K;obtain⟨B20,aaG⟩:∃B,W19.heap.size=B:=⟨_,rfl⟩;obtain⟨W20,aam⟩:∃V',W19.alloc (.cells #[.int .u8 0,.int .i64 0,.int .i64 0] 93)=V':=⟨_,rfl⟩;rw[aam]at hg20 Tc ⊢;rw[aaG]at Tc XZ ⊢;have aax:=Tj.trans hg20;have abu:B20<W20.heap.size:=(ab1.1 Tc).1;have l620:=(ab1.1 z619).1;have z620:=(hg20.block _ l620 (by simp)).trans z619;exact fin W20 B17 B20 aax z620 Tc (by omega) (by omega) (by omega)
   ·refine oO (λK hK=>?_);have hg21:W18.grownBy (W18.alloc (.cells #[.int .u8 0,.int .i64 0,.int .i64 0] 93)) none:=ab2 _ _ none;have PE:(W18.alloc (.cells #[.int .u8 0,.int .i64 0,.int .i64 0] 93)).heap[W18.heap.size]?=some (.cells #[.int .u8 0,.int .i64 0,.int .i64 0] 93 (0,0)):=ac4 _ _;have XY:=Me.size;go_simp;refine hK.out _ _ ⟨Me.trans hg21,?_⟩;clear hK K;obtain⟨B21,aaF⟩:∃B,W18.heap.size=B:=⟨_,rfl⟩;obtain⟨W21,aal⟩:∃V',W18.alloc (.cells #[.int .u8 0,.int .i64 0,.int .i64 0] 93)=V':=⟨_,rfl⟩;rw[aal]at hg21 PE ⊢;rw[aaF]at PE XY ⊢;have YK:=Me.trans hg21;have abt:B21<W21.heap.size:=(ab1.1 PE).1;have l621:=(ab1.1 z618).1;have z621:=(hg21.block _ l621 (by simp)).trans z618;refine Go.Proofs.YthcppbmkacbbiaaGreat.a1 5 ?_;refine oO (λK hK=>?_);go_simp;refine(ah qY W21 YK).mono ?_;rintro e W22 ⟨rfl,hg22⟩;have YJ:=YK.trans hg22;have abg:=hg22.size;have z622:=(hg22.block _ (ab1.1 z621).1 (by simp)).trans z621;have z722:=(hg22.block _ (ab1.1 PE).1 (by simp)).trans PE;refine hK.out _ _ ⟨YJ,?_⟩;clear hK K;exact fin W22 B17 B21 YJ z622 z722 (by omega) (by omega) (by omega)
  ·refine oO (λK hK=>?_);have hg23:W17.grownBy (W17.alloc (.cells #[.int .u8 0,.int .i64 0,.int .i64 0] 93)) none:=ab2 _ _ none;have PD:(W17.alloc (.cells #[.int .u8 0,.int .i64 0,.int .i64 0] 93)).heap[W17.heap.size]?=some (.cells #[.int .u8 0,.int .i64 0,.int .i64 0] 93 (0,0)):=ac4 _ _;have XW:=PW.size;go_simp;refine hK.out _ _ ⟨PW.trans hg23,?_⟩;clear hK K;obtain⟨B23,aaE⟩:∃B,W17.heap.size=B:=⟨_,rfl⟩;obtain⟨W23,aak⟩:∃V',W17.alloc (.cells #[.int .u8 0,.int .i64 0,.int .i64 0] 93)=V':=⟨_,rfl⟩;rw[aak]at hg23 PD ⊢;rw[aaE]at PD XW ⊢;have YI:=PW.trans hg23;have abr:B23<W23.heap.size:=(ab1.1 PD).1;have l623:=(ab1.1 Ho).1;have z623:=(hg23.block _ l623 (by simp)).trans Ho;refine Go.Proofs.YthcppbmkacbbiaaGreat.a1 2 ?_;refine oO (λK hK=>?_);go_simp;refine(ah LU W23 YI).mono ?_;rintro e W24 ⟨rfl,hg24⟩;have VO:=YI.trans hg24;have abf:=hg24.size;have z624:=(hg24.block _ (ab1.1 z623).1 (by simp)).trans z623;have z724:=(hg24.block _ (ab1.1 PD).1 (by simp)).trans PD;refine hK.out _ _ ⟨VO,?_⟩;clear hK K;refine Go.Proofs.YthcppbmkacbbiaaGreat.a1 5 ?_;refine oO (λK hK=>?_);go_simp;refine(ah qY W24 VO).mono ?_;rintro e W25 ⟨rfl,hg25⟩;have YH:=VO.trans hg25;have abe:=hg25.size;have z625:=(hg25.block _ (ab1.1 z624).1 (by simp)).trans z624;have z725:=(hg25.block _ (ab1.1 z724).1 (by simp)).trans z724;refine hK.out _ _ ⟨YH,?_⟩;clear hK K;exact fin W25 B17 B23 YH z625 z725 (by omega) (by omega) (by omega)
 ·refine oO (λK hK=>?_);have hg26:V.grownBy (V.alloc (.cells #[.int .u8 0,.int .i64 0,.int .i64 0] 93)) none:=ab2 _ _ none;have Hl:(V.alloc (.cells #[.int .u8 0,.int .i64 0,.int .i64 0] 93)).heap[V.heap.size]?=some (.cells #[.int .u8 0,.int .i64 0,.int .i64 0] 93 (0,0)):=ac4 _ _;have XV:=hG0.size;go_simp;refine hK.out _ _ ⟨hG0.trans hg26,?_⟩;clear hK K;obtain⟨B26,aaD⟩:∃B,V.heap.size=B:=⟨_,rfl⟩;obtain⟨W26,aaj⟩:∃V',V.alloc (.cells #[.int .u8 0,.int .i64 0,.int .i64 0] 93)=V':=⟨_,rfl⟩;rw[aaj]at hg26 Hl ⊢;rw[aaD]at Hl XV ⊢;have PV:=hG0.trans hg26;have abq:B26<W26.heap.size:=(ab1.1 Hl).1;refine Go.Proofs.YthcppbmkacbbiaaGreat.a2 2 6 ?_ ?_
  ·refine oO (λK hK=>?_);go_simp;refine(ah LU W26 PV).mono ?_;rintro e W27 ⟨rfl,hg27⟩;have Mc:=PV.trans hg27;have abd:=hg27.size;have z727:=(hg27.block _ (ab1.1 Hl).1 (by simp)).trans Hl;refine hK.out _ _ ⟨Mc,?_⟩;clear hK K;refine Go.Proofs.YthcppbmkacbbiaaGreat.a2 5 6 ?_ ?_
   ·refine oO (λK hK=>?_);go_simp;refine(ah qY W27 Mc).mono ?_;rintro e W28 ⟨rfl,hg28⟩;have Ti:=Mc.trans hg28;have abb:=hg28.size;have z728:=(hg28.block _ (ab1.1 z727).1 (by simp)).trans z727;refine hK.out _ _ ⟨Ti,?_⟩;clear hK K;refine Go.Proofs.YthcppbmkacbbiaaGreat.a1 6 ?_;refine oO (λK hK=>?_);have hg29:W28.grownBy (W28.alloc (.cells #[.int .u8 0,.int .i64 0,.int .i64 0] 93)) none:=ab2 _ _ none;have S9:(W28.alloc (.cells #[.int .u8 0,.int .i64 0,.int .i64 0] 93)).heap[W28.heap.size]?=some (.cells #[.int .u8 0,.int .i64 0,.int .i64 0] 93 (0,0)):=ac4 _ _;have XU:=Ti.size;go_simp;refine hK.out _ _ ⟨Ti.trans hg29,?_⟩;clear hK K;obtain⟨B29,aaC⟩:∃B,W28.heap.size=B:=⟨_,rfl⟩;obtain⟨W29,aai⟩:∃V',W28.alloc (.cells #[.int .u8 0,.int .i64 0,.int .i64 0] 93)=V':=⟨_,rfl⟩;rw[aai]at hg29 S9 ⊢;rw[aaC]at S9 XU ⊢;have aaw:=Ti.trans hg29;have abp:B29<W29.heap.size:=(ab1.1 S9).1;have l729:=(ab1.1 z728).1;have z729:=(hg29.block _ l729 (by simp)).trans z728;exact fin W29 B29 B26 aaw S9 z729 (by omega) (by omega) (by omega)
   ·refine oO (λK hK=>?_);have hg30:W27.grownBy (W27.alloc (.cells #[.int .u8 0,.int .i64 0,.int .i64 0] 93)) none:=ab2 _ _ none;have Pz:(W27.alloc (.cells #[.int .u8 0,.int .i64 0,.int .i64 0] 93)).heap[W27.heap.size]?=some (.cells #[.int .u8 0,.int .i64 0,.int .i64 0] 93 (0,0)):=ac4 _ _;have XT:=Mc.size;go_simp;refine hK.out _ _ ⟨Mc.trans hg30,?_⟩;clear hK K;obtain⟨B30,aaB⟩:∃B,W27.heap.size=B:=⟨_,rfl⟩;obtain⟨W30,aah⟩:∃V',W27.alloc (.cells #[.int .u8 0,.int .i64 0,.int .i64 0] 93)=V':=⟨_,rfl⟩;rw[aah]at hg30 Pz ⊢;rw[aaB]at Pz XT ⊢;have YG:=Mc.trans hg30;have abo:B30<W30.heap.size:=(ab1.1 Pz).1;have l730:=(ab1.1 z727).1;have z730:=(hg30.block _ l730 (by simp)).trans z727;refine Go.Proofs.YthcppbmkacbbiaaGreat.a1 5 ?_;refine oO (λK hK=>?_);go_simp;refine(ah qY W30 YG).mono ?_;rintro e W31 ⟨rfl,hg31⟩;have YF:=YG.trans hg31;have aa9:=hg31.size;have z631:=(hg31.block _ (ab1.1 Pz).1 (by simp)).trans Pz;have z731:=(hg31.block _ (ab1.1 z730).1 (by simp)).trans z730;refine hK.out _ _ ⟨YF,?_⟩;clear hK K;exact fin W31 B30 B26 YF z631 z731 (by omega) (by omega) (by omega)
  ·refine oO (λK hK=>?_);have hg32:W26.grownBy (W26.alloc (.cells #[.int .u8 0,.int .i64 0,.int .i64 0] 93)) none:=ab2 _ _ none;have Py:(W26.alloc (.cells #[.int .u8 0,.int .i64 0,.int .i64 0] 93)).heap[W26.heap.size]?=some (.cells #[.int .u8 0,.int .i64 0,.int .i64 0] 93 (0,0)):=ac4 _ _;have XR:=PV.size;go_simp;refine hK.out _ _ ⟨PV.trans hg32,?_⟩;clear hK K;obtain⟨B32,aaA⟩:∃B,W26.heap.size=B:=⟨_,rfl⟩;obtain⟨W32,aag⟩:∃V',W26.alloc (.cells #[.int .u8 0,.int .i64 0,.int .i64 0] 93)=V':=⟨_,rfl⟩;rw[aag]at hg32 Py ⊢;rw[aaA]at Py XR ⊢;have YE:=PV.trans hg32;have hlt32:B32<W32.heap.size:=(ab1.1 Py).1;have l732:=(ab1.1 Hl).1;have z732:=(hg32.block _ l732 (by simp)).trans Hl;refine Go.Proofs.YthcppbmkacbbiaaGreat.a1 2 ?_;refine oO (λK hK=>?_);go_simp;refine(ah LU W32 YE).mono ?_;rintro e W33 ⟨rfl,hg33⟩;have VN:=YE.trans hg33;have aa8:=hg33.size;have z633:=(hg33.block _ (ab1.1 Py).1 (by simp)).trans Py;have z733:=(hg33.block _ (ab1.1 z732).1 (by simp)).trans z732;refine hK.out _ _ ⟨VN,?_⟩;clear hK K;refine Go.Proofs.YthcppbmkacbbiaaGreat.a1 5 ?_;refine oO (λK hK=>?_);go_simp;refine(ah qY W33 VN).mono ?_;rintro e W34 ⟨rfl,hg34⟩;have YD:=VN.trans hg34;have aa7:=hg34.size;have z634:=(hg34.block _ (ab1.1 z633).1 (by simp)).trans z633;have z734:=(hg34.block _ (ab1.1 z733).1 (by simp)).trans z733;refine hK.out _ _ ⟨YD,?_⟩;clear hK K;exact fin W34 B32 B26 YD z634 z734 (by omega) (by omega) (by omega)
end
open Go.RowKit Go.Maps Go.WideMaps
open Sat (View Rule je bG)
open aB (Key put dF au aO)
theorem sG(w:World)(dom:Key->Prop)(X:Nat->Prop) :
  Calls prog 92 #[] w λe w'=>∃lb BU BS,e=.returned (.pointer (some ⟨lb,0,none⟩))/\LG w.heap.size w' lb BU BS id dom [] [] X/\gB w' BS id dom 0/\w.grownBy w' none:=by
 have hmm:=@ap4 prog
 go_enter func92,ntmps92
 go_wp2_with fail
 go_ret
 have h1:((w.alloc (.map #[] 0)).alloc (.map #[] 0)).heap.size=w.heap.size+2:=by simp
 have hgF:w.grownBy (((w.alloc (.map #[] 0)).alloc (.map #[] 0)).alloc (.cells #[.map (some w.heap.size),.map (some (w.heap.size+1)),.slice none 0 0] 210)) none:=((ab2 _ _ none).trans (ab2 _ _ none)).trans (ab2 _ _ none);have hm:=gB.made (w.alloc (.map #[] 0)) dom;have e:(w.alloc (.map #[] 0)).heap.size=w.heap.size+1:=by simp
 rw[e]at hm;have hm2:=hm.kept (w':=((w.alloc (.map #[] 0)).alloc (.map #[] 0)).alloc (.cells #[.map (some w.heap.size),.map (some (w.heap.size+1)),.slice none 0 0] 210)) (ac1 _ _ _ (by simp));refine⟨w.heap.size+1+1,w.heap.size,w.heap.size+1,rfl,⟨⟨.slice none 0 0,?_,?_,λk hk=>by cases hk⟩,?_,?_,by omega,by omega⟩,hm2,hgF⟩
 ·refine nO.mk ?_;have e:w.heap.size+1+1=((w.alloc (.map #[] 0)).alloc (.map #[] 0)).heap.size:=by simp
  rw[e,ac4]
 ·exact⟨[],ak5 _ _ _ _,λi hi=>by simp at hi⟩
 ·have hm:aH (w.alloc (.map #[] 0)) 93 w.heap.size aQ ([]:List Key):=iY w _ _;exact(hm.kept (ac1 _ _ _ (by simp))).kept (ac1 _ _ _ (by simp;omega))
 ·obtain⟨D,nn,a,b,c⟩:=hm2;exact⟨D,nn,by omega,b,c⟩
theorem aH.Zz{w:World}{b:Nat}{Us:List Key}(h:aH w 93 b aQ Us)(ty:TypeId):(Builtin.len_ #[80] ty #[.map (some b)]).run prog w=.ok (.int .i64 Us.length) w:=by
 obtain⟨D,h1,h2,_⟩:=h;rw[h1.len underlying80 ty,h2]
theorem vK(w:World)(lb BU:Nat)(ms:Option Nat)(rp:Option Addr)(rl rc:Nat)(Us:List Key)(tape:ByteArray)(no:Nat)(caps:Array Value)(hL:nO w lb (some BU) ms (.slice rp rl rc))(hM:aH w 93 BU aQ Us) :
  Calls prog 86 #[.pointer (some ⟨lb,0,none⟩),.string tape,.func (.func no) #[] caps] w λe w'=>e=.returned (.pointer (some ⟨w.heap.size,0,none⟩))/\nN w' w.heap.size Us.length (.slice rp rl rc) (.func (.func no) #[] caps) tape.data.toList none/\w.grownBy w' none:=by
 obtain⟨c0,_,c2⟩:=hL.cells;have HM:=aj hM;clear hM
 go_enter func86,ntmps86
 go_wp2_with fail
 refine ae9 (S:=λW'=>w.grownBy W' none) rfl ?_;have hS0:w.grownBy w.drew none:=⟨rfl,rfl,rfl,ab3 _,λ_ _ _=>rfl⟩;simp only[ac0,ab9,ac9,Nat.reduceAdd,ab8,ab7,ac3,ac6,ac5];change wpAnyH prog .any _ _ _ _ _ _ w.drew;refine tH 0 (.pointer (some ⟨lb,0,none⟩)) (λw' hS=>?_) hS0 ?_
 ·go_simp
 simp only[aC];refine tH 1 (.pointer (some ⟨lb,0,none⟩)) (λw' hS=>?_) hS0 ?_
 ·go_simp
 simp only[aC];refine tH 2 (.pointer (some ⟨lb,0,none⟩)) (λw' hS=>?_) hS0 ?_
 ·go_simp
 simp only[aC];refine tH 3 (.map (some BU)) (λw' hS=>?_) hS0 ?_
 ·have q:=hS.cell c0 (by simp);go_simp
 simp only[aC];refine tH 4 (.int .i64 Us.length) (λw' hS=>?_) hS0 ?_
 ·have hlen:=((ah HM).kept (hS.block BU (ah HM).lt (by simp))).Zz 3;simp[execOp,resolve,invoke,builtin,hlen,Result.andThen,go_sem]
 simp only[aC];refine tH 5 (.pointer (some ⟨lb,0,none⟩)) (λw' hS=>?_) hS0 ?_
 ·go_simp
 simp only[aC];refine tH 6 (.pointer (some ⟨lb,0,none⟩)) (λw' hS=>?_) hS0 ?_
 ·go_simp
 simp only[aC];refine tH 7 (.pointer (some ⟨lb,2,none⟩)) (λw' hS=>?_) hS0 ?_
 ·go_simp
 simp only[aC];refine tH 8 (.slice rp rl rc) (λw' hS=>?_) hS0 ?_
 ·have q:=hS.cell c2 (by simp);go_simp
 simp only[aC];refine tH 9 (.func (.func no) #[] caps) (λw' hS=>?_) hS0 ?_
 ·go_simp
 simp only[aC];refine tH 10 (.string tape) (λw' hS=>?_) hS0 ?_
 ·go_simp
 simp only[aC];refine tH 11 (.agg #[.int .i64 Us.length,.slice rp rl rc,.func (.func no) #[] caps,.string tape,.map none]) (λw' hS=>?_) hS0 ?_
 ·go_simp
 simp only[aC];have hgb:w.grownBy (w.drew.alloc (.cells #[.int .i64 Us.length,.slice rp rl rc,.func (.func no) #[] caps,.string tape,.map none] 169)) none:=hS0.trans (ab2 _ _ none);refine oH 12 (λK hK=>?_);go_simp;replace hS0:=hgb;refine hK.out _ _ hS0 ?_;clear hK K;refine oH 13 (λK hK=>?_);go_simp;refine hK.out _ _ (hS0) (ae4 (by kernel_rfl) ?_ _);clear hK K
 go_wp2_with fail
 go_ret
 refine⟨rfl,?_,hgb⟩;refine nN.mk ?_;have:(w.drew.alloc (.cells #[.int .i64 Us.length,.slice rp rl rc,.func (.func no) #[] caps,.string tape,.map none] 169)).heap[w.drew.heap.size]?=_:=ac4 _ _;exact this
end Go.Proofs.YthcppbmkacbbiaaGreat
