import Derived.Test.YthcppbmkacbbiaaGreatYBD
import Derived.Test.YthcppbmkacbbiaaGreatYBF
set_option linter.unusedSimpArgs false
set_option maxHeartbeats 2000000
set_option maxRecDepth 100000
namespace Go.Proofs.YthcppbmkacbbiaaGreat
open Go.Proofs.Tryz
section
open Sat (View Rule jl bH)
open aB (Key put mO dX jn au aT dM fH)
def Qx(f:Nat->Nat)(n:Nat):List Int:=(List.range n).map λi=>(f i:Int)
theorem jL(f:Nat->Nat){n i:Nat}(h:i<n):(Qx f n).getD i 0=(f i:Int):=by
 unfold Qx;rw[ad7,ah1,List.getElem?_range h];rfl
structure Ah(f:Nat->Nat)(ts:List Key)(cs:List (Int×Nat))(ps:List Key)(hl:List Bool):Prop where
 Fv:wJ f ts
 Zc:∀p∈aO (uP f cs) cs.length,hl.getD p.1 false=hl.getD p.2 false
 Xf:(dX (Qx f ts.length) hl ps).getD (ps.length-1) false=true
def Ui(f:Nat->Nat)(cs:List (Int×Nat))(hl:List Bool):Prop:=∀i j (hi:i<cs.length) (hj:j<cs.length),cs[i].1=cs[j].1->f cs[i].2=f cs[j].2->hl.getD i false=hl.getD j false
theorem qH(f:Nat->Nat)(cs:List (Int×Nat))(hl:List Bool):(∀p∈aO (uP f cs) cs.length,hl.getD p.1 false=hl.getD p.2 false)↔Ui f cs hl:=by
 have hB:=BL (uP f cs) (λi j=>hl.getD i false=hl.getD j false) (λ_=>rfl) (λ_ _ e=>e.symm) (λ_ _ _ e1 e2=>e1.trans e2);rw[fU]at hB;rw[hB];constructor
 ·intro h i j hi hj e1 e2;exact h i j hi hj (by simp[uP,hi,hj,e1,e2])
 ·intro h i j hi hj e;simp only[uP,ah1,SI hi,SI hj,an3,ag1,ap0]at e;exact h i j hi hj e.1 e.2
def gy(q:Key):Key:=if q.1=61 then(if q.2.1=q.2.2 then(61,0,0)else if q.2.2<q.2.1 then(61,q.2.2,q.2.1)else q)else q
theorem fB:FP gy:=by
 refine⟨λq h=>?_,λq h=>?_⟩
 ·unfold gy;rw[ac8 h];by_cases e:q.2.1=q.2.2
  ·rw[ac8 e];exact⟨rfl,Or.inr (Or.inr ⟨e,rfl⟩)⟩
  ·rw[ac5 e];by_cases e2:q.2.2<q.2.1
   ·rw[ac8 e2];exact⟨rfl,Or.inr (Or.inl rfl)⟩
   ·rw[ac5 e2];exact⟨h,Or.inl rfl⟩
 ·unfold gy;rw[ac5 h]
theorem D7(a:Nat):gy (bI a a)=bI 0 0:=by simp[gy,bI]
theorem NI(a b:Nat):gy (bI a b)=gy (bI b a):=by
 unfold gy bI;simp only[ai4];by_cases e:a=b
 ·subst e;rfl
 ·have e':¬b=a:=λh=>e h.symm;rw[ac5 e,ac5 e'];by_cases h:b<a
  ·rw[ac8 h,ac5 (by omega)]
  ·rw[ac5 h,ac8 (by omega)]
def zA(ts:List Key)(cs:List (Int×Nat))(ps:List Key):List (List aV):=lQ gy ps++Qc gy ts.length++UC gy ts++WU gy cs
theorem aG{α:Type}{l:List α}{i:Nat}(h:i<l.length)(d:α):l.getD i d=l[i]:=by
 rw[ad7,SI h];rfl
theorem FN{sm:Key->Key}(hs:FP sm){v:Key->Bool}{f:Nat->Nat}{ts:List Key}{cs:List (Int×Nat)}{ps:List Key}{hl:List Bool}(hi:aT ts.length cs.length ps)(hk:fH cs ps)
 (hf:∀q∈ps,q.1=61->(f q.2.1=f q.2.2↔v (sm q)=true))(hh:∀c (h:c<cs.length),hl.getD c false=v (cs[c].1,c,0)):pY sm v (Qx f ts.length) hl ps:=by
 intro q hq;obtain⟨i,hlt,e⟩:=af7 hq;have ho:=hi.ok i hlt;rw[e]at ho;refine⟨λh=>?_,λh=>?_⟩
 ·rcases ho with⟨a,_⟩|⟨a,_⟩|⟨a,_⟩|⟨_,h1,h2⟩
  ·omega
  ·rw[h]at a;simp[au]at a
  ·omega
  ·rw[jL f h1,jL f h2];have:=hf q hq h;cases hv:v (sm q)
   ·rw[hv]at this;have:¬f q.2.1=f q.2.2:=λh=>by have:=this.1 h;cases this
    have:¬(f q.2.1:Int)=(f q.2.2:Int):=(by omega);simp[this]
   ·rw[hv]at this;have:=this.2 rfl;simp[this]
 ·obtain⟨h1,h2⟩:=hk.letter q hq h;rw[hs.other q (by omega),hh _ h1,h2];have h3:q.2.2=0:=by
   rcases ho with⟨a,_,b⟩|⟨a,_⟩|⟨_,_,b⟩|⟨a,_⟩
   ·exact b
   ·rcases h with h|h<;>(rw[h]at a;simp[au]at a)
   ·exact b
   ·omega
  congr 1
  rw[<-h3]
theorem Y0{v:Key->Bool}{n:Nat}(h:Hold v (Qc gy n)):(∀a,v (gy (bI a a))=true)/\(∀a b,v (gy (bI a b))=true->v (gy (bI b a))=true)/\∀a b c,a<n->b<n->c<n->v (gy (bI a b))=true->v (gy (bI b c))=true->v (gy (bI a c))=true:=by
 obtain⟨h1,h2⟩:=EW.1 h;rw[D7]at h1;have hr:∀a,v (gy (bI a a))=true:=λa=>by rw[D7];exact h1
 have hs:∀a b,v (gy (bI a b))=true->v (gy (bI b a))=true:=λa b e=>by rw[NI];exact e
 refine⟨hr,hs,λa b c ha hb hc e1 e2=>?_⟩;by_cases h3:c<a
 ·exact h2 a ha b hb c h3 e1 e2
 ·by_cases h4:a<c
  ·exact hs _ _ (h2 c hc b hb a h4 (hs _ _ e2) (hs _ _ e1))
  ·have:a=c:=(by omega);subst this;exact hr a
theorem FV{v:Key->Bool}{f:Nat->Nat}{ts:List Key}{cs:List (Int×Nat)}{ps:List Key}{hl:List Bool}(hi:aT ts.length cs.length ps)(hk:fH cs ps)(h0:0<ps.length)
 (ht:∀i (hi:i<ts.length),ts[i].2.1<ts.length/\ts[i].2.2<ts.length)(hc:∀x∈cs,(x.1=80\/x.1=81)/\x.2<ts.length)
 (h:Hold v (zA ts cs ps))(hf:∀a b,a<ts.length->b<ts.length->(f a=f b↔v (gy (bI a b))=true))(hh:∀c (h:c<cs.length),hl.getD c false=v (cs[c].1,c,0)):Ah f ts cs ps hl:=by
 unfold zA at h;rw[eH,eH,eH]at h;obtain⟨⟨⟨h1,h2⟩,h3⟩,h4⟩:=h;obtain⟨e1,e2,e3⟩:=Y0 h2;refine⟨?_,?_,?_⟩
 ·rw[jZ];intro i j hi' hj' p1 p2 p3;obtain⟨a1,a2⟩:=ht i hi';obtain⟨b1,b2⟩:=ht j hj';have q2:=(hf _ _ a1 b1).1 p2;have q3:=(hf _ _ a2 b2).1 p3;refine(hf i j hi' hj').2 ?_;have key:=EU.1 h3;by_cases hij:j<i
  ·have:=key i hi' j hij;rw[aG hi',aG hj']at this;exact this p1 q2 q3
  ·by_cases hji:i<j
   ·have:=key j hj' i hji;rw[aG hi',aG hj']at this;exact e2 _ _ (this p1.symm (e2 _ _ q2) (e2 _ _ q3))
   ·have:i=j:=(by omega);subst this;exact e1 i
 ·rw[qH];intro i j hi' hj' p1 p2;have a1:=(hc _ (ab2 hi'));have b1:=(hc _ (ab2 hj'));have q2:=(hf _ _ a1.2 b1.2).1 p2;have key:=ES.1 h4;have s1:gy (cs[i].1,i,0)=(cs[i].1,i,0):=fB.other _ (by show cs[i].1≠61;omega);have s2:gy (cs[j].1,j,0)=(cs[j].1,j,0):=fB.other _ (by show cs[j].1≠61;omega);rw[hh i hi',hh j hj'];by_cases hij:j<i
  ·have:=key i hi' j hij;rw[aG hi',aG hj',s1,s2]at this;exact this p1 q2
  ·by_cases hji:i<j
   ·have:=key j hj' i hji;rw[aG hi',aG hj',s1,s2]at this;exact(this p1.symm (e2 _ _ q2)).symm
   ·have:i=j:=(by omega);subst this;rfl
 ·refine DV hi h0 (tV.1 h1) (FN fB hi hk (λq hq h61=>?_) hh);obtain⟨i,hlt,e⟩:=af7 hq;have ho:=hi.ok i hlt;rw[e]at ho;rcases ho with⟨a,_⟩|⟨a,_⟩|⟨a,_⟩|⟨_,g1,g2⟩
  ·omega
  ·rw[h61]at a;simp[au]at a
  ·omega
  ·have:=hf _ _ g1 g2;have eq:q=bI q.2.1 q.2.2:=(by unfold bI;rw[<-h61]);rw[<-eq]at this;exact this
theorem pR{sm:Key->Key}(hs:FP sm){f:Nat->Nat}{n:Nat}{hl:List Bool}{ps:List Key}{a b:Nat}(ha:a<n)(hb:b<n):cv (Qx f n) hl ps (sm (bI a b))=true↔f a=f b:=by
 rw[UF hs (q:=bI a b) rfl]
 show decide ((Qx f n).getD a 0=(Qx f n).getD b 0)=true↔_
 rw[jL f ha,jL f hb];simp only[ah3];omega
theorem GI{f:Nat->Nat}{ts:List Key}{cs:List (Int×Nat)}{ps:List Key}{hl:List Bool}(hi:aT ts.length cs.length ps)(h0:0<ps.length)(hn:0<ts.length)
 (ht:∀i (hi:i<ts.length),ts[i].2.1<ts.length/\ts[i].2.2<ts.length)(hc:∀x∈cs,(x.1=80\/x.1=81)/\x.2<ts.length)(h:Ah f ts cs ps hl):Hold (cv (Qx f ts.length) hl ps) (zA ts cs ps):=by
 unfold zA;rw[eH,eH,eH];refine⟨⟨⟨tV.2 (Fz fB hi h0 h.Xf),EW.2 ⟨?_,λa ha b hb c hc'=>?_⟩⟩,EU.2 λa ha b hb=>?_⟩,ES.2 λa ha b hb=>?_⟩
 ·rw[pR fB hn hn]
 ·rw[pR fB ha hb,pR fB hb (by omega),pR fB ha (by omega)];exact Eq.trans
 ·have hb':b<ts.length:=by omega
  obtain⟨a1,a2⟩:=ht a ha;obtain⟨b1,b2⟩:=ht b hb';rw[aG ha,aG hb',pR fB a1 b1,pR fB a2 b2,pR fB ha hb'];exact(jZ f ts).1 h.Fv a b ha hb'
 ·have hb':b<cs.length:=by omega
  have a1:=hc _ (ab2 ha);have b1:=hc _ (ab2 hb');rw[aG ha,aG hb',pR fB a1.2 b1.2];intro p1 p2;have s1:gy (cs[a].1,a,0)=(cs[a].1,a,0):=fB.other _ (by show cs[a].1≠61;omega);have s2:gy (cs[b].1,b,0)=(cs[b].1,b,0):=fB.other _ (by show cs[b].1≠61;omega);rw[s1,s2,uh a1.1,uh b1.1];exact(qH f cs hl).1 h.Zc a b ha hb' p1 p2
theorem FU{v:Key->Bool}{f:Nat->Nat}{ts:List Key}{cs:List (Int×Nat)}{ps:List Key}{hl:List Bool}(hi:aT ts.length cs.length ps)(hk:fH cs ps)(h0:0<ps.length)
 (h:Hold v (lQ id ps))(kS:wJ f ts)(aai:Ui f cs hl)(hf:∀q∈ps,q.1=61->(f q.2.1=f q.2.2↔v q=true))(hh:∀c (h:c<cs.length),hl.getD c false=v (cs[c].1,c,0)):Ah f ts cs ps hl:=
 ⟨kS,(qH f cs hl).2 aai,DV hi h0 (tV.1 h) (FN I4 hi hk hf hh)⟩
theorem GH{f:Nat->Nat}{ts:List Key}{cs:List (Int×Nat)}{ps:List Key}{hl:List Bool}(hi:aT ts.length cs.length ps)(h0:0<ps.length)(h:Ah f ts cs ps hl):Hold (cv (Qx f ts.length) hl ps) (lQ id ps):=
 tV.2 (Fz I4 hi h0 h.Xf)
end
section
open Go.RowKit Go.Maps Go.WideMaps
open Sat (View Rule jl bH)
open aB (Key put dM au aT)
theorem sS(w:World)(dom:Key->Prop)(X:Nat->Prop) :
  Calls prog 92 #[] w λe w'=>∃lb BU BS,e=.returned (.pointer (some ⟨lb,0,none⟩))/\LG w.heap.size w' lb BU BS id dom [] [] X/\gI w' BS id dom 0/\w.grownBy w' none:=by
 have hmm:=@ap3 prog
 go_enter func92,ntmps92
 go_wp2_with fail
 go_ret
 have h1:((w.alloc (.map #[] 0)).alloc (.map #[] 0)).heap.size=w.heap.size+2:=by simp
 have hgF:w.grownBy (((w.alloc (.map #[] 0)).alloc (.map #[] 0)).alloc (.cells #[.map (some w.heap.size),.map (some (w.heap.size+1)),.slice none 0 0] 210)) none:=((JD _ _ none).trans (JD _ _ none)).trans (JD _ _ none);have hm:=gI.made (w.alloc (.map #[] 0)) dom;have e:(w.alloc (.map #[] 0)).heap.size=w.heap.size+1:=by simp
 rw[e]at hm;have hm2:=hm.kept (w':=((w.alloc (.map #[] 0)).alloc (.map #[] 0)).alloc (.cells #[.map (some w.heap.size),.map (some (w.heap.size+1)),.slice none 0 0] 210)) (ab6 _ _ _ (by simp));refine⟨w.heap.size+1+1,w.heap.size,w.heap.size+1,rfl,⟨⟨.slice none 0 0,?_,?_,λk hk=>by cases hk⟩,?_,?_,by omega,by omega⟩,hm2,hgF⟩
 ·refine nX.mk ?_;have e:w.heap.size+1+1=((w.alloc (.map #[] 0)).alloc (.map #[] 0)).heap.size:=by simp
  rw[e,ac3]
 ·exact⟨[],ak3 _ _ _ _,λi hi=>by simp at hi⟩
 ·have hm:aH (w.alloc (.map #[] 0)) 93 w.heap.size aS ([]:List Key):=je w _ _;exact(hm.kept (ab6 _ _ _ (by simp))).kept (ab6 _ _ _ (by simp;omega))
 ·obtain⟨D,nn,a,b,c⟩:=hm2;exact⟨D,nn,by omega,b,c⟩
theorem aH.Zw{w:World}{b:Nat}{Us:List Key}(h:aH w 93 b aS Us)(ty:TypeId):(Builtin.len_ #[80] ty #[.map (some b)]).run prog w=.ok (.int .i64 Us.length) w:=by
 obtain⟨D,h1,h2,_⟩:=h;rw[h1.len underlying80 ty,h2]
theorem vX(w:World)(lb BU:Nat)(ms:Option Nat)(rp:Option Addr)(rl rc:Nat)(Us:List Key)(tape:ByteArray)(no:Nat)(caps:Array Value)(hL:nX w lb (some BU) ms (.slice rp rl rc))(hM:aH w 93 BU aS Us) :
  Calls prog 86 #[.pointer (some ⟨lb,0,none⟩),.string tape,.func (.func no) #[] caps] w λe w'=>e=.returned (.pointer (some ⟨w.heap.size,0,none⟩))/\nV w' w.heap.size Us.length (.slice rp rl rc) (.func (.func no) #[] caps) tape.data.toList none/\w.grownBy w' none:=by
 obtain⟨c0,_,c2⟩:=hL.cells;have HM:=aj hM;clear hM
 go_enter func86,ntmps86
 go_wp2_with fail
 refine ae5 (S:=λW'=>w.grownBy W' none) rfl ?_;have hS0:w.grownBy w.drew none:=⟨rfl,rfl,rfl,SH _,λ_ _ _=>rfl⟩;simp only[ab7,ab5,ac2,Nat.reduceAdd,ab4,ab3,ab8,ac1,ac0];change wpAnyH prog .any _ _ _ _ _ _ w.drew;refine tH 0 (.pointer (some ⟨lb,0,none⟩)) (λw' hS=>?_) hS0 ?_
 ·go_simp
 simp only[aC];refine tH 1 (.pointer (some ⟨lb,0,none⟩)) (λw' hS=>?_) hS0 ?_
 ·go_simp
 simp only[aC];refine tH 2 (.pointer (some ⟨lb,0,none⟩)) (λw' hS=>?_) hS0 ?_
 ·go_simp
 simp only[aC];refine tH 3 (.map (some BU)) (λw' hS=>?_) hS0 ?_
 ·have q:=hS.cell c0 (by simp);go_simp
 simp only[aC];refine tH 4 (.int .i64 Us.length) (λw' hS=>?_) hS0 ?_
 ·have hlen:=((ah HM).kept (hS.block BU (ah HM).lt (by simp))).Zw 3;simp[execOp,resolve,invoke,builtin,hlen,Result.andThen,go_sem]
 simp only[aC];refine tH 5 (.pointer (some ⟨lb,0,none⟩)) (λw' hS=>?_) hS0 ?_
 ·go_simp
 simp only[aC];refine tH 6 (.pointer (some ⟨lb,0,none⟩)) (λw' hS=>?_) hS0 ?_
 ·go_simp
 simp only[aC];refine tH 7 (.pointer (some ⟨lb,2,none⟩)) (λw' hS=>?_) hS0 ?_
 ·go_simp
 simp only[aC];refine tH 8 (.slice rp rl rc) (λw' hS=>?_) hS0 ?_
 ·have q:=hS.cell c2 (by simp);go_simp
 simp only[aC];refine tH 9 (.func (.func no) #[] caps) (λw' hS=>?_) hS0 ?_
 ·go_simp
 simp only[aC];refine tH 10 (.string tape) (λw' hS=>?_) hS0 ?_
 ·go_simp
 simp only[aC];refine tH 11 (.agg #[.int .i64 Us.length,.slice rp rl rc,.func (.func no) #[] caps,.string tape,.map none]) (λw' hS=>?_) hS0 ?_
 ·go_simp
 simp only[aC];have hgb:w.grownBy (w.drew.alloc (.cells #[.int .i64 Us.length,.slice rp rl rc,.func (.func no) #[] caps,.string tape,.map none] 169)) none:=hS0.trans (JD _ _ none);refine oH 12 (λK hK=>?_);go_simp;replace hS0:=hgb;refine hK.out _ _ hS0 ?_;clear hK K;refine oH 13 (λK hK=>?_);go_simp;refine hK.out _ _ (hS0) (ae0 (by kernel_rfl) ?_ _);clear hK K
 go_wp2_with fail
 go_ret
 refine⟨rfl,?_,hgb⟩;refine nV.mk ?_;have:(w.drew.alloc (.cells #[.int .i64 Us.length,.slice rp rl rc,.func (.func no) #[] caps,.string tape,.map none] 169)).heap[w.drew.heap.size]?=_:=ac3 _ _;exact this
end
section
open aB (put)
theorem O9(s:ByteArray)(n c:Nat)(h:s.size=n+1+c):hlo s n c=(s.data.toList.drop (n+1)).map (·==49):=by
 have hl:s.data.toList.length=s.size:=by simp
 refine List.ext_getElem ?_ ?_
 ·simp only[hlo,ah7,ao2,List.length_drop];omega
 ·intro i h1 h2;have h3:n+1+i<s.data.toList.length:=by simp only[hlo,ah7,ao2]at h1;omega
  simp only[hlo,aj1,List.getElem_range,List.getElem_drop];rw[ad7,SI h3];rfl
theorem OB{l:List Nat}{x y:Nat}:y∈put l x↔y∈l\/y=x:=by
 unfold put;split
 ·rename_i h;have h1:x∈l:=by simpa using h
  constructor
  ·exact .inl
  ·rintro(h2|rfl)
   ·exact h2
   ·exact h1
 ·simp
theorem gQ(f:Nat->Nat):∀(k x:Nat),x∈nums f k↔∃j,j<k/\f j=x
 |0,x=>by simp[nums]
 |k+1,x=>by
  unfold nums;rw[OB,gQ f k x];constructor
  ·rintro(⟨j,h1,h2⟩|rfl)
   ·exact⟨j,by omega,h2⟩
   ·exact⟨k,by omega,rfl⟩
  ·rintro⟨j,h1,h2⟩;by_cases e:j=k
   ·subst e;exact .inr h2.symm
   ·exact .inl ⟨j,by omega,h2⟩
theorem Jd{l:List Nat}{x y:Nat}(h:y∈l):(put l x).idxOf y=l.idxOf y:=by
 unfold put;split
 ·rfl
 ·rw[ai6,ac8 h]
theorem RJ{l:List Nat}{x:Nat}:(put l x).idxOf x=l.idxOf x:=by
 by_cases h:x∈l
 ·exact Jd h
 ·have h2:put l x=l++[x]:=by unfold put;rw[ac5 (by simpa using h)]
  rw[h2,ag5 h,ai6,ac5 h];simp
theorem oZ(f:Nat->Nat)(j:Nat):∀k,j<k->(nums f k).idxOf (f j)=(nums f j).idxOf (f j)
 |0,h=>by omega
 |k+1,h=>by
  show(put (nums f k) (f k)).idxOf (f j)=_
  by_cases e:j=k
  ·subst e;exact RJ
  ·rw[Jd ((gQ f k _).2 ⟨j,by omega,rfl⟩)];exact oZ f j k (by omega)
theorem Qk(f:Nat->Nat)(k j:Nat)(h:j<k):(uf f k)[j]?=some (UInt8.ofNat (48+(nums f j).idxOf (f j))):=by simp[uf,h]
theorem UL{a b:UInt8}(h:a.toNat=b.toNat):a=b:=UInt8.toNat.inj h
theorem Dc(f:Nat->Nat)(k:Nat):(uf f k).length=k:=by simp[uf]
end
section
open Go.RowKit Go.Maps Go.WideMaps
open aB (Key put St aT dX)
def hld(m:ByteArray)(ts:List Key)(cs:List (Int×Nat))(ps:List Key)(cl:List Int):Bool×Int:=
 if m.size=ts.length+1+cs.length/\wrt (fi (m.data.toList.take ts.length)) ts.length (hlo m ts.length cs.length)=m.data.toList then(Um (fi (m.data.toList.take ts.length)) ts cs ps cl (hlo m ts.length cs.length),0)else(false,6)
theorem O5(w:World)(s m:ByteArray)(cl:List Int)(hs:s.size<=100)(ts:List Key)(cs:List (Int×Nat))(ps:List Key)(mm:Nat)(HR:aB.iQ (pk s) (s.size+1) 0 0 [] [] []=.ok (s.size,ts,cs,ps,mm))(h7:ts.length<=7)(h4:cs.length<=4)(hi:aB.Inv ts)(hic:aB.jJ ts cs)
 (hnd:cs.Nodup)(kR:aB.aT ts.length cs.length ps)(hp0:0<ps.length)(hp:ps.length<=100)(Ph:∀x∈cs,(x.1=80\/x.1=81)/\x.2<ts.length)
 (hcl:m.size=ts.length+1+cs.length->∀i j,i<ts.length->j<ts.length->(fi (m.data.toList.take ts.length) i=fi (m.data.toList.take ts.length) j↔cl.getD i 0=cl.getD j 0)) :
  Calls prog 34 #[.string s,.string m] w λe w'=>e=.returned (.tuple #[.bool (hld m ts cs ps cl).1,.int .i64 (hld m ts cs ps cl).2])/\Below w.heap.size w w':=by
 have HO:=aj (mY w s hs ts cs ps mm HR h7 h4 hi hic hnd kR hp);have A8:(hlo m ts.length cs.length).length=cs.length:=by simp[hlo]
 have HM:Hid (m.size=ts.length+1+cs.length->∀(GT GC GP b H:Nat) (W:World),bZ W GT ts->eU W GC cs->bZ W GP ps->dQ W b (fi (m.data.toList.take ts.length)) ts.length 100->cO W H (hlo m ts.length cs.length)->
   Calls prog 55 #[fv GT GC GP ts.length cs.length ps.length,sv b H cs.length] W λe w'=>e=.returned (.bool (Um (fi (m.data.toList.take ts.length)) ts cs ps cl (hlo m ts.length cs.length)))/\Below W.heap.size W w'):=λhe GT GC GP b H W r1 r2 r3 r4 r5=>by
  have hl2:(m.data.toList.take ts.length).length=ts.length:=by
   have:m.data.toList.length=m.size:=(by simp);rw[af6];omega
  have h:=EM GT GC GP b 100 H (fi (m.data.toList.take ts.length)) ts cs ps cl (hlo m ts.length cs.length) W h7 h4 hp0 hp A8 r1 r2 r3 hi Ph kR (λi hi=>⟨Bc _ i (by omega),Fg _ i (by omega)⟩) (hcl he) r4 r5;rw[A8]at h;exact h
 have HS1:=aj (fun(GT GC GP:Nat) (W:World) (he:m.size≠ts.length+1+cs.length)=>zQ GT GC GP ts.length cs.length ps.length m W h7 h4 he);have HS2:=aj (fun(GT GC GP:Nat) (W:World) (he:m.size=ts.length+1+cs.length)=>BD GT GC GP ts.length cs.length ps.length m W h7 h4 he);have Z4:hld m ts cs ps cl=hld m ts cs ps cl:=rfl;unfold hld;generalize Um (fi (m.data.toList.take ts.length)) ts cs ps cl (hlo m ts.length cs.length)=bm at HM ⊢;generalize wrt (fi (m.data.toList.take ts.length)) ts.length (hlo m ts.length cs.length)=wt at HS2 ⊢;obtain⟨r,hr⟩:∃r:Bool×Int,(if m.size=ts.length+1+cs.length/\wt=m.data.toList then(bm,(0:Int))else(false,6))=r:=⟨_,rfl⟩;rw[hr];have HRS:=aj hr;clear hi hic HR kR hcl A8 Ph hnd Z4 hr;unfold fv at HO HM HS1 HS2;unfold sv at HM HS2
 go_enter func34,ntmps34
 go_wp2_with fail
 refine(ah HO).mono ?_;rintro e w1 ⟨GT,GC,GP,rfl,h1,hfr⟩;have hT1:=qg hfr.t;have hC1:=BI hfr.c;have hP1:=qg hfr.p;have M1:=aj hT1;have M2:=aj hC1;have M3:=aj hP1;clear hT1 hC1 hP1 HO hfr
 go_wp2_with fail
 obtain⟨w2,hw2⟩:∃w2,w1.alloc (.cells #[.slice (some ⟨GT,0,none⟩) ts.length ts.length,.slice (some ⟨GC,0,none⟩) cs.length cs.length,.slice (some ⟨GP,0,none⟩) ps.length ps.length] 54)=w2:=⟨_,rfl⟩;have hbn:Below w1.heap.size w1 w2:=by rw[<-hw2];exact(ae1 w1.heap.size w1).alloc (SH _) _
 have hs2:w2.heap.size=w1.heap.size+1:=by rw[<-hw2];simp
 have q0:w2.cell? ⟨w1.heap.size,0,none⟩=some (.slice (some ⟨GT,0,none⟩) ts.length ts.length):=by rw[<-hw2];simp[go_sem]
 have q1:w2.cell? ⟨w1.heap.size,1,none⟩=some (.slice (some ⟨GC,0,none⟩) cs.length cs.length):=by rw[<-hw2];simp[go_sem]
 have q2:w2.cell? ⟨w1.heap.size,2,none⟩=some (.slice (some ⟨GP,0,none⟩) ps.length ps.length):=by rw[<-hw2];simp[go_sem]
 rw[hw2];have hb2:Below w.heap.size w w2:=h1.trans ⟨hbn.os,hbn.tape,hbn.output,hbn.size,λj hj=>hbn.block j (by have:=h1.size;omega)⟩;clear hw2;by_cases he:m.size=ts.length+1+cs.length
 ·refine(ah HS2 GT GC GP w2 he).mono ?_;rintro e w3 ⟨b,H,rfl,lb,lh,hcm,hrh,h3⟩;have c0:=(h3.cell (p:=⟨w1.heap.size,0,none⟩) (by show w1.heap.size<_;omega)).trans q0;have c1:=(h3.cell (p:=⟨w1.heap.size,1,none⟩) (by show w1.heap.size<_;omega)).trans q1;have c2:=(h3.cell (p:=⟨w1.heap.size,2,none⟩) (by show w1.heap.size<_;omega)).trans q2;have hs3:w1.heap.size<w3.heap.size:=by have:=h3.size;omega
  have CM:=aj hcm;have RH:=aj hrh;have hb3:Below w.heap.size w w3:=hb2.trans ⟨h3.os,h3.tape,h3.output,h3.size,λj hj=>h3.block j (by have:=h1.size;omega)⟩;have lM:=hcm.lt;have lR:=hrh.1;clear hcm hrh;by_cases hw:wt=m.data.toList
  ·have HW:=aj hw;rw[ao0 hw];clear hw
   go_wp2_with fail
   have hb4:Below w3.heap.size w3 (w3.alloc (.cells #[.map (some b),.slice (some ⟨H,0,none⟩) cs.length cs.length] 105)):=(ae1 _ _).alloc (SH _) _;have hrow:∀j,j<w1.heap.size->(w3.alloc (.cells #[.map (some b),.slice (some ⟨H,0,none⟩) cs.length cs.length] 105)).heap[j]?=w1.heap[j]?:=λj hj=>(hb4.block j (by omega)).trans ((h3.block j (by omega)).trans (hbn.block j hj));refine(ah HM he GT GC GP b H _ ((ah M1).same (hrow _ (ah M1).1)) ((ah M2).same (hrow _ (ah M2).1)) ((ah M3).same (hrow _ (ah M3).1)) ((ah CM).kept (hb4.block _ lM)) ((ah RH).same (hb4.block _ lR))).mono ?_;rintro e w5 ⟨rfl,h5⟩;have hb5:Below w.heap.size w w5:=(hb3.trans ⟨hb4.os,hb4.tape,hb4.output,hb4.size,λj hj=>hb4.block j (by have:=h1.size;omega)⟩).trans ⟨h5.os,h5.tape,h5.output,h5.size,λj hj=>h5.block j (by have:=h1.size;simp;omega)⟩;have hr:=ah HRS;rw[ac8 ⟨he,ah HW⟩]at hr;have HR2:=aj hr;clear hr
   go_wp2_with fail
   go_ret2
   exact⟨by rw[<-ah HR2];rfl,hb5⟩
  ·have HW:=aj hw;rw[al9 hw];clear hw
   go_wp2_with fail
   go_ret2
   have hr:=ah HRS;rw[ac5 (λh=>ah HW h.2)]at hr;exact⟨by rw[<-hr];rfl,hb3.alloc hb3.size _⟩
 ·refine(ah HS1 GT GC GP w2 he).mono ?_;rintro e w3 ⟨rfl,h3⟩;have hb3:Below w.heap.size w w3:=hb2.trans ⟨h3.os,h3.tape,h3.output,h3.size,λj hj=>h3.block j (by have:=h1.size;omega)⟩;have HE:=aj he;clear he
  go_wp2_with fail
  go_ret2
  have hr:=ah HRS;rw[ac5 (λh=>ah HE h.1)]at hr;exact⟨by rw[<-hr];rfl,hb3.alloc hb3.size _⟩
end
section
open aB (Key Inv jJ texts rend bM iY dX)
def WV(m:ByteArray)(n:Nat):List Int:=(m.data.toList.take n).map λc=>(c.toNat:Int)-48
theorem Qh(m:ByteArray)(n c:Nat)(hs:m.size=n+1+c):∀i j,i<n->j<n->(fi (m.data.toList.take n) i=fi (m.data.toList.take n) j↔(WV m n).getD i 0=(WV m n).getD j 0):=by
 intro i j hi hj;have hl:(m.data.toList.take n).length=n:=by
  have:m.data.toList.length=m.size:=by simp
  rw[af6];omega
 have hi':i<(m.data.toList.take n).length:=by omega
 have hj':j<(m.data.toList.take n).length:=by omega
 rw[Bd hi' hj'];unfold WV;rw[ad7,ad7,ah1,ah1,SI hi',SI hj'];simp only[an3,Option.getD_some];constructor
 ·intro e;rw[e]
 ·intro e;exact UL (by omega)
end
open Go.RowKit
open aB (St put Key)
theorem uo{s:ByteArray}(h:¬(s.size<=100/\(chk s).1=0)):(chk s).1≠0:=by
 intro h0;refine h ⟨?_,h0⟩;unfold chk at h0;by_cases h1:100<s.size
 ·rw[ac8 h1]at h0;simp at h0
 ·omega
end Go.Proofs.YthcppbmkacbbiaaGreat
