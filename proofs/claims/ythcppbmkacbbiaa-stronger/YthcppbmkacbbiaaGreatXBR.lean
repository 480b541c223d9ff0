import Derived.Test.YthcppbmkacbbiaaGreatXBQ
set_option linter.unusedSimpArgs false
namespace Go.Proofs.YthcppbmkacbbiaaGreat
open Nx
section
open aB (Key Inv jA texts dR)
def Zl(row:List Nat):List Int:=row.map fun(d:Nat)=>(d:Int)
theorem JA(row:List Nat):∀i j,i<row.length->j<row.length->(fi row i=fi row j↔(Zl row).getD i 0=(Zl row).getD j 0):=by
 intro i j hi hj;rw[AQ hi hj];unfold Zl;rw[ad4,ad4,aj0,aj0,ab4 hi,ab4 hj];simp only[an3,Option.getD_some];omega
def Wh(f:Nat->Nat)(cs:List (Int×Nat))(ps:List Key)(cl:List Int)(hl:List Bool):Bool:=
 decide (∀p∈aY (wX f cs) cs.length,hl.getD p.1 false=hl.getD p.2 false)&&(dR cl hl ps).getD (ps.length-1) false
def Wi(ts:List Key)(cs:List (Int×Nat))(ps:List Key)(row:List Nat):Nat:=
 if (∀p∈aY (mkd (fi row) ts) ts.length,fi row p.1=fi row p.2)then(List.range (2 ^ cs.length)).countP (λk=>Wh (fi row) cs ps (Zl row) (tv cs.length k))else 0
def zo(ts:List Key)(cs:List (Int×Nat))(ps:List Key):Nat:=sumTo (rws 0 ts.length) (Wi ts cs ps) (rws 0 ts.length).length
end
section
open aB (Key put lD dR jn au aO dF fA)
def wC(f g:Nat->Nat)(n:Nat):Prop:=∀i j,i<n->j<n->(f i=f j↔g i=g j)
theorem wC.symm{f g:Nat->Nat}{n:Nat}(h:wC f g n):wC g f n:=λi j hi hj=>(h i j hi hj).symm
theorem KG{f g:Nat->Nat}{n:Nat}(h:wC f g n):∀k,k<=n->(nums f k).length=(nums g k).length/\∀j,j<n->(nums f k).idxOf (f j)=(nums g k).idxOf (g j):=by
 intro k
 induction k with
 |zero=>intro _;exact⟨rfl,λj _=>rfl⟩
 |succ k ih=>
  intro hk;obtain⟨h1,h2⟩:=ih (by omega);have hmem:f k∈nums f k↔g k∈nums g k:=by
   rw[gK,gK];constructor
   ·rintro⟨j,hj,e⟩;exact⟨j,hj,(h j k (by omega) (by omega)).1 e⟩
   ·rintro⟨j,hj,e⟩;exact⟨j,hj,(h j k (by omega) (by omega)).2 e⟩
  unfold nums put;by_cases hm:f k∈nums f k
  ·have hm':=hmem.1 hm;rw[ad3 (by simpa using hm),ad3 (by simpa using hm')];exact⟨h1,h2⟩
  ·have hm':g k∉nums g k:=λe=>hm (hmem.2 e);rw[ac2 (by simpa using hm),ac2 (by simpa using hm')];refine⟨by simp[h1],λj hj=>?_⟩;rw[ai1,ai1];have hmj:f j∈nums f k↔g j∈nums g k:=by
    rw[gK,gK];constructor
    ·rintro⟨i,hi,e⟩;exact⟨i,hi,(h i j (by omega) hj).1 e⟩
    ·rintro⟨i,hi,e⟩;exact⟨i,hi,(h i j (by omega) hj).2 e⟩
   by_cases hj2:f j∈nums f k
   ·rw[ad3 hj2,ad3 (hmj.1 hj2),h2 j hj]
   ·rw[ac2 hj2,ac2 (λe=>hj2 (hmj.2 e)),h1];by_cases e:f k=f j
    ·have e':=(h k j (by omega) hj).1 e;simp[e,e']
    ·have e':¬g k=g j:=λe2=>e ((h k j (by omega) hj).2 e2);have e3:(f k==f j)=false:=(by simpa using e);have e4:(g k==g j)=false:=(by simpa using e');simp[List.idxOf_cons,e3,e4]
theorem Qj{f g:Nat->Nat}{n:Nat}(h:wC f g n):tC f n=tC g n:=by
 unfold tC;refine List.map_congr_left λt ht=>?_;have ht:=ah2.1 ht;rw[(KG h t (by omega)).2 t ht]
theorem V4(f:Nat->Nat){n:Nat}(hn:n<=7):wC (fi (tC f n)) f n:=by
 intro i j hi hj;have li:i<(tC f n).length:=by rw[CU];exact hi
 have lj:j<(tC f n).length:=by rw[CU];exact hj
 rw[AQ li lj];have ei:(tC f n)[i]=UInt8.ofNat (48+(nums f i).idxOf (f i)):=by
  have:=Qk f n i hi;rw[ab4 li]at this;simpa using this
 have ej:(tC f n)[j]=UInt8.ofNat (48+(nums f j).idxOf (f j)):=by
  have:=Qk f n j hj;rw[ab4 lj]at this;simpa using this
 rw[ei,ej,<-oU f i n hi,<-oU f j n hj];have mi:f i∈nums f n:=(gK f n _).2 ⟨i,hi,rfl⟩;have mj:f j∈nums f n:=(gK f n _).2 ⟨j,hj,rfl⟩;have l1:=ai2.2 mi;have l2:=ai2.2 mj;have l3:=nums_length f n;constructor
 ·intro e;have e2:=am8 UInt8.toNat e;simp only[UInt8.toNat_ofNat']at e2;have e3:(nums f n).idxOf (f i)=(nums f n).idxOf (f j):=by omega
  have g1:=af5 l1;have g2:=af5 l2;rw[<-g1,<-g2];simp only[e3]
 ·intro e;rw[e]
theorem Ec{cl cl':List Int}{hl:List Bool}{nt nc:Nat}(hc:∀i j,i<nt->j<nt->(cl.getD i 0=cl.getD j 0↔cl'.getD i 0=cl'.getD j 0)):∀ps:List Key,(∀i (h:i<ps.length),dF nt nc i ps[i])->dR cl hl ps=dR cl' hl ps:=by
 suffices H:∀n (ps:List Key),ps.length=n->(∀i (h:i<ps.length),dF nt nc i ps[i])->dR cl hl ps=dR cl' hl ps from λps=>H _ ps rfl
 intro n
 induction n with
 |zero=>
  intro ps hn _;have:ps=[]:=af7 hn;subst this;rfl
 |succ n ih=>
  intro ps hn hok;obtain⟨qs,q,rfl⟩:∃qs q,ps=qs++[q]:=⟨ps.dropLast,ps.getLast (by intro e;rw[e]at hn;simp at hn),(List.dropLast_concat_getLast _).symm⟩;have hl1:qs.length=n:=by simpa using hn
  have ih1:=ih qs hl1 (λi h=>by have:=hok i (by simp;omega);rwa [ae2 h]at this);have hq:=hok qs.length (by simp);simp at hq;rw[aB.jZ,aB.jZ,ih1]
  congr 2
  unfold lD;rcases hq with⟨a,b,_⟩|⟨a,b,c⟩|⟨a,_,_⟩|⟨a,b,c⟩
  ·have h1:q.1≠61:=(by omega);rw[ac2 h1,ac2 h1]
  ·have h1:q.1≠61:=(by intro e;rw[e]at a;simp[au]at a);rw[ac2 h1,ac2 h1]
  ·have h1:q.1≠61:=(by omega);rw[ac2 h1,ac2 h1]
  ·rw[ad3 a,ad3 a,decide_eq_decide];exact hc _ _ b c
theorem Aa.same{f g:Nat->Nat}{ts:List Key}{cs:List (Int×Nat)}{ps:List Key}{hl:List Bool}(hi:aO ts.length cs.length ps)(ht:∀i (hi:i<ts.length),ts[i].2.1<ts.length/\ts[i].2.2<ts.length)(hc:∀x∈cs,(x.1=80\/x.1=81)/\x.2<ts.length)(h:Aa f ts cs ps hl)(hs:wC f g ts.length):Aa g ts cs ps hl:=by
 refine⟨?_,?_,?_⟩
 ·rw[iF];intro i j hi' hj' e1 e2 e3;obtain⟨a1,a2⟩:=ht i hi';obtain⟨b1,b2⟩:=ht j hj';exact(hs i j hi' hj').1 ((iF f ts).1 h.CZ i j hi' hj' e1 ((hs _ _ a1 b1).2 e2) ((hs _ _ a2 b2).2 e3))
 ·rw[kY];intro i j hi' hj' e1 e2;exact(kY f cs hl).1 h.WT i j hi' hj' e1 ((hs _ _ (hc _ (ab5 hi')).2 (hc _ (ab5 hj')).2).2 e2)
 ·rw[Ec (cl':=vY f ts.length) (λi j hi' hj'=>?_) ps hi.ok]
  ·exact h.WO
  ·rw[gI g hi',gI g hj',gI f hi',gI f hj'];have:=hs i j hi' hj';omega
theorem row_mem(f:Nat->Nat):∀n k,((List.range' k n).map λt=>(nums f t).idxOf (f t))∈rws (nums f k).length n
 |0,k=>by simp[rws]
 |n+1,k=>by
  have ih:=row_mem f n (k+1);have e0:List.range' k (n+1)=k::List.range' (k+1) n:=List.range'_succ;unfold rws;rw[e0,ap1];refine aj6.2 ⟨(nums f k).idxOf (f k),?_,ad9.2 ⟨_,?_,rfl⟩⟩
  ·have:=aj7 (l:=nums f k) (a:=f k);simp;omega
  ·have e:max (nums f k).length ((nums f k).idxOf (f k)+1)=(nums f (k+1)).length:=by
    show _=(put (nums f k) (f k)).length
    unfold put;by_cases hm:f k∈nums f k
    ·rw[ad3 (by simpa using hm)];have:=ai2.2 hm;omega
    ·rw[ac2 (by simpa using hm),ag0 hm];simp
   rw[e];exact ih
theorem Jh:∀(n:Nat) (l:List Bool),l.length=n->l∈WS n
 |0,l,h=>by
  have:l=[]:=af7 h;subst this;simp[WS]
 |n+1,l,h=>by
  cases l with
  |nil=>simp at h
  |cons b l=>
   have ih:=Jh n l (by simpa using h);unfold WS;cases b
   ·exact ag7 _ (ad9.2 ⟨l,ih,rfl⟩)
   ·exact am2 _ (ad9.2 ⟨l,ih,rfl⟩)
theorem JQ{α:Type}{L:List α}{g:α->Nat}{x:α}(hx:x∈L)(h:g x≠0):sumTo L g L.length≠0:=by
 unfold sumTo;rw[ag9];intro e;exact h (List.sum_eq_zero_iff_forall_eq_nat.1 e _ (ad9.2 ⟨x,hx,rfl⟩))
theorem FW{α:Type}{L:List α}{g:α->Nat}(h:sumTo L g L.length≠0):∃x∈L,g x≠0:=by
 refine af2 λhn=>h ?_;unfold sumTo;rw[ag9];refine List.sum_eq_zero_iff_forall_eq_nat.2 λy hy=>?_;obtain⟨x,hx,rfl⟩:=ad9.1 hy;exact af2 λe=>hn ⟨x,hx,e⟩
end
open aB (Key put lD dR jn au aO dF fA Inv jA texts)
def rowOf(f:Nat->Nat)(n:Nat):List Nat:=(List.range' 0 n).map λt=>(nums f t).idxOf (f t)
theorem lI(f:Nat->Nat)(n:Nat):(rowOf f n).length=n:=by simp[rowOf]
theorem D9(f:Nat->Nat){n i:Nat}(h:i<n):(rowOf f n)[i]'(by rw[lI];exact h)=(nums f i).idxOf (f i):=by simp[rowOf]
theorem VZ(f:Nat->Nat)(n:Nat):wC (fi (rowOf f n)) f n:=by
 intro i j hi hj;rw[AQ (by rw[lI];exact hi) (by rw[lI];exact hj),D9 f hi,D9 f hj,<-oU f i n hi,<-oU f j n hj];have mi:f i∈nums f n:=(gK f n _).2 ⟨i,hi,rfl⟩;have mj:f j∈nums f n:=(gK f n _).2 ⟨j,hj,rfl⟩;have l1:=ai2.2 mi;have l2:=ai2.2 mj;constructor
 ·intro e3;have g1:=af5 l1;have g2:=af5 l2;rw[<-g1,<-g2];simp only[e3]
 ·intro e;rw[e]
theorem Bh{f:Nat->Nat}{cl:List Int}{hl:List Bool}{nt nc:Nat}{ps:List Key}(hi:aO nt nc ps)(hc:∀i j,i<nt->j<nt->(f i=f j↔cl.getD i 0=cl.getD j 0)):dR cl hl ps=dR (vY f nt) hl ps:=by
 refine Ec (nt:=nt) (nc:=nc) (λi j h1 h2=>?_) ps hi.ok;rw[gI f h1,gI f h2,<-hc i j h1 h2];omega
section
variable {s:ByteArray} {ts:List Key} {cs:List (Int×Nat)} {ps:List Key}
theorem zn(h4:cs.length<=4)(mG:aO ts.length cs.length ps)(ht:∀i (hi:i<ts.length),ts[i].2.1<ts.length/\ts[i].2.2<ts.length)(hc:∀x∈cs,(x.1=80\/x.1=81)/\x.2<ts.length) :
  zo ts cs ps≠0↔∃f hl,hl.length=cs.length/\Aa f ts cs ps hl:=by
 constructor
 ·intro h;obtain⟨row,hr,h1⟩:=FW h;have hrl:=I5 _ _ row hr;unfold Wi at h1;by_cases hcg:∀p∈aY (mkd (fi row) ts) ts.length,fi row p.1=fi row p.2
  ·rw[ad3 hcg]at h1;obtain⟨k,hk,h2⟩:=List.countP_pos_iff.1 (Nat.pos_of_ne_zero h1);unfold Wh at h2;simp only[Bool.and_eq_true,ai0]at h2;refine⟨fi row,tv cs.length k,JK _ _,hcg,h2.1,?_⟩;rw[<-Bh mG (λi j h1 h2=>JA row i j (by omega) (by omega))];exact h2.2
  ·rw[ac2 hcg]at h1;exact absurd rfl h1
 ·rintro⟨f,hl,hlen,hm⟩;have hm2:=hm.same mG ht hc (VZ f ts.length).symm;have hmem:rowOf f ts.length∈rws 0 ts.length:=row_mem f ts.length 0;refine JQ hmem ?_;unfold Wi;have hcg:∀p∈aY (mkd (fi (rowOf f ts.length)) ts) ts.length,fi (rowOf f ts.length) p.1=fi (rowOf f ts.length) p.2:=hm2.CZ;rw[ad3 hcg];have hb:=Jh cs.length hl hlen;have hb2:=(Rj h4).mem_iff.1 hb;obtain⟨k,hk,e⟩:=ad9.1 hb2;refine Nat.pos_iff_ne_zero.1 (List.countP_pos_iff.2 ⟨k,hk,?_⟩);unfold Wh;simp only[Bool.and_eq_true,ai0];rw[e];refine⟨hm2.WT,?_⟩;rw[Bh mG (λi j h1 h2=>JA _ i j (by rw[lI];omega) (by rw[lI];omega))];exact hm2.WO
theorem Rf(h7:ts.length<=7)(mG:aO ts.length cs.length ps)(ht:∀i (hi:i<ts.length),ts[i].2.1<ts.length/\ts[i].2.2<ts.length)(hc:∀x∈cs,(x.1=80\/x.1=81)/\x.2<ts.length)
 {f:Nat->Nat}{hl:List Bool}(hlen:hl.length=cs.length)(hm:Aa f ts cs ps hl):hld ⟨(wrt f ts.length hl).toArray⟩ ts cs ps (WR ⟨(wrt f ts.length hl).toArray⟩ ts.length)=(true,0):=by
 have hdl:(tC f ts.length).length=ts.length:=CU _ _;have hsz:(⟨(wrt f ts.length hl).toArray⟩:ByteArray).size=ts.length+1+cs.length:=by
  show(wrt f ts.length hl).toArray.size=_
  simp[wrt,bits,hdl,hlen]
  try omega
 have htk:(wrt f ts.length hl).take ts.length=tC f ts.length:=by
  unfold wrt;rw[ah6,List.take_append_of_le_length (by omega),ag3 (by omega)]
 have hhl:hlo ⟨(wrt f ts.length hl).toArray⟩ ts.length cs.length=hl:=by
  rw[O8 _ _ _ hsz]
  show((wrt f ts.length hl).drop (ts.length+1)).map _=_
  unfold wrt;rw[List.drop_append,List.drop_eq_nil_of_le (by simp[hdl])];simp only[ae0,hdl,am3,Nat.sub_self,List.drop_zero,ac6];unfold bits;rw[List.map_map]
  conv=>rhs;rw[<-List.map_id hl]
  refine List.map_congr_left λb _=>?_;cases b<;>rfl
 have hkk:=V4 f h7;have hm2:=hm.same mG ht hc hkk.symm;unfold hld
 show(if _/\wrt (fi ((wrt f ts.length hl).take ts.length)) ts.length _=wrt f ts.length hl then(Uk (fi ((wrt f ts.length hl).take ts.length)) _ _ _ _ _,(0:Int))else _)=_
 rw[htk,hhl];have hw:wrt (fi (tC f ts.length)) ts.length hl=wrt f ts.length hl:=by
  unfold wrt;rw[Qj hkk]
 rw[ad3 ⟨hsz,hw⟩];have hM:Uk (fi (tC f ts.length)) ts cs ps (WR ⟨(wrt f ts.length hl).toArray⟩ ts.length) hl=true:=by
  unfold Uk;simp only[Bool.and_eq_true,ai0];refine⟨⟨hm2.CZ,hm2.WT⟩,?_⟩;have hcl:∀i j,i<ts.length->j<ts.length->(fi ((wrt f ts.length hl).take ts.length) i=fi ((wrt f ts.length hl).take ts.length) j↔_):=Qh ⟨(wrt f ts.length hl).toArray⟩ ts.length cs.length hsz;rw[htk]at hcl;rw[Bh mG hcl];exact hm2.WO
 rw[hM]
end
end Go.Proofs.YthcppbmkacbbiaaGreat
