import Derived.Test.YthcppbmkacbbiabGreatWBR
set_option linter.unusedSimpArgs false
set_option maxHeartbeats 2000000
set_option maxRecDepth 100000
namespace Go.Proofs.YthcppbmkacbbiabGreat
open Go.Proofs.Tryz
section
open Go.RowKit Go.Maps Go.WideMaps
open Sat (View Rule jk bG)
open aB (Key put dJ au aQ)
theorem tC(w:World)(dom:Key->Prop)(X:Nat->Prop) :
  Calls prog 64 #[] w λe w'=>∃lb BU BS,e=.returned (.pointer (some ⟨lb,0,none⟩))/\LG w.heap.size w' lb BU BS id dom [] [] X/\gy w' BS id dom 0/\w.grownBy w' none:=by
 have hmm:=@as6 prog
 go_enter func64,ntmps64
 go_wp2_with fail
 go_ret
 have h1:((w.alloc (.map #[] 0)).alloc (.map #[] 0)).heap.size=w.heap.size+2:=by simp
 have hgF:w.grownBy (((w.alloc (.map #[] 0)).alloc (.map #[] 0)).alloc (.cells #[.map (some w.heap.size),.map (some (w.heap.size+1)),.slice none 0 0] 203)) none:=((ad4 _ _ none).trans (ad4 _ _ none)).trans (ad4 _ _ none);have hm:=gy.made (w.alloc (.map #[] 0)) dom;have e:(w.alloc (.map #[] 0)).heap.size=w.heap.size+1:=by simp
 rw[e]at hm;have hm2:=hm.kept (w':=((w.alloc (.map #[] 0)).alloc (.map #[] 0)).alloc (.cells #[.map (some w.heap.size),.map (some (w.heap.size+1)),.slice none 0 0] 203)) (ae3 _ _ _ (by simp));refine⟨w.heap.size+1+1,w.heap.size,w.heap.size+1,rfl,⟨⟨.slice none 0 0,?_,?_,λk hk=>by cases hk⟩,?_,?_,by omega,by omega⟩,hm2,hgF⟩
 ·refine nY.mk ?_;have e:w.heap.size+1+1=((w.alloc (.map #[] 0)).alloc (.map #[] 0)).heap.size:=by simp
  rw[e,ae9]
 ·exact⟨[],am9 _ _ _ _,λi hi=>by simp at hi⟩
 ·have hm:aH (w.alloc (.map #[] 0)) 82 w.heap.size aS ([]:List Key):=jd w _ _;exact(hm.kept (ae3 _ _ _ (by simp))).kept (ae3 _ _ _ (by simp;omega))
 ·obtain⟨D,nn,a,b,c⟩:=hm2;exact⟨D,nn,by omega,b,c⟩
theorem aH.aav{w:World}{b:Nat}{Us:List Key}(h:aH w 82 b aS Us)(ty:TypeId):(Builtin.len_ #[69] ty #[.map (some b)]).run prog w=.ok (.int .i64 Us.length) w:=by
 obtain⟨D,h1,h2,_⟩:=h;rw[h1.len underlying69 ty,h2]
theorem wC(w:World)(lb BU:Nat)(ms:Option Nat)(rp:Option Addr)(rl rc:Nat)(Us:List Key)(tape:ByteArray)(no:Nat)(caps:Array Value)(hL:nY w lb (some BU) ms (.slice rp rl rc))(hM:aH w 82 BU aS Us) :
  Calls prog 59 #[.pointer (some ⟨lb,0,none⟩),.string tape,.func (.func no) #[] caps] w λe w'=>e=.returned (.pointer (some ⟨w.heap.size,0,none⟩))/\nX w' w.heap.size Us.length (.slice rp rl rc) (.func (.func no) #[] caps) tape.data.toList none/\w.grownBy w' none:=by
 obtain⟨c0,_,c2⟩:=hL.cells;have HM:=aj hM;clear hM
 go_enter func59,ntmps59
 go_wp2_with fail
 refine ah0 (S:=λW'=>w.grownBy W' none) rfl ?_;have hS0:w.grownBy w.drew none:=⟨rfl,rfl,rfl,ad5 _,λ_ _ _=>rfl⟩;simp only[ae2,ae1,ae8,Nat.reduceAdd,ae0,ad9,ae4,ae7,ae6];change wpAnyH prog .any _ _ _ _ _ _ w.drew;refine tH 0 (.pointer (some ⟨lb,0,none⟩)) (λw' hS=>?_) hS0 ?_
 ·go_simp
 simp only[aC];refine tH 1 (.pointer (some ⟨lb,0,none⟩)) (λw' hS=>?_) hS0 ?_
 ·go_simp
 simp only[aC];refine tH 2 (.pointer (some ⟨lb,0,none⟩)) (λw' hS=>?_) hS0 ?_
 ·go_simp
 simp only[aC];refine tH 3 (.map (some BU)) (λw' hS=>?_) hS0 ?_
 ·have q:=hS.cell c0 (by simp);go_simp
 simp only[aC];refine tH 4 (.int .i64 Us.length) (λw' hS=>?_) hS0 ?_
 ·have hlen:=((ah HM).kept (hS.block BU (ah HM).lt (by simp))).aav 3;simp[execOp,resolve,invoke,builtin,hlen,Result.andThen,go_sem]
 simp only[aC];refine tH 5 (.pointer (some ⟨lb,0,none⟩)) (λw' hS=>?_) hS0 ?_
 ·go_simp
 simp only[aC];refine tH 6 (.pointer (some ⟨lb,0,none⟩)) (λw' hS=>?_) hS0 ?_
 ·go_simp
 simp only[aC];refine tH 7 (.pointer (some ⟨lb,2,none⟩)) (λw' hS=>?_) hS0 ?_
 ·go_simp
 simp only[aC];refine tH 8 (.slice rp rl rc) (λw' hS=>?_) hS0 ?_
 ·have q:=hS.cell c2 (by simp);go_simp
 simp only[aC];refine tH 9 (.func (.func no) #[] caps) (λw' hS=>?_) hS0 ?_
 ·go_simp
 simp only[aC];refine tH 10 (.string tape) (λw' hS=>?_) hS0 ?_
 ·go_simp
 simp only[aC];refine tH 11 (.agg #[.int .i64 Us.length,.slice rp rl rc,.func (.func no) #[] caps,.string tape,.map none]) (λw' hS=>?_) hS0 ?_
 ·go_simp
 simp only[aC];have hgb:w.grownBy (w.drew.alloc (.cells #[.int .i64 Us.length,.slice rp rl rc,.func (.func no) #[] caps,.string tape,.map none] 137)) none:=hS0.trans (ad4 _ _ none);refine oH 12 (λK hK=>?_);go_simp;replace hS0:=hgb;refine hK.out _ _ hS0 ?_;clear hK K;refine oH 13 (λK hK=>?_);go_simp;refine hK.out _ _ (hS0) (ag5 (by kernel_rfl) ?_ _);clear hK K
 go_wp2_with fail
 go_ret
 refine⟨rfl,?_,hgb⟩;refine nX.mk ?_;have:(w.drew.alloc (.cells #[.int .i64 Us.length,.slice rp rl rc,.func (.func no) #[] caps,.string tape,.map none] 137)).heap[w.drew.heap.size]?=_:=ae9 _ _;exact this
end
section
open aB (Key put oJ dY jn au aQ dJ fE)
open Nx
def wP(f g:Nat->Nat)(n:Nat):Prop:=∀i j,i<n->j<n->(f i=f j↔g i=g j)
theorem wP.symm{f g:Nat->Nat}{n:Nat}(h:wP f g n):wP g f n:=λi j hi hj=>(h i j hi hj).symm
theorem LW{f g:Nat->Nat}{n:Nat}(h:wP f g n):∀k,k<=n->(nums f k).length=(nums g k).length/\∀j,j<n->(nums f k).idxOf (f j)=(nums g k).idxOf (g j):=by
 intro k
 induction k with
 |zero=>intro _;exact⟨rfl,λj _=>rfl⟩
 |succ k ih=>
  intro hk;obtain⟨h1,h2⟩:=ih (by omega);have hmem:f k∈nums f k↔g k∈nums g k:=by
   rw[gJ,gJ];constructor
   ·rintro⟨j,hj,e⟩;exact⟨j,hj,(h j k (by omega) (by omega)).1 e⟩
   ·rintro⟨j,hj,e⟩;exact⟨j,hj,(h j k (by omega) (by omega)).2 e⟩
  unfold nums put;by_cases hm:f k∈nums f k
  ·have hm':=hmem.1 hm;rw[af6 (by simpa using hm),af6 (by simpa using hm')];exact⟨h1,h2⟩
  ·have hm':g k∉nums g k:=λe=>hm (hmem.2 e);rw[af2 (by simpa using hm),af2 (by simpa using hm')];refine⟨by simp[h1],λj hj=>?_⟩;rw[al3,al3];have hmj:f j∈nums f k↔g j∈nums g k:=by
    rw[gJ,gJ];constructor
    ·rintro⟨i,hi,e⟩;exact⟨i,hi,(h i j (by omega) hj).1 e⟩
    ·rintro⟨i,hi,e⟩;exact⟨i,hi,(h i j (by omega) hj).2 e⟩
   by_cases hj2:f j∈nums f k
   ·rw[af6 hj2,af6 (hmj.1 hj2),h2 j hj]
   ·rw[af2 hj2,af2 (λe=>hj2 (hmj.2 e)),h1];by_cases e:f k=f j
    ·have e':=(h k j (by omega) hj).1 e;simp[e,e']
    ·have e':¬g k=g j:=λe2=>e ((h k j (by omega) hj).2 e2);have e3:(f k==f j)=false:=(by simpa using e);have e4:(g k==g j)=false:=(by simpa using e');simp[List.idxOf_cons,e3,e4]
theorem Q8{f g:Nat->Nat}{n:Nat}(h:wP f g n):uz f n=uz g n:=by
 unfold uz;refine List.map_congr_left λt ht=>?_;have ht:=aj2.1 ht;rw[(LW h t (by omega)).2 t ht]
theorem XC(f:Nat->Nat){n:Nat}(hn:n<=7):wP (fi (uz f n)) f n:=by
 intro i j hi hj;have li:i<(uz f n).length:=by rw[Dx];exact hi
 have lj:j<(uz f n).length:=by rw[Dx];exact hj
 rw[BA li lj];have ei:(uz f n)[i]=UInt8.ofNat (48+(nums f i).idxOf (f i)):=by
  have:=Q9 f n i hi;rw[ad6 li]at this;simpa using this
 have ej:(uz f n)[j]=UInt8.ofNat (48+(nums f j).idxOf (f j)):=by
  have:=Q9 f n j hj;rw[ad6 lj]at this;simpa using this
 rw[ei,ej,<-pz f i n hi,<-pz f j n hj];have mi:f i∈nums f n:=(gJ f n _).2 ⟨i,hi,rfl⟩;have mj:f j∈nums f n:=(gJ f n _).2 ⟨j,hj,rfl⟩;have l1:=ak6.2 mi;have l2:=ak6.2 mj;have l3:=nums_length f n;constructor
 ·intro e;have e2:=ao1 UInt8.toNat e;simp only[UInt8.toNat_ofNat']at e2;have e3:(nums f n).idxOf (f i)=(nums f n).idxOf (f j):=by omega
  have g1:=ai2 l1;have g2:=ai2 l2;rw[<-g1,<-g2];simp only[e3]
 ·intro e;rw[e]
theorem EL{cl cl':List Int}{hl:List Bool}{nt nc:Nat}(hc:∀i j,i<nt->j<nt->(cl.getD i 0=cl.getD j 0↔cl'.getD i 0=cl'.getD j 0)):∀ps:List Key,(∀i (h:i<ps.length),dJ nt nc i ps[i])->dY cl hl ps=dY cl' hl ps:=by
 suffices H:∀n (ps:List Key),ps.length=n->(∀i (h:i<ps.length),dJ nt nc i ps[i])->dY cl hl ps=dY cl' hl ps from λps=>H _ ps rfl
 intro n
 induction n with
 |zero=>
  intro ps hn _;have:ps=[]:=ah4 hn;subst this;rfl
 |succ n ih=>
  intro ps hn hok;obtain⟨qs,q,rfl⟩:∃qs q,ps=qs++[q]:=⟨ps.dropLast,ps.getLast (by intro e;rw[e]at hn;simp at hn),(List.dropLast_concat_getLast _).symm⟩;have hl1:qs.length=n:=by simpa using hn
  have ih1:=ih qs hl1 (λi h=>by have:=hok i (by simp;omega);rwa [aj9 h]at this);have hq:=hok qs.length (by simp);simp at hq;rw[aB.lU,aB.lU,ih1]
  congr 2
  unfold oJ;rcases hq with⟨a,b,_⟩|⟨a,b,c⟩|⟨a,_,_⟩|⟨a,b,c⟩
  ·have h1:q.1≠61:=(by omega);rw[af2 h1,af2 h1]
  ·have h1:q.1≠61:=(by intro e;rw[e]at a;simp[au]at a);rw[af2 h1,af2 h1]
  ·have h1:q.1≠61:=(by omega);rw[af2 h1,af2 h1]
  ·rw[af6 a,af6 a,ar0];exact hc _ _ b c
theorem xP.same{f g:Nat->Nat}{ts:List Key}{cs:List (Int×Nat)}{ps:List Key}{hl:List Bool}(hi:aQ ts.length cs.length ps)(ht:∀i (hi:i<ts.length),ts[i].2.1<ts.length/\ts[i].2.2<ts.length)(hc:∀x∈cs,(x.1=80\/x.1=81)/\x.2<ts.length)(h:xP f ts cs ps hl)(hs:wP f g ts.length):xP g ts cs ps hl:=by
 refine⟨?_,?_,?_⟩
 ·rw[iG];intro i j hi' hj' e1 e2 e3;obtain⟨a1,a2⟩:=ht i hi';obtain⟨b1,b2⟩:=ht j hj';exact(hs i j hi' hj').1 ((iG f ts).1 h.DI i j hi' hj' e1 ((hs _ _ a1 b1).2 e2) ((hs _ _ a2 b2).2 e3))
 ·rw[qM];intro i j hi' hj' e1 e2;exact(qM f cs hl).1 h.Ya i j hi' hj' e1 ((hs _ _ (hc _ (ad8 hi')).2 (hc _ (ad8 hj')).2).2 e2)
 ·rw[EL (cl':=Rx f ts.length) (λi j hi' hj'=>?_) ps hi.ok]
  ·exact h.X7
  ·rw[jF g hi',jF g hj',jF f hi',jF f hj'];have:=hs i j hi' hj';omega
theorem row_mem(f:Nat->Nat):∀n k,((List.range' k n).map λt=>(nums f t).idxOf (f t))∈rws (nums f k).length n
 |0,k=>by simp[rws]
 |n+1,k=>by
  have ih:=row_mem f n (k+1);have e0:List.range' k (n+1)=k::List.range' (k+1) n:=List.range'_succ;unfold rws;rw[e0,ap8];refine al8.2 ⟨(nums f k).idxOf (f k),?_,af9.2 ⟨_,?_,rfl⟩⟩
  ·have:=al6 (l:=nums f k) (a:=f k);simp;omega
  ·have e:max (nums f k).length ((nums f k).idxOf (f k)+1)=(nums f (k+1)).length:=by
    show _=(put (nums f k) (f k)).length
    unfold put;by_cases hm:f k∈nums f k
    ·rw[af6 (by simpa using hm)];have:=ak6.2 hm;omega
    ·rw[af2 (by simpa using hm),ai9 hm];simp
   rw[e];exact ih
theorem JY:∀(n:Nat) (l:List Bool),l.length=n->l∈X9 n
 |0,l,h=>by
  have:l=[]:=ah4 h;subst this;simp[X9]
 |n+1,l,h=>by
  cases l with
  |nil=>simp at h
  |cons b l=>
   have ih:=JY n l (by simpa using h);unfold X9;cases b
   ·exact ai5 _ (af9.2 ⟨l,ih,rfl⟩)
   ·exact ao7 _ (af9.2 ⟨l,ih,rfl⟩)
theorem KQ{α:Type}{L:List α}{g:α->Nat}{x:α}(hx:x∈L)(h:g x≠0):sumTo L g L.length≠0:=by
 unfold sumTo;rw[ai7];intro e;exact h (List.sum_eq_zero_iff_forall_eq_nat.1 e _ (af9.2 ⟨x,hx,rfl⟩))
theorem GL{α:Type}{L:List α}{g:α->Nat}(h:sumTo L g L.length≠0):∃x∈L,g x≠0:=by
 refine ah3 λhn=>h ?_;unfold sumTo;rw[ai7];refine List.sum_eq_zero_iff_forall_eq_nat.2 λy hy=>?_;obtain⟨x,hx,rfl⟩:=af9.1 hy;exact ah3 λe=>hn ⟨x,hx,e⟩
end
section
open aB (Key put oJ dY jn au aQ dJ fE Inv jR texts)
open Nx
def rowOf(f:Nat->Nat)(n:Nat):List Nat:=(List.range' 0 n).map λt=>(nums f t).idxOf (f t)
theorem lQ(f:Nat->Nat)(n:Nat):(rowOf f n).length=n:=by simp[rowOf]
theorem EG(f:Nat->Nat){n i:Nat}(h:i<n):(rowOf f n)[i]'(by rw[lQ];exact h)=(nums f i).idxOf (f i):=by simp[rowOf]
theorem XB(f:Nat->Nat)(n:Nat):wP (fi (rowOf f n)) f n:=by
 intro i j hi hj;rw[BA (by rw[lQ];exact hi) (by rw[lQ];exact hj),EG f hi,EG f hj,<-pz f i n hi,<-pz f j n hj];have mi:f i∈nums f n:=(gJ f n _).2 ⟨i,hi,rfl⟩;have mj:f j∈nums f n:=(gJ f n _).2 ⟨j,hj,rfl⟩;have l1:=ak6.2 mi;have l2:=ak6.2 mj;constructor
 ·intro e3;have g1:=ai2 l1;have g2:=ai2 l2;rw[<-g1,<-g2];simp only[e3]
 ·intro e;rw[e]
theorem BQ{f:Nat->Nat}{cl:List Int}{hl:List Bool}{nt nc:Nat}{ps:List Key}(hi:aQ nt nc ps)(hc:∀i j,i<nt->j<nt->(f i=f j↔cl.getD i 0=cl.getD j 0)):dY cl hl ps=dY (Rx f nt) hl ps:=by
 refine EL (nt:=nt) (nc:=nc) (λi j h1 h2=>?_) ps hi.ok;rw[jF f h1,jF f h2,<-hc i j h1 h2];omega
section
variable {s:ByteArray} {ts:List Key} {cs:List (Int×Nat)} {ps:List Key}
theorem zI(h4:cs.length<=4)(kR:aQ ts.length cs.length ps)(ht:∀i (hi:i<ts.length),ts[i].2.1<ts.length/\ts[i].2.2<ts.length)(hc:∀x∈cs,(x.1=80\/x.1=81)/\x.2<ts.length) :
  qR ts cs ps≠0↔∃f hl,hl.length=cs.length/\xP f ts cs ps hl:=by
 constructor
 ·intro h;obtain⟨row,hr,h1⟩:=GL h;have hrl:=sU _ _ row hr;unfold rX at h1;by_cases hcg:∀p∈aO (mkd (fi row) ts) ts.length,fi row p.1=fi row p.2
  ·rw[af6 hcg]at h1;obtain⟨k,hk,h2⟩:=List.countP_pos_iff.1 (Nat.pos_of_ne_zero h1);unfold RU at h2;simp only[Bool.and_eq_true,aj7]at h2;refine⟨fi row,tv cs.length k,dX _ _,hcg,h2.1,?_⟩;rw[<-BQ kR (λi j h1 h2=>DW row i j (by omega) (by omega))];exact h2.2
  ·rw[af2 hcg]at h1;exact absurd rfl h1
 ·rintro⟨f,hl,hlen,hm⟩;have hm2:=hm.same kR ht hc (XB f ts.length).symm;have hmem:rowOf f ts.length∈rws 0 ts.length:=row_mem f ts.length 0;refine KQ hmem ?_;unfold rX;have hcg:∀p∈aO (mkd (fi (rowOf f ts.length)) ts) ts.length,fi (rowOf f ts.length) p.1=fi (rowOf f ts.length) p.2:=hm2.DI;rw[af6 hcg];have hb:=JY cs.length hl hlen;have hb2:=(Tf h4).mem_iff.1 hb;obtain⟨k,hk,e⟩:=af9.1 hb2;refine Nat.pos_iff_ne_zero.1 (List.countP_pos_iff.2 ⟨k,hk,?_⟩);unfold RU;simp only[Bool.and_eq_true,aj7];rw[e];refine⟨hm2.Ya,?_⟩;rw[BQ kR (λi j h1 h2=>DW _ i j (by rw[lQ];omega) (by rw[lQ];omega))];exact hm2.X7
theorem Jz(h7:ts.length<=7)(kR:aQ ts.length cs.length ps)(ht:∀i (hi:i<ts.length),ts[i].2.1<ts.length/\ts[i].2.2<ts.length)(hc:∀x∈cs,(x.1=80\/x.1=81)/\x.2<ts.length)
 {f:Nat->Nat}{hl:List Bool}(hlen:hl.length=cs.length)(hm:xP f ts cs ps hl):hld ⟨(wrt f ts.length hl).toArray⟩ ts cs ps (XE ⟨(wrt f ts.length hl).toArray⟩ ts.length)=(true,0):=by
 have hdl:(uz f ts.length).length=ts.length:=Dx _ _;have hsz:(⟨(wrt f ts.length hl).toArray⟩:ByteArray).size=ts.length+1+cs.length:=by
  show(wrt f ts.length hl).toArray.size=_
  simp[wrt,bits,hdl,hlen]
  try omega
 have htk:(wrt f ts.length hl).take ts.length=uz f ts.length:=by
  unfold wrt;rw[ak2,List.take_append_of_le_length (by omega),ah5 (by omega)]
 have hhl:hlo ⟨(wrt f ts.length hl).toArray⟩ ts.length cs.length=hl:=by
  rw[Ql _ _ _ hsz]
  show((wrt f ts.length hl).drop (ts.length+1)).map _=_
  unfold wrt;rw[List.drop_append,List.drop_eq_nil_of_le (by simp[hdl])];simp only[af8,hdl,ao8,Nat.sub_self,List.drop_zero,ae7];unfold bits;rw[List.map_map]
  conv=>rhs;rw[<-List.map_id hl]
  refine List.map_congr_left λb _=>?_;cases b<;>rfl
 have hkk:=XC f h7;have hm2:=hm.same kR ht hc hkk.symm;unfold hld
 show(if _/\wrt (fi ((wrt f ts.length hl).take ts.length)) ts.length _=wrt f ts.length hl then(Vt (fi ((wrt f ts.length hl).take ts.length)) _ _ _ _ _,(0:Int))else _)=_
 rw[htk,hhl];have hw:wrt (fi (uz f ts.length)) ts.length hl=wrt f ts.length hl:=by
  unfold wrt;rw[Q8 hkk]
 rw[af6 ⟨hsz,hw⟩];have hM:Vt (fi (uz f ts.length)) ts cs ps (XE ⟨(wrt f ts.length hl).toArray⟩ ts.length) hl=true:=by
  unfold Vt;simp only[Bool.and_eq_true,aj7];refine⟨⟨hm2.DI,hm2.Ya⟩,?_⟩;have hcl:∀i j,i<ts.length->j<ts.length->(fi ((wrt f ts.length hl).take ts.length) i=fi ((wrt f ts.length hl).take ts.length) j↔_):=I9 ⟨(wrt f ts.length hl).toArray⟩ ts.length cs.length hsz;rw[htk]at hcl;rw[BQ kR hcl];exact hm2.X7
 rw[hM]
end
end
open Go.RowKit
def UY(d:Nat):ByteArray:=(⟨#[48,49,50,51,52,53,54,55,56,57]⟩:ByteArray).extract d (d+1)
theorem UW:∀d:Fin 10,(UY d.val).size=1/\(UY d.val).data.toList.any lY=false:=by decide +kernel
theorem JC{t:ByteArray}(h:t.size<=60)(hn:t.data.toList.any lY=false):dw t=false:=by
 unfold dw;rw[hn];simp;omega
theorem Me(w:World)(s:ByteArray) :
  Calls prog 13 #[.string s] w λe w'=>(∃t,e=.returned (.string t)/\dw t=false)/\w'=w:=by
 go_enter func13,ntmps13
 go_wp2_with fail
 go_loop [3,4] (λtv iv=>∃(k:Nat) (t:ByteArray),k<=60/\tv=.string t/\iv=.int .i64 k/\t.size<=k/\Hid (t.data.toList.any lY=false)) (λtv iv=>60-(intOf iv).toNat)
 case atStart=>exact⟨0,⟨#[]⟩,ah2 _,rfl,rfl,ad5 _,aj (by decide)⟩
 case round=>
  obtain⟨k,t,hk,rfl,rfl,htk,hno⟩:=hrel;by_cases hlt:k<s.size
  ·have hbk:(k:Int)<(s.size:Int):=(by omega);by_cases h60:k<60
   ·have hb60:(k:Int)<60:=(by omega);have Uo:=s[k].toNat_lt;obtain⟨c,hc⟩:∃c:Nat,s[k].toNat=c:=⟨_,rfl⟩;obtain⟨d,hd⟩:∃d,c%10=d:=⟨_,rfl⟩;have hd10:d<10:=(by omega);have hm:(c:Int).tmod 10=(d:Int):=by
     rw[Int.tmod_eq_emod_of_nonneg (by omega)];omega
    have hdk:=UW ⟨d,hd10⟩;have HDK:=aj hdk;have HD:=aj hd;rw[hc]at Uo;clear hd hdk
    go_wp2_with fail
    refine⟨⟨k+1,t++UY d,by omega,rfl,by go_num,?_,?_⟩,by simp[intOf];omega⟩
    ·rw[ByteArray.size_append,(ah HDK).1];omega
    ·show(t++UY d).data.toList.any lY=false
     rw[ByteArray.data_append,Array.toList_append,List.any_append,ah hno,(ah HDK).2];rfl
   ·have hb60:¬(k:Int)<60:=(by omega);have hnt:dw t=false:=JC (by omega) (ah hno);have HNT:=aj hnt;clear hnt
    go_wp2_with fail
    refine ag3 (v:=.string t) (by simp[results,results13,go_sem]) rfl ⟨⟨t,rfl,ah HNT⟩,rfl⟩
  ·have hbk:¬(k:Int)<(s.size:Int):=(by omega);have hnt:dw t=false:=JC (by omega) (ah hno);have HNT:=aj hnt;clear hnt
   go_wp2_with fail
   refine ag3 (v:=.string t) (by simp[results,results13,go_sem]) rfl ⟨⟨t,rfl,ah HNT⟩,rfl⟩
end Go.Proofs.YthcppbmkacbbiabGreat
