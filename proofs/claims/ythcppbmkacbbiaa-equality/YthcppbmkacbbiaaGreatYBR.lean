import Derived.Test.YthcppbmkacbbiaaGreatYBO
set_option linter.unusedSimpArgs false
set_option maxHeartbeats 2000000
set_option maxRecDepth 100000
namespace Go.Proofs.YthcppbmkacbbiaaGreat
open Go.Proofs.Tryz
section
open Go.RowKit Go.Maps Go.WideMaps
open Sat (View Rule jw bI)
open aB (Key put dH au aP)
theorem tu(w:World)(dom:Key->Prop)(X:Nat->Prop) :
  Calls prog 92 #[] w λe w'=>∃lb BU BS,e=.returned (.pointer (some ⟨lb,0,none⟩))/\LG w.heap.size w' lb BU BS id dom [] [] X/\gK w' BS id dom 0/\w.grownBy w' none:=by
 have hmm:=@ar7 prog
 go_enter func92,ntmps92
 go_wp2_with fail
 go_ret
 have h1:((w.alloc (.map #[] 0)).alloc (.map #[] 0)).heap.size=w.heap.size+2:=by simp
 have hgF:w.grownBy (((w.alloc (.map #[] 0)).alloc (.map #[] 0)).alloc (.cells #[.map (some w.heap.size),.map (some (w.heap.size+1)),.slice none 0 0] 210)) none:=((ac1 _ _ none).trans (ac1 _ _ none)).trans (ac1 _ _ none);have hm:=gK.made (w.alloc (.map #[] 0)) dom;have e:(w.alloc (.map #[] 0)).heap.size=w.heap.size+1:=by simp
 rw[e]at hm;have hm2:=hm.kept (w':=((w.alloc (.map #[] 0)).alloc (.map #[] 0)).alloc (.cells #[.map (some w.heap.size),.map (some (w.heap.size+1)),.slice none 0 0] 210)) (ad4 _ _ _ (by simp));refine⟨w.heap.size+1+1,w.heap.size,w.heap.size+1,rfl,⟨⟨.slice none 0 0,?_,?_,λk hk=>by cases hk⟩,?_,?_,by omega,by omega⟩,hm2,hgF⟩
 ·refine oJ.mk ?_;have e:w.heap.size+1+1=((w.alloc (.map #[] 0)).alloc (.map #[] 0)).heap.size:=by simp
  rw[e,ad7]
 ·exact⟨[],al9 _ _ _ _,λi hi=>by simp at hi⟩
 ·have hm:aH (w.alloc (.map #[] 0)) 93 w.heap.size aS ([]:List Key):=jm w _ _;exact(hm.kept (ad4 _ _ _ (by simp))).kept (ad4 _ _ _ (by simp;omega))
 ·obtain⟨D,nn,a,b,c⟩:=hm2;exact⟨D,nn,by omega,b,c⟩
theorem aH.ZY{w:World}{b:Nat}{Us:List Key}(h:aH w 93 b aS Us)(ty:TypeId):(Builtin.len_ #[80] ty #[.map (some b)]).run prog w=.ok (.int .i64 Us.length) w:=by
 obtain⟨D,h1,h2,_⟩:=h;rw[h1.len underlying80 ty,h2]
theorem wB(w:World)(lb BU:Nat)(ms:Option Nat)(rp:Option Addr)(rl rc:Nat)(Us:List Key)(tape:ByteArray)(no:Nat)(caps:Array Value)(hL:oJ w lb (some BU) ms (.slice rp rl rc))(hM:aH w 93 BU aS Us) :
  Calls prog 86 #[.pointer (some ⟨lb,0,none⟩),.string tape,.func (.func no) #[] caps] w λe w'=>e=.returned (.pointer (some ⟨w.heap.size,0,none⟩))/\oI w' w.heap.size Us.length (.slice rp rl rc) (.func (.func no) #[] caps) tape.data.toList none/\w.grownBy w' none:=by
 obtain⟨c0,_,c2⟩:=hL.cells;have HM:=aj hM;clear hM
 go_enter func86,ntmps86
 go_wp2_with fail
 refine ag0 (S:=λW'=>w.grownBy W' none) rfl ?_;have hS0:w.grownBy w.drew none:=⟨rfl,rfl,rfl,ac2 _,λ_ _ _=>rfl⟩;simp only[ad3,ac9,ae1,Nat.reduceAdd,ac7,ac6,ad5,ad9,ad8];change wpAnyH prog .any _ _ _ _ _ _ w.drew;refine tH 0 (.pointer (some ⟨lb,0,none⟩)) (λw' hS=>?_) hS0 ?_
 ·go_simp
 simp only[aC];refine tH 1 (.pointer (some ⟨lb,0,none⟩)) (λw' hS=>?_) hS0 ?_
 ·go_simp
 simp only[aC];refine tH 2 (.pointer (some ⟨lb,0,none⟩)) (λw' hS=>?_) hS0 ?_
 ·go_simp
 simp only[aC];refine tH 3 (.map (some BU)) (λw' hS=>?_) hS0 ?_
 ·have q:=hS.cell c0 (by simp);go_simp
 simp only[aC];refine tH 4 (.int .i64 Us.length) (λw' hS=>?_) hS0 ?_
 ·have hlen:=((ah HM).kept (hS.block BU (ah HM).lt (by simp))).ZY 3;simp[execOp,resolve,invoke,builtin,hlen,Result.andThen,go_sem]
 simp only[aC];refine tH 5 (.pointer (some ⟨lb,0,none⟩)) (λw' hS=>?_) hS0 ?_
 ·go_simp
 simp only[aC];refine tH 6 (.pointer (some ⟨lb,0,none⟩)) (λw' hS=>?_) hS0 ?_
 ·go_simp
 simp only[aC];refine tH 7 (.pointer (some ⟨lb,2,none⟩)) (λw' hS=>?_) hS0 ?_
 ·go_simp
 simp only[aC];refine tH 8 (.slice rp rl rc) (λw' hS=>?_) hS0 ?_
 ·have q:=hS.cell c2 (by simp);go_simp
 simp only[aC];refine tH 9 (.func (.func no) #[] caps) (λw' hS=>?_) hS0 ?_
 ·go_simp
 simp only[aC];refine tH 10 (.string tape) (λw' hS=>?_) hS0 ?_
 ·go_simp
 simp only[aC];refine tH 11 (.agg #[.int .i64 Us.length,.slice rp rl rc,.func (.func no) #[] caps,.string tape,.map none]) (λw' hS=>?_) hS0 ?_
 ·go_simp
 simp only[aC];have hgb:w.grownBy (w.drew.alloc (.cells #[.int .i64 Us.length,.slice rp rl rc,.func (.func no) #[] caps,.string tape,.map none] 169)) none:=hS0.trans (ac1 _ _ none);refine oH 12 (λK hK=>?_);go_simp;replace hS0:=hgb;refine hK.out _ _ hS0 ?_;clear hK K;refine oH 13 (λK hK=>?_);go_simp;refine hK.out _ _ (hS0) (af4 (by kernel_rfl) ?_ _);clear hK K
 go_wp2_with fail
 go_ret
 refine⟨rfl,?_,hgb⟩;refine oI.mk ?_;have:(w.drew.alloc (.cells #[.int .i64 Us.length,.slice rp rl rc,.func (.func no) #[] caps,.string tape,.map none] 169)).heap[w.drew.heap.size]?=_:=ad7 _ _;exact this
end
section
open Go.RowKit
theorem G5(w:World)(t:ByteArray) :
  Calls prog 32 #[.string t] w λe w'=>e=.returned (.bool (!dU t))/\Below w.heap.size w w':=by
 by_cases h60:60<t.size
 ·have hb:(60:Int)<(t.size:Int):=by omega
  have hn:dU t=true:=by unfold dU;simp[h60]
  rw[hn]
  go_enter func32,ntmps32
  go_wp2_with fail
  go_ret
  exact⟨rfl,af5 _ _⟩
 ·have hb:¬(60:Int)<(t.size:Int):=by omega
  have hcv:=run_bytes_of_string (P:=prog) w 9 107 5 t underlying9 underlying107 underlying5;obtain⟨cap,hcap⟩:∃c,grownCap w t.size 0 5=c:=⟨_,rfl⟩;rw[hcap]at hcv;obtain⟨W,hW⟩:∃W,w.drew.alloc (.cells (bytesRow t cap) 5 ((bytesRow t cap).size,(bytesRow t cap).size+1))=W:=⟨_,rfl⟩;have hbw:Below w.heap.size w W:=by rw[<-hW];exact((af5 _ w).drew).alloc (ac2 _) _
  have hn:W.heap[w.heap.size]?=some (.cells (bytesRow t cap) 5 ((bytesRow t cap).size,(bytesRow t cap).size+1)):=by rw[<-hW];exact ad7 w.drew _
  have hrow:∀i (hi:i<t.size),W.cell? ⟨w.heap.size,i,none⟩=some (.int .u8 (t[i].toNat:Int)):=λi hi=>by
   rw[Lib.cell_of_heap hn];have h3:=bytesRow_at t cap i hi;simpa[am5]using h3
  rw[hW]at hcv;have HR:=aj hrow;clear hW hn hrow hcap
  go_enter func32,ntmps32
  go_wp2_with fail
  go_loop [11] (λiv=>∃k:Nat,k<=t.size/\iv=.int .i64 k/\Hid ((t.data.toList.take k).any sZ=false)) (λiv=>t.size-(intOf iv).toNat)
  case atStart=>exact⟨0,ag3 _,rfl,by simp[Hid]⟩
  case round=>
   obtain⟨k,hk,rfl,hno⟩:=hrel;by_cases hlt:k<t.size
   ·have hbk:(k:Int)<(t.size:Int):=(by omega);have hck:=ah HR k hlt;have hat:=Rl hlt;rw[ah hno,Bool.false_or]at hat;have hnd:sZ t[k]=(decide ((t[k].toNat:Int)<48)||decide ((57:Int)<(t[k].toNat:Int))):=rfl;have aal:(t[k].toNat:Int)<256:=(by have:=t[k].toNat_lt;omega);have HAT:=aj hat;have HND:=aj hnd;clear hat hnd hno;generalize sZ t[k]=nd at HAT HND;generalize (t[k].toNat:Int)=c at hck HND aal;have hbad:Hid (nd=true->dU t=true):=λh=>by
     have q:=ah HAT;rw[h]at q;exact any_true (k:=k+1) (by rw[q];simp)
    by_cases h48:c<48
    ·have hnt:dU t=true:=ah hbad (by rw[ah HND];simp[h48]);have HNT:=aj hnt;clear hnt
     go_wp2_with fail
     refine af2 (v:=.bool false) (by simp[results,results32,go_sem]) rfl ⟨by rw[ah HNT];rfl,hbw⟩
    ·by_cases h57:57<c
     ·have hnt:dU t=true:=ah hbad (by rw[ah HND];simp[h57]);have HNT:=aj hnt;clear hnt
      go_wp2_with fail
      refine af2 (v:=.bool false) (by simp[results,results32,go_sem]) rfl ⟨by rw[ah HNT];rfl,hbw⟩
     ·have hnf:nd=false:=(by rw[ah HND];simp[h48,h57]);have HNF:=aj hnf;clear hnf
      go_wp2_with fail
      refine⟨⟨k+1,hlt,by go_num,by rw[ah HAT];exact HNF⟩,by simp[intOf];omega⟩
   ·have hkk:k=t.size:=(by omega);have hbk:¬(k:Int)<(t.size:Int):=(by omega);have hnt:dU t=false:=by
     have q:=ah hno;rw[hkk,ah2 (by simp)]at q;unfold dU;rw[q,show decide (60<t.size)=false by simp;omega];rfl
    have HNT:=aj hnt;clear hnt hkk hno
    go_wp2_with fail
    refine af2 (v:=.bool true) (by simp[results,results32,go_sem]) rfl ⟨by rw[ah HNT];rfl,hbw⟩
end
section
open aB (Key put lY dP jn au aP dH fD)
open Nx
def wP(f g:Nat->Nat)(n:Nat):Prop:=∀i j,i<n->j<n->(f i=f j↔g i=g j)
theorem wP.symm{f g:Nat->Nat}{n:Nat}(h:wP f g n):wP g f n:=λi j hi hj=>(h i j hi hj).symm
theorem Le{f g:Nat->Nat}{n:Nat}(h:wP f g n):∀k,k<=n->(nums f k).length=(nums g k).length/\∀j,j<n->(nums f k).idxOf (f j)=(nums g k).idxOf (g j):=by
 intro k
 induction k with
 |zero=>intro _;exact⟨rfl,λj _=>rfl⟩
 |succ k ih=>
  intro hk;obtain⟨h1,h2⟩:=ih (by omega);have hmem:f k∈nums f k↔g k∈nums g k:=by
   rw[gV,gV];constructor
   ·rintro⟨j,hj,e⟩;exact⟨j,hj,(h j k (by omega) (by omega)).1 e⟩
   ·rintro⟨j,hj,e⟩;exact⟨j,hj,(h j k (by omega) (by omega)).2 e⟩
  unfold nums put;by_cases hm:f k∈nums f k
  ·have hm':=hmem.1 hm;rw[ae2 (by simpa using hm),ae2 (by simpa using hm')];exact⟨h1,h2⟩
  ·have hm':g k∉nums g k:=λe=>hm (hmem.2 e);rw[ad6 (by simpa using hm),ad6 (by simpa using hm')];refine⟨by simp[h1],λj hj=>?_⟩;rw[aj2,aj2];have hmj:f j∈nums f k↔g j∈nums g k:=by
    rw[gV,gV];constructor
    ·rintro⟨i,hi,e⟩;exact⟨i,hi,(h i j (by omega) hj).1 e⟩
    ·rintro⟨i,hi,e⟩;exact⟨i,hi,(h i j (by omega) hj).2 e⟩
   by_cases hj2:f j∈nums f k
   ·rw[ae2 hj2,ae2 (hmj.1 hj2),h2 j hj]
   ·rw[ad6 hj2,ad6 (λe=>hj2 (hmj.2 e)),h1];by_cases e:f k=f j
    ·have e':=(h k j (by omega) hj).1 e;simp[e,e']
    ·have e':¬g k=g j:=λe2=>e ((h k j (by omega) hj).2 e2);have e3:(f k==f j)=false:=(by simpa using e);have e4:(g k==g j)=false:=(by simpa using e');simp[List.idxOf_cons,e3,e4]
theorem QE{f g:Nat->Nat}{n:Nat}(h:wP f g n):uo f n=uo g n:=by
 unfold uo;refine List.map_congr_left λt ht=>?_;have ht:=ai5.1 ht;rw[(Le h t (by omega)).2 t ht]
theorem WM(f:Nat->Nat){n:Nat}(hn:n<=7):wP (fi (uo f n)) f n:=by
 intro i j hi hj;have li:i<(uo f n).length:=by rw[Di];exact hi
 have lj:j<(uo f n).length:=by rw[Di];exact hj
 rw[Bc li lj];have ei:(uo f n)[i]=UInt8.ofNat (48+(nums f i).idxOf (f i)):=by
  have:=QF f n i hi;rw[ac3 li]at this;simpa using this
 have ej:(uo f n)[j]=UInt8.ofNat (48+(nums f j).idxOf (f j)):=by
  have:=QF f n j hj;rw[ac3 lj]at this;simpa using this
 rw[ei,ej,<-pV f i n hi,<-pV f j n hj];have mi:f i∈nums f n:=(gV f n _).2 ⟨i,hi,rfl⟩;have mj:f j∈nums f n:=(gV f n _).2 ⟨j,hj,rfl⟩;have l1:=aj3.2 mi;have l2:=aj3.2 mj;have l3:=nums_length f n;constructor
 ·intro e;have e2:=am8 UInt8.toNat e;simp only[UInt8.toNat_ofNat']at e2;have e3:(nums f n).idxOf (f i)=(nums f n).idxOf (f j):=by omega
  have g1:=ag2 l1;have g2:=ag2 l2;rw[<-g1,<-g2];simp only[e3]
 ·intro e;rw[e]
theorem Ej{cl cl':List Int}{hl:List Bool}{nt nc:Nat}(hc:∀i j,i<nt->j<nt->(cl.getD i 0=cl.getD j 0↔cl'.getD i 0=cl'.getD j 0)):∀ps:List Key,(∀i (h:i<ps.length),dH nt nc i ps[i])->dP cl hl ps=dP cl' hl ps:=by
 suffices H:∀n (ps:List Key),ps.length=n->(∀i (h:i<ps.length),dH nt nc i ps[i])->dP cl hl ps=dP cl' hl ps from λps=>H _ ps rfl
 intro n
 induction n with
 |zero=>
  intro ps hn _;have:ps=[]:=ag9 hn;subst this;rfl
 |succ n ih=>
  intro ps hn hok;obtain⟨qs,q,rfl⟩:∃qs q,ps=qs++[q]:=⟨ps.dropLast,ps.getLast (by intro e;rw[e]at hn;simp at hn),(List.dropLast_concat_getLast _).symm⟩;have hl1:qs.length=n:=by simpa using hn
  have ih1:=ih qs hl1 (λi h=>by have:=hok i (by simp;omega);rwa [ah9 h]at this);have hq:=hok qs.length (by simp);simp at hq;rw[aB.kM,aB.kM,ih1]
  congr 2
  unfold lY;rcases hq with⟨a,b,_⟩|⟨a,b,c⟩|⟨a,_,_⟩|⟨a,b,c⟩
  ·have h1:q.1≠61:=(by omega);rw[ad6 h1,ad6 h1]
  ·have h1:q.1≠61:=(by intro e;rw[e]at a;simp[au]at a);rw[ad6 h1,ad6 h1]
  ·have h1:q.1≠61:=(by omega);rw[ad6 h1,ad6 h1]
  ·rw[ae2 a,ae2 a,ao6];exact hc _ _ b c
theorem Ak.same{f g:Nat->Nat}{ts:List Key}{cs:List (Int×Nat)}{ps:List Key}{hl:List Bool}(hi:aP ts.length cs.length ps)(ht:∀i (hi:i<ts.length),ts[i].2.1<ts.length/\ts[i].2.2<ts.length)(hc:∀x∈cs,(x.1=80\/x.1=81)/\x.2<ts.length)(h:Ak f ts cs ps hl)(hs:wP f g ts.length):Ak g ts cs ps hl:=by
 refine⟨?_,?_,?_⟩
 ·rw[iJ];intro i j hi' hj' e1 e2 e3;obtain⟨a1,a2⟩:=ht i hi';obtain⟨b1,b2⟩:=ht j hj';exact(hs i j hi' hj').1 ((iJ f ts).1 h.Dp i j hi' hj' e1 ((hs _ _ a1 b1).2 e2) ((hs _ _ a2 b2).2 e3))
 ·rw[lS];intro i j hi' hj' e1 e2;exact(lS f cs hl).1 h.Xr i j hi' hj' e1 ((hs _ _ (hc _ (ac4 hi')).2 (hc _ (ac4 hj')).2).2 e2)
 ·rw[Ej (cl':=JR f ts.length) (λi j hi' hj'=>?_) ps hi.ok]
  ·exact h.Xn
  ·rw[aT g hi',aT g hj',aT f hi',aT f hj'];have:=hs i j hi' hj';omega
theorem row_mem(f:Nat->Nat):∀n k,((List.range' k n).map λt=>(nums f t).idxOf (f t))∈rws (nums f k).length n
 |0,k=>by simp[rws]
 |n+1,k=>by
  have ih:=row_mem f n (k+1);have e0:List.range' k (n+1)=k::List.range' (k+1) n:=List.range'_succ;unfold rws;rw[e0,ar4];refine ak7.2 ⟨(nums f k).idxOf (f k),?_,ae8.2 ⟨_,?_,rfl⟩⟩
  ·have:=ak8 (l:=nums f k) (a:=f k);simp;omega
  ·have e:max (nums f k).length ((nums f k).idxOf (f k)+1)=(nums f (k+1)).length:=by
    show _=(put (nums f k) (f k)).length
    unfold put;by_cases hm:f k∈nums f k
    ·rw[ae2 (by simpa using hm)];have:=aj3.2 hm;omega
    ·rw[ad6 (by simpa using hm),ag4 hm];simp
   rw[e];exact ih
theorem Js:∀(n:Nat) (l:List Bool),l.length=n->l∈Xq n
 |0,l,h=>by
  have:l=[]:=ag9 h;subst this;simp[Xq]
 |n+1,l,h=>by
  cases l with
  |nil=>simp at h
  |cons b l=>
   have ih:=Js n l (by simpa using h);unfold Xq;cases b
   ·exact ah6 _ (ae8.2 ⟨l,ih,rfl⟩)
   ·exact an8 _ (ae8.2 ⟨l,ih,rfl⟩)
theorem Kr{α:Type}{L:List α}{g:α->Nat}{x:α}(hx:x∈L)(h:g x≠0):sumTo L g L.length≠0:=by
 unfold sumTo;rw[ai1];intro e;exact h (List.sum_eq_zero_iff_forall_eq_nat.1 e _ (ae8.2 ⟨x,hx,rfl⟩))
theorem Gf{α:Type}{L:List α}{g:α->Nat}(h:sumTo L g L.length≠0):∃x∈L,g x≠0:=by
 refine ag1 λhn=>h ?_;unfold sumTo;rw[ai1];refine List.sum_eq_zero_iff_forall_eq_nat.2 λy hy=>?_;obtain⟨x,hx,rfl⟩:=ae8.1 hy;exact ag1 λe=>hn ⟨x,hx,e⟩
end
open aB (Key put lY dP jn au aP dH fD Inv jv texts)
open Nx
def rowOf(f:Nat->Nat)(n:Nat):List Nat:=(List.range' 0 n).map λt=>(nums f t).idxOf (f t)
theorem mD(f:Nat->Nat)(n:Nat):(rowOf f n).length=n:=by simp[rowOf]
theorem Eh(f:Nat->Nat){n i:Nat}(h:i<n):(rowOf f n)[i]'(by rw[mD];exact h)=(nums f i).idxOf (f i):=by simp[rowOf]
theorem WL(f:Nat->Nat)(n:Nat):wP (fi (rowOf f n)) f n:=by
 intro i j hi hj;rw[Bc (by rw[mD];exact hi) (by rw[mD];exact hj),Eh f hi,Eh f hj,<-pV f i n hi,<-pV f j n hj];have mi:f i∈nums f n:=(gV f n _).2 ⟨i,hi,rfl⟩;have mj:f j∈nums f n:=(gV f n _).2 ⟨j,hj,rfl⟩;have l1:=aj3.2 mi;have l2:=aj3.2 mj;constructor
 ·intro e3;have g1:=ag2 l1;have g2:=ag2 l2;rw[<-g1,<-g2];simp only[e3]
 ·intro e;rw[e]
theorem BF{f:Nat->Nat}{cl:List Int}{hl:List Bool}{nt nc:Nat}{ps:List Key}(hi:aP nt nc ps)(hc:∀i j,i<nt->j<nt->(f i=f j↔cl.getD i 0=cl.getD j 0)):dP cl hl ps=dP (JR f nt) hl ps:=by
 refine Ej (nt:=nt) (nc:=nc) (λi j h1 h2=>?_) ps hi.ok;rw[aT f h1,aT f h2,<-hc i j h1 h2];omega
section
variable {s:ByteArray} {ts:List Key} {cs:List (Int×Nat)} {ps:List Key}
theorem zG(h4:cs.length<=4)(ny:aP ts.length cs.length ps)(ht:∀i (hi:i<ts.length),ts[i].2.1<ts.length/\ts[i].2.2<ts.length)(hc:∀x∈cs,(x.1=80\/x.1=81)/\x.2<ts.length) :
  zH ts cs ps≠0↔∃f hl,hl.length=cs.length/\Ak f ts cs ps hl:=by
 constructor
 ·intro h;obtain⟨row,hr,h1⟩:=Gf h;have hrl:=Jg _ _ row hr;unfold WU at h1;by_cases hcg:∀p∈bg (mkd (fi row) ts) ts.length,fi row p.1=fi row p.2
  ·rw[ae2 hcg]at h1;obtain⟨k,hk,h2⟩:=List.countP_pos_iff.1 (Nat.pos_of_ne_zero h1);unfold WT at h2;simp only[al0,ah4]at h2;refine⟨fi row,tv cs.length k,J6 _ _,hcg,h2.1,?_⟩;rw[<-BF ny (λi j h1 h2=>JU row i j (by omega) (by omega))];exact h2.2
  ·rw[ad6 hcg]at h1;exact absurd rfl h1
 ·rintro⟨f,hl,hlen,hm⟩;have hm2:=hm.same ny ht hc (WL f ts.length).symm;have hmem:rowOf f ts.length∈rws 0 ts.length:=row_mem f ts.length 0;refine Kr hmem ?_;unfold WU;have hcg:∀p∈bg (mkd (fi (rowOf f ts.length)) ts) ts.length,fi (rowOf f ts.length) p.1=fi (rowOf f ts.length) p.2:=hm2.Dp;rw[ae2 hcg];have hb:=Js cs.length hl hlen;have hb2:=(RZ h4).mem_iff.1 hb;obtain⟨k,hk,e⟩:=ae8.1 hb2;refine Nat.pos_iff_ne_zero.1 (List.countP_pos_iff.2 ⟨k,hk,?_⟩);unfold WT;simp only[al0,ah4];rw[e];refine⟨hm2.Xr,?_⟩;rw[BF ny (λi j h1 h2=>JU _ i j (by rw[mD];omega) (by rw[mD];omega))];exact hm2.Xn
theorem RV(h7:ts.length<=7)(ny:aP ts.length cs.length ps)(ht:∀i (hi:i<ts.length),ts[i].2.1<ts.length/\ts[i].2.2<ts.length)(hc:∀x∈cs,(x.1=80\/x.1=81)/\x.2<ts.length)
 {f:Nat->Nat}{hl:List Bool}(hlen:hl.length=cs.length)(hm:Ak f ts cs ps hl):hld ⟨(wrt f ts.length hl).toArray⟩ ts cs ps (Xp ⟨(wrt f ts.length hl).toArray⟩ ts.length)=(true,0):=by
 have hdl:(uo f ts.length).length=ts.length:=Di _ _;have hsz:(⟨(wrt f ts.length hl).toArray⟩:ByteArray).size=ts.length+1+cs.length:=by
  show(wrt f ts.length hl).toArray.size=_
  simp[wrt,bits,hdl,hlen]
  try omega
 have htk:(wrt f ts.length hl).take ts.length=uo f ts.length:=by
  unfold wrt;rw[ai7,List.take_append_of_le_length (by omega),ah2 (by omega)]
 have hhl:hlo ⟨(wrt f ts.length hl).toArray⟩ ts.length cs.length=hl:=by
  rw[PO _ _ _ hsz]
  show((wrt f ts.length hl).drop (ts.length+1)).map _=_
  unfold wrt;rw[List.drop_append,List.drop_eq_nil_of_le (by simp[hdl])];simp only[ae9,hdl,an9,Nat.sub_self,List.drop_zero,ad9];unfold bits;rw[List.map_map]
  conv=>rhs;rw[<-List.map_id hl]
  refine List.map_congr_left λb _=>?_;cases b<;>rfl
 have hkk:=WM f h7;have hm2:=hm.same ny ht hc hkk.symm;unfold hld
 show(if _/\wrt (fi ((wrt f ts.length hl).take ts.length)) ts.length _=wrt f ts.length hl then(UL (fi ((wrt f ts.length hl).take ts.length)) _ _ _ _ _,(0:Int))else _)=_
 rw[htk,hhl];have hw:wrt (fi (uo f ts.length)) ts.length hl=wrt f ts.length hl:=by
  unfold wrt;rw[QE hkk]
 rw[ae2 ⟨hsz,hw⟩];have hM:UL (fi (uo f ts.length)) ts cs ps (Xp ⟨(wrt f ts.length hl).toArray⟩ ts.length) hl=true:=by
  unfold UL;simp only[al0,ah4];refine⟨⟨hm2.Dp,hm2.Xr⟩,?_⟩;have hcl:∀i j,i<ts.length->j<ts.length->(fi ((wrt f ts.length hl).take ts.length) i=fi ((wrt f ts.length hl).take ts.length) j↔_):=QC ⟨(wrt f ts.length hl).toArray⟩ ts.length cs.length hsz;rw[htk]at hcl;rw[BF ny hcl];exact hm2.Xn
 rw[hM]
end
end Go.Proofs.YthcppbmkacbbiaaGreat
