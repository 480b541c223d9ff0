import Derived.Test.YthcppbmkacbbiabGreatWAL
import Derived.Stop.RegionWithIn
set_option linter.unusedSimpArgs false
set_option maxHeartbeats 2000000
set_option maxRecDepth 100000
namespace Go.Proofs.YthcppbmkacbbiabGreat
open Go.Proofs.Tryz
open aB (Key put)
section
open Go.RowKit Go.Maps Go.WideMaps
theorem MI(F:Fence)(n:Nat)(hf:F.fn 144)(hro:F.round=none)(hn:1<=n)(Bm BT:Nat)(ts:List Key)(w:World)(hnd:ts.Nodup)
 (hBm:w.cell? ⟨Bm,0,none⟩=some (.map (some BT)))(hM:aH w 76 BT aS ts)(hv:∀x∈ts,∃l,keyOf prog 76 (aS x)=some l) :
  ji F n prog 144 #[.pointer (some ⟨Bm,0,none⟩)] (λi:Fin ts.length=>#[aS ts[i]]) (λss=>ss.Perm (List.finRange ts.length)) ts.length KeepsWalks w:=by
 intro l J W hW hJ hY h0;have Xv:W.cell? ⟨Bm,0,none⟩=some (.map (some BT)):=(hW.cell (p:=⟨Bm,0,none⟩) (ad7 w _ hBm)).trans hBm;have hMW:aH W 76 BT aS ts:=hM.kept (hW.block BT hM.lt);obtain⟨D,hown,hsz,hall,hback⟩:=hMW;obtain⟨w2,hrg,rg,hg2,hs2⟩:=hown.range qO underlying64;have gB:=aj hall;have jD:=aj hback;have nZ:=aj hsz;have HM:=aj hM;have HS2:=aj hs2;clear hall hback hsz hM hs2;refine aj3 func144 rfl hf ?_ hro;simp only[ntmps144,ae2,ae1,ae8,Nat.reduceAdd,Nat.reduceSub,ae0,ad9,ae4,ag1,ae7,ae6]
 gi_wp2
 gi_loopw [3] (λ_ wr=>∃left cnt,∃ss:List (Fin ts.length),wr.ranges prog 76 (plainElem (H:=Unit) prog 3) BT W.heap.size ts.length D left cnt/\Hid (ss.length+cnt<=ts.length)/\Hid (Coll 76 aS ts left ss)/\J ss wr) (λ_ wr=>wr.rangeLeft BT W.heap.size)
 case atStart=>
  refine⟨_,_,[],rg,?_,?_,hJ [] W w2 none h0 hg2 (λr e=>by cases e)⟩
  ·have:=ah nZ
   show([]:List (Fin ts.length)).length+Maps.size D<=ts.length
   simp;omega
  ·refine Coll.start λi lt hk=>?_;rw[(ah gB _ _ hk).1];simp
 case round=>
  obtain⟨left,cnt,ss,rH,hlen,pO,hJs⟩:=hrel
  gi_wp2_with (gi_at_next;refine wpListIn_next_ranges _ rfl _ rfl 76 qO (plainElem (H:=Unit) prog 3) mkT (Value.int .i64) (λkey kl h=>PU h) (λv y h=>by obtain⟨a,e,_⟩:=ap6 underlying3 h;exact⟨a,e⟩) BT W.heap.size ts.length D left cnt rfl rH ?_ ?_)
  ·intro hc0 hl0;have hp:=(ah pO).perm hv hl0
   gi_wp2
   go_end0
   exact⟨⟨_,rfl⟩,ss,hp,hJs⟩
  ·intro x0 x1 x2 c kl y1 y2 w' cnt' hkey hlk hy hat Il hlt hgr hsz' hen;obtain⟨c',ec,ey,_⟩:=ap6 underlying3 hy;have ec':c=c':=(by simpa using ec);have ey':y1=.lit (.int .i64 c):=(by rw[ec'];exact ao1 Prod.fst ey);obtain⟨t,ht,et,hct⟩:=zu qO (ah gB) (ah jD) hkey (c:=c) (λzd=>by rw[hat zd,ey']);have hit:=ah9 ht;obtain⟨i,hi⟩:∃i:Fin ts.length,ts[i]=t:=⟨⟨ts.idxOf t,hit⟩,ai2 hit⟩;rw[et]at hen hkey ⊢;have HC2:=aj ((ah pO).step qO (λ_ _=>qF) hnd (i:=i) (by rw[hi];exact hkey) hlk);have hlen':Hid ((ss++[i]).length+cnt'<=ts.length):=by
    have:=ah hlen
    show(ss++[i]).length+cnt'<=ts.length
    simp;omega
   have hyk:=hY ss i;rw[hi]at hyk;have hlt2:ss.length<ts.length:=(by have:=ah hlen;omega);clear ec ec' ey ey' hy hat et hct hlk hit;obtain⟨tl,tf,tsd⟩:=t;simp only[aS]at hen hyk ⊢;obtain⟨fn,tmps,assign,body,hy,hR⟩:=hyk (w'.alloc (.cells #[.int .u8 tl,.int .i64 tf,.int .i64 tsd] 76)) (hJ ss w' _ none (hJ ss wr w' (some W.heap.size) hJs hgr (λr e=>by cases e;exact⟨ad5 _,rH.iter_walk⟩)) (ad4 _ _ _) (λr e=>by cases e)) hlt2;clear hyk hlt2;have HS:=aj hsz';clear hsz'
   gi_wp2
   refine hR.mono ?_;rintro e W3 ⟨rfl,hJ3,hk3⟩;have hrg3:=(Il.alloc (.cells #[.int .u8 tl,.int .i64 tf,.int .i64 tsd] 76)).of_walks hk3;clear hy hR
   gi_wp2
   go_roundw
   case rel=>exact⟨_,cnt',_,hrg3,hlen',HC2,hJ3⟩
   case measure=>rw[hrg3.left_eq,rH.left_eq];exact hlt
end
section
open Go.RowKit Go.Maps Go.WideMaps
attribute [local go_sem] Oper.semAt_some
def UM(ts:List Key)(ss:List (Fin ts.length)):List Value:=ss.flatMap λi=>iR ts[i]
theorem IZ(ts:List Key)(ss:List (Fin ts.length))(i:Fin ts.length):UM ts (ss++[i])=UM ts ss++iR ts[i]:=by simp[UM]
theorem Vb(F:Fence)(n:Nat)(hf:F.fn 179)(hro:F.round=none)(hn:2<=n)(ts:List Key)(hl:ts.length<=1000)(g:Nat)(lb:Array Value)(hFg:F.fn g)(eg:∀args w,(callFunc g args).run prog w=.ok (.enter g args) w)(w:World){Sp:List (Fin ts.length)->Prop}
 (hseq:ji F (n-1) prog g lb (λi:Fin ts.length=>#[aS ts[i]]) Sp ts.length KeepsWalks w) :
  CallsIn F n prog 179 #[.slice none 0 0,.func (.func g) #[] lb] w λe w'=>∃v ss,e=.returned v/\Sp ss/\w'.ownsRow w.heap.size 76 3 v ss.length (UM ts ss)/\(v=.slice none 0 0↔ss=[])/\Below w.heap.size w w':=by
 obtain⟨i0,hin,hz0,hz1,hz2⟩:=ak7 P9;refine ai6 func179 rfl hf ?_ hro;simp only[ntmps179,ae2,ae1,ae8,Nat.reduceAdd,Nat.reduceSub,ae0,ad9,ae4,ag1,ae7,ae6]
 gi_wp2
 obtain⟨w1,hw1⟩:∃w1,w.alloc (.cells #[.slice none 0 0] 42)=w1:=⟨_,rfl⟩;have hs1:w1.heap.size=w.heap.size+1:=by rw[<-hw1];simp
 have hc1:w1.cell? ⟨w.heap.size,0,none⟩=some (.slice none 0 0):=by rw[<-hw1];simp[go_sem]
 have hf1:w1.frozen? ⟨w.heap.size,0,none⟩=false:=by rw[<-hw1];simp[go_sem]
 have hb1:Below w.heap.size w w1:=by rw[<-hw1];exact(ag6 _ w).alloc (ad5 _) _
 rw[hw1];clear hw1;have hA0:AI w w.heap.size (w.heap.size+1) 76 3 true 0 (UM ts []) w1:=⟨⟨_,hc1,⟨rfl,.inl ⟨rfl,rfl⟩⟩,by simp⟩,hf1,hb1⟩;clear hc1 hf1;refine eP hro (by omega) rfl hFg eg hseq KeepsWalks.trans ?_ hb1 ?_ (λss W=>AI w w.heap.size (w.heap.size+1) 76 3 true ss.length (UM ts ss) W)
  (λss W W' row h hg hr=>h.keep hg (B:=w1.heap.size) (by omega) hr) hA0
  (λi a' W=>∃p,W.cell? ⟨p,0,none⟩=some (.int .u8 ts[i].1)/\W.cell? ⟨p,1,none⟩=some (.int .i64 ts[i].2.1)/\W.cell? ⟨p,2,none⟩=some (.int .i64 ts[i].2.2)/\
   a'={tmps:=#[.slice none 0 0,.func (.func g) #[] lb,.pointer (some ⟨w.heap.size,0,none⟩),undef,.slice none 0 0,.pointer (some ⟨p,0,none⟩),.func (.func g) #[] lb,aS ts[i],undef,undef,undef,undef,undef],defers:=[]}) ?own ?assign ?body ?done
 ·intro W l o o' hl ho hc hw;exact KeepsWalks.putObj _ ho hw
 ·intro x;rfl
 case own=>
  rintro i a' ⟨⟩ W W' row ⟨p,c0,c1,c2,e⟩ hg hr;have hr':∀r,row=some r->∃o:Obj,W.heap[r]?=some o/\o.isCells=false:=λr e=>(hr r e).2;exact⟨p,aZ c0 hg hr',aZ c1 hg hr',aZ c2 hg hr',e⟩
 case assign=>
  intro l pre i W K hI hK;simp only;generalize ts[i]=key at hK ⊢;obtain⟨tl,tf,tsd⟩:=key;simp only[aS]at hK ⊢
  gi_wp2
  refine hK _ _ ((ao3 _ _).from _) (KeepsWalks.alloc _ _) (hI.keep (ad4 _ _ none) (B:=w1.heap.size) (by omega) (λr e=>by cases e)) ⟨W.heap.size,?_,?_,?_,rfl⟩
  all_goals simp[go_sem]
 case body=>
  rintro l pre i a' W hpre hlw hI ⟨p,c0,c1,c2,rfl⟩;obtain⟨v,hx,hrow,hnil⟩:=hI.x;have hfx:=hI.fx;have hlX:w.heap.size<W.heap.size:=ad7 W _ hx;have hIa:=aj hI;have XZ:=aj hnil;clear hI hnil;have e1:=IZ ts pre i;generalize ts[i]=key at c0 c1 c2 e1;have E1:=aj e1;clear e1;obtain⟨tl,tf,tsd⟩:=key;simp only at c0 c1 c2
  gi_wp2_with (gi_at_builtin;refine ar4 _ rfl _ _ 42 rfl (w.heap.size+1) 76 i0 _ 3 24 underlying42 hin hz0 hz1 hz2 rfl (by decide) _ pre.length (UM ts pre) rfl (hrow.alloc _) ⟨W.heap.size,0,none⟩ 1 1 (iR (tl,tf,tsd)) rfl rfl (ET _ _ _ _ _) (Hy _) (by unfold maxLen;omega) (by omega) (by simp;omega) ?_;intro v' w3 hown' hg3 hnil3 hat;obtain⟨hX3,Nu⟩:=(ah hIa).after (by omega) hx hrow (ad4 _ _ none) hg3;obtain⟨g',cap',rfl⟩:=dL hown' (al7 _))
  have hcl:=(ah hIa).close (a:=⟨#[],[]⟩) (B:=w1.heap.size) (by omega) (ad5 _) (by omega) hx hrow (ad4 _ _ none) hown' hg3 hnil3 (by decide);rw[<-ah E1]at hcl;simpa[fP,hs1]using hcl
 case done=>
  intro D ss W hD hS hI hdef;obtain⟨v,hx,hrow,hnil⟩:=hI.x
  gi_wp2
  refine⟨by simp,.inl ⟨_,_,rfl,aj6 hdef,?_⟩⟩;have hI2:=hI.keep (ak4 W D (.deferred none)) (B:=w1.heap.size) (by omega) (λr e=>by cases e;exact⟨hD,_,hdef,rfl⟩);refine⟨_,am8 rfl _ _ _,v,rfl,ss,hS,?_,?_,hI2.below⟩
  ·exact fK (jm hrow (ak4 W D (.deferred none)) (λr e=>by cases e;exact⟨_,hdef,rfl⟩)) (Nat.le_succ _)
  ·rw[hnil];simp
end
section
open Go.RowKit Go.Maps Go.WideMaps
theorem AX(kl:Int)(kf ks:Nat)(v:Int)(w:World):Calls prog 53 #[.agg #[.int .u8 kl,.int .i64 kf,.int .i64 ks],.int .i64 v] w λe w'=>e=.returned (.int .i64 v)/\w'=w.alloc (.cells #[.int .u8 kl,.int .i64 kf,.int .i64 ks] 76):=by
 go_enter func53,ntmps53
 go_wp2_with fail
 go_ret
 exact⟨rfl,rfl⟩
theorem Rq(Rb Mb BT:Nat)(xl:Int)(xf xs:Nat)(yl:Int)(yf ys:Nat)(i j:Nat)(W:World)(hR:W.cell? ⟨Rb,0,none⟩=some (.func (.func 53) #[] #[]))(hMb:W.cell? ⟨Mb,0,none⟩=some (.map (some BT)))
 (hx:Hid (∀W',W.grownBy W' none->(Instr.lookup 64 (.map (some BT)) (.agg #[.int .u8 xl,.int .i64 xf,.int .i64 xs]) false).run prog W'=.ok (.int .i64 i) W'))(hy:Hid (∀W',W.grownBy W' none->(Instr.lookup 64 (.map (some BT)) (.agg #[.int .u8 yl,.int .i64 yf,.int .i64 ys]) false).run prog W'=.ok (.int .i64 j) W')) :
  Calls prog 101 #[.agg #[.int .u8 xl,.int .i64 xf,.int .i64 xs],.agg #[.int .u8 yl,.int .i64 yf,.int .i64 ys],.pointer (some ⟨Rb,0,none⟩),.pointer (some ⟨Mb,0,none⟩)] W λe w'=>e=.returned (.int .i64 (eH i j))/\∃q os',w'=Go.Sort.grow (W.drewN q) os':=by
 have HC:=aj (λw=>lq i j w);generalize eH i j=r at HC
 go_enter func101,ntmps101
 go_wp2_with fail
 obtain⟨W1,hW1⟩:∃W1,(W.alloc (.cells #[.int .u8 xl,.int .i64 xf,.int .i64 xs] 76)).alloc (.cells #[.int .u8 yl,.int .i64 yf,.int .i64 ys] 76)=W1:=⟨_,rfl⟩;have hg1:W.grownBy W1 none:=by rw[<-hW1];exact(ad4 _ _ none).trans (ad4 _ _ none)
 have kx0:W1.cell? ⟨W.heap.size,0,none⟩=some (.int .u8 xl):=by rw[<-hW1];simp[go_sem]
 have kx1:W1.cell? ⟨W.heap.size,1,none⟩=some (.int .i64 xf):=by rw[<-hW1];simp[go_sem]
 have kx2:W1.cell? ⟨W.heap.size,2,none⟩=some (.int .i64 xs):=by rw[<-hW1];simp[go_sem]
 have ky0:W1.cell? ⟨(W.heap.size+1),0,none⟩=some (.int .u8 yl):=by rw[<-hW1];simp[go_sem]
 have ky1:W1.cell? ⟨(W.heap.size+1),1,none⟩=some (.int .i64 yf):=by rw[<-hW1];simp[go_sem]
 have ky2:W1.cell? ⟨(W.heap.size+1),2,none⟩=some (.int .i64 ys):=by rw[<-hW1];simp[go_sem]
 have HW1:=aj hW1;rw[hW1];clear hW1;refine ah0 (S:=λW'=>W1.grownBy W' none) rfl ?_;have hS0:W1.grownBy W1.drew none:=⟨rfl,rfl,rfl,ad5 _,λ_ _ _=>rfl⟩;change wpAnyH prog .any _ _ _ 14 #[false,false,false,false,false,false,false,false,false,false,false,false,false,false] _ W1.drew;refine tH 0 (.func (.func 53) #[] #[]) (λw' hS=>?_) hS0 ?_
 ·have c0:=hS.cell (hg1.cell hR (by simp)) (by simp);go_simp
 simp only[aC];refine tH 1 (.agg #[.int .u8 xl,.int .i64 xf,.int .i64 xs]) (λw' hS=>?_) hS0 ?_
 ·have c0:=hS.cell kx0 (by simp);have c1:=hS.cell kx1 (by simp);have c2:=hS.cell kx2 (by simp)
  go_simp
 simp only[aC];refine tH 2 (.map (some BT)) (λw' hS=>?_) hS0 ?_
 ·have c0:=hS.cell (hg1.cell hMb (by simp)) (by simp);go_simp
 simp only[aC];refine tH 3 (.agg #[.int .u8 xl,.int .i64 xf,.int .i64 xs]) (λw' hS=>?_) hS0 ?_
 ·have c0:=hS.cell kx0 (by simp);have c1:=hS.cell kx1 (by simp);have c2:=hS.cell kx2 (by simp)
  go_simp
 simp only[aC];refine tH 4 (.int .i64 i) (λw' hS=>?_) hS0 ?_
 ·have e1:=ah hx w' (hg1.trans hS);go_simp
 simp only[aC];refine tH 6 (.func (.func 53) #[] #[]) (λw' hS=>?_) hS0 ?_
 ·have c0:=hS.cell (hg1.cell hR (by simp)) (by simp);go_simp
 simp only[aC];refine tH 7 (.agg #[.int .u8 yl,.int .i64 yf,.int .i64 ys]) (λw' hS=>?_) hS0 ?_
 ·have c0:=hS.cell ky0 (by simp);have c1:=hS.cell ky1 (by simp);have c2:=hS.cell ky2 (by simp)
  go_simp
 simp only[aC];refine tH 8 (.map (some BT)) (λw' hS=>?_) hS0 ?_
 ·have c0:=hS.cell (hg1.cell hMb (by simp)) (by simp);go_simp
 simp only[aC];refine tH 9 (.agg #[.int .u8 yl,.int .i64 yf,.int .i64 ys]) (λw' hS=>?_) hS0 ?_
 ·have c0:=hS.cell ky0 (by simp);have c1:=hS.cell ky1 (by simp);have c2:=hS.cell ky2 (by simp)
  go_simp
 simp only[aC];refine tH 10 (.int .i64 j) (λw' hS=>?_) hS0 ?_
 ·have e1:=ah hy w' (hg1.trans hS);go_simp
 simp only[aC];refine oH 5 (λK hK=>?_);go_simp;refine(AX xl xf xs i _).mono ?_;rintro e w2 ⟨rfl,rfl⟩;have hS1:=hS0.trans (ad4 W1.drew (.cells #[.int .u8 xl,.int .i64 xf,.int .i64 xs] 76) none);refine hK.out _ _ hS1 ?_;clear hK K;refine oH 11 (λK hK=>?_);go_simp;refine(AX yl yf ys j _).mono ?_;rintro e w2 ⟨rfl,rfl⟩;have hS2:=hS1.trans (ad4 (W1.drew.alloc (.cells #[.int .u8 xl,.int .i64 xf,.int .i64 xs] 76)) (.cells #[.int .u8 yl,.int .i64 yf,.int .i64 ys] 76) none);refine hK.out _ _ hS2 ?_;clear hK K;refine oH 12 (λK hK=>?_);go_simp;refine((ah HC) _).mono ?_;rintro e w2 ⟨rfl,rfl⟩;refine hK.out _ _ hS2 ?_;clear hK K;refine oH 13 (λK hK=>?_);go_simp;refine hK.out _ _ hS2 (ag5 (by kernel_rfl) ?_ _);clear hK K
 go_wp2_with fail
 go_ret
 refine⟨rfl,1,#[.cells #[.int .u8 xl,.int .i64 xf,.int .i64 xs] 76,.cells #[.int .u8 yl,.int .i64 yf,.int .i64 ys] 76,.cells #[.int .u8 xl,.int .i64 xf,.int .i64 xs] 76,.cells #[.int .u8 yl,.int .i64 yf,.int .i64 ys] 76],?_⟩;rw[<-ah HW1];exact IV _ _ _ _ _
end
section
open Go.RowKit Go.Maps Go.WideMaps Go.Sort
theorem qI(x:Key):(iR x).length=3:=rfl
theorem aah(ts:List Key)(hnd:ts.Nodup)(hv:∀x∈ts,∃l,keyOf prog 76 (aS x)=some l)(Rb Mb BT:Nat)(W:World)(hR:W.cell? ⟨Rb,0,none⟩=some (.func (.func 53) #[] #[]))(hMb:W.cell? ⟨Mb,0,none⟩=some (.map (some BT)))
 (hM:aH W 76 BT aS ts)(i j:Fin ts.length) :
  Calls prog 101 (#[.agg (iR ts[i]).toArray,.agg (iR ts[j]).toArray]++#[.pointer (some ⟨Rb,0,none⟩),.pointer (some ⟨Mb,0,none⟩)]) W λe w'=>e=.returned (.int .i64 (eH i.val j.val))/\∃q os',w'=grow (W.drewN q) os':=by
 have ix:∀i:Fin ts.length,ts.idxOf ts[i]=i.val:=λi=>hnd.idxOf_getElem i.val i.isLt;have lk:∀i:Fin ts.length,Hid (∀W',W.grownBy W' none->(Instr.lookup 64 (.map (some BT)) (aS ts[i]) false).run prog W'=.ok (.int .i64 (i.val:Nat)) W'):=λi=>by
  obtain⟨l,hl⟩:=hv ts[i] (ad8 i.isLt);have h:=hM.looks qO underlying64 (x:=ts[i]) (ad8 i.isLt) hl;rw[ix i]at h;exact h
 have h1:=lk i;have h2:=lk j;generalize ts[i]=x at h1 ⊢;generalize ts[j]=y at h2 ⊢;exact Rq Rb Mb BT x.1 x.2.1 x.2.2 y.1 y.2.1 y.2.2 i.val j.val W hR hMb h1 h2
theorem KU(ts:List Key)(hnd:ts.Nodup)(hl:ts.length<=1000)(hv:∀x∈ts,∃l,keyOf prog 76 (aS x)=some l)(ss:List (Fin ts.length))(hp:ss.Perm (List.finRange ts.length))(hne:0<ts.length)(Rb Mb BT g cap e:Nat)(cur:Array Value)(w:World)
 (hb:w.heap[g]?=some (.cells cur e (0,0)))(ht:cur.toList.take (ss.length*3)=UM ts ss)(hR:w.cell? ⟨Rb,0,none⟩=some (.func (.func 53) #[] #[]))(hMb:w.cell? ⟨Mb,0,none⟩=some (.map (some BT)))(hM:aH w 76 BT aS ts)(n1:Rb≠g)(n2:Mb≠g)(n3:BT≠g) :
  Calls prog 143 #[.slice (some ⟨g,0,none⟩) ss.length cap,.func (.func 101) #[] #[.pointer (some ⟨Rb,0,none⟩),.pointer (some ⟨Mb,0,none⟩)]] w λe w'=>
   e=.returned (.tuple #[])/\w.grownBy w' (some g)/\∀(i:Nat) (hi:i<ts.length) (c:Nat),c<3->w'.cell? ⟨g,i*3+c,none⟩=(iR ts[i])[c]?:=by
 haveI:Inhabited (Fin ts.length):=⟨⟨0,hne⟩⟩
 have hlen:ss.length=ts.length:=by rw[hp.length_eq,am6]
 have hlt:=(ad3.1 hb).1;have hH:HoldsK (λi:Fin ts.length=>iR ts[i]) 3 w g 0 ss.toArray:=vg (k:=3) (λ_=>rfl) (by decide) hb ht;have hc:CmpLays prog 101 #[.pointer (some ⟨Rb,0,none⟩),.pointer (some ⟨Mb,0,none⟩)] (λi:Fin ts.length=>iR ts[i]) 3 (λi j=>eH i.val j.val) g 0 ss.toArray.size w:=by
  intro m os dk _ x y;have hgr:=fF (λi:Fin ts.length=>iR ts[i]) 3 w g m dk os;exact aah ts hnd hv Rb Mb BT _ (hgr.cell hR (by simpa using n1)) (hgr.cell hMb (by simpa using n2)) (hM.kept (hgr.block BT hM.lt (by simpa using n3))) x y
 have h:=AnyQ.slices_SortFunc_total sortT 3 isAgg76 sizeOf76 (λi:Fin ts.length=>iR ts[i]) (λ_=>rfl) (λi=>Hy _) (λi j=>eH i.val j.val) (uH _) 101 _ g 0 cap ss.toArray w (ar6 func101 (by kernel_rfl) rfl) hc hH hlt (by simp;omega) uG;change Calls prog 143 _ _ _ at h;simp only[ae2]at h;refine h.mono ?_;rintro e2 w' ⟨rfl,m,os,rfl⟩;refine⟨rfl,fF _ _ _ _ _ _ _,λi hi c hc2=>?_⟩;have e0:(List.mergeSort ss.toArray.toList λx y=>!(ltOf λi j:Fin ts.length=>eH i.val j.val) y x)=List.finRange ts.length:=sK hp;rw[e0];have hH2:=holdsK_sortWorldK_c (λi:Fin ts.length=>iR ts[i]) 3 w g 0 ss.toArray (List.finRange ts.length).toArray m os hH hlt (by simp[hlen]);have h2:=(hH2.cell (i:=i) (c:=c) (by simpa using hi) hc2).1;rw[am5]at h2;rw[h2];rw[ao4 (List.finRange ts.length).toArray i (by simpa using hi)];simp only[List.getElem_toArray,List.getElem_finRange];rw[ao4 _ c (by rw[qI];exact hc2),ad6 (by rw[qI];exact hc2)];rfl
theorem DJ(n:Nat)(hn:3<=n)(ts:List Key)(hl:ts.length<=1000)(g:Nat)(lb:Array Value)(eg:∀args w,(callFunc g args).run prog w=.ok (.enter g args) w)(w:World){Sp:List (Fin ts.length)->Prop}
 (hseq:ji Fence.wide (n-1-1) prog g lb (λi:Fin ts.length=>#[aS ts[i]]) Sp ts.length KeepsWalks w) :
  CallsIn Fence.wide n prog 142 #[.func (.func g) #[] lb] w λe w'=>∃v ss,e=.returned v/\Sp ss/\w'.ownsRow w.heap.size 76 3 v ss.length (UM ts ss)/\(v=.slice none 0 0↔ss=[])/\Below w.heap.size w w':=by
 refine aj3 func142 rfl trivial ?_ rfl;simp only[ntmps142,ae2,ae1,ae8,Nat.reduceAdd,Nat.reduceSub,ae0,ad9,ae4,ag1,ae7,ae6]
 gi_wp2
 refine⟨trivial,λ_=>by omega,(Vb Fence.wide (n-1) trivial rfl (by omega) ts hl g lb trivial eg w hseq).mono ?_⟩;rintro e w' ⟨v,ss,rfl,h1,h2,h3,h4⟩
 gi_wp2
 go_ret
 exact⟨v,ss,rfl,h1,h2,h3,h4⟩
def XQ(w:World)(base:Nat)(ts:List Key)(v:Value):Prop:=
 (ts.length=0->v=.slice none 0 0)/\(0<ts.length->∃G cap,v=.slice (some ⟨G,0,none⟩) ts.length cap/\base<=G/\G<w.heap.size/\∀(i:Nat) (hi:i<ts.length) (c:Nat),c<3->w.cell? ⟨G,i*3+c,none⟩=(iR ts[i])[c]?)
theorem En(n:Nat)(hn:4<=n)(ts:List Key)(hnd:ts.Nodup)(hl:ts.length<=1000)(hv:∀x∈ts,∃l,keyOf prog 76 (aS x)=some l)(Kb Rb Mb BT:Nat)(w:World)
 (hK:w.cell? ⟨Kb,0,none⟩=some (.map (some BT)))(hR:w.cell? ⟨Rb,0,none⟩=some (.func (.func 53) #[] #[]))(hMb:w.cell? ⟨Mb,0,none⟩=some (.map (some BT)))(hM:aH w 76 BT aS ts) :
  CallsIn Fence.wide n prog 99 #[.func (.func 144) #[] #[.pointer (some ⟨Kb,0,none⟩)],.func (.func 101) #[] #[.pointer (some ⟨Rb,0,none⟩),.pointer (some ⟨Mb,0,none⟩)]] w λe w'=>
   ∃v,e=.returned v/\Below w.heap.size w w'/\XQ w' w.heap.size ts v:=by
 have hseq:=MI Fence.wide (n-1-1-1) trivial rfl (by omega) Kb BT ts w hnd hK hM hv;have Iw:=DJ (n-1) (by omega) ts hl 144 _ (ar6 func144 (by kernel_rfl) rfl) w hseq;clear hseq;refine aj3 func99 rfl trivial ?_ rfl;simp only[ntmps99,ae2,ae1,ae8,Nat.reduceAdd,Nat.reduceSub,ae0,ad9,ae4,ag1,ae7,ae6]
 gi_wp2
 refine⟨trivial,λ_=>by omega,Iw.mono ?_⟩;rintro e W ⟨v,ss,rfl,hS,hrow,hnil,hb⟩;have hlen:ss.length=ts.length:=by rw[hS.length_eq,am6]
 rcases hrow.2 with⟨rfl,hz⟩|⟨gb,cap,cur,rfl,hbase,hgb,r1,r2,r3,r4⟩
 ·gi_wp2
  refine⟨trivial,λ_=>by omega,(ag4.2 (AnyF.slices_SortFunc_none sortT none 0 _ W)).mono ?_⟩;rintro e w' ⟨rfl,rfl⟩
  gi_wp2
  go_ret
  exact⟨_,rfl,hb,λ_=>rfl,λh=>absurd h (by omega)⟩
 ·have hne:0<ts.length:=by
   rcases ak5 ts.length with h0|h0
   ·have:ss=[]:=ah4 (by omega);exact absurd (hnil.2 this) (by simp)
   ·exact h0
  have hcR:W.cell? ⟨Rb,0,none⟩=some (.func (.func 53) #[] #[]):=(hb.cell (p:=⟨Rb,0,none⟩) (ad7 w _ hR)).trans hR;have hcM:W.cell? ⟨Mb,0,none⟩=some (.map (some BT)):=(hb.cell (p:=⟨Mb,0,none⟩) (ad7 w _ hMb)).trans hMb;have n1:Rb≠gb:=by have h:Rb<w.heap.size:=ad7 w _ hR;omega
  have n2:Mb≠gb:=by have h:Mb<w.heap.size:=ad7 w _ hMb;omega
  have n3:BT≠gb:=by have h:=hM.lt;omega
  have hs:=KU ts hnd hl hv ss hS hne Rb Mb BT gb cap _ cur W hgb r4 hcR hcM (hM.kept (hb.block BT hM.lt)) n1 n2 n3;have HLEN:=aj hlen;clear hlen
  gi_wp2
  refine⟨trivial,λ_=>by omega,(ag4.2 hs).mono ?_⟩;rintro e w' ⟨rfl,hg,hc⟩
  gi_wp2
  go_ret
  have hlen:=ah HLEN;have hgl:=(ad3.1 hgb).1;refine⟨_,rfl,hb.grown hg hb.size (λk e=>by cases e;exact hbase),λh0=>absurd h0 (by omega),λ_=>⟨gb,cap,?_,hbase,af5 hgl hg.size,hc⟩⟩
  show Value.slice (some ⟨gb,0,none⟩) ss.length cap=_
  rw[hlen]
theorem MB(n:Nat)(BT:Nat)(w:World):CallsIn Fence.wide n prog 100 #[.map (some BT)] w λe w'=>
  e=.returned (.func (.func 144) #[] #[.pointer (some ⟨w.heap.size,0,none⟩)])/\w'=w.alloc (.cells #[.map (some BT)] 64):=by
 refine ag4.2 ?_
 go_enter func100,ntmps100
 go_wp2_with fail
 go_ret
 exact⟨rfl,rfl⟩
theorem Hr(BT:Nat)(w:World):Calls prog 52 #[.map (some BT),.func (.func 53) #[] #[]] w λe w'=>
  e=.returned (.func (.func 98) #[] #[.pointer (some ⟨w.heap.size,0,none⟩),.pointer (some ⟨w.heap.size+1,0,none⟩)])/\∃t,w'=(w.alloc (.cells #[.map (some BT)] 64)).alloc (.cells #[.func (.func 53) #[] #[]] t):=by
 go_enter func52,ntmps52
 go_wp2_with fail
 go_ret
 exact⟨rfl,_,rfl⟩
theorem MZ(n:Nat)(hn:5<=n)(Mb Rb BT m0:Nat)(ts:List Key)(w:World)(hm0:m0<=w.heap.size)(hl:ts.length<=1000)(hnd:ts.Nodup)
 (hMb:w.cell? ⟨Mb,0,none⟩=some (.map (some BT)))(hR:w.cell? ⟨Rb,0,none⟩=some (.func (.func 53) #[] #[]))(hM:aH w 76 BT aS ts)(hv:∀x∈ts,∃l,keyOf prog 76 (aS x)=some l) :
  vU Fence.wide n prog 98 #[.pointer (some ⟨Mb,0,none⟩),.pointer (some ⟨Rb,0,none⟩)] (List.ofFn λi:Fin ts.length=>#[aS ts[i],.int .i64 i.val]) (SA m0 Mb BT) w:=by
 intro l J W hW hJ hY h0;have rP:W.cell? ⟨Mb,0,none⟩=some (.map (some BT)):=(hW.cell (p:=⟨Mb,0,none⟩) (ad7 w _ hMb)).trans hMb;have hRW:W.cell? ⟨Rb,0,none⟩=some (.func (.func 53) #[] #[]):=(hW.cell (p:=⟨Rb,0,none⟩) (ad7 w _ hR)).trans hR;have hMW:aH W 76 BT aS ts:=hM.kept (hW.block BT hM.lt);have hsW:=hW.size;have Ip:Mb<W.heap.size:=ad7 W _ rP;have Zb:Rb<W.heap.size:=ad7 W _ hRW;have yU:=hMW.lt;have hso:=En (n-1) (by omega) ts hnd hl hv W.heap.size Rb Mb BT (W.alloc (.cells #[.map (some BT)] 64)) (by simp[go_sem]) ((ad4 _ _ none).cell hRW (by simp)) ((ad4 _ _ none).cell rP (by simp)) (hMW.kept (ae3 _ _ _ yU));have HM:=aj hM;have HMW:=aj hMW;clear hM hMW;refine aj3 func98 rfl trivial ?_ rfl;simp only[ntmps98,ae2,ae1,ae8,Nat.reduceAdd,Nat.reduceSub,ae0,ad9,ae4,ag1,ae7,ae6]
 gi_wp2
 refine⟨trivial,λ_=>by omega,(MB (n-1) BT W).mono ?_⟩;rintro e w1 ⟨rfl,rfl⟩
 gi_wp2
 refine⟨trivial,λ_=>by omega,hso.mono ?_⟩;rintro e w2 ⟨v,rfl,hb2,hH⟩;have hb:Below W.heap.size W w2:=((ag6 _ W).alloc (ad5 _) _).trans (hb2.mono (by simp));have hJ2:J 0 w2:=hJ 0 W w2 none h0 ⟨hb.os,hb.tape,hb.output,hb.size,λk hk _=>hb.block k hk⟩ (λr e=>by cases e);have qQ:w2.heap[Mb]?=W.heap[Mb]?:=hb.block Mb Ip;have IQ:w2.heap[BT]?=W.heap[BT]?:=hb.block BT yU;clear hso hb2;rcases ak5 ts.length with hz|hpos
 ·rw[hH.1 hz];have HZ:=aj hz;clear hz hH
  gi_wp2
  gi_loopw [13] (λi wr=>i=.int .i64 0/\J 0 wr) (λ_ _=>0)
  case atStart=>exact⟨rfl,hJ2⟩
  case round=>
   obtain⟨rfl,hJr⟩:=hrel
   gi_wp2
   go_end0
   refine⟨⟨_,rfl⟩,?_⟩;have:(List.ofFn λi:Fin ts.length=>#[aS ts[i],.int .i64 i.val]).length=0:=(by simp[ah HZ]);rw[this];exact hJr
 ·obtain⟨G,cap,rfl,hG,hGl,hcs⟩:=hH.2 hpos;obtain⟨oG,hoG,hcG⟩:=aq6 (hcs 0 hpos 0 (by decide));have hG':W.heap.size<=G:=by simp at hG;omega
  have HCS:=aj hcs;clear hH hcs hG
  gi_wp2
  gi_loopw [13] (λi wr=>∃k:Nat,k<=ts.length/\i=.int .i64 k/\J k wr/\wr.heap[G]?=some oG/\wr.heap[Mb]?=W.heap[Mb]?/\wr.heap[BT]?=W.heap[BT]?) (λi _=>ts.length-(intOf i).toNat)
  case atStart=>exact⟨0,ah2 _,rfl,hJ2,hoG,qQ,IQ⟩
  case round=>
   obtain⟨k,hk,rfl,hJk,hXk,hMk,hBk⟩:=hrel;by_cases hlt:k<ts.length
   ·have kc:∀c,c<3->wr.cell? ⟨G,k*3+c,none⟩=(iR ts[k])[c]?:=λc hc=>by
     have h1:=ah HCS k hlt c hc;rw[<-h1];exact ae5 (hXk.trans hoG.symm)
    have hyk:=hY k (by simpa using hlt);rw[show(List.ofFn λi:Fin ts.length=>#[aS ts[i],.int .i64 i.val])[k]'(by simpa using hlt)=#[aS ts[k],.int .i64 k] by simp]at hyk;obtain⟨lt,hlt'⟩:=hv ts[k] (ad8 hlt);have hMr:aH wr 76 BT aS ts:=(ah HMW).kept hBk;have hlk:=hMr.looks qO underlying64 (x:=ts[k]) (ad8 hlt) hlt';rw[hnd.idxOf_getElem k hlt]at hlk;have Ny:wr.cell? ⟨Mb,0,none⟩=some (.map (some BT)):=(ae5 hMk).trans rP;have FT:Mb<wr.heap.size:=ad7 wr _ Ny;simp only[aS,iR]at hyk hlk kc;generalize ts[k]=t at kc hyk hlk;obtain⟨tl,tf,tsd⟩:=t;simp only at kc hyk hlk;have hbd:(k:Int)<(ts.length:Int):=(by omega);obtain⟨fn,tmps,assign,body,hy,hR⟩:=hyk (wr.alloc (.cells #[.int .u8 tl,.int .i64 tf,.int .i64 tsd] 76)).drew (hJ k wr _ none hJk ⟨rfl,rfl,rfl,by simp,λj hj _=>ae3 _ _ _ hj⟩ (λr e=>by cases e));have hlk2:=hlk (wr.alloc (.cells #[.int .u8 tl,.int .i64 tf,.int .i64 tsd] 76)).drew ⟨rfl,rfl,rfl,by simp,λj hj _=>ae3 _ _ _ hj⟩;clear hyk hlk;have k0:wr.cell? ⟨G,k*3,none⟩=some (.int .u8 tl):=kc 0 (by decide);have k1:wr.cell? ⟨G,k*3+1,none⟩=some (.int .i64 tf):=kc 1 (by decide);have k2:wr.cell? ⟨G,k*3+2,none⟩=some (.int .i64 tsd):=kc 2 (by decide);clear kc
    gi_wp2
    gi_region_with (refine⟨λ_=>by omega,hR.mono ?_⟩;rintro e W3 ⟨rfl,hJ3,hk3⟩)
    all_goals
     have hX3:W3.heap[G]?=some oG:=hk3.1 G oG (by omega) ((ae3 _ _ _ (ad3.1 hXk).1).trans hXk) hcG;have hM3:W3.heap[Mb]?=W.heap[Mb]?:=hk3.2.1.trans ((ae3 _ _ _ FT).trans hMk);have hB3:W3.heap[BT]?=W.heap[BT]?:=hk3.2.2.trans ((ae3 _ _ _ hMr.lt).trans hBk);clear hk3 hR hy
     gi_wp2
     go_roundw
     case rel=>exact⟨k+1,by omega,by go_num,hJ3,hX3,hM3,hB3⟩
     case measure=>simp[intOf];omega
   ·have hkk:k=ts.length:=(by omega);have HKK:=aj hkk;clear hkk;have hbd:¬(k:Int)<(ts.length:Int):=by omega
    gi_wp2
    go_end0
    refine⟨⟨_,rfl⟩,?_⟩;rw[<-ah HKK];exact hJk
end
open Go.RowKit Go.Maps Go.WideMaps
attribute [local go_sem] Oper.semAt_some
theorem L9(BT:Nat)(ts:List Key)(w:World)(hl:ts.length<=1000)(hnd:ts.Nodup)(hM:aH w 76 BT aS ts)(hv:∀x∈ts,∃l,keyOf prog 76 (aS x)=some l) :
  Calls prog 26 #[.map (some BT)] w λe w'=>∃G,e=.returned (.slice (some ⟨G,0,none⟩) ts.length ts.length)/\w.heap.size<=G/\Below w.heap.size w w'/\
   w'.ownsRow w.heap.size 76 3 (.slice (some ⟨G,0,none⟩) ts.length ts.length) ts.length (ts.flatMap iR):=by
 refine(ag4 (n:=7)).1 ?_;obtain⟨D,hown,hsz,hall,hback⟩:=id hM;obtain⟨i0,hin,hz0,hz1,hz2⟩:=ak7 P9;have hlen:=λty=>hown.len underlying65 ty;obtain⟨w1,hmk,hrow,hg1⟩:=as3 (P:=prog) w w.heap.size 42 76 i0 _ 3 underlying42 hin hz0 hz1 .i64 .i64 (Maps.size D) (by rw[hz2,hsz];omega) (by rw[hsz];unfold maxLen;omega) (ad5 _);have nZ:=aj hsz;have HM:=aj hM;clear hall hback hsz hM;refine ai6 func26 rfl trivial ?_ rfl;simp only[ntmps26,ae2,ae1,ae8,Nat.reduceAdd,Nat.reduceSub,ae0,ad9,ae4,ag1,ae7,ae6]
 gi_wp2
 refine⟨trivial,(ag4.2 (Hr BT _)).mono ?_⟩;rintro e w2 ⟨rfl,tt,rfl⟩
 gi_wp2
 have hn:=ah nZ;obtain⟨w2,hw2⟩:∃w2,((w1.alloc (.cells #[.slice (some ⟨w.heap.size,0,none⟩) 0 (Maps.size D)] 42)).alloc (.cells #[.map (some BT)] 64)).alloc (.cells #[.func (.func 53) #[] #[]] tt)=w2:=⟨_,rfl⟩;have hlt0:w.heap.size<w1.heap.size:=(hrow.lt w.heap.size rfl).2;have hs2:w2.heap.size=w1.heap.size+3:=by rw[<-hw2];simp
 have hx2:w2.cell? ⟨w1.heap.size,0,none⟩=some (.slice (some ⟨w.heap.size,0,none⟩) 0 (Maps.size D)):=by rw[<-hw2];simp[go_sem]
 have FU:w2.frozen? ⟨w1.heap.size,0,none⟩=false:=by rw[<-hw2];simp[go_sem]
 have qQ:w2.cell? ⟨w1.heap.size+1,0,none⟩=some (.map (some BT)):=by rw[<-hw2];simp[go_sem]
 have hR2:w2.cell? ⟨w1.heap.size+1+1,0,none⟩=some (.func (.func 53) #[] #[]):=by rw[<-hw2];simp[go_sem]
 have hg2:w.grownBy w2 none:=by rw[<-hw2];exact((hg1.trans (ad4 _ _ none)).trans (ad4 _ _ none)).trans (ad4 _ _ none)
 have hM2:aH w2 76 BT aS ts:=(ah HM).kept (hg2.block BT (ah HM).lt (by simp));have hrow2:w2.ownsRow w.heap.size 76 3 (.slice (some ⟨w.heap.size,0,none⟩) 0 (Maps.size D)) 0 []:=by
  rw[<-hw2];exact((hrow.alloc _).alloc _).alloc _
 have hb2:Below w.heap.size w w2:=⟨hg2.os,hg2.tape,hg2.output,hg2.size,λj hj=>hg2.block j hj (by simp)⟩;have hBT:BT<w.heap.size:=(ah HM).lt;have hseq:=MZ 6 (by omega) (w1.heap.size+1) (w1.heap.size+1+1) BT w2.heap.size ts w2 (ad5 _) hl hnd qQ hR2 hM2 hv;rw[hw2];clear hw2 hmk hlen hrow hg1 hown hg2;rw[hn]at hx2 hrow2 ⊢;clear hn;have hLI:LI w w1.heap.size w.heap.size ts.length 76 3 w2.heap.size (ts.flatMap iR) 0 w2:=⟨hx2,FU,by rw[aq7,ao2];exact hrow2,hb2,ad5 _⟩;clear hx2 FU hrow2 hb2 nZ qQ hR2 hM2;refine bK rfl (by omega) rfl trivial (λ_ _=>by simp[go_sem]) hseq SA.trans ?_ (ag6 _ _) ?_ (LI w w1.heap.size w.heap.size ts.length 76 3 w2.heap.size (ts.flatMap iR)) (LI.own _ (by omega)) hLI
  (λk a' W=>∃(hk:k<ts.length) (p:Nat),p≠w1.heap.size/\p≠w.heap.size/\W.cell? ⟨p,0,none⟩=some (.int .u8 ts[k].1)/\W.cell? ⟨p,1,none⟩=some (.int .i64 ts[k].2.1)/\W.cell? ⟨p,2,none⟩=some (.int .i64 ts[k].2.2)/\
   a'={tmps:=#[.map (some BT),undef,.slice none 0 0,.pointer (some ⟨w1.heap.size,0,none⟩),.pointer (some ⟨p,0,none⟩),.map (some BT),.int .i64 ts.length,.slice (some ⟨w.heap.size,0,none⟩) 0 ts.length,.map (some BT),
     .func (.func 98) #[] #[.pointer (some ⟨w1.heap.size+1,0,none⟩),.pointer (some ⟨w1.heap.size+1+1,0,none⟩)],aS ts[k],.int .i64 k,undef,undef,undef,undef,undef],defers:=[]}) ?own ?assign ?body ?done
 ·intro W l o o' hl ho hc _;refine⟨λj x hj hx hxc=>(af0 (λe=>?_)).trans hx,af0 (by omega),af0 (by omega)⟩;subst e;rw[ho]at hx;cases hx;rw[hc]at hxc;cases hxc
 ·intro k hk;simp
 case own=>
  rintro k a' ⟨⟩ W W' row ⟨hk,p,hp1,hp2,c0,c1,c2,e⟩ hg hr;have hr':∀r,row=some r->∃o:Obj,W.heap[r]?=some o/\o.isCells=false:=λr e=>(hr r e).2;exact⟨hk,p,hp1,hp2,aZ c0 hg hr',aZ c1 hg hr',aZ c2 hg hr',e⟩
 case assign=>
  intro l k hk W K hI hK;have hk':k<ts.length:=by simpa using hk
  have e1:(List.ofFn λi:Fin ts.length=>#[aS ts[i],.int .i64 i.val])[k]'hk=#[aS ts[k],.int .i64 k]:=by simp
  rw[e1];have hlt:=hI.lt;have hK2:=λa' W' h1 h2 h3 h4=>hK a' W' h1 h2 h3 ⟨hk',h4⟩;clear hK;generalize ts[k]=key at hK2 ⊢;obtain⟨tl,tf,tsd⟩:=key;simp only[aS]at hK2 ⊢
  gi_wp2
  refine hK2 _ _ ((ao3 _ _).from _) ⟨λj o hj ho hc=>(ae3 _ _ _ (ad3.1 ho).1).trans ho,ae3 _ _ _ (by have:=hI.sz;omega),ae3 _ _ _ (by have:=hI.sz;omega)⟩ ((LI.own w2.heap.size (by omega)).alloc _ hI) ⟨W.heap.size,by omega,by omega,?_,?_,?_,rfl⟩
  all_goals simp[go_sem]
 case body=>
  rintro l k a' W hk hl hI ⟨hk',p,hp1,hp2,c0,c1,c2,rfl⟩;have hix:=hI.x;have Qm:=hI.fx;have hlX:=hI.lt.1;have hlG:=hI.lt.2;have hrow:=hI.row;have hsz:=hI.sz;have HI:=aj hI;clear hI hLI hseq;have htk:=jT qI ts k hk';generalize ts[k]=key at c0 c1 c2 htk;have eG:=aj htk;clear htk;obtain⟨tl,tf,tsd⟩:=key;simp only at c0 c1 c2;have hXG:w1.heap.size≠w.heap.size:=by omega
  gi_wp2_with (gi_at_builtin;refine wpListIn_append_fits _ rfl _ _ 42 rfl w.heap.size 76 i0 3 underlying42 hin hz1 w.heap.size k ts.length _ rfl (hrow.alloc _) ⟨W.heap.size,0,none⟩ 1 1 (iR (tl,tf,tsd)) rfl rfl (ET _ _ _ _ _) (Hy _) (by omega) ?_;intro w3 r1 r2;have hX3:w3.cell? ⟨w1.heap.size,0,none⟩=some (.slice (some ⟨w.heap.size,0,none⟩) k ts.length):=r2.cell ((ad4 _ _ none).cell hix (by simp)) (by simpa using hXG);have Nu:w3.frozen? ⟨w1.heap.size,0,none⟩=false:=(ai1 (r2.block w1.heap.size (by simp;omega) (by simpa using hXG))).trans ((ai1 (ae3 _ _ _ hlX)).trans Qm))
  have hcl:=(ah HI).close (a:=⟨#[],[]⟩) (B:=w2.heap.size) (Mb:=w1.heap.size+1) (BT:=BT) (by omega) (by omega) (by omega) (ad5 _) hXG (by omega) (by omega) (by omega) (by omega) (by omega) (by omega) (ad4 _ _ none) (ah eG) r1 r2;simpa[fP]using hcl
 case done=>
  intro D W hD hI hdef;have hx:=hI.x;rw[ar1]at hx
  gi_wp2
  refine⟨by simp,.inl ⟨_,_,rfl,aj6 hdef,?_⟩⟩;refine⟨_,am8 rfl _ _ _,?_⟩;have hI2:=(LI.own w2.heap.size (by omega)).putObj (.deferred none) hI hD hdef rfl;have hr:=hI2.row;rw[ar1]at hr;refine⟨w.heap.size,rfl,ad5 _,hI2.below,?_⟩
  ·rw[ah5 (by rw[mF qI];exact ad5 _)]at hr;exact hr
end Go.Proofs.YthcppbmkacbbiabGreat
