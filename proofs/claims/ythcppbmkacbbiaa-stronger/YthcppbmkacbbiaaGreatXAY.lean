import Derived.Test.YthcppbmkacbbiaaGreatXAW
set_option linter.unusedSimpArgs false
set_option maxHeartbeats 2000000
set_option maxRecDepth 100000
namespace Go.Proofs.YthcppbmkacbbiaaGreat
open Go.Proofs.Tryz
open Go.RowKit Go.Maps Go.WideMaps Go.Sort
open Sat (View Rule je bG)
def vg(R:Nat)(rk:Nat->Nat->Int):Prop:=
 ∀(W:World) (x:Nat) (bi:Bool) (bk:Nat) (p:Option Addr) (l c:Nat),bk<=1000->Calls prog R #[.int .i64 x,.agg #[.bool bi,.int .i64 bk,.slice p l c]] W λe w'=>e=.returned (.int .i64 (rk x bk))/\w'=W.alloc (.cells #[.bool bi,.int .i64 bk,.slice p l c] 229)
theorem Ez:vg 177 (λ_ k=>-(k:Int)):=by
 intro W x bi bk p l c hk
 go_enter func177,ntmps177
 go_wp2_with fail
 go_ret
 exact⟨rfl,rfl⟩
theorem Bo:vg 143 (λx _=>(x:Int)):=by
 intro W x bi bk p l c hk
 go_enter func143,ntmps143
 go_wp2_with fail
 go_ret
 exact⟨rfl,rfl⟩
def uo(τ:List Tr)(x:Nat):Nat:=match lZ τ x with
 |some q=>q.2
 |none=>0
theorem kP.lks{w:World}{m:Nat}{τ:List Tr}(h:kP w m τ)(x:Nat):∃(bi:Bool) (p:Option Addr) (l c:Nat),uh τ x=.agg #[.bool bi,.int .i64 (uo τ x),.slice p l c]:=by
 cases e:lZ τ x with
 |none=>exact⟨false,none,0,0,by simp[uh,e,uo]⟩
 |some q=>
  obtain⟨q,k⟩:=q;obtain⟨h1,hk,h2⟩:=dH e;obtain⟨p,l,c,h3⟩:=h.shape q (h2▸ab5 hk);exact⟨q.2.1,p,l,c,by simp[uh,e,og,h3,uo]⟩
theorem Ny{τ:List Tr}(x:Nat):uo τ x<=τ.length:=by
 unfold uo;cases e:lZ τ x with
 |none=>simp
 |some q=>
  obtain⟨q,k⟩:=q;have:=(dH e).2.1;simp;omega
theorem VW(W:World)(a b:Obj):((W.alloc a).alloc b).drew=Go.Sort.grow (W.drewN 1) #[a,b]:=by
 rw[am4,am4,Go.Sort.drew_grow,Go.Sort.drew_grow,Go.Sort.grow_grow];rfl
theorem Qw(R:Nat)(rk:Nat->Nat->Int)(hR0:vg R rk)(eg:∀args w,(callFunc R args).run prog w=.ok (.enter R args) w)(Rb Mb BT:Nat)(τ:List Tr)(hτ:τ.length<=1000)(x y:Nat)(hx:x<=1000)(hy:y<=1000)(W:World)(hR:W.cell? ⟨Rb,0,none⟩=some (.func (.func R) #[] #[]))(hMb:W.cell? ⟨Mb,0,none⟩=some (.map (some BT)))(hM:kP W BT τ) :
  Calls prog 184 #[.int .i64 x,.int .i64 y,.pointer (some ⟨Rb,0,none⟩),.pointer (some ⟨Mb,0,none⟩)] W λe w'=>e=.returned (.int .i64 (eu (rk x (uo τ x)) (rk y (uo τ y))))/\∃q os',w'=Go.Sort.grow (W.drewN q) os':=by
 have HC:=aj (λw=>kW (rk x (uo τ x)) (rk y (uo τ y)) w);generalize eu (rk x (uo τ x)) (rk y (uo τ y))=r at HC;obtain⟨xi,xp,xl,xc,ex⟩:=hM.lks x;obtain⟨yi,yp,yl,yc,ey⟩:=hM.lks y;have hlx:Hid (∀W',W.grownBy W' none->(Instr.lookup 159 (.map (some BT)) (.int .i64 x) false).run prog W'=.ok (.agg #[.bool xi,.int .i64 (uo τ x),.slice xp xl xc]) W'):=λW' hg=>by
  rw[<-ex];exact(hM.kept (hg.block BT hM.lt (by simp))).look1 hx
 have hly:Hid (∀W',W.grownBy W' none->(Instr.lookup 159 (.map (some BT)) (.int .i64 y) false).run prog W'=.ok (.agg #[.bool yi,.int .i64 (uo τ y),.slice yp yl yc]) W'):=λW' hg=>by
  rw[<-ey];exact(hM.kept (hg.block BT hM.lt (by simp))).look1 hy
 have hrx:Hid (∀W',Calls prog R #[.int .i64 x,.agg #[.bool xi,.int .i64 (uo τ x),.slice xp xl xc]] W' λe w'=>e=.returned (.int .i64 (rk x (uo τ x)))/\w'=W'.alloc (.cells #[.bool xi,.int .i64 (uo τ x),.slice xp xl xc] 229)):=λW'=>hR0 W' x xi _ xp xl xc (ad6 (Ny x) hτ);have hry:Hid (∀W',Calls prog R #[.int .i64 y,.agg #[.bool yi,.int .i64 (uo τ y),.slice yp yl yc]] W' λe w'=>e=.returned (.int .i64 (rk y (uo τ y)))/\w'=W'.alloc (.cells #[.bool yi,.int .i64 (uo τ y),.slice yp yl yc] 229)):=λW'=>hR0 W' y yi _ yp yl yc (ad6 (Ny y) hτ);clear hM ex ey hR0;generalize uo τ x=kx at HC hlx hrx;generalize uo τ y=ky at HC hly hry;generalize rk x kx=rx at HC hrx;generalize rk y ky=ry at HC hry
 go_enter func184,ntmps184
 go_wp2_with fail
 refine ae9 (S:=λW'=>W.grownBy W' none) rfl ?_;have hS0:W.grownBy W.drew none:=⟨rfl,rfl,rfl,ab3 _,λ_ _ _=>rfl⟩;change wpAnyH prog .any _ _ _ 14 #[false,false,false,false,false,false,false,false,false,false,false,false,false,false] _ W.drew;refine tH 0 (.func (.func R) #[] #[]) (λw' hS=>?_) hS0 ?_
 ·have c0:=hS.cell hR (by simp);go_simp
 simp only[aC];refine tH 1 (.int .i64 x) (λw' hS=>?_) hS0 ?_
 ·go_simp
 simp only[aC];refine tH 2 (.map (some BT)) (λw' hS=>?_) hS0 ?_
 ·have c0:=hS.cell hMb (by simp);go_simp
 simp only[aC];refine tH 3 (.int .i64 x) (λw' hS=>?_) hS0 ?_
 ·go_simp
 simp only[aC];refine tH 4 (.agg #[.bool xi,.int .i64 kx,.slice xp xl xc]) (λw' hS=>?_) hS0 ?_
 ·have e1:=ah hlx w' hS;go_simp
 simp only[aC];refine tH 6 (.func (.func R) #[] #[]) (λw' hS=>?_) hS0 ?_
 ·have c0:=hS.cell hR (by simp);go_simp
 simp only[aC];refine tH 7 (.int .i64 y) (λw' hS=>?_) hS0 ?_
 ·go_simp
 simp only[aC];refine tH 8 (.map (some BT)) (λw' hS=>?_) hS0 ?_
 ·have c0:=hS.cell hMb (by simp);go_simp
 simp only[aC];refine tH 9 (.int .i64 y) (λw' hS=>?_) hS0 ?_
 ·go_simp
 simp only[aC];refine tH 10 (.agg #[.bool yi,.int .i64 ky,.slice yp yl yc]) (λw' hS=>?_) hS0 ?_
 ·have e1:=ah hly w' hS;go_simp
 simp only[aC];refine oH 5 (λK hK=>?_);go_simp;refine(ah hrx _).mono ?_;rintro e w2 ⟨rfl,rfl⟩;have hS1:=hS0.trans (ab2 W.drew (.cells #[.bool xi,.int .i64 kx,.slice xp xl xc] 229) none);refine hK.out _ _ hS1 ?_;clear hK K;refine oH 11 (λK hK=>?_);go_simp;refine(ah hry _).mono ?_;rintro e w2 ⟨rfl,rfl⟩;have hS2:=hS1.trans (ab2 (W.drew.alloc (.cells #[.bool xi,.int .i64 kx,.slice xp xl xc] 229)) (.cells #[.bool yi,.int .i64 ky,.slice yp yl yc] 229) none);refine hK.out _ _ hS2 ?_;clear hK K;refine oH 12 (λK hK=>?_);go_simp;refine((ah HC) _).mono ?_;rintro e w2 ⟨rfl,rfl⟩;refine hK.out _ _ hS2 ?_;clear hK K;refine oH 13 (λK hK=>?_);go_simp;refine hK.out _ _ hS2 (ae4 (by kernel_rfl) ?_ _);clear hK K
 go_wp2_with fail
 go_ret
 refine⟨rfl,1,#[.cells #[.bool xi,.int .i64 kx,.slice xp xl xc] 229,.cells #[.bool yi,.int .i64 ky,.slice yp yl yc] 229],?_⟩;exact VW _ _ _
section
attribute [local go_sem] Oper.semAt_some
structure Wq(rk:Nat->Nat->Int)(τ:List Tr)(ys:List Nat):Prop where
 perm:ys.Perm (τ.map (·.1))
 lt:∀i j (hi:i<ys.length) (hj:j<ys.length),i<j->rk ys[i] (uo τ ys[i])<rk ys[j] (uo τ ys[j])
theorem Wq.cmp{rk:Nat->Nat->Int}{τ:List Tr}{ys:List Nat}(h:Wq rk τ ys)(i j:Fin ys.length):eu (rk ys[i] (uo τ ys[i])) (rk ys[j] (uo τ ys[j]))=eu i.val j.val:=by
 rcases Nat.lt_trichotomy i.val j.val with e|e|e
 ·have h1:=h.lt i.val j.val i.isLt j.isLt e;have h2:(i.val:Int)<j.val:=by omega
  unfold eu;rw[ad3 h2,ad3 (by exact h1)]
 ·have:i=j:=Fin.ext e;subst this;unfold eu;simp
 ·have h1:=h.lt j.val i.val j.isLt i.isLt e;have h2:¬(i.val:Int)<j.val:=by omega
  have h3:(j.val:Int)<i.val:=by omega
  unfold eu;rw[ac2 h2,ad3 h3,ac2 (by simp only[Fin.getElem_fin];omega),ad3 (by exact h1)]
def P8(ys:List Nat)(ss:List (Fin ys.length)):List Value:=ss.map λi=>kE ys[i]
theorem TV(F:Fence)(n:Nat)(hf:F.fn 231)(hro:F.round=none)(hn:2<=n)(ts:List Nat)(hl:ts.length<=1000)(g:Nat)(lb:Array Value)(hFg:F.fn g)(eg:∀args w,(callFunc g args).run prog w=.ok (.enter g args) w)(w:World){Sp:List (Fin ts.length)->Prop}
 (hseq:jd F (n-1) prog g lb (λi:Fin ts.length=>#[kE ts[i]]) Sp ts.length KeepsWalks w) :
  CallsIn F n prog 231 #[.slice none 0 0,.func (.func g) #[] lb] w λe w'=>∃v ss,e=.returned v/\Sp ss/\w'.ownsRow w.heap.size 3 1 v ss.length (P8 ts ss)/\(v=.slice none 0 0↔ss=[])/\Below w.heap.size w w':=by
 obtain⟨i0,hin,hz0,hz1,hz2⟩:=ai8 Um;refine ah0 func231 rfl hf ?_ hro;simp only[ntmps231,ac0,ab9,ac9,Nat.reduceAdd,Nat.reduceSub,ab8,ab7,ac3,ae1,ac6,ac5]
 gi_wp2
 obtain⟨w1,hw1⟩:∃w1,w.alloc (.cells #[.slice none 0 0] 58)=w1:=⟨_,rfl⟩;have hs1:w1.heap.size=w.heap.size+1:=by rw[<-hw1];simp
 have hc1:w1.cell? ⟨w.heap.size,0,none⟩=some (.slice none 0 0):=by rw[<-hw1];simp[go_sem]
 have hf1:w1.frozen? ⟨w.heap.size,0,none⟩=false:=by rw[<-hw1];simp[go_sem]
 have hb1:Below w.heap.size w w1:=by rw[<-hw1];exact(af0 _ w).alloc (ab3 _) _
 rw[hw1];clear hw1;have hA0:AI w w.heap.size (w.heap.size+1) 3 1 true 0 (P8 ts []) w1:=⟨⟨_,hc1,⟨rfl,.inl ⟨rfl,rfl⟩⟩,by simp⟩,hf1,hb1⟩;clear hc1 hf1;refine eG hro (by omega) rfl hFg eg hseq KeepsWalks.trans ?_ hb1 ?_ (λss W=>AI w w.heap.size (w.heap.size+1) 3 1 true ss.length (P8 ts ss) W)
  (λss W W' row h hg hr=>h.keep hg (B:=w1.heap.size) (by omega) hr) hA0
  (λi a' _=>a'={tmps:=#[.slice none 0 0,.func (.func g) #[] lb,.pointer (some ⟨w.heap.size,0,none⟩),undef,.slice none 0 0,kE ts[i],.func (.func g) #[] lb,kE ts[i],undef,undef,undef,undef,undef],defers:=[]}) ?own ?assign ?body ?done
 ·intro W l o o' hl ho hc hw;exact KeepsWalks.putObj _ ho hw
 ·intro x;rfl
 case own=>
  rintro i a' ⟨⟩ W W' row e hg hr;exact e
 case assign=>
  intro l pre i W K hI hK;simp only;generalize ts[i]=key at hK ⊢;simp only[kE]at hK ⊢
  gi_wp2
  exact hK _ _ ((ao5 _).from _) (KeepsWalks.refl _) hI rfl
 case body=>
  rintro l pre i a' W hpre hlw hI rfl;obtain⟨v,hx,hrow,hnil⟩:=hI.x;have hfx:=hI.fx;have hlX:w.heap.size<W.heap.size:=ab6 W _ hx;have hIa:=aj hI;have WI:=aj hnil;clear hI hnil;have e1:P8 ts (pre++[i])=P8 ts pre++[vI (ts[i]:Nat)]:=by simp[P8,kE,vI]
  generalize ts[i]=key at e1;have E1:=aj e1;clear e1;simp only[kE]
  gi_wp2_with (gi_at_builtin;refine wpListIn_append_own_at _ rfl _ _ 58 rfl (w.heap.size+1) 3 i0 _ 1 8 underlying58 hin hz0 hz1 hz2 rfl (by decide) _ pre.length (P8 ts pre) rfl (hrow.alloc _) ⟨W.heap.size,0,none⟩ 1 1 [vI (key:Nat)] rfl rfl (En _ _ _ _ rfl) (Xf _) (by unfold maxLen;omega) (by omega) (by simp;omega) ?_;intro v' w3 hown' hg3 hnil3 hat;obtain⟨hX3,LX⟩:=(ah hIa).after (by omega) hx hrow (ab2 _ _ none) hg3;obtain⟨g',cap',rfl⟩:=dL hown' (aj1 _))
  have hcl:=(ah hIa).close (a:=⟨#[],[]⟩) (B:=w1.heap.size) (by omega) (ab3 _) (by omega) hx hrow (ab2 _ _ none) hown' hg3 hnil3 (by decide);rw[<-ah E1]at hcl;simpa[iC,hs1]using hcl
 case done=>
  intro D ss W hD hS hI hdef;obtain⟨v,hx,hrow,hnil⟩:=hI.x
  gi_wp2
  refine⟨by simp,.inl ⟨_,_,rfl,ah8 hdef,?_⟩⟩;have hI2:=hI.keep (ai9 W D (.deferred none)) (B:=w1.heap.size) (by omega) (λr e=>by cases e;exact⟨hD,_,hdef,rfl⟩);refine⟨_,al7 rfl _ _ _,v,rfl,ss,hS,?_,?_,hI2.below⟩
  ·exact fH (jh hrow (ai9 W D (.deferred none)) (λr e=>by cases e;exact⟨_,hdef,rfl⟩)) (Nat.le_succ _)
  ·rw[hnil];simp
theorem Df(n:Nat)(hn:3<=n)(ts:List Nat)(hl:ts.length<=1000)(g:Nat)(lb:Array Value)(eg:∀args w,(callFunc g args).run prog w=.ok (.enter g args) w)(w:World){Sp:List (Fin ts.length)->Prop}
 (hseq:jd Fence.wide (n-1-1) prog g lb (λi:Fin ts.length=>#[kE ts[i]]) Sp ts.length KeepsWalks w) :
  CallsIn Fence.wide n prog 200 #[.func (.func g) #[] lb] w λe w'=>∃v ss,e=.returned v/\Sp ss/\w'.ownsRow w.heap.size 3 1 v ss.length (P8 ts ss)/\(v=.slice none 0 0↔ss=[])/\Below w.heap.size w w':=by
 refine ah7 func200 rfl trivial ?_ rfl;simp only[ntmps200,ac0,ab9,ac9,Nat.reduceAdd,Nat.reduceSub,ab8,ab7,ac3,ae1,ac6,ac5]
 gi_wp2
 refine⟨trivial,λ_=>by omega,(TV Fence.wide (n-1) trivial rfl (by omega) ts hl g lb trivial eg w hseq).mono ?_⟩;rintro e w' ⟨v,ss,rfl,h1,h2,h3,h4⟩
 gi_wp2
 go_ret
 exact⟨v,ss,rfl,h1,h2,h3,h4⟩
end
theorem qN{α:Type}[Inhabited α](f:α->Value)(w:World)(g n:Nat)(d:Array α)(os:Array Obj):w.grownBy (sortWorld f w g 0 n d os) (some g):=by
 refine⟨rfl,rfl,rfl,by simp[sortWorld],λj hj hne=>?_⟩;unfold sortWorld;rw[heap_grow_old _ _ (by simpa using hj)];have:g≠j:=λe=>hne (by rw[e]);simp[putRow,mapBlock,Sort.ahead,am5,this]
theorem DX{α:Type}[Inhabited α](f:α->Value){w:World}{g n e:Nat}{d:Array α}{os:Array Obj}{cur:Array Value}(hb:w.heap[g]?=some (.cells cur e (0,0))):∃cur',(sortWorld f w g 0 n d os).heap[g]?=some (.cells cur' e (0,0)):=by
 have hlt:=(ab1.1 hb).1;unfold sortWorld;rw[heap_grow_old _ _ (by simpa[putRow,mapBlock,Sort.ahead]using hlt)];simp[putRow,mapBlock,Sort.ahead,am5,hb];exact⟨_,rfl⟩
theorem JX(R:Nat)(rk:Nat->Nat->Int)(hR0:vg R rk)(eg:∀args w,(callFunc R args).run prog w=.ok (.enter R args) w)(τ:List Tr)(hτ:τ.length<=1000)(ts:List Nat)(hrk:Wq rk τ ts)(ss:List (Fin ts.length))(hp:ss.Perm (List.finRange ts.length))(hne:0<ts.length)(Rb Mb BT g cap e0:Nat)(cur:Array Value)(w:World)
 (hb:w.heap[g]?=some (.cells cur e0 (0,0)))(ht:cur.toList.take ss.length=P8 ts ss)(hR:w.cell? ⟨Rb,0,none⟩=some (.func (.func R) #[] #[]))(hMb:w.cell? ⟨Mb,0,none⟩=some (.map (some BT)))(hM:kP w BT τ)(n1:Rb≠g)(n2:Mb≠g)(n3:BT≠g) :
  Calls prog 201 #[.slice (some ⟨g,0,none⟩) ss.length cap,.func (.func 184) #[] #[.pointer (some ⟨Rb,0,none⟩),.pointer (some ⟨Mb,0,none⟩)]] w λe w'=>
   e=.returned (.tuple #[])/\w.grownBy w' (some g)/\(∃cur',w'.heap[g]?=some (.cells cur' e0 (0,0)))/\∀(i:Nat) (hi:i<ts.length),w'.cell? ⟨g,i,none⟩=some (kE ts[i]):=by
 haveI:Inhabited (Fin ts.length):=⟨⟨0,hne⟩⟩
 have hle:∀x∈ts,x<=1000:=λx hx=>by
  obtain⟨q,hq,rfl⟩:=ad9.1 (hrk.perm.mem_iff.1 hx);exact hM.le q hq
 have hlen:ss.length=ts.length:=by rw[hp.length_eq,ak3]
 have htl:ts.length<=1000:=by rw[hrk.perm.length_eq];simpa using hτ
 have hlt:=(ab1.1 hb).1;have hH:Sort.Holds (λi:Fin ts.length=>kE ts[i]) w g 0 ss.toArray:=by
  intro j hj;have hj':j<ss.length:=by simpa using hj
  refine⟨?_,by simp[World.frozen?,hb]⟩;have h1:(cur.toList.take ss.length)[j]?=(P8 ts ss)[j]?:=by rw[ht]
  rw[List.getElem?_take_of_lt hj']at h1;rw[ak2,cell_of hb,am0 _ j (by simpa using hj')];simpa[P8,hj']using h1
 have hc:CmpLays1 prog 184 #[.pointer (some ⟨Rb,0,none⟩),.pointer (some ⟨Mb,0,none⟩)] (λi:Fin ts.length=>kE ts[i]) (λi j=>eu i.val j.val) g 0 ss.toArray.size w:=by
  intro m os dk _ x y;have hgr:=qN (λi:Fin ts.length=>kE ts[i]) w g m dk os;have h:=Qw R rk hR0 eg Rb Mb BT τ hτ ts[x] ts[y] (hle _ (ab5 x.isLt)) (hle _ (ab5 y.isLt)) _ (hgr.cell hR (by simpa using n1)) (hgr.cell hMb (by simpa using n2)) (hM.kept (hgr.block BT hM.lt (by simpa using n3)));rw[hrk.cmp x y]at h;exact h
 have h:=Any.slices_SortFunc_total sortI (λi:Fin ts.length=>kE ts[i]) (λ_=>rfl) (λi j=>eu i.val j.val) (tV _) 184 _ g 0 cap ss.toArray w (ao4 func184 (by kernel_rfl) rfl) hc hH hlt (by simp;omega) tN;change Calls prog 201 _ _ _ at h;simp only[ac0]at h;refine h.mono ?_;rintro e2 w' ⟨rfl,m,os,rfl⟩;refine⟨rfl,qN _ _ _ _ _ _,DX _ hb,λi hi=>?_⟩;have e1:(List.mergeSort ss.toArray.toList λx y=>!(ltOf λi j:Fin ts.length=>eu i.val j.val) y x)=List.finRange ts.length:=rV hp;rw[e1];have hH2:=holds_sortWorld (λi:Fin ts.length=>kE ts[i]) w g 0 m ss.toArray (List.finRange ts.length).toArray os hlt hH (by simp[hlen]);have h2:=(hH2 i (by simpa using hi)).1;rw[ak2]at h2;rw[h2,am0 (List.finRange ts.length).toArray i (by simpa using hi)];simp
def Wx(w:World)(base:Nat)(ts:List Nat)(v:Value):Prop:=
 (ts.length=0->v=.slice none 0 0)/\(0<ts.length->∃G cap,v=.slice (some ⟨G,0,none⟩) ts.length cap/\base<=G/\(∃cur,w.heap[G]?=some (.cells cur 3 (0,0)))/\∀(i:Nat) (hi:i<ts.length),w.cell? ⟨G,i,none⟩=some (kE ts[i]))
theorem DV(R:Nat)(rk:Nat->Nat->Int)(hR0:vg R rk)(eg:∀args w,(callFunc R args).run prog w=.ok (.enter R args) w)(τ:List Tr)(hτ:τ.length<=1000)(n:Nat)(hn:4<=n)(ts:List Nat)(hrk:Wq rk τ ts)(Kb Rb Mb BT:Nat)(w:World)
 (hK:w.cell? ⟨Kb,0,none⟩=some (.map (some BT)))(hR:w.cell? ⟨Rb,0,none⟩=some (.func (.func R) #[] #[]))(hMb:w.cell? ⟨Mb,0,none⟩=some (.map (some BT)))(hM:kP w BT τ) :
  CallsIn Fence.wide n prog 182 #[.func (.func 202) #[] #[.pointer (some ⟨Kb,0,none⟩)],.func (.func 184) #[] #[.pointer (some ⟨Rb,0,none⟩),.pointer (some ⟨Mb,0,none⟩)]] w λe w'=>
   ∃v,e=.returned v/\Below w.heap.size w w'/\Wx w' w.heap.size ts v:=by
 have htl:ts.length<=1000:=by rw[hrk.perm.length_eq];simpa using hτ
 have hseq:=KZ Fence.wide (n-1-1-1) trivial rfl (by omega) Kb BT τ ts w hrk.perm hK hM;have G9:=Df (n-1) (by omega) ts htl 202 _ (ao4 func202 (by kernel_rfl) rfl) w hseq;clear hseq;refine ah7 func182 rfl trivial ?_ rfl;simp only[ntmps182,ac0,ab9,ac9,Nat.reduceAdd,Nat.reduceSub,ab8,ab7,ac3,ae1,ac6,ac5]
 gi_wp2
 refine⟨trivial,λ_=>by omega,G9.mono ?_⟩;rintro e W ⟨v,ss,rfl,hS,hrow,hnil,hb⟩;have hlen:ss.length=ts.length:=by rw[hS.length_eq,ak3]
 rcases hrow.2 with⟨rfl,hz⟩|⟨gb,cap,cur,rfl,hbase,hgb,r1,r2,r3,r4⟩
 ·gi_wp2
  refine⟨trivial,λ_=>by omega,(ae8.2 (AnyF.slices_SortFunc_none {sortI with} none 0 _ W)).mono ?_⟩;rintro e w' ⟨rfl,rfl⟩
  gi_wp2
  go_ret
  exact⟨_,rfl,hb,λ_=>rfl,λh=>absurd h (by omega)⟩
 ·have hne:0<ts.length:=by
   rcases aj3 ts.length with h0|h0
   ·have:ss=[]:=af7 (by omega);exact absurd (hnil.2 this) (by simp)
   ·exact h0
  have hcR:W.cell? ⟨Rb,0,none⟩=some (.func (.func R) #[] #[]):=(hb.cell (p:=⟨Rb,0,none⟩) (ab6 w _ hR)).trans hR;have hcM:W.cell? ⟨Mb,0,none⟩=some (.map (some BT)):=(hb.cell (p:=⟨Mb,0,none⟩) (ab6 w _ hMb)).trans hMb;have n1:Rb≠gb:=by have h:Rb<w.heap.size:=ab6 w _ hR;omega
  have n2:Mb≠gb:=by have h:Mb<w.heap.size:=ab6 w _ hMb;omega
  have n3:BT≠gb:=by have h:=hM.lt;omega
  have hs:=JX R rk hR0 eg τ hτ ts hrk ss hS hne Rb Mb BT gb cap _ cur W hgb (by rw[Nat.mul_one]at r4;exact r4) hcR hcM (hM.kept (hb.block BT hM.lt)) n1 n2 n3;have HLEN:=aj hlen;clear hlen eg
  gi_wp2
  refine⟨trivial,λ_=>by omega,(ae8.2 hs).mono ?_⟩;rintro e w' ⟨rfl,hg,hcu,hc⟩
  gi_wp2
  go_ret
  have hlen:=ah HLEN;refine⟨_,rfl,hb.grown hg hb.size (λk e=>by cases e;exact hbase),λh0=>absurd h0 (by omega),λ_=>⟨gb,cap,?_,hbase,hcu,hc⟩⟩
  show Value.slice (some ⟨gb,0,none⟩) ss.length cap=_
  rw[hlen]
theorem KU(n:Nat)(BT:Nat)(w:World):CallsIn Fence.wide n prog 183 #[.map (some BT)] w λe w'=>
  e=.returned (.func (.func 202) #[] #[.pointer (some ⟨w.heap.size,0,none⟩)])/\w'=w.alloc (.cells #[.map (some BT)] 159):=by
 refine ae8.2 ?_
 go_enter func183,ntmps183
 go_wp2_with fail
 go_ret
 exact⟨rfl,rfl⟩
theorem xR(R BT:Nat)(w:World):Calls prog 142 #[.map (some BT),.func (.func R) #[] #[]] w λe w'=>
  e=.returned (.func (.func 181) #[] #[.pointer (some ⟨w.heap.size,0,none⟩),.pointer (some ⟨w.heap.size+1,0,none⟩)])/\∃t,w'=(w.alloc (.cells #[.map (some BT)] 159)).alloc (.cells #[.func (.func R) #[] #[]] t):=by
 go_enter func142,ntmps142
 go_wp2_with fail
 go_ret
 exact⟨rfl,_,rfl⟩
def QS(m0 Mb BT:Nat)(W W':World):Prop:=(∀(k:Nat) (cur:Array Value) (x:Nat×Nat),m0<=k->W.heap[k]?=some (.cells cur 3 x)->W'.heap[k]?=some (.cells cur 3 x))/\W'.heap[Mb]?=W.heap[Mb]?/\W'.heap[BT]?=W.heap[BT]?
theorem QS.trans{m0 Mb BT:Nat}{A B C:World}(h:QS m0 Mb BT A B)(g:QS m0 Mb BT B C):QS m0 Mb BT A C:=⟨λk o x hk ho=>g.1 k o x hk (h.1 k o x hk ho),g.2.1.trans h.2.1,g.2.2.trans h.2.2⟩
theorem AL(R:Nat)(rk:Nat->Nat->Int)(hR0:vg R rk)(eg:∀args w,(callFunc R args).run prog w=.ok (.enter R args) w)(τ:List Tr)(hτ:τ.length<=1000)(n:Nat)(hn:5<=n)(Mb Rb BT m0:Nat)(ts:List Nat)(w:World)(hm0:m0<=w.heap.size)(hrk:Wq rk τ ts)
 (hMb:w.cell? ⟨Mb,0,none⟩=some (.map (some BT)))(hR:w.cell? ⟨Rb,0,none⟩=some (.func (.func R) #[] #[]))(hM:kP w BT τ) :
  uZ Fence.wide n prog 181 #[.pointer (some ⟨Mb,0,none⟩),.pointer (some ⟨Rb,0,none⟩)] (ts.map λx=>#[kE x,uh τ x]) (QS m0 Mb BT) w:=by
 have htl:ts.length<=1000:=by rw[hrk.perm.length_eq];simpa using hτ
 have hle:∀x∈ts,x<=1000:=λx hx=>by
  obtain⟨q,hq,rfl⟩:=ad9.1 (hrk.perm.mem_iff.1 hx);exact hM.le q hq
 intro l J W hW hJ hY h0;have rC:W.cell? ⟨Mb,0,none⟩=some (.map (some BT)):=(hW.cell (p:=⟨Mb,0,none⟩) (ab6 w _ hMb)).trans hMb;have hRW:W.cell? ⟨Rb,0,none⟩=some (.func (.func R) #[] #[]):=(hW.cell (p:=⟨Rb,0,none⟩) (ab6 w _ hR)).trans hR;have hMW:kP W BT τ:=hM.kept (hW.block BT hM.lt);have hsW:=hW.size;have GY:Mb<W.heap.size:=ab6 W _ rC;have yF:=hMW.lt;have hso:=DV R rk hR0 eg τ hτ (n-1) (by omega) ts hrk W.heap.size Rb Mb BT (W.alloc (.cells #[.map (some BT)] 159)) (by simp[go_sem]) ((ab2 _ _ none).cell hRW (by simp)) ((ab2 _ _ none).cell rC (by simp)) (hMW.kept (ac1 _ _ _ yF));have HM:=aj hM;have HMW:=aj hMW;clear hM hMW eg;refine ah7 func181 rfl trivial ?_ rfl;simp only[ntmps181,ac0,ab9,ac9,Nat.reduceAdd,Nat.reduceSub,ab8,ab7,ac3,ae1,ac6,ac5]
 gi_wp2
 refine⟨trivial,λ_=>by omega,(KU (n-1) BT W).mono ?_⟩;rintro e w1 ⟨rfl,rfl⟩
 gi_wp2
 refine⟨trivial,λ_=>by omega,hso.mono ?_⟩;rintro e w2 ⟨v,rfl,hb2,hH⟩;have hb:Below W.heap.size W w2:=((af0 _ W).alloc (ab3 _) _).trans (hb2.mono (by simp));have hJ2:J 0 w2:=hJ 0 W w2 none h0 ⟨hb.os,hb.tape,hb.output,hb.size,λk hk _=>hb.block k hk⟩ (λr e=>by cases e);have qK:w2.heap[Mb]?=W.heap[Mb]?:=hb.block Mb GY;have Hy:w2.heap[BT]?=W.heap[BT]?:=hb.block BT yF;clear hso hb2;rcases aj3 ts.length with hz|hpos
 ·rw[hH.1 hz];have HZ:=aj hz;clear hz hH
  gi_wp2
  gi_loopw [13] (λi wr=>i=.int .i64 0/\J 0 wr) (λ_ _=>0)
  case atStart=>exact⟨rfl,hJ2⟩
  case round=>
   obtain⟨rfl,hJr⟩:=hrel
   gi_wp2
   go_end0
   refine⟨⟨_,rfl⟩,?_⟩;rw[ai6,ah HZ];exact hJr
 ·obtain⟨G,cap,rfl,hG,⟨cur,hoG⟩,hcs⟩:=hH.2 hpos;have hG':W.heap.size<=G:=by simp at hG;omega
  have HCS:=aj hcs;clear hH hcs hG
  gi_wp2
  gi_loopw [13] (λi wr=>∃k:Nat,k<=ts.length/\i=.int .i64 k/\J k wr/\wr.heap[G]?=some (.cells cur 3 (0,0))/\wr.heap[Mb]?=W.heap[Mb]?/\wr.heap[BT]?=W.heap[BT]?) (λi _=>ts.length-(intOf i).toNat)
  case atStart=>exact⟨0,af4 _,rfl,hJ2,hoG,qK,Hy⟩
  case round=>
   obtain⟨k,hk,rfl,hJk,hXk,hMk,hBk⟩:=hrel;by_cases hlt:k<ts.length
   ·have kc:wr.cell? ⟨G,k,none⟩=some (.int .i64 ts[k]):=by
     have h1:=ah HCS k hlt;exact(ac8 (hXk.trans hoG.symm)).trans h1
    have hyk:=hY k (by simpa using hlt);rw[show(ts.map λx=>#[kE x,uh τ x])[k]'(by simpa using hlt)=#[kE ts[k],uh τ ts[k]] by simp]at hyk;have hMr:kP wr BT τ:=(ah HMW).kept hBk;have hlk:=hMr.look1 (hle ts[k] (ab5 hlt));have L9:wr.cell? ⟨Mb,0,none⟩=some (.map (some BT)):=(ac8 hMk).trans rC;simp only[kE]at hyk;generalize hlv:uh τ ts[k]=lv at hyk hlk;generalize ts[k]=t at kc hyk hlk hlv;have hbd:(k:Int)<(ts.length:Int):=(by omega);obtain⟨fn,tmps,assign,body,hy,hR⟩:=hyk wr hJk;clear hyk hlv
    gi_wp2
    refine⟨λ_=>by omega,hR.mono ?_⟩;rintro e W3 ⟨rfl,hJ3,hk3⟩;have hX3:W3.heap[G]?=some (.cells cur 3 (0,0)):=hk3.1 G cur _ (by omega) hXk;have hM3:W3.heap[Mb]?=W.heap[Mb]?:=hk3.2.1.trans hMk;have hB3:W3.heap[BT]?=W.heap[BT]?:=hk3.2.2.trans hBk;clear hk3 hR hy
    gi_wp2
    go_roundw
    case rel=>exact⟨k+1,by omega,by go_num,hJ3,hX3,hM3,hB3⟩
    case measure=>simp[intOf];omega
   ·have hkk:k=ts.length:=(by omega);have HKK:=aj hkk;clear hkk;have hbd:¬(k:Int)<(ts.length:Int):=by omega
    gi_wp2
    go_end0
    refine⟨⟨_,rfl⟩,?_⟩;rw[<-ah HKK];exact hJk
end Go.Proofs.YthcppbmkacbbiaaGreat
