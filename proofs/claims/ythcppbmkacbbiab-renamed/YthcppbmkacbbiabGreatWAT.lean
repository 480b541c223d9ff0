import Derived.Test.YthcppbmkacbbiabGreatWAS
set_option linter.unusedSimpArgs false
set_option maxHeartbeats 2000000
set_option maxRecDepth 100000
namespace Go.Proofs.YthcppbmkacbbiabGreat
open Go.Proofs.Tryz
open Go.RowKit Go.Maps Go.WideMaps Go.Sort
open Sat (View Rule jk bG)
def vW(R:Nat)(rk:Nat->Nat->Int):Prop:=
 ∀(W:World) (x:Nat) (bi:Bool) (bk:Nat) (p:Option Addr) (l c:Nat),bk<=1000->Calls prog R #[.int .i64 x,.agg #[.bool bi,.int .i64 bk,.slice p l c]] W λe w'=>e=.returned (.int .i64 (rk x bk))/\w'=W.alloc (.cells #[.bool bi,.int .i64 bk,.slice p l c] 215)
theorem E9:vW 157 (λ_ k=>-(k:Int)):=by
 intro W x bi bk p l c hk
 go_enter func157,ntmps157
 go_wp2_with fail
 go_ret
 exact⟨rfl,rfl⟩
theorem Cb:vW 122 (λx _=>(x:Int)):=by
 intro W x bi bk p l c hk
 go_enter func122,ntmps122
 go_wp2_with fail
 go_ret
 exact⟨rfl,rfl⟩
def uQ(τ:List Tr)(x:Nat):Nat:=match mD τ x with
 |some q=>q.2
 |none=>0
theorem kU.lks{w:World}{m:Nat}{τ:List Tr}(h:kU w m τ)(x:Nat):∃(bi:Bool) (p:Option Addr) (l c:Nat),uN τ x=.agg #[.bool bi,.int .i64 (uQ τ x),.slice p l c]:=by
 cases e:mD τ x with
 |none=>exact⟨false,none,0,0,by simp[uN,e,uQ]⟩
 |some q=>
  obtain⟨q,k⟩:=q;obtain⟨h1,hk,h2⟩:=dG e;obtain⟨p,l,c,h3⟩:=h.shape q (h2▸ad8 hk);exact⟨q.2.1,p,l,c,by simp[uN,e,oC,h3,uQ]⟩
theorem Ou{τ:List Tr}(x:Nat):uQ τ x<=τ.length:=by
 unfold uQ;cases e:mD τ x with
 |none=>simp
 |some q=>
  obtain⟨q,k⟩:=q;have:=(dG e).2.1;simp;omega
theorem Xz(W:World)(a b:Obj):((W.alloc a).alloc b).drew=Go.Sort.grow (W.drewN 1) #[a,b]:=by
 rw[ao9,ao9,Go.Sort.drew_grow,Go.Sort.drew_grow,Go.Sort.grow_grow];rfl
theorem Rw(R:Nat)(rk:Nat->Nat->Int)(hR0:vW R rk)(eg:∀args w,(callFunc R args).run prog w=.ok (.enter R args) w)(Rb Mb BT:Nat)(τ:List Tr)(hτ:τ.length<=1000)(x y:Nat)(hx:x<=1000)(hy:y<=1000)(W:World)(hR:W.cell? ⟨Rb,0,none⟩=some (.func (.func R) #[] #[]))(hMb:W.cell? ⟨Mb,0,none⟩=some (.map (some BT)))(hM:kU W BT τ) :
  Calls prog 163 #[.int .i64 x,.int .i64 y,.pointer (some ⟨Rb,0,none⟩),.pointer (some ⟨Mb,0,none⟩)] W λe w'=>e=.returned (.int .i64 (eH (rk x (uQ τ x)) (rk y (uQ τ y))))/\∃q os',w'=Go.Sort.grow (W.drewN q) os':=by
 have HC:=aj (λw=>lq (rk x (uQ τ x)) (rk y (uQ τ y)) w);generalize eH (rk x (uQ τ x)) (rk y (uQ τ y))=r at HC;obtain⟨xi,xp,xl,xc,ex⟩:=hM.lks x;obtain⟨yi,yp,yl,yc,ey⟩:=hM.lks y;have hlx:Hid (∀W',W.grownBy W' none->(Instr.lookup 128 (.map (some BT)) (.int .i64 x) false).run prog W'=.ok (.agg #[.bool xi,.int .i64 (uQ τ x),.slice xp xl xc]) W'):=λW' hg=>by
  rw[<-ex];exact(hM.kept (hg.block BT hM.lt (by simp))).look1 hx
 have hly:Hid (∀W',W.grownBy W' none->(Instr.lookup 128 (.map (some BT)) (.int .i64 y) false).run prog W'=.ok (.agg #[.bool yi,.int .i64 (uQ τ y),.slice yp yl yc]) W'):=λW' hg=>by
  rw[<-ey];exact(hM.kept (hg.block BT hM.lt (by simp))).look1 hy
 have hrx:Hid (∀W',Calls prog R #[.int .i64 x,.agg #[.bool xi,.int .i64 (uQ τ x),.slice xp xl xc]] W' λe w'=>e=.returned (.int .i64 (rk x (uQ τ x)))/\w'=W'.alloc (.cells #[.bool xi,.int .i64 (uQ τ x),.slice xp xl xc] 215)):=λW'=>hR0 W' x xi _ xp xl xc (af7 (Ou x) hτ);have hry:Hid (∀W',Calls prog R #[.int .i64 y,.agg #[.bool yi,.int .i64 (uQ τ y),.slice yp yl yc]] W' λe w'=>e=.returned (.int .i64 (rk y (uQ τ y)))/\w'=W'.alloc (.cells #[.bool yi,.int .i64 (uQ τ y),.slice yp yl yc] 215)):=λW'=>hR0 W' y yi _ yp yl yc (af7 (Ou y) hτ);clear hM ex ey hR0;generalize uQ τ x=kx at HC hlx hrx;generalize uQ τ y=ky at HC hly hry;generalize rk x kx=rx at HC hrx;generalize rk y ky=ry at HC hry
 go_enter func163,ntmps163
 go_wp2_with fail
 refine ah0 (S:=λW'=>W.grownBy W' none) rfl ?_;have hS0:W.grownBy W.drew none:=⟨rfl,rfl,rfl,ad5 _,λ_ _ _=>rfl⟩;change wpAnyH prog .any _ _ _ 14 #[false,false,false,false,false,false,false,false,false,false,false,false,false,false] _ W.drew;refine tH 0 (.func (.func R) #[] #[]) (λw' hS=>?_) hS0 ?_
 ·have c0:=hS.cell hR (by simp);go_simp
 simp only[aC];refine tH 1 (.int .i64 x) (λw' hS=>?_) hS0 ?_
 ·go_simp
 simp only[aC];refine tH 2 (.map (some BT)) (λw' hS=>?_) hS0 ?_
 ·have c0:=hS.cell hMb (by simp);go_simp
 simp only[aC];refine tH 3 (.int .i64 x) (λw' hS=>?_) hS0 ?_
 ·go_simp
 simp only[aC];refine tH 4 (.agg #[.bool xi,.int .i64 kx,.slice xp xl xc]) (λw' hS=>?_) hS0 ?_
 ·have e1:=ah hlx w' hS;go_simp
 simp only[aC];refine tH 6 (.func (.func R) #[] #[]) (λw' hS=>?_) hS0 ?_
 ·have c0:=hS.cell hR (by simp);go_simp
 simp only[aC];refine tH 7 (.int .i64 y) (λw' hS=>?_) hS0 ?_
 ·go_simp
 simp only[aC];refine tH 8 (.map (some BT)) (λw' hS=>?_) hS0 ?_
 ·have c0:=hS.cell hMb (by simp);go_simp
 simp only[aC];refine tH 9 (.int .i64 y) (λw' hS=>?_) hS0 ?_
 ·go_simp
 simp only[aC];refine tH 10 (.agg #[.bool yi,.int .i64 ky,.slice yp yl yc]) (λw' hS=>?_) hS0 ?_
 ·have e1:=ah hly w' hS;go_simp
 simp only[aC];refine oH 5 (λK hK=>?_);go_simp;refine(ah hrx _).mono ?_;rintro e w2 ⟨rfl,rfl⟩;have hS1:=hS0.trans (ad4 W.drew (.cells #[.bool xi,.int .i64 kx,.slice xp xl xc] 215) none);refine hK.out _ _ hS1 ?_;clear hK K;refine oH 11 (λK hK=>?_);go_simp;refine(ah hry _).mono ?_;rintro e w2 ⟨rfl,rfl⟩;have hS2:=hS1.trans (ad4 (W.drew.alloc (.cells #[.bool xi,.int .i64 kx,.slice xp xl xc] 215)) (.cells #[.bool yi,.int .i64 ky,.slice yp yl yc] 215) none);refine hK.out _ _ hS2 ?_;clear hK K;refine oH 12 (λK hK=>?_);go_simp;refine((ah HC) _).mono ?_;rintro e w2 ⟨rfl,rfl⟩;refine hK.out _ _ hS2 ?_;clear hK K;refine oH 13 (λK hK=>?_);go_simp;refine hK.out _ _ hS2 (ag5 (by kernel_rfl) ?_ _);clear hK K
 go_wp2_with fail
 go_ret
 refine⟨rfl,1,#[.cells #[.bool xi,.int .i64 kx,.slice xp xl xc] 215,.cells #[.bool yi,.int .i64 ky,.slice yp yl yc] 215],?_⟩;exact Xz _ _ _
section
attribute [local go_sem] Oper.semAt_some
structure XO(rk:Nat->Nat->Int)(τ:List Tr)(ys:List Nat):Prop where
 perm:ys.Perm (τ.map (·.1))
 lt:∀i j (hi:i<ys.length) (hj:j<ys.length),i<j->rk ys[i] (uQ τ ys[i])<rk ys[j] (uQ τ ys[j])
theorem XO.cmp{rk:Nat->Nat->Int}{τ:List Tr}{ys:List Nat}(h:XO rk τ ys)(i j:Fin ys.length):eH (rk ys[i] (uQ τ ys[i])) (rk ys[j] (uQ τ ys[j]))=eH i.val j.val:=by
 rcases Nat.lt_trichotomy i.val j.val with e|e|e
 ·have h1:=h.lt i.val j.val i.isLt j.isLt e;have h2:(i.val:Int)<j.val:=by omega
  unfold eH;rw[af6 h2,af6 (by exact h1)]
 ·have:i=j:=Fin.ext e;subst this;unfold eH;simp
 ·have h1:=h.lt j.val i.val j.isLt i.isLt e;have h2:¬(i.val:Int)<j.val:=by omega
  have h3:(j.val:Int)<i.val:=by omega
  unfold eH;rw[af2 h2,af6 h3,af2 (by simp only[Fin.getElem_fin];omega),af6 (by exact h1)]
def QT(ys:List Nat)(ss:List (Fin ys.length)):List Value:=ss.map λi=>gV ys[i]
theorem Ve(F:Fence)(n:Nat)(hf:F.fn 218)(hro:F.round=none)(hn:2<=n)(ts:List Nat)(hl:ts.length<=1000)(g:Nat)(lb:Array Value)(hFg:F.fn g)(eg:∀args w,(callFunc g args).run prog w=.ok (.enter g args) w)(w:World){Sp:List (Fin ts.length)->Prop}
 (hseq:ji F (n-1) prog g lb (λi:Fin ts.length=>#[gV ts[i]]) Sp ts.length KeepsWalks w) :
  CallsIn F n prog 218 #[.slice none 0 0,.func (.func g) #[] lb] w λe w'=>∃v ss,e=.returned v/\Sp ss/\w'.ownsRow w.heap.size 3 1 v ss.length (QT ts ss)/\(v=.slice none 0 0↔ss=[])/\Below w.heap.size w w':=by
 obtain⟨i0,hin,hz0,hz1,hz2⟩:=ak7 Qa;refine ai6 func218 rfl hf ?_ hro;simp only[ntmps218,ae2,ae1,ae8,Nat.reduceAdd,Nat.reduceSub,ae0,ad9,ae4,ag1,ae7,ae6]
 gi_wp2
 obtain⟨w1,hw1⟩:∃w1,w.alloc (.cells #[.slice none 0 0] 164)=w1:=⟨_,rfl⟩;have hs1:w1.heap.size=w.heap.size+1:=by rw[<-hw1];simp
 have hc1:w1.cell? ⟨w.heap.size,0,none⟩=some (.slice none 0 0):=by rw[<-hw1];simp[go_sem]
 have hf1:w1.frozen? ⟨w.heap.size,0,none⟩=false:=by rw[<-hw1];simp[go_sem]
 have hb1:Below w.heap.size w w1:=by rw[<-hw1];exact(ag6 _ w).alloc (ad5 _) _
 rw[hw1];clear hw1;have hA0:AI w w.heap.size (w.heap.size+1) 3 1 true 0 (QT ts []) w1:=⟨⟨_,hc1,⟨rfl,.inl ⟨rfl,rfl⟩⟩,by simp⟩,hf1,hb1⟩;clear hc1 hf1;refine eP hro (by omega) rfl hFg eg hseq KeepsWalks.trans ?_ hb1 ?_ (λss W=>AI w w.heap.size (w.heap.size+1) 3 1 true ss.length (QT ts ss) W)
  (λss W W' row h hg hr=>h.keep hg (B:=w1.heap.size) (by omega) hr) hA0
  (λi a' _=>a'={tmps:=#[.slice none 0 0,.func (.func g) #[] lb,.pointer (some ⟨w.heap.size,0,none⟩),undef,.slice none 0 0,gV ts[i],.func (.func g) #[] lb,gV ts[i],undef,undef,undef,undef,undef],defers:=[]}) ?own ?assign ?body ?done
 ·intro W l o o' hl ho hc hw;exact KeepsWalks.putObj _ ho hw
 ·intro x;rfl
 case own=>
  rintro i a' ⟨⟩ W W' row e hg hr;exact e
 case assign=>
  intro l pre i W K hI hK;simp only;generalize ts[i]=key at hK ⊢;simp only[gV]at hK ⊢
  gi_wp2
  exact hK _ _ ((aq2 _).from _) (KeepsWalks.refl _) hI rfl
 case body=>
  rintro l pre i a' W hpre hlw hI rfl;obtain⟨v,hx,hrow,hnil⟩:=hI.x;have hfx:=hI.fx;have hlX:w.heap.size<W.heap.size:=ad7 W _ hx;have hIa:=aj hI;have XZ:=aj hnil;clear hI hnil;have e1:QT ts (pre++[i])=QT ts pre++[vI (ts[i]:Nat)]:=by simp[QT,gV,vI]
  generalize ts[i]=key at e1;have E1:=aj e1;clear e1;simp only[gV]
  gi_wp2_with (gi_at_builtin;refine ar4 _ rfl _ _ 164 rfl (w.heap.size+1) 3 i0 _ 1 8 underlying164 hin hz0 hz1 hz2 rfl (by decide) _ pre.length (QT ts pre) rfl (hrow.alloc _) ⟨W.heap.size,0,none⟩ 1 1 [vI (key:Nat)] rfl rfl (EU _ _ _ _ rfl) (Ym _) (by unfold maxLen;omega) (by omega) (by simp;omega) ?_;intro v' w3 hown' hg3 hnil3 hat;obtain⟨hX3,Nu⟩:=(ah hIa).after (by omega) hx hrow (ad4 _ _ none) hg3;obtain⟨g',cap',rfl⟩:=dL hown' (al7 _))
  have hcl:=(ah hIa).close (a:=⟨#[],[]⟩) (B:=w1.heap.size) (by omega) (ad5 _) (by omega) hx hrow (ad4 _ _ none) hown' hg3 hnil3 (by decide);rw[<-ah E1]at hcl;simpa[fP,hs1]using hcl
 case done=>
  intro D ss W hD hS hI hdef;obtain⟨v,hx,hrow,hnil⟩:=hI.x
  gi_wp2
  refine⟨by simp,.inl ⟨_,_,rfl,aj6 hdef,?_⟩⟩;have hI2:=hI.keep (ak4 W D (.deferred none)) (B:=w1.heap.size) (by omega) (λr e=>by cases e;exact⟨hD,_,hdef,rfl⟩);refine⟨_,am8 rfl _ _ _,v,rfl,ss,hS,?_,?_,hI2.below⟩
  ·exact fK (jm hrow (ak4 W D (.deferred none)) (λr e=>by cases e;exact⟨_,hdef,rfl⟩)) (Nat.le_succ _)
  ·rw[hnil];simp
theorem DN(n:Nat)(hn:3<=n)(ts:List Nat)(hl:ts.length<=1000)(g:Nat)(lb:Array Value)(eg:∀args w,(callFunc g args).run prog w=.ok (.enter g args) w)(w:World){Sp:List (Fin ts.length)->Prop}
 (hseq:ji Fence.wide (n-1-1) prog g lb (λi:Fin ts.length=>#[gV ts[i]]) Sp ts.length KeepsWalks w) :
  CallsIn Fence.wide n prog 187 #[.func (.func g) #[] lb] w λe w'=>∃v ss,e=.returned v/\Sp ss/\w'.ownsRow w.heap.size 3 1 v ss.length (QT ts ss)/\(v=.slice none 0 0↔ss=[])/\Below w.heap.size w w':=by
 refine aj3 func187 rfl trivial ?_ rfl;simp only[ntmps187,ae2,ae1,ae8,Nat.reduceAdd,Nat.reduceSub,ae0,ad9,ae4,ag1,ae7,ae6]
 gi_wp2
 refine⟨trivial,λ_=>by omega,(Ve Fence.wide (n-1) trivial rfl (by omega) ts hl g lb trivial eg w hseq).mono ?_⟩;rintro e w' ⟨v,ss,rfl,h1,h2,h3,h4⟩
 gi_wp2
 go_ret
 exact⟨v,ss,rfl,h1,h2,h3,h4⟩
end
theorem qX{α:Type}[Inhabited α](f:α->Value)(w:World)(g n:Nat)(d:Array α)(os:Array Obj):w.grownBy (sortWorld f w g 0 n d os) (some g):=by
 refine⟨rfl,rfl,rfl,by simp[sortWorld],λj hj hne=>?_⟩;unfold sortWorld;rw[heap_grow_old _ _ (by simpa using hj)];have:g≠j:=λe=>hne (by rw[e]);simp[putRow,mapBlock,Sort.ahead,ap0,this]
theorem Eu{α:Type}[Inhabited α](f:α->Value){w:World}{g n e:Nat}{d:Array α}{os:Array Obj}{cur:Array Value}(hb:w.heap[g]?=some (.cells cur e (0,0))):∃cur',(sortWorld f w g 0 n d os).heap[g]?=some (.cells cur' e (0,0)):=by
 have hlt:=(ad3.1 hb).1;unfold sortWorld;rw[heap_grow_old _ _ (by simpa[putRow,mapBlock,Sort.ahead]using hlt)];simp[putRow,mapBlock,Sort.ahead,ap0,hb];exact⟨_,rfl⟩
theorem KX(R:Nat)(rk:Nat->Nat->Int)(hR0:vW R rk)(eg:∀args w,(callFunc R args).run prog w=.ok (.enter R args) w)(τ:List Tr)(hτ:τ.length<=1000)(ts:List Nat)(hrk:XO rk τ ts)(ss:List (Fin ts.length))(hp:ss.Perm (List.finRange ts.length))(hne:0<ts.length)(Rb Mb BT g cap e0:Nat)(cur:Array Value)(w:World)
 (hb:w.heap[g]?=some (.cells cur e0 (0,0)))(ht:cur.toList.take ss.length=QT ts ss)(hR:w.cell? ⟨Rb,0,none⟩=some (.func (.func R) #[] #[]))(hMb:w.cell? ⟨Mb,0,none⟩=some (.map (some BT)))(hM:kU w BT τ)(n1:Rb≠g)(n2:Mb≠g)(n3:BT≠g) :
  Calls prog 188 #[.slice (some ⟨g,0,none⟩) ss.length cap,.func (.func 163) #[] #[.pointer (some ⟨Rb,0,none⟩),.pointer (some ⟨Mb,0,none⟩)]] w λe w'=>
   e=.returned (.tuple #[])/\w.grownBy w' (some g)/\(∃cur',w'.heap[g]?=some (.cells cur' e0 (0,0)))/\∀(i:Nat) (hi:i<ts.length),w'.cell? ⟨g,i,none⟩=some (gV ts[i]):=by
 haveI:Inhabited (Fin ts.length):=⟨⟨0,hne⟩⟩
 have hle:∀x∈ts,x<=1000:=λx hx=>by
  obtain⟨q,hq,rfl⟩:=af9.1 (hrk.perm.mem_iff.1 hx);exact hM.le q hq
 have hlen:ss.length=ts.length:=by rw[hp.length_eq,am6]
 have htl:ts.length<=1000:=by rw[hrk.perm.length_eq];simpa using hτ
 have hlt:=(ad3.1 hb).1;have hH:Sort.Holds (λi:Fin ts.length=>gV ts[i]) w g 0 ss.toArray:=by
  intro j hj;have hj':j<ss.length:=by simpa using hj
  refine⟨?_,by simp[World.frozen?,hb]⟩;have h1:(cur.toList.take ss.length)[j]?=(QT ts ss)[j]?:=by rw[ht]
  rw[List.getElem?_take_of_lt hj']at h1;rw[am5,cell_of hb,ao4 _ j (by simpa using hj')];simpa[QT,hj']using h1
 have hc:CmpLays1 prog 163 #[.pointer (some ⟨Rb,0,none⟩),.pointer (some ⟨Mb,0,none⟩)] (λi:Fin ts.length=>gV ts[i]) (λi j=>eH i.val j.val) g 0 ss.toArray.size w:=by
  intro m os dk _ x y;have hgr:=qX (λi:Fin ts.length=>gV ts[i]) w g m dk os;have h:=Rw R rk hR0 eg Rb Mb BT τ hτ ts[x] ts[y] (hle _ (ad8 x.isLt)) (hle _ (ad8 y.isLt)) _ (hgr.cell hR (by simpa using n1)) (hgr.cell hMb (by simpa using n2)) (hM.kept (hgr.block BT hM.lt (by simpa using n3)));rw[hrk.cmp x y]at h;exact h
 have h:=Any.slices_SortFunc_total sortI (λi:Fin ts.length=>gV ts[i]) (λ_=>rfl) (λi j=>eH i.val j.val) (uH _) 163 _ g 0 cap ss.toArray w (ar6 func163 (by kernel_rfl) rfl) hc hH hlt (by simp;omega) uG;change Calls prog 188 _ _ _ at h;simp only[ae2]at h;refine h.mono ?_;rintro e2 w' ⟨rfl,m,os,rfl⟩;refine⟨rfl,qX _ _ _ _ _ _,Eu _ hb,λi hi=>?_⟩;have e1:(List.mergeSort ss.toArray.toList λx y=>!(ltOf λi j:Fin ts.length=>eH i.val j.val) y x)=List.finRange ts.length:=sK hp;rw[e1];have hH2:=holds_sortWorld (λi:Fin ts.length=>gV ts[i]) w g 0 m ss.toArray (List.finRange ts.length).toArray os hlt hH (by simp[hlen]);have h2:=(hH2 i (by simpa using hi)).1;rw[am5]at h2;rw[h2,ao4 (List.finRange ts.length).toArray i (by simpa using hi)];simp
def XT(w:World)(base:Nat)(ts:List Nat)(v:Value):Prop:=
 (ts.length=0->v=.slice none 0 0)/\(0<ts.length->∃G cap,v=.slice (some ⟨G,0,none⟩) ts.length cap/\base<=G/\(∃cur,w.heap[G]?=some (.cells cur 3 (0,0)))/\∀(i:Nat) (hi:i<ts.length),w.cell? ⟨G,i,none⟩=some (gV ts[i]))
theorem Es(R:Nat)(rk:Nat->Nat->Int)(hR0:vW R rk)(eg:∀args w,(callFunc R args).run prog w=.ok (.enter R args) w)(τ:List Tr)(hτ:τ.length<=1000)(n:Nat)(hn:4<=n)(ts:List Nat)(hrk:XO rk τ ts)(Kb Rb Mb BT:Nat)(w:World)
 (hK:w.cell? ⟨Kb,0,none⟩=some (.map (some BT)))(hR:w.cell? ⟨Rb,0,none⟩=some (.func (.func R) #[] #[]))(hMb:w.cell? ⟨Mb,0,none⟩=some (.map (some BT)))(hM:kU w BT τ) :
  CallsIn Fence.wide n prog 161 #[.func (.func 189) #[] #[.pointer (some ⟨Kb,0,none⟩)],.func (.func 163) #[] #[.pointer (some ⟨Rb,0,none⟩),.pointer (some ⟨Mb,0,none⟩)]] w λe w'=>
   ∃v,e=.returned v/\Below w.heap.size w w'/\XT w' w.heap.size ts v:=by
 have htl:ts.length<=1000:=by rw[hrk.perm.length_eq];simpa using hτ
 have hseq:=ML Fence.wide (n-1-1-1) trivial rfl (by omega) Kb BT τ ts w hrk.perm hK hM;have Iw:=DN (n-1) (by omega) ts htl 189 _ (ar6 func189 (by kernel_rfl) rfl) w hseq;clear hseq;refine aj3 func161 rfl trivial ?_ rfl;simp only[ntmps161,ae2,ae1,ae8,Nat.reduceAdd,Nat.reduceSub,ae0,ad9,ae4,ag1,ae7,ae6]
 gi_wp2
 refine⟨trivial,λ_=>by omega,Iw.mono ?_⟩;rintro e W ⟨v,ss,rfl,hS,hrow,hnil,hb⟩;have hlen:ss.length=ts.length:=by rw[hS.length_eq,am6]
 rcases hrow.2 with⟨rfl,hz⟩|⟨gb,cap,cur,rfl,hbase,hgb,r1,r2,r3,r4⟩
 ·gi_wp2
  refine⟨trivial,λ_=>by omega,(ag4.2 (AnyF.slices_SortFunc_none {sortI with} none 0 _ W)).mono ?_⟩;rintro e w' ⟨rfl,rfl⟩
  gi_wp2
  go_ret
  exact⟨_,rfl,hb,λ_=>rfl,λh=>absurd h (by omega)⟩
 ·have hne:0<ts.length:=by
   rcases ak5 ts.length with h0|h0
   ·have:ss=[]:=ah4 (by omega);exact absurd (hnil.2 this) (by simp)
   ·exact h0
  have hcR:W.cell? ⟨Rb,0,none⟩=some (.func (.func R) #[] #[]):=(hb.cell (p:=⟨Rb,0,none⟩) (ad7 w _ hR)).trans hR;have hcM:W.cell? ⟨Mb,0,none⟩=some (.map (some BT)):=(hb.cell (p:=⟨Mb,0,none⟩) (ad7 w _ hMb)).trans hMb;have n1:Rb≠gb:=by have h:Rb<w.heap.size:=ad7 w _ hR;omega
  have n2:Mb≠gb:=by have h:Mb<w.heap.size:=ad7 w _ hMb;omega
  have n3:BT≠gb:=by have h:=hM.lt;omega
  have hs:=KX R rk hR0 eg τ hτ ts hrk ss hS hne Rb Mb BT gb cap _ cur W hgb (by rw[Nat.mul_one]at r4;exact r4) hcR hcM (hM.kept (hb.block BT hM.lt)) n1 n2 n3;have HLEN:=aj hlen;clear hlen eg
  gi_wp2
  refine⟨trivial,λ_=>by omega,(ag4.2 hs).mono ?_⟩;rintro e w' ⟨rfl,hg,hcu,hc⟩
  gi_wp2
  go_ret
  have hlen:=ah HLEN;refine⟨_,rfl,hb.grown hg hb.size (λk e=>by cases e;exact hbase),λh0=>absurd h0 (by omega),λ_=>⟨gb,cap,?_,hbase,hcu,hc⟩⟩
  show Value.slice (some ⟨gb,0,none⟩) ss.length cap=_
  rw[hlen]
theorem MH(n:Nat)(BT:Nat)(w:World):CallsIn Fence.wide n prog 162 #[.map (some BT)] w λe w'=>
  e=.returned (.func (.func 189) #[] #[.pointer (some ⟨w.heap.size,0,none⟩)])/\w'=w.alloc (.cells #[.map (some BT)] 128):=by
 refine ag4.2 ?_
 go_enter func162,ntmps162
 go_wp2_with fail
 go_ret
 exact⟨rfl,rfl⟩
theorem yx(R BT:Nat)(w:World):Calls prog 121 #[.map (some BT),.func (.func R) #[] #[]] w λe w'=>
  e=.returned (.func (.func 160) #[] #[.pointer (some ⟨w.heap.size,0,none⟩),.pointer (some ⟨w.heap.size+1,0,none⟩)])/\∃t,w'=(w.alloc (.cells #[.map (some BT)] 128)).alloc (.cells #[.func (.func R) #[] #[]] t):=by
 go_enter func121,ntmps121
 go_wp2_with fail
 go_ret
 exact⟨rfl,_,rfl⟩
def SB(m0 Mb BT:Nat)(W W':World):Prop:=(∀(k:Nat) (cur:Array Value) (x:Nat×Nat),m0<=k->W.heap[k]?=some (.cells cur 3 x)->W'.heap[k]?=some (.cells cur 3 x))/\W'.heap[Mb]?=W.heap[Mb]?/\W'.heap[BT]?=W.heap[BT]?
theorem SB.trans{m0 Mb BT:Nat}{A B C:World}(h:SB m0 Mb BT A B)(g:SB m0 Mb BT B C):SB m0 Mb BT A C:=⟨λk o x hk ho=>g.1 k o x hk (h.1 k o x hk ho),g.2.1.trans h.2.1,g.2.2.trans h.2.2⟩
theorem Bo(R:Nat)(rk:Nat->Nat->Int)(hR0:vW R rk)(eg:∀args w,(callFunc R args).run prog w=.ok (.enter R args) w)(τ:List Tr)(hτ:τ.length<=1000)(n:Nat)(hn:5<=n)(Mb Rb BT m0:Nat)(ts:List Nat)(w:World)(hm0:m0<=w.heap.size)(hrk:XO rk τ ts)
 (hMb:w.cell? ⟨Mb,0,none⟩=some (.map (some BT)))(hR:w.cell? ⟨Rb,0,none⟩=some (.func (.func R) #[] #[]))(hM:kU w BT τ) :
  vU Fence.wide n prog 160 #[.pointer (some ⟨Mb,0,none⟩),.pointer (some ⟨Rb,0,none⟩)] (ts.map λx=>#[gV x,uN τ x]) (SB m0 Mb BT) w:=by
 have htl:ts.length<=1000:=by rw[hrk.perm.length_eq];simpa using hτ
 have hle:∀x∈ts,x<=1000:=λx hx=>by
  obtain⟨q,hq,rfl⟩:=af9.1 (hrk.perm.mem_iff.1 hx);exact hM.le q hq
 intro l J W hW hJ hY h0;have rP:W.cell? ⟨Mb,0,none⟩=some (.map (some BT)):=(hW.cell (p:=⟨Mb,0,none⟩) (ad7 w _ hMb)).trans hMb;have hRW:W.cell? ⟨Rb,0,none⟩=some (.func (.func R) #[] #[]):=(hW.cell (p:=⟨Rb,0,none⟩) (ad7 w _ hR)).trans hR;have hMW:kU W BT τ:=hM.kept (hW.block BT hM.lt);have hsW:=hW.size;have Ip:Mb<W.heap.size:=ad7 W _ rP;have yU:=hMW.lt;have hso:=Es R rk hR0 eg τ hτ (n-1) (by omega) ts hrk W.heap.size Rb Mb BT (W.alloc (.cells #[.map (some BT)] 128)) (by simp[go_sem]) ((ad4 _ _ none).cell hRW (by simp)) ((ad4 _ _ none).cell rP (by simp)) (hMW.kept (ae3 _ _ _ yU));have HM:=aj hM;have HMW:=aj hMW;clear hM hMW eg;refine aj3 func160 rfl trivial ?_ rfl;simp only[ntmps160,ae2,ae1,ae8,Nat.reduceAdd,Nat.reduceSub,ae0,ad9,ae4,ag1,ae7,ae6]
 gi_wp2
 refine⟨trivial,λ_=>by omega,(MH (n-1) BT W).mono ?_⟩;rintro e w1 ⟨rfl,rfl⟩
 gi_wp2
 refine⟨trivial,λ_=>by omega,hso.mono ?_⟩;rintro e w2 ⟨v,rfl,hb2,hH⟩;have hb:Below W.heap.size W w2:=((ag6 _ W).alloc (ad5 _) _).trans (hb2.mono (by simp));have hJ2:J 0 w2:=hJ 0 W w2 none h0 ⟨hb.os,hb.tape,hb.output,hb.size,λk hk _=>hb.block k hk⟩ (λr e=>by cases e);have qQ:w2.heap[Mb]?=W.heap[Mb]?:=hb.block Mb Ip;have IQ:w2.heap[BT]?=W.heap[BT]?:=hb.block BT yU;clear hso hb2;rcases ak5 ts.length with hz|hpos
 ·rw[hH.1 hz];have HZ:=aj hz;clear hz hH
  gi_wp2
  gi_loopw [13] (λi wr=>i=.int .i64 0/\J 0 wr) (λ_ _=>0)
  case atStart=>exact⟨rfl,hJ2⟩
  case round=>
   obtain⟨rfl,hJr⟩:=hrel
   gi_wp2
   go_end0
   refine⟨⟨_,rfl⟩,?_⟩;rw[ai8,ah HZ];exact hJr
 ·obtain⟨G,cap,rfl,hG,⟨cur,hoG⟩,hcs⟩:=hH.2 hpos;have hG':W.heap.size<=G:=by simp at hG;omega
  have HCS:=aj hcs;clear hH hcs hG
  gi_wp2
  gi_loopw [13] (λi wr=>∃k:Nat,k<=ts.length/\i=.int .i64 k/\J k wr/\wr.heap[G]?=some (.cells cur 3 (0,0))/\wr.heap[Mb]?=W.heap[Mb]?/\wr.heap[BT]?=W.heap[BT]?) (λi _=>ts.length-(intOf i).toNat)
  case atStart=>exact⟨0,ah2 _,rfl,hJ2,hoG,qQ,IQ⟩
  case round=>
   obtain⟨k,hk,rfl,hJk,hXk,hMk,hBk⟩:=hrel;by_cases hlt:k<ts.length
   ·have kc:wr.cell? ⟨G,k,none⟩=some (.int .i64 ts[k]):=by
     have h1:=ah HCS k hlt;exact(ae5 (hXk.trans hoG.symm)).trans h1
    have hyk:=hY k (by simpa using hlt);rw[show(ts.map λx=>#[gV x,uN τ x])[k]'(by simpa using hlt)=#[gV ts[k],uN τ ts[k]] by simp]at hyk;have hMr:kU wr BT τ:=(ah HMW).kept hBk;have hlk:=hMr.look1 (hle ts[k] (ad8 hlt));have Ny:wr.cell? ⟨Mb,0,none⟩=some (.map (some BT)):=(ae5 hMk).trans rP;simp only[gV]at hyk;generalize hlv:uN τ ts[k]=lv at hyk hlk;generalize ts[k]=t at kc hyk hlk hlv;have hbd:(k:Int)<(ts.length:Int):=(by omega);obtain⟨fn,tmps,assign,body,hy,hR⟩:=hyk wr hJk;clear hyk hlv
    gi_wp2
    refine⟨λ_=>by omega,hR.mono ?_⟩;rintro e W3 ⟨rfl,hJ3,hk3⟩;have hX3:W3.heap[G]?=some (.cells cur 3 (0,0)):=hk3.1 G cur _ (by omega) hXk;have hM3:W3.heap[Mb]?=W.heap[Mb]?:=hk3.2.1.trans hMk;have hB3:W3.heap[BT]?=W.heap[BT]?:=hk3.2.2.trans hBk;clear hk3 hR hy
    gi_wp2
    go_roundw
    case rel=>exact⟨k+1,by omega,by go_num,hJ3,hX3,hM3,hB3⟩
    case measure=>simp[intOf];omega
   ·have hkk:k=ts.length:=(by omega);have HKK:=aj hkk;clear hkk;have hbd:¬(k:Int)<(ts.length:Int):=by omega
    gi_wp2
    go_end0
    refine⟨⟨_,rfl⟩,?_⟩;rw[<-ah HKK];exact hJk
end Go.Proofs.YthcppbmkacbbiabGreat
