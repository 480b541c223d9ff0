import Derived.Test.YthcppbmkacbbiabGreatVAT
set_option linter.unusedSimpArgs false
set_option maxHeartbeats 2000000
set_option maxRecDepth 100000
namespace Go.Proofs.YthcppbmkacbbiabGreat
open Go.Proofs.Tryz
open Go.RowKit Go.Maps Go.WideMaps Go.Sort
open Sat (View Rule og dN)
def FT(anc:Nat)(rk:Nat->Nat->Int):Prop:=
 ∀(W:World) (x:Nat) (bi:Bool) (bk:Nat) (p:Option Addr) (l c:Nat),bk<=1000->Calls prog anc #[A x,.agg #[.bool bi,A bk,.slice p l c]] W λe w'=>e=.returned (A (rk x bk))/\w'=W.alloc (.cells #[.bool bi,A bk,.slice p l c] 215)
theorem RU:FT 157 (λ_ k=>-(k:Int)):=by
 intro W x bi bk p l c hk
 go_enter func157,ntmps157
 go_wp2_with fail
 go_ret
 exact⟨rfl,rfl⟩
theorem Oy:FT 122 (λx _=>(x:Int)):=by
 intro W x bi bk p l c hk
 go_enter func122,ntmps122
 go_wp2_with fail
 go_ret
 exact⟨rfl,rfl⟩
def EO(τ:List Tr)(x:Nat):Nat:=match uS τ x with
 |some q=>q.2
 |none=>0
theorem rZ.lks{w:World}{m:Nat}{τ:List Tr}(h:rZ w m τ)(x:Nat):∃(bi:Bool) (p:Option Addr) (l c:Nat),Ez τ x=.agg #[.bool bi,A (EO τ x),.slice p l c]:=by
 cases e:uS τ x with
 |none=>exact⟨false,none,0,0,by simp[Ez,e,EO]⟩
 |some q=>
  obtain⟨q,k⟩:=q;obtain⟨I,hk,M⟩:=fV e;obtain⟨p,l,c,h3⟩:=h.shape q (M▸an5 hk);exact⟨q.2.1,p,l,c,by simp[Ez,e,xP,h3,EO]⟩
theorem abO{τ:List Tr}(x:Nat):EO τ x<=τ.length:=by
 unfold EO;cases e:uS τ x with
 |none=>simp
 |some q=>
  obtain⟨q,k⟩:=q;have:=(fV e).2.1;simp;omega
theorem ahQ(W:World)(a b:Obj):((W.alloc a).alloc b).drew=Go.Sort.grow (W.drewN 1) #[a,b]:=by
 rw[aA2,aA2,Go.Sort.drew_grow,Go.Sort.drew_grow,Go.Sort.grow_grow];rfl
theorem ad9(anc:Nat)(rk:Nat->Nat->Int)(hR0:FT anc rk)(eg:∀args w,(callFunc anc args).run prog w=.ok (.enter anc args) w)(Rb Mb BT:Nat)(τ:List Tr)(hτ:τ.length<=1000)(x y:Nat)(hx:x<=1000)(hy:y<=1000)(W:World)(hR:W.cell? (J Rb 0)=some (.func (.func anc) #[] #[]))(l9:W.cell? (J Mb 0)=some (.map (some BT)))(hM:rZ W BT τ) :
  Calls prog 163 #[A x,A y,Aa Rb 0,Aa Mb 0] W λe w'=>e=.returned (A (jg (rk x (EO τ x)) (rk y (EO τ y))))/\∃q os',w'=Go.Sort.grow (W.drewN q) os':=by
 have HC:=F (λw=>sW (rk x (EO τ x)) (rk y (EO τ y)) w);generalize jg (rk x (EO τ x)) (rk y (EO τ y))=r at HC;obtain⟨xi,xp,xl,xc,ex⟩:=hM.lks x;obtain⟨yi,yp,yl,yc,ey⟩:=hM.lks y;have hlx:Hid (∀W',W.grownBy W' none->(Instr.lookup 128 (.map (some BT)) (A x) false).run prog W'=.ok (.agg #[.bool xi,A (EO τ x),.slice xp xl xc]) W'):=λW' hg=>by
  rw[<-ex];exact(hM.kept (hg.block BT hM.lt R)).look1 hx
 have hly:Hid (∀W',W.grownBy W' none->(Instr.lookup 128 (.map (some BT)) (A y) false).run prog W'=.ok (.agg #[.bool yi,A (EO τ y),.slice yp yl yc]) W'):=λW' hg=>by
  rw[<-ey];exact(hM.kept (hg.block BT hM.lt R)).look1 hy
 have hrx:Hid (∀W',Calls prog anc #[A x,.agg #[.bool xi,A (EO τ x),.slice xp xl xc]] W' λe w'=>e=.returned (A (rk x (EO τ x)))/\w'=W'.alloc (.cells #[.bool xi,A (EO τ x),.slice xp xl xc] 215)):=λW'=>hR0 W' x xi _ xp xl xc (ap3 (abO x) hτ);have hry:Hid (∀W',Calls prog anc #[A y,.agg #[.bool yi,A (EO τ y),.slice yp yl yc]] W' λe w'=>e=.returned (A (rk y (EO τ y)))/\w'=W'.alloc (.cells #[.bool yi,A (EO τ y),.slice yp yl yc] 215)):=λW'=>hR0 W' y yi _ yp yl yc (ap3 (abO y) hτ);generalize EO τ x=kx at HC hlx hrx;generalize EO τ y=ky at HC hly hry;generalize rk x kx=rx at HC hrx;generalize rk y ky=ry at HC hry
 go_in
 go_wp2_with fail
 refine aq8 (S:=λW'=>W.grownBy W' none) rfl ?_;have aA:W.grownBy W.drew none:=⟨rfl,rfl,rfl,an2 _,λ_ _ _=>rfl⟩;change wpAnyH prog .any _ _ _ 14 #[false,false,false,false,false,false,false,false,false,false,false,false,false,false] _ W.drew;refine tH 0 (.func (.func anc) #[] #[]) (λw' hS=>?_) aA ?_
 ·have c0:=hS.cell hR R;go_simp
 simp only[aF];refine dF 1 (A x) aA ?_
 simp only[aF];refine tH 2 (.map (some BT)) (λw' hS=>?_) aA ?_
 ·have c0:=hS.cell l9 R;go_simp
 simp only[aF];refine dF 3 (A x) aA ?_
 simp only[aF];refine tH 4 (.agg #[.bool xi,A kx,.slice xp xl xc]) (λw' hS=>?_) aA ?_
 ·have e1:=Z hlx w' hS;go_simp
 simp only[aF];refine tH 6 (.func (.func anc) #[] #[]) (λw' hS=>?_) aA ?_
 ·have c0:=hS.cell hR R;go_simp
 simp only[aF];refine dF 7 (A y) aA ?_
 simp only[aF];refine tH 8 (.map (some BT)) (λw' hS=>?_) aA ?_
 ·have c0:=hS.cell l9 R;go_simp
 simp only[aF];refine dF 9 (A y) aA ?_
 simp only[aF];refine tH 10 (.agg #[.bool yi,A ky,.slice yp yl yc]) (λw' hS=>?_) aA ?_
 ·have e1:=Z hly w' hS;go_simp
 simp only[aF];refine oH 5 (λK hK=>?_);go_simp;refine(Z hrx _).mono ?_;rintro e w2 ⟨rfl,rfl⟩;have MH:=aA.trans (an1 W.drew (.cells #[.bool xi,A kx,.slice xp xl xc] 215) none);refine hK.out _ _ MH ?_;refine oH 11 (λK hK=>?_);go_simp;refine(Z hry _).mono ?_;rintro e w2 ⟨rfl,rfl⟩;have JU:=MH.trans (an1 (W.drew.alloc (.cells #[.bool xi,A kx,.slice xp xl xc] 215)) (.cells #[.bool yi,A ky,.slice yp yl yc] 215) none);refine hK.out _ _ JU ?_;refine oH 12 (λK hK=>?_);go_simp;refine((Z HC) _).mono ?_;rintro e w2 ⟨rfl,rfl⟩;refine hK.out _ _ JU ?_;refine oH 13 (λK hK=>?_);go_simp;refine hK.out _ _ JU (ar2 (by kernel_rfl) ?_ _)
 go_wp2_with fail
 go_ret
 refine⟨rfl,1,#[.cells #[.bool xi,A kx,.slice xp xl xc] 215,.cells #[.bool yi,A ky,.slice yp yl yc] 215],?_⟩;exact ahQ _ _ _
section
attribute [local go_sem] Oper.semAt_some
structure Rkd(rk:Nat->Nat->Int)(τ:List Tr)(ys:List Nat):Prop where
 perm:ys.Perm (τ.map (·.1))
 lt:∀i j (hi:i<ys.length) (hj:j<ys.length),i<j->rk ys[i] (EO τ ys[i])<rk ys[j] (EO τ ys[j])
theorem Rkd.cmp{rk:Nat->Nat->Int}{τ:List Tr}{ys:List Nat}(h:Rkd rk τ ys)(i j:Fin ys.length):jg (rk ys[i] (EO τ ys[i])) (rk ys[j] (EO τ ys[j]))=jg i.val j.val:=by
 obtain e|e|e:=Nat.lt_trichotomy i.val j.val
 ·have I:=h.lt i.val j.val i.isLt j.isLt e;have M:(i.val:Int)<j.val:=O
  unfold jg;rw[ao4 M,ao4 (by exact I)]
 ·have:i=j:=Fin.ext e;subst this;unfold jg;simp
 ·have I:=h.lt j.val i.val j.isLt i.isLt e;have M:¬(i.val:Int)<j.val:=O
  have h3:(j.val:Int)<i.val:=O
  unfold jg;rw[an8 M,ao4 h3,an8 (by simp only[Fin.getElem_fin];omega),ao4 (by exact I)]
def flI(ys:List Nat)(ss:List (Fin ys.length)):List Value:=ss.map λi=>kN ys[i]
theorem afJ(aj:Fence)(n:Nat)(hf:aj.fn 218)(yK:aj.round=none)(hn:2<=n)(Y:List Nat)(hl:Y.length<=1000)(g:Nat)(lb:Array Value)(TQ:aj.fn g)(eg:∀args w,(callFunc g args).run prog w=.ok (.enter g args) w)(w:World){Sp:List (Fin Y.length)->Prop}
 (dK:nY aj (n-1) prog g lb (λi:Fin Y.length=>#[kN Y[i]]) Sp Y.length KeepsWalks w) :
  CallsIn aj n prog 218 #[.slice none 0 0,.func (.func g) #[] lb] w λe w'=>∃v ss,e=.returned v/\Sp ss/\w'.ownsRow w.heap.size 3 1 v ss.length (flI Y ss)/\(v=.slice none 0 0↔ss=[])/\Ag w w':=by
 obtain⟨i0,gK,jR,ig,jy⟩:=au5 Sm;refine at6 func218 rfl hf ?_ yK;simp only[ntmps218,ao5,ao1,ap0,Nat.reduceAdd,Nat.reduceSub,an7,an6,ao6,ap9,ao8,ao7]
 gi_wp2
 obtain⟨w1,uH⟩:∃w1,w.alloc (.cells #[.slice none 0 0] 164)=w1:=⟨_,rfl⟩;have oI:w1.heap.size=w.heap.size+1:=by rw[<-uH];simp
 have Gn:w1.cell? (J w.heap.size 0)=some (.slice none 0 0):=by rw[<-uH];simp[go_sem]
 have Ik:w1.frozen? (J w.heap.size 0)=false:=by rw[<-uH];simp[go_sem]
 have iD:Below w.heap.size w w1:=by rw[<-uH];exact(aq1 _ w).alloc (an2 _) _
 rw[uH];clear uH;have hA0:AI w w.heap.size (w.heap.size+1) 3 1 true 0 (flI Y []) w1:=⟨⟨_,Gn,⟨rfl,.inl ⟨rfl,rfl⟩⟩,R⟩,Ik,iD⟩;clear Gn Ik;refine jk yK O rfl TQ eg dK KeepsWalks.trans ?_ iD ?_ (λss W=>AI w w.heap.size (w.heap.size+1) 3 1 true ss.length (flI Y ss) W)
  (λss W W' row h hg hr=>h.keep hg (B:=w1.heap.size) O hr) hA0
  (λi a' _=>a'={tmps:=#[.slice none 0 0,.func (.func g) #[] lb,Aa w.heap.size 0,undef,.slice none 0 0,kN Y[i],.func (.func g) #[] lb,kN Y[i],undef,undef,undef,undef,undef],defers:=[]}) ?own ?assign ?body ?done
 ·intro W l o o' hl ho hc hw;exact KeepsWalks.putObj _ ho hw
 ·intro x;rfl
 case own=>
  rintro i a' ⟨⟩ W W' row e hg hr;exact e
 case assign=>
  intro l pre i W K hI hK;simp only;generalize Y[i]=key at hK ⊢;simp only[kN]at hK ⊢
  gi_wp2
  exact hK _ _ ((aB1 _).from _) (KeepsWalks.refl _) hI rfl
 case body=>
  rintro l pre i a' W wB Yv hI rfl;obtain⟨v,hx,aS,fC⟩:=hI.x;have hfx:=hI.fx;have wG:w.heap.size<W.heap.size:=an4 W _ hx;have Pg:=F hI;have aii:=F fC;clear hI fC;have e1:flI Y (pre++[i])=flI Y pre++[vI (Y[i]:Nat)]:=by simp[flI,kN,vI]
  generalize Y[i]=key at e1;have E1:=F e1;clear e1;simp only[kN]
  gi_wp2_with (gi_at_builtin;refine aB9 _ rfl _ _ 164 rfl (w.heap.size+1) 3 i0 _ 1 8 underlying164 gK jR ig jy rfl ane _ pre.length (flI Y pre) rfl (aS.alloc _) (J W.heap.size 0) 1 1 [vI (key:Nat)] rfl rfl (Dw _ _ _ _ rfl) (aeZ _) anj O anf ?_;intro v' w3 fA dY uJ gU;obtain⟨jF,aaI⟩:=(Z Pg).after O hx aS (an1 _ _ none) dY;obtain⟨g',qB,rfl⟩:=gG fA (aw4 _))
  have iy:=(Z Pg).close (a:=⟨#[],[]⟩) (B:=w1.heap.size) O (an2 _) O hx aS (an1 _ _ none) fA dY uJ ane;rw[<-Z E1]at iy;simpa[jX,oI]using iy
 case done=>
  intro D ss W hD hS hI eU;obtain⟨v,hx,aS,fC⟩:=hI.x
  gi_wp2
  refine⟨R,.inl ⟨_,_,rfl,au4 eU,?_⟩⟩;have dD:=hI.keep (au9 W D (.deferred none)) (B:=w1.heap.size) O (λr e=>by cases e;exact⟨hD,_,eU,rfl⟩);refine⟨_,ay0 rfl _ _ _,v,rfl,ss,hS,?_,?_,dD.below⟩
  ·exact fO (ou aS (au9 W D (.deferred none)) (λr e=>by cases e;exact⟨_,eU,rfl⟩)) (Nat.le_succ _)
  ·rw[fC];simp
theorem PZ(n:Nat)(hn:3<=n)(Y:List Nat)(hl:Y.length<=1000)(g:Nat)(lb:Array Value)(eg:∀args w,(callFunc g args).run prog w=.ok (.enter g args) w)(w:World){Sp:List (Fin Y.length)->Prop}
 (dK:nY Fence.wide (n-1-1) prog g lb (λi:Fin Y.length=>#[kN Y[i]]) Sp Y.length KeepsWalks w) :
  CallsIn Fence.wide n prog 187 #[.func (.func g) #[] lb] w λe w'=>∃v ss,e=.returned v/\Sp ss/\w'.ownsRow w.heap.size 3 1 v ss.length (flI Y ss)/\(v=.slice none 0 0↔ss=[])/\Ag w w':=by
 refine au2 func187 rfl trivial ?_ rfl;simp only[ntmps187,ao5,ao1,ap0,Nat.reduceAdd,Nat.reduceSub,an7,an6,ao6,ap9,ao8,ao7]
 gi_wp2
 refine⟨trivial,λ_=>O,(afJ Fence.wide (n-1) trivial rfl O Y hl g lb trivial eg w dK).mono ?_⟩;rintro e w' ⟨v,ss,rfl,I,M,h3,h4⟩
 gi_wp2
 go_ret
 exact⟨v,ss,rfl,I,M,h3,h4⟩
end
theorem Bg{α:Type}[Inhabited α](f:α->Value)(w:World)(g n:Nat)(d:Array α)(os:Array Obj):w.grownBy (sortWorld f w g 0 n d os) (some g):=by
 refine⟨rfl,rfl,rfl,by simp[sortWorld],λj hj bg=>?_⟩;unfold sortWorld;rw[heap_grow_old _ _ (by simpa using hj)];have:g≠j:=λe=>bg (by rw[e]);simp[putRow,mapBlock,Sort.ahead,aA3,this]
theorem QN{α:Type}[Inhabited α](f:α->Value){w:World}{g n e:Nat}{d:Array α}{os:Array Obj}{cur:Array Value}(hb:w.heap[g]?=some (.cells cur e (0,0))):∃G9,(sortWorld f w g 0 n d os).heap[g]?=some (.cells G9 e (0,0)):=by
 have hlt:=(an0.1 hb).1;unfold sortWorld;rw[heap_grow_old _ _ (by simpa[putRow,mapBlock,Sort.ahead]using hlt)];simp[putRow,mapBlock,Sort.ahead,aA3,hb];exact⟨_,rfl⟩
theorem Zq(anc:Nat)(rk:Nat->Nat->Int)(hR0:FT anc rk)(eg:∀args w,(callFunc anc args).run prog w=.ok (.enter anc args) w)(τ:List Tr)(hτ:τ.length<=1000)(Y:List Nat)(Le:Rkd rk τ Y)(ss:List (Fin Y.length))(hp:ss.Perm (List.finRange Y.length))(bg:0<Y.length)(Rb Mb BT g cap e0:Nat)(cur:Array Value)(w:World)
 (hb:w.heap[g]?=some (.cells cur e0 (0,0)))(ht:cur.toList.take ss.length=flI Y ss)(hR:w.cell? (J Rb 0)=some (.func (.func anc) #[] #[]))(l9:w.cell? (J Mb 0)=some (.map (some BT)))(hM:rZ w BT τ)(n1:Rb≠g)(n2:Mb≠g)(n3:BT≠g) :
  Calls prog 188 #[Ac g 0 ss.length cap,.func (.func 163) #[] #[Aa Rb 0,Aa Mb 0]] w λe w'=>
   e=.returned (.tuple #[])/\w.grownBy w' (some g)/\(∃G9,w'.heap[g]?=some (.cells G9 e0 (0,0)))/\∀(i:Nat) (hi:i<Y.length),w'.cell? (J g i)=some (kN Y[i]):=by
 haveI:Inhabited (Fin Y.length):=⟨⟨0,bg⟩⟩
 have hle:∀x∈Y,x<=1000:=λx hx=>by
  obtain⟨q,hq,rfl⟩:=ap6.1 (Le.perm.mem_iff.1 hx);exact hM.le q hq
 have hlen:ss.length=Y.length:=by rw[hp.length_eq,ax8]
 have htl:Y.length<=1000:=by rw[Le.perm.length_eq];simpa using hτ
 have hlt:=(an0.1 hb).1;have hH:Sort.Holds (λi:Fin Y.length=>kN Y[i]) w g 0 ss.toArray:=by
  intro j hj;have nR:j<ss.length:=by simpa using hj
  refine⟨?_,by simp[World.frozen?,hb]⟩;have I:(cur.toList.take ss.length)[j]?=(flI Y ss)[j]?:=by rw[ht]
  rw[List.getElem?_take_of_lt nR]at I;rw[aw8,cell_of hb,az9 _ j (by simpa using nR)];simpa[flI,nR]using I
 have hc:CmpLays1 prog 163 #[Aa Rb 0,Aa Mb 0] (λi:Fin Y.length=>kN Y[i]) (λi j=>jg i.val j.val) g 0 ss.toArray.size w:=by
  intro m os dk _ x y;have jS:=Bg (λi:Fin Y.length=>kN Y[i]) w g m dk os;have h:=ad9 anc rk hR0 eg Rb Mb BT τ hτ Y[x] Y[y] (hle _ (an5 x.isLt)) (hle _ (an5 y.isLt)) _ (jS.cell hR (by simpa using n1)) (jS.cell l9 (by simpa using n2)) (hM.kept (jS.block BT hM.lt (by simpa using n3)));rw[Le.cmp x y]at h;exact h
 have h:=Any.slices_SortFunc_total sortI (λi:Fin Y.length=>kN Y[i]) (λ_=>rfl) (λi j=>jg i.val j.val) (Eh _) 163 _ g 0 cap ss.toArray w (aC1 func163 (by kernel_rfl) rfl) hc hH hlt anf Ef;change Calls prog 188 _ _ _ at h;simp only[ao5]at h;refine h.mono ?_;rintro e2 w' ⟨rfl,m,os,rfl⟩;refine⟨rfl,Bg _ _ _ _ _ _,QN _ hb,λi hi=>?_⟩;have e1:(List.mergeSort ss.toArray.toList λx y=>!(ltOf λi j:Fin Y.length=>jg i.val j.val) y x)=List.finRange Y.length:=Dc hp;rw[e1];have hH2:=holds_sortWorld (λi:Fin Y.length=>kN Y[i]) w g 0 m ss.toArray (List.finRange Y.length).toArray os hlt hH (by simp[hlen]);have M:=(hH2 i (by simpa using hi)).1;rw[aw8]at M;rw[M,az9 (List.finRange Y.length).toArray i (by simpa using hi)];simp
def aia(w:World)(base:Nat)(Y:List Nat)(v:Value):Prop:=
 (Y.length=0->v=.slice none 0 0)/\(0<Y.length->∃G cap,v=Ac G 0 Y.length cap/\base<=G/\(∃cur,w.heap[G]?=some (.cells cur 3 (0,0)))/\∀(i:Nat) (hi:i<Y.length),w.cell? (J G i)=some (kN Y[i]))
theorem QL(anc:Nat)(rk:Nat->Nat->Int)(hR0:FT anc rk)(eg:∀args w,(callFunc anc args).run prog w=.ok (.enter anc args) w)(τ:List Tr)(hτ:τ.length<=1000)(n:Nat)(hn:4<=n)(Y:List Nat)(Le:Rkd rk τ Y)(Kb Rb Mb BT:Nat)(w:World)
 (hK:w.cell? (J Kb 0)=some (.map (some BT)))(hR:w.cell? (J Rb 0)=some (.func (.func anc) #[] #[]))(l9:w.cell? (J Mb 0)=some (.map (some BT)))(hM:rZ w BT τ) :
  CallsIn Fence.wide n prog 161 #[.func (.func 189) #[] #[Aa Kb 0],.func (.func 163) #[] #[Aa Rb 0,Aa Mb 0]] w λe w'=>
   ∃v,e=.returned v/\Ag w w'/\aia w' w.heap.size Y v:=by
 have htl:Y.length<=1000:=by rw[Le.perm.length_eq];simpa using hτ
 have dK:=aah Fence.wide (n-1-1-1) trivial rfl O Kb BT τ Y w Le.perm hK hM;have Wj:=PZ (n-1) O Y htl 189 _ (aC1 func189 (by kernel_rfl) rfl) w dK;clear dK;refine au2 func161 rfl trivial ?_ rfl;simp only[ntmps161,ao5,ao1,ap0,Nat.reduceAdd,Nat.reduceSub,an7,an6,ao6,ap9,ao8,ao7]
 gi_wp2
 refine⟨trivial,λ_=>O,Wj.mono ?_⟩;rintro e W ⟨v,ss,rfl,hS,aS,fC,hb⟩;have hlen:ss.length=Y.length:=by rw[hS.length_eq,ax8]
 obtain⟨rfl,hz⟩|⟨gb,cap,cur,rfl,uP,fD,r1,r2,r3,r4⟩:=aS.2
 ·gi_wp2
  refine⟨trivial,λ_=>O,(aq2.2 (AnyF.slices_SortFunc_none {sortI with} none 0 _ W)).mono ?_⟩;rintro e w' ⟨rfl,rfl⟩
  gi_wp2
  go_ret
  exact⟨_,rfl,hb,λ_=>rfl,λh=>absurd h O⟩
 ·have bg:0<Y.length:=by
   obtain h0|h0:=av1 Y.length
   ·have:ss=[]:=aq9 O;exact absurd (fC.2 this) R
   ·exact h0
  have hcR:W.cell? (J Rb 0)=some (.func (.func anc) #[] #[]):=(hb.cell (p:=(J Rb 0)) (an4 w _ hR)).trans hR;have hcM:W.cell? (J Mb 0)=some (.map (some BT)):=(hb.cell (p:=(J Mb 0)) (an4 w _ l9)).trans l9;have n1:Rb≠gb:=by have h:Rb<w.heap.size:=an4 w _ hR;omega
  have n2:Mb≠gb:=by have h:Mb<w.heap.size:=an4 w _ l9;omega
  have n3:BT≠gb:=by have h:=hM.lt;omega
  have hs:=Zq anc rk hR0 eg τ hτ Y Le ss hS bg Rb Mb BT gb cap _ cur W fD (by rw[Nat.mul_one]at r4;exact r4) hcR hcM (hM.kept (hb.block BT hM.lt)) n1 n2 n3;have pR:=F hlen;clear hlen eg
  gi_wp2
  refine⟨trivial,λ_=>O,(aq2.2 hs).mono ?_⟩;rintro e w' ⟨rfl,hg,hcu,hc⟩
  gi_wp2
  go_ret
  have hlen:=Z pR;refine⟨_,rfl,hb.grown hg hb.size (λk e=>by cases e;exact uP),λh0=>absurd h0 O,λ_=>⟨gb,cap,?_,uP,hcu,hc⟩⟩
  show Value.slice (some (J gb 0)) ss.length cap=_
  rw[hlen]
theorem aad(n:Nat)(BT:Nat)(w:World):CallsIn Fence.wide n prog 162 #[.map (some BT)] w λe w'=>
  e=.returned (.func (.func 189) #[] #[Aa w.heap.size 0])/\w'=w.alloc (.cells #[.map (some BT)] 128):=by
 refine aq2.2 ?_
 go_enter func162,ntmps162
 go_wp2_with fail
 go_ret
 exact⟨rfl,rfl⟩
theorem I7(anc BT:Nat)(w:World):Calls prog 121 #[.map (some BT),.func (.func anc) #[] #[]] w λe w'=>
  e=.returned (.func (.func 160) #[] #[Aa w.heap.size 0,Aa (w.heap.size+1) 0])/\∃t,w'=(w.alloc (.cells #[.map (some BT)] 128)).alloc (.cells #[.func (.func anc) #[] #[]] t):=by
 go_in
 go_wp2_with fail
 go_ret
 exact⟨rfl,_,rfl⟩
def KIi(m0 Mb BT:Nat)(W W':World):Prop:=(∀(k:Nat) (cur:Array Value) (x:Nat×Nat),m0<=k->W.heap[k]?=some (.cells cur 3 x)->W'.heap[k]?=some (.cells cur 3 x))/\W'.heap[Mb]?=W.heap[Mb]?/\W'.heap[BT]?=W.heap[BT]?
theorem KIi.trans{m0 Mb BT:Nat}{Ad B C:World}(h:KIi m0 Mb BT Ad B)(g:KIi m0 Mb BT B C):KIi m0 Mb BT Ad C:=⟨λk o x hk ho=>g.1 k o x hk (h.1 k o x hk ho),g.2.1.trans h.2.1,g.2.2.trans h.2.2⟩
theorem NH(anc:Nat)(rk:Nat->Nat->Int)(hR0:FT anc rk)(eg:∀args w,(callFunc anc args).run prog w=.ok (.enter anc args) w)(τ:List Tr)(hτ:τ.length<=1000)(n:Nat)(hn:5<=n)(Mb Rb BT m0:Nat)(Y:List Nat)(w:World)(UJ:m0<=w.heap.size)(Le:Rkd rk τ Y)
 (l9:w.cell? (J Mb 0)=some (.map (some BT)))(hR:w.cell? (J Rb 0)=some (.func (.func anc) #[] #[]))(hM:rZ w BT τ) :
  FQ Fence.wide n prog 160 #[Aa Mb 0,Aa Rb 0] (Y.map λx=>#[kN x,Ez τ x]) (KIi m0 Mb BT) w:=by
 have htl:Y.length<=1000:=by rw[Le.perm.length_eq];simpa using hτ
 have hle:∀x∈Y,x<=1000:=λx hx=>by
  obtain⟨q,hq,rfl⟩:=ap6.1 (Le.perm.mem_iff.1 hx);exact hM.le q hq
 intro l Af W hW hJ hY h0;have BM:W.cell? (J Mb 0)=some (.map (some BT)):=(hW.cell (p:=(J Mb 0)) (an4 w _ l9)).trans l9;have hRW:W.cell? (J Rb 0)=some (.func (.func anc) #[] #[]):=(hW.cell (p:=(J Rb 0)) (an4 w _ hR)).trans hR;have yS:rZ W BT τ:=hM.kept (hW.block BT hM.lt);have Gh:=hW.size;have V4:Mb<W.heap.size:=an4 W _ BM;have JM:=yS.lt;have Gg:=QL anc rk hR0 eg τ hτ (n-1) O Y Le W.heap.size Rb Mb BT (W.alloc (.cells #[.map (some BT)] 128)) (by simp[go_sem]) ((an1 _ _ none).cell hRW R) ((an1 _ _ none).cell BM R) (yS.kept (ao3 _ _ _ JM));have HM:=F hM;have HMW:=F yS;refine au2 func160 rfl trivial ?_ rfl;simp only[ntmps160,ao5,ao1,ap0,Nat.reduceAdd,Nat.reduceSub,an7,an6,ao6,ap9,ao8,ao7]
 gi_wp2
 refine⟨trivial,λ_=>O,(aad (n-1) BT W).mono ?_⟩;rintro e w1 ⟨rfl,rfl⟩
 gi_wp2
 refine⟨trivial,λ_=>O,Gg.mono ?_⟩;rintro e w2 ⟨v,rfl,fF,hH⟩;have hb:Below W.heap.size W w2:=((aq1 _ W).alloc (an2 _) _).trans (fF.mono R);have JW:Af 0 w2:=hJ 0 W w2 none h0 ⟨hb.os,hb.tape,hb.output,hb.size,λk hk _=>hb.block k hk⟩ (λr e=>by cases e);have AQ:w2.heap[Mb]?=W.heap[Mb]?:=hb.block Mb V4;have WH:w2.heap[BT]?=W.heap[BT]?:=hb.block BT JM;obtain hz|yL:=av1 Y.length
 ·rw[hH.1 hz];have HZ:=F hz
  gi_wp2
  gi_loopw [13] (λi wr=>i=A 0/\Af 0 wr) (λ_ _=>0)
  case atStart=>exact⟨rfl,JW⟩
  case round=>
   obtain⟨rfl,YF⟩:=hrel
   gi_wp2
   go_end0
   refine⟨⟨_,rfl⟩,?_⟩;rw[au3,Z HZ];exact YF
 ·obtain⟨G,cap,rfl,hG,⟨cur,hoG⟩,hcs⟩:=hH.2 yL;have hG':W.heap.size<=G:=by simp at hG;omega
  have Hg:=F hcs
  gi_wp2
  gi_loopw [13] (λi wr=>∃k:Nat,k<=Y.length/\i=A k/\Af k wr/\wr.heap[G]?=some (.cells cur 3 (0,0))/\wr.heap[Mb]?=W.heap[Mb]?/\wr.heap[BT]?=W.heap[BT]?) (λi _=>Y.length-(intOf i).toNat)
  case atStart=>exact⟨0,ap7 _,rfl,JW,hoG,AQ,WH⟩
  case round=>
   obtain⟨k,hk,rfl,zQ,sJ,hMk,hBk⟩:=hrel;by_cases hlt:k<Y.length
   ·have kc:wr.cell? (J G k)=some (A Y[k]):=by
     have I:=Z Hg k hlt;exact(an9 (sJ.trans hoG.symm)).trans I
    have lZ:=hY k (by simpa using hlt);rw[show(Y.map λx=>#[kN x,Ez τ x])[k]'(by simpa using hlt)=#[kN Y[k],Ez τ Y[k]] by simp]at lZ;have hMr:rZ wr BT τ:=(Z HMW).kept hBk;have qJ:=hMr.look1 (hle Y[k] (an5 hlt));have aaN:wr.cell? (J Mb 0)=some (.map (some BT)):=(an9 hMk).trans BM;simp only[kN]at lZ;generalize hlv:Ez τ Y[k]=lv at lZ qJ;generalize Y[k]=t at kc lZ qJ hlv;have iF:(k:Int)<(Y.length:Int):=O;obtain⟨fn,tmps,assign,body,hy,hR⟩:=lZ wr zQ
    gi_wp2
    refine⟨λ_=>O,hR.mono ?_⟩;rintro e W3 ⟨rfl,xM,pG⟩;have jF:W3.heap[G]?=some (.cells cur 3 (0,0)):=pG.1 G cur _ O sJ;have hM3:W3.heap[Mb]?=W.heap[Mb]?:=pG.2.1.trans hMk;have uQ:W3.heap[BT]?=W.heap[BT]?:=pG.2.2.trans hBk
    gi_wp2
    go_roundw
    case rel=>exact⟨k+1,O,by go_num,xM,jF,hM3,uQ⟩
    case measure=>simp[intOf];omega
   ·have gW:k=Y.length:=O;have Lr:=F gW;have iF:¬(k:Int)<(Y.length:Int):=O
    gi_wp2
    go_end0
    refine⟨⟨_,rfl⟩,?_⟩;rw[<-Z Lr];exact zQ
end Go.Proofs.YthcppbmkacbbiabGreat
