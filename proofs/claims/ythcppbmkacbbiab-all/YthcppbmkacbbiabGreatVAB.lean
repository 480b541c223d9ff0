import Derived.Test.YthcppbmkacbbiabGreatVl
import Derived.Test.YthcppbmkacbbiabGreatVAA
import Derived.RangeFuncNested
import Derived.RangeFuncBound
import Derived.RangeFuncLeaves
import Derived.Shelf.RegionOpen
import Derived.OwnWalkIn
import Derived.TacticsInMore
import Derived.LoopNIn
import Derived.LoopIn
import Derived.Sort.MapsRangeIn
import Derived.RangeFuncBox
import Derived.Maps.OwnOps
import Derived.Deep.RegionHeldLaw
set_option linter.unusedSimpArgs false
namespace Go.Proofs.YthcppbmkacbbiabGreat
open Go.Proofs.Tryz
section
open Go.RowKit
def FQ(aj:Fence)(n:Nat)(P:Program)(g:Nat)(lb:Array Value)(xs:List (Array Value))(Kp:World->World->Prop)(w:World):Prop:=
 ∀(l:Nat) (Af:Nat->World->Prop) (W:World),Below w.heap.size w W->AbidesFrom W.heap.size Af->
  (∀k (hk:k<xs.length) W1,Af k W1->YieldAt aj (n-1) P l xs[k] W1 λe W'=>e=.returned (.bool true)/\Af (k+1) W'/\Kp W1 W')->
  Af 0 W->
  CallsIn aj n P g (#[.func (.yield l) #[] #[]]++lb) W λe W'=>(∃v,e=.returned v)/\Af xs.length W'
def jX(B:Nat)(Kp:World->World->Prop)(h1:World->Prop)(W:World):Exit->Act->World->Prop
 |.normal,_,W'=>KeepsFrom B W W'/\Kp W W'/\h1 W'
 |_,_,_=>False
theorem dZ{aj:Fence}{n:Nat}{P:Program}{g:Operand}{ps:Array Tmp}{assign body:Code}{Q:Exit->Act->World->Prop}{a:Act}{w:World}
 (yK:aj.round=none)(I:1<=n){gf:Nat}{lb:Array Value}(hg:a.eval g=.func (.func gf) #[] lb)(TQ:aj.fn gf)(eg:∀args w,(callFunc gf args).run P w=.ok (.enter gf args) w)
 {xs:List (Array Value)}{Kp:World->World->Prop}{w0:World}(dK:FQ aj (n-1) P gf lb xs Kp w0)
 (Pe:∀{Ad B C:World},Kp Ad B->Kp B C->Kp Ad C)(YE:∀(W:World) (l:Nat) (o o':Obj),w.heap.size<=l->W.heap[l]?=some o->o.isCells=false->o.isWalk=false->Kp W (W.putObj l o'))
 (kQ:Below w0.heap.size w0 w)(oQ:∀k (hk:k<xs.length),xs[k].size=ps.size)
 (h1:Nat->World->Prop)(hI:OwnFrom w.heap.size h1)(h0:h1 0 w)(Ax:Nat->Act->World->Prop)(hAx:∀k a',OwnFrom w.heap.size (fun(_:Unit) W=>Ax k a' W))
 (qm:∀(l k:Nat) (hk:k<xs.length) (W:World) (K:Act->World->Prop),h1 k W->(∀a' W',KeepsFrom w.heap.size W W'->Kp W W'->h1 k W'->Ax k a' W'->K a' W')->
   assign.wpIn (aj.inRound l) (n-1-1) P (Exit.then K (λ_ _ _=>False)) {tmps:=(ps.zip xs[k]).foldl (λt (p,v)=>t.setIfInBounds p v) a.tmps,defers:=[]} W)
 (D6:∀(l k:Nat) (a':Act) (W:World),k<xs.length->w.heap.size<=l->h1 k W->Ax k a' W->body.wpIn (aj.inRound l) (n-1-1) P (jX w.heap.size Kp (h1 (k+1)) W) a' W)
 (nD:∀(D:Nat) (W:World),w.heap.size<=D->h1 xs.length W->W.heap[D]?=some (.deferred (some []))->Q .normal {a with defers:={target:=.collected D,args:=#[]}::a.defers} W) :
  (Code.rangeFunc g ps assign body).wpIn aj n P Q a w:=by
 refine wpIn_rangeFunc ?_;intro fn hfn;rw[yK];obtain⟨lp,qI⟩:∃lp:LoopState->Option Code->Loop,lp=λst pe=>{state:=st,pending:=pe,fn,tmps:=a.tmps,params:=ps,assign,body,defers:=w.heap.size}:=⟨_,rfl⟩;obtain⟨W1,dO⟩:∃W1,(w.alloc (.deferred (some []))).alloc (.loop (lp .ready none))=W1:=⟨_,rfl⟩;have vZ:W1.heap.size=w.heap.size+2:=by rw[<-dO];simp
 have DF:W1.heap[w.heap.size+1]?=some (.loop (lp .ready none)):=by
  have h:=World.alloc_heap_new (w.alloc (.deferred (some []))) (.loop (lp .ready none));rw[World.size_alloc]at h;rw[<-dO];exact h
 have Cb:W1.heap[w.heap.size]?=some (.deferred (some [])):=by
  rw[<-dO];exact(Below.heap_alloc _ _ _ R).trans (World.alloc_heap_new w _)
 have inv1:h1 0 W1:=by rw[<-dO];exact hI.alloc _ (hI.alloc _ h0)
 have wR:Below w0.heap.size w0 W1:=by
  rw[<-dO];exact kQ.trans ((((Below.refl _ w).alloc (an2 _) _).alloc R _).mono kQ.size)
 have abide:AbidesFrom W1.heap.size (λk W=>h1 k W/\W.heap[w.heap.size+1]?=some (.loop (lp .ready none))/\W.heap[w.heap.size]?=some (.deferred (some []))):=by
  intro k Ad B row hk jS hr;refine⟨hI k Ad B row hk.1 jS (λr e=>?_),(grownBy_keeps jS (λr e=>(hr r e).2) hk.2.1 rfl).trans hk.2.1,(grownBy_keeps jS (λr e=>(hr r e).2) hk.2.2 rfl).trans hk.2.2⟩;obtain⟨M,o,ho,hw⟩:=hr r e;exact⟨O,o,ho,Obj.not_cells_of_walk hw⟩
 refine⟨w.heap.size+1,[{target:=.collected w.heap.size,args:=#[]}],W1,{target:=.fn (.func gf) lb,args:=#[.func (.yield (w.heap.size+1)) #[] #[]]},W1,gf,
  #[.func (.yield (w.heap.size+1)) #[] #[]]++lb,W1,?_,?_,?_,?_,λ_=>I,?_⟩
 ·rw[<-dO,qI];exact run_enterLoop_outer _ _ _ _ _
 ·simp only[resolve,hg];simp[go_sem]
 ·intro f' O5;simp[Target.leads]at O5;subst O5;exact TQ
 ·simp[invoke,go_sem,eg]
 ·refine(dK (w.heap.size+1) _ W1 wR abide ?_ ⟨inv1,DF,Cb⟩).mono ?_
  ·rintro k hk W ⟨hi,hl,hd⟩;have hy:=run_yield (P:=P) (args:=xs[k]) hl (by rw[qI];exact oQ k hk);rw[qI]at hy;refine⟨fn,_,assign,body,hy,roundIn_of_wpIn hfn (qm _ k hk W _ hi ?_)⟩;intro a' Wa ru kpA iA ax;have lH:=ru.same _ _ O hl rfl;have hd2:=ru.same _ _ (an2 _) hd rfl;have hlt:w.heap.size+1<Wa.heap.size:=(an0.1 lH).1;refine⟨_,run_beginRound lH (by rw[qI]),?_⟩;have Tc:(Wa.putObj (w.heap.size+1) (.loop {lp .ready none with state:=.busy})).heap[w.heap.size+1]?=some (.loop {lp .ready none with state:=.busy}):=World.putObj_heap_same hlt;have hd3:(Wa.putObj (w.heap.size+1) (.loop {lp .ready none with state:=.busy})).heap[w.heap.size]?=some (.deferred (some [])):=(World.putObj_heap_other O).trans hd2;have kp3:Kp Wa (Wa.putObj (w.heap.size+1) (.loop {lp .ready none with state:=.busy})):=YE _ _ _ _ O lH rfl rfl;refine wpIn_mono (D6 (w.heap.size+1) k a' _ hk O (hI.putObj _ iA O lH rfl) ((hAx k a').putObj (s:=()) _ ax O lH rfl)) ?_;rintro e a3 W3 hp;cases e with
   |normal=>
    obtain⟨ni,kp4,i3⟩:=hp;have ED:=ni.same _ _ O Tc rfl;have hr:=run_endRound (P:=P) none ED;rw[qI]at hr;refine⟨_,_,hr,rfl,⟨hI.putObj _ i3 O ED rfl,?_,?_⟩,Pe kpA (Pe (Pe kp3 kp4) (YE _ _ _ _ O ED rfl rfl))⟩
    ·rw[qI];exact World.putObj_heap_same (an0.1 ED).1
    ·exact(World.putObj_heap_other O).trans (ni.same _ _ (an2 _) hd3 rfl)
   |ret=>exact hp.elim
   |exit id=>exact hp.elim
   |goto t=>exact hp.elim
   |panic ch=>exact hp.elim
   |outgrown=>exact hp.elim
  ·rintro e W2 ⟨⟨v,rfl⟩,hi,hl,hd⟩;have hr:=run_endLoop (P:=P) hl (by rw[qI];simp);rw[qI]at hr;exact⟨none,_,hr,nD _ _ (an2 _) (hI.putObj _ hi O hl rfl) ((World.putObj_heap_other O).trans hd)⟩
def nY{α:Type}(aj:Fence)(n:Nat)(P:Program)(g:Nat)(lb:Array Value)(enc:α->Array Value)(S:List α->Prop)(N:Nat)(Kp:World->World->Prop)(w:World):Prop:=
 ∀(l:Nat) (Af:List α->World->Prop) (W:World),Below w.heap.size w W->AbidesFrom W.heap.size Af->
  (∀pre x W1,Af pre W1->pre.length<N->YieldAt aj (n-1) P l (enc x) W1 λe W'=>e=.returned (.bool true)/\Af (pre++[x]) W'/\Kp W1 W')->
  Af [] W->
  CallsIn aj n P g (#[.func (.yield l) #[] #[]]++lb) W λe W'=>(∃v,e=.returned v)/\∃xs,S xs/\Af xs W'
theorem jk{α:Type}{aj:Fence}{n:Nat}{P:Program}{g:Operand}{ps:Array Tmp}{assign body:Code}{Q:Exit->Act->World->Prop}{a:Act}{w:World}
 (yK:aj.round=none)(I:1<=n){gf:Nat}{lb:Array Value}(hg:a.eval g=.func (.func gf) #[] lb)(TQ:aj.fn gf)(eg:∀args w,(callFunc gf args).run P w=.ok (.enter gf args) w)
 {enc:α->Array Value}{S:List α->Prop}{N:Nat}{Kp:World->World->Prop}{w0:World}(dK:nY aj (n-1) P gf lb enc S N Kp w0)
 (Pe:∀{Ad B C:World},Kp Ad B->Kp B C->Kp Ad C)(YE:∀(W:World) (l:Nat) (o o':Obj),w.heap.size<=l->W.heap[l]?=some o->o.isCells=false->o.isWalk=false->Kp W (W.putObj l o'))
 (kQ:Below w0.heap.size w0 w)(oQ:∀x,(enc x).size=ps.size)
 (h1:List α->World->Prop)(hI:OwnFrom w.heap.size h1)(h0:h1 [] w)(Ax:α->Act->World->Prop)(hAx:∀x a',OwnFrom w.heap.size (fun(_:Unit) W=>Ax x a' W))
 (qm:∀(l:Nat) (pre:List α) (x:α) (W:World) (K:Act->World->Prop),h1 pre W->(∀a' W',KeepsFrom w.heap.size W W'->Kp W W'->h1 pre W'->Ax x a' W'->K a' W')->
   assign.wpIn (aj.inRound l) (n-1-1) P (Exit.then K (λ_ _ _=>False)) {tmps:=(ps.zip (enc x)).foldl (λt (p,v)=>t.setIfInBounds p v) a.tmps,defers:=[]} W)
 (D6:∀(l:Nat) (pre:List α) (x:α) (a':Act) (W:World),pre.length<N->w.heap.size<=l->h1 pre W->Ax x a' W->body.wpIn (aj.inRound l) (n-1-1) P (jX w.heap.size Kp (h1 (pre++[x])) W) a' W)
 (nD:∀(D:Nat) (xs:List α) (W:World),w.heap.size<=D->S xs->h1 xs W->W.heap[D]?=some (.deferred (some []))->Q .normal {a with defers:={target:=.collected D,args:=#[]}::a.defers} W) :
  (Code.rangeFunc g ps assign body).wpIn aj n P Q a w:=by
 refine wpIn_rangeFunc ?_;intro fn hfn;rw[yK];obtain⟨lp,qI⟩:∃lp:LoopState->Option Code->Loop,lp=λst pe=>{state:=st,pending:=pe,fn,tmps:=a.tmps,params:=ps,assign,body,defers:=w.heap.size}:=⟨_,rfl⟩;obtain⟨W1,dO⟩:∃W1,(w.alloc (.deferred (some []))).alloc (.loop (lp .ready none))=W1:=⟨_,rfl⟩;have vZ:W1.heap.size=w.heap.size+2:=by rw[<-dO];simp
 have DF:W1.heap[w.heap.size+1]?=some (.loop (lp .ready none)):=by
  have h:=World.alloc_heap_new (w.alloc (.deferred (some []))) (.loop (lp .ready none));rw[World.size_alloc]at h;rw[<-dO];exact h
 have Cb:W1.heap[w.heap.size]?=some (.deferred (some [])):=by
  rw[<-dO];exact(Below.heap_alloc _ _ _ R).trans (World.alloc_heap_new w _)
 have inv1:h1 [] W1:=by rw[<-dO];exact hI.alloc _ (hI.alloc _ h0)
 have wR:Below w0.heap.size w0 W1:=by
  rw[<-dO];exact kQ.trans ((((Below.refl _ w).alloc (an2 _) _).alloc R _).mono kQ.size)
 have abide:AbidesFrom W1.heap.size (λk W=>h1 k W/\W.heap[w.heap.size+1]?=some (.loop (lp .ready none))/\W.heap[w.heap.size]?=some (.deferred (some []))):=by
  intro k Ad B row hk jS hr;refine⟨hI k Ad B row hk.1 jS (λr e=>?_),(grownBy_keeps jS (λr e=>(hr r e).2) hk.2.1 rfl).trans hk.2.1,(grownBy_keeps jS (λr e=>(hr r e).2) hk.2.2 rfl).trans hk.2.2⟩;obtain⟨M,o,ho,hw⟩:=hr r e;exact⟨O,o,ho,Obj.not_cells_of_walk hw⟩
 refine⟨w.heap.size+1,[{target:=.collected w.heap.size,args:=#[]}],W1,{target:=.fn (.func gf) lb,args:=#[.func (.yield (w.heap.size+1)) #[] #[]]},W1,gf,
  #[.func (.yield (w.heap.size+1)) #[] #[]]++lb,W1,?_,?_,?_,?_,λ_=>I,?_⟩
 ·rw[<-dO,qI];exact run_enterLoop_outer _ _ _ _ _
 ·simp only[resolve,hg];simp[go_sem]
 ·intro f' O5;simp[Target.leads]at O5;subst O5;exact TQ
 ·simp[invoke,go_sem,eg]
 ·refine(dK (w.heap.size+1) _ W1 wR abide ?_ ⟨inv1,DF,Cb⟩).mono ?_
  ·rintro pre x W ⟨hi,hl,hd⟩ wB;have hy:=run_yield (P:=P) (args:=enc x) hl (by rw[qI];exact oQ x);rw[qI]at hy;refine⟨fn,_,assign,body,hy,roundIn_of_wpIn hfn (qm _ pre x W _ hi ?_)⟩;intro a' Wa ru kpA iA ax;have lH:=ru.same _ _ O hl rfl;have hd2:=ru.same _ _ (an2 _) hd rfl;have hlt:w.heap.size+1<Wa.heap.size:=(an0.1 lH).1;refine⟨_,run_beginRound lH (by rw[qI]),?_⟩;have Tc:(Wa.putObj (w.heap.size+1) (.loop {lp .ready none with state:=.busy})).heap[w.heap.size+1]?=some (.loop {lp .ready none with state:=.busy}):=World.putObj_heap_same hlt;have hd3:(Wa.putObj (w.heap.size+1) (.loop {lp .ready none with state:=.busy})).heap[w.heap.size]?=some (.deferred (some [])):=(World.putObj_heap_other O).trans hd2;have kp3:Kp Wa (Wa.putObj (w.heap.size+1) (.loop {lp .ready none with state:=.busy})):=YE _ _ _ _ O lH rfl rfl;refine wpIn_mono (D6 (w.heap.size+1) pre x a' _ wB O (hI.putObj _ iA O lH rfl) ((hAx x a').putObj (s:=()) _ ax O lH rfl)) ?_;rintro e a3 W3 hp;cases e with
   |normal=>
    obtain⟨ni,kp4,i3⟩:=hp;have ED:=ni.same _ _ O Tc rfl;have hr:=run_endRound (P:=P) none ED;rw[qI]at hr;refine⟨_,_,hr,rfl,⟨hI.putObj _ i3 O ED rfl,?_,?_⟩,Pe kpA (Pe (Pe kp3 kp4) (YE _ _ _ _ O ED rfl rfl))⟩
    ·rw[qI];exact World.putObj_heap_same (an0.1 ED).1
    ·exact(World.putObj_heap_other O).trans (ni.same _ _ (an2 _) hd3 rfl)
   |ret=>exact hp.elim
   |exit id=>exact hp.elim
   |goto t=>exact hp.elim
   |panic ch=>exact hp.elim
   |outgrown=>exact hp.elim
  ·rintro e W2 ⟨⟨v,rfl⟩,xs,hS,hi,hl,hd⟩;have hr:=run_endLoop (P:=P) hl (by rw[qI];simp);rw[qI]at hr;exact⟨none,_,hr,nD _ _ _ (an2 _) hS (hI.putObj _ hi O hl rfl) ((World.putObj_heap_other O).trans hd)⟩
end
section
open Go.RowKit Go.Maps Go.WideMaps
open au (Key put)
def mkT(x:Int×Int×Int):Value:=.agg #[Ae x.1,A x.2.1,A x.2.2]
def mkC(x:Int×Int):Value:=.agg #[Ae x.1,A x.2]
theorem keyLits_int{P:Program}{t:TypeId}{q:IntKind}(hu:P.underlying t=some (.int q)){d:Nat}{v:Value}{ls:List Lit}(h:P.keyLits d t [v]=some ls):∃a,v=.int q a:=by
 cases d with
 |zero=>simp[Program.keyLits]at h
 |succ d=>
  unfold Program.keyLits at h;rw[hu]at h;cases v<;>simp at h;exact⟨_,by rw[h.1.1]⟩
theorem nM{P:Program}{k:TypeId}{fs:Array Field}{v:Value}{l:Lit}(hu:P.underlying k=some (.struct fs))(h:keyOf P k v=some l):v.formed P k=true/\∃ls,P.keyLits (P.types.size+1) k v.cells.toList=some ls:=by
 unfold keyOf at h;rw[hu]at h;simp only at h;split at h
 ·rename_i hf;simp at hf;obtain⟨ls,uM,_⟩:=Option.map_eq_some_iff.1 h;exact⟨hf.2,ls,uM⟩
 ·cases h
theorem akD{α:Type}{cs:Array α}(h:cs.size=3):∃a b c,cs=#[a,b,c]:=by
 obtain⟨l⟩:=cs
 match l,h with
 |[a,b,c],_=>exact⟨a,b,c,rfl⟩
theorem amb{α:Type}{cs:Array α}(h:cs.size=2):∃a b,cs=#[a,b]:=by
 obtain⟨l⟩:=cs
 match l,h with
 |[a,b],_=>exact⟨a,b,rfl⟩
theorem acO{key:Value}{kl:Lit}(h:keyOf prog 76 key=some kl):∃x,key=mkT x:=by
 obtain⟨tX,ls,uM⟩:=nM underlying76 h;cases key with
 |agg cs=>
  have hs:cs.size=3:=by
   simp only[Value.formed,underlying76,P8]at tX;simpa using tX
  obtain⟨c0,c1,c2,rfl⟩:=akD hs
  ·simp only[Value.cells]at uM;obtain⟨n,hn⟩:=EM;rw[hn]at uM;unfold Program.keyLits at uM;simp only[underlying76,P8]at uM;rw[ao4 ⟨rfl,by kernel_rfl⟩]at uM;obtain⟨lss,hm,_⟩:=Option.map_eq_some_iff.1 uM;simp only[aC4,aC7,FM,FK,List.drop,List.take]at hm;obtain⟨l0,h0,hm⟩:=au1.1 hm;obtain⟨r1,hm,_⟩:=au1.1 hm;obtain⟨l1,I,hm⟩:=au1.1 hm;obtain⟨r2,hm,_⟩:=au1.1 hm;obtain⟨l2,M,hm⟩:=au1.1 hm;obtain⟨a,rfl⟩:=keyLits_int underlying5 h0;obtain⟨b,rfl⟩:=keyLits_int underlying3 I;obtain⟨c,rfl⟩:=keyLits_int underlying3 M;exact⟨(a,b,c),rfl⟩
 |_=>simp[Value.formed,underlying76]at tX
theorem acP{key:Value}{kl:Lit}(h:keyOf prog 82 key=some kl):∃x,key=mkT x:=by
 obtain⟨tX,ls,uM⟩:=nM underlying82 h;cases key with
 |agg cs=>
  have hs:cs.size=3:=by
   simp only[Value.formed,underlying82,P9]at tX;simpa using tX
  obtain⟨c0,c1,c2,rfl⟩:=akD hs
  ·simp only[Value.cells]at uM;obtain⟨n,hn⟩:=EM;rw[hn]at uM;unfold Program.keyLits at uM;simp only[underlying82,P9]at uM;rw[ao4 ⟨rfl,by kernel_rfl⟩]at uM;obtain⟨lss,hm,_⟩:=Option.map_eq_some_iff.1 uM;simp only[aC4,aC7,FM,FK,List.drop,List.take]at hm;obtain⟨l0,h0,hm⟩:=au1.1 hm;obtain⟨r1,hm,_⟩:=au1.1 hm;obtain⟨l1,I,hm⟩:=au1.1 hm;obtain⟨r2,hm,_⟩:=au1.1 hm;obtain⟨l2,M,hm⟩:=au1.1 hm;obtain⟨a,rfl⟩:=keyLits_int underlying5 h0;obtain⟨b,rfl⟩:=keyLits_int underlying3 I;obtain⟨c,rfl⟩:=keyLits_int underlying3 M;exact⟨(a,b,c),rfl⟩
 |_=>simp[Value.formed,underlying82]at tX
theorem acQ{key:Value}{kl:Lit}(h:keyOf prog 79 key=some kl):∃x,key=mkC x:=by
 obtain⟨tX,ls,uM⟩:=nM underlying79 h;cases key with
 |agg cs=>
  have hs:cs.size=2:=by
   simp only[Value.formed,underlying79,Qa]at tX;simpa using tX
  obtain⟨c0,c1,rfl⟩:=amb hs
  ·simp only[Value.cells]at uM;obtain⟨n,hn⟩:=EM;rw[hn]at uM;unfold Program.keyLits at uM;simp only[underlying79,Qa]at uM;rw[ao4 ⟨rfl,by kernel_rfl⟩]at uM;obtain⟨lss,hm,_⟩:=Option.map_eq_some_iff.1 uM;simp only[aC4,aC7,FM,FK,List.drop,List.take]at hm;obtain⟨l0,h0,hm⟩:=au1.1 hm;obtain⟨r1,hm,_⟩:=au1.1 hm;obtain⟨l1,I,hm⟩:=au1.1 hm;obtain⟨a,rfl⟩:=keyLits_int underlying5 h0;obtain⟨b,rfl⟩:=keyLits_int underlying3 I;exact⟨(a,b),rfl⟩
 |_=>simp[Value.formed,underlying79]at tX
theorem ac1:(prog.info? 76).map (λi=>(i.zero,i.size,i.bytes))=some (some (.agg #[Ae 0,A 0,A 0]),3,24):=by kernel_rfl
theorem infoP:(prog.info? 82).map (λi=>(i.zero,i.size,i.bytes))=some (some (.agg #[Ae 0,A 0,A 0]),3,24):=by kernel_rfl
theorem Yk:(prog.info? 79).map (λi=>(i.zero,i.size,i.bytes))=some (some (.agg #[Ae 0,A 0]),2,16):=by kernel_rfl
theorem Ko{α:Type}[BEq α][LawfulBEq α]{k:Nat}{kv:α->Value}{Y:List α}{D:DataW Unit}(K:Keyed prog k)
 (aX:∀x l,keyOf prog k (kv x)=some l->Maps.has D l=Y.contains x/\(Y.contains x=true->D.atKey l (.lit (.int .i64 0))=.lit (.int .i64 (Y.idxOf x))))
 (iM:∀l,Maps.has D l=true->∃x,Y.contains x=true/\keyOf prog k (kv x)=some l)
 {key:Value}{kl:Lit}(aV:keyOf prog k key=some kl){c:Int}(gU:∀zd,D.atKey kl zd=.lit (.int .i64 c)) :
  ∃x,x∈Y/\key=kv x/\c=Y.idxOf x:=by
 obtain⟨x,hx,hk⟩:=iM kl (has_true_of_atKey gU);refine⟨x,by simpa using hx,K.inj aV hk,?_⟩;have I:=(aX x kl hk).2 hx;rw[gU]at I;simpa using I
structure Coll{α:Type}(k:Nat)(kv:α->Value)(Y:List α)(left:Lit->Bool)(ss:List (Fin Y.length)):Prop where
 nd:ss.Nodup
 mem:∀(i:Fin Y.length) (l:Lit),keyOf prog k (kv Y[i])=some l->(i∈ss↔left l=false)
section
variable {α:Type} {k:Nat} {kv:α->Value} {Y:List α} {left:Lit->Bool} {ss:List (Fin Y.length)}
theorem Coll.start(h:∀(i:Fin Y.length) (l:Lit),keyOf prog k (kv Y[i])=some l->left l=true):Coll k kv Y left []:=
 ⟨az6,λi l hl=>by simp[h i l hl]⟩
theorem Coll.step(K:Keyed prog k)(adl:∀a b:α,kv a=kv b->a=b)(iL:Y.Nodup)(h:Coll k kv Y left ss){i:Fin Y.length}{kl:Lit}(aV:keyOf prog k (kv Y[i])=some kl)(qJ:left kl=true) :
  Coll k kv Y (λz=>left z&&!z.sameKey kl) (ss++[i]):=by
 have OZ:i∉ss:=λhx=>by have:=(h.mem i kl aV).1 hx;rw[qJ]at this;cases this
 refine⟨az1.2 ⟨h.nd,R,λa ha b hb=>by simp at hb;subst hb;exact λe=>OZ (e▸ha)⟩,λj l hl=>?_⟩;by_cases e:j=i
 ·subst e;rw[hl]at aV;cases aV;simp[WideAt.sameKey_self (K.key hl)]
 ·have bg:l≠kl:=λe'=>e (by
   subst e';have I:=adl _ _ (K.inj hl aV);obtain M|M|M:=Nat.lt_trichotomy j.val i.val
   ·exact absurd I (av4.1 iL j.val i.val j.isLt i.isLt M)
   ·exact Fin.ext M
   ·exact absurd I.symm (av4.1 iL i.val j.val i.isLt j.isLt M))
  rw[sameKey_ne bg];simp[h.mem j l hl,e]
theorem Coll.perm(h:Coll k kv Y left ss)(hv:∀x∈Y,∃l,keyOf prog k (kv x)=some l)(hl:∀kl,left kl=false):ss.Perm (List.finRange Y.length):=by
 refine(List.perm_ext_iff_of_nodup h.nd (List.nodup_finRange _)).2 λi=>?_;obtain⟨l,hk⟩:=hv Y[i] (an5 i.isLt);simp[(h.mem i l hk).2 (hl l),List.mem_finRange]
end
theorem dB{W W':World}{row:Option Nat}{a:Addr}{v:Value}(h:W.cell? a=some v)(hg:W.grownBy W' row)(hr:∀r,row=some r->∃o:Obj,W.heap[r]?=some o/\o.isCells=false):W'.cell? a=some v:=
 hg.cell h (λe=>by
  obtain⟨o,ho,hc⟩:=hr _ e.symm;obtain⟨o',ho',Fj⟩:=aB3 h;rw[ho]at ho';cases ho';rw[hc]at Fj;cases Fj)
theorem rW{W W':World}{row:Option Nat}{a:Addr}{v:Value}(h:W.cell? a=some v)(hg:W.grownBy W' row)(hr:∀r,row=some r->∃o:Obj,W.heap[r]?=some o/\o.isCells=false):W'.frozen? a=W.frozen? a:=
 ar5 (hg.block a.block (an4 W a h) (λe=>by
  obtain⟨o,ho,hc⟩:=hr _ e.symm;obtain⟨o',ho',Fj⟩:=aB3 h;rw[ho]at ho';cases ho';rw[hc]at Fj;cases Fj))
theorem ou{W W':World}{row:Option Nat}{base e size n:Nat}{v:Value}{xs:List Value}(h:W.ownsRow base e size v n xs)(hg:W.grownBy W' row)(hr:∀r,row=some r->∃o:Obj,W.heap[r]?=some o/\o.isCells=false):W'.ownsRow base e size v n xs:=by
 refine h.kept hg ?_;obtain⟨rfl,_⟩|⟨g,cap,cur,rfl,_,fD,_⟩:=h.2
 ·exact Or.inl rfl
 ·refine Or.inr (λe=>?_);obtain⟨o,ho,hc⟩:=hr g (by rw[<-e];rfl);rw[fD]at ho;cases ho;cases hc
theorem fO{W:World}{base base' e size n:Nat}{v:Value}{xs:List Value}(h:W.ownsRow base e size v n xs)(hb:base'<=base):W.ownsRow base' e size v n xs:=by
 refine⟨h.1,?_⟩;obtain hn|⟨g,cap,cur,hv,hbg,rest⟩:=h.2
 ·exact .inl hn
 ·exact .inr ⟨g,cap,cur,hv,ap3 hb hbg,rest⟩
theorem gG{W:World}{base e size n:Nat}{v:Value}{xs:List Value}(h:W.ownsRow base e size v n xs)(hn:0<n):∃g cap,v=Ac g 0 n cap:=by
 obtain⟨_,h0⟩|⟨g,cap,cur,rfl,_⟩:=h.2
 ·omega
 ·exact⟨g,cap,rfl⟩
structure AI(w:World)(X base e k:Nat)(b:Bool)(len:Nat)(cells:List Value)(W:World):Prop where
 x:∃v,W.cell? (J X 0)=some v/\W.ownsRow base e k v len cells/\(v=.slice none 0 0↔b=true/\len=0)
 fx:W.frozen? (J X 0)=false
 below:Below w.heap.size w W
theorem AI.keep{w:World}{X base e k:Nat}{b:Bool}{len:Nat}{cells:List Value}{W W':World}{row:Option Nat}{B:Nat}(h:AI w X base e k b len cells W)(hg:W.grownBy W' row)
 (hw:w.heap.size<=B)(hr:∀r,row=some r->B<=r/\∃o:Obj,W.heap[r]?=some o/\o.isCells=false):AI w X base e k b len cells W':=by
 obtain⟨v,hx,aS,fC⟩:=h.x;have ng:∀r,row=some r->∃o:Obj,W.heap[r]?=some o/\o.isCells=false:=λr e=>(hr r e).2;refine⟨⟨v,dB hx hg ng,ou aS hg ng,fC⟩,(rW hx hg ng).trans h.fx,ownFrom_below (β:=Unit) (an2 _) hw () W W' row h.below hg hr⟩
theorem AI.after{w:World}{X base e k:Nat}{b:Bool}{len:Nat}{cells:List Value}{W Wc w3:World}{v:Value}
 (hXb:X<base)(h:AI w X base e k b len cells W)(hv:W.cell? (J X 0)=some v)(hvr:W.ownsRow base e k v len cells)(hg:W.grownBy Wc none)(dY:Wc.grownBy w3 v.ownBlock) :
  w3.cell? (J X 0)=some v/\w3.frozen? (J X 0)=false:=by
 have wG:=an4 W _ hv;have hnX:some X≠v.ownBlock:=λe=>by
  obtain⟨rfl,_⟩|⟨g,cap,cur,rfl,hb,fD,_⟩:=hvr.2
  ·cases e
  ·simp only[Value.ownBlock,as4]at e;omega
 have jF:w3.heap[X]?=W.heap[X]?:=(dY.block X (ap2 wG hg.size) hnX).trans (hg.block X wG R);exact⟨(an9 jF).trans hv,(ar5 jF).trans h.fx⟩
theorem AI.close{w:World}{X base e k:Nat}{b:Bool}{len:Nat}{cells news:List Value}{W Wc w3:World}{B:Nat}{a:Act}{v v':Value}{m:Nat}
 (hX:X<B)(hwX:w.heap.size<=X)(hXb:X<base)(h:AI w X base e k b len cells W)(hv:W.cell? (J X 0)=some v)(hvr:W.ownsRow base e k v len cells)(hg:W.grownBy Wc none)
 (hr:w3.ownsRow base e k v' (len+m) (cells++news))(dY:Wc.grownBy w3 v.ownBlock)(hn:v'=.slice none 0 0↔v=.slice none 0 0/\m=0)(hm:m≠0) :
  jX B KeepsWalks (AI w X base e k b (len+m) (cells++news)) W .normal a (w3.setCell (J X 0) v'):=by
 have wG:=an4 W _ hv;obtain⟨o,ho,hoc⟩:=aB3 hv;have GU:∀j,v.ownBlock=some j->base<=j/\∃cur:Array Value,W.heap[j]?=some (.cells cur e (0,0)):=by
  intro j hj;obtain⟨rfl,_⟩|⟨g,cap,cur,rfl,hb,fD,_⟩:=hvr.2
  ·cases hj
  ·cases hj;exact⟨hb,cur,fD⟩
 have hnX:some X≠v.ownBlock:=λe=>by have:=(GU X e.symm).1;omega
 have jF:w3.heap[X]?=W.heap[X]?:=(dY.block X (ap2 wG hg.size) hnX).trans (hg.block X wG R);have hc3:w3.cell? (J X 0)=some v:=(an9 jF).trans hv;have Tn:w3.frozen? (J X 0)=false:=(ar5 jF).trans h.fx;have keep:∀(j:Nat) (o:Obj),W.heap[j]?=some o->o.isCells=false->(w3.setCell (J X 0) v').heap[j]?=some o:=by
  intro j o' hj hc;have uN:=(an0.1 hj).1;have hjX:j≠X:=λe=>by subst e;have I:=hj.symm.trans ho;cases I;rw[hc]at hoc;cases hoc
  refine(ao9 w3 _ _ j hjX).trans ((dY.block j (ap2 uN hg.size) (λe=>?_)).trans ((hg.block j uN R).trans hj));obtain⟨cur,nS⟩:=(GU j e.symm).2;have I:=hj.symm.trans nS;cases I;cases hc
 have eH:W.heap.size<=(w3.setCell (J X 0) v').heap.size:=by
  have I:=ap3 hg.size dY.size;simpa[World.setCell]using I
 refine⟨⟨eH,λj o _ hj hc=>keep j o hj hc⟩,⟨eH,λj o hj hw=>keep j o hj (Obj.not_cells_of_walk hw)⟩,⟨⟨v',World.cell?_setCell_same' _ _ _ (by rw[hc3];rfl),?_,?_⟩,by rw[aw2];exact Tn,?_⟩⟩
 ·refine hr.kept (grownBy_setCell' w3 X _) ?_;obtain⟨rfl,_⟩|⟨g,cap,cur,rfl,hb,fD,_⟩:=hr.2
  ·exact Or.inl rfl
  ·refine Or.inr (λe=>?_);simp only[Value.ownBlock,as4]at e;omega
 ·rw[hn];constructor
  ·rintro⟨_,e⟩;exact absurd e hm
  ·rintro⟨_,e⟩;omega
 ·have hb:=h.below;refine⟨dY.os.trans (hg.os.trans hb.os),dY.tape.trans (hg.tape.trans hb.tape),dY.output.trans (hg.output.trans hb.output),ap3 hb.size eH,λj hj=>?_⟩;have uN:=ap2 hj hb.size;refine(ao9 w3 _ _ j (by show j≠X;omega)).trans ((dY.block j (ap2 uN hg.size) (λe=>?_)).trans ((hg.block j uN R).trans (hb.block j hj)));have:=(GU j e.symm).1;omega
def mY(k:Key):List Value:=[Ae k.1,A k.2.1,A k.2.2]
def tK(k:Int×Nat):List Value:=[Ae k.1,A k.2]
theorem Rx(w:World)(a:Int)(b c:Nat)(t:TypeId):∀j u,(mY (a,b,c))[j]?=some u->(w.alloc (.cells #[.int .u8 a,.int .i64 b,.int .i64 c] t)).cell? ((⟨w.heap.size,0,none⟩:Addr).add j)=some u:=by
 intro j u hj
 match j with
 |0=>simp[mY]at hj;subst hj;simp[Addr.add,go_sem]
 |1=>simp[mY]at hj;subst hj;simp[Addr.add,go_sem]
 |2=>simp[mY]at hj;subst hj;simp[Addr.add,go_sem]
 |j+3=>simp[mY]at hj
theorem acE(w:World)(a:Int)(b:Nat)(t:TypeId):∀j u,(tK (a,b))[j]?=some u->(w.alloc (.cells #[.int .u8 a,.int .i64 b] t)).cell? ((⟨w.heap.size,0,none⟩:Addr).add j)=some u:=by
 intro j u hj
 match j with
 |0=>simp[tK]at hj;subst hj;simp[Addr.add,go_sem]
 |1=>simp[tK]at hj;subst hj;simp[Addr.add,go_sem]
 |j+2=>simp[tK]at hj
theorem Vw(k:Key):∀u∈mY k,u.oneCell'=true:=by intro u hu;simp[mY]at hu;obtain rfl|rfl|rfl:=hu<;>rfl
theorem acs(k:Int×Nat):∀u∈tK k,u.oneCell'=true:=by intro u hu;simp[tK]at hu;obtain rfl|rfl:=hu<;>rfl
end
open Go.RowKit Go.Maps Go.WideMaps
theorem UR{P:Program}{ops:Array Oper}{Q:Exit->Act->World->Prop}{md:Region.Mode}{S:World->Prop}{i:Nat}{o:Oper}{fuel:Nat}{listed:Array Bool}{a:Act}{w:World}(hr:Region.ready md ops listed=[i])(ho:ops[i]?=some o)(hw:Region.wanted o (yielded ops a.tmps)=true)
 (h:∀K':Act->World->Prop,Shut (∀a w,S w->wpAnyH P md ops Q S fuel (listed.setIfInBounds i true) a w->K' a w)->Oper.wp P o a w K' Q) :
  wpAnyH P md ops Q S (fuel+1) listed a w:=by
 refine⟨λh0=>(by rw[hr]at h0;cases h0),λj hj=>?_⟩;rw[hr]at hj;obtain rfl:j=i:=by simpa using hj
 refine wpOp_step ho (λK' hK=>?_);rw[ao4 hw];exact h K' (λa w hS hW=>hK a w ⟨hS,hW⟩)
theorem WL(W:World)(a b c d:Obj):((((W.alloc a).alloc b).alloc c).alloc d).drew=Go.Sort.grow (W.drewN 1) #[a,b,c,d]:=by
 rw[aA2,aA2,aA2,aA2,Go.Sort.drew_grow,Go.Sort.grow_grow,Go.Sort.grow_grow,Go.Sort.drew_grow,Go.Sort.grow_grow];rfl
def jg(a b:Int):Int:=if a<b then -1 else if b<a then 1 else 0
theorem sW(a b:Int)(w:World):Calls prog 102 #[A a,A b] w λe w'=>e=.returned (A (jg a b))/\w'=w:=by
 have e1:(a != a)=false:=R
 have e2:(b != b)=false:=R
 unfold jg;by_cases I:a<b
 ·rw[ao4 I]
  go_in
  go_wp2
  go_ret
  exact⟨rfl,rfl⟩
 ·rw[an8 I];by_cases M:b<a
  ·rw[ao4 M]
   go_in
   go_wp2
   go_ret
   exact⟨rfl,rfl⟩
  ·rw[an8 M]
   go_in
   go_wp2
   go_ret
   exact⟨rfl,rfl⟩
theorem aT.look{α:Type}[BEq α][LawfulBEq α]{w:World}{k b:Nat}{kv:α->Value}{Y:List α}(hM:aT w k b kv Y)(K:Keyed prog k){t:TypeId}(ht:prog.underlying t=some (.map k 3)){x:α}(hx:x∈Y){l:Lit}(hl:keyOf prog k (kv x)=some l) :
  (Instr.lookup t (.map (some b)) (kv x) false).run prog w=.ok (.int .i64 (Y.idxOf x)) w:=by
 obtain⟨D,aH,_,aX,_⟩:=hM;obtain⟨c,iW,gU,_⟩:=aH.lookup_int K ht underlying3 (zeroE w) hl;have I:=(aX x l hl).2 (by simpa using hx);rw[I]at gU;simp at gU;rw[iW,<-gU]
theorem aT.looks{α:Type}[BEq α][LawfulBEq α]{w:World}{k b:Nat}{kv:α->Value}{Y:List α}(hM:aT w k b kv Y)(K:Keyed prog k){t:TypeId}(ht:prog.underlying t=some (.map k 3)){x:α}(hx:x∈Y){l:Lit}(hl:keyOf prog k (kv x)=some l) :
  ∀W',w.grownBy W' none->(Instr.lookup t (.map (some b)) (kv x) false).run prog W'=.ok (.int .i64 (Y.idxOf x)) W':=
 λ_ hg=>(hM.kept (hg.block b hM.lt R)).look K ht hx hl
end Go.Proofs.YthcppbmkacbbiabGreat
