import Derived.Test.YthcppbmkacbbiaaGreatYAB
import Derived.RangeFuncNested
import Derived.RangeFuncBound
import Derived.RangeFuncCalls
import Derived.RangeFuncLeaves
import Derived.Shelf.Abstract
import Derived.Shelf.RegionOpen
import Derived.OwnWalkIn
import Derived.TacticsInMore
import Derived.LoopNIn
import Derived.LoopIn
import Derived.Sort.MapsRangeIn
import Derived.Maps.OwnIn
set_option linter.unusedSimpArgs false
namespace Go.Proofs.YthcppbmkacbbiaaGreat
open Go.Proofs.Tryz
section
open Go.RowKit
def vM(F:Fence)(n:Nat)(P:Program)(g:Nat)(lb:Array Value)(xs:List (Array Value))(Kp:World->World->Prop)(w:World):Prop:=
 ∀(l:Nat) (J:Nat->World->Prop) (W:World),Below w.heap.size w W->AbidesFrom W.heap.size J->
  (∀k (hk:k<xs.length) W1,J k W1->YieldAt F (n-1) P l xs[k] W1 λe W'=>e=.returned (.bool true)/\J (k+1) W'/\Kp W1 W')->
  J 0 W->
  CallsIn F n P g (#[.func (.yield l) #[] #[]]++lb) W λe W'=>(∃v,e=.returned v)/\J xs.length W'
def fV(B:Nat)(Kp:World->World->Prop)(I:World->Prop)(W:World):Exit->Act->World->Prop
 |.normal,_,W'=>KeepsFrom B W W'/\Kp W W'/\I W'
 |_,_,_=>False
theorem bU{F:Fence}{n:Nat}{P:Program}{g:Operand}{ps:Array Tmp}{assign body:Code}{Q:Exit->Act->World->Prop}{a:Act}{w:World}
 (hro:F.round=none)(h1:1<=n){gf:Nat}{lb:Array Value}(hg:a.eval g=.func (.func gf) #[] lb)(hFg:F.fn gf)(eg:∀args w,(callFunc gf args).run P w=.ok (.enter gf args) w)
 {xs:List (Array Value)}{Kp:World->World->Prop}{w0:World}(hseq:vM F (n-1) P gf lb xs Kp w0)
 (hKt:∀{A B C:World},Kp A B->Kp B C->Kp A C)(hKb:∀(W:World) (l:Nat) (o o':Obj),w.heap.size<=l->W.heap[l]?=some o->o.isCells=false->o.isWalk=false->Kp W (W.putObj l o'))
 (hb0:Below w0.heap.size w0 w)(hps:∀k (hk:k<xs.length),xs[k].size=ps.size)
 (I:Nat->World->Prop)(hI:OwnFrom w.heap.size I)(h0:I 0 w)(Ax:Nat->Act->World->Prop)(hAx:∀k a',OwnFrom w.heap.size (fun(_:Unit) W=>Ax k a' W))
 (hassign:∀(l k:Nat) (hk:k<xs.length) (W:World) (K:Act->World->Prop),I k W->(∀a' W',KeepsFrom w.heap.size W W'->Kp W W'->I k W'->Ax k a' W'->K a' W')->
   assign.wpIn (F.inRound l) (n-1-1) P (Exit.then K (λ_ _ _=>False)) {tmps:=(ps.zip xs[k]).foldl (λt (p,v)=>t.setIfInBounds p v) a.tmps,defers:=[]} W)
 (hbody:∀(l k:Nat) (a':Act) (W:World),k<xs.length->w.heap.size<=l->I k W->Ax k a' W->body.wpIn (F.inRound l) (n-1-1) P (fV w.heap.size Kp (I (k+1)) W) a' W)
 (hdone:∀(D:Nat) (W:World),w.heap.size<=D->I xs.length W->W.heap[D]?=some (.deferred (some []))->Q .normal {a with defers:={target:=.collected D,args:=#[]}::a.defers} W) :
  (Code.rangeFunc g ps assign body).wpIn F n P Q a w:=by
 refine wpIn_rangeFunc ?_;intro fn hfn;rw[hro];obtain⟨lp,hlp⟩:∃lp:LoopState->Option Code->Loop,lp=λst pe=>{state:=st,pending:=pe,fn,tmps:=a.tmps,params:=ps,assign,body,defers:=w.heap.size}:=⟨_,rfl⟩;obtain⟨W1,hW1⟩:∃W1,(w.alloc (.deferred (some []))).alloc (.loop (lp .ready none))=W1:=⟨_,rfl⟩;have hsz1:W1.heap.size=w.heap.size+2:=by rw[<-hW1];simp
 have sV:W1.heap[w.heap.size+1]?=some (.loop (lp .ready none)):=by
  have h:=World.alloc_heap_new (w.alloc (.deferred (some []))) (.loop (lp .ready none));rw[World.size_alloc]at h;rw[<-hW1];exact h
 have rH:W1.heap[w.heap.size]?=some (.deferred (some [])):=by
  rw[<-hW1];exact(Below.heap_alloc _ _ _ (by simp)).trans (World.alloc_heap_new w _)
 have inv1:I 0 W1:=by rw[<-hW1];exact hI.alloc _ (hI.alloc _ h0)
 have nM:Below w0.heap.size w0 W1:=by
  rw[<-hW1];exact hb0.trans ((((Below.refl _ w).alloc (SH _) _).alloc (by simp) _).mono hb0.size)
 have abide:AbidesFrom W1.heap.size (λk W=>I k W/\W.heap[w.heap.size+1]?=some (.loop (lp .ready none))/\W.heap[w.heap.size]?=some (.deferred (some []))):=by
  intro k A B row hk hgr hr;refine⟨hI k A B row hk.1 hgr (λr e=>?_),(grownBy_keeps hgr (λr e=>(hr r e).2) hk.2.1 rfl).trans hk.2.1,(grownBy_keeps hgr (λr e=>(hr r e).2) hk.2.2 rfl).trans hk.2.2⟩;obtain⟨h2,o,ho,hw⟩:=hr r e;exact⟨by omega,o,ho,Obj.not_cells_of_walk hw⟩
 refine⟨w.heap.size+1,[{target:=.collected w.heap.size,args:=#[]}],W1,{target:=.fn (.func gf) lb,args:=#[.func (.yield (w.heap.size+1)) #[] #[]]},W1,gf,
  #[.func (.yield (w.heap.size+1)) #[] #[]]++lb,W1,?_,?_,?_,?_,λ_=>h1,?_⟩
 ·rw[<-hW1,hlp];exact run_enterLoop_outer _ _ _ _ _
 ·simp only[resolve,hg];simp[go_sem]
 ·intro f' hf';simp[Target.leads]at hf';subst hf';exact hFg
 ·simp[invoke,go_sem,eg]
 ·refine(hseq (w.heap.size+1) _ W1 nM abide ?_ ⟨inv1,sV,rH⟩).mono ?_
  ·rintro k hk W ⟨hi,hl,hd⟩;have hy:=run_yield (P:=P) (args:=xs[k]) hl (by rw[hlp];exact hps k hk);rw[hlp]at hy;refine⟨fn,_,assign,body,hy,roundIn_of_wpIn hfn (hassign _ k hk W _ hi ?_)⟩;intro a' Wa keepA kpA iA ax;have hl2:=keepA.same _ _ (by omega) hl rfl;have hd2:=keepA.same _ _ (SH _) hd rfl;have hlt:w.heap.size+1<Wa.heap.size:=(Js.1 hl2).1;refine⟨_,run_beginRound hl2 (by rw[hlp]),?_⟩;have hl3:(Wa.putObj (w.heap.size+1) (.loop {lp .ready none with state:=.busy})).heap[w.heap.size+1]?=some (.loop {lp .ready none with state:=.busy}):=World.putObj_heap_same hlt;have hd3:(Wa.putObj (w.heap.size+1) (.loop {lp .ready none with state:=.busy})).heap[w.heap.size]?=some (.deferred (some [])):=(World.putObj_heap_other (by omega)).trans hd2;have kp3:Kp Wa (Wa.putObj (w.heap.size+1) (.loop {lp .ready none with state:=.busy})):=hKb _ _ _ _ (by omega) hl2 rfl rfl;refine wpIn_mono (hbody (w.heap.size+1) k a' _ hk (by omega) (hI.putObj _ iA (by omega) hl2 rfl) ((hAx k a').putObj (s:=()) _ ax (by omega) hl2 rfl)) ?_;rintro e a3 W3 hp;cases e with
   |normal=>
    obtain⟨iZ,kp4,i3⟩:=hp;have hl4:=iZ.same _ _ (by omega) hl3 rfl;have hr:=run_endRound (P:=P) none hl4;rw[hlp]at hr;refine⟨_,_,hr,rfl,⟨hI.putObj _ i3 (by omega) hl4 rfl,?_,?_⟩,hKt kpA (hKt (hKt kp3 kp4) (hKb _ _ _ _ (by omega) hl4 rfl rfl))⟩
    ·rw[hlp];exact World.putObj_heap_same (Js.1 hl4).1
    ·exact(World.putObj_heap_other (by omega)).trans (iZ.same _ _ (SH _) hd3 rfl)
   |ret=>exact hp.elim
   |exit id=>exact hp.elim
   |goto t=>exact hp.elim
   |panic ch=>exact hp.elim
   |outgrown=>exact hp.elim
  ·rintro e W2 ⟨⟨v,rfl⟩,hi,hl,hd⟩;have hr:=run_endLoop (P:=P) hl (by rw[hlp];simp);rw[hlp]at hr;exact⟨none,_,hr,hdone _ _ (SH _) (hI.putObj _ hi (by omega) hl rfl) ((World.putObj_heap_other (by omega)).trans hd)⟩
def jk{α:Type}(F:Fence)(n:Nat)(P:Program)(g:Nat)(lb:Array Value)(enc:α->Array Value)(S:List α->Prop)(N:Nat)(Kp:World->World->Prop)(w:World):Prop:=
 ∀(l:Nat) (J:List α->World->Prop) (W:World),Below w.heap.size w W->AbidesFrom W.heap.size J->
  (∀pre x W1,J pre W1->pre.length<N->YieldAt F (n-1) P l (enc x) W1 λe W'=>e=.returned (.bool true)/\J (pre++[x]) W'/\Kp W1 W')->
  J [] W->
  CallsIn F n P g (#[.func (.yield l) #[] #[]]++lb) W λe W'=>(∃v,e=.returned v)/\∃xs,S xs/\J xs W'
theorem fA{α:Type}{F:Fence}{n:Nat}{P:Program}{g:Operand}{ps:Array Tmp}{assign body:Code}{Q:Exit->Act->World->Prop}{a:Act}{w:World}
 (hro:F.round=none)(h1:1<=n){gf:Nat}{lb:Array Value}(hg:a.eval g=.func (.func gf) #[] lb)(hFg:F.fn gf)(eg:∀args w,(callFunc gf args).run P w=.ok (.enter gf args) w)
 {enc:α->Array Value}{S:List α->Prop}{N:Nat}{Kp:World->World->Prop}{w0:World}(hseq:jk F (n-1) P gf lb enc S N Kp w0)
 (hKt:∀{A B C:World},Kp A B->Kp B C->Kp A C)(hKb:∀(W:World) (l:Nat) (o o':Obj),w.heap.size<=l->W.heap[l]?=some o->o.isCells=false->o.isWalk=false->Kp W (W.putObj l o'))
 (hb0:Below w0.heap.size w0 w)(hps:∀x,(enc x).size=ps.size)
 (I:List α->World->Prop)(hI:OwnFrom w.heap.size I)(h0:I [] w)(Ax:α->Act->World->Prop)(hAx:∀x a',OwnFrom w.heap.size (fun(_:Unit) W=>Ax x a' W))
 (hassign:∀(l:Nat) (pre:List α) (x:α) (W:World) (K:Act->World->Prop),I pre W->(∀a' W',KeepsFrom w.heap.size W W'->Kp W W'->I pre W'->Ax x a' W'->K a' W')->
   assign.wpIn (F.inRound l) (n-1-1) P (Exit.then K (λ_ _ _=>False)) {tmps:=(ps.zip (enc x)).foldl (λt (p,v)=>t.setIfInBounds p v) a.tmps,defers:=[]} W)
 (hbody:∀(l:Nat) (pre:List α) (x:α) (a':Act) (W:World),pre.length<N->w.heap.size<=l->I pre W->Ax x a' W->body.wpIn (F.inRound l) (n-1-1) P (fV w.heap.size Kp (I (pre++[x])) W) a' W)
 (hdone:∀(D:Nat) (xs:List α) (W:World),w.heap.size<=D->S xs->I xs W->W.heap[D]?=some (.deferred (some []))->Q .normal {a with defers:={target:=.collected D,args:=#[]}::a.defers} W) :
  (Code.rangeFunc g ps assign body).wpIn F n P Q a w:=by
 refine wpIn_rangeFunc ?_;intro fn hfn;rw[hro];obtain⟨lp,hlp⟩:∃lp:LoopState->Option Code->Loop,lp=λst pe=>{state:=st,pending:=pe,fn,tmps:=a.tmps,params:=ps,assign,body,defers:=w.heap.size}:=⟨_,rfl⟩;obtain⟨W1,hW1⟩:∃W1,(w.alloc (.deferred (some []))).alloc (.loop (lp .ready none))=W1:=⟨_,rfl⟩;have hsz1:W1.heap.size=w.heap.size+2:=by rw[<-hW1];simp
 have sV:W1.heap[w.heap.size+1]?=some (.loop (lp .ready none)):=by
  have h:=World.alloc_heap_new (w.alloc (.deferred (some []))) (.loop (lp .ready none));rw[World.size_alloc]at h;rw[<-hW1];exact h
 have rH:W1.heap[w.heap.size]?=some (.deferred (some [])):=by
  rw[<-hW1];exact(Below.heap_alloc _ _ _ (by simp)).trans (World.alloc_heap_new w _)
 have inv1:I [] W1:=by rw[<-hW1];exact hI.alloc _ (hI.alloc _ h0)
 have nM:Below w0.heap.size w0 W1:=by
  rw[<-hW1];exact hb0.trans ((((Below.refl _ w).alloc (SH _) _).alloc (by simp) _).mono hb0.size)
 have abide:AbidesFrom W1.heap.size (λk W=>I k W/\W.heap[w.heap.size+1]?=some (.loop (lp .ready none))/\W.heap[w.heap.size]?=some (.deferred (some []))):=by
  intro k A B row hk hgr hr;refine⟨hI k A B row hk.1 hgr (λr e=>?_),(grownBy_keeps hgr (λr e=>(hr r e).2) hk.2.1 rfl).trans hk.2.1,(grownBy_keeps hgr (λr e=>(hr r e).2) hk.2.2 rfl).trans hk.2.2⟩;obtain⟨h2,o,ho,hw⟩:=hr r e;exact⟨by omega,o,ho,Obj.not_cells_of_walk hw⟩
 refine⟨w.heap.size+1,[{target:=.collected w.heap.size,args:=#[]}],W1,{target:=.fn (.func gf) lb,args:=#[.func (.yield (w.heap.size+1)) #[] #[]]},W1,gf,
  #[.func (.yield (w.heap.size+1)) #[] #[]]++lb,W1,?_,?_,?_,?_,λ_=>h1,?_⟩
 ·rw[<-hW1,hlp];exact run_enterLoop_outer _ _ _ _ _
 ·simp only[resolve,hg];simp[go_sem]
 ·intro f' hf';simp[Target.leads]at hf';subst hf';exact hFg
 ·simp[invoke,go_sem,eg]
 ·refine(hseq (w.heap.size+1) _ W1 nM abide ?_ ⟨inv1,sV,rH⟩).mono ?_
  ·rintro pre x W ⟨hi,hl,hd⟩ hpre;have hy:=run_yield (P:=P) (args:=enc x) hl (by rw[hlp];exact hps x);rw[hlp]at hy;refine⟨fn,_,assign,body,hy,roundIn_of_wpIn hfn (hassign _ pre x W _ hi ?_)⟩;intro a' Wa keepA kpA iA ax;have hl2:=keepA.same _ _ (by omega) hl rfl;have hd2:=keepA.same _ _ (SH _) hd rfl;have hlt:w.heap.size+1<Wa.heap.size:=(Js.1 hl2).1;refine⟨_,run_beginRound hl2 (by rw[hlp]),?_⟩;have hl3:(Wa.putObj (w.heap.size+1) (.loop {lp .ready none with state:=.busy})).heap[w.heap.size+1]?=some (.loop {lp .ready none with state:=.busy}):=World.putObj_heap_same hlt;have hd3:(Wa.putObj (w.heap.size+1) (.loop {lp .ready none with state:=.busy})).heap[w.heap.size]?=some (.deferred (some [])):=(World.putObj_heap_other (by omega)).trans hd2;have kp3:Kp Wa (Wa.putObj (w.heap.size+1) (.loop {lp .ready none with state:=.busy})):=hKb _ _ _ _ (by omega) hl2 rfl rfl;refine wpIn_mono (hbody (w.heap.size+1) pre x a' _ hpre (by omega) (hI.putObj _ iA (by omega) hl2 rfl) ((hAx x a').putObj (s:=()) _ ax (by omega) hl2 rfl)) ?_;rintro e a3 W3 hp;cases e with
   |normal=>
    obtain⟨iZ,kp4,i3⟩:=hp;have hl4:=iZ.same _ _ (by omega) hl3 rfl;have hr:=run_endRound (P:=P) none hl4;rw[hlp]at hr;refine⟨_,_,hr,rfl,⟨hI.putObj _ i3 (by omega) hl4 rfl,?_,?_⟩,hKt kpA (hKt (hKt kp3 kp4) (hKb _ _ _ _ (by omega) hl4 rfl rfl))⟩
    ·rw[hlp];exact World.putObj_heap_same (Js.1 hl4).1
    ·exact(World.putObj_heap_other (by omega)).trans (iZ.same _ _ (SH _) hd3 rfl)
   |ret=>exact hp.elim
   |exit id=>exact hp.elim
   |goto t=>exact hp.elim
   |panic ch=>exact hp.elim
   |outgrown=>exact hp.elim
  ·rintro e W2 ⟨⟨v,rfl⟩,xs,hS,hi,hl,hd⟩;have hr:=run_endLoop (P:=P) hl (by rw[hlp];simp);rw[hlp]at hr;exact⟨none,_,hr,hdone _ _ _ (SH _) hS (hI.putObj _ hi (by omega) hl rfl) ((World.putObj_heap_other (by omega)).trans hd)⟩
end
section
open Go.RowKit Go.Maps Go.WideMaps
open aB (Key put)
def mkT(x:Int×Int×Int):Value:=.agg #[.int .u8 x.1,.int .i64 x.2.1,.int .i64 x.2.2]
def mkC(x:Int×Int):Value:=.agg #[.int .u8 x.1,.int .i64 x.2]
theorem keyLits_int{P:Program}{t:TypeId}{q:IntKind}(hu:P.underlying t=some (.int q)){d:Nat}{v:Value}{ls:List Lit}(h:P.keyLits d t [v]=some ls):∃a,v=.int q a:=by
 cases d with
 |zero=>simp[Program.keyLits]at h
 |succ d=>
  unfold Program.keyLits at h;rw[hu]at h;cases v<;>simp at h;exact⟨_,by rw[h.1.1]⟩
theorem jg{P:Program}{k:TypeId}{fs:Array Field}{v:Value}{l:Lit}(hu:P.underlying k=some (.struct fs))(h:keyOf P k v=some l):v.formed P k=true/\∃ls,P.keyLits (P.types.size+1) k v.cells.toList=some ls:=by
 unfold keyOf at h;rw[hu]at h;simp only at h;split at h
 ·rename_i hf;simp at hf;obtain⟨ls,hls,_⟩:=Option.map_eq_some_iff.1 h;exact⟨hf.2,ls,hls⟩
 ·cases h
theorem Zb{α:Type}{cs:Array α}(h:cs.size=3):∃a b c,cs=#[a,b,c]:=by
 obtain⟨l⟩:=cs
 match l,h with
 |[a,b,c],_=>exact⟨a,b,c,rfl⟩
theorem aaQ{α:Type}{cs:Array α}(h:cs.size=2):∃a b,cs=#[a,b]:=by
 obtain⟨l⟩:=cs
 match l,h with
 |[a,b],_=>exact⟨a,b,rfl⟩
theorem OJ{key:Value}{kl:Lit}(h:keyOf prog 87 key=some kl):∃x,key=mkT x:=by
 obtain⟨hf2,ls,hls⟩:=jg underlying87 h;cases key with
 |agg cs=>
  have hs:cs.size=3:=by
   simp only[Value.formed,underlying87,Du]at hf2;simpa using hf2
  obtain⟨c0,c1,c2,rfl⟩:=Zb hs
  ·simp only[Value.cells]at hls;obtain⟨n,hn⟩:=uH;rw[hn]at hls;unfold Program.keyLits at hls;simp only[underlying87,Du]at hls;rw[ac8 ⟨rfl,by kernel_rfl⟩]at hls;obtain⟨lss,hm,_⟩:=Option.map_eq_some_iff.1 hls;simp only[ao8,ap1,vH,vG,List.drop,List.take]at hm;obtain⟨l0,h0,hm⟩:=ag6.1 hm;obtain⟨r1,hm,_⟩:=ag6.1 hm;obtain⟨l1,h1,hm⟩:=ag6.1 hm;obtain⟨r2,hm,_⟩:=ag6.1 hm;obtain⟨l2,h2,hm⟩:=ag6.1 hm;obtain⟨a,rfl⟩:=keyLits_int underlying5 h0;obtain⟨b,rfl⟩:=keyLits_int underlying3 h1;obtain⟨c,rfl⟩:=keyLits_int underlying3 h2;exact⟨(a,b,c),rfl⟩
 |_=>simp[Value.formed,underlying87]at hf2
theorem OL{key:Value}{kl:Lit}(h:keyOf prog 93 key=some kl):∃x,key=mkT x:=by
 obtain⟨hf2,ls,hls⟩:=jg underlying93 h;cases key with
 |agg cs=>
  have hs:cs.size=3:=by
   simp only[Value.formed,underlying93,Dv]at hf2;simpa using hf2
  obtain⟨c0,c1,c2,rfl⟩:=Zb hs
  ·simp only[Value.cells]at hls;obtain⟨n,hn⟩:=uH;rw[hn]at hls;unfold Program.keyLits at hls;simp only[underlying93,Dv]at hls;rw[ac8 ⟨rfl,by kernel_rfl⟩]at hls;obtain⟨lss,hm,_⟩:=Option.map_eq_some_iff.1 hls;simp only[ao8,ap1,vH,vG,List.drop,List.take]at hm;obtain⟨l0,h0,hm⟩:=ag6.1 hm;obtain⟨r1,hm,_⟩:=ag6.1 hm;obtain⟨l1,h1,hm⟩:=ag6.1 hm;obtain⟨r2,hm,_⟩:=ag6.1 hm;obtain⟨l2,h2,hm⟩:=ag6.1 hm;obtain⟨a,rfl⟩:=keyLits_int underlying5 h0;obtain⟨b,rfl⟩:=keyLits_int underlying3 h1;obtain⟨c,rfl⟩:=keyLits_int underlying3 h2;exact⟨(a,b,c),rfl⟩
 |_=>simp[Value.formed,underlying93]at hf2
theorem OM{key:Value}{kl:Lit}(h:keyOf prog 90 key=some kl):∃x,key=mkC x:=by
 obtain⟨hf2,ls,hls⟩:=jg underlying90 h;cases key with
 |agg cs=>
  have hs:cs.size=2:=by
   simp only[Value.formed,underlying90,Dw]at hf2;simpa using hf2
  obtain⟨c0,c1,rfl⟩:=aaQ hs
  ·simp only[Value.cells]at hls;obtain⟨n,hn⟩:=uH;rw[hn]at hls;unfold Program.keyLits at hls;simp only[underlying90,Dw]at hls;rw[ac8 ⟨rfl,by kernel_rfl⟩]at hls;obtain⟨lss,hm,_⟩:=Option.map_eq_some_iff.1 hls;simp only[ao8,ap1,vH,vG,List.drop,List.take]at hm;obtain⟨l0,h0,hm⟩:=ag6.1 hm;obtain⟨r1,hm,_⟩:=ag6.1 hm;obtain⟨l1,h1,hm⟩:=ag6.1 hm;obtain⟨a,rfl⟩:=keyLits_int underlying5 h0;obtain⟨b,rfl⟩:=keyLits_int underlying3 h1;exact⟨(a,b),rfl⟩
 |_=>simp[Value.formed,underlying90]at hf2
theorem OW:(prog.info? 87).map (λi=>(i.zero,i.size,i.bytes))=some (some (.agg #[.int .u8 0,.int .i64 0,.int .i64 0]),3,24):=by kernel_rfl
theorem infoP:(prog.info? 93).map (λi=>(i.zero,i.size,i.bytes))=some (some (.agg #[.int .u8 0,.int .i64 0,.int .i64 0]),3,24):=by kernel_rfl
theorem Jq:(prog.info? 90).map (λi=>(i.zero,i.size,i.bytes))=some (some (.agg #[.int .u8 0,.int .i64 0]),2,16):=by kernel_rfl
theorem y8{α:Type}[BEq α][LawfulBEq α]{k:Nat}{kv:α->Value}{ts:List α}{D:DataW Unit}(K:Keyed prog k)
 (hall:∀x l,keyOf prog k (kv x)=some l->Maps.has D l=ts.contains x/\(ts.contains x=true->D.atKey l (.lit (.int .i64 0))=.lit (.int .i64 (ts.idxOf x))))
 (hback:∀l,Maps.has D l=true->∃x,ts.contains x=true/\keyOf prog k (kv x)=some l)
 {key:Value}{kl:Lit}(hkey:keyOf prog k key=some kl){c:Int}(hat:∀zd,D.atKey kl zd=.lit (.int .i64 c)) :
  ∃x,x∈ts/\key=kv x/\c=ts.idxOf x:=by
 obtain⟨x,hx,hk⟩:=hback kl (has_true_of_atKey hat);refine⟨x,by simpa using hx,K.inj hkey hk,?_⟩;have h1:=(hall x kl hk).2 hx;rw[hat]at h1;simpa using h1
end
namespace Sat
abbrev View:Type:=Nat×Bool
abbrev Rule:Type:=List View
abbrev jl:Type:=Bool×Nat×Rule
abbrev bH:Type:=Nat->Option jl
def right(β:bH)(v:View):Prop:=∃b,β v.1=some b/\b.1=v.2
def wrong(β:bH)(v:View):Prop:=∃b,β v.1=some b/\b.1≠v.2
def gU(β:bH)(k:Nat)(v:View):Prop:=∃b,β v.1=some b/\b.1≠v.2/\b.2.1<k
def keeps(α:Nat->Bool)(r:Rule):Prop:=∃v∈r,α v.1=v.2
structure BInv(ak:List Rule)(β:bH)(n:Nat):Prop where
 lt:∀x b,β x=some b->b.2.1<n
 inj:∀x y b c,β x=some b->β y=some c->b.2.1=c.2.1->x=y
 MX:∀x i k r,β x=some (i,k,r)->r≠[]->r∈ak/\(x,i)∈r/\∀u∈r,u≠(x,i)->gU β k u
 free:∀x i k,β x=some (i,k,[])->∀r∈ak,∀j,(∀u∈r,u=(x,j)\/gU β k u)->(x,j)∉r
theorem QJ(ak:List Rule):BInv ak (λ_=>none) 0:=
 ⟨λ_ _ h=>by(cases h),λ_ _ _ _ h=>by(cases h),λ_ _ _ _ h=>by(cases h),λ_ _ _ h=>by(cases h)⟩
def add(β:bH)(x:Nat)(b:jl):bH:=λy=>if y=x then some b else β y
theorem add_same(β:bH)(x:Nat)(b:jl):add β x b x=some b:=by simp[add]
theorem bY{β:bH}{x y:Nat}(b:jl)(h:y≠x):add β x b y=β y:=by simp[add,h]
theorem oJ{β:bH}{x k:Nat}{b:jl}{v:View}(hx:β x=none)(h:gU β k v):gU (add β x b) k v:=by
 obtain⟨c,h1,h2,h3⟩:=h;refine⟨c,?_,h2,h3⟩;rw[bY]
 ·exact h1
 ·rintro rfl;rw[hx]at h1;cases h1
theorem kC{β:bH}{x k n:Nat}{i:Bool}{r:Rule}{v:View}(hk:k<=n)(h:gU (add β x (i,n,r)) k v):gU β k v:=by
 obtain⟨c,h1,h2,h3⟩:=h;by_cases e:v.1=x
 ·rw[e,add_same]at h1;cases h1;simp at h3;omega
 ·rw[bY _ e]at h1;exact⟨c,h1,h2,h3⟩
theorem BInv.follow{ak:List Rule}{β:bH}{n:Nat}(h:BInv ak β n){r:Rule}(hr:r∈ak){x:Nat}{i:Bool}(hm:(x,i)∈r)(hx:β x=none)(ho:∀u∈r,u≠(x,i)->wrong β u):BInv ak (add β x (i,n,r)) (n+1):=by
 have hw:∀u,wrong β u->gU β n u:=λu ⟨b,h1,h2⟩=>⟨b,h1,h2,h.lt _ _ h1⟩;refine⟨λy b hy=>?_,λy z b c hy hz e=>?_,λy j k q hy hq=>?_,λy j k hy q hq l hl=>?_⟩
 ·by_cases e:y=x
  ·rw[e,add_same]at hy;cases hy;simp
  ·rw[bY _ e]at hy;have:=h.lt _ _ hy;omega
 ·by_cases e1:y=x<;>by_cases e2:z=x
  ·rw[e1,e2]
  ·rw[e1,add_same]at hy;cases hy;rw[bY _ e2]at hz;have:=h.lt _ _ hz;simp at e;omega
  ·rw[e2,add_same]at hz;cases hz;rw[bY _ e1]at hy;have:=h.lt _ _ hy;simp at e;omega
  ·rw[bY _ e1]at hy;rw[bY _ e2]at hz;exact h.inj _ _ _ _ hy hz e
 ·by_cases e:y=x
  ·subst e;rw[add_same]at hy;cases hy;exact⟨hr,hm,λu hu hne=>oJ hx (hw u (ho u hu hne))⟩
  ·rw[bY _ e]at hy;obtain⟨q1,q2,q3⟩:=h.MX _ _ _ _ hy hq;exact⟨q1,q2,λu hu hne=>oJ hx (q3 u hu hne)⟩
 ·by_cases e:y=x
  ·subst e;rw[add_same]at hy;cases hy;cases hm
  ·rw[bY _ e]at hy;have hk:=h.lt _ _ hy;exact h.free _ _ _ hy q hq l (λu hu=>(hl u hu).imp id (kC (by simp at hk;omega)))
def Done(ak:List Rule)(β:bH):Prop:=∀r∈ak,(∃v∈r,right β v)\/∃u∈r,∃v∈r,u≠v/\β u.1=none/\β v.1=none
theorem BInv.choose{ak:List Rule}{β:bH}{n:Nat}(h:BInv ak β n)(hd:Done ak β){x:Nat}(i:Bool)(hx:β x=none):BInv ak (add β x (i,n,[])) (n+1):=by
 refine⟨λy b hy=>?_,λy z b c hy hz e=>?_,λy j k q hy hq=>?_,λy j k hy q hq l hl=>?_⟩
 ·by_cases e:y=x
  ·rw[e,add_same]at hy;cases hy;simp
  ·rw[bY _ e]at hy;have:=h.lt _ _ hy;omega
 ·by_cases e1:y=x<;>by_cases e2:z=x
  ·rw[e1,e2]
  ·rw[e1,add_same]at hy;cases hy;rw[bY _ e2]at hz;have:=h.lt _ _ hz;simp at e;omega
  ·rw[e2,add_same]at hz;cases hz;rw[bY _ e1]at hy;have:=h.lt _ _ hy;simp at e;omega
  ·rw[bY _ e1]at hy;rw[bY _ e2]at hz;exact h.inj _ _ _ _ hy hz e
 ·by_cases e:y=x
  ·subst e;rw[add_same]at hy;cases hy;exact absurd rfl hq
  ·rw[bY _ e]at hy;obtain⟨q1,q2,q3⟩:=h.MX _ _ _ _ hy hq;exact⟨q1,q2,λu hu hne=>oJ hx (q3 u hu hne)⟩
 ·by_cases e:y=x
  ·subst e;rw[add_same]at hy;cases hy;intro hm;have hw:∀u∈q,u=(y,l)\/wrong β u:=λu hu=>(hl u hu).imp id (λg=>by
    obtain⟨b,h1,h2,_⟩:=kC (SH _) g;exact⟨b,h1,h2⟩)
   rcases hd q hq with⟨v,hv,b,h1,h2⟩|⟨u,hu,v,hv,hne,h1,h2⟩
   ·rcases hw v hv with rfl|⟨c,g1,g2⟩
    ·rw[hx]at h1;cases h1
    ·rw[h1]at g1;cases g1;exact g2 h2
   ·rcases hw u hu with rfl|⟨c,g1,_⟩
    ·rcases hw v hv with rfl|⟨c,g1,_⟩
     ·exact hne rfl
     ·rw[h2]at g1;cases g1
    ·rw[h1]at g1;cases g1
  ·rw[bY _ e]at hy;have hk:=h.lt _ _ hy;exact h.free _ _ _ hy q hq l (λu hu=>(hl u hu).imp id (kC (by simp at hk;omega)))
theorem BInv.blame{ak:List Rule}{β:bH}{n:Nat}(h:BInv ak β n){broken:Rule}(hb:broken∈ak)(hw:∀v∈broken,wrong β v)(S:Nat->Prop)(h0:∀v∈broken,S v.1)
 (hS:∀x i k r,S x->β x=some (i,k,r)->∀u∈r,S u.1)(C:Rule)(hC:∀x i k,S x->β x=some (i,k,[])->(x,!i)∈C)(α:Nat->Bool)(hα:∀r∈ak,keeps α r):keeps α C:=by
 refine ae9 λhn=>?_;have hch:∀x i k,S x->β x=some (i,k,[])->α x=i:=λx i k hs hx=>by
  refine ae9 λhe=>hn ⟨(x,!i),hC x i k hs hx,?_⟩
  show α x=!i
  cases hax:α x<;>cases i<;>simp_all
 have key:∀m x i k r,k<m->S x->β x=some (i,k,r)->α x=i:=by
  intro m
  induction m with
  |zero=>intro x i k r hk;omega
  |succ m ih=>
   intro x i k r hk hs hx;by_cases hr:r=[]
   ·subst hr;exact hch x i k hs hx
   ·obtain⟨q1,q2,q3⟩:=h.MX _ _ _ _ hx hr;obtain⟨v,hv,ha⟩:=hα r q1;by_cases e:v=(x,i)
    ·subst e;exact ha
    ·obtain⟨⟨ci,ck,cr⟩,g1,g2,g3⟩:=q3 v hv e;have:=ih v.1 ci ck cr (by simp at g3;omega) (hS x i k r hs hx v hv) g1;exact absurd (this.symm.trans ha) g2
 obtain⟨v,hv,ha⟩:=hα broken hb;obtain⟨⟨ci,ck,cr⟩,g1,g2⟩:=hw v hv;have:=key (ck+1) v.1 ci ck cr (by omega) (h0 v hv) g1;exact g2 (this.symm.trans ha)
def before(β:bH)(k:Nat):bH:=λx=>match β x with
 |some b=>if b.2.1<k then some b else none
 |none=>none
theorem dh{β:bH}{k x:Nat}{b:jl}:before β k x=some b↔β x=some b/\b.2.1<k:=by
 unfold before;cases β x with
 |none=>simp
 |some c=>
  simp only;by_cases h:c.2.1<k
  ·rw[ac8 h];constructor
   ·rintro h2;cases h2;exact⟨rfl,h⟩
   ·rintro⟨h2,_⟩;exact h2
  ·rw[ac5 h];constructor
   ·intro h2;cases h2
   ·rintro⟨h2,h3⟩;cases h2;exact absurd h3 h
theorem iP{β:bH}{k m:Nat}{v:View}(hm:m<=k):gU (before β k) m v↔gU β m v:=by
 constructor
 ·rintro⟨b,h1,h2,h3⟩;exact⟨b,(dh.1 h1).1,h2,h3⟩
 ·rintro⟨b,h1,h2,h3⟩;exact⟨b,dh.2 ⟨h1,by omega⟩,h2,h3⟩
structure fD(β:bH)(C:Rule)(x:Nat)(i:Bool)(k:Nat):Prop where
 top:β x=some (i,k,[])
 mem:(x,!i)∈C
 rest:∀u∈C,u=(x,!i)\/∃j m,β u.1=some (j,m,[])/\u.2=!j/\m<k
theorem BInv.fresh{ak:List Rule}{β:bH}{n:Nat}(h:BInv ak β n){C:Rule}{x:Nat}{i:Bool}{k:Nat}(hC:fD β C x i k){r:Rule}(hr:r∈ak)(he:∀v,v∈r↔v∈C):False:=by
 refine h.free x i k hC.top r hr (!i) (λu hu=>?_) ((he _).2 hC.mem);rcases hC.rest u ((he u).1 hu)with e|⟨j,m,h1,h2,h3⟩
 ·exact Or.inl e
 ·exact Or.inr ⟨_,h1,by rw[h2];cases j<;>simp,h3⟩
theorem BInv.back{ak:List Rule}{β:bH}{n:Nat}(h:BInv ak β n){C:Rule}{x:Nat}{i:Bool}{k:Nat}(hC:fD β C x i k):BInv (ak++[C]) (before β k) k:=by
 refine⟨λy b hy=>(dh.1 hy).2,λy z b c hy hz e=>h.inj _ _ _ _ (dh.1 hy).1 (dh.1 hz).1 e,λy j m r hy hr=>?_,λy j m hy r hr l hl=>?_⟩
 ·obtain⟨h1,h2⟩:=dh.1 hy;obtain⟨q1,q2,q3⟩:=h.MX _ _ _ _ h1 hr;exact⟨ag2 _ q1,q2,λu hu hne=>(iP (by simp at h2;omega)).2 (q3 u hu hne)⟩
 ·obtain⟨h1,h2⟩:=dh.1 hy;have hmk:m<k:=h2;rcases ae4.1 hr with hr|hr
  ·exact h.free _ _ _ h1 r hr l (λu hu=>(hl u hu).imp id (iP (by omega)).1)
  ·rw[ad4.1 hr]at hl;exfalso;rcases hl _ hC.mem with e|⟨b,g1,_,g3⟩
   ·have:x=y:=al2 Prod.fst e;subst this;rw[hC.top]at h1;injection h1 with h1
    injection h1 with _ h1
    injection h1 with h1 _
    omega
   ·obtain⟨g4,g5⟩:=dh.1 g1;have:=hC.top.symm.trans g4;cases this;simp at g3;omega
end Sat
namespace aB
structure St where
 a:Nat
 d:Nat
 E:Int
 T:List (List UInt8)
 C:List (List UInt8)
def jM(pk:Nat->Int)(σ:St)(c:Int):Bool:=decide (σ.E=0)&&decide (pk σ.a=c)
def jD(pk:Nat->Int)(l:List Int)(σ:St):St×Int:=
 if σ.E=0 then
  if l.contains (pk σ.a)then({σ with a:=σ.a+1},pk σ.a)else({σ with E:=2},0)
 else(σ,0)
def sJ(pk:Nat->Int)(σ:St):St:=if jM pk σ 40=true/\σ.d=8 then {σ with E:=3}else σ
def Zk(σ:St):St:={σ with d:=σ.d+1}
def Xg(σ:St):St:={σ with d:=σ.d-1}
def iG(pk:Nat->Int)(σ:St):St:=Zk (jD pk [40] (sJ pk σ)).1
def jC(pk:Nat->Int)(σ:St):St:=Xg (jD pk [41] σ).1
def cut(l:List UInt8)(x y:Nat):List UInt8:=(l.drop x).take (y-x)
def letters:List Int:=[97,98,99,100,101,102,103]
def kG(l:List UInt8)(x:Nat)(σ:St):St×Nat:=
 if σ.E=0 then({σ with T:=put σ.T (cut l x σ.a)},σ.T.idxOf (cut l x σ.a))else(σ,0)
def Nl(pk:Nat->Int)(rec:St->St)(c:Int)(σ:St):St:=
 if c=102 then jC pk (rec (iG pk σ))
 else if c=103 then jC pk (rec (jD pk [44] (rec (iG pk σ))).1)
 else σ
def dR(l:List UInt8)(pk:Nat->Int):Nat->St->St×Nat
 |0,σ=>(σ,0)
 |n+1,σ=>kG l σ.a (Nl pk (λτ=>(dR l pk n τ).1) (jD pk letters σ).2 (jD pk letters σ).1)
def qW(l:List UInt8)(x:Nat)(σ:St):St:=
 if σ.E=0 then {σ with C:=put σ.C (cut l x σ.a)}else σ
def eG(l:List UInt8)(pk:Nat->Int):Nat->St->St
 |0,σ=>σ
 |n+1,σ=>
  if jM pk σ 33=true then eG l pk n {σ with a:=σ.a+1}
  else if (jM pk σ 80||jM pk σ 81)=true then
   qW l σ.a (jC pk (dR l pk (n+1) (iG pk {σ with a:=σ.a+1})).1)
  else if jM pk σ 40=true then
   jC pk (eG l pk n (jD pk [38,124,62,45] (eG l pk n (iG pk σ))).1)
  else(dR l pk (n+1) (jD pk [61] (dR l pk (n+1) σ).1).1).1
end aB
end Go.Proofs.YthcppbmkacbbiaaGreat
