import Derived.Test.YthcppbmkacbbiabGreatWAB
import Derived.RangeFuncNested
import Derived.RangeFuncBound
import Derived.RangeFuncCalls
import Derived.RangeFuncLeaves
import Derived.Shelf.Abstract
import Derived.Shelf.RegionOpen
import Derived.OwnWalkIn
import Derived.TacticsInMore
import Derived.LoopNIn
import Derived.LoopIn
import Derived.Sort.MapsRangeIn
import Derived.Maps.OwnIn
set_option linter.unusedSimpArgs false
namespace Go.Proofs.YthcppbmkacbbiabGreat
open Go.Proofs.Tryz
section
open Go.RowKit
def vU(F:Fence)(n:Nat)(P:Program)(g:Nat)(lb:Array Value)(xs:List (Array Value))(Kp:World->World->Prop)(w:World):Prop:=
 ∀(l:Nat) (J:Nat->World->Prop) (W:World),Below w.heap.size w W->AbidesFrom W.heap.size J->
  (∀k (hk:k<xs.length) W1,J k W1->YieldAt F (n-1) P l xs[k] W1 λe W'=>e=.returned (.bool true)/\J (k+1) W'/\Kp W1 W')->
  J 0 W->
  CallsIn F n P g (#[.func (.yield l) #[] #[]]++lb) W λe W'=>(∃v,e=.returned v)/\J xs.length W'
def fP(B:Nat)(Kp:World->World->Prop)(I:World->Prop)(W:World):Exit->Act->World->Prop
 |.normal,_,W'=>KeepsFrom B W W'/\Kp W W'/\I W'
 |_,_,_=>False
theorem bK{F:Fence}{n:Nat}{P:Program}{g:Operand}{ps:Array Tmp}{assign body:Code}{Q:Exit->Act->World->Prop}{a:Act}{w:World}
 (hro:F.round=none)(h1:1<=n){gf:Nat}{lb:Array Value}(hg:a.eval g=.func (.func gf) #[] lb)(hFg:F.fn gf)(eg:∀args w,(callFunc gf args).run P w=.ok (.enter gf args) w)
 {xs:List (Array Value)}{Kp:World->World->Prop}{w0:World}(hseq:vU F (n-1) P gf lb xs Kp w0)
 (hKt:∀{A B C:World},Kp A B->Kp B C->Kp A C)(hKb:∀(W:World) (l:Nat) (o o':Obj),w.heap.size<=l->W.heap[l]?=some o->o.isCells=false->o.isWalk=false->Kp W (W.putObj l o'))
 (hb0:Below w0.heap.size w0 w)(hps:∀k (hk:k<xs.length),xs[k].size=ps.size)
 (I:Nat->World->Prop)(hI:OwnFrom w.heap.size I)(h0:I 0 w)(Ax:Nat->Act->World->Prop)(hAx:∀k a',OwnFrom w.heap.size (fun(_:Unit) W=>Ax k a' W))
 (hassign:∀(l k:Nat) (hk:k<xs.length) (W:World) (K:Act->World->Prop),I k W->(∀a' W',KeepsFrom w.heap.size W W'->Kp W W'->I k W'->Ax k a' W'->K a' W')->
   assign.wpIn (F.inRound l) (n-1-1) P (Exit.then K (λ_ _ _=>False)) {tmps:=(ps.zip xs[k]).foldl (λt (p,v)=>t.setIfInBounds p v) a.tmps,defers:=[]} W)
 (hbody:∀(l k:Nat) (a':Act) (W:World),k<xs.length->w.heap.size<=l->I k W->Ax k a' W->body.wpIn (F.inRound l) (n-1-1) P (fP w.heap.size Kp (I (k+1)) W) a' W)
 (hdone:∀(D:Nat) (W:World),w.heap.size<=D->I xs.length W->W.heap[D]?=some (.deferred (some []))->Q .normal {a with defers:={target:=.collected D,args:=#[]}::a.defers} W) :
  (Code.rangeFunc g ps assign body).wpIn F n P Q a w:=by
 refine wpIn_rangeFunc ?_;intro fn hfn;rw[hro];obtain⟨lp,hlp⟩:∃lp:LoopState->Option Code->Loop,lp=λst pe=>{state:=st,pending:=pe,fn,tmps:=a.tmps,params:=ps,assign,body,defers:=w.heap.size}:=⟨_,rfl⟩;obtain⟨W1,hW1⟩:∃W1,(w.alloc (.deferred (some []))).alloc (.loop (lp .ready none))=W1:=⟨_,rfl⟩;have hsz1:W1.heap.size=w.heap.size+2:=by rw[<-hW1];simp
 have tK:W1.heap[w.heap.size+1]?=some (.loop (lp .ready none)):=by
  have h:=World.alloc_heap_new (w.alloc (.deferred (some []))) (.loop (lp .ready none));rw[World.size_alloc]at h;rw[<-hW1];exact h
 have rV:W1.heap[w.heap.size]?=some (.deferred (some [])):=by
  rw[<-hW1];exact(Below.heap_alloc _ _ _ (by simp)).trans (World.alloc_heap_new w _)
 have inv1:I 0 W1:=by rw[<-hW1];exact hI.alloc _ (hI.alloc _ h0)
 have nM:Below w0.heap.size w0 W1:=by
  rw[<-hW1];exact hb0.trans ((((Below.refl _ w).alloc (ad5 _) _).alloc (by simp) _).mono hb0.size)
 have abide:AbidesFrom W1.heap.size (λk W=>I k W/\W.heap[w.heap.size+1]?=some (.loop (lp .ready none))/\W.heap[w.heap.size]?=some (.deferred (some []))):=by
  intro k A B row hk hgr hr;refine⟨hI k A B row hk.1 hgr (λr e=>?_),(grownBy_keeps hgr (λr e=>(hr r e).2) hk.2.1 rfl).trans hk.2.1,(grownBy_keeps hgr (λr e=>(hr r e).2) hk.2.2 rfl).trans hk.2.2⟩;obtain⟨h2,o,ho,hw⟩:=hr r e;exact⟨by omega,o,ho,Obj.not_cells_of_walk hw⟩
 refine⟨w.heap.size+1,[{target:=.collected w.heap.size,args:=#[]}],W1,{target:=.fn (.func gf) lb,args:=#[.func (.yield (w.heap.size+1)) #[] #[]]},W1,gf,
  #[.func (.yield (w.heap.size+1)) #[] #[]]++lb,W1,?_,?_,?_,?_,λ_=>h1,?_⟩
 ·rw[<-hW1,hlp];exact run_enterLoop_outer _ _ _ _ _
 ·simp only[resolve,hg];simp[go_sem]
 ·intro f' hf';simp[Target.leads]at hf';subst hf';exact hFg
 ·simp[invoke,go_sem,eg]
 ·refine(hseq (w.heap.size+1) _ W1 nM abide ?_ ⟨inv1,tK,rV⟩).mono ?_
  ·rintro k hk W ⟨hi,hl,hd⟩;have hy:=run_yield (P:=P) (args:=xs[k]) hl (by rw[hlp];exact hps k hk);rw[hlp]at hy;refine⟨fn,_,assign,body,hy,roundIn_of_wpIn hfn (hassign _ k hk W _ hi ?_)⟩;intro a' Wa keepA kpA iA ax;have hl2:=keepA.same _ _ (by omega) hl rfl;have hd2:=keepA.same _ _ (ad5 _) hd rfl;have hlt:w.heap.size+1<Wa.heap.size:=(ad3.1 hl2).1;refine⟨_,run_beginRound hl2 (by rw[hlp]),?_⟩;have hl3:(Wa.putObj (w.heap.size+1) (.loop {lp .ready none with state:=.busy})).heap[w.heap.size+1]?=some (.loop {lp .ready none with state:=.busy}):=World.putObj_heap_same hlt;have hd3:(Wa.putObj (w.heap.size+1) (.loop {lp .ready none with state:=.busy})).heap[w.heap.size]?=some (.deferred (some [])):=(World.putObj_heap_other (by omega)).trans hd2;have kp3:Kp Wa (Wa.putObj (w.heap.size+1) (.loop {lp .ready none with state:=.busy})):=hKb _ _ _ _ (by omega) hl2 rfl rfl;refine wpIn_mono (hbody (w.heap.size+1) k a' _ hk (by omega) (hI.putObj _ iA (by omega) hl2 rfl) ((hAx k a').putObj (s:=()) _ ax (by omega) hl2 rfl)) ?_;rintro e a3 W3 hp;cases e with
   |normal=>
    obtain⟨iU,kp4,i3⟩:=hp;have hl4:=iU.same _ _ (by omega) hl3 rfl;have hr:=run_endRound (P:=P) none hl4;rw[hlp]at hr;refine⟨_,_,hr,rfl,⟨hI.putObj _ i3 (by omega) hl4 rfl,?_,?_⟩,hKt kpA (hKt (hKt kp3 kp4) (hKb _ _ _ _ (by omega) hl4 rfl rfl))⟩
    ·rw[hlp];exact World.putObj_heap_same (ad3.1 hl4).1
    ·exact(World.putObj_heap_other (by omega)).trans (iU.same _ _ (ad5 _) hd3 rfl)
   |ret=>exact hp.elim
   |exit id=>exact hp.elim
   |goto t=>exact hp.elim
   |panic ch=>exact hp.elim
   |outgrown=>exact hp.elim
  ·rintro e W2 ⟨⟨v,rfl⟩,hi,hl,hd⟩;have hr:=run_endLoop (P:=P) hl (by rw[hlp];simp);rw[hlp]at hr;exact⟨none,_,hr,hdone _ _ (ad5 _) (hI.putObj _ hi (by omega) hl rfl) ((World.putObj_heap_other (by omega)).trans hd)⟩
def ji{α:Type}(F:Fence)(n:Nat)(P:Program)(g:Nat)(lb:Array Value)(enc:α->Array Value)(S:List α->Prop)(N:Nat)(Kp:World->World->Prop)(w:World):Prop:=
 ∀(l:Nat) (J:List α->World->Prop) (W:World),Below w.heap.size w W->AbidesFrom W.heap.size J->
  (∀pre x W1,J pre W1->pre.length<N->YieldAt F (n-1) P l (enc x) W1 λe W'=>e=.returned (.bool true)/\J (pre++[x]) W'/\Kp W1 W')->
  J [] W->
  CallsIn F n P g (#[.func (.yield l) #[] #[]]++lb) W λe W'=>(∃v,e=.returned v)/\∃xs,S xs/\J xs W'
theorem eP{α:Type}{F:Fence}{n:Nat}{P:Program}{g:Operand}{ps:Array Tmp}{assign body:Code}{Q:Exit->Act->World->Prop}{a:Act}{w:World}
 (hro:F.round=none)(h1:1<=n){gf:Nat}{lb:Array Value}(hg:a.eval g=.func (.func gf) #[] lb)(hFg:F.fn gf)(eg:∀args w,(callFunc gf args).run P w=.ok (.enter gf args) w)
 {enc:α->Array Value}{S:List α->Prop}{N:Nat}{Kp:World->World->Prop}{w0:World}(hseq:ji F (n-1) P gf lb enc S N Kp w0)
 (hKt:∀{A B C:World},Kp A B->Kp B C->Kp A C)(hKb:∀(W:World) (l:Nat) (o o':Obj),w.heap.size<=l->W.heap[l]?=some o->o.isCells=false->o.isWalk=false->Kp W (W.putObj l o'))
 (hb0:Below w0.heap.size w0 w)(hps:∀x,(enc x).size=ps.size)
 (I:List α->World->Prop)(hI:OwnFrom w.heap.size I)(h0:I [] w)(Ax:α->Act->World->Prop)(hAx:∀x a',OwnFrom w.heap.size (fun(_:Unit) W=>Ax x a' W))
 (hassign:∀(l:Nat) (pre:List α) (x:α) (W:World) (K:Act->World->Prop),I pre W->(∀a' W',KeepsFrom w.heap.size W W'->Kp W W'->I pre W'->Ax x a' W'->K a' W')->
   assign.wpIn (F.inRound l) (n-1-1) P (Exit.then K (λ_ _ _=>False)) {tmps:=(ps.zip (enc x)).foldl (λt (p,v)=>t.setIfInBounds p v) a.tmps,defers:=[]} W)
 (hbody:∀(l:Nat) (pre:List α) (x:α) (a':Act) (W:World),pre.length<N->w.heap.size<=l->I pre W->Ax x a' W->body.wpIn (F.inRound l) (n-1-1) P (fP w.heap.size Kp (I (pre++[x])) W) a' W)
 (hdone:∀(D:Nat) (xs:List α) (W:World),w.heap.size<=D->S xs->I xs W->W.heap[D]?=some (.deferred (some []))->Q .normal {a with defers:={target:=.collected D,args:=#[]}::a.defers} W) :
  (Code.rangeFunc g ps assign body).wpIn F n P Q a w:=by
 refine wpIn_rangeFunc ?_;intro fn hfn;rw[hro];obtain⟨lp,hlp⟩:∃lp:LoopState->Option Code->Loop,lp=λst pe=>{state:=st,pending:=pe,fn,tmps:=a.tmps,params:=ps,assign,body,defers:=w.heap.size}:=⟨_,rfl⟩;obtain⟨W1,hW1⟩:∃W1,(w.alloc (.deferred (some []))).alloc (.loop (lp .ready none))=W1:=⟨_,rfl⟩;have hsz1:W1.heap.size=w.heap.size+2:=by rw[<-hW1];simp
 have tK:W1.heap[w.heap.size+1]?=some (.loop (lp .ready none)):=by
  have h:=World.alloc_heap_new (w.alloc (.deferred (some []))) (.loop (lp .ready none));rw[World.size_alloc]at h;rw[<-hW1];exact h
 have rV:W1.heap[w.heap.size]?=some (.deferred (some [])):=by
  rw[<-hW1];exact(Below.heap_alloc _ _ _ (by simp)).trans (World.alloc_heap_new w _)
 have inv1:I [] W1:=by rw[<-hW1];exact hI.alloc _ (hI.alloc _ h0)
 have nM:Below w0.heap.size w0 W1:=by
  rw[<-hW1];exact hb0.trans ((((Below.refl _ w).alloc (ad5 _) _).alloc (by simp) _).mono hb0.size)
 have abide:AbidesFrom W1.heap.size (λk W=>I k W/\W.heap[w.heap.size+1]?=some (.loop (lp .ready none))/\W.heap[w.heap.size]?=some (.deferred (some []))):=by
  intro k A B row hk hgr hr;refine⟨hI k A B row hk.1 hgr (λr e=>?_),(grownBy_keeps hgr (λr e=>(hr r e).2) hk.2.1 rfl).trans hk.2.1,(grownBy_keeps hgr (λr e=>(hr r e).2) hk.2.2 rfl).trans hk.2.2⟩;obtain⟨h2,o,ho,hw⟩:=hr r e;exact⟨by omega,o,ho,Obj.not_cells_of_walk hw⟩
 refine⟨w.heap.size+1,[{target:=.collected w.heap.size,args:=#[]}],W1,{target:=.fn (.func gf) lb,args:=#[.func (.yield (w.heap.size+1)) #[] #[]]},W1,gf,
  #[.func (.yield (w.heap.size+1)) #[] #[]]++lb,W1,?_,?_,?_,?_,λ_=>h1,?_⟩
 ·rw[<-hW1,hlp];exact run_enterLoop_outer _ _ _ _ _
 ·simp only[resolve,hg];simp[go_sem]
 ·intro f' hf';simp[Target.leads]at hf';subst hf';exact hFg
 ·simp[invoke,go_sem,eg]
 ·refine(hseq (w.heap.size+1) _ W1 nM abide ?_ ⟨inv1,tK,rV⟩).mono ?_
  ·rintro pre x W ⟨hi,hl,hd⟩ hpre;have hy:=run_yield (P:=P) (args:=enc x) hl (by rw[hlp];exact hps x);rw[hlp]at hy;refine⟨fn,_,assign,body,hy,roundIn_of_wpIn hfn (hassign _ pre x W _ hi ?_)⟩;intro a' Wa keepA kpA iA ax;have hl2:=keepA.same _ _ (by omega) hl rfl;have hd2:=keepA.same _ _ (ad5 _) hd rfl;have hlt:w.heap.size+1<Wa.heap.size:=(ad3.1 hl2).1;refine⟨_,run_beginRound hl2 (by rw[hlp]),?_⟩;have hl3:(Wa.putObj (w.heap.size+1) (.loop {lp .ready none with state:=.busy})).heap[w.heap.size+1]?=some (.loop {lp .ready none with state:=.busy}):=World.putObj_heap_same hlt;have hd3:(Wa.putObj (w.heap.size+1) (.loop {lp .ready none with state:=.busy})).heap[w.heap.size]?=some (.deferred (some [])):=(World.putObj_heap_other (by omega)).trans hd2;have kp3:Kp Wa (Wa.putObj (w.heap.size+1) (.loop {lp .ready none with state:=.busy})):=hKb _ _ _ _ (by omega) hl2 rfl rfl;refine wpIn_mono (hbody (w.heap.size+1) pre x a' _ hpre (by omega) (hI.putObj _ iA (by omega) hl2 rfl) ((hAx x a').putObj (s:=()) _ ax (by omega) hl2 rfl)) ?_;rintro e a3 W3 hp;cases e with
   |normal=>
    obtain⟨iU,kp4,i3⟩:=hp;have hl4:=iU.same _ _ (by omega) hl3 rfl;have hr:=run_endRound (P:=P) none hl4;rw[hlp]at hr;refine⟨_,_,hr,rfl,⟨hI.putObj _ i3 (by omega) hl4 rfl,?_,?_⟩,hKt kpA (hKt (hKt kp3 kp4) (hKb _ _ _ _ (by omega) hl4 rfl rfl))⟩
    ·rw[hlp];exact World.putObj_heap_same (ad3.1 hl4).1
    ·exact(World.putObj_heap_other (by omega)).trans (iU.same _ _ (ad5 _) hd3 rfl)
   |ret=>exact hp.elim
   |exit id=>exact hp.elim
   |goto t=>exact hp.elim
   |panic ch=>exact hp.elim
   |outgrown=>exact hp.elim
  ·rintro e W2 ⟨⟨v,rfl⟩,xs,hS,hi,hl,hd⟩;have hr:=run_endLoop (P:=P) hl (by rw[hlp];simp);rw[hlp]at hr;exact⟨none,_,hr,hdone _ _ _ (ad5 _) hS (hI.putObj _ hi (by omega) hl rfl) ((World.putObj_heap_other (by omega)).trans hd)⟩
end
open Go.RowKit Go.Maps Go.WideMaps
open aB (Key put)
def mkT(x:Int×Int×Int):Value:=.agg #[.int .u8 x.1,.int .i64 x.2.1,.int .i64 x.2.2]
def mkC(x:Int×Int):Value:=.agg #[.int .u8 x.1,.int .i64 x.2]
theorem keyLits_int{P:Program}{t:TypeId}{q:IntKind}(hu:P.underlying t=some (.int q)){d:Nat}{v:Value}{ls:List Lit}(h:P.keyLits d t [v]=some ls):∃a,v=.int q a:=by
 cases d with
 |zero=>simp[Program.keyLits]at h
 |succ d=>
  unfold Program.keyLits at h;rw[hu]at h;cases v<;>simp at h;exact⟨_,by rw[h.1.1]⟩
theorem je{P:Program}{k:TypeId}{fs:Array Field}{v:Value}{l:Lit}(hu:P.underlying k=some (.struct fs))(h:keyOf P k v=some l):v.formed P k=true/\∃ls,P.keyLits (P.types.size+1) k v.cells.toList=some ls:=by
 unfold keyOf at h;rw[hu]at h;simp only at h;split at h
 ·rename_i hf;simp at hf;obtain⟨ls,hls,_⟩:=Option.map_eq_some_iff.1 h;exact⟨hf.2,ls,hls⟩
 ·cases h
theorem aak{α:Type}{cs:Array α}(h:cs.size=3):∃a b c,cs=#[a,b,c]:=by
 obtain⟨l⟩:=cs
 match l,h with
 |[a,b,c],_=>exact⟨a,b,c,rfl⟩
theorem ab7{α:Type}{cs:Array α}(h:cs.size=2):∃a b,cs=#[a,b]:=by
 obtain⟨l⟩:=cs
 match l,h with
 |[a,b],_=>exact⟨a,b,rfl⟩
theorem PU{key:Value}{kl:Lit}(h:keyOf prog 76 key=some kl):∃x,key=mkT x:=by
 obtain⟨hf2,ls,hls⟩:=je underlying76 h;cases key with
 |agg cs=>
  have hs:cs.size=3:=by
   simp only[Value.formed,underlying76,DY]at hf2;simpa using hf2
  obtain⟨c0,c1,c2,rfl⟩:=aak hs
  ·simp only[Value.cells]at hls;obtain⟨n,hn⟩:=uO;rw[hn]at hls;unfold Program.keyLits at hls;simp only[underlying76,DY]at hls;rw[af6 ⟨rfl,by kernel_rfl⟩]at hls;obtain⟨lss,hm,_⟩:=Option.map_eq_some_iff.1 hls;simp only[as1,as4,vO,vN,List.drop,List.take]at hm;obtain⟨l0,h0,hm⟩:=aj0.1 hm;obtain⟨r1,hm,_⟩:=aj0.1 hm;obtain⟨l1,h1,hm⟩:=aj0.1 hm;obtain⟨r2,hm,_⟩:=aj0.1 hm;obtain⟨l2,h2,hm⟩:=aj0.1 hm;obtain⟨a,rfl⟩:=keyLits_int underlying5 h0;obtain⟨b,rfl⟩:=keyLits_int underlying3 h1;obtain⟨c,rfl⟩:=keyLits_int underlying3 h2;exact⟨(a,b,c),rfl⟩
 |_=>simp[Value.formed,underlying76]at hf2
theorem PV{key:Value}{kl:Lit}(h:keyOf prog 82 key=some kl):∃x,key=mkT x:=by
 obtain⟨hf2,ls,hls⟩:=je underlying82 h;cases key with
 |agg cs=>
  have hs:cs.size=3:=by
   simp only[Value.formed,underlying82,DZ]at hf2;simpa using hf2
  obtain⟨c0,c1,c2,rfl⟩:=aak hs
  ·simp only[Value.cells]at hls;obtain⟨n,hn⟩:=uO;rw[hn]at hls;unfold Program.keyLits at hls;simp only[underlying82,DZ]at hls;rw[af6 ⟨rfl,by kernel_rfl⟩]at hls;obtain⟨lss,hm,_⟩:=Option.map_eq_some_iff.1 hls;simp only[as1,as4,vO,vN,List.drop,List.take]at hm;obtain⟨l0,h0,hm⟩:=aj0.1 hm;obtain⟨r1,hm,_⟩:=aj0.1 hm;obtain⟨l1,h1,hm⟩:=aj0.1 hm;obtain⟨r2,hm,_⟩:=aj0.1 hm;obtain⟨l2,h2,hm⟩:=aj0.1 hm;obtain⟨a,rfl⟩:=keyLits_int underlying5 h0;obtain⟨b,rfl⟩:=keyLits_int underlying3 h1;obtain⟨c,rfl⟩:=keyLits_int underlying3 h2;exact⟨(a,b,c),rfl⟩
 |_=>simp[Value.formed,underlying82]at hf2
theorem PY{key:Value}{kl:Lit}(h:keyOf prog 79 key=some kl):∃x,key=mkC x:=by
 obtain⟨hf2,ls,hls⟩:=je underlying79 h;cases key with
 |agg cs=>
  have hs:cs.size=2:=by
   simp only[Value.formed,underlying79,D5]at hf2;simpa using hf2
  obtain⟨c0,c1,rfl⟩:=ab7 hs
  ·simp only[Value.cells]at hls;obtain⟨n,hn⟩:=uO;rw[hn]at hls;unfold Program.keyLits at hls;simp only[underlying79,D5]at hls;rw[af6 ⟨rfl,by kernel_rfl⟩]at hls;obtain⟨lss,hm,_⟩:=Option.map_eq_some_iff.1 hls;simp only[as1,as4,vO,vN,List.drop,List.take]at hm;obtain⟨l0,h0,hm⟩:=aj0.1 hm;obtain⟨r1,hm,_⟩:=aj0.1 hm;obtain⟨l1,h1,hm⟩:=aj0.1 hm;obtain⟨a,rfl⟩:=keyLits_int underlying5 h0;obtain⟨b,rfl⟩:=keyLits_int underlying3 h1;exact⟨(a,b),rfl⟩
 |_=>simp[Value.formed,underlying79]at hf2
theorem P9:(prog.info? 76).map (λi=>(i.zero,i.size,i.bytes))=some (some (.agg #[.int .u8 0,.int .i64 0,.int .i64 0]),3,24):=by kernel_rfl
theorem infoP:(prog.info? 82).map (λi=>(i.zero,i.size,i.bytes))=some (some (.agg #[.int .u8 0,.int .i64 0,.int .i64 0]),3,24):=by kernel_rfl
theorem J6:(prog.info? 79).map (λi=>(i.zero,i.size,i.bytes))=some (some (.agg #[.int .u8 0,.int .i64 0]),2,16):=by kernel_rfl
theorem zu{α:Type}[BEq α][LawfulBEq α]{k:Nat}{kv:α->Value}{ts:List α}{D:DataW Unit}(K:Keyed prog k)
 (hall:∀x l,keyOf prog k (kv x)=some l->Maps.has D l=ts.contains x/\(ts.contains x=true->D.atKey l (.lit (.int .i64 0))=.lit (.int .i64 (ts.idxOf x))))
 (hback:∀l,Maps.has D l=true->∃x,ts.contains x=true/\keyOf prog k (kv x)=some l)
 {key:Value}{kl:Lit}(hkey:keyOf prog k key=some kl){c:Int}(hat:∀zd,D.atKey kl zd=.lit (.int .i64 c)) :
  ∃x,x∈ts/\key=kv x/\c=ts.idxOf x:=by
 obtain⟨x,hx,hk⟩:=hback kl (has_true_of_atKey hat);refine⟨x,by simpa using hx,K.inj hkey hk,?_⟩;have h1:=(hall x kl hk).2 hx;rw[hat]at h1;simpa using h1
end Go.Proofs.YthcppbmkacbbiabGreat
