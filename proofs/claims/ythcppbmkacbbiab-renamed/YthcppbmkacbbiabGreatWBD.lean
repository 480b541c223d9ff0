import Derived.Test.YthcppbmkacbbiabGreatWAS
import Derived.Lib.SliceRun
import Derived.BigFrame
set_option linter.unusedSimpArgs false
set_option maxHeartbeats 2000000
set_option maxRecDepth 100000
namespace Go.Proofs.YthcppbmkacbbiabGreat
open Go.Proofs.Tryz
section
open Go.RowKit
def X5{β:Type}(B:Nat)(J:β->World->Prop):Prop:=∀s A C,J s A->B<=A.heap.size->Below B A C->J s C
theorem jh{B l:Nat}{W:World}{o':Obj}(h:B<=l):Below B W (W.putObj l o'):=
 ⟨rfl,rfl,rfl,by simp[World.putObj],λk hk=>af0 (by omega)⟩
def zT(F:Fence)(n:Nat)(P:Program)(g:Nat)(lb:Array Value)(N:Nat)(X:Nat->Array Value->World->Prop)(Kp:World->World->Prop)(w:World):Prop:=
 ∀(l:Nat) (J:Nat->World->Prop) (W:World),Below w.heap.size w W->X5 W.heap.size J->
  (∀k xs W1,k<N->W.heap.size<=W1.heap.size->X k xs W1->J k W1->YieldAt F (n-1) P l xs W1 λe W'=>e=.returned (.bool true)/\J (k+1) W'/\Kp W1 W'/\W1.heap.size<=W'.heap.size)->
  J 0 W->
  CallsIn F n P g (#[.func (.yield l) #[] #[]]++lb) W λe W'=>(∃v,e=.returned v)/\J N W'/\W.heap.size<=W'.heap.size
theorem ru{F:Fence}{n:Nat}{P:Program}{g:Operand}{ps:Array Tmp}{assign body:Code}{Q:Exit->Act->World->Prop}{a:Act}{w:World}
 (hro:F.round=none)(h1:1<=n){gf:Nat}{lb:Array Value}(hg:a.eval g=.func (.func gf) #[] lb)(hFg:F.fn gf)(eg:∀args w,(callFunc gf args).run P w=.ok (.enter gf args) w)
 {N:Nat}{X:Nat->Array Value->World->Prop}{Kp:World->World->Prop}{w0:World}(hseq:zT F (n-1) P gf lb N X Kp w0)
 (hKt:∀{A B C:World},Kp A B->Kp B C->Kp A C)(hKb:∀(W:World) (l:Nat) (o o':Obj),w.heap.size<=l->W.heap[l]?=some o->o.isCells=false->o.isWalk=false->Kp W (W.putObj l o'))
 (hb0:Below w0.heap.size w0 w)(hps:∀k xs W,X k xs W->xs.size=ps.size)
 (I:Nat->World->Prop)(hI:X5 w.heap.size I)(h0:I 0 w)(Ax:Nat->Act->World->Prop)
 (hAx:∀k a' (W:World) l r r',w.heap.size<=l->W.heap[l]?=some (.loop r)->Ax k a' W->Ax k a' (W.putObj l (.loop r')))
 (hassign:∀(l k:Nat) (xs:Array Value) (W:World) (K:Act->World->Prop),k<N->w.heap.size<=W.heap.size->X k xs W->I k W->(∀a' W',KeepsFrom w.heap.size W W'->Kp W W'->I k W'->Ax k a' W'->K a' W')->
   assign.wpIn (F.inRound l) (n-1-1) P (Exit.then K (λ_ _ _=>False)) {tmps:=(ps.zip xs).foldl (λt (p,v)=>t.setIfInBounds p v) a.tmps,defers:=[]} W)
 (hbody:∀(l k:Nat) (a':Act) (W:World),k<N->w.heap.size<=l->(∃r,W.heap[l]?=some (.loop r))->I k W->Ax k a' W->body.wpIn (F.inRound l) (n-1-1) P (fP w.heap.size Kp (I (k+1)) W) a' W)
 (hdone:∀(D:Nat) (W:World),w.heap.size<=D->I N W->W.heap[D]?=some (.deferred (some []))->Q .normal {a with defers:={target:=.collected D,args:=#[]}::a.defers} W) :
  (Code.rangeFunc g ps assign body).wpIn F n P Q a w:=by
 refine wpIn_rangeFunc ?_;intro fn hfn;rw[hro];obtain⟨lp,hlp⟩:∃lp:LoopState->Option Code->Loop,lp=λst pe=>{state:=st,pending:=pe,fn,tmps:=a.tmps,params:=ps,assign,body,defers:=w.heap.size}:=⟨_,rfl⟩;obtain⟨W1,hW1⟩:∃W1,(w.alloc (.deferred (some []))).alloc (.loop (lp .ready none))=W1:=⟨_,rfl⟩;have hsz1:W1.heap.size=w.heap.size+2:=by rw[<-hW1];simp
 have tK:W1.heap[w.heap.size+1]?=some (.loop (lp .ready none)):=by
  have h:=ar9 (w.alloc (.deferred (some []))) (.loop (lp .ready none));rw[World.size_alloc]at h;rw[<-hW1];exact h
 have rV:W1.heap[w.heap.size]?=some (.deferred (some [])):=by
  rw[<-hW1];exact(ae3 _ _ _ (by simp)).trans (ar9 w _)
 have hbw:Below w.heap.size w W1:=by rw[<-hW1];exact((ag6 _ w).alloc (ad5 _) _).alloc (by simp) _
 have inv1:I 0 W1:=hI 0 w W1 h0 (ad5 _) hbw;have nM:Below w0.heap.size w0 W1:=hb0.trans (hbw.mono hb0.size);have abide:X5 W1.heap.size (λk W=>I k W/\W.heap[w.heap.size+1]?=some (.loop (lp .ready none))/\W.heap[w.heap.size]?=some (.deferred (some []))):=by
  intro k A C hk hs hb;exact⟨hI k A C hk.1 (by omega) (hb.mono (by omega)),(hb.block _ (by omega)).trans hk.2.1,(hb.block _ (by omega)).trans hk.2.2⟩
 refine⟨w.heap.size+1,[{target:=.collected w.heap.size,args:=#[]}],W1,{target:=.fn (.func gf) lb,args:=#[.func (.yield (w.heap.size+1)) #[] #[]]},W1,gf,
  #[.func (.yield (w.heap.size+1)) #[] #[]]++lb,W1,?_,?_,?_,?_,λ_=>h1,?_⟩
 ·rw[<-hW1,hlp];exact run_enterLoop_outer _ _ _ _ _
 ·simp only[resolve,hg];simp[go_sem]
 ·intro f' hf';simp[Target.leads]at hf';subst hf';exact hFg
 ·simp[invoke,go_sem,eg]
 ·refine(hseq (w.heap.size+1) _ W1 nM abide ?_ ⟨inv1,tK,rV⟩).mono ?_
  ·rintro k xs W hk hsW hX ⟨hi,hl,hd⟩;have hy:=run_yield (P:=P) (args:=xs) hl (by rw[hlp];exact hps k xs W hX);rw[hlp]at hy;refine⟨fn,_,assign,body,hy,roundIn_of_wpIn hfn (hassign _ k xs W _ hk (by omega) hX hi ?_)⟩;intro a' Wa keepA kpA iA ax;have hl2:=keepA.same _ _ (by omega) hl rfl;have hd2:=keepA.same _ _ (ad5 _) hd rfl;have hlt:w.heap.size+1<Wa.heap.size:=(ad3.1 hl2).1;refine⟨_,run_beginRound hl2 (by rw[hlp]),?_⟩;have hl3:(Wa.putObj (w.heap.size+1) (.loop {lp .ready none with state:=.busy})).heap[w.heap.size+1]?=some (.loop {lp .ready none with state:=.busy}):=an5 hlt;have hd3:(Wa.putObj (w.heap.size+1) (.loop {lp .ready none with state:=.busy})).heap[w.heap.size]?=some (.deferred (some [])):=(af0 (by omega)).trans hd2;have kp3:Kp Wa (Wa.putObj (w.heap.size+1) (.loop {lp .ready none with state:=.busy})):=hKb _ _ _ _ (by omega) hl2 rfl rfl;refine wpIn_mono (hbody (w.heap.size+1) k a' _ hk (by omega) ⟨_,hl3⟩ (hI k _ _ iA (by omega) (jh (by omega))) (hAx k a' _ _ _ _ (by omega) hl2 ax)) ?_;rintro e a3 W3 hp;cases e with
   |normal=>
    obtain⟨iU,kp4,i3⟩:=hp;have hl4:=iU.same _ _ (by omega) hl3 rfl;have hlt4:=(ad3.1 hl4).1;have hr:=run_endRound (P:=P) none hl4;rw[hlp]at hr;refine⟨_,_,hr,rfl,⟨hI (k+1) _ _ i3 (by omega) (jh (by omega)),?_,?_⟩,hKt kpA (hKt (hKt kp3 kp4) (hKb _ _ _ _ (by omega) hl4 rfl rfl)),?_⟩
    ·rw[hlp];exact an5 hlt4
    ·exact(af0 (by omega)).trans (iU.same _ _ (ad5 _) hd3 rfl)
    ·have e1:=keepA.size;have e2:=iU.size;simp only[World.putObj,Array.size_setIfInBounds]at e2 ⊢;omega
   |ret=>exact hp.elim
   |exit id=>exact hp.elim
   |goto t=>exact hp.elim
   |panic ch=>exact hp.elim
   |outgrown=>exact hp.elim
  ·rintro e W2 ⟨⟨v,rfl⟩,⟨hi,hl,hd⟩,hs2⟩;have hr:=run_endLoop (P:=P) hl (by rw[hlp];simp);rw[hlp]at hr;exact⟨none,_,hr,hdone _ _ (ad5 _) (hI N _ _ hi (by omega) (jh (by omega))) ((af0 (by omega)).trans hd)⟩
theorem qN{F:Fence}{n:Nat}{P:Program}{g:Operand}{ps:Array Tmp}{assign body:Code}{Q:Exit->Act->World->Prop}{a:Act}{w:World}
 {l0:Nat}{r0:Loop}(hro:F.round=some l0)(hl0:w.heap[l0]?=some (.loop r0))(h1:1<=n){gf:Nat}{lb:Array Value}(hg:a.eval g=.func (.func gf) #[] lb)(hFg:F.fn gf)(eg:∀args w,(callFunc gf args).run P w=.ok (.enter gf args) w)
 {N:Nat}{X:Nat->Array Value->World->Prop}{Kp:World->World->Prop}{w0:World}(hseq:zT F (n-1) P gf lb N X Kp w0)
 (hKt:∀{A B C:World},Kp A B->Kp B C->Kp A C)(hKb:∀(W:World) (l:Nat) (o o':Obj),w.heap.size<=l->W.heap[l]?=some o->o.isCells=false->o.isWalk=false->Kp W (W.putObj l o'))
 (hb0:Below w0.heap.size w0 w)(hps:∀k xs W,X k xs W->xs.size=ps.size)
 (I:Nat->World->Prop)(hI:X5 w.heap.size I)(h0:I 0 w)(Ax:Nat->Act->World->Prop)
 (hAx:∀k a' (W:World) l r r',w.heap.size<=l->W.heap[l]?=some (.loop r)->Ax k a' W->Ax k a' (W.putObj l (.loop r')))
 (hassign:∀(l k:Nat) (xs:Array Value) (W:World) (K:Act->World->Prop),k<N->w.heap.size<=W.heap.size->X k xs W->I k W->(∀a' W',KeepsFrom w.heap.size W W'->Kp W W'->I k W'->Ax k a' W'->K a' W')->
   assign.wpIn (F.inRound l) (n-1-1) P (Exit.then K (λ_ _ _=>False)) {tmps:=(ps.zip xs).foldl (λt (p,v)=>t.setIfInBounds p v) a.tmps,defers:=[]} W)
 (hbody:∀(l k:Nat) (a':Act) (W:World),k<N->w.heap.size<=l->(∃r,W.heap[l]?=some (.loop r))->I k W->Ax k a' W->body.wpIn (F.inRound l) (n-1-1) P (fP w.heap.size Kp (I (k+1)) W) a' W)
 (hdone:∀(W:World),w.heap.size<=W.heap.size->I N W->Q .normal a W) :
  (Code.rangeFunc g ps assign body).wpIn F n P Q a w:=by
 refine wpIn_rangeFunc ?_;intro fn hfn;rw[hro];obtain⟨lp,hlp⟩:∃lp:LoopState->Option Code->Loop,lp=λst pe=>{state:=st,pending:=pe,fn,tmps:=a.tmps,params:=ps,assign,body,defers:=r0.defers}:=⟨_,rfl⟩;obtain⟨W1,hW1⟩:∃W1,w.alloc (.loop (lp .ready none))=W1:=⟨_,rfl⟩;have hsz1:W1.heap.size=w.heap.size+1:=by rw[<-hW1];simp
 have tK:W1.heap[w.heap.size]?=some (.loop (lp .ready none)):=by rw[<-hW1];exact ar9 w _
 have hbw:Below w.heap.size w W1:=by rw[<-hW1];exact(ag6 _ w).alloc (ad5 _) _
 have inv1:I 0 W1:=hI 0 w W1 h0 (ad5 _) hbw;have nM:Below w0.heap.size w0 W1:=hb0.trans (hbw.mono hb0.size);have abide:X5 W1.heap.size (λk W=>I k W/\W.heap[w.heap.size]?=some (.loop (lp .ready none))):=by
  intro k A C hk hs hb;exact⟨hI k A C hk.1 (by omega) (hb.mono (by omega)),(hb.block _ (by omega)).trans hk.2⟩
 refine⟨w.heap.size,[],W1,{target:=.fn (.func gf) lb,args:=#[.func (.yield w.heap.size) #[] #[]]},W1,gf,
  #[.func (.yield w.heap.size) #[] #[]]++lb,W1,?_,?_,?_,?_,λ_=>h1,?_⟩
 ·rw[<-hW1,hlp];exact run_enterLoop_inner hl0 _ _ _ _ _
 ·simp only[resolve,hg];simp[go_sem]
 ·intro f' hf';simp[Target.leads]at hf';subst hf';exact hFg
 ·simp[invoke,go_sem,eg]
 ·refine(hseq w.heap.size _ W1 nM abide ?_ ⟨inv1,tK⟩).mono ?_
  ·rintro k xs W hk hsW hX ⟨hi,hl⟩;have hy:=run_yield (P:=P) (args:=xs) hl (by rw[hlp];exact hps k xs W hX);rw[hlp]at hy;refine⟨fn,_,assign,body,hy,roundIn_of_wpIn hfn (hassign _ k xs W _ hk (by omega) hX hi ?_)⟩;intro a' Wa keepA kpA iA ax;have hl2:=keepA.same _ _ (ad5 _) hl rfl;have hlt:w.heap.size<Wa.heap.size:=(ad3.1 hl2).1;refine⟨_,run_beginRound hl2 (by rw[hlp]),?_⟩;have hl3:(Wa.putObj w.heap.size (.loop {lp .ready none with state:=.busy})).heap[w.heap.size]?=some (.loop {lp .ready none with state:=.busy}):=an5 hlt;have kp3:Kp Wa (Wa.putObj w.heap.size (.loop {lp .ready none with state:=.busy})):=hKb _ _ _ _ (ad5 _) hl2 rfl rfl;refine wpIn_mono (hbody w.heap.size k a' _ hk (ad5 _) ⟨_,hl3⟩ (hI k _ _ iA (by omega) (jh (ad5 _))) (hAx k a' _ _ _ _ (ad5 _) hl2 ax)) ?_;rintro e a3 W3 hp;cases e with
   |normal=>
    obtain⟨iU,kp4,i3⟩:=hp;have hl4:=iU.same _ _ (ad5 _) hl3 rfl;have hlt4:=(ad3.1 hl4).1;have hr:=run_endRound (P:=P) none hl4;rw[hlp]at hr;refine⟨_,_,hr,rfl,⟨hI (k+1) _ _ i3 (by omega) (jh (ad5 _)),?_⟩,hKt kpA (hKt (hKt kp3 kp4) (hKb _ _ _ _ (ad5 _) hl4 rfl rfl)),?_⟩
    ·rw[hlp];exact an5 hlt4
    ·have e1:=keepA.size;have e2:=iU.size;simp only[World.putObj,Array.size_setIfInBounds]at e2 ⊢;omega
   |ret=>exact hp.elim
   |exit id=>exact hp.elim
   |goto t=>exact hp.elim
   |panic ch=>exact hp.elim
   |outgrown=>exact hp.elim
  ·rintro e W2 ⟨⟨v,rfl⟩,⟨hi,hl⟩,hs2⟩;have hr:=run_endLoop (P:=P) hl (by rw[hlp];simp);rw[hlp]at hr;exact⟨none,_,hr,hdone _ (by simp only[World.putObj,Array.size_setIfInBounds];omega) (hI N _ _ hi (by omega) (jh (ad5 _)))⟩
end
namespace Nx
def cm(m:Nat)(p:List Nat):Nat:=p.foldl (λm d=>max m (d+1)) m
def rG:Nat->List Nat->Option (List Nat)
 |_,[]=>none
 |m,d::l=>match rG (max m (d+1)) l with
  |some l'=>some (d::l')
  |none=>if d<m then some ((d+1)::List.replicate l.length 0)else none
theorem pq(m d:Nat)(l:List Nat):rG m (d::l)=match rG (max m (d+1)) l with
  |some l'=>some (d::l')
  |none=>if d<m then some ((d+1)::List.replicate l.length 0)else none:=rfl
def rws:Nat->Nat->List (List Nat)
 |_,0=>[[]]
 |m,n+1=>(List.range' 0 (m+1)).flatMap λd=>(rws (max m (d+1)) n).map (d::·)
def Yb{α:Type}(nx:α->Option α)(L:List α)(t:Option α):Prop:=∀k (hk:k<L.length),nx L[k]=if k+1<L.length then L[k+1]? else t
theorem Hw{α:Type}{nx:α->Option α}{L1 L2:List α}{t:Option α}(h1:Yb nx L1 L2[0]?)(h2:Yb nx L2 t)(hne:0<L2.length):Yb nx (L1++L2) t:=by
 intro k hk;rw[af8]at hk;by_cases h:k<L1.length
 ·rw[aj9 h,h1 k h];by_cases h3:k+1<L1.length
  ·rw[af6 h3,af6 (by rw[af8];omega),aj1 h3]
  ·rw[af2 h3,af6 (by rw[af8];omega),List.getElem?_append_right (by omega)]
   congr 1;omega
 ·rw[ap7 (by omega),h2 (k-L1.length) (by omega)];by_cases h3:k+1<L1.length+L2.length
  ·rw[af6 (by omega),af6 (by rw[af8];omega),List.getElem?_append_right (by omega)]
   congr 1;omega
  ·rw[af2 (by omega),af2 (by rw[af8];omega)]
theorem sS:∀n m,(rws m n)[0]?=some (List.replicate n 0)
 |0,m=>by simp[rws]
 |n+1,m=>by
  have h:=sS n (max m 1);have h2:0<(rws (max m 1) n).length:=by
   rcases ak5 (rws (max m 1) n).length with h3|h3
   ·rw[ah4 h3]at h;cases h
   ·exact h3
  unfold rws;rw[show List.range' 0 (m+1)=0::List.range' 1 m from rfl,am2,aj1 (by simpa using h2),aj8];simp only[am5];rw[h];rfl
theorem JH(n m:Nat):0<(rws m n).length:=by
 rcases ak5 (rws m n).length with h3|h3
 ·have h:=sS n m;rw[ah4 h3]at h;cases h
 ·exact h3
theorem sU:∀(n m:Nat),∀r∈rws m n,r.length=n
 |0,m,r,h=>by simp[rws]at h;simp[h]
 |n+1,m,r,h=>by
  unfold rws at h;obtain⟨d,hd,hr⟩:=al8.1 h;obtain⟨r',hr',rfl⟩:=af9.1 hr;simp[sU n _ r' hr']
theorem OG:∀(n m:Nat),∀r∈rws m n,∀x∈r,x<=m+n
 |0,m,r,h=>by simp[rws]at h;simp[h]
 |n+1,m,r,h=>by
  unfold rws at h;obtain⟨d,hd,hr⟩:=al8.1 h;obtain⟨r',hr',rfl⟩:=af9.1 hr;have hd':d<m+1:=by simpa using hd
  intro x hx;rcases ah8.1 hx with rfl|hx
  ·omega
  ·have:=OG n _ r' hr' x hx;omega
theorem JJ:∀n m,Yb (rG m) (rws m n) none
 |0,m=>by
  intro k hk;have h0:k=0:=by simp[rws]at hk;omega
  subst h0;simp[rws,rG]
 |n+1,m=>by
  have key:∀c j,j+c=m->Yb (rG m) ((List.range' j (c+1)).flatMap λd=>(rws (max m (d+1)) n).map (d::·)) none:=by
   have blk:∀d t,(if d<m then some ((d+1)::List.replicate n 0)else none)=t->Yb (rG m) ((rws (max m (d+1)) n).map (d::·)) t:=by
    intro d t ht k hk;have hk':k<(rws (max m (d+1)) n).length:=(by simpa using hk);have ho:=JJ n (max m (d+1)) k hk';have hlen:=sU n _ _ (ad8 hk');rw[ak0];rw[pq,ho];by_cases h3:k+1<(rws (max m (d+1)) n).length
    ·rw[af6 h3,af6 (c:=k+1<((rws (max m (d+1)) n).map (d::·)).length) (by simpa using h3),aj8,ad6 h3];rfl
    ·rw[af2 h3,af2 (c:=k+1<((rws (max m (d+1)) n).map (d::·)).length) (by simpa using h3)];simp only;rw[hlen];exact ht
   intro c
   induction c with
   |zero=>
    intro j hj;rw[show List.range' j (0+1)=[j]from rfl,am2,List.flatMap_nil,ak9];exact blk j none (af2 (by omega))
   |succ c ih=>
    intro j hj;rw[show List.range' j (c+1+1)=j::List.range' (j+1) (c+1)from rfl,am2];have e0:((List.range' (j+1) (c+1)).flatMap λd=>(rws (max m (d+1)) n).map (d::·))[0]?=some ((j+1)::List.replicate n 0):=by
     rw[show List.range' (j+1) (c+1)=(j+1)::List.range' (j+1+1) c from rfl,am2,aj1 (by simpa using JH n _),aj8,sS];rfl
    refine Hw ?_ (ih (j+1) (by omega)) ?_
    ·rw[e0];exact blk j _ (af6 (by omega))
    ·rcases ak5 ((List.range' (j+1) (c+1)).flatMap λd=>(rws (max m (d+1)) n).map (d::·)).length with h3|h3
     ·rw[ah4 h3]at e0;cases e0
     ·exact h3
  unfold rws;exact key m 0 (by omega)
theorem yC:∀(p q:List Nat) (m:Nat),rG m (p++q)=match rG (cm m p) q with
  |some q'=>some (p++q')
  |none=>(rG m p).map (·++List.replicate q.length 0)
 |[],q,m=>by
  show rG m q=match rG m q with|some q'=>some q'|none=>_
  cases rG m q<;>rfl
 |d::p,q,m=>by
  have ih:=yC p q (max m (d+1))
  show rG m (d::(p++q))=match rG (cm (max m (d+1)) p) q with|some q'=>some (d::p++q')|none=>_
  rw[pq m d (p++q),pq m d p,ih];cases rG (cm (max m (d+1)) p) q with
  |some q'=>rfl
  |none=>
   simp only;cases rG (max m (d+1)) p with
   |some p'=>rfl
   |none=>
    simp only[Option.map_none];by_cases h:d<m
    ·rw[af6 h,af6 h];simp[List.replicate_append_replicate]
    ·rw[af2 h,af2 h];rfl
theorem Ky(p:List Nat)(d m:Nat):cm m (p++[d])=max (cm m p) (d+1):=by simp[cm]
theorem Ph{l:List Nat}{i:Nat}(hi:i<l.length)(h:rG (cm 0 (l.take (i+1))) (l.drop (i+1))=none) :
  (l[i]<cm 0 (l.take i)->rG 0 l=some (l.take i++(l[i]+1)::List.replicate (l.length-(i+1)) 0))/\(¬l[i]<cm 0 (l.take i)->rG (cm 0 (l.take i)) (l.drop i)=none):=by
 have e1:l.drop i=l[i]::l.drop (i+1):=List.drop_eq_getElem_cons hi;have e2:l.take (i+1)=l.take i++[l[i]]:=by rw[ah1,ad6 hi];rfl
 rw[e2,Ky]at h;have e3:rG (cm 0 (l.take i)) (l.drop i)=if l[i]<cm 0 (l.take i)then some ((l[i]+1)::List.replicate (l.length-(i+1)) 0)else none:=by
  rw[e1,pq,h];simp only[List.length_drop]
 refine⟨λhd=>?_,λhd=>by rw[e3,af2 hd]⟩;have:=yC (l.take i) (l.drop i) 0;rw[List.take_append_drop,e3,af6 hd]at this;exact this
theorem Pg{l:List Nat}(h:rG (cm 0 (l.take 1)) (l.drop 1)=none):rG 0 l=none:=by
 cases l with
 |nil=>rfl
 |cons d l=>
  have h':rG (max 0 (d+1)) l=none:=h;rw[pq,h'];simp
def X9:Nat->List (List Bool)
 |0=>[[]]
 |n+1=>(X9 n).map (false::·)++(X9 n).map (true::·)
def tv(n k:Nat):List Bool:=(List.range n).map λi=>decide (k/2 ^ i%2=1)
theorem dX(n k:Nat):(tv n k).length=n:=by simp[tv]
theorem Tf{n:Nat}(h:n<=4):(X9 n).Perm ((List.range (2 ^ n)).map (tv n)):=by
 have h':n=0\/n=1\/n=2\/n=3\/n=4:=by omega
 rcases h' with rfl|rfl|rfl|rfl|rfl<;>decide +kernel
theorem TD{n:Nat}(h:n<=7):(rws 0 n).length<=1000:=by
 have h':n=0\/n=1\/n=2\/n=3\/n=4\/n=5\/n=6\/n=7:=by omega
 rcases h' with rfl|rfl|rfl|rfl|rfl|rfl|rfl|rfl<;>decide +kernel
def sumTo{α:Type}(L:List α)(g:α->Nat)(k:Nat):Nat:=((L.take k).map g).sum
theorem GK{α:Type}(L:List α)(g:α->Nat):sumTo L g 0=0:=by simp[sumTo]
theorem xX{α:Type}(L:List α)(g:α->Nat){k:Nat}(h:k<L.length):sumTo L g (k+1)=sumTo L g k+g L[k]:=by
 unfold sumTo;rw[ah1,ad6 h,ak3,List.sum_append];rfl
theorem sumTo_le{α:Type}(L:List α)(g:α->Nat){c:Nat}(h:∀x,g x<=c):∀k,sumTo L g k<=k*c:=by
 intro k
 induction k with
 |zero=>simp[sumTo]
 |succ k ih=>
  by_cases hk:k<L.length
  ·rw[xX L g hk,Nat.succ_mul];have:=h L[k];omega
  ·have e:sumTo L g (k+1)=sumTo L g k:=by
    unfold sumTo;rw[ah5 (by omega),ah5 (by omega)]
   rw[e,Nat.succ_mul];omega
end Nx
theorem E8{P:Nat->Prop}(h:∃n,P n):∃n,P n/\∀m,P m->n<=m:=by
 obtain⟨n,hn⟩:=h
 induction n using Nat.strongRecOn with
 |ind n ih=>
  by_cases h2:∃m,m<n/\P m
  ·obtain⟨m,hm,hp⟩:=h2;exact ih m hm hp
  ·exact⟨n,hn,λm hm=>Nat.le_of_not_lt λhl=>h2 ⟨m,hl,hm⟩⟩
theorem QX{P:Nat->Prop}(h:∃n,P n):P (Classical.epsilon λn=>P n/\∀m,P m->n<=m):=
 (Classical.epsilon_spec (E8 h)).1
theorem QY{P:Nat->Prop}{r r':Nat}(h:P r')(hr:r'<r):(Classical.epsilon λn=>P n/\∀m,P m->n<=m)<r:=
 Nat.lt_of_le_of_lt ((Classical.epsilon_spec (E8 ⟨r',h⟩)).2 r' h) hr
section
open Go.RowKit
open Nx
attribute [local go_sem] Oper.semAt_some
theorem Kw{vs:List Nat}{k:Nat}(h:k<vs.length)(m:Nat):cm m (vs.take (k+1))=max (cm m (vs.take k)) (vs[k]+1):=by
 rw[ah1,ad6 h];exact Ky _ _ _
theorem VN{vs:List Nat}(h:∀x∈vs,x<=100):∀m,m<=101->cm m vs<=101:=by
 induction vs with
 |nil=>intro m hm;exact hm
 |cons d p ih=>
  intro m hm;have:=h d (by simp);exact ih (λx hx=>h x (by simp[hx])) _ (by show max m (d+1)<=101;omega)
theorem Uf(w:World)(G cap:Nat)(vs:List Nat)(h0:0<vs.length)(hl:vs.length<=100)(hv:∀x∈vs,x<=100)(hc:∀i (hi:i<vs.length),w.cell? ⟨G,i,none⟩=some (.int .i64 vs[i])) :
  Calls prog 138 #[.slice (some ⟨G,0,none⟩) vs.length cap] w λe w'=>e=.returned (.int .i64 ((cm 0 vs:Int)-1))/\w'=w:=by
 have hc0:=hc 0 h0;have hb:¬(vs.length:Int)<1:=by omega
 go_enter func138,ntmps138
 go_wp2_with fail
 go_loop [3,4] (λx i=>∃k:Nat,1<=k/\k<=vs.length/\i=.int .i64 k/\x=.int .i64 ((cm 0 (vs.take k):Int)-1)) (λ_ i=>vs.length-(intOf i).toNat)
 case atStart=>
  refine⟨1,by omega,by omega,rfl,?_⟩;rw[Kw h0];simp[cm]
 case round=>
  obtain⟨k,hk1,hk,rfl,rfl⟩:=hrel;by_cases hlt:k<vs.length
  ·have hck:=hc k hlt;have hx:=hv vs[k] (ad8 _);have hm:=VN (vs:=vs.take k) (λx hx=>hv x (al5 hx)) 0 (by omega);have HT:=aj (Kw hlt 0);have hbd:(k:Int)<(vs.length:Int):=(by omega);clear hc hv hc0;generalize vs[k]=x at hck hx HT;generalize cm 0 (vs.take k)=m at hm HT
   go_wp2_with fail
   refine⟨⟨k+1,by omega,hlt,by go_num,?_⟩,by simp[intOf];omega⟩;rw[ah HT]
   congr 1
   first|(split<;>omega)|omega
  ·have hkk:k=vs.length:=(by omega);subst hkk;have hbd:¬(vs.length:Int)<(vs.length:Int):=(by omega);rw[ai7];obtain⟨m,hm⟩:∃m,cm 0 vs=m:=⟨_,rfl⟩;rw[hm];have HM:=aj hm;clear hc hc0 hv hm
   go_wp2_with fail
   go_ret
   exact⟨by rw[ah HM];rfl,rfl⟩
def uK(w:World)(base G:Nat)(row:List Nat):Prop:=w.ownsRow base 3 1 (.slice (some ⟨G,0,none⟩) row.length row.length) row.length (row.map gV)
theorem uK.at{w:World}{base G:Nat}{row:List Nat}(h:uK w base G row){i:Nat}(hi:i<row.length):w.cell? ⟨G,i,none⟩=some (.int .i64 row[i]):=by
 have:=World.ownsRow.cellAt h i (by omega);rw[this];simp[hi,gV]
theorem qV{α:Type}{xs:List α}{k:Nat}(v:α)(h:k<xs.length):(xs.set k v).take (k+1)=xs.take k++[v]:=by
 have l1:(xs.take k).length=k:=by rw[ah6];omega
 rw[List.set_eq_take_append_cons_drop,af6 h,List.take_append,l1,ah5 (by omega),Nat.add_sub_cancel_left];rfl
theorem sQ{base G cap n:Nat}:∀(vs:List Value) (o:Nat) (w:World) (xs:List Value),w.ownsRow base 3 1 (.slice (some ⟨G,0,none⟩) n cap) n xs->o+vs.length<=xs.length->
  (w.setCells G o vs).ownsRow base 3 1 (.slice (some ⟨G,0,none⟩) n cap) n (xs.take o++vs++xs.drop (o+vs.length))/\w.grownBy (w.setCells G o vs) (some G)
 |[],o,w,xs,h,_=>by simpa[World.setCells]using ⟨h,(⟨rfl,rfl,rfl,ad5 _,λ_ _ _=>rfl⟩:w.grownBy w (some G))⟩
 |v::vs,o,w,xs,h,hl=>by
  obtain⟨h1,g1⟩:=h.stored o v;have hl':o+(vs.length+1)<=xs.length:=by simpa using hl
  obtain⟨h2,g2⟩:=sQ vs (o+1) _ _ h1 (by simp;omega);have e:xs.take o++(v::vs)++xs.drop (o+(v::vs).length)=(xs.set o v).take (o+1)++vs++(xs.set o v).drop (o+1+vs.length):=by
   have e2:=qV v (show o<xs.length by omega);have e3:(xs.set o v).drop (o+1+vs.length)=xs.drop (o+1+vs.length):=(by rw[List.drop_set_of_lt (by omega)]);rw[e2,e3,ae1,show o+(vs.length+1)=o+1+vs.length by omega];simp
  rw[e];exact⟨h2,g1.trans g2⟩
theorem yF(w:World)(base G:Nat)(row:List Nat)(h0:0<row.length)(hl:row.length<=100)(hv:∀x∈row,x<=100)(h:uK w base G row) :
  Calls prog 88 #[.slice (some ⟨G,0,none⟩) row.length row.length] w λe w'=>e=.returned (.bool (rG 0 row).isSome)/\w.grownBy w' (some G)/\uK w' base G ((rG 0 row).getD row):=by
 have HR:=aj h;have HV:=aj hv;clear h hv
 go_enter func88,ntmps88
 go_wp2_with fail
 go_loopw [3] (λi wr=>∃k:Nat,k<row.length/\i=.int .i64 k/\w.grownBy wr none/\Hid (rG (cm 0 (row.take (k+1))) (row.drop (k+1))=none)) (λi _=>(intOf i).toNat)
 case atStart=>
  refine⟨row.length-1,by omega,?_,⟨rfl,rfl,rfl,ad5 _,λ_ _ _=>rfl⟩,?_⟩
  ·congr 1;omega
  ·have e:row.length-1+1=row.length:=(by omega);rw[e,List.drop_length];exact aj rfl
 case round=>
  obtain⟨k,hk,rfl,hgw,hno⟩:=hrel;have HRW:Hid (uK wr base G row):=(ah HR).kept hgw (Or.inr (by simp[Value.ownBlock]));by_cases hk0:0<k
  ·have hb0:(0:Int)<(k:Int):=(by omega);have hkb:(k:Int)<(row.length:Int):=(by omega);have hck:=(ah HRW).at hk;have hmx:Hid (Calls prog 138 #[.slice (some ⟨G,0,none⟩) k row.length] wr.drew λe w'=>e=.returned (.int .i64 ((cm 0 (row.take k):Int)-1))/\w'=wr.drew):=by
    have hkl:(row.take k).length=k:=(by rw[ah6];omega);have:=Uf wr.drew G row.length (row.take k) (by omega) (by omega) (λx hx=>ah HV x (al5 hx)) (λi hi=>by
     rw[List.getElem_take];exact(ah HRW).at (by omega))
    rw[hkl]at this;exact this
   have hst:=Ph hk (ah hno);have hxk:=ah HV _ (ad8 hk);have aaX:=VN (vs:=row.take k) (λx hx=>ah HV x (al5 hx)) 0 (by omega);have HST:=aj hst;clear hst hno;generalize hd:row[k]=d at hck hxk HST;generalize hm:cm 0 (row.take k)=m at hmx HST aaX;have HD:=aj hd;have HM:=aj hm;clear hd hm
   go_wp2_with fail
   have hS0:wr.drew.cell? ⟨G,k,none⟩=some (.int .i64 d):=hck;refine ah0 (S:=λW'=>W'.cell? ⟨G,k,none⟩=some (.int .i64 d)) rfl ?_;simp only[ae2,ae1,ae8,Nat.reduceAdd,ae0,ad9,ae4,ae7,ae6];refine tH 0 (.slice (some ⟨G,0,none⟩) row.length row.length) (λw' hS=>?_) hS0 ?_
   ·go_simp
   simp only[aC];refine tH 1 (.int .i64 k) (λw' hS=>?_) hS0 ?_
   ·go_simp
   simp only[aC];refine tH 2 (.pointer (some ⟨G,k,none⟩)) (λw' hS=>?_) hS0 ?_
   ·go_simp
   simp only[aC];refine tH 3 (.int .i64 d) (λw' hS=>?_) hS0 ?_
   ·go_simp
   simp only[aC];refine tH 4 (.slice (some ⟨G,0,none⟩) row.length row.length) (λw' hS=>?_) hS0 ?_
   ·go_simp
   simp only[aC];refine tH 5 (.int .i64 k) (λw' hS=>?_) hS0 ?_
   ·go_simp
   simp only[aC];refine tH 6 (.slice (some ⟨G,0,none⟩) k row.length) (λw' hS=>?_) hS0 ?_
   ·go_simp;intro h;omega
   simp only[aC];refine oH 7 (λK hK=>?_);go_simp;refine(ah hmx).mono ?_;rintro e w2 ⟨rfl,rfl⟩;refine hK.out _ _ hS0 ?_;clear hK K;have hfz:wr.drew.frozen? ⟨G,k,none⟩=false:=World.ownsRow.frozenAt (ah HRW) k;by_cases hdm:d<m
   ·have hle:((d:Int)<=(m:Int)-1):=(by omega);have hnx:rG 0 row=some (row.take k++(d+1)::List.replicate (row.length-(k+1)) 0):=(ah HST).1 hdm;have HNX:=aj hnx;have hfin:Hid (∀W':World,wr.grownBy W' (some G)->W'.ownsRow base 3 1 (.slice (some ⟨G,0,none⟩) row.length row.length) row.length ((row.take k++(d+1)::List.replicate (row.length-(k+1)) 0).map gV)->Value.bool true=.bool (rG 0 row).isSome/\w.grownBy W' (some G)/\uK W' base G ((rG 0 row).getD row)):=by
     intro W' hg' ho';rw[ah HNX];refine⟨rfl,?_,?_⟩
     ·exact⟨hg'.os.trans hgw.os,hg'.tape.trans hgw.tape,hg'.output.trans hgw.output,af7 hgw.size hg'.size,λj hj hne=>(hg'.block j (af5 hj hgw.size) hne).trans (hgw.block j hj (by simp))⟩
     ·have hln:(row.take k++(d+1)::List.replicate (row.length-(k+1)) 0).length=row.length:=(by simp;omega);unfold uK;simp only[Option.getD_some];rw[hln];exact ho'
    have hst1:=World.ownsRow.stored (ah HRW) k (.int .i64 ((d:Int)+1));have HS1:=aj hst1;clear hnx hst1;by_cases hlast:row.length=k+1
    ·have hcl:∀ty W,(Builtin.clear_ #[164] ty #[.slice (some ⟨G,0,none⟩) 0 0]).run prog W=.ok (.tuple #[]) W:=λty W=>by
      simp[Builtin.clear_,run_underlying underlying164]
     have hgo:=ah hfin (wr.setCell ⟨G,k,none⟩ (.int .i64 ((d:Int)+1))).drew ⟨(ah HS1).2.os,(ah HS1).2.tape,(ah HS1).2.output,(ah HS1).2.size,(ah HS1).2.block⟩ (by
      have e:(row.take k++(d+1)::List.replicate (row.length-(k+1)) 0).map gV=(row.map gV).set k (.int .i64 ((d:Int)+1)):=by
       rw[hlast,Nat.sub_self,List.set_eq_take_append_cons_drop,af6 (by simp;omega),List.drop_eq_nil_of_le (by simp;omega)];simp[gV]
      rw[e];exact(ah HS1).1)
     have HG:=aj hgo;clear hgo hfin;refine oH 8 (λK hK=>?_);go_simp;refine hK.out _ _ hS0 (ag5 (by kernel_rfl) ?_ _);clear hK K
     go_wp2_with (simp only[hcl])
     exact ag3 (v:=.bool true) (by simp[results,results88,go_sem]) rfl ⟨ao1 Ending.returned (ah HG).1,(ah HG).2⟩
    ·have hle2:¬row.length<=k+1:=(by omega);have hsr:=sQ (base:=base) (G:=G) (List.replicate (row.length-(k+1)) (Value.int .i64 0)) (k+1) (wr.setCell ⟨G,k,none⟩ (.int .i64 ((d:Int)+1))).drew _ (ah HS1).1 (by simp;omega);have hcl:∀ty,(Builtin.clear_ #[164] ty #[.slice (some ⟨G,k+1,none⟩) (row.length-(k+1)) (row.length-(k+1))]).run prog (wr.setCell ⟨G,k,none⟩ (.int .i64 ((d:Int)+1))).drew=.ok (.tuple #[]) ((wr.setCell ⟨G,k,none⟩ (.int .i64 ((d:Int)+1))).drew.setCells G (k+1) (List.replicate (row.length-(k+1)) (.int .i64 0))):=
      λty=>Lib.run_clear_slice _ 164 3 ty (.int .i64 0) underlying164 (λw=>by kernel_rfl) rfl rfl G (k+1) _ _ (by omega) (λj hj=>by
       have:=World.ownsRow.cellAt (ah HS1).1 (k+1+j) (by omega)
       show((wr.setCell ⟨G,k,none⟩ (.int .i64 ((d:Int)+1))).cell? ⟨G,k+1+j,none⟩).isSome=true
       rw[this,ad6 (by simp;omega)];rfl) (λj hj=>World.ownsRow.frozenAt (ah HS1).1 (k+1+j))
     have hgo:=ah hfin ((wr.setCell ⟨G,k,none⟩ (.int .i64 ((d:Int)+1))).drew.setCells G (k+1) (List.replicate (row.length-(k+1)) (.int .i64 0))) (by
      have g1:wr.grownBy (wr.setCell ⟨G,k,none⟩ (.int .i64 ((d:Int)+1))).drew (some G):=⟨(ah HS1).2.os,(ah HS1).2.tape,(ah HS1).2.output,(ah HS1).2.size,(ah HS1).2.block⟩;exact g1.trans hsr.2) (by
      have e:(row.take k++(d+1)::List.replicate (row.length-(k+1)) 0).map gV=((row.map gV).set k (.int .i64 ((d:Int)+1))).take (k+1)++List.replicate (row.length-(k+1)) (.int .i64 0)++((row.map gV).set k (.int .i64 ((d:Int)+1))).drop (k+1+(List.replicate (row.length-(k+1)) (Value.int .i64 0)).length):=by
       rw[List.drop_eq_nil_of_le (by simp;omega),ak9,qV _ (by simpa using hk)];simp[gV,List.map_replicate,List.map_take]
      rw[e];exact hsr.1)
     have HG:=aj hgo;clear hgo hfin hsr;refine oH 8 (λK hK=>?_);go_simp;refine hK.out _ _ hS0 (ag5 (by kernel_rfl) ?_ _);clear hK K
     go_wp2_with (simp only[hcl])
     exact ag3 (v:=.bool true) (by simp[results,results88,go_sem]) rfl ⟨ao1 Ending.returned (ah HG).1,(ah HG).2⟩
   ·have hle:¬((d:Int)<=(m:Int)-1):=(by omega);refine oH 8 (λK hK=>?_);go_simp;refine hK.out _ _ hS0 (ag5 (by kernel_rfl) ?_ _);clear hK K
    go_wp2_with fail
    refine⟨⟨k-1,by omega,by congr 1;omega,⟨hgw.os,hgw.tape,hgw.output,hgw.size,hgw.block⟩,?_⟩,by simp[intOf];omega⟩;have e:k-1+1=k:=(by omega);rw[e];rw[ah HM];exact(ah HST).2 hdm
  ·have hkk:k=0:=(by omega);subst hkk;have hnn:rG 0 row=none:=Pg (ah hno);have HN:=aj hnn;clear hnn hno
   go_wp2_with fail
   refine ag3 (v:=.bool false) (by simp[results,results88,go_sem]) rfl ⟨?_,⟨hgw.os,hgw.tape,hgw.output,hgw.size,λj hj _=>hgw.block j hj (by simp)⟩,?_⟩
   ·rw[ah HN];rfl
   ·rw[ah HN];exact ah HRW
end
section
open Go.RowKit Go.Maps Go.WideMaps
open aB (Key put)
theorem Jv(v:Option Addr)(n c:Nat)(w:World):Calls prog 139 #[.slice v n c] w λe w'=>
  e=.returned (.func (.func 178) #[] #[.pointer (some ⟨w.heap.size,0,none⟩)])/\w'=w.alloc (.cells #[.slice v n c] 164):=by
 go_enter func139,ntmps139
 go_wp2_with fail
 go_ret
 exact⟨rfl,rfl⟩
theorem Jr(n:Nat)(hn:2<=n)(X G cap m0:Nat)(keys:List Nat)(w:World)(hm0:m0<=w.heap.size)(hl:keys.length<=500)
 (hX:w.cell? ⟨X,0,none⟩=some (.slice (some ⟨G,0,none⟩) keys.length cap))(hG:uJ w G keys)(hv:∀x∈keys,∃l,keyOf prog 3 (gV x)=some l) :
  lD Fence.wide n prog 178 #[.pointer (some ⟨X,0,none⟩)] ((aO keys keys.length).map λp=>#[.int .i64 p.1,.int .i64 p.2]) (KA m0 X G) w:=by
 intro l J Jx W hW hJ hJx hY h0;have hXW:W.cell? ⟨X,0,none⟩=some (.slice (some ⟨G,0,none⟩) keys.length cap):=(hW.cell (p:=⟨X,0,none⟩) (ad7 w _ hX)).trans hX;have hlX:X<W.heap.size:=ad7 W _ hXW;have hlG:G<W.heap.size:=af5 hG.1 hW.size;have hGW:uJ W G keys:=hG.below hW hG.1;have hmm:=λz=>dh (P:=prog) underlying52 .i64 z W;have hsW:=hW.size;refine aj3 func178 rfl trivial ?_ rfl;simp only[ntmps178,ae2,ae1,ae8,Nat.reduceAdd,Nat.reduceSub,ae0,ad9,ae4,ag1,ae7,ae6]
 gi_wp2
 obtain⟨W1,hW1⟩:∃W1,W.alloc (.map #[] 0)=W1:=⟨_,rfl⟩;have hg1:W.grownBy W1 none:=by rw[<-hW1];exact ad4 _ _ none
 have hF1:mM W1 3 W.heap.size gV ([]:List Nat):=by rw[<-hW1];exact qG W _ _
 have hs1:W.heap.size<W1.heap.size:=by rw[<-hW1];simp
 have hX1:W1.heap[X]?=W.heap[X]?:=hg1.block X hlX (by simp);have hG1:W1.heap[G]?=W.heap[G]?:=hg1.block G hlG (by simp);have hJ1:J 0 W1:=hJ 0 W W1 none h0 hg1 (λr e=>by cases e);have Xi:W1.cell? ⟨X,0,none⟩=some (.slice (some ⟨G,0,none⟩) keys.length cap):=(ae5 hX1).trans hXW;clear hmm;rw[hW1];clear hW1
 gi_wp2
 gi_loopw [13] (λi wr=>∃k:Nat,k<=keys.length/\i=.int .i64 k/\J (aO keys k).length wr/\mM wr 3 W.heap.size gV (keys.take k)/\wr.heap[X]?=W.heap[X]?/\wr.heap[G]?=W.heap[G]?) (λi _=>keys.length-(intOf i).toNat)
 case atStart=>exact⟨0,ah2 _,rfl,hJ1,hF1,hX1,hG1⟩
 case round=>
  obtain⟨k,hk,rfl,hJk,hFk,hXk,hGk⟩:=hrel;by_cases hlt:k<keys.length
  ·have hbd:(k:Int)<(keys.length:Int):=(by omega);have hGr:=(hGW.same hGk).2 k hlt;have htk:keys.take (k+1)=keys.take k++[keys[k]]:=(by rw[ah1,ad6 hlt];rfl);obtain⟨lt,hlt'⟩:=hv keys[k] (ad8 hlt);have hpr:=kH hlt;have hat:=CJ (keys:=keys) hlt;have hlF:=hFk.lt;have hwk:=hFk.walk;obtain⟨D,nn,h0n,hown,hall⟩:=id hFk;have hka:=hall _ _ hlt';have fD:=hown.tidy dV;have hnn:nn<=500:=(by rw[ah6]at h0n;omega);have gB:=aj hall;have HF:=aj hFk;have HN:=aj h0n;clear hall hFk h0n;cases hc:(keys.take k).contains keys[k]
   ·rw[hc]at hka hpr;have hhas:Maps.has D lt=false:=hka.1;have eG:=aj htk;have HPR:=aj hpr;have HC:=aj hc;have HK:=aj hlt';have hkey:=hlt';clear hka htk hpr hc hat hlt';generalize keys[k]=key at hGr hkey eG HPR HC HK;simp only[gV]at hkey
    gi_wp2_with (first
     |(gi_at_lookup;refine al9 _ rfl _ _ 52 rfl 3 3 .i64 dV underlying52 underlying3 (zeroE _) W.heap.size nn D rfl hown _ lt rfl hkey ?_;intro c0 hat hwc)
     |(gi_at_mapUpdate;refine wpListIn_mapUpdate_own _ rfl _ _ _ 52 rfl 3 3 dV underlying52 _ W.heap.size nn D rfl hown (by unfold maxLen;omega) _ _ lt rfl rfl hkey _ [] (aq4 underlying3 (ao6 (by omega))) ?_;intro w5 hown5 iq))
    have hlen:(keys.take k).length=k:=(by rw[ah6];omega);have hp2:=ah HPR;rw[af2 (by decide)]at hp2;obtain⟨o,ho,hw⟩:=hwk;have hga:wr.grownBy wr none:=⟨rfl,rfl,rfl,ad5 _,λ_ _ _=>rfl⟩;have nG:X<wr.heap.size:=(by have h1:=hlX;rw[ag7 h1]at hXk;exact(ad3.1 hXk).1);have nH:G<wr.heap.size:=(by have h1:=hlG;rw[ag7 h1]at hGk;exact(ad3.1 hGk).1);refine⟨⟨k+1,by omega,by go_num,?_,?_,?_,?_⟩,by simp[intOf];omega⟩
    ·rw[hp2];exact hJ _ _ w5 (some W.heap.size) (hJ _ wr _ none hJk hga (λr e=>by cases e)) iq (λr e=>by cases e;exact⟨ad5 _,o,(hga.block _ hlF (by simp)).trans ho,hw⟩)
    ·rw[ah eG];exact um (λ_ _=>CS) dV (ah HN) (ah gB) fD (ah HK) (ah HC) (by rw[hlen];exact hown5)
    ·exact((iq.block X (af5 nG hga.size) (by simp;omega)).trans (hga.block X nG (by simp))).trans hXk
    ·exact((iq.block G (af5 nH hga.size) (by simp;omega)).trans (hga.block G nH (by simp))).trans hGk
   ·rw[hc]at hka hpr;have hhas:Maps.has D lt=true:=hka.1;obtain⟨hj,hje⟩:=hat hc;have HAT:=aj (hka.2 rfl);have eG:=aj htk;have HPR:=aj hpr;have HC:=aj hc;have hkey:=hlt';have hyk:=hY (aO keys k).length (by simpa using hj);rw[show((aO keys keys.length).map λp:Nat×Nat=>#[Value.int .i64 p.1,Value.int .i64 p.2])[(aO keys k).length]'(by simpa using hj)=#[Value.int .i64 ((keys.take k).idxOf keys[k]:Nat),Value.int .i64 k] by simp[hje]]at hyk;have hfi:(keys.take k).idxOf keys[k]<=500:=(by have:=al6 (l:=keys.take k) (a:=keys[k]);rw[ah6]at this;omega);clear hka htk hpr hc hat hlt' hje;generalize (keys.take k).idxOf keys[k]=fi at HAT hyk HPR hfi;generalize keys[k]=key at hGr hkey eG HPR HC;simp only[gV]at hkey;have hga:wr.grownBy wr none:=⟨rfl,rfl,rfl,ad5 _,λ_ _ _=>rfl⟩;obtain⟨fn,tmps,assign,body,hy,hR⟩:=hyk wr hJk;clear hyk;have nG:X<wr.heap.size:=(by have h1:=hlX;rw[ag7 h1]at hXk;exact(ad3.1 hXk).1);have nH:G<wr.heap.size:=by have h1:=hlG;rw[ag7 h1]at hGk;exact(ad3.1 hGk).1
    gi_wp2_with (gi_at_lookup;refine al9 _ rfl _ _ 52 rfl 3 3 .i64 dV underlying52 underlying3 (zeroE _) W.heap.size nn D rfl hown _ lt rfl hkey ?_;intro c0 hat hwc;have hc0:c0=(fi:Int):=by {have h:=hat.symm.trans (ah HAT);simpa using h};subst hc0;clear hat hwc)
    refine⟨λ_=>by omega,hR.mono ?_⟩;rintro e W3 (⟨rfl,hJ3,hk3⟩|⟨rfl,hx3⟩)
    ·have hX3:W3.heap[X]?=W.heap[X]?:=hk3.2.1.trans ((hga.block X nG (by simp)).trans hXk);have hG3:W3.heap[G]?=W.heap[G]?:=hk3.2.2.trans ((hga.block G nH (by simp)).trans hGk);obtain⟨o,ho,hw⟩:=hwk;have hB3:W3.heap[W.heap.size]?=wr.heap[W.heap.size]?:=(hk3.1 _ o (by omega) ((hga.block _ hlF (by simp)).trans ho) (Or.inr hw)).trans ho.symm;clear hk3 hR hy
     gi_wp2
     go_roundw
     case rel=>
      refine⟨k+1,by omega,by go_num,?_,?_,hX3,hG3⟩
      ·have hp2:aO keys (k+1)=aO keys k++[(fi,k)]:=ah HPR;rw[hp2,af8];exact hJ3
      ·rw[ah eG];exact((ah HF).kept hB3).again (ah HC)
     case measure=>simp[intOf];omega
    ·clear hR hy
     gi_wp2
     (try simp only[Exit.inBlock,Exit.then])
     exact ag3 (results_none rfl _ _ _) rfl ⟨⟨_,rfl⟩,Or.inr hx3⟩
  ·have hkk:k=keys.length:=(by omega);have HKK:=aj hkk;clear hkk;have hbd:¬(k:Int)<(keys.length:Int):=by omega
   gi_wp2
   go_end0
   refine⟨⟨_,rfl⟩,Or.inl ?_⟩;rw[<-ah HKK];exact hJk
end
section
open Go.RowKit Go.Maps Go.WideMaps
open aB (Key put)
attribute [local go_sem] Oper.semAt_some
structure TGI(w:World)(b X:Nat)(keys:List Nat)(k:Nat)(W:World):Prop where
 x:W.cell? ⟨X,0,none⟩=some (.map (some b))
 m:dN W b (fk keys k) keys.length k
 below:Below w.heap.size w W
 sz:w.heap.size+3<=W.heap.size
theorem zZ(G cap:Nat)(keys:List Nat)(w:World)(hl:keys.length<=100)(hG:uJ w G keys)(hv:∀x∈keys,∃l,keyOf prog 3 (gV x)=some l) :
  Calls prog 89 #[.slice (some ⟨G,0,none⟩) keys.length cap] w λe w'=>∃b,e=.returned (.map (some b))/\w.heap.size<=b/\Below w.heap.size w w'/\dN w' b (fi keys) keys.length 100:=by
 refine(ag4 (n:=5)).1 ?_;have hmm:=λz=>dh (P:=prog) underlying53 .i64 z w;refine ai6 func89 rfl trivial ?_ rfl;simp only[ntmps89,ae2,ae1,ae8,Nat.reduceAdd,Nat.reduceSub,ae0,ad9,ae4,ag1,ae7,ae6]
 gi_wp2
 refine⟨trivial,(ag4.2 (Jv (some ⟨G,0,none⟩) keys.length cap _)).mono ?_⟩;rintro e w2 ⟨rfl,rfl⟩
 gi_wp2
 obtain⟨w2,hw2⟩:∃w2,((w.alloc (.map #[] 0)).alloc (.cells #[.map (some w.heap.size)] 53)).alloc (.cells #[.slice (some ⟨G,0,none⟩) keys.length cap] 164)=w2:=⟨_,rfl⟩;have hs2:w2.heap.size=w.heap.size+3:=by rw[<-hw2];simp
 have hg2:w.grownBy w2 none:=by rw[<-hw2];exact((ad4 _ _ none).trans (ad4 _ _ none)).trans (ad4 _ _ none)
 have hb2:Below w.heap.size w w2:=⟨hg2.os,hg2.tape,hg2.output,hg2.size,λj hj=>hg2.block j hj (by simp)⟩;have hx2:w2.cell? ⟨w.heap.size+1,0,none⟩=some (.map (some w.heap.size)):=by rw[<-hw2];simp[go_sem]
 have hX2:w2.cell? ⟨w.heap.size+1+1,0,none⟩=some (.slice (some ⟨G,0,none⟩) keys.length cap):=by rw[<-hw2];simp[go_sem]
 have hm2:dN w2 w.heap.size (fk keys 0) keys.length 0:=by
  have h0:dN (w.alloc (.map #[] 0)) w.heap.size (fk keys 0) keys.length 0:=⟨.map [],0,ad5 _,aq9 w _ _ _,λi hi=>by rw[Ko];exact⟨by simp;rfl,λh=>absurd rfl h⟩⟩;refine h0.kept ?_;rw[<-hw2,ae3 _ _ _ (by simp;omega),ae3 _ _ _ (by simp)]
 have hGl:=hG.1;have hseq:=(Jr 4 (by omega) (w.heap.size+1+1) G cap w2.heap.size keys w2 (ad5 _) (by omega) hX2 (hG.below hb2 hGl) hv).all;rw[hw2];have HS2:=aj hs2;have Nj:w.heap.size+3<=w2.heap.size:=by omega
 have aaG:w2.heap.size<=w.heap.size+3:=by omega
 clear hw2 hmm hg2 hX2 hs2;have hTG:TGI w w.heap.size (w.heap.size+1) keys 0 w2:=⟨hx2,hm2,hb2,Nj⟩;have hown:OwnFrom w2.heap.size (TGI w w.heap.size (w.heap.size+1) keys):=by
  intro k W W' row h hg hr;have hne:∀b,b<w2.heap.size->some b≠row:=λb hb e=>by have:=(hr b e.symm).1;omega
  exact⟨hg.cell h.x (hne _ (by show w.heap.size+1<w2.heap.size;omega)),h.m.kept (hg.block _ h.m.lt (hne _ (by omega))),ownFrom_below (β:=Unit) (ad5 _) (by omega) () W W' row h.below hg hr,af7 h.sz hg.size⟩
 clear hx2 hm2 hb2;refine bK rfl (by omega) rfl trivial (λ_ _=>by simp[go_sem]) hseq KA.trans ?_ (ag6 _ _) ?_ (TGI w w.heap.size (w.heap.size+1) keys) hown hTG
  (λk a' W=>∃hk:k<(aO keys keys.length).length,a'={tmps:=#[.slice (some ⟨G,0,none⟩) keys.length cap,undef,.map none,.pointer (some ⟨w.heap.size+1,0,none⟩),.int .i64 ((aO keys keys.length)[k]).1,.int .i64 ((aO keys keys.length)[k]).2,.slice (some ⟨G,0,none⟩) keys.length cap,.int .i64 keys.length,.map (some w.heap.size),.slice (some ⟨G,0,none⟩) keys.length cap,
     .func (.func 178) #[] #[.pointer (some ⟨w.heap.size+1+1,0,none⟩)],.int .i64 ((aO keys keys.length)[k]).1,.int .i64 ((aO keys keys.length)[k]).2,undef,undef,undef,undef,undef],defers:=[]}) ?own ?assign ?body ?done
 ·intro W l o o' hlw ho hc hwk;refine⟨λj x hj hx hxc=>(af0 (λe=>?_)).trans hx,af0 (by omega),af0 (by omega)⟩;subst e;rw[ho]at hx;cases hx;rcases hxc with h|h
  ·rw[hc]at h;cases h
  ·rw[hwk]at h;cases h
 ·intro k hk;simp
 case own=>
  rintro k a' ⟨⟩ W W' row h hg hr;exact h
 case assign=>
  intro l k hk W K hI hK;have hk':k<(aO keys keys.length).length:=by simpa using hk
  have e1:((aO keys keys.length).map λp:Nat×Nat=>#[Value.int .i64 p.1,Value.int .i64 p.2])[k]'hk=#[.int .i64 ((aO keys keys.length)[k]).1,.int .i64 ((aO keys keys.length)[k]).2]:=by simp
  rw[e1];have hK2:=hK _ W ((aq2 _).from _) ⟨λj o hj ho hc=>ho,rfl,rfl⟩ hI ⟨hk',rfl⟩;clear hK;generalize (aO keys keys.length)[k]=pr at hK2 ⊢
  gi_wp2
  exact hK2
 case body=>
  rintro l k a' W hk hl' hI ⟨hk',rfl⟩;have hix:=hI.x;have hmem:=(gU keys _ (ad5 _) _).1 (ad8 hk');have hfr:=F5 hk';have hfs:=Kq hk';have hkl:k<=100:=by have:=xC keys keys.length;omega
  have hj:=Fj W w.heap.size keys.length k (fk keys k) ((aO keys keys.length)[k]).1 ((aO keys keys.length)[k]).2 hI.m (by omega) hmem.1 (by omega) (by omega) (by omega) hfr.2 hfr.1;have hIb:=aj hI;have HFS:=aj hfs;clear hI hfs hfr hmem hTG hown;generalize (aO keys keys.length)[k]=pr at hj HFS ⊢;obtain⟨x,y⟩:=pr;simp only at hj ⊢
  gi_wp2
  refine⟨trivial,al4 l (ag4.2 (hj.mono ?_))⟩;rintro e w3 ⟨⟨v,rfl⟩,hg,hm⟩
  gi_wp2
  have hI:=ah hIb;have hs:∀j,j<W.heap.size->j≠w.heap.size->w3.heap[j]?=W.heap[j]?:=λj hj hne=>hg.block j hj (by simpa using hne);have hsW:=hI.below.size;have hlX:w.heap.size+3<=W.heap.size:=hI.sz;refine⟨⟨hg.size,λj o hj ho _=>(hs j (ad3.1 ho).1 (by omega)).trans ho⟩,⟨λj o hj ho _=>(hs j (ad3.1 ho).1 (by omega)).trans ho,hs _ (by omega) (by omega),hs G (by omega) (by omega)⟩,
   hg.cell hI.x (by simp),hm.congr (λi _=>(ah HFS i).symm),hI.below.grown hg hI.below.size (λj e=>by cases e;exact ad5 _),af7 hI.sz hg.size⟩
 case done=>
  intro D W hD hI hdef;have hx:=hI.x
  gi_wp2
  refine⟨by simp,.inl ⟨_,_,rfl,aj6 hdef,?_⟩⟩;refine⟨_,am8 rfl _ _ _,?_⟩;have hI2:=hown.putObj (.deferred none) hI hD hdef rfl;refine⟨w.heap.size,rfl,ad5 _,hI2.below,?_⟩;obtain⟨D',nn,h1,h2,h3⟩:=hI2.m;have hle:=xC keys keys.length;rw[ai8]at h1 h3;refine⟨D',nn,by omega,h2,λi hi=>?_⟩;have h4:=h3 i hi;rw[QU keys hi]at h4;exact h4
end
open Go.RowKit Go.Maps Go.WideMaps
open Nx
theorem zK(n:Nat)(w:World):Calls prog 44 #[.int .i64 n] w λe w'=>
  e=.returned (.func (.func 87) #[] #[.pointer (some ⟨w.heap.size,0,none⟩)])/\w'=w.alloc (.cells #[.int .i64 n] 3):=by
 go_enter func44,ntmps44
 go_wp2_with fail
 go_ret
 exact⟨rfl,rfl⟩
def CX(n k:Nat)(xs:Array Value)(W:World):Prop:=∃b row,xs=#[.map (some b)]/\(rws 0 n)[k]?=some row/\dN W b (fi row) n 100
theorem uK.same{w w':World}{base G:Nat}{row:List Nat}(h:uK w base G row)(hb:w'.heap[G]?=w.heap[G]?):uK w' base G row:=by
 refine⟨h.1,?_⟩;rcases h.2 with⟨h',_⟩|⟨g',cap',cur,h',h1,hg,h2⟩
 ·simp at h'
 ·have h'':=h';simp only[Value.slice.injEq,ai4,Addr.mk.injEq,and_true,true_and]at h'';obtain⟨rfl,rfl⟩:=h'';exact .inr ⟨_,_,cur,h',h1,hb.trans hg,h2⟩
def XI(J:Nat->World->Prop)(W:World)(N r:Nat)(v:Value)(wr:World):Prop:=
 W.heap.size<=wr.heap.size/\((∃k row,r=(rws 0 N).length-k/\k<(rws 0 N).length/\v=.bool true/\J k wr/\(rws 0 N)[k]?=some row/\uK wr W.heap.size W.heap.size row)\/(r=0/\v=.bool false/\J (rws 0 N).length wr))
theorem zL(n:Nat)(hn:2<=n)(X m0 N:Nat)(w:World)(hm0:m0<=w.heap.size)(h0:0<N)(h7:N<=7)(hX:w.cell? ⟨X,0,none⟩=some (.int .i64 N)) :
  zT Fence.wide n prog 87 #[.pointer (some ⟨X,0,none⟩)] (rws 0 N).length (CX N) (KA m0 X X) w:=by
 intro l J W hW hJ hY h0;have hXW:W.cell? ⟨X,0,none⟩=some (.int .i64 N):=(hW.cell (p:=⟨X,0,none⟩) (ad7 w _ hX)).trans hX;have hlX:X<W.heap.size:=ad7 W _ hXW;obtain⟨i0,hin,hz0,hz1,hz2⟩:=ak7 Qa;have hsW:=hW.size;obtain⟨W1,hmk,hrow,hg1⟩:=run_make_full (P:=prog) W W.heap.size 164 3 i0 (.int .i64 0) 1 underlying164 hin hz0 hz1 .i64 .i64 N (by rw[hz2];omega) (by unfold maxLen;omega) (ad5 _);refine aj3 func87 rfl trivial ?_ rfl;simp only[ntmps87,ae2,ae1,ae8,Nat.reduceAdd,Nat.reduceSub,ae0,ad9,ae4,ag1,ae7,ae6]
 gi_wp2
 have hr0:uK W1 W.heap.size W.heap.size (List.replicate N 0):=by
  unfold uK;rw[List.length_replicate,List.map_replicate];have e:(madeCells (Value.int IntKind.i64 0).cells (N*1)).toList=List.replicate N (gV 0):=by
   rw[Nat.mul_one];exact toList_madeCells_one _ _
  rw[<-e];exact hrow
 have hJ1:J 0 W1:=hJ 0 W W1 h0 (ad5 _) ⟨hg1.os,hg1.tape,hg1.output,hg1.size,λj hj=>hg1.block j hj (by simp)⟩;have hI0:XI J W N (rws 0 N).length (.bool true) W1:=⟨hg1.size,Or.inl ⟨0,_,rfl,JH _ _,rfl,hJ1,sS _ _,hr0⟩⟩;have HJ:=aj hJ;have HY:=aj hY;clear hJ1 hr0 hJ hY h0 hmk hrow
 gi_loopw [4] (λv wr=>∃r,XI J W N r v wr) (λv wr=>Classical.epsilon λr=>XI J W N r v wr/\∀m,XI J W N m v wr->r<=m)
 case atStart=>exact⟨_,hI0⟩
 case round=>
  have hsp:=QX hrel;obtain⟨hsz,⟨k,row,hr,hk,rfl,hJk,hrk,hrd⟩|⟨hr,rfl,hJL⟩⟩:=hsp
  ·have hmem:row∈rws 0 N:=List.mem_of_getElem? hrk;have hrl:row.length=N:=sU _ _ row hmem;have hle:∀x∈row,x<=7:=λx hx=>by have:=OG _ _ row hmem x hx;omega
   have WO:=JJ N 0 k hk;have hgk:(rws 0 N)[k]=row:=(by rw[ad6 hk]at hrk;exact ak1 hrk);rw[hgk]at WO;have Wy:=zZ W.heap.size N row wr (by omega) ⟨(hrd.lt W.heap.size rfl).2,λi hi=>hrd.at hi⟩ (λx hx=>⟨_,pJ (by have:=hle x hx;omega)⟩);rw[hrl]at Wy;have HRL:=aj hrl;have HRK:=aj hrk;have HO:=aj WO;have HR:=aj hr;have HRD:=aj hrd;have HLE:=aj hle;have hlG:=(hrd.lt W.heap.size rfl).2;clear hrl hrk WO hr hrd hrel hle hmem hgk
   gi_wp2
   refine⟨trivial,λ_=>by omega,(ag4.2 Wy).mono ?_⟩;rintro e w2 ⟨b,rfl,hb,hb2,hcm⟩;have hJ2:J k w2:=ah HJ k wr w2 hJk hsz (hb2.mono hsz);have hs2:wr.heap.size<=w2.heap.size:=hb2.size;obtain⟨fn,tmps,assign,body,hy,hR⟩:=ah HY k #[.map (some b)] w2 hk (by omega) ⟨b,row,rfl,ah HRK,hcm⟩ hJ2;clear Wy
   gi_wp2
   refine⟨λ_=>by omega,hR.mono ?_⟩;rintro e W3 ⟨rfl,hJ3,hk3,hs3⟩;have hG3:W3.heap[W.heap.size]?=wr.heap[W.heap.size]?:=by
    obtain⟨o,ho⟩:∃o,wr.heap[W.heap.size]?=some o:=⟨_,ag7 hlG⟩;have hc:o.isCells=true:=by
     rcases(ah HRD).2 with⟨h',_⟩|⟨g',cap',cur,h',_,hg,_⟩
     ·simp at h'
     ·simp only[Value.slice.injEq,ai4,Addr.mk.injEq,and_true,true_and]at h';obtain⟨rfl,rfl⟩:=h';rw[ho]at hg;cases hg;rfl
    rw[ho];exact hk3.1 _ o (by omega) ((hb2.block _ hlG).trans ho) (Or.inl hc)
   have aaJ:uK W3 W.heap.size W.heap.size row:=(ah HRD).same hG3;have hnd:=yF W3 W.heap.size W.heap.size row (by rw[ah HRL];omega) (by rw[ah HRL];omega) (λx hx=>by have:=ah HLE x hx;omega) aaJ;rw[ah HRL]at hnd;clear hR hy
   gi_wp2
   refine⟨trivial,λ_=>by omega,(ag4.2 hnd).mono ?_⟩;rintro e w4 ⟨rfl,hg4,YO⟩;have hJ4:J (k+1) w4:=ah HJ (k+1) W3 w4 hJ3 (by omega) ⟨hg4.os,hg4.tape,hg4.output,hg4.size,λj hj=>hg4.block j (by omega) (by simp;omega)⟩;have hs4:W3.heap.size<=w4.heap.size:=hg4.size
   gi_wp2
   have hor:=ah HO;by_cases hlast:k+1<(rws 0 N).length
   ·rw[af6 hlast]at hor;obtain⟨row',hrow'⟩:∃row',(rws 0 N)[k+1]?=some row':=⟨_,ad6 hlast⟩;rw[hrow']at hor;rw[hor]at YO ⊢;have hx:XI J W N ((rws 0 N).length-(k+1)) (.bool (some row').isSome) w4:=⟨by omega,Or.inl ⟨k+1,row',rfl,hlast,rfl,hJ4,hrow',YO⟩⟩;exact⟨⟨_,hx⟩,QY hx (by have:=ah HR;omega)⟩
   ·rw[af2 hlast]at hor;rw[hor];have hx:XI J W N 0 (.bool (none:Option (List Nat)).isSome) w4:=⟨by omega,Or.inr ⟨rfl,rfl,by rw[show(rws 0 N).length=k+1 by omega];exact hJ4⟩⟩;exact⟨⟨_,hx⟩,QY hx (by have:=ah HR;omega)⟩
  ·gi_wp2
   go_end0
   exact⟨⟨_,rfl⟩,hJL,hsz⟩
theorem set_mid{α:Type}(A B:List α)(x y:α){k:Nat}(h:A.length=k):(A++x::B).set k y=A++y::B:=by subst h;simp
theorem XH{k j:Nat}(hk:k<16)(hj:j<4):Go.bits BinOp.and IntKind.i64 ((k:Int)/2 ^ j) 1=((k/2 ^ j%2:Nat):Int):=by
 have h:∀k:Fin 16,∀j:Fin 4,Go.bits BinOp.and IntKind.i64 ((k.val:Int)/2 ^ j.val) 1=((k.val/2 ^ j.val%2:Nat):Int):=by decide +kernel
 exact h ⟨k,hk⟩ ⟨j,hj⟩
theorem Ar(n:Nat)(w:World):Calls prog 45 #[.int .i64 n] w λe w'=>
  e=.returned (.func (.func 90) #[] #[.pointer (some ⟨w.heap.size,0,none⟩)])/\w'=w.alloc (.cells #[.int .i64 n] 3):=by
 go_enter func45,ntmps45
 go_wp2_with fail
 go_ret
 exact⟨rfl,rfl⟩
def TX(n k:Nat)(xs:Array Value)(W:World):Prop:=∃H,xs=#[.slice (some ⟨H,0,none⟩) n n]/\bY W H (tv n k)
theorem Au(n:Nat)(hn:2<=n)(X m0 N:Nat)(w:World)(h4:N<=4)(hX:w.cell? ⟨X,0,none⟩=some (.int .i64 N)) :
  zT Fence.wide n prog 90 #[.pointer (some ⟨X,0,none⟩)] (2 ^ N) (TX N) (KA m0 X X) w:=by
 intro l J W hW hJ hY h0;have hXW:W.cell? ⟨X,0,none⟩=some (.int .i64 N):=(hW.cell (p:=⟨X,0,none⟩) (ad7 w _ hX)).trans hX;have hlX:X<W.heap.size:=ad7 W _ hXW;obtain⟨i0,hin,hz0,hz1,hz2⟩:=ak7 Fv;have hsW:=hW.size;refine aj3 func90 rfl trivial ?_ rfl;simp only[ntmps90,ae2,ae1,ae8,Nat.reduceAdd,Nat.reduceSub,ae0,ad9,ae4,ag1,ae7,ae6]
 gi_wp2
 have hp:wrap64 ((2:Int) ^ N)=((2 ^ N:Nat):Int):=by
  have h':N=0\/N=1\/N=2\/N=3\/N=4:=by omega
  rcases h' with rfl|rfl|rfl|rfl|rfl<;>(unfold wrap64;omega)
 rw[hp];clear hp;obtain⟨M,hM⟩:∃M,2 ^ N=M:=⟨_,rfl⟩;rw[hM]at hY ⊢;have adk:M<=16:=by
  have h':N=0\/N=1\/N=2\/N=3\/N=4:=by omega
  rcases h' with rfl|rfl|rfl|rfl|rfl<;>omega
 have HJ:=aj hJ;have HY:=aj hY;have HM:=aj hM;clear hJ hY hM
 gi_loopw [8] (λi wr=>∃k:Nat,k<=M/\i=.int .i64 k/\J k wr/\wr.heap[X]?=W.heap[X]?/\W.heap.size<=wr.heap.size) (λi _=>M-(intOf i).toNat)
 case atStart=>exact⟨0,ah2 _,rfl,h0,rfl,ad5 _⟩
 case round=>
  obtain⟨k,hk,rfl,hJk,hXk,hsz⟩:=hrel;obtain⟨w0,rfl⟩:∃w0,w0=wr:=⟨_,rfl⟩;by_cases hlt:k<M
  ·have hbd:(k:Int)<(M:Int):=(by omega);have hXr:w0.cell? ⟨X,0,none⟩=some (.int .i64 N):=(ae5 hXk).trans hXW;obtain⟨W1,hmk,hrow,hg1⟩:=run_make_full (P:=prog) w0 w0.heap.size 54 4 i0 (.bool false) 1 underlying54 hin hz0 hz1 .i64 .i64 N (by rw[hz2];omega) (by unfold maxLen;omega) (ad5 _);have e0:(madeCells (Value.bool false).cells (N*1)).toList=List.replicate N (.bool false):=by
    rw[Nat.mul_one];exact toList_madeCells_one _ _
   rw[e0]at hrow;have eX:=aj hrow;clear hrow e0
   gi_wp2
   gi_loopw [15] (λi wr=>∃j:Nat,j<=N/\i=.int .i64 j/\w0.grownBy wr none/\wr.ownsRow w0.heap.size 4 1 (.slice (some ⟨w0.heap.size,0,none⟩) N N) N (((tv N k).take j++List.replicate (N-j) false).map Value.bool)) (λi _=>N-(intOf i).toNat)
   case atStart=>exact⟨0,ah2 _,rfl,hg1,by simpa using ah eX⟩
   case round=>
    obtain⟨j,hj,rfl,hg2,hr2⟩:=hrel;by_cases hlj:j<N
    ·have hbj:(j:Int)<(N:Int):=(by omega);have hcj:wr.cell? ⟨w0.heap.size,j,none⟩=some (.bool false):=by
      have hl1:((tv N k).take j).length=j:=(by rw[ah6,dX];omega);rw[hr2.cellAt j (by omega),aj8,List.getElem?_append_right (by omega),hl1,Nat.sub_self,ad6 (by simp;omega)];simp
     have hfj:wr.frozen? ⟨w0.heap.size,j,none⟩=false:=hr2.frozenAt j;obtain⟨bv,hbv⟩:∃bv,decide (k/2 ^ j%2=1)=bv:=⟨_,rfl⟩;have hst:=hr2.stored j (.bool bv);have hbit:(Go.bits BinOp.and IntKind.i64 ((k:Int)/2 ^ j) 1==1)=bv:=by
      rw[XH (k:=k) (j:=j) (by omega) (by omega),<-hbv,Bool.eq_iff_iff];simp only[beq_iff_eq,aj7];omega
     have htk:(tv N k).take (j+1)=(tv N k).take j++[bv]:=by
      rw[ah1,ad6 (by rw[dX];exact hlj)];simp[tv,hbv]
     have HST:=aj hst;have eG:=aj htk;clear hst hbv htk
     gi_wp2
     refine⟨⟨j+1,hlj,by go_num,⟨(ah HST).2.os.trans hg2.os,(ah HST).2.tape.trans hg2.tape,(ah HST).2.output.trans hg2.output,af7 hg2.size (ah HST).2.size,λq hq _=>((ah HST).2.block q (af5 hq hg2.size) (by simp;omega)).trans (hg2.block q hq (by simp))⟩,?_⟩,by simp[intOf];omega⟩;have e:((tv N k).take (j+1)++List.replicate (N-(j+1)) false).map Value.bool=(((tv N k).take j++List.replicate (N-j) false).map Value.bool).set j (.bool bv):=by
      have hl1:((tv N k).take j).length=j:=(by rw[ah6,dX];omega);have hl2:(((tv N k).take j).map Value.bool).length=j:=(by rw[ai8,hl1]);have e2:=set_mid (((tv N k).take j).map Value.bool) ((List.replicate (N-(j+1)) false).map Value.bool) (.bool false) (.bool bv) hl2;rw[ah eG,show N-j=N-(j+1)+1 by omega,List.replicate_succ];simp only[ak3,ap8,List.map_nil];rw[e2];simp
     rw[e];exact(ah HST).1
    ·have hjj:j=N:=(by omega);have HJJ:=aj hjj;have hbj:¬(j:Int)<(N:Int):=(by omega);have hrh:bY wr w0.heap.size (tv N k):=by
      refine⟨(hr2.lt w0.heap.size rfl).2,λi hi=>?_⟩;have hi':i<N:=(by rw[dX]at hi;exact hi);rw[hr2.cellAt i (by omega),hjj,ah5 (by rw[dX];exact ad5 _)];simp[hi',dX]
     have hJr:J k wr:=ah HJ k w0 wr hJk hsz ⟨hg2.os,hg2.tape,hg2.output,hg2.size,λq hq=>hg2.block q (by omega) (by simp)⟩;have hsr:w0.heap.size<=wr.heap.size:=hg2.size;obtain⟨fn,tmps,assign,body,hy,hR⟩:=ah HY k #[.slice (some ⟨w0.heap.size,0,none⟩) N N] wr hlt (by omega) ⟨w0.heap.size,rfl,hrh⟩ hJr;have aa5:wr.heap[X]?=W.heap[X]?:=(hg2.block X (by omega) (by simp)).trans hXk;clear hjj hr2 hrh
     gi_wp2
     refine⟨λ_=>by omega,hR.mono ?_⟩;rintro e W3 ⟨rfl,hJ3,hk3,hs3⟩;clear hR hy
     gi_wp2
     exact⟨⟨k+1,hlt,by go_num,hJ3,hk3.2.1.trans aa5,by omega⟩,by simp[intOf];omega⟩
  ·have hkk:k=M:=(by omega);have hbd:¬(k:Int)<(M:Int):=(by omega);have HKK:=aj hkk;clear hkk
   gi_wp2
   go_end0
   refine⟨⟨_,rfl⟩,?_,hsz⟩;rw[ah HM,<-ah HKK];exact hJk
end Go.Proofs.YthcppbmkacbbiabGreat
