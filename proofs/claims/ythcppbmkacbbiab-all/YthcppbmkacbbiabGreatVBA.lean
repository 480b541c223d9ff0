import Derived.Test.YthcppbmkacbbiabGreatVAT
import Derived.Lib.SliceRun
import Derived.BigFrame
set_option linter.unusedSimpArgs false
set_option maxHeartbeats 2000000
set_option maxRecDepth 100000
namespace Go.Proofs.YthcppbmkacbbiabGreat
open Go.Proofs.Tryz
section
open Go.RowKit
def AbB{β:Type}(B:Nat)(Af:β->World->Prop):Prop:=∀s Ad C,Af s Ad->B<=Ad.heap.size->Below B Ad C->Af s C
theorem nV{B l:Nat}{W:World}{o':Obj}(h:B<=l):Below B W (W.putObj l o'):=
 ⟨rfl,rfl,rfl,by simp[World.putObj],λk hk=>ap1 O⟩
def KN(aj:Fence)(n:Nat)(P:Program)(g:Nat)(lb:Array Value)(N:Nat)(X:Nat->Array Value->World->Prop)(Kp:World->World->Prop)(w:World):Prop:=
 ∀(l:Nat) (Af:Nat->World->Prop) (W:World),Below w.heap.size w W->AbB W.heap.size Af->
  (∀k xs W1,k<N->W.heap.size<=W1.heap.size->X k xs W1->Af k W1->YieldAt aj (n-1) P l xs W1 λe W'=>e=.returned (.bool true)/\Af (k+1) W'/\Kp W1 W'/\W1.heap.size<=W'.heap.size)->
  Af 0 W->
  CallsIn aj n P g (#[.func (.yield l) #[] #[]]++lb) W λe W'=>(∃v,e=.returned v)/\Af N W'/\W.heap.size<=W'.heap.size
theorem Bo{aj:Fence}{n:Nat}{P:Program}{g:Operand}{ps:Array Tmp}{assign body:Code}{Q:Exit->Act->World->Prop}{a:Act}{w:World}
 (yK:aj.round=none)(I:1<=n){gf:Nat}{lb:Array Value}(hg:a.eval g=.func (.func gf) #[] lb)(TQ:aj.fn gf)(eg:∀args w,(callFunc gf args).run P w=.ok (.enter gf args) w)
 {N:Nat}{X:Nat->Array Value->World->Prop}{Kp:World->World->Prop}{w0:World}(dK:KN aj (n-1) P gf lb N X Kp w0)
 (Pe:∀{Ad B C:World},Kp Ad B->Kp B C->Kp Ad C)(YE:∀(W:World) (l:Nat) (o o':Obj),w.heap.size<=l->W.heap[l]?=some o->o.isCells=false->o.isWalk=false->Kp W (W.putObj l o'))
 (kQ:Below w0.heap.size w0 w)(oQ:∀k xs W,X k xs W->xs.size=ps.size)
 (h1:Nat->World->Prop)(hI:AbB w.heap.size h1)(h0:h1 0 w)(Ax:Nat->Act->World->Prop)
 (hAx:∀k a' (W:World) l r r',w.heap.size<=l->W.heap[l]?=some (.loop r)->Ax k a' W->Ax k a' (W.putObj l (.loop r')))
 (qm:∀(l k:Nat) (xs:Array Value) (W:World) (K:Act->World->Prop),k<N->w.heap.size<=W.heap.size->X k xs W->h1 k W->(∀a' W',KeepsFrom w.heap.size W W'->Kp W W'->h1 k W'->Ax k a' W'->K a' W')->
   assign.wpIn (aj.inRound l) (n-1-1) P (Exit.then K (λ_ _ _=>False)) {tmps:=(ps.zip xs).foldl (λt (p,v)=>t.setIfInBounds p v) a.tmps,defers:=[]} W)
 (D6:∀(l k:Nat) (a':Act) (W:World),k<N->w.heap.size<=l->(∃r,W.heap[l]?=some (.loop r))->h1 k W->Ax k a' W->body.wpIn (aj.inRound l) (n-1-1) P (jX w.heap.size Kp (h1 (k+1)) W) a' W)
 (nD:∀(D:Nat) (W:World),w.heap.size<=D->h1 N W->W.heap[D]?=some (.deferred (some []))->Q .normal {a with defers:={target:=.collected D,args:=#[]}::a.defers} W) :
  (Code.rangeFunc g ps assign body).wpIn aj n P Q a w:=by
 refine wpIn_rangeFunc ?_;intro fn hfn;rw[yK];obtain⟨lp,qI⟩:∃lp:LoopState->Option Code->Loop,lp=λst pe=>{state:=st,pending:=pe,fn,tmps:=a.tmps,params:=ps,assign,body,defers:=w.heap.size}:=⟨_,rfl⟩;obtain⟨W1,dO⟩:∃W1,(w.alloc (.deferred (some []))).alloc (.loop (lp .ready none))=W1:=⟨_,rfl⟩;have vZ:W1.heap.size=w.heap.size+2:=by rw[<-dO];simp
 have DF:W1.heap[w.heap.size+1]?=some (.loop (lp .ready none)):=by
  have h:=aC3 (w.alloc (.deferred (some []))) (.loop (lp .ready none));rw[World.size_alloc]at h;rw[<-dO];exact h
 have Cb:W1.heap[w.heap.size]?=some (.deferred (some [])):=by
  rw[<-dO];exact(ao3 _ _ _ R).trans (aC3 w _)
 have rQ:Below w.heap.size w W1:=by rw[<-dO];exact((aq1 _ w).alloc (an2 _) _).alloc R _
 have inv1:h1 0 W1:=hI 0 w W1 h0 (an2 _) rQ;have wR:Below w0.heap.size w0 W1:=kQ.trans (rQ.mono kQ.size);have abide:AbB W1.heap.size (λk W=>h1 k W/\W.heap[w.heap.size+1]?=some (.loop (lp .ready none))/\W.heap[w.heap.size]?=some (.deferred (some []))):=by
  intro k Ad C hk hs hb;exact⟨hI k Ad C hk.1 O (hb.mono O),(hb.block _ O).trans hk.2.1,(hb.block _ O).trans hk.2.2⟩
 refine⟨w.heap.size+1,[{target:=.collected w.heap.size,args:=#[]}],W1,{target:=.fn (.func gf) lb,args:=#[.func (.yield (w.heap.size+1)) #[] #[]]},W1,gf,
  #[.func (.yield (w.heap.size+1)) #[] #[]]++lb,W1,?_,?_,?_,?_,λ_=>I,?_⟩
 ·rw[<-dO,qI];exact run_enterLoop_outer _ _ _ _ _
 ·simp only[resolve,hg];simp[go_sem]
 ·intro f' O5;simp[Target.leads]at O5;subst O5;exact TQ
 ·simp[invoke,go_sem,eg]
 ·refine(dK (w.heap.size+1) _ W1 wR abide ?_ ⟨inv1,DF,Cb⟩).mono ?_
  ·rintro k xs W hk Gh hX ⟨hi,hl,hd⟩;have hy:=run_yield (P:=P) (args:=xs) hl (by rw[qI];exact oQ k xs W hX);rw[qI]at hy;refine⟨fn,_,assign,body,hy,roundIn_of_wpIn hfn (qm _ k xs W _ hk O hX hi ?_)⟩;intro a' Wa ru kpA iA ax;have lH:=ru.same _ _ O hl rfl;have hd2:=ru.same _ _ (an2 _) hd rfl;have hlt:w.heap.size+1<Wa.heap.size:=(an0.1 lH).1;refine⟨_,run_beginRound lH (by rw[qI]),?_⟩;have Tc:(Wa.putObj (w.heap.size+1) (.loop {lp .ready none with state:=.busy})).heap[w.heap.size+1]?=some (.loop {lp .ready none with state:=.busy}):=ay8 hlt;have hd3:(Wa.putObj (w.heap.size+1) (.loop {lp .ready none with state:=.busy})).heap[w.heap.size]?=some (.deferred (some [])):=(ap1 O).trans hd2;have kp3:Kp Wa (Wa.putObj (w.heap.size+1) (.loop {lp .ready none with state:=.busy})):=YE _ _ _ _ O lH rfl rfl;refine wpIn_mono (D6 (w.heap.size+1) k a' _ hk O ⟨_,Tc⟩ (hI k _ _ iA O (nV O)) (hAx k a' _ _ _ _ O lH ax)) ?_;rintro e a3 W3 hp;cases e with
   |normal=>
    obtain⟨ni,kp4,i3⟩:=hp;have ED:=ni.same _ _ O Tc rfl;have ag9:=(an0.1 ED).1;have hr:=run_endRound (P:=P) none ED;rw[qI]at hr;refine⟨_,_,hr,rfl,⟨hI (k+1) _ _ i3 O (nV O),?_,?_⟩,Pe kpA (Pe (Pe kp3 kp4) (YE _ _ _ _ O ED rfl rfl)),?_⟩
    ·rw[qI];exact ay8 ag9
    ·exact(ap1 O).trans (ni.same _ _ (an2 _) hd3 rfl)
    ·have e1:=ru.size;have e2:=ni.size;simp only[World.putObj,Array.size_setIfInBounds]at e2 ⊢;omega
   |ret=>exact hp.elim
   |exit id=>exact hp.elim
   |goto t=>exact hp.elim
   |panic ch=>exact hp.elim
   |outgrown=>exact hp.elim
  ·rintro e W2 ⟨⟨v,rfl⟩,⟨hi,hl,hd⟩,su⟩;have hr:=run_endLoop (P:=P) hl (by rw[qI];simp);rw[qI]at hr;exact⟨none,_,hr,nD _ _ (an2 _) (hI N _ _ hi O (nV O)) ((ap1 O).trans hd)⟩
theorem Am{aj:Fence}{n:Nat}{P:Program}{g:Operand}{ps:Array Tmp}{assign body:Code}{Q:Exit->Act->World->Prop}{a:Act}{w:World}
 {l0:Nat}{r0:Loop}(yK:aj.round=some l0)(NS:w.heap[l0]?=some (.loop r0))(I:1<=n){gf:Nat}{lb:Array Value}(hg:a.eval g=.func (.func gf) #[] lb)(TQ:aj.fn gf)(eg:∀args w,(callFunc gf args).run P w=.ok (.enter gf args) w)
 {N:Nat}{X:Nat->Array Value->World->Prop}{Kp:World->World->Prop}{w0:World}(dK:KN aj (n-1) P gf lb N X Kp w0)
 (Pe:∀{Ad B C:World},Kp Ad B->Kp B C->Kp Ad C)(YE:∀(W:World) (l:Nat) (o o':Obj),w.heap.size<=l->W.heap[l]?=some o->o.isCells=false->o.isWalk=false->Kp W (W.putObj l o'))
 (kQ:Below w0.heap.size w0 w)(oQ:∀k xs W,X k xs W->xs.size=ps.size)
 (h1:Nat->World->Prop)(hI:AbB w.heap.size h1)(h0:h1 0 w)(Ax:Nat->Act->World->Prop)
 (hAx:∀k a' (W:World) l r r',w.heap.size<=l->W.heap[l]?=some (.loop r)->Ax k a' W->Ax k a' (W.putObj l (.loop r')))
 (qm:∀(l k:Nat) (xs:Array Value) (W:World) (K:Act->World->Prop),k<N->w.heap.size<=W.heap.size->X k xs W->h1 k W->(∀a' W',KeepsFrom w.heap.size W W'->Kp W W'->h1 k W'->Ax k a' W'->K a' W')->
   assign.wpIn (aj.inRound l) (n-1-1) P (Exit.then K (λ_ _ _=>False)) {tmps:=(ps.zip xs).foldl (λt (p,v)=>t.setIfInBounds p v) a.tmps,defers:=[]} W)
 (D6:∀(l k:Nat) (a':Act) (W:World),k<N->w.heap.size<=l->(∃r,W.heap[l]?=some (.loop r))->h1 k W->Ax k a' W->body.wpIn (aj.inRound l) (n-1-1) P (jX w.heap.size Kp (h1 (k+1)) W) a' W)
 (nD:∀(W:World),w.heap.size<=W.heap.size->h1 N W->Q .normal a W) :
  (Code.rangeFunc g ps assign body).wpIn aj n P Q a w:=by
 refine wpIn_rangeFunc ?_;intro fn hfn;rw[yK];obtain⟨lp,qI⟩:∃lp:LoopState->Option Code->Loop,lp=λst pe=>{state:=st,pending:=pe,fn,tmps:=a.tmps,params:=ps,assign,body,defers:=r0.defers}:=⟨_,rfl⟩;obtain⟨W1,dO⟩:∃W1,w.alloc (.loop (lp .ready none))=W1:=⟨_,rfl⟩;have vZ:W1.heap.size=w.heap.size+1:=by rw[<-dO];simp
 have DF:W1.heap[w.heap.size]?=some (.loop (lp .ready none)):=by rw[<-dO];exact aC3 w _
 have rQ:Below w.heap.size w W1:=by rw[<-dO];exact(aq1 _ w).alloc (an2 _) _
 have inv1:h1 0 W1:=hI 0 w W1 h0 (an2 _) rQ;have wR:Below w0.heap.size w0 W1:=kQ.trans (rQ.mono kQ.size);have abide:AbB W1.heap.size (λk W=>h1 k W/\W.heap[w.heap.size]?=some (.loop (lp .ready none))):=by
  intro k Ad C hk hs hb;exact⟨hI k Ad C hk.1 O (hb.mono O),(hb.block _ O).trans hk.2⟩
 refine⟨w.heap.size,[],W1,{target:=.fn (.func gf) lb,args:=#[.func (.yield w.heap.size) #[] #[]]},W1,gf,
  #[.func (.yield w.heap.size) #[] #[]]++lb,W1,?_,?_,?_,?_,λ_=>I,?_⟩
 ·rw[<-dO,qI];exact run_enterLoop_inner NS _ _ _ _ _
 ·simp only[resolve,hg];simp[go_sem]
 ·intro f' O5;simp[Target.leads]at O5;subst O5;exact TQ
 ·simp[invoke,go_sem,eg]
 ·refine(dK w.heap.size _ W1 wR abide ?_ ⟨inv1,DF⟩).mono ?_
  ·rintro k xs W hk Gh hX ⟨hi,hl⟩;have hy:=run_yield (P:=P) (args:=xs) hl (by rw[qI];exact oQ k xs W hX);rw[qI]at hy;refine⟨fn,_,assign,body,hy,roundIn_of_wpIn hfn (qm _ k xs W _ hk O hX hi ?_)⟩;intro a' Wa ru kpA iA ax;have lH:=ru.same _ _ (an2 _) hl rfl;have hlt:w.heap.size<Wa.heap.size:=(an0.1 lH).1;refine⟨_,run_beginRound lH (by rw[qI]),?_⟩;have Tc:(Wa.putObj w.heap.size (.loop {lp .ready none with state:=.busy})).heap[w.heap.size]?=some (.loop {lp .ready none with state:=.busy}):=ay8 hlt;have kp3:Kp Wa (Wa.putObj w.heap.size (.loop {lp .ready none with state:=.busy})):=YE _ _ _ _ (an2 _) lH rfl rfl;refine wpIn_mono (D6 w.heap.size k a' _ hk (an2 _) ⟨_,Tc⟩ (hI k _ _ iA O (nV (an2 _))) (hAx k a' _ _ _ _ (an2 _) lH ax)) ?_;rintro e a3 W3 hp;cases e with
   |normal=>
    obtain⟨ni,kp4,i3⟩:=hp;have ED:=ni.same _ _ (an2 _) Tc rfl;have ag9:=(an0.1 ED).1;have hr:=run_endRound (P:=P) none ED;rw[qI]at hr;refine⟨_,_,hr,rfl,⟨hI (k+1) _ _ i3 O (nV (an2 _)),?_⟩,Pe kpA (Pe (Pe kp3 kp4) (YE _ _ _ _ (an2 _) ED rfl rfl)),?_⟩
    ·rw[qI];exact ay8 ag9
    ·have e1:=ru.size;have e2:=ni.size;simp only[World.putObj,Array.size_setIfInBounds]at e2 ⊢;omega
   |ret=>exact hp.elim
   |exit id=>exact hp.elim
   |goto t=>exact hp.elim
   |panic ch=>exact hp.elim
   |outgrown=>exact hp.elim
  ·rintro e W2 ⟨⟨v,rfl⟩,⟨hi,hl⟩,su⟩;have hr:=run_endLoop (P:=P) hl (by rw[qI];simp);rw[qI]at hr;exact⟨none,_,hr,nD _ (by simp only[World.putObj,Array.size_setIfInBounds];omega) (hI N _ _ hi O (nV (an2 _)))⟩
end
namespace Nx
def cm(m:Nat)(p:List Nat):Nat:=p.foldl (λm d=>max m (d+1)) m
def zC:Nat->List Nat->Option (List Nat)
 |_,[]=>none
 |m,d::l=>match zC (max m (d+1)) l with
  |some l'=>some (d::l')
  |none=>if d<m then some ((d+1)::List.replicate l.length 0)else none
theorem yC(m d:Nat)(l:List Nat):zC m (d::l)=match zC (max m (d+1)) l with
  |some l'=>some (d::l')
  |none=>if d<m then some ((d+1)::List.replicate l.length 0)else none:=rfl
def rws:Nat->Nat->List (List Nat)
 |_,0=>[[]]
 |m,n+1=>(List.range' 0 (m+1)).flatMap λd=>(rws (max m (d+1)) n).map (d::·)
def Orb{α:Type}(nx:α->Option α)(L:List α)(t:Option α):Prop:=∀k (hk:k<L.length),nx L[k]=if k+1<L.length then L[k+1]? else t
theorem I8{α:Type}{nx:α->Option α}{L1 L2:List α}{t:Option α}(I:Orb nx L1 L2[0]?)(M:Orb nx L2 t)(bg:0<L2.length):Orb nx (L1++L2) t:=by
 intro k hk;rw[ap4]at hk;by_cases h:k<L1.length
 ·rw[au6 h,I k h];by_cases h3:k+1<L1.length
  ·rw[ao4 h3,ao4 (by rw[ap4];omega),as5 h3]
  ·rw[an8 h3,ao4 (by rw[ap4];omega),List.getElem?_append_right O]
   congr 1;omega
 ·rw[aA6 O,M (k-L1.length) O];by_cases h3:k+1<L1.length+L2.length
  ·rw[ao4 O,ao4 (by rw[ap4];omega),List.getElem?_append_right O]
   congr 1;omega
  ·rw[an8 O,an8 (by rw[ap4];omega)]
theorem yu:∀n m,(rws m n)[0]?=some (List.replicate n 0)
 |0,m=>by simp[rws]
 |n+1,m=>by
  have h:=yu n (max m 1);have M:0<(rws (max m 1) n).length:=by
   obtain h3|h3:=av1 (rws (max m 1) n).length
   ·rw[aq9 h3]at h;cases h
   ·exact h3
  unfold rws;rw[show List.range' 0 (m+1)=0::List.range' 1 m from rfl,ax3,as5 (by simpa using M),as1];simp only[aw8];rw[h];rfl
theorem XZ(n m:Nat):0<(rws m n).length:=by
 obtain h3|h3:=av1 (rws m n).length
 ·have h:=yu n m;rw[aq9 h3]at h;cases h
 ·exact h3
theorem vO:∀(n m:Nat),∀r∈rws m n,r.length=n
 |0,m,r,h=>by simp[rws]at h;simp[h]
 |n+1,m,r,h=>by
  unfold rws at h;obtain⟨d,hd,hr⟩:=aw5.1 h;obtain⟨r',ng,rfl⟩:=ap6.1 hr;simp[vO n _ r' ng]
theorem Vd:∀(n m:Nat),∀r∈rws m n,∀x∈r,x<=m+n
 |0,m,r,h=>by simp[rws]at h;simp[h]
 |n+1,m,r,h=>by
  unfold rws at h;obtain⟨d,hd,hr⟩:=aw5.1 h;obtain⟨r',ng,rfl⟩:=ap6.1 hr;have hd':d<m+1:=by simpa using hd
  intro x hx;obtain rfl|hx:=ar9.1 hx
  ·omega
  ·have:=Vd n _ r' ng x hx;omega
theorem OA:∀n m,Orb (zC m) (rws m n) none
 |0,m=>by
  intro k hk;have h0:k=0:=by simp[rws]at hk;omega
  subst h0;simp[rws,zC]
 |n+1,m=>by
  have key:∀c j,j+c=m->Orb (zC m) ((List.range' j (c+1)).flatMap λd=>(rws (max m (d+1)) n).map (d::·)) none:=by
   have blk:∀d t,(if d<m then some ((d+1)::List.replicate n 0)else none)=t->Orb (zC m) ((rws (max m (d+1)) n).map (d::·)) t:=by
    intro d t ht k hk;have iQ:k<(rws (max m (d+1)) n).length:=(by simpa using hk);have ho:=OA n (max m (d+1)) k iQ;have hlen:=vO n _ _ (an5 iQ);rw[ax5];rw[yC,ho];by_cases h3:k+1<(rws (max m (d+1)) n).length
    ·rw[ao4 h3,ao4 (c:=k+1<((rws (max m (d+1)) n).map (d::·)).length) (by simpa using h3),as1,an3 h3];rfl
    ·rw[an8 h3,an8 (c:=k+1<((rws (max m (d+1)) n).map (d::·)).length) (by simpa using h3)];simp only;rw[hlen];exact ht
   intro c
   induction c with
   |zero=>
    intro j hj;rw[show List.range' j (0+1)=[j]from rfl,ax3,List.flatMap_nil,av7];exact blk j none (an8 O)
   |succ c ih=>
    intro j hj;rw[show List.range' j (c+1+1)=j::List.range' (j+1) (c+1)from rfl,ax3];have e0:((List.range' (j+1) (c+1)).flatMap λd=>(rws (max m (d+1)) n).map (d::·))[0]?=some ((j+1)::List.replicate n 0):=by
     rw[show List.range' (j+1) (c+1)=(j+1)::List.range' (j+1+1) c from rfl,ax3,as5 (by simpa using XZ n _),as1,yu];rfl
    refine I8 ?_ (ih (j+1) O) ?_
    ·rw[e0];exact blk j _ (ao4 O)
    ·obtain h3|h3:=av1 ((List.range' (j+1) (c+1)).flatMap λd=>(rws (max m (d+1)) n).map (d::·)).length
     ·rw[aq9 h3]at e0;cases e0
     ·exact h3
  unfold rws;exact key m 0 O
theorem Jb:∀(p q:List Nat) (m:Nat),zC m (p++q)=match zC (cm m p) q with
  |some q'=>some (p++q')
  |none=>(zC m p).map (·++List.replicate q.length 0)
 |[],q,m=>by
  show zC m q=match zC m q with|some q'=>some q'|none=>_
  cases zC m q<;>rfl
 |d::p,q,m=>by
  have ih:=Jb p q (max m (d+1))
  show zC m (d::(p++q))=match zC (cm (max m (d+1)) p) q with|some q'=>some (d::p++q')|none=>_
  rw[yC m d (p++q),yC m d p,ih];cases zC (cm (max m (d+1)) p) q with
  |some q'=>rfl
  |none=>
   simp only;cases zC (max m (d+1)) p with
   |some p'=>rfl
   |none=>
    simp only[Option.map_none];by_cases h:d<m
    ·rw[ao4 h,ao4 h];simp[List.replicate_append_replicate]
    ·rw[an8 h,an8 h];rfl
theorem YV(p:List Nat)(d m:Nat):cm m (p++[d])=max (cm m p) (d+1):=by simp[cm]
theorem Ru{l:List Nat}{i:Nat}(hi:i<l.length)(h:zC (cm 0 (l.take (i+1))) (l.drop (i+1))=none) :
  (l[i]<cm 0 (l.take i)->zC 0 l=some (l.take i++(l[i]+1)::List.replicate (l.length-(i+1)) 0))/\(¬l[i]<cm 0 (l.take i)->zC (cm 0 (l.take i)) (l.drop i)=none):=by
 have e1:l.drop i=l[i]::l.drop (i+1):=List.drop_eq_getElem_cons hi;have e2:l.take (i+1)=l.take i++[l[i]]:=by rw[aq3,an3 hi];rfl
 rw[e2,YV]at h;have e3:zC (cm 0 (l.take i)) (l.drop i)=if l[i]<cm 0 (l.take i)then some ((l[i]+1)::List.replicate (l.length-(i+1)) 0)else none:=by
  rw[e1,yC,h];simp only[List.length_drop]
 refine⟨λhd=>?_,λhd=>by rw[e3,an8 hd]⟩;have:=Jb (l.take i) (l.drop i) 0;rw[List.take_append_drop,e3,ao4 hd]at this;exact this
theorem Rt{l:List Nat}(h:zC (cm 0 (l.take 1)) (l.drop 1)=none):zC 0 l=none:=by
 cases l with
 |nil=>rfl
 |cons d l=>
  have h':zC (max 0 (d+1)) l=none:=h;rw[yC,h'];simp
def nb:List Bool->Option (List Bool)
 |[]=>none
 |b::l=>match nb l with
  |some l'=>some (b::l')
  |none=>if b=false then some (true::List.replicate l.length false)else none
theorem Ia(b:Bool)(l:List Bool):nb (b::l)=match nb l with
  |some l'=>some (b::l')
  |none=>if b=false then some (true::List.replicate l.length false)else none:=rfl
def sZ:Nat->List (List Bool)
 |0=>[[]]
 |n+1=>(sZ n).map (false::·)++(sZ n).map (true::·)
theorem Qb:∀(n:Nat),∀r∈sZ n,r.length=n
 |0,r,h=>by simp[sZ]at h;simp[h]
 |n+1,r,h=>by
  unfold sZ at h;obtain h|h:=aq7.1 h<;>obtain⟨r',ng,rfl⟩:=ap6.1 h<;>simp[Qb n r' ng]
theorem rY:∀n,(sZ n).length=2 ^ n
 |0=>rfl
 |n+1=>by simp[sZ,rY n];omega
theorem Ej:∀n,(sZ n)[0]?=some (List.replicate n false)
 |0=>rfl
 |n+1=>by
  have M:0<(sZ n).length:=by rw[rY];exact Nat.pos_of_ne_zero R
  unfold sZ;rw[as5 (by simpa using M),as1,Ej n];rfl
theorem Y1:∀n,Orb nb (sZ n) none
 |0=>by
  intro k hk;have h0:k=0:=by simp[sZ]at hk;omega
  subst h0;simp[sZ,nb]
 |n+1=>by
  have M:0<(sZ n).length:=by rw[rY];exact Nat.pos_of_ne_zero R
  have blk:∀(b:Bool) t,(if b=false then some (true::List.replicate n false)else none)=t->Orb nb ((sZ n).map (b::·)) t:=by
   intro b t ht k hk;have iQ:k<(sZ n).length:=(by simpa using hk);have ho:=Y1 n k iQ;have hlen:=Qb n _ (an5 iQ);rw[ax5];rw[Ia,ho];by_cases h3:k+1<(sZ n).length
   ·rw[ao4 h3,ao4 (c:=k+1<((sZ n).map (b::·)).length) (by simpa using h3),as1,an3 h3];rfl
   ·rw[an8 h3,an8 (c:=k+1<((sZ n).map (b::·)).length) (by simpa using h3)];simp only;rw[hlen];exact ht
  unfold sZ;refine I8 ?_ (blk true none R) (by simpa using M);rw[as1,Ej];exact blk false _ R
theorem Nw:∀(p q:List Bool),nb (p++q)=match nb q with
  |some q'=>some (p++q')
  |none=>(nb p).map (·++List.replicate q.length false)
 |[],q=>by
  show nb q=match nb q with|some q'=>some q'|none=>_
  cases nb q<;>rfl
 |d::p,q=>by
  have ih:=Nw p q
  show nb (d::(p++q))=match nb q with|some q'=>some (d::p++q')|none=>_
  rw[Ia d (p++q),Ia d p,ih];cases nb q with
  |some q'=>rfl
  |none=>
   simp only;cases nb p with
   |some p'=>rfl
   |none=>
    simp only[Option.map_none];by_cases h:d=false
    ·rw[ao4 h,ao4 h];simp[List.replicate_append_replicate]
    ·rw[an8 h,an8 h];rfl
theorem ae5{l:List Bool}{i:Nat}(hi:i<l.length)(h:nb (l.drop (i+1))=none) :
  (l[i]=false->nb l=some (l.take i++true::List.replicate (l.length-(i+1)) false))/\(l[i]=true->nb (l.drop i)=none):=by
 have e1:l.drop i=l[i]::l.drop (i+1):=List.drop_eq_getElem_cons hi;have e3:nb (l.drop i)=if l[i]=false then some (true::List.replicate (l.length-(i+1)) false)else none:=by
  rw[e1,Ia,h];simp only[List.length_drop]
 refine⟨λhd=>?_,λhd=>by rw[e3,an8 (by rw[hd];simp)]⟩;have:=Nw (l.take i) (l.drop i);rw[List.take_append_drop,e3,ao4 hd]at this;exact this
def tv(n k:Nat):List Bool:=(List.range n).map λi=>decide (k/2 ^ i%2=1)
theorem iT(n k:Nat):(tv n k).length=n:=by simp[tv]
theorem XQ{n:Nat}(h:n<=4):(sZ n).Perm ((List.range (2 ^ n)).map (tv n)):=by
 have h':n=0\/n=1\/n=2\/n=3\/n=4:=O
 obtain rfl|rfl|rfl|rfl|rfl:=h'<;>decide +kernel
theorem abG{n:Nat}(h:n<=4)(g:List Bool->Bool):(sZ n).countP g=(List.range (2 ^ n)).countP (λk=>g (tv n k)):=by
 rw[(XQ h).countP_eq,List.countP_map];rfl
theorem X0{n:Nat}(h:n<=7):(rws 0 n).length<=1000:=by
 have h':n=0\/n=1\/n=2\/n=3\/n=4\/n=5\/n=6\/n=7:=O
 obtain rfl|rfl|rfl|rfl|rfl|rfl|rfl|rfl:=h'<;>decide +kernel
def sumTo{α:Type}(L:List α)(g:α->Nat)(k:Nat):Nat:=((L.take k).map g).sum
theorem IJ{α:Type}(L:List α)(g:α->Nat):sumTo L g 0=0:=by simp[sumTo]
theorem Bq{α:Type}(L:List α)(g:α->Nat){k:Nat}(h:k<L.length):sumTo L g (k+1)=sumTo L g k+g L[k]:=by
 unfold sumTo;rw[aq3,an3 h,au0,List.sum_append];rfl
theorem sumTo_le{α:Type}(L:List α)(g:α->Nat){c:Nat}(h:∀x,g x<=c):∀k,sumTo L g k<=k*c:=by
 intro k
 induction k with
 |zero=>simp[sumTo]
 |succ k ih=>
  by_cases hk:k<L.length
  ·rw[Bq L g hk,Nat.succ_mul];have:=h L[k];omega
  ·have e:sumTo L g (k+1)=sumTo L g k:=by
    unfold sumTo;rw[aq5 O,aq5 O]
   rw[e,Nat.succ_mul];omega
end Nx
theorem RS{P:Nat->Prop}(h:∃n,P n):∃n,P n/\∀m,P m->n<=m:=by
 obtain⟨n,hn⟩:=h
 induction n using Nat.strongRecOn with
 |ind n ih=>
  by_cases M:∃m,m<n/\P m
  ·obtain⟨m,hm,hp⟩:=M;exact ih m hm hp
  ·exact⟨n,hn,λm hm=>Nat.le_of_not_lt λhl=>M ⟨m,hl,hm⟩⟩
theorem Ua{P:Nat->Prop}(h:∃n,P n):P (Classical.epsilon λn=>P n/\∀m,P m->n<=m):=
 (Classical.epsilon_spec (RS h)).1
theorem J9{P:Nat->Prop}{r r':Nat}(h:P r')(hr:r'<r):(Classical.epsilon λn=>P n/\∀m,P m->n<=m)<r:=
 Nat.lt_of_le_of_lt ((Classical.epsilon_spec (RS ⟨r',h⟩)).2 r' h) hr
section
open Go.RowKit
open Nx
attribute [local go_sem] Oper.semAt_some
theorem P7{vs:List Nat}{k:Nat}(h:k<vs.length)(m:Nat):cm m (vs.take (k+1))=max (cm m (vs.take k)) (vs[k]+1):=by
 rw[aq3,an3 h];exact YV _ _ _
theorem YX{vs:List Nat}(h:∀x∈vs,x<=100):∀m,m<=101->cm m vs<=101:=by
 induction vs with
 |nil=>intro m hm;exact hm
 |cons d p ih=>
  intro m hm;have:=h d R;exact ih (λx hx=>h x (by simp[hx])) _ (by show max m (d+1)<=101;omega)
theorem ae6(w:World)(G cap:Nat)(vs:List Nat)(h0:0<vs.length)(hl:vs.length<=100)(hv:∀x∈vs,x<=100)(hc:∀i (hi:i<vs.length),w.cell? (J G i)=some (A vs[i])) :
  Calls prog 138 #[Ac G 0 vs.length cap] w λe w'=>e=.returned (A ((cm 0 vs:Int)-1))/\w'=w:=by
 have zO:=hc 0 h0;have hb:¬(vs.length:Int)<1:=O
 go_in
 go_wp2_with fail
 go_loop [3,4] (λx i=>∃k:Nat,1<=k/\k<=vs.length/\i=A k/\x=A ((cm 0 (vs.take k):Int)-1)) (λ_ i=>vs.length-(intOf i).toNat)
 case atStart=>
  refine⟨1,O,O,rfl,?_⟩;rw[P7 h0];simp[cm]
 case round=>
  obtain⟨k,O4,hk,rfl,rfl⟩:=hrel;by_cases hlt:k<vs.length
  ·have hck:=hc k hlt;have hx:=hv vs[k] (an5 _);have hm:=YX (vs:=vs.take k) (λx hx=>hv x (au8 hx)) 0 O;have HT:=F (P7 hlt 0);have iF:(k:Int)<(vs.length:Int):=O;clear hc hv zO;generalize vs[k]=x at hck hx HT;generalize cm 0 (vs.take k)=m at hm HT
   go_wp2_with fail
   refine⟨⟨k+1,O,hlt,by go_num,?_⟩,by simp[intOf];omega⟩;rw[Z HT]
   congr 1
   first|(split<;>omega)|omega
  ·have gW:k=vs.length:=O;subst gW;have iF:¬(vs.length:Int)<(vs.length:Int):=O;rw[ar7];obtain⟨m,hm⟩:∃m,cm 0 vs=m:=⟨_,rfl⟩;rw[hm];have HM:=F hm;clear hc zO hv hm
   go_wp2_with fail
   go_ret
   exact⟨by rw[Z HM];rfl,rfl⟩
def Et(w:World)(base G:Nat)(row:List Nat):Prop:=w.ownsRow base 3 1 (Ac G 0 row.length row.length) row.length (row.map kN)
theorem Et.at{w:World}{base G:Nat}{row:List Nat}(h:Et w base G row){i:Nat}(hi:i<row.length):w.cell? (J G i)=some (A row[i]):=by
 have:=World.ownsRow.cellAt h i O;rw[this];simp[hi,kN]
theorem Ba{α:Type}{xs:List α}{k:Nat}(v:α)(h:k<xs.length):(xs.set k v).take (k+1)=xs.take k++[v]:=by
 have l1:(xs.take k).length=k:=by rw[ar1];omega
 rw[List.set_eq_take_append_cons_drop,ao4 h,List.take_append,l1,aq5 O,Nat.add_sub_cancel_left];rfl
theorem Di{base G cap n:Nat}:∀(vs:List Value) (o:Nat) (w:World) (xs:List Value),w.ownsRow base 3 1 (Ac G 0 n cap) n xs->o+vs.length<=xs.length->
  (w.setCells G o vs).ownsRow base 3 1 (Ac G 0 n cap) n (xs.take o++vs++xs.drop (o+vs.length))/\w.grownBy (w.setCells G o vs) (some G)
 |[],o,w,xs,h,_=>by simpa[World.setCells]using ⟨h,(⟨rfl,rfl,rfl,an2 _,λ_ _ _=>rfl⟩:w.grownBy w (some G))⟩
 |v::vs,o,w,xs,h,hl=>by
  obtain⟨I,g1⟩:=h.stored o v;have Ij:o+(vs.length+1)<=xs.length:=by simpa using hl
  obtain⟨M,g2⟩:=Di vs (o+1) _ _ I anf;have e:xs.take o++(v::vs)++xs.drop (o+(v::vs).length)=(xs.set o v).take (o+1)++vs++(xs.set o v).drop (o+1+vs.length):=by
   have e2:=Ba v (show o<xs.length by omega);have e3:(xs.set o v).drop (o+1+vs.length)=xs.drop (o+1+vs.length):=(by rw[List.drop_set_of_lt O]);rw[e2,e3,ao1,show o+(vs.length+1)=o+1+vs.length by omega];simp
  rw[e];exact⟨M,g1.trans g2⟩
theorem Je(w:World)(base G:Nat)(row:List Nat)(h0:0<row.length)(hl:row.length<=100)(hv:∀x∈row,x<=100)(h:Et w base G row) :
  Calls prog 88 #[Ac G 0 row.length row.length] w λe w'=>e=.returned (.bool (zC 0 row).isSome)/\w.grownBy w' (some G)/\Et w' base G ((zC 0 row).getD row):=by
 have HR:=F h;have HV:=F hv;clear h hv
 go_in
 go_wp2_with fail
 go_loopw [3] (λi wr=>∃k:Nat,k<row.length/\i=A k/\w.grownBy wr none/\Hid (zC (cm 0 (row.take (k+1))) (row.drop (k+1))=none)) (λi _=>(intOf i).toNat)
 case atStart=>
  refine⟨row.length-1,O,?_,⟨rfl,rfl,rfl,an2 _,λ_ _ _=>rfl⟩,?_⟩
  ·congr 1;omega
  ·have e:row.length-1+1=row.length:=O;rw[e,List.drop_length];exact F rfl
 case round=>
  obtain⟨k,hk,rfl,EF,ny⟩:=hrel;have HRW:Hid (Et wr base G row):=(Z HR).kept EF (Or.inr (by simp[Value.ownBlock]));by_cases kJ:0<k
  ·have kQ:(0:Int)<(k:Int):=O;have hkb:(k:Int)<(row.length:Int):=O;have hck:=(Z HRW).at hk;have hmx:Hid (Calls prog 138 #[Ac G 0 k row.length] wr.drew λe w'=>e=.returned (A ((cm 0 (row.take k):Int)-1))/\w'=wr.drew):=by
    have Fe:(row.take k).length=k:=(by rw[ar1];omega);have:=ae6 wr.drew G row.length (row.take k) O O (λx hx=>Z HV x (au8 hx)) (λi hi=>by
     rw[List.getElem_take];exact(Z HRW).at O)
    rw[Fe]at this;exact this
   have oP:=Ru hk (Z ny);have hxk:=Z HV _ (an5 hk);have alF:=YX (vs:=row.take k) (λx hx=>Z HV x (au8 hx)) 0 O;have kR:=F oP;clear oP ny;generalize hd:row[k]=d at hck hxk kR;generalize hm:cm 0 (row.take k)=m at hmx kR alF;have HD:=F hd;have HM:=F hm;clear hd hm
   go_wp2_with fail
   have aA:wr.drew.cell? (J G k)=some (A d):=hck;refine aq8 (S:=λW'=>W'.cell? (J G k)=some (A d)) rfl ?_;simp only[ao5,ao1,ap0,Nat.reduceAdd,an7,an6,ao6,ao8,ao7];refine dF 0 (Ac G 0 row.length row.length) aA ?_
   simp only[aF];refine dF 1 (A k) aA ?_
   simp only[aF];refine dF 2 (Aa G k) aA ?_
   simp only[aF];refine dF 3 (A d) aA ?_
   simp only[aF];refine dF 4 (Ac G 0 row.length row.length) aA ?_
   simp only[aF];refine dF 5 (A k) aA ?_
   simp only[aF];refine tH 6 (Ac G 0 k row.length) (λw' hS=>?_) aA ?_
   ·go_simp;intro h;omega
   simp only[aF];refine oH 7 (λK hK=>?_);go_simp;refine(Z hmx).mono ?_;rintro e w2 ⟨rfl,rfl⟩;refine hK.out _ _ aA ?_;clear hK K;have hfz:wr.drew.frozen? (J G k)=false:=World.ownsRow.frozenAt (Z HRW) k;by_cases Qm:d<m
   ·have hle:((d:Int)<=(m:Int)-1):=O;have Yq:zC 0 row=some (row.take k++(d+1)::List.replicate (row.length-(k+1)) 0):=(Z kR).1 Qm;have HNX:=F Yq;have mQ:Hid (∀W':World,wr.grownBy W' (some G)->W'.ownsRow base 3 1 (Ac G 0 row.length row.length) row.length ((row.take k++(d+1)::List.replicate (row.length-(k+1)) 0).map kN)->Value.bool true=.bool (zC 0 row).isSome/\w.grownBy W' (some G)/\Et W' base G ((zC 0 row).getD row)):=by
     intro W' hg' ho';rw[Z HNX];refine⟨rfl,?_,?_⟩
     ·exact⟨hg'.os.trans EF.os,hg'.tape.trans EF.tape,hg'.output.trans EF.output,ap3 EF.size hg'.size,λj hj bg=>(hg'.block j (ap2 hj EF.size) bg).trans (EF.block j hj R)⟩
     ·have hln:(row.take k++(d+1)::List.replicate (row.length-(k+1)) 0).length=row.length:=anf;unfold Et;simp only[Option.getD_some];rw[hln];exact ho'
    have ai3:=World.ownsRow.stored (Z HRW) k (A ((d:Int)+1));have MW:=F ai3;clear Yq ai3;by_cases pU:row.length=k+1
    ·have iy:∀ty W,(Builtin.clear_ #[164] ty #[Ac G 0 0 0]).run prog W=.ok (.tuple #[]) W:=λty W=>by
      simp[Builtin.clear_,run_underlying underlying164]
     have L9:=Z mQ (wr.setCell (J G k) (A ((d:Int)+1))).drew ⟨(Z MW).2.os,(Z MW).2.tape,(Z MW).2.output,(Z MW).2.size,(Z MW).2.block⟩ (by
      have e:(row.take k++(d+1)::List.replicate (row.length-(k+1)) 0).map kN=(row.map kN).set k (A ((d:Int)+1)):=by
       rw[pU,Nat.sub_self,List.set_eq_take_append_cons_drop,ao4 anf,List.drop_eq_nil_of_le anf];simp[kN]
      rw[e];exact(Z MW).1)
     have HG:=F L9;clear L9 mQ;refine oH 8 (λK hK=>?_);go_simp;refine hK.out _ _ aA (ar2 (by kernel_rfl) ?_ _);clear hK K
     go_wp2_with (simp only[iy])
     exact aq0 (v:=.bool true) (by simp[results,results88,go_sem]) rfl ⟨ax1 Ending.returned (Z HG).1,(Z HG).2⟩
    ·have wE:¬row.length<=k+1:=O;have hsr:=Di (base:=base) (G:=G) (List.replicate (row.length-(k+1)) (Value.int .i64 0)) (k+1) (wr.setCell (J G k) (A ((d:Int)+1))).drew _ (Z MW).1 anf;have iy:∀ty,(Builtin.clear_ #[164] ty #[Ac G (k+1) (row.length-(k+1)) (row.length-(k+1))]).run prog (wr.setCell (J G k) (A ((d:Int)+1))).drew=.ok (.tuple #[]) ((wr.setCell (J G k) (A ((d:Int)+1))).drew.setCells G (k+1) (List.replicate (row.length-(k+1)) (A 0))):=
      λty=>Lib.run_clear_slice _ 164 3 ty (A 0) underlying164 (λw=>by kernel_rfl) rfl rfl G (k+1) _ _ O (λj hj=>by
       have:=World.ownsRow.cellAt (Z MW).1 (k+1+j) O
       show((wr.setCell (J G k) (A ((d:Int)+1))).cell? (J G (k+1+j))).isSome=true
       rw[this,an3 anf];rfl) (λj hj=>World.ownsRow.frozenAt (Z MW).1 (k+1+j))
     have L9:=Z mQ ((wr.setCell (J G k) (A ((d:Int)+1))).drew.setCells G (k+1) (List.replicate (row.length-(k+1)) (A 0))) (by
      have g1:wr.grownBy (wr.setCell (J G k) (A ((d:Int)+1))).drew (some G):=⟨(Z MW).2.os,(Z MW).2.tape,(Z MW).2.output,(Z MW).2.size,(Z MW).2.block⟩;exact g1.trans hsr.2) (by
      have e:(row.take k++(d+1)::List.replicate (row.length-(k+1)) 0).map kN=((row.map kN).set k (A ((d:Int)+1))).take (k+1)++List.replicate (row.length-(k+1)) (A 0)++((row.map kN).set k (A ((d:Int)+1))).drop (k+1+(List.replicate (row.length-(k+1)) (Value.int .i64 0)).length):=by
       rw[List.drop_eq_nil_of_le anf,av7,Ba _ (by simpa using hk)];simp[kN,List.map_replicate,List.map_take]
      rw[e];exact hsr.1)
     have HG:=F L9;clear L9 mQ hsr;refine oH 8 (λK hK=>?_);go_simp;refine hK.out _ _ aA (ar2 (by kernel_rfl) ?_ _);clear hK K
     go_wp2_with (simp only[iy])
     exact aq0 (v:=.bool true) (by simp[results,results88,go_sem]) rfl ⟨ax1 Ending.returned (Z HG).1,(Z HG).2⟩
   ·have hle:¬((d:Int)<=(m:Int)-1):=O;refine oH 8 (λK hK=>?_);go_simp;refine hK.out _ _ aA (ar2 (by kernel_rfl) ?_ _);clear hK K
    go_wp2_with fail
    refine⟨⟨k-1,O,by congr 1;omega,⟨EF.os,EF.tape,EF.output,EF.size,EF.block⟩,?_⟩,by simp[intOf];omega⟩;have e:k-1+1=k:=O;rw[e];rw[Z HM];exact(Z kR).2 Qm
  ·have gW:k=0:=O;subst gW;have Ih:zC 0 row=none:=Rt (Z ny);have HN:=F Ih;clear Ih ny
   go_wp2_with fail
   refine aq0 (v:=.bool false) (by simp[results,results88,go_sem]) rfl ⟨?_,⟨EF.os,EF.tape,EF.output,EF.size,λj hj _=>EF.block j hj R⟩,?_⟩
   ·rw[Z HN];rfl
   ·rw[Z HN];exact Z HRW
end
section
open Go.RowKit Go.Maps Go.WideMaps
open au (Key put)
theorem Xt(v:Option Addr)(n c:Nat)(w:World):Calls prog 139 #[.slice v n c] w λe w'=>
  e=.returned (.func (.func 178) #[] #[Aa w.heap.size 0])/\w'=w.alloc (.cells #[.slice v n c] 164):=by
 go_in
 go_wp2_with fail
 go_ret
 exact⟨rfl,rfl⟩
theorem Xo(n:Nat)(hn:2<=n)(X G cap m0:Nat)(keys:List Nat)(w:World)(UJ:m0<=w.heap.size)(hl:keys.length<=500)
 (hX:w.cell? (J X 0)=some (Ac G 0 keys.length cap))(hG:Es w G keys)(hv:∀x∈keys,∃l,keyOf prog 3 (kN x)=some l) :
  tq Fence.wide n prog 178 #[Aa X 0] ((bI keys keys.length).map λp=>#[.int .i64 p.1,.int .i64 p.2]) (KA m0 X G) w:=by
 intro l Af Jx W hW hJ hJx hY h0;have Qp:W.cell? (J X 0)=some (Ac G 0 keys.length cap):=(hW.cell (p:=(J X 0)) (an4 w _ hX)).trans hX;have wG:X<W.heap.size:=an4 W _ Qp;have AL:G<W.heap.size:=ap2 hG.1 hW.size;have hGW:Es W G keys:=hG.below hW hG.1;have Ii:=λz=>fG (P:=prog) underlying52 .i64 z W;have Gh:=hW.size;refine au2 func178 rfl trivial ?_ rfl;simp only[ntmps178,ao5,ao1,ap0,Nat.reduceAdd,Nat.reduceSub,an7,an6,ao6,ap9,ao8,ao7]
 gi_wp2
 obtain⟨W1,dO⟩:∃W1,W.alloc (.map #[] 0)=W1:=⟨_,rfl⟩;have bG:W.grownBy W1 none:=by rw[<-dO];exact an1 _ _ none
 have hF1:uY W1 3 W.heap.size kN ([]:List Nat):=by rw[<-dO];exact zS W _ _
 have oI:W.heap.size<W1.heap.size:=by rw[<-dO];simp
 have EH:W1.heap[X]?=W.heap[X]?:=bG.block X wG R;have AV:W1.heap[G]?=W.heap[G]?:=bG.block G AL R;have Lm:Af 0 W1:=hJ 0 W W1 none h0 bG (λr e=>by cases e);have ahA:W1.cell? (J X 0)=some (Ac G 0 keys.length cap):=(an9 EH).trans Qp;rw[dO]
 gi_wp2
 gi_loopw [13] (λi wr=>∃k:Nat,k<=keys.length/\i=.int .i64 k/\Af (bI keys k).length wr/\uY wr 3 W.heap.size kN (keys.take k)/\wr.heap[X]?=W.heap[X]?/\wr.heap[G]?=W.heap[G]?) (λi _=>keys.length-(intOf i).toNat)
 case atStart=>exact⟨0,ap7 _,rfl,Lm,hF1,EH,AV⟩
 case round=>
  obtain⟨k,hk,rfl,zQ,Ph,sJ,BO⟩:=hrel;by_cases hlt:k<keys.length
  ·have iF:(k:Int)<(keys.length:Int):=O;have EK:=(hGW.same BO).2 k hlt;have kT:keys.take (k+1)=keys.take k++[keys[k]]:=(by rw[aq3,an3 hlt];rfl);obtain⟨lt,nO⟩:=hv keys[k] (an5 hlt);have OY:=qW hlt;have gU:=OD (keys:=keys) hlt;have hlF:=Ph.lt;have EY:=Ph.walk;obtain⟨D,nn,h0n,aH,aX⟩:=id Ph;have Fg:=aX _ _ nO;have jO:=aH.tidy iO;have Ih:nn<=500:=(by rw[ar1]at h0n;omega);have jQ:=F aX;have HF:=F Ph;have HN:=F h0n;cases hc:(keys.take k).contains keys[k]
   ·rw[hc]at Fg OY;have wI:Maps.has D lt=false:=Fg.1;have je:=F kT;have FU:=F OY;have HC:=F hc;have HK:=F nO;have aV:=nO;generalize keys[k]=key at EK aV je FU HC HK;simp only[kN]at aV
    gi_wp2_with (first
     |(gi_at_lookup;refine aw6 _ rfl _ _ 52 rfl 3 3 .i64 iO underlying52 underlying3 (zeroE _) W.heap.size nn D rfl aH _ lt rfl aV ?_;intro c0 gU EZ)
     |(gi_at_mapUpdate;refine wpListIn_mapUpdate_own _ rfl _ _ _ 52 rfl 3 3 iO underlying52 _ W.heap.size nn D rfl aH anj _ _ lt rfl rfl aV _ [] (aB2 underlying3 (aA0 O)) ?_;intro w5 uI lI))
    have hlen:(keys.take k).length=k:=(by rw[ar1];omega);have uZ:=Z FU;rw[an8 ane]at uZ;obtain⟨o,ho,hw⟩:=EY;have fK:wr.grownBy wr none:=⟨rfl,rfl,rfl,an2 _,λ_ _ _=>rfl⟩;have wF:X<wr.heap.size:=(by have I:=wG;rw[aq6 I]at sJ;exact(an0.1 sJ).1);have wH:G<wr.heap.size:=(by have I:=AL;rw[aq6 I]at BO;exact(an0.1 BO).1);refine⟨⟨k+1,O,by go_num,?_,?_,?_,?_⟩,by simp[intOf];omega⟩
    ·rw[uZ];exact hJ _ _ w5 (some W.heap.size) (hJ _ wr _ none zQ fK (λr e=>by cases e)) lI (λr e=>by cases e;exact⟨an2 _,o,(fK.block _ hlF R).trans ho,hw⟩)
    ·rw[Z je];exact Ea (λ_ _=>OL) iO (Z HN) (Z jQ) jO (Z HK) (Z HC) (by rw[hlen];exact uI)
    ·exact((lI.block X (ap2 wF fK.size) anf).trans (fK.block X wF R)).trans sJ
    ·exact((lI.block G (ap2 wH fK.size) anf).trans (fK.block G wH R)).trans BO
   ·rw[hc]at Fg OY;have wI:Maps.has D lt=true:=Fg.1;obtain⟨hj,hje⟩:=gU hc;have Ew:=F (Fg.2 rfl);have je:=F kT;have FU:=F OY;have HC:=F hc;have aV:=nO;have lZ:=hY (bI keys k).length (by simpa using hj);rw[show((bI keys keys.length).map λp:Nat×Nat=>#[Value.int .i64 p.1,Value.int .i64 p.2])[(bI keys k).length]'(by simpa using hj)=#[Value.int .i64 ((keys.take k).idxOf keys[k]:Nat),Value.int .i64 k] by simp[hje]]at lZ;have xK:(keys.take k).idxOf keys[k]<=500:=(by have:=aw3 (l:=keys.take k) (a:=keys[k]);rw[ar1]at this;omega);generalize (keys.take k).idxOf keys[k]=fi at Ew lZ FU xK;generalize keys[k]=key at EK aV je FU HC;simp only[kN]at aV;have fK:wr.grownBy wr none:=⟨rfl,rfl,rfl,an2 _,λ_ _ _=>rfl⟩;obtain⟨fn,tmps,assign,body,hy,hR⟩:=lZ wr zQ;have wF:X<wr.heap.size:=(by have I:=wG;rw[aq6 I]at sJ;exact(an0.1 sJ).1);have wH:G<wr.heap.size:=by have I:=AL;rw[aq6 I]at BO;exact(an0.1 BO).1
    gi_wp2_with (gi_at_lookup;refine aw6 _ rfl _ _ 52 rfl 3 3 .i64 iO underlying52 underlying3 (zeroE _) W.heap.size nn D rfl aH _ lt rfl aV ?_;intro c0 gU EZ;have zO:c0=(fi:Int):=by {have h:=gU.symm.trans (Z Ew);simpa using h};subst zO;clear gU EZ)
    refine⟨λ_=>O,hR.mono ?_⟩;rintro e W3 (⟨rfl,xM,pG⟩|⟨rfl,qh⟩)
    ·have jF:W3.heap[X]?=W.heap[X]?:=pG.2.1.trans ((fK.block X wF R).trans sJ);have NY:W3.heap[G]?=W.heap[G]?:=pG.2.2.trans ((fK.block G wH R).trans BO);obtain⟨o,ho,hw⟩:=EY;have uQ:W3.heap[W.heap.size]?=wr.heap[W.heap.size]?:=(pG.1 _ o O ((fK.block _ hlF R).trans ho) (Or.inr hw)).trans ho.symm
     gi_wp2
     go_roundw
     case rel=>
      refine⟨k+1,O,by go_num,?_,?_,jF,NY⟩
      ·have uZ:bI keys (k+1)=bI keys k++[(fi,k)]:=Z FU;rw[uZ,ap4];exact xM
      ·rw[Z je];exact((Z HF).kept uQ).again (Z HC)
     case measure=>simp[intOf];omega
    ·clear hR hy
     gi_wp2
     (try simp only[Exit.inBlock,Exit.then])
     exact aq0 (results_none rfl _ _ _) rfl ⟨⟨_,rfl⟩,Or.inr qh⟩
  ·have gW:k=keys.length:=O;have Lr:=F gW;have iF:¬(k:Int)<(keys.length:Int):=O
   gi_wp2
   go_end0
   refine⟨⟨_,rfl⟩,Or.inl ?_⟩;rw[<-Z Lr];exact zQ
end
section
open Go.RowKit Go.Maps Go.WideMaps
open au (Key put)
attribute [local go_sem] Oper.semAt_some
structure TGI(w:World)(b X:Nat)(keys:List Nat)(k:Nat)(W:World):Prop where
 x:W.cell? (J X 0)=some (.map (some b))
 m:gY W b (fk keys k) keys.length k
 below:Below w.heap.size w W
 sz:w.heap.size+3<=W.heap.size
theorem LH(G cap:Nat)(keys:List Nat)(w:World)(hl:keys.length<=100)(hG:Es w G keys)(hv:∀x∈keys,∃l,keyOf prog 3 (kN x)=some l) :
  Calls prog 89 #[Ac G 0 keys.length cap] w λe w'=>∃b,e=.returned (.map (some b))/\w.heap.size<=b/\Ag w w'/\gY w' b (fi keys) keys.length 100:=by
 refine(aq2 (n:=5)).1 ?_;have Ii:=λz=>fG (P:=prog) underlying53 .i64 z w;refine at6 func89 rfl trivial ?_ rfl;simp only[ntmps89,ao5,ao1,ap0,Nat.reduceAdd,Nat.reduceSub,an7,an6,ao6,ap9,ao8,ao7]
 gi_wp2
 refine⟨trivial,(aq2.2 (Xt (some (J G 0)) keys.length cap _)).mono ?_⟩;rintro e w2 ⟨rfl,rfl⟩
 gi_wp2
 obtain⟨w2,eu⟩:∃w2,((w.alloc (.map #[] 0)).alloc (.cells #[.map (some w.heap.size)] 53)).alloc (.cells #[Ac G 0 keys.length cap] 164)=w2:=⟨_,rfl⟩;have su:w2.heap.size=w.heap.size+3:=by rw[<-eu];simp
 have dh:w.grownBy w2 none:=by rw[<-eu];exact((an1 _ _ none).trans (an1 _ _ none)).trans (an1 _ _ none)
 have fF:Below w.heap.size w w2:=⟨dh.os,dh.tape,dh.output,dh.size,λj hj=>dh.block j hj R⟩;have mM:w2.cell? (J (w.heap.size+1) 0)=some (.map (some w.heap.size)):=by rw[<-eu];simp[go_sem]
 have pJ:w2.cell? (J (w.heap.size+1+1) 0)=some (Ac G 0 keys.length cap):=by rw[<-eu];simp[go_sem]
 have tC:gY w2 w.heap.size (fk keys 0) keys.length 0:=by
  have h0:gY (w.alloc (.map #[] 0)) w.heap.size (fk keys 0) keys.length 0:=⟨.map [],0,an2 _,aB6 w _ _ _,λi hi=>by rw[YM];exact⟨by simp;rfl,λh=>absurd rfl h⟩⟩;refine h0.kept ?_;rw[<-eu,ao3 _ _ _ anf,ao3 _ _ _ R]
 have hGl:=hG.1;have dK:=(Xo 4 O (w.heap.size+1+1) G cap w2.heap.size keys w2 (an2 _) O pJ (hG.below fF hGl) hv).all;rw[eu];have HS2:=F su;have aay:w.heap.size+3<=w2.heap.size:=O
 have ala:w2.heap.size<=w.heap.size+3:=O
 have hTG:TGI w w.heap.size (w.heap.size+1) keys 0 w2:=⟨mM,tC,fF,aay⟩;have aH:OwnFrom w2.heap.size (TGI w w.heap.size (w.heap.size+1) keys):=by
  intro k W W' row h hg hr;have bg:∀b,b<w2.heap.size->some b≠row:=λb hb e=>by have:=(hr b e.symm).1;omega
  exact⟨hg.cell h.x (bg _ (by show w.heap.size+1<w2.heap.size;omega)),h.m.kept (hg.block _ h.m.lt (bg _ O)),ownFrom_below (β:=Unit) (an2 _) O () W W' row h.below hg hr,ap3 h.sz hg.size⟩
 refine dZ rfl O rfl trivial (λ_ _=>by simp[go_sem]) dK KA.trans ?_ (aq1 _ _) ?_ (TGI w w.heap.size (w.heap.size+1) keys) aH hTG
  (λk a' W=>∃hk:k<(bI keys keys.length).length,a'={tmps:=#[Ac G 0 keys.length cap,undef,.map none,Aa (w.heap.size+1) 0,.int .i64 ((bI keys keys.length)[k]).1,.int .i64 ((bI keys keys.length)[k]).2,Ac G 0 keys.length cap,.int .i64 keys.length,.map (some w.heap.size),Ac G 0 keys.length cap,
     .func (.func 178) #[] #[Aa (w.heap.size+1+1) 0],.int .i64 ((bI keys keys.length)[k]).1,.int .i64 ((bI keys keys.length)[k]).2,undef,undef,undef,undef,undef],defers:=[]}) ?own ?assign ?body ?done
 ·intro W l o o' Yv ho hc EY;refine⟨λj x hj hx La=>(ap1 (λe=>?_)).trans hx,ap1 O,ap1 O⟩;subst e;rw[ho]at hx;cases hx;obtain h|h:=La
  ·rw[hc]at h;cases h
  ·rw[EY]at h;cases h
 ·intro k hk;simp
 case own=>
  rintro k a' ⟨⟩ W W' row h hg hr;exact h
 case assign=>
  intro l k hk W K hI hK;have iQ:k<(bI keys keys.length).length:=by simpa using hk
  have e1:((bI keys keys.length).map λp:Nat×Nat=>#[Value.int .i64 p.1,Value.int .i64 p.2])[k]'hk=#[.int .i64 ((bI keys keys.length)[k]).1,.int .i64 ((bI keys keys.length)[k]).2]:=R
  rw[e1];have oU:=hK _ W ((aB1 _).from _) ⟨λj o hj ho hc=>ho,rfl,rfl⟩ hI ⟨iQ,rfl⟩;generalize (bI keys keys.length)[k]=pr at oU ⊢
  gi_wp2
  exact oU
 case body=>
  rintro l k a' W hk Ij hI ⟨iQ,rfl⟩;have GX:=hI.x;have fZ:=(lq keys _ (an2 _) _).1 (an5 iQ);have NW:=TU iQ;have hfs:=YN iQ;have Fe:k<=100:=by have:=Hz keys keys.length;omega
  have hj:=Si W w.heap.size keys.length k (fk keys k) ((bI keys keys.length)[k]).1 ((bI keys keys.length)[k]).2 hI.m O fZ.1 O O O NW.2 NW.1;have hIb:=F hI;have HFS:=F hfs;generalize (bI keys keys.length)[k]=pr at hj HFS ⊢;obtain⟨x,y⟩:=pr;simp only at hj ⊢
  gi_wp2
  refine⟨trivial,aw1 l (aq2.2 (hj.mono ?_))⟩;rintro e w3 ⟨⟨v,rfl⟩,hg,hm⟩
  gi_wp2
  have hI:=Z hIb;have hs:∀j,j<W.heap.size->j≠w.heap.size->w3.heap[j]?=W.heap[j]?:=λj hj bg=>hg.block j hj (by simpa using bg);have Gh:=hI.below.size;have wG:w.heap.size+3<=W.heap.size:=hI.sz;refine⟨⟨hg.size,λj o hj ho _=>(hs j (an0.1 ho).1 O).trans ho⟩,⟨λj o hj ho _=>(hs j (an0.1 ho).1 O).trans ho,hs _ O O,hs G O O⟩,
   hg.cell hI.x R,hm.congr (λi _=>(Z HFS i).symm),hI.below.grown hg hI.below.size (λj e=>by cases e;exact an2 _),ap3 hI.sz hg.size⟩
 case done=>
  intro D W hD hI eU;have hx:=hI.x
  gi_wp2
  refine⟨R,.inl ⟨_,_,rfl,au4 eU,?_⟩⟩;refine⟨_,ay0 rfl _ _ _,?_⟩;have dD:=aH.putObj (.deferred none) hI hD eU rfl;refine⟨w.heap.size,rfl,an2 _,dD.below,?_⟩;obtain⟨D',nn,I,M,h3⟩:=dD.m;have hle:=Hz keys keys.length;rw[au3]at I h3;refine⟨D',nn,O,M,λi hi=>?_⟩;have h4:=h3 i hi;rw[adK keys hi]at h4;exact h4
end
open Go.RowKit Go.Maps Go.WideMaps
open Nx
theorem KE(n:Nat)(w:World):Calls prog 44 #[A n] w λe w'=>
  e=.returned (.func (.func 87) #[] #[Aa w.heap.size 0])/\w'=w.alloc (.cells #[A n] 3):=by
 go_in
 go_wp2_with fail
 go_ret
 exact⟨rfl,rfl⟩
def CX(n k:Nat)(xs:Array Value)(W:World):Prop:=∃b row,xs=#[.map (some b)]/\(rws 0 n)[k]?=some row/\gY W b (fi row) n 100
theorem Et.same{w w':World}{base G:Nat}{row:List Nat}(h:Et w base G row)(hb:w'.heap[G]?=w.heap[G]?):Et w' base G row:=by
 refine⟨h.1,?_⟩;obtain⟨h',_⟩|⟨g',qB,cur,h',I,hg,M⟩:=h.2
 ·simp at h'
 ·have EL:=h';simp only[Value.slice.injEq,as4,Addr.mk.injEq,and_true,true_and]at EL;obtain⟨rfl,rfl⟩:=EL;exact .inr ⟨_,_,cur,h',I,hb.trans hg,M⟩
def XI(Af:Nat->World->Prop)(W:World)(N r:Nat)(v:Value)(wr:World):Prop:=
 W.heap.size<=wr.heap.size/\((∃k row,r=(rws 0 N).length-k/\k<(rws 0 N).length/\v=.bool true/\Af k wr/\(rws 0 N)[k]?=some row/\Et wr W.heap.size W.heap.size row)\/(r=0/\v=.bool false/\Af (rws 0 N).length wr))
theorem KF(n:Nat)(hn:2<=n)(X m0 N:Nat)(w:World)(UJ:m0<=w.heap.size)(h0:0<N)(h7:N<=7)(hX:w.cell? (J X 0)=some (A N)) :
  KN Fence.wide n prog 87 #[Aa X 0] (rws 0 N).length (CX N) (KA m0 X X) w:=by
 intro l Af W hW hJ hY h0;have Qp:W.cell? (J X 0)=some (A N):=(hW.cell (p:=(J X 0)) (an4 w _ hX)).trans hX;have wG:X<W.heap.size:=an4 W _ Qp;obtain⟨i0,gK,jR,ig,jy⟩:=au5 Sm;have Gh:=hW.size;obtain⟨W1,wC,aS,bG⟩:=run_make_full (P:=prog) W W.heap.size 164 3 i0 (A 0) 1 underlying164 gK jR ig .i64 .i64 N (by rw[jy];omega) anj (an2 _);refine au2 func87 rfl trivial ?_ rfl;simp only[ntmps87,ao5,ao1,ap0,Nat.reduceAdd,Nat.reduceSub,an7,an6,ao6,ap9,ao8,ao7]
 gi_wp2
 have hr0:Et W1 W.heap.size W.heap.size (List.replicate N 0):=by
  unfold Et;rw[List.length_replicate,List.map_replicate];have e:(madeCells (Value.int IntKind.i64 0).cells (N*1)).toList=List.replicate N (kN 0):=by
   rw[Nat.mul_one];exact toList_madeCells_one _ _
  rw[<-e];exact aS
 have Lm:Af 0 W1:=hJ 0 W W1 h0 (an2 _) ⟨bG.os,bG.tape,bG.output,bG.size,λj hj=>bG.block j hj R⟩;have kU:XI Af W N (rws 0 N).length (.bool true) W1:=⟨bG.size,Or.inl ⟨0,_,rfl,XZ _ _,rfl,Lm,yu _ _,hr0⟩⟩;have HJ:=F hJ;have HY:=F hY;clear Lm hr0 hJ hY h0 wC aS
 gi_loopw [4] (λv wr=>∃r,XI Af W N r v wr) (λv wr=>Classical.epsilon λr=>XI Af W N r v wr/\∀m,XI Af W N m v wr->r<=m)
 case atStart=>exact⟨_,kU⟩
 case round=>
  have hsp:=Ua hrel;obtain⟨eH,⟨k,row,hr,hk,rfl,zQ,Le,hrd⟩|⟨hr,rfl,hJL⟩⟩:=hsp
  ·have fZ:row∈rws 0 N:=List.mem_of_getElem? Le;have OW:row.length=N:=vO _ _ row fZ;have hle:∀x∈row,x<=7:=λx hx=>by have:=Vd _ _ row fZ x hx;omega
   have ag2:=OA N 0 k hk;have hgk:(rws 0 N)[k]=row:=(by rw[an3 hk]at Le;exact at7 Le);rw[hgk]at ag2;have agP:=LH W.heap.size N row wr O ⟨(hrd.lt W.heap.size rfl).2,λi hi=>hrd.at hi⟩ (λx hx=>⟨_,yH (by have:=hle x hx;omega)⟩);rw[OW]at agP;have HRL:=F OW;have HRK:=F Le;have HO:=F ag2;have HR:=F hr;have HRD:=F hrd;have HLE:=F hle;have AL:=(hrd.lt W.heap.size rfl).2;clear OW Le ag2 hr hrd hrel hle fZ hgk
   gi_wp2
   refine⟨trivial,λ_=>O,(aq2.2 agP).mono ?_⟩;rintro e w2 ⟨b,rfl,hb,fF,xg⟩;have JW:Af k w2:=Z HJ k wr w2 zQ eH (fF.mono eH);have su:wr.heap.size<=w2.heap.size:=fF.size;obtain⟨fn,tmps,assign,body,hy,hR⟩:=Z HY k #[.map (some b)] w2 hk O ⟨b,row,rfl,Z HRK,xg⟩ JW;clear agP
   gi_wp2
   refine⟨λ_=>O,hR.mono ?_⟩;rintro e W3 ⟨rfl,xM,pG,Aw⟩;have NY:W3.heap[W.heap.size]?=wr.heap[W.heap.size]?:=by
    obtain⟨o,ho⟩:∃o,wr.heap[W.heap.size]?=some o:=⟨_,aq6 AL⟩;have hc:o.isCells=true:=by
     obtain⟨h',_⟩|⟨g',qB,cur,h',_,hg,_⟩:=(Z HRD).2
     ·simp at h'
     ·simp only[Value.slice.injEq,as4,Addr.mk.injEq,and_true,true_and]at h';obtain⟨rfl,rfl⟩:=h';rw[ho]at hg;cases hg;rfl
    rw[ho];exact pG.1 _ o O ((fF.block _ AL).trans ho) (Or.inl hc)
   have ale:Et W3 W.heap.size W.heap.size row:=(Z HRD).same NY;have iL:=Je W3 W.heap.size W.heap.size row (by rw[Z HRL];omega) (by rw[Z HRL];omega) (λx hx=>by have:=Z HLE x hx;omega) ale;rw[Z HRL]at iL;clear hR hy
   gi_wp2
   refine⟨trivial,λ_=>O,(aq2.2 iL).mono ?_⟩;rintro e w4 ⟨rfl,mP,ajb⟩;have hJ4:Af (k+1) w4:=Z HJ (k+1) W3 w4 xM O ⟨mP.os,mP.tape,mP.output,mP.size,λj hj=>mP.block j O anf⟩;have hs4:W3.heap.size<=w4.heap.size:=mP.size
   gi_wp2
   have hor:=Z HO;by_cases pU:k+1<(rws 0 N).length
   ·rw[ao4 pU]at hor;obtain⟨row',af4⟩:∃row',(rws 0 N)[k+1]?=some row':=⟨_,an3 pU⟩;rw[af4]at hor;rw[hor]at ajb ⊢;have hx:XI Af W N ((rws 0 N).length-(k+1)) (.bool (some row').isSome) w4:=⟨O,Or.inl ⟨k+1,row',rfl,pU,rfl,hJ4,af4,ajb⟩⟩;exact⟨⟨_,hx⟩,J9 hx (by have:=Z HR;omega)⟩
   ·rw[an8 pU]at hor;rw[hor];have hx:XI Af W N 0 (.bool (none:Option (List Nat)).isSome) w4:=⟨O,Or.inr ⟨rfl,rfl,by rw[show(rws 0 N).length=k+1 by omega];exact hJ4⟩⟩;exact⟨⟨_,hx⟩,J9 hx (by have:=Z HR;omega)⟩
  ·gi_wp2
   go_end0
   exact⟨⟨_,rfl⟩,hJL,eH⟩
theorem set_mid{α:Type}(Ad B:List α)(x y:α){k:Nat}(h:Ad.length=k):(Ad++x::B).set k y=Ad++y::B:=by subst h;simp
theorem ahZ{k j:Nat}(hk:k<16)(hj:j<4):Go.bits BinOp.and IntKind.i64 ((k:Int)/2 ^ j) 1=((k/2 ^ j%2:Nat):Int):=by
 have h:∀k:Fin 16,∀j:Fin 4,Go.bits BinOp.and IntKind.i64 ((k.val:Int)/2 ^ j.val) 1=((k.val/2 ^ j.val%2:Nat):Int):=by decide +kernel
 exact h ⟨k,hk⟩ ⟨j,hj⟩
theorem MR(n:Nat)(w:World):Calls prog 45 #[A n] w λe w'=>
  e=.returned (.func (.func 90) #[] #[Aa w.heap.size 0])/\w'=w.alloc (.cells #[A n] 3):=by
 go_in
 go_wp2_with fail
 go_ret
 exact⟨rfl,rfl⟩
def TX(n k:Nat)(xs:Array Value)(W:World):Prop:=∃H,xs=#[Ac H 0 n n]/\eP W H (tv n k)
theorem MS(n:Nat)(hn:2<=n)(X m0 N:Nat)(w:World)(h4:N<=4)(hX:w.cell? (J X 0)=some (A N)) :
  KN Fence.wide n prog 90 #[Aa X 0] (2 ^ N) (TX N) (KA m0 X X) w:=by
 intro l Af W hW hJ hY h0;have Qp:W.cell? (J X 0)=some (A N):=(hW.cell (p:=(J X 0)) (an4 w _ hX)).trans hX;have wG:X<W.heap.size:=an4 W _ Qp;obtain⟨i0,gK,jR,ig,jy⟩:=au5 Jw;have Gh:=hW.size;refine au2 func90 rfl trivial ?_ rfl;simp only[ntmps90,ao5,ao1,ap0,Nat.reduceAdd,Nat.reduceSub,an7,an6,ao6,ap9,ao8,ao7]
 gi_wp2
 have hp:wrap64 ((2:Int) ^ N)=((2 ^ N:Nat):Int):=by
  have h':N=0\/N=1\/N=2\/N=3\/N=4:=O
  obtain rfl|rfl|rfl|rfl|rfl:=h'<;>(unfold wrap64;omega)
 rw[hp];clear hp;obtain⟨h2,hM⟩:∃h2,2 ^ N=h2:=⟨_,rfl⟩;rw[hM]at hY ⊢;have am8:h2<=16:=by
  have h':N=0\/N=1\/N=2\/N=3\/N=4:=O
  obtain rfl|rfl|rfl|rfl|rfl:=h'<;>omega
 have HJ:=F hJ;have HY:=F hY;have HM:=F hM;clear hJ hY hM
 gi_loopw [8] (λi wr=>∃k:Nat,k<=h2/\i=A k/\Af k wr/\wr.heap[X]?=W.heap[X]?/\W.heap.size<=wr.heap.size) (λi _=>h2-(intOf i).toNat)
 case atStart=>exact⟨0,ap7 _,rfl,h0,rfl,an2 _⟩
 case round=>
  obtain⟨k,hk,rfl,zQ,sJ,eH⟩:=hrel;obtain⟨w0,rfl⟩:∃w0,w0=wr:=⟨_,rfl⟩;by_cases hlt:k<h2
  ·have iF:(k:Int)<(h2:Int):=O;have hXr:w0.cell? (J X 0)=some (A N):=(an9 sJ).trans Qp;obtain⟨W1,wC,aS,bG⟩:=run_make_full (P:=prog) w0 w0.heap.size 54 4 i0 (.bool false) 1 underlying54 gK jR ig .i64 .i64 N (by rw[jy];omega) anj (an2 _);have e0:(madeCells (Value.bool false).cells (N*1)).toList=List.replicate N (.bool false):=by
    rw[Nat.mul_one];exact toList_madeCells_one _ _
   rw[e0]at aS;have jo:=F aS;clear aS e0
   gi_wp2
   gi_loopw [15] (λi wr=>∃j:Nat,j<=N/\i=A j/\w0.grownBy wr none/\wr.ownsRow w0.heap.size 4 1 (Ac w0.heap.size 0 N N) N (((tv N k).take j++List.replicate (N-j) false).map Value.bool)) (λi _=>N-(intOf i).toNat)
   case atStart=>exact⟨0,ap7 _,rfl,bG,by simpa using Z jo⟩
   case round=>
    obtain⟨j,hj,rfl,dh,BJ⟩:=hrel;by_cases hlj:j<N
    ·have hbj:(j:Int)<(N:Int):=O;have hcj:wr.cell? (J w0.heap.size j)=some (.bool false):=by
      have zM:((tv N k).take j).length=j:=(by rw[ar1,iT];omega);rw[BJ.cellAt j O,as1,List.getElem?_append_right O,zM,Nat.sub_self,an3 anf];simp
     have hfj:wr.frozen? (J w0.heap.size j)=false:=BJ.frozenAt j;obtain⟨bv,UM⟩:∃bv,decide (k/2 ^ j%2=1)=bv:=⟨_,rfl⟩;have oP:=BJ.stored j (.bool bv);have ahu:(Go.bits BinOp.and IntKind.i64 ((k:Int)/2 ^ j) 1==1)=bv:=by
      rw[ahZ (k:=k) (j:=j) O O,<-UM,Bool.eq_iff_iff];simp only[beq_iff_eq,as7];omega
     have kT:(tv N k).take (j+1)=(tv N k).take j++[bv]:=by
      rw[aq3,an3 (by rw[iT];exact hlj)];simp[tv,UM]
     have kR:=F oP;have je:=F kT;clear oP UM kT
     gi_wp2
     refine⟨⟨j+1,hlj,by go_num,⟨(Z kR).2.os.trans dh.os,(Z kR).2.tape.trans dh.tape,(Z kR).2.output.trans dh.output,ap3 dh.size (Z kR).2.size,λq hq _=>((Z kR).2.block q (ap2 hq dh.size) anf).trans (dh.block q hq R)⟩,?_⟩,by simp[intOf];omega⟩;have e:((tv N k).take (j+1)++List.replicate (N-(j+1)) false).map Value.bool=(((tv N k).take j++List.replicate (N-j) false).map Value.bool).set j (.bool bv):=by
      have zM:((tv N k).take j).length=j:=(by rw[ar1,iT];omega);have lH:(((tv N k).take j).map Value.bool).length=j:=(by rw[au3,zM]);have e2:=set_mid (((tv N k).take j).map Value.bool) ((List.replicate (N-(j+1)) false).map Value.bool) (.bool false) (.bool bv) lH;rw[Z je,show N-j=N-(j+1)+1 by omega,List.replicate_succ];simp only[au0,ay3,List.map_nil];rw[e2];simp
     rw[e];exact(Z kR).1
    ·have NU:j=N:=O;have HJJ:=F NU;have hbj:¬(j:Int)<(N:Int):=O;have hrh:eP wr w0.heap.size (tv N k):=by
      refine⟨(BJ.lt w0.heap.size rfl).2,λi hi=>?_⟩;have pI:i<N:=(by rw[iT]at hi;exact hi);rw[BJ.cellAt i O,NU,aq5 (by rw[iT];exact an2 _)];simp[pI,iT]
     have YF:Af k wr:=Z HJ k w0 wr zQ eH ⟨dh.os,dh.tape,dh.output,dh.size,λq hq=>dh.block q O R⟩;have hsr:w0.heap.size<=wr.heap.size:=dh.size;obtain⟨fn,tmps,assign,body,hy,hR⟩:=Z HY k #[Ac w0.heap.size 0 N N] wr hlt O ⟨w0.heap.size,rfl,hrh⟩ YF;have alT:wr.heap[X]?=W.heap[X]?:=(dh.block X O R).trans sJ;clear NU BJ hrh
     gi_wp2
     refine⟨λ_=>O,hR.mono ?_⟩;rintro e W3 ⟨rfl,xM,pG,Aw⟩;clear hR hy
     gi_wp2
     exact⟨⟨k+1,hlt,by go_num,xM,pG.2.1.trans alT,O⟩,by simp[intOf];omega⟩
  ·have gW:k=h2:=O;have iF:¬(k:Int)<(h2:Int):=O;have Lr:=F gW;clear gW
   gi_wp2
   go_end0
   refine⟨⟨_,rfl⟩,?_,eH⟩;rw[Z HM,<-Z Lr];exact zQ
end Go.Proofs.YthcppbmkacbbiabGreat
