import Derived.Test.YthcppbmkacbbiabGreatWAH
import Derived.OrdersIn
import Derived.Laws.OwnMore
set_option linter.unusedSimpArgs false
set_option maxHeartbeats 1000000
namespace Go.Proofs.YthcppbmkacbbiabGreat
open Go.Proofs.Tryz
section
open Go.RowKit Go.Maps Go.WideMaps
theorem pJ{i:Nat}(h:i<=1000):keyOf prog 3 (.int .i64 i)=some (.int .i64 i):=by
 have hw:(Lit.int .i64 i).wf=true:=ao6 (by omega);simp[keyOf,mapKey,underlying3,hw]
theorem dV:Keyed prog 3:=int_keyed underlying3
def dN(w:World)(b:Nat)(f:Nat->Nat)(n c:Nat):Prop:=
 ∃(D:DataW Unit) (nn:Nat),nn<=c/\w.ownsMap prog 3 (plainElem prog 3) b nn D/\
  ∀i,i<n->Maps.has D (.int .i64 i)=decide (f i≠i)/\(f i≠i->D.atKey (.int .i64 i) (.lit (.int .i64 0))=.lit (.int .i64 (f i)))
theorem dN.lt{w:World}{b n c:Nat}{f:Nat->Nat}(h:dN w b f n c):b<w.heap.size:=by
 obtain⟨D,nn,_,h1,_⟩:=h;exact h1.lt
theorem dN.kept{w w':World}{b n c:Nat}{f:Nat->Nat}(h:dN w b f n c)(hb:w'.heap[b]?=w.heap[b]?):dN w' b f n c:=by
 obtain⟨D,nn,h0,⟨es,clock,h1,h2⟩,h3⟩:=h;exact⟨D,nn,h0,⟨es,clock,hb.trans h1,h2⟩,h3⟩
theorem dN.congr{w:World}{b n c:Nat}{f g:Nat->Nat}(h:dN w b f n c)(e:∀i,i<n->f i=g i):dN w b g n c:=by
 obtain⟨D,nn,h0,h1,h2⟩:=h;exact⟨D,nn,h0,h1,λi hi=>by rw[<-e i hi];exact h2 i hi⟩
theorem yB(w:World)(b n c:Nat)(f:Nat->Nat)(i:Nat)(hM:dN w b f n c)(hi:i<n)(hn:n<=1000)(hle:f i<=i)(hff:f (f i)=f i) :
  Calls prog 73 #[.map (some b),.int .i64 i] w λe w'=>e=.returned (.int .i64 (f i))/\w'=w:=by
 obtain⟨D,nn,h0,hown,hall⟩:=hM;by_cases e:f i=i
 ·have hk:=hall i hi;have hhas:Maps.has D (.int .i64 i)=false:=by rw[hk.1];simp[e]
  have hkey:keyOf prog 3 (.int .i64 i)=some (.int .i64 i):=pJ (by omega);have E:=aj e;clear hall hk e hff hle
  go_enter func73,ntmps73
  go_wp2_with fail
  refine wp_loop_rounds 1 ?_;rw[ao0]
  go_wp2_with (at_lookup;refine am7 _ rfl _ _ 53 rfl 3 3 .i64 dV underlying53 underlying3 (zeroE _) b nn D rfl hown _ (.int .i64 i) rfl hkey ?_;intro c0 hat hwc)
  go_ret
  exact⟨gQ (by rw[ah E]),rfl⟩
 ·have hk:=hall i hi;have hk2:=hall (f i) (by omega);have hhas:Maps.has D (.int .i64 i)=true:=by rw[hk.1];simp[e]
  have Ze:Maps.has D (.int .i64 (f i))=false:=by rw[hk2.1];simp[hff]
  have hkey:keyOf prog 3 (.int .i64 i)=some (.int .i64 i):=pJ (by omega);have VA:keyOf prog 3 (.int .i64 (f i))=some (.int .i64 (f i)):=pJ (by omega);have HAT:=aj (hk.2 e);clear hall hk hk2 e hff hle;generalize f i=j at Ze VA HAT
  go_enter func73,ntmps73
  go_wp2_with fail
  refine wp_loop_rounds 2 ?_;rw[ao0]
  go_wp2_with (at_lookup;refine am7 _ rfl _ _ 53 rfl 3 3 .i64 dV underlying53 underlying3 (zeroE _) b nn D rfl hown _ (.int .i64 i) rfl hkey ?_;intro c0 hat hwc;have hc0:c0=(j:Int):=by {have h:=hat.symm.trans (ah HAT);simpa using h};subst hc0;clear hat hwc)
  rw[ao0]
  go_wp2_with (at_lookup;refine am7 _ rfl _ _ 53 rfl 3 3 .i64 dV underlying53 underlying3 (zeroE _) b nn D rfl hown _ (.int .i64 j) rfl VA ?_;intro c0 hat hwc)
  go_ret
  exact⟨rfl,rfl⟩
theorem OE(w:World)(b n c:Nat)(f:Nat->Nat)(i j:Nat)(hM:dN w b f n c)(hi:i<n)(hj:j<n)(hn:n<=1000)(hle:∀i,i<n->f i<=i/\f (f i)=f i) :
  Calls prog 77 #[.map (some b),.int .i64 i,.int .i64 j] w λe w'=>e=.returned (.bool (decide (f i=f j)))/\w'=w:=by
 have h1:=yB w b n c f i hM hi hn (hle i hi).1 (hle i hi).2;have h2:=yB w b n c f j hM hj hn (hle j hj).1 (hle j hj).2;generalize f i=x at h1 ⊢;generalize f j=y at h2 ⊢
 go_enter func77,ntmps77
 go_wp2_with fail
 refine h1.mono ?_;rintro e w1 ⟨rfl,rfl⟩
 go_wp2_with fail
 refine h2.mono ?_;rintro e w2 ⟨rfl,rfl⟩
 go_wp2_with fail
 go_ret
 refine⟨?_,rfl⟩;by_cases e:x=y
 ·subst e;simp
 ·have:(x:Int)≠y:=by omega
  simp[e,this]
theorem Fj(w:World)(b n c:Nat)(f:Nat->Nat)(i j:Nat)(hM:dN w b f n c)(hi:i<n)(hj:j<n)(hn:n<=500)(hc:c<=500)(hne:i≠j)(fi:f i=i)(fj:f j=j) :
  Calls prog 70 #[.map (some b),.int .i64 i,.int .i64 j] w λe w'=>(∃v,e=.returned v)/\w.grownBy w' (some b)/\dN w' b (λk=>if k=j then i else f k) n (c+1):=by
 have h1:=yB w b n c f i hM hi (by omega) (by omega) (by rw[fi,fi]);have h2:=yB w b n c f j hM hj (by omega) (by omega) (by rw[fj,fj]);rw[fi]at h1;rw[fj]at h2;obtain⟨D,nn,h0,hown,hall⟩:=hM;have fD:=hown.tidy dV;have hb:((i:Int) != (j:Int))=true:=by simp;omega
 have hkey:keyOf prog 3 (.int .i64 j)=some (.int .i64 j):=pJ (by omega);have gB:=aj hall;clear hall fi fj
 go_enter func70,ntmps70
 go_wp2_with fail
 refine h1.mono ?_;rintro e w1 ⟨rfl,rfl⟩
 go_wp2_with fail
 refine h2.mono ?_;rintro e w2 ⟨rfl,rfl⟩
 go_wp2_with (at_mapUpdate;refine wpList_mapUpdate_own _ rfl _ _ _ 53 rfl 3 3 dV underlying53 _ b nn D rfl hown (by unfold maxLen;omega) _ _ (.int .i64 j) rfl rfl hkey _ [] (aq4 underlying3 (ao6 (by omega))) ?_;intro w1 hown1 hgrow1)
 go_end0
 refine⟨⟨_,rfl⟩,hgrow1,_,nn+1,by omega,hown1,λk hk=>?_⟩;by_cases e:k=j
 ·subst e;simp only[al0];rw[has_put_same fD.isMap (dV.key hkey),atKey_put_same fD.isMap (dV.key hkey)];simp[hne]
 ·have e1:(λq=>if q=j then i else f q) k=f k:=af2 e;simp only[e1];rw[has_put_other (by simp;omega),atKey_put_other (by simp;omega)];exact ah gB k hk
def gG(w:World)(b:Nat)(f:Nat->Nat)(n c:Nat):Prop:=
 ∃g d:Nat->Nat,dN w b g n c/\∀i,i<n->g i<n/\(g i=i->f i=i)/\(g i≠i->d (g i)<d i/\f (g i)=f i)
theorem gG.lt{w:World}{b n c:Nat}{f:Nat->Nat}(h:gG w b f n c):b<w.heap.size:=by
 obtain⟨g,d,h1,_⟩:=h;exact h1.lt
theorem gG.kept{w w':World}{b n c:Nat}{f:Nat->Nat}(h:gG w b f n c)(hb:w'.heap[b]?=w.heap[b]?):gG w' b f n c:=by
 obtain⟨g,d,h1,h2⟩:=h;exact⟨g,d,h1.kept hb,h2⟩
theorem gG.of{w:World}{b n c:Nat}{f:Nat->Nat}(h:dN w b f n c)(hf:∀i,i<n->f i<=i/\f (f i)=f i):gG w b f n c:=
 ⟨f,id,h,λi hi=>⟨by have:=(hf i hi).1;omega,id,λhne=>⟨by have:=(hf i hi).1;simp;omega,(hf i hi).2⟩⟩⟩
theorem zo{g d f:Nat->Nat}{n:Nat}(h:∀i,i<n->g i<n/\(g i=i->f i=i)/\(g i≠i->d (g i)<d i/\f (g i)=f i)):∀m i,d i<m->i<n->f i<n/\g (f i)=f i/\f (f i)=f i:=by
 intro m
 induction m with
 |zero=>intro i hd;omega
 |succ m ih=>
  intro i hd hi;obtain⟨k1,k2,k3⟩:=h i hi;by_cases e:g i=i
  ·rw[k2 e];exact⟨hi,e,k2 e⟩
  ·obtain⟨k4,k5⟩:=k3 e;have:=ih (g i) (by omega) k1
   rwa [k5]at this
theorem gG.root{w:World}{b n c:Nat}{f:Nat->Nat}(h:gG w b f n c){i:Nat}(hi:i<n):f i<n/\f (f i)=f i:=by
 obtain⟨g,d,h1,h2⟩:=h;have:=zo h2 (d i+1) i (by omega) hi;exact⟨this.1,this.2.2⟩
theorem o9(w:World)(b n c:Nat)(f:Nat->Nat)(i:Nat)(hM:gG w b f n c)(hi:i<n)(hn:n<=1000) :
  Calls prog 73 #[.map (some b),.int .i64 i] w λe w'=>e=.returned (.int .i64 (f i))/\w'=w:=by
 obtain⟨g,d,⟨D,nn,h0,hown,hall⟩,hg⟩:=hM;have gB:=aj hall;have HG:=aj hg;clear hall hg
 go_enter func73,ntmps73
 go_wp2_with fail
 go_loopw [1] (λkey wr=>∃k:Nat,key=.int .i64 k/\k<n/\f k=f i/\wr=w) (λkey _=>d (intOf key).toNat)
 case atStart=>exact⟨i,rfl,hi,rfl,rfl⟩
 case round=>
  obtain⟨k,rfl,hk,hfk,rfl⟩:=hrel;have hka:=(ah gB) k hk;obtain⟨g1,g2,g3⟩:=(ah HG) k hk;have hkey:keyOf prog 3 (.int .i64 k)=some (.int .i64 k):=pJ (by omega);by_cases e:g k=k
  ·have hhas:Maps.has D (.int .i64 k)=false:=(by rw[hka.1];simp[e]);have hfin:Hid (f i=k):=(by unfold Hid;rw[<-hfk];exact g2 e);clear hka g1 g2 g3 hfk e
   go_wp2_with (at_lookup;refine am7 _ rfl _ _ 53 rfl 3 3 .i64 dV underlying53 underlying3 (zeroE _) b nn D rfl hown _ (.int .i64 k) rfl hkey ?_;intro c0 hat hwc)
   exact ag3 (v:=.int .i64 k) (by simp[results,results73,go_sem]) rfl ⟨by rw[ah hfin],rfl⟩
  ·have hhas:Maps.has D (.int .i64 k)=true:=(by rw[hka.1];simp[e]);have HAT:=aj (hka.2 e);obtain⟨g4,g5⟩:=g3 e;have HFK:=aj (g5.trans hfk);clear hka g2 g3 g5 hfk e;generalize g k=j at HAT g1 g4 HFK
   go_wp2_with (at_lookup;refine am7 _ rfl _ _ 53 rfl 3 3 .i64 dV underlying53 underlying3 (zeroE _) b nn D rfl hown _ (.int .i64 k) rfl hkey ?_;intro c0 hat hwc;have hc0:c0=(j:Int):=by {have h:=hat.symm.trans (ah HAT);simpa using h};subst hc0;clear hat hwc)
   exact⟨⟨j,rfl,g1,ah HFK,by first|rfl|trivial⟩,by simpa[intOf]using g4⟩
theorem ED(w:World)(b n c:Nat)(f:Nat->Nat)(i j:Nat)(hM:gG w b f n c)(hi:i<n)(hj:j<n)(hn:n<=1000) :
  Calls prog 77 #[.map (some b),.int .i64 i,.int .i64 j] w λe w'=>e=.returned (.bool (decide (f i=f j)))/\w'=w:=by
 have h1:=o9 w b n c f i hM hi hn;have h2:=o9 w b n c f j hM hj hn;generalize f i=x at h1 ⊢;generalize f j=y at h2 ⊢
 go_enter func77,ntmps77
 go_wp2_with fail
 refine h1.mono ?_;rintro e w1 ⟨rfl,rfl⟩
 go_wp2_with fail
 refine h2.mono ?_;rintro e w2 ⟨rfl,rfl⟩
 go_wp2_with fail
 go_ret
 refine⟨?_,rfl⟩;by_cases e:x=y
 ·subst e;simp
 ·have:(x:Int)≠y:=by omega
  simp[e,this]
def nS(f:Nat->Nat)(i j:Nat):Nat->Nat:=λk=>if f k=f j then f i else f k
theorem pK{f:Nat->Nat}{i j:Nat}(h:f i=f j):nS f i j=f:=by
 funext k;unfold nS;by_cases e:f k=f j
 ·rw[af6 e,h,e]
 ·rw[af2 e]
theorem Fh(w:World)(b n c:Nat)(f:Nat->Nat)(i j:Nat)(hM:gG w b f n c)(hi:i<n)(hj:j<n)(hn:n<=500)(hc:c<=500) :
  Calls prog 70 #[.map (some b),.int .i64 i,.int .i64 j] w λe w'=>(∃v,e=.returned v)/\w.grownBy w' (some b)/\gG w' b (nS f i j) n (if f i=f j then c else c+1):=by
 have h1:=o9 w b n c f i hM hi (by omega);have h2:=o9 w b n c f j hM hj (by omega);by_cases e:f i=f j
 ·rw[af6 e,pK e];rw[<-e]at h2;have HM:=aj hM;clear hM e;generalize f i=x at h1 h2
  go_enter func70,ntmps70
  go_wp2_with fail
  refine h1.mono ?_;rintro e w1 ⟨rfl,rfl⟩
  go_wp2_with fail
  refine h2.mono ?_;rintro e w2 ⟨rfl,rfl⟩
  go_wp2_with fail
  go_end0
  exact⟨⟨_,rfl⟩,ah7 _ _,ah HM⟩
 ·rw[af2 e];obtain⟨hfi,Zi⟩:=hM.root hi;obtain⟨hfj,Zh⟩:=hM.root hj;obtain⟨g,d,⟨D,nn,h0,hown,hall⟩,hg⟩:=hM;obtain⟨_,hgi,_⟩:=zo hg (d i+1) i (by omega) hi;obtain⟨_,hgj,_⟩:=zo hg (d j+1) j (by omega) hj;have fD:=hown.tidy dV;have hb:((f i:Int) != (f j:Int))=true:=by simp;omega
  have hkey:keyOf prog 3 (.int .i64 (f j))=some (.int .i64 (f j)):=pJ (by omega);have cO:Hid (∀w' nn',nn'<=c+1->w'.ownsMap prog 3 (plainElem prog 3) b nn' (D.put (.int .i64 (f j)) (.lit (.int .i64 (f i))))->gG w' b (nS f i j) n (c+1)):=by
   intro w' nn' hnn hown';refine⟨λk=>if k=f j then f i else g k,λk=>if f k=f j then d k+d (f i)+1 else d k,⟨_,nn',hnn,hown',λk hk=>?_⟩,λk hk=>?_⟩
   ·by_cases e2:k=f j
    ·subst e2;simp only[al0];rw[has_put_same fD.isMap (dV.key hkey),atKey_put_same fD.isMap (dV.key hkey)];simp[e]
    ·have e1:(λq=>if q=f j then f i else g q) k=g k:=af2 e2;simp only[e1];rw[has_put_other (by simp;omega),atKey_put_other (by simp;omega)];exact hall k hk
   ·by_cases e2:k=f j
    ·subst e2;simp only[al0,nS,Zi,Zh,af2 e];exact⟨hfi,λh=>absurd h e,λ_=>⟨by omega,by first|rfl|trivial⟩⟩
    ·obtain⟨k1,k2,k3⟩:=hg k hk;simp only[af2 e2];refine⟨k1,λh=>?_,λh=>?_⟩
     ·have h3:=k2 h;unfold nS;rw[h3,af2 e2]
     ·obtain⟨k4,k5⟩:=k3 h;unfold nS;rw[k5];refine⟨?_,rfl⟩;split<;>omega
  clear hall hg hgi hgj Zi Zh e fD;generalize f i=x at h1 hfi hb cO;generalize f j=y at h2 hfj hkey hb cO
  go_enter func70,ntmps70
  go_wp2_with fail
  refine h1.mono ?_;rintro e w1 ⟨rfl,rfl⟩
  go_wp2_with fail
  refine h2.mono ?_;rintro e w2 ⟨rfl,rfl⟩
  go_wp2_with (at_mapUpdate;refine wpList_mapUpdate_own _ rfl _ _ _ 53 rfl 3 3 dV underlying53 _ b nn D rfl hown (by unfold maxLen;omega) _ _ (.int .i64 y) rfl rfl hkey _ [] (aq4 underlying3 (ao6 (by omega))) ?_;intro w1 hown1 hgrow1)
  go_end0
  exact⟨⟨_,rfl⟩,hgrow1,(ah cO) _ _ (by omega) hown1⟩
end
section
open Go.RowKit
def lD(F:Fence)(n:Nat)(P:Program)(g:Nat)(lb:Array Value)(xs:List (Array Value))(Kp:World->World->Prop)(w:World):Prop:=
 ∀(l:Nat) (J:Nat->World->Prop) (Jx:World->Prop) (W:World),Below w.heap.size w W->AbidesFrom W.heap.size J->AbidesFrom W.heap.size (fun(_:Unit) V=>Jx V)->
  (∀k (hk:k<xs.length) W1,J k W1->YieldAt F (n-1) P l xs[k] W1 λe W'=>(e=.returned (.bool true)/\J (k+1) W'/\Kp W1 W')\/(e=.returned (.bool false)/\Jx W'))->
  J 0 W->
  CallsIn F n P g (#[.func (.yield l) #[] #[]]++lb) W λe W'=>(∃v,e=.returned v)/\(J xs.length W'\/Jx W')
theorem lD.all{F:Fence}{n:Nat}{P:Program}{g:Nat}{lb:Array Value}{xs:List (Array Value)}{Kp:World->World->Prop}{w:World}(h:lD F n P g lb xs Kp w):vU F n P g lb xs Kp w:=by
 intro l J W hW hJ hY h0;refine(h l J (λ_=>False) W hW hJ (λ_ _ _ _ hf _ _=>hf) (λk hk W1 hJk=>(hY k hk W1 hJk).mono λe W' he=>Or.inl he) h0).mono ?_;rintro e W' ⟨h1,h2|h2⟩
 ·exact⟨h1,h2⟩
 ·exact h2.elim
def UL(B:Nat)(Kp:World->World->Prop)(I Ix:World->Prop)(W:World):Exit->Act->World->Prop
 |.normal,_,W'=>KeepsFrom B W W'/\Kp W W'/\I W'
 |.ret,_,W'=>KeepsFrom B W W'/\Ix W'
 |_,_,_=>False
theorem dW{F:Fence}{n:Nat}{P:Program}{g:Operand}{ps:Array Tmp}{assign body:Code}{Q:Exit->Act->World->Prop}{a:Act}{w:World}
 (hro:F.round=none)(h1:1<=n){gf:Nat}{lb:Array Value}(hg:a.eval g=.func (.func gf) #[] lb)(hFg:F.fn gf)(eg:∀args w,(callFunc gf args).run P w=.ok (.enter gf args) w)
 {xs:List (Array Value)}{Kp:World->World->Prop}{w0:World}(hseq:lD F (n-1) P gf lb xs Kp w0)
 (hKt:∀{A B C:World},Kp A B->Kp B C->Kp A C)(hKb:∀(W:World) (l:Nat) (o o':Obj),w.heap.size<=l->W.heap[l]?=some o->o.isCells=false->o.isWalk=false->Kp W (W.putObj l o'))
 (hb0:Below w0.heap.size w0 w)(hps:∀k (hk:k<xs.length),xs[k].size=ps.size)
 (I:Nat->World->Prop)(Ix:World->Prop)(hI:OwnFrom w.heap.size I)(hIx:OwnFrom w.heap.size (fun(_:Unit) W=>Ix W))(h0:I 0 w)(Ax:Nat->Act->World->Prop)(hAx:∀k a',OwnFrom w.heap.size (fun(_:Unit) W=>Ax k a' W))
 (hassign:∀(l k:Nat) (hk:k<xs.length) (W:World) (K:Act->World->Prop),I k W->(∀a' W',KeepsFrom w.heap.size W W'->Kp W W'->I k W'->Ax k a' W'->K a' W')->
   assign.wpIn (F.inRound l) (n-1-1) P (Exit.then K (λ_ _ _=>False)) {tmps:=(ps.zip xs[k]).foldl (λt (p,v)=>t.setIfInBounds p v) a.tmps,defers:=[]} W)
 (hbody:∀(l k:Nat) (a':Act) (W:World),k<xs.length->w.heap.size<=l->I k W->Ax k a' W->body.wpIn (F.inRound l) (n-1-1) P (UL w.heap.size Kp (I (k+1)) Ix W) a' W)
 (hdone:∀(D:Nat) (W:World),w.heap.size<=D->I xs.length W->W.heap[D]?=some (.deferred (some []))->Q .normal {a with defers:={target:=.collected D,args:=#[]}::a.defers} W)
 (hstop:∀(D:Nat) (W:World),w.heap.size<=D->Ix W->W.heap[D]?=some (.deferred (some []))->Code.ret.wpIn F n P Q {a with defers:={target:=.collected D,args:=#[]}::a.defers} W) :
  (Code.rangeFunc g ps assign body).wpIn F n P Q a w:=by
 refine wpIn_rangeFunc ?_;intro fn hfn;rw[hro];obtain⟨lp,hlp⟩:∃lp:LoopState->Option Code->Loop,lp=λst pe=>{state:=st,pending:=pe,fn,tmps:=a.tmps,params:=ps,assign,body,defers:=w.heap.size}:=⟨_,rfl⟩;obtain⟨W1,hW1⟩:∃W1,(w.alloc (.deferred (some []))).alloc (.loop (lp .ready none))=W1:=⟨_,rfl⟩;have hsz1:W1.heap.size=w.heap.size+2:=by rw[<-hW1];simp
 have tK:W1.heap[w.heap.size+1]?=some (.loop (lp .ready none)):=by
  have h:=ar9 (w.alloc (.deferred (some []))) (.loop (lp .ready none));rw[World.size_alloc]at h;rw[<-hW1];exact h
 have rV:W1.heap[w.heap.size]?=some (.deferred (some [])):=by
  rw[<-hW1];exact(ae3 _ _ _ (by simp)).trans (ar9 w _)
 have inv1:I 0 W1:=by rw[<-hW1];exact hI.alloc _ (hI.alloc _ h0)
 have nM:Below w0.heap.size w0 W1:=by
  rw[<-hW1];exact hb0.trans ((((ag6 _ w).alloc (ad5 _) _).alloc (by simp) _).mono hb0.size)
 have abide:AbidesFrom W1.heap.size (λk W=>I k W/\W.heap[w.heap.size+1]?=some (.loop (lp .ready none))/\W.heap[w.heap.size]?=some (.deferred (some []))):=by
  intro k A B row hk hgr hr;refine⟨hI k A B row hk.1 hgr (λr e=>?_),(grownBy_keeps hgr (λr e=>(hr r e).2) hk.2.1 rfl).trans hk.2.1,(grownBy_keeps hgr (λr e=>(hr r e).2) hk.2.2 rfl).trans hk.2.2⟩;obtain⟨h2,o,ho,hw⟩:=hr r e;exact⟨by omega,o,ho,Obj.not_cells_of_walk hw⟩
 have XK:AbidesFrom W1.heap.size (fun(_:Unit) W=>Ix W/\W.heap[w.heap.size+1]?=some (.loop (lp .done (some .ret)))/\W.heap[w.heap.size]?=some (.deferred (some []))):=by
  intro k A B row hk hgr hr;refine⟨hIx () A B row hk.1 hgr (λr e=>?_),(grownBy_keeps hgr (λr e=>(hr r e).2) hk.2.1 rfl).trans hk.2.1,(grownBy_keeps hgr (λr e=>(hr r e).2) hk.2.2 rfl).trans hk.2.2⟩;obtain⟨h2,o,ho,hw⟩:=hr r e;exact⟨by omega,o,ho,Obj.not_cells_of_walk hw⟩
 refine⟨w.heap.size+1,[{target:=.collected w.heap.size,args:=#[]}],W1,{target:=.fn (.func gf) lb,args:=#[.func (.yield (w.heap.size+1)) #[] #[]]},W1,gf,
  #[.func (.yield (w.heap.size+1)) #[] #[]]++lb,W1,?_,?_,?_,?_,λ_=>h1,?_⟩
 ·rw[<-hW1,hlp];exact run_enterLoop_outer _ _ _ _ _
 ·simp only[resolve,hg];simp[go_sem]
 ·intro f' hf';simp[Target.leads]at hf';subst hf';exact hFg
 ·simp[invoke,go_sem,eg]
 ·refine(hseq (w.heap.size+1) _ _ W1 nM abide XK ?_ ⟨inv1,tK,rV⟩).mono ?_
  ·rintro k hk W ⟨hi,hl,hd⟩;have hy:=run_yield (P:=P) (args:=xs[k]) hl (by rw[hlp];exact hps k hk);rw[hlp]at hy;refine⟨fn,_,assign,body,hy,roundIn_of_wpIn hfn (hassign _ k hk W _ hi ?_)⟩;intro a' Wa keepA kpA iA ax;have hl2:=keepA.same _ _ (by omega) hl rfl;have hd2:=keepA.same _ _ (ad5 _) hd rfl;have hlt:w.heap.size+1<Wa.heap.size:=(ad3.1 hl2).1;refine⟨_,run_beginRound hl2 (by rw[hlp]),?_⟩;have hl3:(Wa.putObj (w.heap.size+1) (.loop {lp .ready none with state:=.busy})).heap[w.heap.size+1]?=some (.loop {lp .ready none with state:=.busy}):=an5 hlt;have hd3:(Wa.putObj (w.heap.size+1) (.loop {lp .ready none with state:=.busy})).heap[w.heap.size]?=some (.deferred (some [])):=(af0 (by omega)).trans hd2;have kp3:Kp Wa (Wa.putObj (w.heap.size+1) (.loop {lp .ready none with state:=.busy})):=hKb _ _ _ _ (by omega) hl2 rfl rfl;refine wpIn_mono (hbody (w.heap.size+1) k a' _ hk (by omega) (hI.putObj _ iA (by omega) hl2 rfl) ((hAx k a').putObj (s:=()) _ ax (by omega) hl2 rfl)) ?_;rintro e a3 W3 hp;cases e with
   |normal=>
    obtain⟨iU,kp4,i3⟩:=hp;have hl4:=iU.same _ _ (by omega) hl3 rfl;have hr:=run_endRound (P:=P) none hl4;rw[hlp]at hr;refine⟨_,_,hr,Or.inl ⟨rfl,⟨hI.putObj _ i3 (by omega) hl4 rfl,?_,?_⟩,hKt kpA (hKt (hKt kp3 kp4) (hKb _ _ _ _ (by omega) hl4 rfl rfl))⟩⟩
    ·rw[hlp];exact an5 (ad3.1 hl4).1
    ·exact(af0 (by omega)).trans (iU.same _ _ (ad5 _) hd3 rfl)
   |ret=>
    obtain⟨iU,i3⟩:=hp;have hl4:=iU.same _ _ (by omega) hl3 rfl;have hr:=run_endRound (P:=P) (some .ret) hl4;rw[hlp]at hr;refine⟨_,_,hr,Or.inr ⟨rfl,hIx.putObj (s:=()) _ i3 (by omega) hl4 rfl,?_,?_⟩⟩
    ·rw[hlp];exact an5 (ad3.1 hl4).1
    ·exact(af0 (by omega)).trans (iU.same _ _ (ad5 _) hd3 rfl)
   |exit id=>exact hp.elim
   |goto t=>exact hp.elim
   |panic ch=>exact hp.elim
   |outgrown=>exact hp.elim
  ·rintro e W2 ⟨⟨v,rfl⟩,⟨hi,hl,hd⟩|⟨hi,hl,hd⟩⟩
   ·have hr:=run_endLoop (P:=P) hl (by rw[hlp];simp);rw[hlp]at hr;exact⟨none,_,hr,hdone _ _ (ad5 _) (hI.putObj _ hi (by omega) hl rfl) ((af0 (by omega)).trans hd)⟩
   ·have hr:=run_endLoop (P:=P) hl (by rw[hlp];simp);rw[hlp]at hr;exact⟨some .ret,_,hr,hstop _ _ (ad5 _) (hIx.putObj (s:=()) _ hi (by omega) hl rfl) ((af0 (by omega)).trans hd)⟩
end
section
open Go.RowKit Go.Maps Go.WideMaps
section
variable {α:Type} [BEq α]
def aO(keys:List α):Nat->List (Nat×Nat)
 |0=>[]
 |k+1=>match keys[k]? with
  |some x=>if (keys.take k).contains x then aO keys k++[((keys.take k).idxOf x,k)]else aO keys k
  |none=>aO keys k
theorem kH{keys:List α}{k:Nat}(hk:k<keys.length):aO keys (k+1)=if (keys.take k).contains keys[k]then aO keys k++[((keys.take k).idxOf keys[k],k)]else aO keys k:=by
 rw[aO,ad6 hk]
theorem Hl{keys:List α}{k m:Nat}(h:k<=m):aO keys k <+: aO keys m:=by
 induction m with
 |zero=>
      have:k=0:=(by omega);subst this;exact al1 _
 |succ m ih=>
  by_cases e:k=m+1
  ·subst e;exact al1 _
  ·have h1:=ih (by omega);refine h1.trans ?_;rw[aO];split
   ·split
    ·exact aq1 _ _
    ·exact al1 _
   ·exact al1 _
theorem CJ{keys:List α}{k:Nat}(hk:k<keys.length)(hc:(keys.take k).contains keys[k]=true) :
  ∃h:(aO keys k).length<(aO keys keys.length).length,(aO keys keys.length)[(aO keys k).length]=((keys.take k).idxOf keys[k],k):=by
 have hp:=Hl (keys:=keys) (k:=k+1) (m:=keys.length) hk;rw[kH hk,af6 hc]at hp;obtain⟨r,hr⟩:=hp;refine⟨by rw[<-hr];simp,?_⟩;rw[List.getElem_of_eq hr.symm];simp
def mM(w:World)(k b:Nat)(kv:α->Value)(l:List α):Prop:=
 ∃(D:DataW Unit) (nn:Nat),nn<=l.length/\w.ownsMap prog k (plainElem prog 3) b nn D/\
  ∀x lt,keyOf prog k (kv x)=some lt->Maps.has D lt=l.contains x/\(l.contains x=true->D.atKey lt (.lit (.int .i64 0))=.lit (.int .i64 (l.idxOf x)))
theorem mM.kept{w w':World}{k b:Nat}{kv:α->Value}{l:List α}(h:mM w k b kv l)(hb:w'.heap[b]?=w.heap[b]?):mM w' k b kv l:=by
 obtain⟨D,nn,h0,⟨es,clock,h1,h2⟩,h3⟩:=h;exact⟨D,nn,h0,⟨es,clock,hb.trans h1,h2⟩,h3⟩
theorem mM.lt{w:World}{k b:Nat}{kv:α->Value}{l:List α}(h:mM w k b kv l):b<w.heap.size:=by
 obtain⟨D,nn,_,h1,_⟩:=h;exact h1.lt
theorem mM.walk{w:World}{k b:Nat}{kv:α->Value}{l:List α}(h:mM w k b kv l):∃o:Obj,w.heap[b]?=some o/\o.isWalk=true:=by
 obtain⟨D,nn,_,⟨es,clock,h1,_⟩,_⟩:=h;exact⟨_,h1,rfl⟩
theorem qG(w:World)(k:Nat)(kv:α->Value):mM (w.alloc (.map #[] 0)) k w.heap.size kv ([]:List α):=
 ⟨.map [],0,ad5 _,aq9 w _ _ _,λx l _=>⟨rfl,λh=>by simp at h⟩⟩
theorem mM.again[LawfulBEq α]{w:World}{k b:Nat}{kv:α->Value}{l:List α}(h:mM w k b kv l){x:α}(hx:l.contains x=true):mM w k b kv (l++[x]):=by
 obtain⟨D,nn,h0,h1,h2⟩:=h;have hx':x∈l:=by simpa using hx
 refine⟨D,nn,by simp;omega,h1,λy lt hy=>?_⟩;have h3:=h2 y lt hy;by_cases e:y∈l
 ·have e1:(l++[x]).contains y=true:=by simp[e]
  have e2:l.contains y=true:=by simpa using e
  rw[e1];refine⟨by rw[h3.1];exact e2,λ_=>?_⟩;rw[h3.2 e2];simp[al3,e]
 ·have hne:y≠x:=λe'=>e (by rw[e'];exact hx');have e1:(l++[x]).contains y=false:=by simp[e,hne]
  have e2:l.contains y=false:=by simpa using e
  rw[e1];exact⟨by rw[h3.1];exact e2,λh=>by cases h⟩
theorem um[LawfulBEq α]{w':World}{k b nn:Nat}{kv:α->Value}{l:List α}{D:DataW Unit}(hinj:∀a b:α,kv a=kv b->a=b)(K:Keyed prog k)(h0:nn<=l.length)
 (h2:∀x lt,keyOf prog k (kv x)=some lt->Maps.has D lt=l.contains x/\(l.contains x=true->D.atKey lt (.lit (.int .i64 0))=.lit (.int .i64 (l.idxOf x))))
 (h4:Tidy D){x:α}{lx:Lit}(hl:keyOf prog k (kv x)=some lx)(hx:l.contains x=false)
 (h5:w'.ownsMap prog k (plainElem prog 3) b (nn+1) (D.put lx (.lit (.int .i64 l.length)))):mM w' k b kv (l++[x]):=by
 have hx':¬x∈l:=by simpa using hx
 refine⟨_,nn+1,by simp;omega,h5,λy m hm=>?_⟩;by_cases e:m=lx
 ·subst e;have:y=x:=hinj _ _ (K.inj hm hl);subst this;refine⟨by rw[has_put_same h4.isMap (K.key hl)];simp,λ_=>?_⟩;rw[atKey_put_same h4.isMap (K.key hl)];simp[al3,hx']
 ·have hne:y≠x:=λe'=>e (by subst e';rw[hm]at hl;exact ak1 hl);rw[has_put_other e,atKey_put_other e,(h2 y m hm).1];refine⟨by simp[hne],λhy=>?_⟩;have hy':y∈l:=by simpa[hne]using hy
  rw[(h2 y m hm).2 (by simpa using hy')];simp[al3,hy']
end
def KA(m0 X G:Nat)(W W':World):Prop:=(∀(k:Nat) (o:Obj),m0<=k->W.heap[k]?=some o->(o.isCells=true\/o.isWalk=true)->W'.heap[k]?=some o)/\W'.heap[X]?=W.heap[X]?/\W'.heap[G]?=W.heap[G]?
theorem KA.trans{m0 X G:Nat}{A B C:World}(h:KA m0 X G A B)(g:KA m0 X G B C):KA m0 X G A C:=⟨λk o hk ho hc=>g.1 k o hk (h.1 k o hk ho hc) hc,g.2.1.trans h.2.1,g.2.2.trans h.2.2⟩
end
section
open Go.RowKit Go.Maps Go.WideMaps
open aB (Key put)
theorem dh{P:Program}{t k e:TypeId}(hu:P.underlying t=some (.map k e))(q:IntKind)(z:Int)(w:World):(Instr.makeMap t (some (.int q z))).run P w=.ok (.map (some w.heap.size)) (w.alloc (.map #[] 0)):=by
 simp[Instr.makeMap,run_underlying hu,asInt];rfl
def gV(x:Nat):Value:=.int .i64 x
def PS(x:UInt8):Value:=.int .u8 x.toNat
theorem CS{a b:Nat}(h:gV a=gV b):a=b:=by simp[gV]at h;omega
theorem Uh{a b:UInt8}(h:PS a=PS b):a=b:=by
 simp[PS]at h;exact UInt8.toNat_inj.1 (by omega)
theorem PL:Keyed prog 5:=int_keyed underlying5
theorem aaw(x:UInt8):keyOf prog 5 (PS x)=some (.int .u8 x.toNat):=by
 have hw:(Lit.int .u8 x.toNat).wf=true:=WalkArith.wf_u8 (by have:=UInt8.toNat_lt x;omega);simp[keyOf,mapKey,PS,underlying5,hw]
def bQ(w:World)(G:Nat)(ts:List Key):Prop:=G<w.heap.size/\∀i (hi:i<ts.length),w.cell? ⟨G,i*3,none⟩=some (.int .u8 ts[i].1)/\w.cell? ⟨G,i*3+1,none⟩=some (.int .i64 ts[i].2.1)/\w.cell? ⟨G,i*3+2,none⟩=some (.int .i64 ts[i].2.2)
def eF(w:World)(G:Nat)(cs:List (Int×Nat)):Prop:=G<w.heap.size/\∀i (hi:i<cs.length),w.cell? ⟨G,i*2,none⟩=some (.int .u8 cs[i].1)/\w.cell? ⟨G,i*2+1,none⟩=some (.int .i64 cs[i].2)
def uJ(w:World)(G:Nat)(ks:List Nat):Prop:=G<w.heap.size/\∀i (hi:i<ks.length),w.cell? ⟨G,i,none⟩=some (.int .i64 ks[i])
def qg(w:World)(G:Nat)(ks:List UInt8):Prop:=G<w.heap.size/\∀i (hi:i<ks.length),w.cell? ⟨G,i,none⟩=some (.int .u8 ks[i].toNat)
theorem bQ.below{w w':World}{b G:Nat}{ts:List Key}(h:bQ w G ts)(hb:Below b w w')(hlt:G<b):bQ w' G ts:=
 ⟨af5 h.1 hb.size,λi hi=>⟨(hb.cell (p:=⟨G,_,none⟩) hlt).trans (h.2 i hi).1,(hb.cell (p:=⟨G,_,none⟩) hlt).trans (h.2 i hi).2.1,(hb.cell (p:=⟨G,_,none⟩) hlt).trans (h.2 i hi).2.2⟩⟩
theorem eF.below{w w':World}{b G:Nat}{cs:List (Int×Nat)}(h:eF w G cs)(hb:Below b w w')(hlt:G<b):eF w' G cs:=
 ⟨af5 h.1 hb.size,λi hi=>⟨(hb.cell (p:=⟨G,_,none⟩) hlt).trans (h.2 i hi).1,(hb.cell (p:=⟨G,_,none⟩) hlt).trans (h.2 i hi).2⟩⟩
theorem uJ.below{w w':World}{b G:Nat}{ks:List Nat}(h:uJ w G ks)(hb:Below b w w')(hlt:G<b):uJ w' G ks:=
 ⟨af5 h.1 hb.size,λi hi=>(hb.cell (p:=⟨G,_,none⟩) hlt).trans (h.2 i hi)⟩
theorem qg.below{w w':World}{b G:Nat}{ks:List UInt8}(h:qg w G ks)(hb:Below b w w')(hlt:G<b):qg w' G ks:=
 ⟨af5 h.1 hb.size,λi hi=>(hb.cell (p:=⟨G,_,none⟩) hlt).trans (h.2 i hi)⟩
theorem bQ.same{w w':World}{G:Nat}{ts:List Key}(h:bQ w G ts)(hb:w'.heap[G]?=w.heap[G]?):bQ w' G ts:=
 ⟨by have h1:=h.1;rw[ag7 h1]at hb;exact(ad3.1 hb).1,λi hi=>⟨(ae5 hb).trans (h.2 i hi).1,(ae5 hb).trans (h.2 i hi).2.1,(ae5 hb).trans (h.2 i hi).2.2⟩⟩
theorem eF.same{w w':World}{G:Nat}{cs:List (Int×Nat)}(h:eF w G cs)(hb:w'.heap[G]?=w.heap[G]?):eF w' G cs:=
 ⟨by have h1:=h.1;rw[ag7 h1]at hb;exact(ad3.1 hb).1,λi hi=>⟨(ae5 hb).trans (h.2 i hi).1,(ae5 hb).trans (h.2 i hi).2⟩⟩
theorem uJ.same{w w':World}{G:Nat}{ks:List Nat}(h:uJ w G ks)(hb:w'.heap[G]?=w.heap[G]?):uJ w' G ks:=
 ⟨by have h1:=h.1;rw[ag7 h1]at hb;exact(ad3.1 hb).1,λi hi=>(ae5 hb).trans (h.2 i hi)⟩
theorem qg.same{w w':World}{G:Nat}{ks:List UInt8}(h:qg w G ks)(hb:w'.heap[G]?=w.heap[G]?):qg w' G ks:=
 ⟨by have h1:=h.1;rw[ag7 h1]at hb;exact(ad3.1 hb).1,λi hi=>(ae5 hb).trans (h.2 i hi)⟩
end
theorem Ba{P:Program}{ops:Array Oper}{Q:Exit->Act->World->Prop}{r n:Nat}(hd:∀(i:Nat) (o:Oper),ops[i]?=some o->∀c,o.op≠.defer c)(hQ:¬LetsOut Q) :
  ∀(l:List Nat) (a:Act) (w:World),wpOps P ops Q l a w->wpOpsIn (Fence.wide.inRound r) n P ops Q l a w:=by
 intro l
 induction l with
 |nil=>intro a w h;exact h
 |cons i rest ih=>
  intro a w h;simp only[wpOps]at h;simp only[wpOpsIn];cases ho:ops[i]? with
  |none=>simp only[ho]at h ⊢;exact ih _ _ h
  |some o=>
   simp only[ho]at h ⊢;by_cases hw:Region.wanted o (yielded ops a.tmps)=true
   ·simp only[hw,al0]at h ⊢;have h:=h.resolve_right (λhx=>hQ hx.2);unfold Oper.wp at h;unfold Oper.wpIn;refine⟨λ_ _=>trivial,?_⟩;rw[Oper.semAt_eq _ _ _ (hd i o ho)];generalize (execOp a.eval o).run P w=z at *;cases z with
    |ok x w'=>
     cases x<;>simp only[Oper.upon,Oper.uponIn]at h ⊢
     case value u=>exact ih _ _ h
     case skip=>exact ih _ _ h
     case defer d=>exact ih _ _ h
     case enter f args=>
      refine⟨λhx=>(by cases hx),al4 r (ag4.2 (Calls.mono h λe w'' he=>?_))⟩;cases e with
      |returned u=>exact ih _ _ he
      |panicked c=>exact he
      |outgrown=>exact he
     case row row args=>
      refine⟨λhx=>(by cases hx),λc cs _=>?_⟩;obtain⟨v,w2,hv,hs⟩:=h c cs;exact⟨v,w2,ih _ _ hv,stepsIn_wide.2 hs⟩
    |halt x w'=>cases x<;>simp only[Oper.upon,Oper.uponIn]at h ⊢<;>exact h
   ·simp only[hw]at h ⊢;exact⟨λ_ _=>trivial,ih _ _ h⟩
section
variable {P:Program} {ops:Array Oper} {Q:Exit->Act->World->Prop} {md:Region.Mode} {S:World->Prop} {z:Nat}
def wpAnyL(P:Program)(md:Region.Mode)(ops:Array Oper)(Q:Exit->Act->World->Prop)(S:World->Prop)(z:Nat):Nat->Array Bool->Act->World->Prop
 |0,listed,a,w=>Region.ready md ops listed=[]/\Q .normal a w
 |fuel+1,listed,a,w=>
  (Region.ready md ops listed=[]->Q .normal a w)/\
  ∀i∈Region.ready md ops listed,wpOp P ops Q i (λa' w'=>(i≠z->S w')/\wpAnyL P md ops Q S z fuel (listed.setIfInBounds i true) a' w') a w
theorem jl:∀(fuel:Nat) (listed:Array Bool) (a:Act) (w:World),wpAnyL P md ops Q S z fuel listed a w->wpAny P md ops Q fuel listed a w
 |0,_,_,_,h=>h
 |fuel+1,_,_,_,h=>⟨h.1,λi hi=>wpOp_mono (λa' w' h'=>jl fuel _ a' w' h'.2) (h.2 i hi)⟩
def waits(md:Region.Mode)(ops:Array Oper)(z i:Nat):Bool:=match ops[z]? with|some o=>o.after.any λe=>Region.binds md e&&(e.on==i)|none=>false
theorem wpAnyL_first{i:Nat}{oi:Oper}{v:Value}(hi:ops[i]?=some oi)(hz:waits md ops z i=true)(hsel:∀(j:Nat) (o:Oper) cs b,ops[j]?=some o->o.op≠.select cs b)
 (hQ:∀c a w,Q (.panic c) (a.put oi.dst v) w->Q (.panic c) a w) :
  ∀(fuel:Nat) (listed:Array Bool) (a:Act) (w:World),
   (∀j oj,ops[j]?=some oj->j≠i->listed.getD j true=false->(∀e∈oj.after,Region.binds md e=true->e.on≠i)->oi.apart ops oj=true)->
   i∈Region.ready md ops listed->YieldsIf P ops S oi v a->S w->
   wpAnyL P md ops Q S z fuel (listed.setIfInBounds i true) (a.put oi.dst v) w->wpAnyL P md ops Q S z (fuel+1) listed a w:=by
 intro fuel
 induction fuel with
 |zero=>
  intro listed a w _ hr hy hS H;refine⟨λh=>(by rw[h]at hr;cases hr),λj hj=>?_⟩;by_cases hji:j=i
  ·subst hji;exact hy.wpOp hi hS ⟨λ_=>hS,H⟩
  ·have:=ready_mono hj hji;rw[H.1]at this;cases this
 |succ fuel ih=>
  intro listed a w hfree hr hy hS H;refine⟨λh=>(by rw[h]at hr;cases hr),λj hj=>?_⟩;by_cases hji:j=i
  ·subst hji;exact hy.wpOp hi hS ⟨λ_=>hS,H⟩
  ·obtain⟨hjun,oj,hoj,hall⟩:=mem_ready.1 hj;have hnot:∀e∈oj.after,Region.binds md e=true->e.on≠i:=λe he hb heq=>by
    have h1:=hall e he hb;have h0:=(mem_ready.1 hr).1;rw[heq]at h1;rcases Nat.lt_or_ge i listed.size with h'|h'
    ·simp[h']at h0 h1;rw[h0]at h1;cases h1
    ·simp[Array.getElem?_eq_none h']at h1
   have hjz:j≠z:=λe=>by
    subst e;unfold waits at hz;rw[hoj]at hz;simp only[Array.any_eq_true',Bool.and_eq_true,beq_iff_eq]at hz;obtain⟨e,he,hb,hon⟩:=hz;exact hnot e he hb hon
   have h2:=wpOp_putIf hoj (hfree j oj hoj hji hjun hnot) (λcs b=>hsel i oi cs b hi) (λcs b=>hsel j oj cs b hoj) hQ hy (H.2 j (ready_mono hj hji));have hfree':∀k ok,ops[k]?=some ok->k≠i->(listed.setIfInBounds j true).getD k true=false->
     (∀e∈ok.after,Region.binds md e=true->e.on≠i)->oi.apart ops ok=true:=λk ok hk hki hun hno=>by
    refine hfree k ok hk hki ?_ hno;by_cases hjk:j=k
    ·subst hjk;exact hjun
    ·rw[getD_set_ne true hjk]at hun;exact hun
   refine wpOp_mono (λa' w' h3=>⟨h3.2.1,ih (listed.setIfInBounds j true) a' w' hfree' (ready_mono hr (ap1 hji)) h3.1 (h3.2.1 hjz) ?_⟩) h2;rw[Array.setIfInBounds_comm _ _ hji];exact h3.2.2
theorem Ec{i:Nat}{oi:Oper}{v:Value}{fuel:Nat}{listed:Array Bool}{a:Act}{w:World}(hi:ops[i]?=some oi)(hz:waits md ops z i=true)
 (hs:Region.noSelect ops=true)(hf:Region.free md ops listed i=true)(hr:(Region.ready md ops listed).contains i=true)
 (hQ:∀c a w,Q (.panic c) (a.put oi.dst v) w->Q (.panic c) a w)(hw:Region.wanted oi (yielded ops a.tmps)=true)(hy:∀w,S w->(execOp a.eval oi).run P w=.ok (.value v) w)(hS:S w)
 (h:wpAnyL P md ops Q S z fuel (listed.setIfInBounds i true) (a.put oi.dst v) w):wpAnyL P md ops Q S z (fuel+1) listed a w:=
 wpAnyL_first hi hz (Region.noSelect_spec hs) hQ fuel listed a w (Region.free_spec hi hf) (by simpa using hr) (Or.inl ⟨hw,hy⟩) hS h
theorem Gv{i:Nat}{o:Oper}{fuel:Nat}{listed:Array Bool}{a:Act}{w:World}(hr:Region.ready md ops listed=[i])(ho:ops[i]?=some o)(hw:Region.wanted o (yielded ops a.tmps)=true)
 (h:∀K':Act->World->Prop,Shut (∀a w,(i≠z->S w)->wpAnyL P md ops Q S z fuel (listed.setIfInBounds i true) a w->K' a w)->Oper.wp P o a w K' Q) :
  wpAnyL P md ops Q S z (fuel+1) listed a w:=by
 refine⟨λh0=>(by rw[hr]at h0;cases h0),λj hj=>?_⟩;rw[hr]at hj;obtain rfl:j=i:=by simpa using hj
 refine wpOp_step ho (λK' hK=>?_);rw[af6 hw];exact h K' (λa w hS hW=>hK a w ⟨hS,hW⟩)
theorem jq{listed:Array Bool}{a:Act}{w:World}(hr:Region.ready md ops listed=[])(h:Q .normal a w):∀fuel,wpAnyL P md ops Q S z fuel listed a w
 |0=>⟨hr,h⟩
 |_+1=>⟨λ_=>h,by rw[hr];simp⟩
theorem AA{o:Oper}{a:Act}{w:World}{K:Act->World->Prop}(s x:Operand)(t:TypeId)(hop:o.op=Op.call {callee:=Callee.builtin Builtin.append,args:=#[s,x],argTypes:=#[t,t]})
 (base:Nat)(e:TypeId)(i:TypeInfo)(size:Nat)(h1:P.underlying t=some (.slice e))(h2:P.info? e=some i)(h4:i.size=size)
 (g k cap:Nat)(xs:List Value)(hs:a.eval s=.slice (some ⟨g,0,none⟩) k cap)(hown:w.ownsRow base e size (.slice (some ⟨g,0,none⟩) k cap) k xs)(ad:Addr)(m c:Nat)(news:List Value)(hx:a.eval x=.slice (some ad) m c)(hn:news.length=m*size)
 (hc:∀j u,news[j]?=some u->w.cell? (ad.add j)=some u)(h1c:∀u∈news,u.oneCell'=true)(b1:k+m<=cap)
 (hK:∀w',w'.ownsRow base e size (.slice (some ⟨g,0,none⟩) (k+m) cap) (k+m) (xs++news)->w.grownBy w' (some g)->K (a.put o.dst (.slice (some ⟨g,0,none⟩) (k+m) cap)) w'):Oper.wp P o a w K Q:=by
 obtain⟨w',hrun,r1,r2⟩:=run_append_fits (P:=P) w base t o.type e i size h1 h2 h4 g k cap xs hown ad m c news hn hc h1c b1;unfold Oper.wp;simp[execOp,hop,resolve,invoke,builtin,hs,hx,hrun,Result.andThen];exact hK w' r1 r2
theorem oZ{r n id:Nat}{a:Act}{w:World}(S:World->Prop)(z fuel:Nat)(listed:Array Bool)(hm:P.follows .mixedOrders=true)(hf:ops.size=fuel)(hl:Array.replicate ops.size false=listed)
 (hd:(ops.all λo=>match o.op with|.defer _=>false|_=>true)=true)(hQ:¬LetsOut Q)(h:wpAnyL P .any ops Q S z fuel listed a w.drew):(Code.region id ops true).wpIn (Fence.wide.inRound r) n P Q a w:=
 wpIn_region_draw λt=>by
  simp only[Region.schedule,hm,Bool.true_or,al0];subst hf;subst hl;refine Ba (λi o ho c hc=>?_) hQ _ _ _ (wpAny_sound ops.size t _ a _ (jl _ _ _ _ h));obtain⟨hlt,he⟩:=ad3.1 ho;have:=(Array.all_eq_true.1 hd) i hlt;rw[he,hc]at this;cases this
end
end Go.Proofs.YthcppbmkacbbiabGreat
