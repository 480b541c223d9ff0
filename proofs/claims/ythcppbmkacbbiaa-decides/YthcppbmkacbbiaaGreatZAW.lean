import Derived.Test.YthcppbmkacbbiaaGreatZAT
import Derived.ScopeJumps
set_option linter.unusedSimpArgs false
set_option maxHeartbeats 1000000
set_option maxRecDepth 100000
namespace Go.Proofs.YthcppbmkacbbiaaGreat
open Go.Proofs.Tryz
namespace Sat
abbrev View:Type:=Nat×Bool
abbrev Rule:Type:=List View
abbrev jT:Type:=Bool×Nat×Rule
abbrev cZ:Type:=Nat->Option jT
def right(β:cZ)(v:View):Prop:=∃b,β v.1=some b/\b.1=v.2
def wrong(β:cZ)(v:View):Prop:=∃b,β v.1=some b/\b.1≠v.2
def iK(β:cZ)(k:Nat)(v:View):Prop:=∃b,β v.1=some b/\b.1≠v.2/\b.2.1<k
def keeps(α:Nat->Bool)(r:Rule):Prop:=∃v∈r,α v.1=v.2
structure BInv(ak:List Rule)(β:cZ)(n:Nat):Prop where
 lt:∀x b,β x=some b->b.2.1<n
 inj:∀x y b c,β x=some b->β y=some c->b.2.1=c.2.1->x=y
 Qm:∀x i k r,β x=some (i,k,r)->r≠[]->r∈ak/\(x,i)∈r/\∀u∈r,u≠(x,i)->iK β k u
 free:∀x i k,β x=some (i,k,[])->∀r∈ak,∀j,(∀u∈r,u=(x,j)\/iK β k u)->(x,j)∉r
theorem VA(ak:List Rule):BInv ak (λ_=>none) 0:=
 ⟨λ_ _ h=>by(cases h),λ_ _ _ _ h=>by(cases h),λ_ _ _ _ h=>by(cases h),λ_ _ _ h=>by(cases h)⟩
def add(β:cZ)(x:Nat)(b:jT):cZ:=λy=>if y=x then some b else β y
theorem add_same(β:cZ)(x:Nat)(b:jT):add β x b x=some b:=by simp[add]
theorem dH{β:cZ}{x y:Nat}(b:jT)(h:y≠x):add β x b y=β y:=by simp[add,h]
theorem pV{β:cZ}{x k:Nat}{b:jT}{v:View}(hx:β x=none)(h:iK β k v):iK (add β x b) k v:=by
 obtain⟨c,h1,h2,h3⟩:=h;refine⟨c,?_,h2,h3⟩;rw[dH]
 ·exact h1
 ·rintro rfl;rw[hx]at h1;cases h1
theorem lD{β:cZ}{x k n:Nat}{i:Bool}{r:Rule}{v:View}(hk:k<=n)(h:iK (add β x (i,n,r)) k v):iK β k v:=by
 obtain⟨c,h1,h2,h3⟩:=h;by_cases e:v.1=x
 ·rw[e,add_same]at h1;cases h1;simp at h3;omega
 ·rw[dH _ e]at h1;exact⟨c,h1,h2,h3⟩
theorem BInv.follow{ak:List Rule}{β:cZ}{n:Nat}(h:BInv ak β n){r:Rule}(hr:r∈ak){x:Nat}{i:Bool}(hm:(x,i)∈r)(hx:β x=none)(ho:∀u∈r,u≠(x,i)->wrong β u):BInv ak (add β x (i,n,r)) (n+1):=by
 have hw:∀u,wrong β u->iK β n u:=λu ⟨b,h1,h2⟩=>⟨b,h1,h2,h.lt _ _ h1⟩;refine⟨λy b hy=>?_,λy z b c hy hz e=>?_,λy j k q hy hq=>?_,λy j k hy q hq l hl=>?_⟩
 ·by_cases e:y=x
  ·rw[e,add_same]at hy;cases hy;simp
  ·rw[dH _ e]at hy;have:=h.lt _ _ hy;omega
 ·by_cases e1:y=x<;>by_cases e2:z=x
  ·rw[e1,e2]
  ·rw[e1,add_same]at hy;cases hy;rw[dH _ e2]at hz;have:=h.lt _ _ hz;simp at e;omega
  ·rw[e2,add_same]at hz;cases hz;rw[dH _ e1]at hy;have:=h.lt _ _ hy;simp at e;omega
  ·rw[dH _ e1]at hy;rw[dH _ e2]at hz;exact h.inj _ _ _ _ hy hz e
 ·by_cases e:y=x
  ·subst e;rw[add_same]at hy;cases hy;exact⟨hr,hm,λu hu hne=>pV hx (hw u (ho u hu hne))⟩
  ·rw[dH _ e]at hy;obtain⟨q1,q2,q3⟩:=h.Qm _ _ _ _ hy hq;exact⟨q1,q2,λu hu hne=>pV hx (q3 u hu hne)⟩
 ·by_cases e:y=x
  ·subst e;rw[add_same]at hy;cases hy;cases hm
  ·rw[dH _ e]at hy;have hk:=h.lt _ _ hy;exact h.free _ _ _ hy q hq l (λu hu=>(hl u hu).imp id (lD (by simp at hk;omega)))
def Done(ak:List Rule)(β:cZ):Prop:=∀r∈ak,(∃v∈r,right β v)\/∃u∈r,∃v∈r,u≠v/\β u.1=none/\β v.1=none
theorem BInv.choose{ak:List Rule}{β:cZ}{n:Nat}(h:BInv ak β n)(hd:Done ak β){x:Nat}(i:Bool)(hx:β x=none):BInv ak (add β x (i,n,[])) (n+1):=by
 refine⟨λy b hy=>?_,λy z b c hy hz e=>?_,λy j k q hy hq=>?_,λy j k hy q hq l hl=>?_⟩
 ·by_cases e:y=x
  ·rw[e,add_same]at hy;cases hy;simp
  ·rw[dH _ e]at hy;have:=h.lt _ _ hy;omega
 ·by_cases e1:y=x<;>by_cases e2:z=x
  ·rw[e1,e2]
  ·rw[e1,add_same]at hy;cases hy;rw[dH _ e2]at hz;have:=h.lt _ _ hz;simp at e;omega
  ·rw[e2,add_same]at hz;cases hz;rw[dH _ e1]at hy;have:=h.lt _ _ hy;simp at e;omega
  ·rw[dH _ e1]at hy;rw[dH _ e2]at hz;exact h.inj _ _ _ _ hy hz e
 ·by_cases e:y=x
  ·subst e;rw[add_same]at hy;cases hy;exact absurd rfl hq
  ·rw[dH _ e]at hy;obtain⟨q1,q2,q3⟩:=h.Qm _ _ _ _ hy hq;exact⟨q1,q2,λu hu hne=>pV hx (q3 u hu hne)⟩
 ·by_cases e:y=x
  ·subst e;rw[add_same]at hy;cases hy;intro hm;have hw:∀u∈q,u=(y,l)\/wrong β u:=λu hu=>(hl u hu).imp id (λg=>by
    obtain⟨b,h1,h2,_⟩:=lD (af0 _) g;exact⟨b,h1,h2⟩)
   rcases hd q hq with⟨v,hv,b,h1,h2⟩|⟨u,hu,v,hv,hne,h1,h2⟩
   ·rcases hw v hv with rfl|⟨c,g1,g2⟩
    ·rw[hx]at h1;cases h1
    ·rw[h1]at g1;cases g1;exact g2 h2
   ·rcases hw u hu with rfl|⟨c,g1,_⟩
    ·rcases hw v hv with rfl|⟨c,g1,_⟩
     ·exact hne rfl
     ·rw[h2]at g1;cases g1
    ·rw[h1]at g1;cases g1
  ·rw[dH _ e]at hy;have hk:=h.lt _ _ hy;exact h.free _ _ _ hy q hq l (λu hu=>(hl u hu).imp id (lD (by simp at hk;omega)))
theorem BInv.blame{ak:List Rule}{β:cZ}{n:Nat}(h:BInv ak β n){broken:Rule}(hb:broken∈ak)(hw:∀v∈broken,wrong β v)(S:Nat->Prop)(h0:∀v∈broken,S v.1)
 (hS:∀x i k r,S x->β x=some (i,k,r)->∀u∈r,S u.1)(C:Rule)(hC:∀x i k,S x->β x=some (i,k,[])->(x,!i)∈C)(α:Nat->Bool)(hα:∀r∈ak,keeps α r):keeps α C:=by
 refine ai0 λhn=>?_;have hch:∀x i k,S x->β x=some (i,k,[])->α x=i:=λx i k hs hx=>by
  refine ai0 λhe=>hn ⟨(x,!i),hC x i k hs hx,?_⟩
  show α x=!i
  cases hax:α x<;>cases i<;>simp_all
 have key:∀m x i k r,k<m->S x->β x=some (i,k,r)->α x=i:=by
  intro m
  induction m with
  |zero=>intro x i k r hk;omega
  |succ m ih=>
   intro x i k r hk hs hx;by_cases hr:r=[]
   ·subst hr;exact hch x i k hs hx
   ·obtain⟨q1,q2,q3⟩:=h.Qm _ _ _ _ hx hr;obtain⟨v,hv,ha⟩:=hα r q1;by_cases e:v=(x,i)
    ·subst e;exact ha
    ·obtain⟨⟨ci,ck,cr⟩,g1,g2,g3⟩:=q3 v hv e;have:=ih v.1 ci ck cr (by simp at g3;omega) (hS x i k r hs hx v hv) g1;exact absurd (this.symm.trans ha) g2
 obtain⟨v,hv,ha⟩:=hα broken hb;obtain⟨⟨ci,ck,cr⟩,g1,g2⟩:=hw v hv;have:=key (ck+1) v.1 ci ck cr (by omega) (h0 v hv) g1;exact g2 (this.symm.trans ha)
def before(β:cZ)(k:Nat):cZ:=λx=>match β x with
 |some b=>if b.2.1<k then some b else none
 |none=>none
theorem dK{β:cZ}{k x:Nat}{b:jT}:before β k x=some b↔β x=some b/\b.2.1<k:=by
 unfold before;cases β x with
 |none=>simp
 |some c=>
  simp only;by_cases h:c.2.1<k
  ·rw[af9 h];constructor
   ·rintro h2;cases h2;exact⟨rfl,h⟩
   ·rintro⟨h2,_⟩;exact h2
  ·rw[af6 h];constructor
   ·intro h2;cases h2
   ·rintro⟨h2,h3⟩;cases h2;exact absurd h3 h
theorem jv{β:cZ}{k m:Nat}{v:View}(hm:m<=k):iK (before β k) m v↔iK β m v:=by
 constructor
 ·rintro⟨b,h1,h2,h3⟩;exact⟨b,(dK.1 h1).1,h2,h3⟩
 ·rintro⟨b,h1,h2,h3⟩;exact⟨b,dK.2 ⟨h1,by omega⟩,h2,h3⟩
structure fQ(β:cZ)(C:Rule)(x:Nat)(i:Bool)(k:Nat):Prop where
 top:β x=some (i,k,[])
 mem:(x,!i)∈C
 rest:∀u∈C,u=(x,!i)\/∃j m,β u.1=some (j,m,[])/\u.2=!j/\m<k
theorem BInv.fresh{ak:List Rule}{β:cZ}{n:Nat}(h:BInv ak β n){C:Rule}{x:Nat}{i:Bool}{k:Nat}(hC:fQ β C x i k){r:Rule}(hr:r∈ak)(he:∀v,v∈r↔v∈C):False:=by
 refine h.free x i k hC.top r hr (!i) (λu hu=>?_) ((he _).2 hC.mem);rcases hC.rest u ((he u).1 hu)with e|⟨j,m,h1,h2,h3⟩
 ·exact Or.inl e
 ·exact Or.inr ⟨_,h1,by rw[h2];cases j<;>simp,h3⟩
theorem BInv.back{ak:List Rule}{β:cZ}{n:Nat}(h:BInv ak β n){C:Rule}{x:Nat}{i:Bool}{k:Nat}(hC:fQ β C x i k):BInv (ak++[C]) (before β k) k:=by
 refine⟨λy b hy=>(dK.1 hy).2,λy z b c hy hz e=>h.inj _ _ _ _ (dK.1 hy).1 (dK.1 hz).1 e,λy j m r hy hr=>?_,λy j m hy r hr l hl=>?_⟩
 ·obtain⟨h1,h2⟩:=dK.1 hy;obtain⟨q1,q2,q3⟩:=h.Qm _ _ _ _ h1 hr;exact⟨ak9 _ q1,q2,λu hu hne=>(jv (by simp at h2;omega)).2 (q3 u hu hne)⟩
 ·obtain⟨h1,h2⟩:=dK.1 hy;have hmk:m<k:=h2;rcases ai3.1 hr with hr|hr
  ·exact h.free _ _ _ h1 r hr l (λu hu=>(hl u hu).imp id (jv (by omega)).1)
  ·rw[ah6.1 hr]at hl;exfalso;rcases hl _ hC.mem with e|⟨b,g1,_,g3⟩
   ·have:x=y:=ap7 Prod.fst e;subst this;rw[hC.top]at h1;injection h1 with h1
    injection h1 with _ h1
    injection h1 with h1 _
    omega
   ·obtain⟨g4,g5⟩:=dK.1 g1;have:=hC.top.symm.trans g4;cases this;simp at g3;omega
end Sat
section
open Go
def jA(J:Nat->Act->World->Prop)(Q:Exit->Act->World->Prop):Exit->Act->World->Prop
 |.goto l,a,w=>J l a w
 |e,a,w=>Q e a w
theorem Ci{P:Program}{a:Act}{w:World}{Q:Exit->Act->World->Prop}{c:Code}(J:Nat->Nat->Act->World->Prop)
 (first:c.wp P (jA (λl a w=>∃r,J r l a w) Q) a w)
 (pass:∀r l a w,J r l a w->∃rest,findLabel c l=some rest/\rest.wp P (jA (λl' a' w'=>∃r',r'<r/\J r' l' a' w') Q) a w):(Code.scope c).wp P Q a w:=by
 intro b k cs;have key:∀r l a w,J r l a w->∃rest e a' w',findLabel c l=some rest/\Q e a' w'/\Arrives P (lone (b.at a (.code rest::.inScope c::k)) cs w) b k cs e a' w':=by
  intro r
  induction r using Nat.strongRecOn with
  |_ r ih=>
   intro l a w hJ;obtain⟨rest,hf,hp⟩:=pass r l a w hJ;obtain⟨e,a1,w1,hq,harr⟩:=hp b (.inScope c::k) cs;cases e with
   |normal=>exact⟨rest,.normal,a1,w1,hf,hq,Steps.trans harr (.one step_inScope)⟩
   |exit id=>exact⟨rest,.exit id,a1,w1,hf,hq,λk' hk=>harr k' (by simp[exitTo,hk])⟩
   |goto l'=>
    obtain⟨r',hlt,hJ'⟩:=hq;obtain⟨Rx,e2,a2,w2,hf2,hq2,Ui⟩:=ih r' hlt l' a1 w1 hJ';have hg:gotoIn l' (.inScope c::k)=some (.code Rx::.inScope c::k):=(by simp[gotoIn,hf2]);exact⟨rest,e2,a2,w2,hf,hq2,.of_steps (harr _ hg) Ui⟩
   |ret=>exact⟨rest,_,a1,w1,hf,hq,harr⟩
   |panic ch=>exact⟨rest,_,a1,w1,hf,hq,harr⟩
   |outgrown=>exact⟨rest,_,a1,w1,hf,hq,harr⟩
 obtain⟨e,a1,w1,hq,harr⟩:=first b (.inScope c::k) cs
 cases e with
 |normal=>exact⟨.normal,a1,w1,hq,.head step_scope (Steps.trans harr (.one step_inScope))⟩
 |exit id=>exact⟨.exit id,a1,w1,hq,λk' hk=>.head step_scope (harr k' (by simp[exitTo,hk]))⟩
 |goto l'=>
  obtain⟨r,hJ⟩:=hq;obtain⟨Rx,e2,a2,w2,hf2,hq2,Ui⟩:=key r l' a1 w1 hJ;have hg:gotoIn l' (.inScope c::k)=some (.code Rx::.inScope c::k):=by simp[gotoIn,hf2]
  exact⟨e2,a2,w2,hq2,.of_steps (.head step_scope (harr _ hg)) Ui⟩
 |ret=>exact⟨_,a1,w1,hq,.of_steps (.one step_scope) harr⟩
 |panic ch=>exact⟨_,a1,w1,hq,.of_steps (.one step_scope) harr⟩
 |outgrown=>exact⟨_,a1,w1,hq,.of_steps (.one step_scope) harr⟩
theorem zi{P:Program}{a:Act}{w:World}{Q:Exit->Act->World->Prop}{c c0 c1 c2:Code}(J:Nat->Nat->Act->World->Prop)(h0:findLabel c 0=some (.seq .skip c0))(h1:findLabel c 1=some (.seq .skip c1))(h2:findLabel c 2=some (.seq .skip c2))
 (only:∀r l a w,J r l a w->l=0\/l=1\/l=2)
 (p2:∀r a w,J r 2 a w->c2.wp P (jA (λl' a' w'=>∃r',r'<r/\J r' l' a' w') Q) a w)
 (p1:∀r a w,J r 1 a w->c1.wp P (jA (λl' a' w'=>∃r',r'<r/\J r' l' a' w') Q) a w)
 (p0:(∀r a w,J r 1 a w->c1.wp P (jA (λl' a' w'=>∃r',r'<r/\J r' l' a' w') Q) a w)->∀r a w,J r 0 a w->c0.wp P (jA (λl' a' w'=>∃r',r'<r/\J r' l' a' w') Q) a w)
 (first:(∀r a w,J r 0 a w->c0.wp P (jA (λl' a' w'=>∃r',r'<r/\J r' l' a' w') Q) a w)->c.wp P (jA (λl a w=>∃r,J r l a w) Q) a w):(Code.scope c).wp P Q a w:=by
 refine Ci J (first (p0 p1)) (λr l a w h=>?_);rcases only r l a w h with e|e|e
 ·subst e;exact⟨_,h0,wp_seq (wp_skip (p0 p1 r a w h))⟩
 ·subst e;exact⟨_,h1,wp_seq (wp_skip (p1 r a w h))⟩
 ·subst e;exact⟨_,h2,wp_seq (wp_skip (p2 r a w h))⟩
theorem vg{J J':Nat->Act->World->Prop}{Q:Exit->Act->World->Prop}(h:∀l a w,J l a w->J' l a w):∀e a w,jA J Q e a w->jA J' Q e a w:=by
 intro e a w hj;cases e<;>first|exact h _ _ _ hj|exact hj
end
section
open Go.RowKit Go.Maps Go.WideMaps
open Sat (View Rule jT cZ)
structure But(S:Nat->Prop)(w w':World):Prop where
 os:w'.os=w.os
 tape:w'.tape=w.tape
 output:w'.output=w.output
 size:w.heap.size<=w'.heap.size
 block:∀k,k<w.heap.size->¬S k->w'.heap[k]?=w.heap[k]?
theorem But.refl(S:Nat->Prop)(w:World):But S w w:=⟨rfl,rfl,rfl,af0 _,λ_ _ _=>rfl⟩
theorem But.trans{S:Nat->Prop}{a b c:World}(h:But S a b)(k:But S b c):But S a c:=
 ⟨k.os.trans h.os,k.tape.trans h.tape,k.output.trans h.output,ah2 h.size k.size,λi hi hn=>(k.block i (ah4 hi h.size) hn).trans (h.block i hi hn)⟩
theorem But.mono{S T:Nat->Prop}{a b:World}(h:But S a b)(hS:∀k,k<a.heap.size->S k->T k):But T a b:=
 ⟨h.os,h.tape,h.output,h.size,λk hk hn=>h.block k hk (λe=>hn (hS k hk e))⟩
theorem But.aB{row:Option Nat}{a b:World}(h:a.grownBy b row):But (λk=>some k=row) a b:=
 ⟨h.os,h.tape,h.output,h.size,λk hk hn=>h.block k hk hn⟩
theorem But.of_below{a b:World}(h:Below a.heap.size a b)(S:Nat->Prop):But S a b:=
 ⟨h.os,h.tape,h.output,h.size,λk hk _=>h.block k hk⟩
theorem But.below{S:Nat->Prop}{a b:World}(h:But S a b){n:Nat}(hn:n<=a.heap.size)(hS:∀k,k<n->¬S k):Below n a b:=
 ⟨h.os,h.tape,h.output,h.size,λk hk=>h.block k (by omega) (hS k hk)⟩
theorem But.then{S T:Nat->Prop}{a b c:World}(h:But S a b)(k:But T b c)(hT:∀i,i<a.heap.size->T i->S i):But S a c:=
 ⟨k.os.trans h.os,k.tape.trans h.tape,k.output.trans h.output,ah2 h.size k.size,λi hi hn=>(k.block i (ah4 hi h.size) (λe=>hn (hT i hi e))).trans (h.block i hi hn)⟩
def bg(w:World)(v:Value)(r:Rule):Prop:=
 (r=[]/\v=.slice none 0 0)\/∃g cap cur x,v=.slice (some ⟨g,0,none⟩) r.length cap/\w.heap[g]?=some (.cells cur 214 x)/\r≠[]/\
  ∀i (hi:i<r.length),cur[i*2]?=some (.int .i64 r[i].1)/\cur[i*2+1]?=some (.bool r[i].2)
def kH(w:World)(k:Nat):Prop:=∀cur x,w.heap[k]?≠some (.cells cur 214 x)
theorem bg.but{S:Nat->Prop}{w w':World}{v:Value}{r:Rule}(h:bg w v r)(hb:But S w w')(hS:∀k,S k->kH w k):bg w' v r:=by
 rcases h with h|⟨g,cap,cur,x,h1,h2,h3⟩
 ·exact Or.inl h
 ·have hlt:g<w.heap.size:=(ae8.1 h2).1;exact Or.inr ⟨g,cap,cur,x,h1,(hb.block g hlt (λe=>hS g e cur x h2)).trans h2,h3⟩
theorem bg.len{w:World}{v:Value}{r:Rule}(h:bg w v r):∃p cap,v=.slice p r.length cap:=by
 rcases h with⟨rfl,rfl⟩|⟨g,cap,cur,x,h1,h2,h3⟩
 ·exact⟨_,_,rfl⟩
 ·exact⟨_,_,h1⟩
def o9(w:World)(b:Nat)(U:Nat)(rv ov:Value)(tp:List UInt8)(m:Option Nat):Prop:=
 w.heap[b]?=some (.cells #[.int .i64 U,rv,ov,.string ⟨tp.toArray⟩,.map m] 169 (0,0))
theorem o9.lt{w:World}{b U:Nat}{rv ov:Value}{tp:List UInt8}{m:Option Nat}(h:o9 w b U rv ov tp m):b<w.heap.size:=(ae8.1 h).1
theorem o9.kept{w w':World}{b U:Nat}{rv ov:Value}{tp:List UInt8}{m:Option Nat}(h:o9 w b U rv ov tp m)(hb:w'.heap[b]?=w.heap[b]?):o9 w' b U rv ov tp m:=hb.trans h
theorem o9.pz{w:World}{b U:Nat}{rv ov:Value}{tp:List UInt8}{m:Option Nat}(h:o9 w b U rv ov tp m):kH w b:=by
 intro cur y e;have q:=h.symm.trans e;simp at q
theorem cell_of{w:World}{b:Nat}{cur:Array Value}{t:TypeId}{x:Nat×Nat}(h:w.heap[b]?=some (.cells cur t x))(i:Nat):w.cell? ⟨b,i,none⟩=cur[i]?:=by
 simp[World.cell?,h]
theorem o9.cells{w:World}{b U:Nat}{rv ov:Value}{tp:List UInt8}{m:Option Nat}(h:o9 w b U rv ov tp m) :
  w.cell? ⟨b,0,none⟩=some (.int .i64 U)/\w.cell? ⟨b,1,none⟩=some rv/\w.cell? ⟨b,2,none⟩=some ov/\w.cell? ⟨b,3,none⟩=some (.string ⟨tp.toArray⟩)/\w.cell? ⟨b,4,none⟩=some (.map m):=by
 refine⟨?_,?_,?_,?_,?_⟩<;>(rw[cell_of h];rfl)
theorem o9.thaw{w:World}{b U:Nat}{rv ov:Value}{tp:List UInt8}{m:Option Nat}(h:o9 w b U rv ov tp m)(i:Nat):w.frozen? ⟨b,i,none⟩=false:=by
 unfold o9 at h;simp[World.frozen?,h]
theorem o9.mk{w:World}{b U:Nat}{rv ov:Value}{tp:List UInt8}{m:Option Nat}(h:w.heap[b]?=some (.cells #[.int .i64 U,rv,ov,.string ⟨tp.toArray⟩,.map m] 169 (0,0))):o9 w b U rv ov tp m:=h
theorem o9.out{w:World}{b U:Nat}{rv ov:Value}{tp:List UInt8}{m:Option Nat}(h:o9 w b U rv ov tp m):w.heap[b]?=some (.cells #[.int .i64 U,rv,ov,.string ⟨tp.toArray⟩,.map m] 169 (0,0)):=h
theorem But.setCell{S:Nat->Prop}{a b:World}(h:But S a b){p:Addr}(hp:p.block<a.heap.size->S p.block)(u:Value):But S a (b.setCell p u):=
 ⟨h.os,h.tape,h.output,ah2 h.size (by simp[World.setCell]),λk hk hn=>by
  have e:k≠p.block:=λe=>hn (by subst e;exact hp hk);rw[ag6 _ _ _ _ e];exact h.block k hk hn⟩
theorem hsQ{w:World}{b i:Nat}{cur:Array Value}{t:TypeId}{x:Nat×Nat}{u:Value}(h:w.heap[b]?=some (.cells cur t x)):(w.setCell ⟨b,i,none⟩ u).heap[b]?=some (.cells (cur.setIfInBounds i u) t x):=by
 simp[World.setCell,ar5,h]
def dg:List UInt8->Nat
 |[]=>0
 |c::_=>c.toNat-48
def yG(tp:List UInt8):Prop:=∀c∈tp,48<=c.toNat/\c.toNat<=57
theorem DW(w:World)(b U:Nat)(rv ov:Value)(tp:List UInt8)(m:Option Nat)(h:o9 w b U rv ov tp m)(hd:yG tp) :
  Calls prog 136 #[.pointer (some ⟨b,0,none⟩)] w λe w'=>e=.returned (.int .i64 (dg tp))/\o9 w' b U rv ov tp.tail m/\But (λk=>k=b) w w':=by
 obtain⟨c0,c1,c2,c3,c4⟩:=h.cells;have H:=aj h;have hz:=h.thaw 3;clear h;cases tp with
 |nil=>
  go_enter func136,ntmps136
  go_wp2_with fail
  go_ret
  exact⟨rfl,ah H,But.refl _ _⟩
 |cons c tp=>
  go_enter func136,ntmps136
  go_wp2_with fail
  go_ret
  have h:=ah H;refine⟨gJ ?_,?_,But.setCell (S:=λk=>k=b) (But.refl _ _) (λ_=>rfl) _⟩
  ·have:=hd c (by simp)
   show(((c.toNat:Nat):Int)-48)%256=((c.toNat-48:Nat):Int)
   omega
  ·refine o9.mk ?_;rw[hsQ h.out]
   congr 2
   simp only[List.setIfInBounds_toArray,List.set_cons_zero,List.set_cons_succ,List.tail_cons]
   congr 5
   have e:(⟨(c::tp).toArray⟩:ByteArray).extract 1 (tp.length+1)=⟨tp.toArray⟩:=by
    apply ByteArray.ext;simp
   rw[e]
end
section
open au (Key)
def jk(f:Nat->Nat)(l:List (Nat×Nat)):Nat->Nat:=l.foldl (λf p=>oV f p.1 p.2) f
theorem DK(f:Nat->Nat)(l:List (Nat×Nat))(p:Nat×Nat):jk f (l++[p])=oV (jk f l) p.1 p.2:=by
 unfold jk;rw[aq5];rfl
def rts(f:Nat->Nat)(n:Nat):Nat:=(List.range n).countP λi=>decide (f i=i)
def ji(f:Nat->Nat)(n:Nat):Prop:=∀i,i<n->f i<n/\f (f i)=f i
theorem Rw(n:Nat):ji id n:=λ_ h=>⟨h,rfl⟩
theorem ji.oV{f:Nat->Nat}{n:Nat}(h:ji f n){i j:Nat}(hi:i<n):ji (oV f i j) n:=by
 intro k hk;have h1:=h k hk;have h2:=h i hi;unfold Proofs.YthcppbmkacbbiaaGreat.oV;by_cases e:f k=f j
 ·rw[af9 e];refine⟨h2.1,?_⟩;rw[h2.2];by_cases e2:f i=f j
  ·rw[af9 e2]
  ·rw[af6 e2]
 ·rw[af6 e];refine⟨h1.1,?_⟩;rw[h1.2,af6 e]
theorem ji.jk{f:Nat->Nat}{n:Nat}{l:List (Nat×Nat)}:ji f n->(∀p∈l,p.1<n)->ji (jk f l) n:=by
 induction l generalizing f with
 |nil=>intro h _;exact h
 |cons p l ih=>intro h hl;exact ih (h.oV (hl p (by simp))) (λq hq=>hl q (by simp[hq]))
theorem vC(f:Nat->Nat)(i j k:Nat)(h:f k=f j):oV f i j k=f i:=by unfold oV;rw[af9 h]
theorem nJ(f:Nat->Nat)(i j k:Nat)(h:f k≠f j):oV f i j k=f k:=by unfold oV;rw[af6 h]
theorem Xb{f:Nat->Nat}{i j a b:Nat}(h:f a=f b):oV f i j a=oV f i j b:=by unfold oV;rw[h]
theorem Pm(f:Nat->Nat)(i j:Nat):oV f i j i=oV f i j j:=by
 unfold oV;rw[af9 rfl];split<;>rfl
theorem Hl{l:List (Nat×Nat)}:∀{f:Nat->Nat} {a b:Nat},f a=f b->jk f l a=jk f l b:=by
 induction l with
 |nil=>intro f a b h;exact h
 |cons p l ih=>intro f a b h;exact ih (Xb h)
theorem Af{l:List (Nat×Nat)}:∀{f:Nat->Nat} {p:Nat×Nat},p∈l->jk f l p.1=jk f l p.2:=by
 induction l with
 |nil=>intro f p h;cases h
 |cons q l ih=>
  intro f p h;rcases aj8.1 h with e|h
  ·subst e;exact Hl (l:=l) (Pm f p.1 p.2)
  ·exact ih h
structure Eqv(R:Nat->Nat->Prop):Prop where
 refl:∀a,R a a
 symm:∀a b,R a b->R b a
 trans:∀a b c,R a b->R b c->R a c
theorem EO(f:Nat->Nat):Eqv (λa b=>f a=f b):=⟨λ_=>rfl,λ_ _ h=>h.symm,λ_ _ _ h k=>h.trans k⟩
theorem YU{R:Nat->Nat->Prop}(hR:Eqv R){f:Nat->Nat}{n i j:Nat}(hi:i<n)(hj:j<n)(h:∀a b,a<n->b<n->f a=f b->R a b)(hij:R i j):∀a b,a<n->b<n->oV f i j a=oV f i j b->R a b:=by
 intro a b ha hb e;by_cases e1:f a=f j<;>by_cases e2:f b=f j
 ·exact h a b ha hb (e1.trans e2.symm)
 ·rw[vC _ _ _ _ e1,nJ _ _ _ _ e2]at e;exact hR.trans _ _ _ (h a j ha hj e1) (hR.trans _ _ _ (hR.symm _ _ hij) (h i b hi hb e))
 ·rw[nJ _ _ _ _ e1,vC _ _ _ _ e2]at e;exact hR.trans _ _ _ (h a i ha hi e) (hR.trans _ _ _ hij (h j b hj hb e2.symm))
 ·rw[nJ _ _ _ _ e1,nJ _ _ _ _ e2]at e;exact h a b ha hb e
theorem Et{R:Nat->Nat->Prop}(hR:Eqv R){n:Nat}{l:List (Nat×Nat)}:∀{f:Nat->Nat},(∀p∈l,p.1<n/\p.2<n/\R p.1 p.2)->(∀a b,a<n->b<n->f a=f b->R a b)->∀a b,a<n->b<n->jk f l a=jk f l b->R a b:=by
 induction l with
 |nil=>intro f _ h;exact h
 |cons p l ih=>
  intro f hl h;obtain⟨h1,h2,h3⟩:=hl p (by simp);exact ih (λq hq=>hl q (by simp[hq])) (YU hR h1 h2 h h3)
theorem Qd{n:Nat}{p q:Nat->Bool}(hpq:∀i,i<n->p i=true->q i=true){x:Nat}(hx:x<n)(h1:p x=false)(h2:q x=true):(List.range n).countP p+1<=(List.range n).countP q:=by
 induction n with
 |zero=>omega
 |succ n ih=>
  rw[au0,List.countP_append,List.countP_append];by_cases e:x=n
  ·subst e;have hle:(List.range x).countP p<=(List.range x).countP q:=by
    apply List.countP_mono_left;intro i hi;exact hpq i (by have:=aj9.1 hi;omega)
   simp[h1,h2];omega
  ·have:=ih (λi hi=>hpq i (by omega)) (by omega);have hn:=hpq n (by omega);have:([n]:List Nat).countP p<=([n]:List Nat).countP q:=by
    simp only[ar9,List.countP_nil];cases hp:p n
    ·simp
    ·simp[hn hp]
   omega
theorem yL{f:Nat->Nat}{n i j:Nat}(h:ji f n)(hi:i<n)(hj:j<n)(hne:f i≠f j):rts (oV f i j) n+1<=rts f n:=by
 unfold rts;refine Qd (x:=f j) (λk hk e=>?_) (h j hj).1 ?_ ?_
 ·have e:oV f i j k=k:=by simpa using e
  have:f k=k:=by
   by_cases e2:f k=f j
   ·rw[vC _ _ _ _ e2]at e;rw[<-e]at e2;rw[(h i hi).2]at e2;exact absurd e2 hne
   ·rw[nJ _ _ _ _ e2]at e;exact e
  simpa using this
 ·have:oV f i j (f j)≠f j:=by rw[vC _ _ _ _ (h j hj).2];exact hne
  simpa using this
 ·simpa using (h j hj).2
theorem Jk{f:Nat->Nat}{n i j:Nat}(h:ji f n)(hi:i<n)(hj:j<n):rts (oV f i j) n<=rts f n:=by
 by_cases e:f i=f j
 ·rw[qH e];exact af0 _
 ·have:=yL h hi hj e;omega
theorem YJ(f:Nat->Nat)(n:Nat):rts f n<=n:=by
 unfold rts;have:=List.countP_le_length (p:=λi=>decide (f i=i)) (l:=List.range n);simpa using this
def yt(f:Nat->Nat)(ts:List Key):Prop:=∀p∈dJ (mkd f ts) ts.length,f p.1=f p.2
def NK(R:Nat->Nat->Prop)(ts:List Key):Prop:=
 ∀i j (hi:i<ts.length) (hj:j<ts.length),ts[i].1=ts[j].1->R ts[i].2.1 ts[j].2.1->R ts[i].2.2 ts[j].2.2->R i j
theorem lq(f:Nat->Nat)(ts:List Key):yt f ts↔NK (λa b=>f a=f b) ts:=by
 have hA:=uM (mkd f ts) (λi j=>f i=f j) (λ_=>rfl) (λ_ _ e=>e.symm) (λ_ _ _ e1 e2=>e1.trans e2);rw[aZ]at hA;unfold yt;rw[hA];constructor
 ·intro h i j hi hj e1 e2 e3;refine h i j hi hj ?_;simp[mkd,hi,hj,e1,e2,e3]
 ·intro h i j hi hj e;simp only[mkd,ak7,af2 hi,af2 hj,aq2,ak5,as4]at e;exact h i j hi hj e.1 e.2.1 e.2.2
theorem RX{R:Nat->Nat->Prop}{f:Nat->Nat}{ts:List Key}(hR:NK R ts)(ht:∀i (hi:i<ts.length),ts[i].2.1<ts.length/\ts[i].2.2<ts.length)(h:∀a b,a<ts.length->b<ts.length->f a=f b->R a b) :
  ∀p∈dJ (mkd f ts) ts.length,p.1<ts.length/\p.2<ts.length/\R p.1 p.2:=by
 intro p hp;have hm:=(ru (mkd f ts) ts.length (by rw[aZ];exact af0 _) p).1 hp;obtain⟨h1,h2,h3⟩:=hm;have hp1:p.1<ts.length:=by omega
 refine⟨hp1,h1,?_⟩;have e:(mkd f ts)[p.1]'(by rw[aZ];exact hp1)=(mkd f ts)[p.2]'(by rw[aZ];exact h1):=by
  refine(xX (by rw[aZ];exact hp1) (by rw[aZ];exact h1)).1 ?_;rw[h2,ab7 _ _ (by rw[aZ];exact h1)]
 simp only[mkd,am8,as4]at e;obtain⟨a1,a2⟩:=ht p.1 hp1;obtain⟨b1,b2⟩:=ht p.2 h1;exact hR p.1 p.2 hp1 h1 e.1 (h _ _ a1 b1 e.2.1) (h _ _ a2 b2 e.2.2)
end
section
open Go.RowKit Go.Maps Go.WideMaps
open au (Key put RT Ce RF RP RQ)
theorem zC{w w':World}{base b e k n:Nat}{v:Value}{xs:List Value}(h:w.ownsRow base e k v n xs)(hb:Below b w w')(hlt:w.heap.size<=b):w'.ownsRow base e k v n xs:=
 h.kept (row:=none) ⟨hb.os,hb.tape,hb.output,hb.size,λj hj _=>hb.block j (ah4 hj hlt)⟩ (by
  cases v<;>first|exact Or.inl rfl|skip
  rename_i p n c;cases p
  ·exact Or.inl rfl
  ·exact Or.inr (by simp[Value.ownBlock]))
theorem kQ{w:World}{base e k n X i:Nat}{v x:Value}{xs:List Value}(h:w.ownsRow base e k v n xs)(hX:X<base):(w.setCell ⟨X,i,none⟩ x).ownsRow base e k v n xs:=by
 have hg:w.grownBy (w.setCell ⟨X,i,none⟩ x) (some X):=⟨rfl,rfl,rfl,by simp[World.setCell],λj _ hj=>ag6 _ _ _ _ (λe=>hj (by rw[e]))⟩;refine h.kept hg ?_;rcases h.2 with⟨rfl,_⟩|⟨g,cap,cur,rfl,hb,_⟩
 ·exact Or.inl rfl
 ·refine Or.inr (λe=>?_);simp only[Value.ownBlock,ak5]at e;omega
section
variable (w:World) (s:ByteArray)
theorem Wu(hs:s.size<=100)(a1:Nat)(ts:List Key)(cs:List (Int×Nat))(ps:List Key)(m:Nat)(HR:Hid (au.jq (pk s) (s.size+1) 0 0 [] [] []=.ok (a1,ts,cs,ps,m)))(heq:a1=s.size)(h7:ts.length<=7)(h4:cs.length<=4)
 (hnT:ts.Nodup)(hnC:cs.Nodup)(hnP:ps.Nodup)(hp:ps.length<=100)(hvT:∀x∈ts,∃l,keyOf prog 87 (bD x)=some l)(hvC:∀x∈cs,∃l,keyOf prog 90 (jG x)=some l)(hvP:∀x∈ps,∃l,keyOf prog 93 (bD x)=some l) :
  Calls prog 30 #[.string s] w λe w'=>∃GT GC GP,e=.returned (.tuple #[fv GT GC GP ts.length cs.length ps.length,.int .i64 0,.int .i64 0])/\Below w.heap.size w w'/\FR w' (w.heap.size+1) GT GC GP ts cs ps:=by
 have hmm:=@av4 prog;have hb:decide ((100:Int)<(s.size:Int))=false:=by simp;omega
 go_enter func30,ntmps30
 go_wp2_with fail
 refine(kE _ _ _ _ s hs (s.size+1) (start w s) 0 0 [] [] [] (by omega) (by omega) (by simp) (by simp) (by simp) (by omega) (uo w s)).mono ?_;rw[ah HR];rintro e w1 ⟨k1,rfl,h1⟩
 go_wp2_with fail
 refine(Nu w1 _ _ _ _ s a1 0 ts cs ps heq h1).mono ?_;rintro e w2 ⟨rfl,h2,k2⟩;have k3:=k1.trans k2;have r0:=fV k3 0;have r1:=fV k3 1;have r2:=fV k3 2;have q0:=dV k3 0;have q1:=dV k3 1;have q2:=dV k3 2;simp at r0 r1 r2;have c4:=h2.c4;have c5:=h2.c5;have c6:=h2.c6;have Xe:=h2.lt;have mt:=aj h2.mt;have mc:=aj h2.mc;have mp:=aj h2.mp;obtain⟨D,hown,hsz,hall,_⟩:=h2.mt;obtain⟨D2,hown2,hsz2,Uj,_⟩:=h2.mc;have qV:=aj hsz;have Z9:=aj hsz2;clear hall Uj hsz hsz2;have hb7:decide ((7:Int)<(Maps.size D:Int))=false:=by rw[ah qV];simp;omega
 have hb4:decide ((4:Int)<(Maps.size D2:Int))=false:=by rw[ah Z9];simp;omega
 have hl2:=λty=>hown2.len underlying78 ty
 go_wp2_with (at_len;refine wpList_len_own _ rfl (.tmp 33) 76 rfl 87 3 underlying76 _ _ ts.length D rfl hown ?_)
 have hsz3:w.heap.size+5<=w2.heap.size:=by have:=k3.size;rw[nV]at this;exact this
 clear hb7 hb4 hl2 hown hown2;refine aj0 (S:=λW'=>W'.cell? ⟨w.heap.size+1+1+1+1,4,none⟩=some (.map (some (w.heap.size+1)))/\W'.cell? ⟨w.heap.size+1+1+1+1,5,none⟩=some (.map (some (w.heap.size+1+1)))/\W'.cell? ⟨w.heap.size+1+1+1+1,6,none⟩=some (.map (some (w.heap.size+1+1+1)))) rfl ?_;have hS0:w2.drew.cell? ⟨w.heap.size+1+1+1+1,4,none⟩=some (.map (some (w.heap.size+1)))/\w2.drew.cell? ⟨w.heap.size+1+1+1+1,5,none⟩=some (.map (some (w.heap.size+1+1)))/\w2.drew.cell? ⟨w.heap.size+1+1+1+1,6,none⟩=some (.map (some (w.heap.size+1+1+1))):=⟨c4,c5,c6⟩;change wpAnyH prog .any _ _ _ 13 #[false,false,false,false,false,false,false,false,false,false,false,false,false] _ w2.drew;refine tH 0 (.pointer (some ⟨w.heap.size+1+1+1+1,4,none⟩)) (λw' hS=>?_) hS0 ?_
 ·obtain⟨s4,s5,s6⟩:=hS;go_simp
 simp only[aG];refine tH 1 (.map (some (w.heap.size+1))) (λw' hS=>?_) hS0 ?_
 ·obtain⟨s4,s5,s6⟩:=hS;go_simp
 simp only[aG];refine tH 3 (.pointer (some ⟨w.heap.size+1+1+1+1,5,none⟩)) (λw' hS=>?_) hS0 ?_
 ·obtain⟨s4,s5,s6⟩:=hS;go_simp
 simp only[aG];refine tH 4 (.map (some (w.heap.size+1+1))) (λw' hS=>?_) hS0 ?_
 ·obtain⟨s4,s5,s6⟩:=hS;go_simp
 simp only[aG];refine tH 6 (.pointer (some ⟨w.heap.size+1+1+1+1,6,none⟩)) (λw' hS=>?_) hS0 ?_
 ·obtain⟨s4,s5,s6⟩:=hS;go_simp
 simp only[aG];refine tH 7 (.map (some (w.heap.size+1+1+1))) (λw' hS=>?_) hS0 ?_
 ·obtain⟨s4,s5,s6⟩:=hS;go_simp
 simp only[aG];refine oH 2 (λK hK=>?_);go_simp;refine(OU (w.heap.size+1) ts _ (by omega) hnT (by exact(ah mt).kept rfl) hvT).mono ?_;rintro e w3 ⟨GT,rfl,hGT,bT,rowT⟩;have hST:w3.cell? ⟨w.heap.size+1+1+1+1,4,none⟩=some (.map (some (w.heap.size+1)))/\w3.cell? ⟨w.heap.size+1+1+1+1,5,none⟩=some (.map (some (w.heap.size+1+1)))/\w3.cell? ⟨w.heap.size+1+1+1+1,6,none⟩=some (.map (some (w.heap.size+1+1+1))):=⟨(bT.cell (p:=⟨w.heap.size+1+1+1+1,4,none⟩) (af5 _ _ hS0.1)).trans hS0.1,(bT.cell (p:=⟨w.heap.size+1+1+1+1,5,none⟩) (af5 _ _ hS0.2.1)).trans hS0.2.1,(bT.cell (p:=⟨w.heap.size+1+1+1+1,6,none⟩) (af5 _ _ hS0.2.2)).trans hS0.2.2⟩;refine hK.out _ _ hST ?_;clear hK K;have mc3:aP w3 90 (w.heap.size+1+1) jG cs:=(ah mc).kept (bT.block _ (ah mc).lt);refine oH 5 (λK hK=>?_);go_simp;refine(OV (w.heap.size+1+1) cs w3 (by omega) hnC mc3 hvC).mono ?_;rintro e w4 ⟨GC,rfl,hGC,bC,YL⟩;have hSC:w4.cell? ⟨w.heap.size+1+1+1+1,4,none⟩=some (.map (some (w.heap.size+1)))/\w4.cell? ⟨w.heap.size+1+1+1+1,5,none⟩=some (.map (some (w.heap.size+1+1)))/\w4.cell? ⟨w.heap.size+1+1+1+1,6,none⟩=some (.map (some (w.heap.size+1+1+1))):=⟨(bC.cell (p:=⟨w.heap.size+1+1+1+1,4,none⟩) (af5 _ _ hST.1)).trans hST.1,(bC.cell (p:=⟨w.heap.size+1+1+1+1,5,none⟩) (af5 _ _ hST.2.1)).trans hST.2.1,(bC.cell (p:=⟨w.heap.size+1+1+1+1,6,none⟩) (af5 _ _ hST.2.2)).trans hST.2.2⟩;refine hK.out _ _ hSC ?_;clear hK K;have mp4:aP w4 93 (w.heap.size+1+1+1) bD ps:=(ah mp).kept ((bC.block _ (ah4 (ah mp).lt bT.size)).trans (bT.block _ (ah mp).lt));refine oH 8 (λK hK=>?_);go_simp;refine(DI (w.heap.size+1+1+1) ps w4 (by omega) hnP mp4 hvP).mono ?_;rintro e w5 ⟨GP,rfl,hGP,bP,rowP⟩;have hSP:w5.cell? ⟨w.heap.size+1+1+1+1,4,none⟩=some (.map (some (w.heap.size+1)))/\w5.cell? ⟨w.heap.size+1+1+1+1,5,none⟩=some (.map (some (w.heap.size+1+1)))/\w5.cell? ⟨w.heap.size+1+1+1+1,6,none⟩=some (.map (some (w.heap.size+1+1+1))):=⟨(bP.cell (p:=⟨w.heap.size+1+1+1+1,4,none⟩) (af5 _ _ hSC.1)).trans hSC.1,(bP.cell (p:=⟨w.heap.size+1+1+1+1,5,none⟩) (af5 _ _ hSC.2.1)).trans hSC.2.1,(bP.cell (p:=⟨w.heap.size+1+1+1+1,6,none⟩) (af5 _ _ hSC.2.2)).trans hSC.2.2⟩;refine hK.out _ _ hSP ?_;clear hK K;have sT:=bT.size;have sC:=bC.size;have sP:=bP.size;have sT':w2.heap.size<=w3.heap.size:=sT;have hb5:Below w2.heap.size w2 w5:=(⟨bT.os,bT.tape,bT.output,bT.size,bT.block⟩:Below w2.heap.size w2 w3).trans ((bC.mono sT').trans (bP.mono (ah2 sT' sC)));have r0':w5.cell? ⟨w.heap.size,0,none⟩=some (.slice none 0 0):=(hb5.cell (p:=⟨w.heap.size,0,none⟩) (by show w.heap.size<w2.heap.size;omega)).trans r0;have r1':w5.cell? ⟨w.heap.size,1,none⟩=some (.slice none 0 0):=(hb5.cell (p:=⟨w.heap.size,1,none⟩) (by show w.heap.size<w2.heap.size;omega)).trans r1;have r2':w5.cell? ⟨w.heap.size,2,none⟩=some (.slice none 0 0):=(hb5.cell (p:=⟨w.heap.size,2,none⟩) (by show w.heap.size<w2.heap.size;omega)).trans r2;have q0':w5.frozen? ⟨w.heap.size,0,none⟩=false:=(aj3 (hb5.block _ (by show w.heap.size<w2.heap.size;omega))).trans q0;have q1':w5.frozen? ⟨w.heap.size,1,none⟩=false:=(aj3 (hb5.block _ (by show w.heap.size<w2.heap.size;omega))).trans q1;have q2':w5.frozen? ⟨w.heap.size,2,none⟩=false:=(aj3 (hb5.block _ (by show w.heap.size<w2.heap.size;omega))).trans q2;refine oH 9 (λK hK=>?_);go_simp;refine hK.out _ _ hSP ?_;clear hK K;refine oH 10 (λK hK=>?_);go_simp;have hSF:∀(a b c:Value),(((w5.setCell ⟨w.heap.size,0,none⟩ a).setCell ⟨w.heap.size,1,none⟩ b).setCell ⟨w.heap.size,2,none⟩ c).cell? ⟨w.heap.size+1+1+1+1,4,none⟩=some (.map (some (w.heap.size+1)))/\
   (((w5.setCell ⟨w.heap.size,0,none⟩ a).setCell ⟨w.heap.size,1,none⟩ b).setCell ⟨w.heap.size,2,none⟩ c).cell? ⟨w.heap.size+1+1+1+1,5,none⟩=some (.map (some (w.heap.size+1+1)))/\
   (((w5.setCell ⟨w.heap.size,0,none⟩ a).setCell ⟨w.heap.size,1,none⟩ b).setCell ⟨w.heap.size,2,none⟩ c).cell? ⟨w.heap.size+1+1+1+1,6,none⟩=some (.map (some (w.heap.size+1+1+1))):=λa b c=>by
  have hk:∀(u:World) (i j:Nat) (x:Value),(u.setCell ⟨w.heap.size,i,none⟩ x).cell? ⟨w.heap.size+1+1+1+1,j,none⟩=u.cell? ⟨w.heap.size+1+1+1+1,j,none⟩:=λu i j x=>ag2 (ag6 _ _ _ _ (by show w.heap.size+1+1+1+1≠w.heap.size;omega));simp only[hk];exact hSP
 refine hK.out _ _ (hSF _ _ _) ?_;clear hK K;refine oH 11 (λK hK=>?_);go_simp;refine hK.out _ _ (hSF _ _ _) ?_;clear hK K;refine oH 12 (λK hK=>?_);go_simp;refine hK.out _ _ (hSF _ _ _) (ai8 (by kernel_rfl) ?_ _);clear hK K
 go_wp2_with fail
 have hbw:Below w.heap.size w w5:=(ni k3).trans (hb5.mono (by omega));refine ah7 (v:=.tuple #[fv GT GC GP ts.length cs.length ps.length,.int .i64 0,.int .i64 0]) (by simp[results,results30,go_sem,fv,r0',r1',r2']) rfl ⟨GT,GC,GP,rfl,?_,?_⟩
 ·exact((hbw.setCell (af0 _) _).setCell (af0 _) _).setCell (af0 _) _
 ·have gT:w.heap.size+1<=w2.heap.size:=by omega
  have g3:w.heap.size+1<=w3.heap.size:=by omega
  have g4:w.heap.size+1<=w4.heap.size:=by omega
  refine⟨kQ (kQ (kQ (fE (zC (zC rowT bC (af0 _)) bP (af0 _)) gT) (by omega)) (by omega)) (by omega),
   kQ (kQ (kQ (fE (zC YL bP (af0 _)) g3) (by omega)) (by omega)) (by omega),kQ (kQ (kQ (fE rowP g4) (by omega)) (by omega)) (by omega)⟩
end
theorem zD(w:World)(s:ByteArray)(hs:s.size<=100)(ts:List Key)(cs:List (Int×Nat))(ps:List Key)(m:Nat)(hR:au.jq (pk s) (s.size+1) 0 0 [] [] []=.ok (s.size,ts,cs,ps,m))(h7:ts.length<=7)(h4:cs.length<=4)
 (hi:au.Inv ts)(hic:au.iZ ts cs)(hnc:cs.Nodup)(su:au.bI ts.length cs.length ps)(hp:ps.length<=100) :
  Calls prog 30 #[.string s] w λe w'=>∃GT GC GP,e=.returned (.tuple #[fv GT GC GP ts.length cs.length ps.length,.int .i64 0,.int .i64 0])/\Below w.heap.size w w'/\FR w' (w.heap.size+1) GT GC GP ts cs ps:=
 Wu w s hs s.size ts cs ps m (aj hR) rfl h7 h4 hi.nodup hnc su.nd hp (Xa hi h7) (Qg hic h7) (OB su (by omega) (by omega) (by omega))
theorem RD(w:World)(s:ByteArray)(hm:s.size<=maxLen) :
  Calls prog 30 #[.string s] w λe w'=>(∃p0 n0 c0 p1 n1 c1 p2 n2 c2,e=.returned (.tuple #[.agg #[.slice p0 n0 c0,.slice p1 n1 c1,.slice p2 n2 c2],.int .i64 (chk s).1,.int .i64 (chk s).2]))/\Below w.heap.size w w':=by
 by_cases hs:100<s.size
 ·unfold chk;rw[af9 hs];refine(Ox w s hs hm).mono ?_;rintro e w' ⟨rfl,h⟩;exact⟨⟨_,_,_,_,_,_,_,_,_,rfl⟩,h⟩
 ·have hs':s.size<=100:=by omega
  by_cases h0:(chk s).1=0
  ·obtain⟨ts,cs,ps,hR,h7,h4,hi,hic,_,_,_,hnc,su,_,hp⟩:=l9 s hs' h0;have h1:(chk s).2=0:=by
    unfold chk au.check;rw[af6 hs,<-au.lM (pk s) (s.size+1) 0 0 [] [] [],hR];simp[au.less,show ¬(7<ts.length\/4<cs.length) by omega]
   rw[h0,h1];refine(zD w s hs' ts cs ps _ hR h7 h4 hi hic hnc su hp).mono ?_;rintro e w' ⟨GT,GC,GP,rfl,h,_⟩;exact⟨⟨_,_,_,_,_,_,_,_,_,rfl⟩,h⟩
  ·revert h0;unfold chk;rw[af6 hs];have hok:=au.ou (pk:=pk s) (N:=s.size) (λa h=>dD h) (s.size+1) 0 0 [] [] (by omega);have hls:=au.lM (pk s) (s.size+1) 0 0 [] [] [];unfold au.check;rw[<-hls]at hok ⊢;rcases hR:au.jq (pk s) (s.size+1) 0 0 [] [] []with⟨E,p⟩|⟨a1,ts,cs,ps,m⟩
   ·intro _;refine(RH w s hs' E p (aj hR)).mono ?_;rintro e w' ⟨rfl,h⟩;exact⟨⟨_,_,_,_,_,_,_,_,_,rfl⟩,h⟩
   ·rw[hR]at hok;obtain⟨p1,p2,p3,p4,p5⟩:=hok;simp only[au.less];by_cases h1:a1<s.size
    ·simp only[af9 h1];intro _;refine(Rz w s hs' a1 ts cs ps m (aj hR) h1).mono ?_;rintro e w' ⟨rfl,h⟩;exact⟨⟨_,_,_,_,_,_,_,_,_,rfl⟩,h⟩
    ·simp only[af6 h1];by_cases h2:7<ts.length\/4<cs.length
     ·simp only[af9 h2];intro _;refine(Ov w s hs' a1 ts cs ps m (aj hR) (by omega) h2).mono ?_;rintro e w' ⟨rfl,h⟩;exact⟨⟨_,_,_,_,_,_,_,_,_,rfl⟩,h⟩
     ·simp only[af6 h2];intro h;exact absurd (by simp) h
end
open Go.RowKit
open au (St put)
theorem WX(E:Int)(w:World):Calls prog 36 #[.int .i64 E] w λe w'=>e=.returned (.int .i64 E)/\w'=w:=by
 go_enter func36,ntmps36
 go_wp2_with fail
 go_ret
 exact⟨rfl,rfl⟩
end Go.Proofs.YthcppbmkacbbiaaGreat
