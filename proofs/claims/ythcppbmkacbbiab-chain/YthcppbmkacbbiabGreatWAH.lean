import Derived.Test.YthcppbmkacbbiabGreatWl
import Derived.Test.YthcppbmkacbbiabGreatWAC
import Derived.Test.YthcppbmkacbbiabGreatWAD
import Derived.RangeFuncBox
import Derived.Maps.AppendAt
import Derived.Maps.OwnOps
import Derived.Deep.RegionHeldLaw
set_option linter.unusedSimpArgs false
namespace Go.Proofs.YthcppbmkacbbiabGreat
open Go.Proofs.Tryz
open Go.RowKit Go.Maps Go.WideMaps
section
open aB (Key put)
structure Coll{α:Type}(k:Nat)(kv:α->Value)(ts:List α)(left:Lit->Bool)(ss:List (Fin ts.length)):Prop where
 nd:ss.Nodup
 mem:∀(i:Fin ts.length) (l:Lit),keyOf prog k (kv ts[i])=some l->(i∈ss↔left l=false)
section
variable {α:Type} {k:Nat} {kv:α->Value} {ts:List α} {left:Lit->Bool} {ss:List (Fin ts.length)}
theorem Coll.start(h:∀(i:Fin ts.length) (l:Lit),keyOf prog k (kv ts[i])=some l->left l=true):Coll k kv ts left []:=
 ⟨ap3,λi l hl=>by simp[h i l hl]⟩
theorem Coll.step(K:Keyed prog k)(hinj:∀a b:α,kv a=kv b->a=b)(hnd:ts.Nodup)(h:Coll k kv ts left ss){i:Fin ts.length}{kl:Lit}(hkey:keyOf prog k (kv ts[i])=some kl)(hlk:left kl=true) :
  Coll k kv ts (λz=>left z&&!z.sameKey kl) (ss++[i]):=by
 have hnew:i∉ss:=λhx=>by have:=(h.mem i kl hkey).1 hx;rw[hlk]at this;cases this
 refine⟨an7.2 ⟨h.nd,by simp,λa ha b hb=>by simp at hb;subst hb;exact λe=>hnew (e▸ha)⟩,λj l hl=>?_⟩;by_cases e:j=i
 ·subst e;rw[hl]at hkey;cases hkey;simp[WideAt.sameKey_self (K.key hl)]
 ·have hne:l≠kl:=λe'=>e (by
   subst e';have h1:=hinj _ _ (K.inj hl hkey);rcases Nat.lt_trichotomy j.val i.val with h2|h2|h2
   ·exact absurd h1 (am3.1 hnd j.val i.val j.isLt i.isLt h2)
   ·exact Fin.ext h2
   ·exact absurd h1.symm (am3.1 hnd i.val j.val i.isLt j.isLt h2))
  rw[sameKey_ne hne];simp[h.mem j l hl,e]
theorem Coll.perm(h:Coll k kv ts left ss)(hv:∀x∈ts,∃l,keyOf prog k (kv x)=some l)(hl:∀kl,left kl=false):ss.Perm (List.finRange ts.length):=by
 refine(List.perm_ext_iff_of_nodup h.nd (List.nodup_finRange _)).2 λi=>?_;obtain⟨l,hk⟩:=hv ts[i] (ad8 i.isLt);simp[(h.mem i l hk).2 (hl l),List.mem_finRange]
end
theorem aZ{W W':World}{row:Option Nat}{a:Addr}{v:Value}(h:W.cell? a=some v)(hg:W.grownBy W' row)(hr:∀r,row=some r->∃o:Obj,W.heap[r]?=some o/\o.isCells=false):W'.cell? a=some v:=
 hg.cell h (λe=>by
  obtain⟨o,ho,hc⟩:=hr _ e.symm;obtain⟨o',ho',hc'⟩:=aq6 h;rw[ho]at ho';cases ho';rw[hc]at hc';cases hc')
theorem kT{W W':World}{row:Option Nat}{a:Addr}{v:Value}(h:W.cell? a=some v)(hg:W.grownBy W' row)(hr:∀r,row=some r->∃o:Obj,W.heap[r]?=some o/\o.isCells=false):W'.frozen? a=W.frozen? a:=
 ai1 (hg.block a.block (ad7 W a h) (λe=>by
  obtain⟨o,ho,hc⟩:=hr _ e.symm;obtain⟨o',ho',hc'⟩:=aq6 h;rw[ho]at ho';cases ho';rw[hc]at hc';cases hc'))
theorem jm{W W':World}{row:Option Nat}{base e size n:Nat}{v:Value}{xs:List Value}(h:W.ownsRow base e size v n xs)(hg:W.grownBy W' row)(hr:∀r,row=some r->∃o:Obj,W.heap[r]?=some o/\o.isCells=false):W'.ownsRow base e size v n xs:=by
 refine h.kept hg ?_;rcases h.2 with⟨rfl,_⟩|⟨g,cap,cur,rfl,_,hgb,_⟩
 ·exact Or.inl rfl
 ·refine Or.inr (λe=>?_);obtain⟨o,ho,hc⟩:=hr g (by rw[<-e];rfl);rw[hgb]at ho;cases ho;cases hc
theorem fK{W:World}{base base' e size n:Nat}{v:Value}{xs:List Value}(h:W.ownsRow base e size v n xs)(hb:base'<=base):W.ownsRow base' e size v n xs:=by
 refine⟨h.1,?_⟩;rcases h.2 with hn|⟨g,cap,cur,hv,hbg,rest⟩
 ·exact .inl hn
 ·exact .inr ⟨g,cap,cur,hv,af7 hb hbg,rest⟩
theorem dL{W:World}{base e size n:Nat}{v:Value}{xs:List Value}(h:W.ownsRow base e size v n xs)(hn:0<n):∃g cap,v=.slice (some ⟨g,0,none⟩) n cap:=by
 rcases h.2 with⟨_,h0⟩|⟨g,cap,cur,rfl,_⟩
 ·omega
 ·exact⟨g,cap,rfl⟩
structure AI(w:World)(X base e k:Nat)(b:Bool)(len:Nat)(cells:List Value)(W:World):Prop where
 x:∃v,W.cell? ⟨X,0,none⟩=some v/\W.ownsRow base e k v len cells/\(v=.slice none 0 0↔b=true/\len=0)
 fx:W.frozen? ⟨X,0,none⟩=false
 below:Below w.heap.size w W
theorem AI.keep{w:World}{X base e k:Nat}{b:Bool}{len:Nat}{cells:List Value}{W W':World}{row:Option Nat}{B:Nat}(h:AI w X base e k b len cells W)(hg:W.grownBy W' row)
 (hw:w.heap.size<=B)(hr:∀r,row=some r->B<=r/\∃o:Obj,W.heap[r]?=some o/\o.isCells=false):AI w X base e k b len cells W':=by
 obtain⟨v,hx,hrow,hnil⟩:=h.x;have hr':∀r,row=some r->∃o:Obj,W.heap[r]?=some o/\o.isCells=false:=λr e=>(hr r e).2;refine⟨⟨v,aZ hx hg hr',jm hrow hg hr',hnil⟩,(kT hx hg hr').trans h.fx,ownFrom_below (β:=Unit) (ad5 _) hw () W W' row h.below hg hr⟩
theorem AI.after{w:World}{X base e k:Nat}{b:Bool}{len:Nat}{cells:List Value}{W Wc w3:World}{v:Value}
 (hXb:X<base)(h:AI w X base e k b len cells W)(hv:W.cell? ⟨X,0,none⟩=some v)(hvr:W.ownsRow base e k v len cells)(hg:W.grownBy Wc none)(hg3:Wc.grownBy w3 v.ownBlock) :
  w3.cell? ⟨X,0,none⟩=some v/\w3.frozen? ⟨X,0,none⟩=false:=by
 have hlX:=ad7 W _ hv;have hnX:some X≠v.ownBlock:=λe=>by
  rcases hvr.2 with⟨rfl,_⟩|⟨g,cap,cur,rfl,hb,hgb,_⟩
  ·cases e
  ·simp only[Value.ownBlock,ai4]at e;omega
 have hX3:w3.heap[X]?=W.heap[X]?:=(hg3.block X (af5 hlX hg.size) hnX).trans (hg.block X hlX (by simp));exact⟨(ae5 hX3).trans hv,(ai1 hX3).trans h.fx⟩
theorem AI.close{w:World}{X base e k:Nat}{b:Bool}{len:Nat}{cells news:List Value}{W Wc w3:World}{B:Nat}{a:Act}{v v':Value}{m:Nat}
 (hX:X<B)(hwX:w.heap.size<=X)(hXb:X<base)(h:AI w X base e k b len cells W)(hv:W.cell? ⟨X,0,none⟩=some v)(hvr:W.ownsRow base e k v len cells)(hg:W.grownBy Wc none)
 (hr:w3.ownsRow base e k v' (len+m) (cells++news))(hg3:Wc.grownBy w3 v.ownBlock)(hn:v'=.slice none 0 0↔v=.slice none 0 0/\m=0)(hm:m≠0) :
  fP B KeepsWalks (AI w X base e k b (len+m) (cells++news)) W .normal a (w3.setCell ⟨X,0,none⟩ v'):=by
 have hlX:=ad7 W _ hv;obtain⟨o,ho,hoc⟩:=aq6 hv;have hnb:∀j,v.ownBlock=some j->base<=j/\∃cur:Array Value,W.heap[j]?=some (.cells cur e (0,0)):=by
  intro j hj;rcases hvr.2 with⟨rfl,_⟩|⟨g,cap,cur,rfl,hb,hgb,_⟩
  ·cases hj
  ·cases hj;exact⟨hb,cur,hgb⟩
 have hnX:some X≠v.ownBlock:=λe=>by have:=(hnb X e.symm).1;omega
 have hX3:w3.heap[X]?=W.heap[X]?:=(hg3.block X (af5 hlX hg.size) hnX).trans (hg.block X hlX (by simp));have hc3:w3.cell? ⟨X,0,none⟩=some v:=(ae5 hX3).trans hv;have hf3:w3.frozen? ⟨X,0,none⟩=false:=(ai1 hX3).trans h.fx;have keep:∀(j:Nat) (o:Obj),W.heap[j]?=some o->o.isCells=false->(w3.setCell ⟨X,0,none⟩ v').heap[j]?=some o:=by
  intro j o' hj hc;have hjl:=(ad3.1 hj).1;have hjX:j≠X:=λe=>by subst e;have h1:=hj.symm.trans ho;cases h1;rw[hc]at hoc;cases hoc
  refine(af4 w3 _ _ j hjX).trans ((hg3.block j (af5 hjl hg.size) (λe=>?_)).trans ((hg.block j hjl (by simp)).trans hj));obtain⟨cur,hcur⟩:=(hnb j e.symm).2;have h1:=hj.symm.trans hcur;cases h1;cases hc
 have hsz:W.heap.size<=(w3.setCell ⟨X,0,none⟩ v').heap.size:=by
  have h1:=af7 hg.size hg3.size;simpa[World.setCell]using h1
 refine⟨⟨hsz,λj o _ hj hc=>keep j o hj hc⟩,⟨hsz,λj o hj hw=>keep j o hj (Obj.not_cells_of_walk hw)⟩,⟨⟨v',World.cell?_setCell_same' _ _ _ (by rw[hc3];rfl),?_,?_⟩,by rw[ap4];exact hf3,?_⟩⟩
 ·refine hr.kept (grownBy_setCell' w3 X _) ?_;rcases hr.2 with⟨rfl,_⟩|⟨g,cap,cur,rfl,hb,hgb,_⟩
  ·exact Or.inl rfl
  ·refine Or.inr (λe=>?_);simp only[Value.ownBlock,ai4]at e;omega
 ·rw[hn];constructor
  ·rintro⟨_,e⟩;exact absurd e hm
  ·rintro⟨_,e⟩;omega
 ·have hb:=h.below;refine⟨hg3.os.trans (hg.os.trans hb.os),hg3.tape.trans (hg.tape.trans hb.tape),hg3.output.trans (hg.output.trans hb.output),af7 hb.size hsz,λj hj=>?_⟩;have hjl:=af5 hj hb.size;refine(af4 w3 _ _ j (by show j≠X;omega)).trans ((hg3.block j (af5 hjl hg.size) (λe=>?_)).trans ((hg.block j hjl (by simp)).trans (hb.block j hj)));have:=(hnb j e.symm).1;omega
def iR(k:Key):List Value:=[.int .u8 k.1,.int .i64 k.2.1,.int .i64 k.2.2]
def lH(k:Int×Nat):List Value:=[.int .u8 k.1,.int .i64 k.2]
theorem ET(w:World)(a:Int)(b c:Nat)(t:TypeId):∀j u,(iR (a,b,c))[j]?=some u->(w.alloc (.cells #[.int .u8 a,.int .i64 b,.int .i64 c] t)).cell? ((⟨w.heap.size,0,none⟩:Addr).add j)=some u:=by
 intro j u hj
 match j with
 |0=>simp[iR]at hj;subst hj;simp[Addr.add,go_sem]
 |1=>simp[iR]at hj;subst hj;simp[Addr.add,go_sem]
 |2=>simp[iR]at hj;subst hj;simp[Addr.add,go_sem]
 |j+3=>simp[iR]at hj
theorem Pv(w:World)(a:Int)(b:Nat)(t:TypeId):∀j u,(lH (a,b))[j]?=some u->(w.alloc (.cells #[.int .u8 a,.int .i64 b] t)).cell? ((⟨w.heap.size,0,none⟩:Addr).add j)=some u:=by
 intro j u hj
 match j with
 |0=>simp[lH]at hj;subst hj;simp[Addr.add,go_sem]
 |1=>simp[lH]at hj;subst hj;simp[Addr.add,go_sem]
 |j+2=>simp[lH]at hj
theorem Hy(k:Key):∀u∈iR k,u.oneCell'=true:=by intro u hu;simp[iR]at hu;rcases hu with rfl|rfl|rfl<;>rfl
theorem O6(k:Int×Nat):∀u∈lH k,u.oneCell'=true:=by intro u hu;simp[lH]at hu;rcases hu with rfl|rfl<;>rfl
end
theorem Gw{P:Program}{ops:Array Oper}{Q:Exit->Act->World->Prop}{md:Region.Mode}{S:World->Prop}{i:Nat}{o:Oper}{fuel:Nat}{listed:Array Bool}{a:Act}{w:World}(hr:Region.ready md ops listed=[i])(ho:ops[i]?=some o)(hw:Region.wanted o (yielded ops a.tmps)=true)
 (h:∀K':Act->World->Prop,Shut (∀a w,S w->wpAnyH P md ops Q S fuel (listed.setIfInBounds i true) a w->K' a w)->Oper.wp P o a w K' Q) :
  wpAnyH P md ops Q S (fuel+1) listed a w:=by
 refine⟨λh0=>(by rw[hr]at h0;cases h0),λj hj=>?_⟩;rw[hr]at hj;obtain rfl:j=i:=by simpa using hj
 refine wpOp_step ho (λK' hK=>?_);rw[af6 hw];exact h K' (λa w hS hW=>hK a w ⟨hS,hW⟩)
theorem IV(W:World)(a b c d:Obj):((((W.alloc a).alloc b).alloc c).alloc d).drew=Go.Sort.grow (W.drewN 1) #[a,b,c,d]:=by
 rw[ao9,ao9,ao9,ao9,Go.Sort.drew_grow,Go.Sort.grow_grow,Go.Sort.grow_grow,Go.Sort.drew_grow,Go.Sort.grow_grow];rfl
def eH(a b:Int):Int:=if a<b then -1 else if b<a then 1 else 0
theorem lq(a b:Int)(w:World):Calls prog 102 #[.int .i64 a,.int .i64 b] w λe w'=>e=.returned (.int .i64 (eH a b))/\w'=w:=by
 have e1:(a != a)=false:=by simp
 have e2:(b != b)=false:=by simp
 unfold eH;by_cases h1:a<b
 ·rw[af6 h1]
  go_enter func102,ntmps102
  go_wp2
  go_ret
  exact⟨rfl,rfl⟩
 ·rw[af2 h1];by_cases h2:b<a
  ·rw[af6 h2]
   go_enter func102,ntmps102
   go_wp2
   go_ret
   exact⟨rfl,rfl⟩
  ·rw[af2 h2]
   go_enter func102,ntmps102
   go_wp2
   go_ret
   exact⟨rfl,rfl⟩
theorem aH.look{α:Type}[BEq α][LawfulBEq α]{w:World}{k b:Nat}{kv:α->Value}{ts:List α}(hM:aH w k b kv ts)(K:Keyed prog k){t:TypeId}(ht:prog.underlying t=some (.map k 3)){x:α}(hx:x∈ts){l:Lit}(hl:keyOf prog k (kv x)=some l) :
  (Instr.lookup t (.map (some b)) (kv x) false).run prog w=.ok (.int .i64 (ts.idxOf x)) w:=by
 obtain⟨D,hown,_,hall,_⟩:=hM;obtain⟨c,hrun,hat,_⟩:=hown.lookup_int K ht underlying3 (zeroE w) hl;have h1:=(hall x l hl).2 (by simpa using hx);rw[h1]at hat;simp at hat;rw[hrun,<-hat]
theorem aH.looks{α:Type}[BEq α][LawfulBEq α]{w:World}{k b:Nat}{kv:α->Value}{ts:List α}(hM:aH w k b kv ts)(K:Keyed prog k){t:TypeId}(ht:prog.underlying t=some (.map k 3)){x:α}(hx:x∈ts){l:Lit}(hl:keyOf prog k (kv x)=some l) :
  ∀W',w.grownBy W' none->(Instr.lookup t (.map (some b)) (kv x) false).run prog W'=.ok (.int .i64 (ts.idxOf x)) W':=
 λ_ hg=>(hM.kept (hg.block b hM.lt (by simp))).look K ht hx hl
namespace Sat
abbrev View:Type:=Nat×Bool
abbrev Rule:Type:=List View
abbrev jk:Type:=Bool×Nat×Rule
abbrev bG:Type:=Nat->Option jk
def right(β:bG)(v:View):Prop:=∃b,β v.1=some b/\b.1=v.2
def wrong(β:bG)(v:View):Prop:=∃b,β v.1=some b/\b.1≠v.2
def gK(β:bG)(k:Nat)(v:View):Prop:=∃b,β v.1=some b/\b.1≠v.2/\b.2.1<k
def keeps(α:Nat->Bool)(r:Rule):Prop:=∃v∈r,α v.1=v.2
structure BInv(ak:List Rule)(β:bG)(n:Nat):Prop where
 lt:∀x b,β x=some b->b.2.1<n
 inj:∀x y b c,β x=some b->β y=some c->b.2.1=c.2.1->x=y
 NY:∀x i k r,β x=some (i,k,r)->r≠[]->r∈ak/\(x,i)∈r/\∀u∈r,u≠(x,i)->gK β k u
 free:∀x i k,β x=some (i,k,[])->∀r∈ak,∀j,(∀u∈r,u=(x,j)\/gK β k u)->(x,j)∉r
theorem Si(ak:List Rule):BInv ak (λ_=>none) 0:=
 ⟨λ_ _ h=>by(cases h),λ_ _ _ _ h=>by(cases h),λ_ _ _ _ h=>by(cases h),λ_ _ _ h=>by(cases h)⟩
def add(β:bG)(x:Nat)(b:jk):bG:=λy=>if y=x then some b else β y
theorem add_same(β:bG)(x:Nat)(b:jk):add β x b x=some b:=by simp[add]
theorem bM{β:bG}{x y:Nat}(b:jk)(h:y≠x):add β x b y=β y:=by simp[add,h]
theorem oM{β:bG}{x k:Nat}{b:jk}{v:View}(hx:β x=none)(h:gK β k v):gK (add β x b) k v:=by
 obtain⟨c,h1,h2,h3⟩:=h;refine⟨c,?_,h2,h3⟩;rw[bM]
 ·exact h1
 ·rintro rfl;rw[hx]at h1;cases h1
theorem jX{β:bG}{x k n:Nat}{i:Bool}{r:Rule}{v:View}(hk:k<=n)(h:gK (add β x (i,n,r)) k v):gK β k v:=by
 obtain⟨c,h1,h2,h3⟩:=h;by_cases e:v.1=x
 ·rw[e,add_same]at h1;cases h1;simp at h3;omega
 ·rw[bM _ e]at h1;exact⟨c,h1,h2,h3⟩
theorem BInv.follow{ak:List Rule}{β:bG}{n:Nat}(h:BInv ak β n){r:Rule}(hr:r∈ak){x:Nat}{i:Bool}(hm:(x,i)∈r)(hx:β x=none)(ho:∀u∈r,u≠(x,i)->wrong β u):BInv ak (add β x (i,n,r)) (n+1):=by
 have hw:∀u,wrong β u->gK β n u:=λu ⟨b,h1,h2⟩=>⟨b,h1,h2,h.lt _ _ h1⟩;refine⟨λy b hy=>?_,λy z b c hy hz e=>?_,λy j k q hy hq=>?_,λy j k hy q hq l hl=>?_⟩
 ·by_cases e:y=x
  ·rw[e,add_same]at hy;cases hy;simp
  ·rw[bM _ e]at hy;have:=h.lt _ _ hy;omega
 ·by_cases e1:y=x<;>by_cases e2:z=x
  ·rw[e1,e2]
  ·rw[e1,add_same]at hy;cases hy;rw[bM _ e2]at hz;have:=h.lt _ _ hz;simp at e;omega
  ·rw[e2,add_same]at hz;cases hz;rw[bM _ e1]at hy;have:=h.lt _ _ hy;simp at e;omega
  ·rw[bM _ e1]at hy;rw[bM _ e2]at hz;exact h.inj _ _ _ _ hy hz e
 ·by_cases e:y=x
  ·subst e;rw[add_same]at hy;cases hy;exact⟨hr,hm,λu hu hne=>oM hx (hw u (ho u hu hne))⟩
  ·rw[bM _ e]at hy;obtain⟨q1,q2,q3⟩:=h.NY _ _ _ _ hy hq;exact⟨q1,q2,λu hu hne=>oM hx (q3 u hu hne)⟩
 ·by_cases e:y=x
  ·subst e;rw[add_same]at hy;cases hy;cases hm
  ·rw[bM _ e]at hy;have hk:=h.lt _ _ hy;exact h.free _ _ _ hy q hq l (λu hu=>(hl u hu).imp id (jX (by simp at hk;omega)))
def Done(ak:List Rule)(β:bG):Prop:=∀r∈ak,(∃v∈r,right β v)\/∃u∈r,∃v∈r,u≠v/\β u.1=none/\β v.1=none
theorem BInv.choose{ak:List Rule}{β:bG}{n:Nat}(h:BInv ak β n)(hd:Done ak β){x:Nat}(i:Bool)(hx:β x=none):BInv ak (add β x (i,n,[])) (n+1):=by
 refine⟨λy b hy=>?_,λy z b c hy hz e=>?_,λy j k q hy hq=>?_,λy j k hy q hq l hl=>?_⟩
 ·by_cases e:y=x
  ·rw[e,add_same]at hy;cases hy;simp
  ·rw[bM _ e]at hy;have:=h.lt _ _ hy;omega
 ·by_cases e1:y=x<;>by_cases e2:z=x
  ·rw[e1,e2]
  ·rw[e1,add_same]at hy;cases hy;rw[bM _ e2]at hz;have:=h.lt _ _ hz;simp at e;omega
  ·rw[e2,add_same]at hz;cases hz;rw[bM _ e1]at hy;have:=h.lt _ _ hy;simp at e;omega
  ·rw[bM _ e1]at hy;rw[bM _ e2]at hz;exact h.inj _ _ _ _ hy hz e
 ·by_cases e:y=x
  ·subst e;rw[add_same]at hy;cases hy;exact absurd rfl hq
  ·rw[bM _ e]at hy;obtain⟨q1,q2,q3⟩:=h.NY _ _ _ _ hy hq;exact⟨q1,q2,λu hu hne=>oM hx (q3 u hu hne)⟩
 ·by_cases e:y=x
  ·subst e;rw[add_same]at hy;cases hy;intro hm;have hw:∀u∈q,u=(y,l)\/wrong β u:=λu hu=>(hl u hu).imp id (λg=>by
    obtain⟨b,h1,h2,_⟩:=jX (ad5 _) g;exact⟨b,h1,h2⟩)
   rcases hd q hq with⟨v,hv,b,h1,h2⟩|⟨u,hu,v,hv,hne,h1,h2⟩
   ·rcases hw v hv with rfl|⟨c,g1,g2⟩
    ·rw[hx]at h1;cases h1
    ·rw[h1]at g1;cases g1;exact g2 h2
   ·rcases hw u hu with rfl|⟨c,g1,_⟩
    ·rcases hw v hv with rfl|⟨c,g1,_⟩
     ·exact hne rfl
     ·rw[h2]at g1;cases g1
    ·rw[h1]at g1;cases g1
  ·rw[bM _ e]at hy;have hk:=h.lt _ _ hy;exact h.free _ _ _ hy q hq l (λu hu=>(hl u hu).imp id (jX (by simp at hk;omega)))
theorem BInv.blame{ak:List Rule}{β:bG}{n:Nat}(h:BInv ak β n){broken:Rule}(hb:broken∈ak)(hw:∀v∈broken,wrong β v)(S:Nat->Prop)(h0:∀v∈broken,S v.1)
 (hS:∀x i k r,S x->β x=some (i,k,r)->∀u∈r,S u.1)(C:Rule)(hC:∀x i k,S x->β x=some (i,k,[])->(x,!i)∈C)(α:Nat->Bool)(hα:∀r∈ak,keeps α r):keeps α C:=by
 refine ah3 λhn=>?_;have hch:∀x i k,S x->β x=some (i,k,[])->α x=i:=λx i k hs hx=>by
  refine ah3 λhe=>hn ⟨(x,!i),hC x i k hs hx,?_⟩
  show α x=!i
  cases hax:α x<;>cases i<;>simp_all
 have key:∀m x i k r,k<m->S x->β x=some (i,k,r)->α x=i:=by
  intro m
  induction m with
  |zero=>intro x i k r hk;omega
  |succ m ih=>
   intro x i k r hk hs hx;by_cases hr:r=[]
   ·subst hr;exact hch x i k hs hx
   ·obtain⟨q1,q2,q3⟩:=h.NY _ _ _ _ hx hr;obtain⟨v,hv,ha⟩:=hα r q1;by_cases e:v=(x,i)
    ·subst e;exact ha
    ·obtain⟨⟨ci,ck,cr⟩,g1,g2,g3⟩:=q3 v hv e;have:=ih v.1 ci ck cr (by simp at g3;omega) (hS x i k r hs hx v hv) g1;exact absurd (this.symm.trans ha) g2
 obtain⟨v,hv,ha⟩:=hα broken hb;obtain⟨⟨ci,ck,cr⟩,g1,g2⟩:=hw v hv;have:=key (ck+1) v.1 ci ck cr (by omega) (h0 v hv) g1;exact g2 (this.symm.trans ha)
def before(β:bG)(k:Nat):bG:=λx=>match β x with
 |some b=>if b.2.1<k then some b else none
 |none=>none
theorem bZ{β:bG}{k x:Nat}{b:jk}:before β k x=some b↔β x=some b/\b.2.1<k:=by
 unfold before;cases β x with
 |none=>simp
 |some c=>
  simp only;by_cases h:c.2.1<k
  ·rw[af6 h];constructor
   ·rintro h2;cases h2;exact⟨rfl,h⟩
   ·rintro⟨h2,_⟩;exact h2
  ·rw[af2 h];constructor
   ·intro h2;cases h2
   ·rintro⟨h2,h3⟩;cases h2;exact absurd h3 h
theorem iL{β:bG}{k m:Nat}{v:View}(hm:m<=k):gK (before β k) m v↔gK β m v:=by
 constructor
 ·rintro⟨b,h1,h2,h3⟩;exact⟨b,(bZ.1 h1).1,h2,h3⟩
 ·rintro⟨b,h1,h2,h3⟩;exact⟨b,bZ.2 ⟨h1,by omega⟩,h2,h3⟩
structure eY(β:bG)(C:Rule)(x:Nat)(i:Bool)(k:Nat):Prop where
 top:β x=some (i,k,[])
 mem:(x,!i)∈C
 rest:∀u∈C,u=(x,!i)\/∃j m,β u.1=some (j,m,[])/\u.2=!j/\m<k
theorem BInv.fresh{ak:List Rule}{β:bG}{n:Nat}(h:BInv ak β n){C:Rule}{x:Nat}{i:Bool}{k:Nat}(hC:eY β C x i k){r:Rule}(hr:r∈ak)(he:∀v,v∈r↔v∈C):False:=by
 refine h.free x i k hC.top r hr (!i) (λu hu=>?_) ((he _).2 hC.mem);rcases hC.rest u ((he u).1 hu)with e|⟨j,m,h1,h2,h3⟩
 ·exact Or.inl e
 ·exact Or.inr ⟨_,h1,by rw[h2];cases j<;>simp,h3⟩
theorem BInv.back{ak:List Rule}{β:bG}{n:Nat}(h:BInv ak β n){C:Rule}{x:Nat}{i:Bool}{k:Nat}(hC:eY β C x i k):BInv (ak++[C]) (before β k) k:=by
 refine⟨λy b hy=>(bZ.1 hy).2,λy z b c hy hz e=>h.inj _ _ _ _ (bZ.1 hy).1 (bZ.1 hz).1 e,λy j m r hy hr=>?_,λy j m hy r hr l hl=>?_⟩
 ·obtain⟨h1,h2⟩:=bZ.1 hy;obtain⟨q1,q2,q3⟩:=h.NY _ _ _ _ h1 hr;exact⟨ai5 _ q1,q2,λu hu hne=>(iL (by simp at h2;omega)).2 (q3 u hu hne)⟩
 ·obtain⟨h1,h2⟩:=bZ.1 hy;have hmk:m<k:=h2;rcases ag9.1 hr with hr|hr
  ·exact h.free _ _ _ h1 r hr l (λu hu=>(hl u hu).imp id (iL (by omega)).1)
  ·rw[ag0.1 hr]at hl;exfalso;rcases hl _ hC.mem with e|⟨b,g1,_,g3⟩
   ·have:x=y:=ao1 Prod.fst e;subst this;rw[hC.top]at h1;injection h1 with h1
    injection h1 with _ h1
    injection h1 with h1 _
    omega
   ·obtain⟨g4,g5⟩:=bZ.1 g1;have:=hC.top.symm.trans g4;cases this;simp at g3;omega
end Sat
namespace aB
structure St where
 a:Nat
 d:Nat
 E:Int
 T:List (List UInt8)
 C:List (List UInt8)
def nR(pk:Nat->Int)(σ:St)(c:Int):Bool:=decide (σ.E=0)&&decide (pk σ.a=c)
def kF(pk:Nat->Int)(l:List Int)(σ:St):St×Int:=
 if σ.E=0 then
  if l.contains (pk σ.a)then({σ with a:=σ.a+1},pk σ.a)else({σ with E:=2},0)
 else(σ,0)
def sV(pk:Nat->Int)(σ:St):St:=if nR pk σ 40=true/\σ.d=8 then {σ with E:=3}else σ
def rUp(σ:St):St:={σ with d:=σ.d+1}
def Yk(σ:St):St:={σ with d:=σ.d-1}
def kE(pk:Nat->Int)(σ:St):St:=rUp (kF pk [40] (sV pk σ)).1
def kD(pk:Nat->Int)(σ:St):St:=Yk (kF pk [41] σ).1
def cut(l:List UInt8)(x y:Nat):List UInt8:=(l.drop x).take (y-x)
def letters:List Int:=[97,98,99,100,101,102,103]
def kG(l:List UInt8)(x:Nat)(σ:St):St×Nat:=
 if σ.E=0 then({σ with T:=put σ.T (cut l x σ.a)},σ.T.idxOf (cut l x σ.a))else(σ,0)
def Oc(pk:Nat->Int)(rec:St->St)(c:Int)(σ:St):St:=
 if c=102 then kD pk (rec (kE pk σ))
 else if c=103 then kD pk (rec (kF pk [44] (rec (kE pk σ))).1)
 else σ
def fC(l:List UInt8)(pk:Nat->Int):Nat->St->St×Nat
 |0,σ=>(σ,0)
 |n+1,σ=>kG l σ.a (Oc pk (λτ=>(fC l pk n τ).1) (kF pk letters σ).2 (kF pk letters σ).1)
def rD(l:List UInt8)(x:Nat)(σ:St):St:=
 if σ.E=0 then {σ with C:=put σ.C (cut l x σ.a)}else σ
def fM(l:List UInt8)(pk:Nat->Int):Nat->St->St
 |0,σ=>σ
 |n+1,σ=>
  if nR pk σ 33=true then fM l pk n {σ with a:=σ.a+1}
  else if (nR pk σ 80||nR pk σ 81)=true then
   rD l σ.a (kD pk (fC l pk (n+1) (kE pk {σ with a:=σ.a+1})).1)
  else if nR pk σ 40=true then
   kD pk (fM l pk n (kF pk [38,124,62,45] (fM l pk n (kE pk σ))).1)
  else(fC l pk (n+1) (kF pk [61] (fC l pk (n+1) σ).1).1).1
end aB
end Go.Proofs.YthcppbmkacbbiabGreat
