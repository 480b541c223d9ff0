import Derived.Test.YthcppbmkacbbiaaGreatXl
import Derived.Test.YthcppbmkacbbiaaGreatXAC
import Derived.Test.YthcppbmkacbbiaaGreatXAD
import Derived.Test.YthcppbmkacbbiaaGreatSrt
import Derived.RangeFuncBox
import Derived.Maps.OwnOps
import Derived.Deep.RegionHeldLaw
set_option linter.unusedSimpArgs false
namespace Go.Proofs.YthcppbmkacbbiaaGreat
open Go.Proofs.Tryz
namespace aB
structure St where
 a:Nat
 d:Nat
 E:Int
 T:List (List UInt8)
 C:List (List UInt8)
def nI(pk:Nat->Int)(σ:St)(c:Int):Bool:=decide (σ.E=0)&&decide (pk σ.a=c)
def jX(pk:Nat->Int)(l:List Int)(σ:St):St×Int:=
 if σ.E=0 then
  if l.contains (pk σ.a)then({σ with a:=σ.a+1},pk σ.a)else({σ with E:=2},0)
 else(σ,0)
def rY(pk:Nat->Int)(σ:St):St:=if nI pk σ 40=true/\σ.d=8 then {σ with E:=3}else σ
def Zk(σ:St):St:={σ with d:=σ.d+1}
def Xe(σ:St):St:={σ with d:=σ.d-1}
def jW(pk:Nat->Int)(σ:St):St:=Zk (jX pk [40] (rY pk σ)).1
def jV(pk:Nat->Int)(σ:St):St:=Xe (jX pk [41] σ).1
def cut(l:List UInt8)(x y:Nat):List UInt8:=(l.drop x).take (y-x)
def letters:List Int:=[97,98,99,100,101,102,103]
def jY(l:List UInt8)(x:Nat)(σ:St):St×Nat:=
 if σ.E=0 then({σ with T:=put σ.T (cut l x σ.a)},σ.T.idxOf (cut l x σ.a))else(σ,0)
def Nk(pk:Nat->Int)(rec:St->St)(c:Int)(σ:St):St:=
 if c=102 then jV pk (rec (jW pk σ))
 else if c=103 then jV pk (rec (jX pk [44] (rec (jW pk σ))).1)
 else σ
def eY(l:List UInt8)(pk:Nat->Int):Nat->St->St×Nat
 |0,σ=>(σ,0)
 |n+1,σ=>jY l σ.a (Nk pk (λτ=>(eY l pk n τ).1) (jX pk letters σ).2 (jX pk letters σ).1)
def qV(l:List UInt8)(x:Nat)(σ:St):St:=
 if σ.E=0 then {σ with C:=put σ.C (cut l x σ.a)}else σ
def fJ(l:List UInt8)(pk:Nat->Int):Nat->St->St
 |0,σ=>σ
 |n+1,σ=>
  if nI pk σ 33=true then fJ l pk n {σ with a:=σ.a+1}
  else if (nI pk σ 80||nI pk σ 81)=true then
   qV l σ.a (jV pk (eY l pk (n+1) (jW pk {σ with a:=σ.a+1})).1)
  else if nI pk σ 40=true then
   jV pk (fJ l pk n (jX pk [38,124,62,45] (fJ l pk n (jW pk σ))).1)
  else(eY l pk (n+1) (jX pk [61] (eY l pk (n+1) σ).1).1).1
end aB
section
open Go.RowKit Go.Maps Go.WideMaps
open aB (Key put)
structure Coll{α:Type}(k:Nat)(kv:α->Value)(ts:List α)(left:Lit->Bool)(ss:List (Fin ts.length)):Prop where
 nd:ss.Nodup
 mem:∀(i:Fin ts.length) (l:Lit),keyOf prog k (kv ts[i])=some l->(i∈ss↔left l=false)
section
variable {α:Type} {k:Nat} {kv:α->Value} {ts:List α} {left:Lit->Bool} {ss:List (Fin ts.length)}
theorem Coll.start(h:∀(i:Fin ts.length) (l:Lit),keyOf prog k (kv ts[i])=some l->left l=true):Coll k kv ts left []:=
 ⟨aj2,λi l hl=>by simp[h i l hl]⟩
theorem Coll.step(K:Keyed prog k)(hinj:∀a b:α,kv a=kv b->a=b)(hnd:ts.Nodup)(h:Coll k kv ts left ss){i:Fin ts.length}{kl:Lit}(hkey:keyOf prog k (kv ts[i])=some kl)(hlk:left kl=true) :
  Coll k kv ts (λz=>left z&&!z.sameKey kl) (ss++[i]):=by
 have hnew:i∉ss:=λhx=>by have:=(h.mem i kl hkey).1 hx;rw[hlk]at this;cases this
 refine⟨al4.2 ⟨h.nd,by simp,λa ha b hb=>by simp at hb;subst hb;exact λe=>hnew (e▸ha)⟩,λj l hl=>?_⟩;by_cases e:j=i
 ·subst e;rw[hl]at hkey;cases hkey;simp[WideAt.sameKey_self (K.key hl)]
 ·have hne:l≠kl:=λe'=>e (by
   subst e';have h1:=hinj _ _ (K.inj hl hkey);rcases Nat.lt_trichotomy j.val i.val with h2|h2|h2
   ·exact absurd h1 (ak0.1 hnd j.val i.val j.isLt i.isLt h2)
   ·exact Fin.ext h2
   ·exact absurd h1.symm (ak0.1 hnd i.val j.val i.isLt j.isLt h2))
  rw[sameKey_ne hne];simp[h.mem j l hl,e]
theorem Coll.perm(h:Coll k kv ts left ss)(hv:∀x∈ts,∃l,keyOf prog k (kv x)=some l)(hl:∀kl,left kl=false):ss.Perm (List.finRange ts.length):=by
 refine(List.perm_ext_iff_of_nodup h.nd (List.nodup_finRange _)).2 λi=>?_;obtain⟨l,hk⟩:=hv ts[i] (ab5 i.isLt);simp[(h.mem i l hk).2 (hl l),List.mem_finRange]
end
theorem bg{W W':World}{row:Option Nat}{a:Addr}{v:Value}(h:W.cell? a=some v)(hg:W.grownBy W' row)(hr:∀r,row=some r->∃o:Obj,W.heap[r]?=some o/\o.isCells=false):W'.cell? a=some v:=
 hg.cell h (λe=>by
  obtain⟨o,ho,hc⟩:=hr _ e.symm;obtain⟨o',ho',hc'⟩:=cells_of_cell h;rw[ho]at ho';cases ho';rw[hc]at hc';cases hc')
theorem kM{W W':World}{row:Option Nat}{a:Addr}{v:Value}(h:W.cell? a=some v)(hg:W.grownBy W' row)(hr:∀r,row=some r->∃o:Obj,W.heap[r]?=some o/\o.isCells=false):W'.frozen? a=W.frozen? a:=
 ag6 (hg.block a.block (ab6 W a h) (λe=>by
  obtain⟨o,ho,hc⟩:=hr _ e.symm;obtain⟨o',ho',hc'⟩:=cells_of_cell h;rw[ho]at ho';cases ho';rw[hc]at hc';cases hc'))
theorem jh{W W':World}{row:Option Nat}{base e size n:Nat}{v:Value}{xs:List Value}(h:W.ownsRow base e size v n xs)(hg:W.grownBy W' row)(hr:∀r,row=some r->∃o:Obj,W.heap[r]?=some o/\o.isCells=false):W'.ownsRow base e size v n xs:=by
 refine h.kept hg ?_;rcases h.2 with⟨rfl,_⟩|⟨g,cap,cur,rfl,_,hgb,_⟩
 ·exact Or.inl rfl
 ·refine Or.inr (λe=>?_);obtain⟨o,ho,hc⟩:=hr g (by rw[<-e];rfl);rw[hgb]at ho;cases ho;cases hc
theorem fH{W:World}{base base' e size n:Nat}{v:Value}{xs:List Value}(h:W.ownsRow base e size v n xs)(hb:base'<=base):W.ownsRow base' e size v n xs:=by
 refine⟨h.1,?_⟩;rcases h.2 with hn|⟨g,cap,cur,hv,hbg,rest⟩
 ·exact .inl hn
 ·exact .inr ⟨g,cap,cur,hv,ad6 hb hbg,rest⟩
theorem dL{W:World}{base e size n:Nat}{v:Value}{xs:List Value}(h:W.ownsRow base e size v n xs)(hn:0<n):∃g cap,v=.slice (some ⟨g,0,none⟩) n cap:=by
 rcases h.2 with⟨_,h0⟩|⟨g,cap,cur,rfl,_⟩
 ·omega
 ·exact⟨g,cap,rfl⟩
structure AI(w:World)(X base e k:Nat)(b:Bool)(len:Nat)(cells:List Value)(W:World):Prop where
 x:∃v,W.cell? ⟨X,0,none⟩=some v/\W.ownsRow base e k v len cells/\(v=.slice none 0 0↔b=true/\len=0)
 fx:W.frozen? ⟨X,0,none⟩=false
 below:Below w.heap.size w W
theorem AI.keep{w:World}{X base e k:Nat}{b:Bool}{len:Nat}{cells:List Value}{W W':World}{row:Option Nat}{B:Nat}(h:AI w X base e k b len cells W)(hg:W.grownBy W' row)
 (hw:w.heap.size<=B)(hr:∀r,row=some r->B<=r/\∃o:Obj,W.heap[r]?=some o/\o.isCells=false):AI w X base e k b len cells W':=by
 obtain⟨v,hx,hrow,hnil⟩:=h.x;have hr':∀r,row=some r->∃o:Obj,W.heap[r]?=some o/\o.isCells=false:=λr e=>(hr r e).2;refine⟨⟨v,bg hx hg hr',jh hrow hg hr',hnil⟩,(kM hx hg hr').trans h.fx,ownFrom_below (β:=Unit) (ab3 _) hw () W W' row h.below hg hr⟩
theorem AI.after{w:World}{X base e k:Nat}{b:Bool}{len:Nat}{cells:List Value}{W Wc w3:World}{v:Value}
 (hXb:X<base)(h:AI w X base e k b len cells W)(hv:W.cell? ⟨X,0,none⟩=some v)(hvr:W.ownsRow base e k v len cells)(hg:W.grownBy Wc none)(hg3:Wc.grownBy w3 v.ownBlock) :
  w3.cell? ⟨X,0,none⟩=some v/\w3.frozen? ⟨X,0,none⟩=false:=by
 have hlX:=ab6 W _ hv;have hnX:some X≠v.ownBlock:=λe=>by
  rcases hvr.2 with⟨rfl,_⟩|⟨g,cap,cur,rfl,hb,hgb,_⟩
  ·cases e
  ·simp only[Value.ownBlock,ag8]at e;omega
 have hX3:w3.heap[X]?=W.heap[X]?:=(hg3.block X (ac7 hlX hg.size) hnX).trans (hg.block X hlX (by simp));exact⟨(ac8 hX3).trans hv,(ag6 hX3).trans h.fx⟩
theorem AI.close{w:World}{X base e k:Nat}{b:Bool}{len:Nat}{cells news:List Value}{W Wc w3:World}{B:Nat}{a:Act}{v v':Value}{m:Nat}
 (hX:X<B)(hwX:w.heap.size<=X)(hXb:X<base)(h:AI w X base e k b len cells W)(hv:W.cell? ⟨X,0,none⟩=some v)(hvr:W.ownsRow base e k v len cells)(hg:W.grownBy Wc none)
 (hr:w3.ownsRow base e k v' (len+m) (cells++news))(hg3:Wc.grownBy w3 v.ownBlock)(hn:v'=.slice none 0 0↔v=.slice none 0 0/\m=0)(hm:m≠0) :
  iC B KeepsWalks (AI w X base e k b (len+m) (cells++news)) W .normal a (w3.setCell ⟨X,0,none⟩ v'):=by
 have hlX:=ab6 W _ hv;obtain⟨o,ho,hoc⟩:=cells_of_cell hv;have hnb:∀j,v.ownBlock=some j->base<=j/\∃cur:Array Value,W.heap[j]?=some (.cells cur e (0,0)):=by
  intro j hj;rcases hvr.2 with⟨rfl,_⟩|⟨g,cap,cur,rfl,hb,hgb,_⟩
  ·cases hj
  ·cases hj;exact⟨hb,cur,hgb⟩
 have hnX:some X≠v.ownBlock:=λe=>by have:=(hnb X e.symm).1;omega
 have hX3:w3.heap[X]?=W.heap[X]?:=(hg3.block X (ac7 hlX hg.size) hnX).trans (hg.block X hlX (by simp));have hc3:w3.cell? ⟨X,0,none⟩=some v:=(ac8 hX3).trans hv;have hf3:w3.frozen? ⟨X,0,none⟩=false:=(ag6 hX3).trans h.fx;have keep:∀(j:Nat) (o:Obj),W.heap[j]?=some o->o.isCells=false->(w3.setCell ⟨X,0,none⟩ v').heap[j]?=some o:=by
  intro j o' hj hc;have hjl:=(ab1.1 hj).1;have hjX:j≠X:=λe=>by subst e;have h1:=hj.symm.trans ho;cases h1;rw[hc]at hoc;cases hoc
  refine(ad5 w3 _ _ j hjX).trans ((hg3.block j (ac7 hjl hg.size) (λe=>?_)).trans ((hg.block j hjl (by simp)).trans hj));obtain⟨cur,hcur⟩:=(hnb j e.symm).2;have h1:=hj.symm.trans hcur;cases h1;cases hc
 have hsz:W.heap.size<=(w3.setCell ⟨X,0,none⟩ v').heap.size:=by
  have h1:=ad6 hg.size hg3.size;simpa[World.setCell]using h1
 refine⟨⟨hsz,λj o _ hj hc=>keep j o hj hc⟩,⟨hsz,λj o hj hw=>keep j o hj (Obj.not_cells_of_walk hw)⟩,⟨⟨v',World.cell?_setCell_same' _ _ _ (by rw[hc3];rfl),?_,?_⟩,by rw[ao3];exact hf3,?_⟩⟩
 ·refine hr.kept (grownBy_setCell' w3 X _) ?_;rcases hr.2 with⟨rfl,_⟩|⟨g,cap,cur,rfl,hb,hgb,_⟩
  ·exact Or.inl rfl
  ·refine Or.inr (λe=>?_);simp only[Value.ownBlock,ag8]at e;omega
 ·rw[hn];constructor
  ·rintro⟨_,e⟩;exact absurd e hm
  ·rintro⟨_,e⟩;omega
 ·have hb:=h.below;refine⟨hg3.os.trans (hg.os.trans hb.os),hg3.tape.trans (hg.tape.trans hb.tape),hg3.output.trans (hg.output.trans hb.output),ad6 hb.size hsz,λj hj=>?_⟩;have hjl:=ac7 hj hb.size;refine(ad5 w3 _ _ j (by show j≠X;omega)).trans ((hg3.block j (ac7 hjl hg.size) (λe=>?_)).trans ((hg.block j hjl (by simp)).trans (hb.block j hj)));have:=(hnb j e.symm).1;omega
def iR(k:Key):List Value:=[.int .u8 k.1,.int .i64 k.2.1,.int .i64 k.2.2]
def lC(k:Int×Nat):List Value:=[.int .u8 k.1,.int .i64 k.2]
theorem Em(w:World)(a:Int)(b c:Nat)(t:TypeId):∀j u,(iR (a,b,c))[j]?=some u->(w.alloc (.cells #[.int .u8 a,.int .i64 b,.int .i64 c] t)).cell? ((⟨w.heap.size,0,none⟩:Addr).add j)=some u:=by
 intro j u hj
 match j with
 |0=>simp[iR]at hj;subst hj;simp[Addr.add,go_sem]
 |1=>simp[iR]at hj;subst hj;simp[Addr.add,go_sem]
 |2=>simp[iR]at hj;subst hj;simp[Addr.add,go_sem]
 |j+3=>simp[iR]at hj
theorem Ov(w:World)(a:Int)(b:Nat)(t:TypeId):∀j u,(lC (a,b))[j]?=some u->(w.alloc (.cells #[.int .u8 a,.int .i64 b] t)).cell? ((⟨w.heap.size,0,none⟩:Addr).add j)=some u:=by
 intro j u hj
 match j with
 |0=>simp[lC]at hj;subst hj;simp[Addr.add,go_sem]
 |1=>simp[lC]at hj;subst hj;simp[Addr.add,go_sem]
 |j+2=>simp[lC]at hj
theorem Gu(k:Key):∀u∈iR k,u.oneCell'=true:=by intro u hu;simp[iR]at hu;rcases hu with rfl|rfl|rfl<;>rfl
theorem Og(k:Int×Nat):∀u∈lC k,u.oneCell'=true:=by intro u hu;simp[lC]at hu;rcases hu with rfl|rfl<;>rfl
end
section
open Go.RowKit Go.Maps Go.WideMaps
theorem FN{P:Program}{ops:Array Oper}{Q:Exit->Act->World->Prop}{md:Region.Mode}{S:World->Prop}{i:Nat}{o:Oper}{fuel:Nat}{listed:Array Bool}{a:Act}{w:World}(hr:Region.ready md ops listed=[i])(ho:ops[i]?=some o)(hw:Region.wanted o (yielded ops a.tmps)=true)
 (h:∀K':Act->World->Prop,Shut (∀a w,S w->wpAnyH P md ops Q S fuel (listed.setIfInBounds i true) a w->K' a w)->Oper.wp P o a w K' Q) :
  wpAnyH P md ops Q S (fuel+1) listed a w:=by
 refine⟨λh0=>(by rw[hr]at h0;cases h0),λj hj=>?_⟩;rw[hr]at hj;obtain rfl:j=i:=by simpa using hj
 refine wpOp_step ho (λK' hK=>?_);rw[ad3 hw];exact h K' (λa w hS hW=>hK a w ⟨hS,hW⟩)
theorem H7(W:World)(a b c d:Obj):((((W.alloc a).alloc b).alloc c).alloc d).drew=Go.Sort.grow (W.drewN 1) #[a,b,c,d]:=by
 rw[am4,am4,am4,am4,Go.Sort.drew_grow,Go.Sort.grow_grow,Go.Sort.grow_grow,Go.Sort.drew_grow,Go.Sort.grow_grow];rfl
def eu(a b:Int):Int:=if a<b then -1 else if b<a then 1 else 0
theorem kW(a b:Int)(w:World):Calls prog 115 #[.int .i64 a,.int .i64 b] w λe w'=>e=.returned (.int .i64 (eu a b))/\w'=w:=by
 have e1:(a != a)=false:=by simp
 have e2:(b != b)=false:=by simp
 unfold eu;by_cases h1:a<b
 ·rw[ad3 h1]
  go_enter func115,ntmps115
  go_wp2
  go_ret
  exact⟨rfl,rfl⟩
 ·rw[ac2 h1];by_cases h2:b<a
  ·rw[ad3 h2]
   go_enter func115,ntmps115
   go_wp2
   go_ret
   exact⟨rfl,rfl⟩
  ·rw[ac2 h2]
   go_enter func115,ntmps115
   go_wp2
   go_ret
   exact⟨rfl,rfl⟩
theorem aH.look{α:Type}[BEq α][LawfulBEq α]{w:World}{k b:Nat}{kv:α->Value}{ts:List α}(hM:aH w k b kv ts)(K:Keyed prog k){t:TypeId}(ht:prog.underlying t=some (.map k 3)){x:α}(hx:x∈ts){l:Lit}(hl:keyOf prog k (kv x)=some l) :
  (Instr.lookup t (.map (some b)) (kv x) false).run prog w=.ok (.int .i64 (ts.idxOf x)) w:=by
 obtain⟨D,hown,_,hall,_⟩:=hM;obtain⟨c,hrun,hat,_⟩:=hown.lookup_int K ht underlying3 (zeroE w) hl;have h1:=(hall x l hl).2 (by simpa using hx);rw[h1]at hat;simp at hat;rw[hrun,<-hat]
theorem aH.looks{α:Type}[BEq α][LawfulBEq α]{w:World}{k b:Nat}{kv:α->Value}{ts:List α}(hM:aH w k b kv ts)(K:Keyed prog k){t:TypeId}(ht:prog.underlying t=some (.map k 3)){x:α}(hx:x∈ts){l:Lit}(hl:keyOf prog k (kv x)=some l) :
  ∀W',w.grownBy W' none->(Instr.lookup t (.map (some b)) (kv x) false).run prog W'=.ok (.int .i64 (ts.idxOf x)) W':=
 λ_ hg=>(hM.kept (hg.block b hM.lt (by simp))).look K ht hx hl
end
section
open Go.RowKit Go.Maps Go.WideMaps Go.Sort
def QO(m0 Mb BT:Nat)(W W':World):Prop:=(∀(k:Nat) (o:Obj),m0<=k->W.heap[k]?=some o->o.isCells=true->W'.heap[k]?=some o)/\W'.heap[Mb]?=W.heap[Mb]?/\W'.heap[BT]?=W.heap[BT]?
theorem QO.trans{m0 Mb BT:Nat}{A B C:World}(h:QO m0 Mb BT A B)(g:QO m0 Mb BT B C):QO m0 Mb BT A C:=⟨λk o hk ho hc=>g.1 k o hk (h.1 k o hk ho hc) hc,g.2.1.trans h.2.1,g.2.2.trans h.2.2⟩
theorem flat_get{α:Type}{f:α->List Value}{k:Nat}(hk:∀x,(f x).length=k)(k0:0<k):∀(ss:List α) (i:Nat) (hi:i<ss.length) (c:Nat),c<k->(ss.flatMap f)[i*k+c]?=(f ss[i])[c]?
 |[],i,hi,_,_=>absurd hi (by simp)
 |x::r,0,_,c,hc=>by
  rw[an8,an7,ak2,ah4 (by rw[hk];exact hc)];rfl
 |x::r,i+1,hi,c,hc=>by
  rw[an8,ao8 (by rw[hk,ak6];omega),hk];have e:(i+1)*k+c-k=i*k+c:=by rw[ak6];omega
  rw[e,flat_get hk k0 r i (by simpa using hi) c hc];rfl
theorem Qr(a b:Int):eu a b<0↔a<b:=by
 unfold eu;by_cases h:a<b
 ·simp[h]
 ·by_cases h2:b<a
  ·simp[h,h2]
  ·simp[h,h2]
theorem jI{n:Nat}(i j:Fin n):(ltOf λi j:Fin n=>eu i.val j.val) i j=decide (i.val<j.val):=by
 show decide (eu i.val j.val<0)=decide (i.val<j.val)
 rw[decide_eq_decide,Qr];omega
theorem tV(n:Nat):SWO (ltOf λi j:Fin n=>eu i.val j.val):=by
 constructor
 ·intro x;rw[jI];simp
 ·intro x y z;rw[jI,jI,jI];simp only[ai0];omega
 ·intro x y z;rw[jI,jI,jI];simp only[decide_eq_false_iff_not];omega
theorem tN{n:Nat}(i j:Fin n)(h1:(ltOf λi j:Fin n=>eu i.val j.val) i j=false)(h2:(ltOf λi j:Fin n=>eu i.val j.val) j i=false):i=j:=by
 rw[jI]at h1 h2;simp at h1 h2;exact Fin.ext (by omega)
theorem rV{n:Nat}{ss:List (Fin n)}(hp:ss.Perm (List.finRange n)):(ss.mergeSort λx y=>!(ltOf λi j:Fin n=>eu i.val j.val) y x)=List.finRange n:=by
 have hle:∀a b:Fin n,(!(ltOf λi j:Fin n=>eu i.val j.val) b a)=decide (a.val<=b.val):=λa b=>by
  rw[jI];by_cases h:b.val<a.val
  ·simp[h]
  ·simp[h];omega
 have e:(λx y:Fin n=>!(ltOf λi j:Fin n=>eu i.val j.val) y x)=λx y=>decide (x.val<=y.val):=funext λa=>funext λb=>hle a b;rw[e];refine List.Perm.eq_of_pairwise (le:=λa b:Fin n=>a.val<=b.val) (λa b _ _ h1 h2=>Fin.ext (by omega)) ?_ ?_ ((List.mergeSort_perm ss _).trans hp)
 ·have h:=List.pairwise_mergeSort (le:=λx y:Fin n=>decide (x.val<=y.val)) (λa b c h1 h2=>by simp at *;omega) (λa b=>by simp;omega) ss;exact h.imp (λhx=>by simpa using hx)
 ·refine ak0.2 λi j hi hj hij=>?_;simp only[List.getElem_finRange];simp;omega
theorem uH{α:Type}[Inhabited α]{f:α->List Value}{k:Nat}(hk:∀x,(f x).length=k)(k0:0<k){w:World}{g e:Nat}{cur:Array Value}{ss:List α}(hb:w.heap[g]?=some (.cells cur e (0,0)))(ht:cur.toList.take (ss.length*k)=ss.flatMap f):HoldsK f k w g 0 ss.toArray:=by
 intro j hj;have hj':j<ss.length*k:=by simpa using hj
 refine⟨?_,by simp[World.frozen?,hb]⟩;have hdiv:j/k<ss.length:=Nat.div_lt_of_lt_mul (by rw[Nat.mul_comm];exact hj');have hmod:j%k<k:=Nat.mod_lt _ k0;have hjj:j/k*k+j%k=j:=by rw[Nat.mul_comm];exact Nat.div_add_mod j k
 have h1:(cur.toList.take (ss.length*k))[j]?=(ss.flatMap f)[j]?:=by rw[ht]
 rw[List.getElem?_take_of_lt hj']at h1;have h2:=flat_get hk k0 ss (j/k) hdiv (j%k) hmod;rw[hjj]at h2;rw[h2]at h1;simp only[World.cell?,hb,ak2];simp only[Option.isSome_none,al1,al3];rw[<-Array.getElem?_toList,h1,get_flatK _ _ _ _ (by simpa using hj')];rw[am0 ss.toArray (j/k) (by simpa using hdiv),am0 (f _) (j%k) (by rw[hk];exact hmod)];simp
theorem fB{α:Type}[Inhabited α](f:α->List Value)(k:Nat)(w:World)(g n:Nat)(d:Array α)(os:Array Obj):w.grownBy (sortWorldK f k w g 0 n d os) (some g):=by
 refine⟨rfl,rfl,rfl,by simp[sortWorldK,putRowK],λj hj hne=>?_⟩;unfold sortWorldK putRowK;rw[heap_grow_old _ _ (by simpa using hj)];have:g≠j:=λe=>hne (by rw[e]);simp[putRow,mapBlock,Sort.ahead,am5,this]
end
open Go.RowKit Go.Maps Go.WideMaps
structure LI(w:World)(X G n e kn S:Nat)(T:List Value)(k:Nat)(W:World):Prop where
 x:W.cell? ⟨X,0,none⟩=some (.slice (some ⟨G,0,none⟩) k n)
 fx:W.frozen? ⟨X,0,none⟩=false
 row:W.ownsRow w.heap.size e kn (.slice (some ⟨G,0,none⟩) k n) k (T.take (k*kn))
 below:Below w.heap.size w W
 sz:S<=W.heap.size
section
variable {w:World} {X G n e kn S:Nat} {T:List Value} {k:Nat} {W:World}
theorem LI.lt(h:LI w X G n e kn S T k W):X<W.heap.size/\G<W.heap.size:=⟨ab6 W _ h.x,(h.row.lt G rfl).2⟩
theorem LI.own(B:Nat)(hw:w.heap.size<=B):OwnFrom B (LI w X G n e kn S T):=by
 intro k W W' row h hg hr;have hr':∀r,row=some r->∃o:Obj,W.heap[r]?=some o/\o.isCells=false:=λr e=>(hr r e).2;exact⟨bg h.x hg hr',(kM h.x hg hr').trans h.fx,jh h.row hg hr',ownFrom_below (β:=Unit) (ab3 _) hw () W W' row h.below hg hr,ad6 h.sz hg.size⟩
theorem LI.close{B Mb BT:Nat}{a:Act}{Wc w4:World}{news:List Value}(hX:X<B)(hG:G<B)(hwX:w.heap.size<=X)(hwG:w.heap.size<=G)(hXG:X≠G)(hXM:X≠Mb)(hXT:X≠BT)(hGM:G≠Mb)(hGT:G≠BT)(hMb:Mb<W.heap.size)(hBT:BT<W.heap.size)
 (h:LI w X G n e kn S T k W)(hg:W.grownBy Wc none)(hn:T.take ((k+1)*kn)=T.take (k*kn)++news)
 (r1:w4.ownsRow w.heap.size e kn (.slice (some ⟨G,0,none⟩) (k+1) n) (k+1) (T.take (k*kn)++news))(r2:Wc.grownBy w4 (some G)) :
  iC B (QO B Mb BT) (LI w X G n e kn S T (k+1)) W .normal a (w4.setCell ⟨X,0,none⟩ (.slice (some ⟨G,0,none⟩) (k+1) n)):=by
 have hlX:=h.lt.1;have hs:∀j,j<W.heap.size->j≠X->j≠G->(w4.setCell ⟨X,0,none⟩ (.slice (some ⟨G,0,none⟩) (k+1) n)).heap[j]?=W.heap[j]?:=λj hj h1 h2=>
  (ad5 w4 _ _ j h1).trans ((r2.block j (ac7 hj hg.size) (by simpa using h2)).trans (hg.block j hj (by simp)))
 have hX4:w4.heap[X]?=W.heap[X]?:=(r2.block X (ac7 hlX hg.size) (by simpa using hXG)).trans (hg.block X hlX (by simp));have c4:w4.cell? ⟨X,0,none⟩=some (.slice (some ⟨G,0,none⟩) k n):=(ac8 hX4).trans h.x;have f4:w4.frozen? ⟨X,0,none⟩=false:=(ag6 hX4).trans h.fx;have hsz:W.heap.size<=(w4.setCell ⟨X,0,none⟩ (.slice (some ⟨G,0,none⟩) (k+1) n)).heap.size:=by
  have h1:=ad6 hg.size r2.size;simpa[World.setCell]using h1
 have hb:=h.below;refine⟨⟨hsz,λj o hj ho _=>(hs j (ab1.1 ho).1 (by omega) (by omega)).trans ho⟩,⟨λj o hj ho _=>(hs j (ab1.1 ho).1 (by omega) (by omega)).trans ho,hs Mb hMb hXM.symm hGM.symm,hs BT hBT hXT.symm hGT.symm⟩,
  World.cell?_setCell_same' _ _ _ (by rw[c4];rfl),by rw[ao3];exact f4,?_,?_,ad6 h.sz hsz⟩
 ·rw[hn];exact r1.kept (grownBy_setCell' w4 X _) (Or.inr (by simp only[Value.ownBlock,ne_eq,ag8];exact λe=>hXG e.symm))
 ·exact⟨r2.os.trans (hg.os.trans hb.os),r2.tape.trans (hg.tape.trans hb.tape),r2.output.trans (hg.output.trans hb.output),ad6 hb.size hsz,λj hj=>(hs j (ac7 hj hb.size) (by omega) (by omega)).trans (hb.block j hj)⟩
end
theorem jL{α:Type}{f:α->List Value}{k:Nat}(hk:∀x,(f x).length=k):∀(ss:List α) (i:Nat) (hi:i<ss.length),(ss.flatMap f).take ((i+1)*k)=(ss.flatMap f).take (i*k)++f ss[i]
 |[],i,hi=>absurd hi (by simp)
 |x::r,0,_=>by
  rw[an8,ak2,Nat.one_mul,an7,al8,ac6,List.take_append_of_le_length (by rw[hk];exact ab3 _),ag3 (by rw[hk];exact ab3 _)];rfl
 |x::r,i+1,hi=>by
  rw[an8];have e1:(i+1+1)*k=(f x).length+(i+1)*k:=by rw[hk,ak6 (i+1) 1 k];omega
  have e2:(i+1)*k=(f x).length+i*k:=by rw[hk,ak6 i 1 k];omega
  rw[e1,e2,List.take_length_add_append,List.take_length_add_append,ah6];have e3:(f x).length+i*k=(i+1)*k:=by rw[hk,ak6];omega
  rw[e3,jL hk r i (by simpa using hi)];rfl
theorem l9{α:Type}{f:α->List Value}{k:Nat}(hk:∀x,(f x).length=k):∀(ss:List α),(ss.flatMap f).length=ss.length*k
 |[]=>by simp
 |x::r=>by rw[an8,ae0,hk,l9 hk r,ab9,ak6];omega
end Go.Proofs.YthcppbmkacbbiaaGreat
