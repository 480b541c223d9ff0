import Derived.Test.YthcppbmkacbbiaaGreatYl
import Derived.Test.YthcppbmkacbbiaaGreatYAF
import Derived.RangeFuncBox
import Derived.Maps.OwnOps
import Derived.Deep.RegionHeldLaw
import Derived.OrdersIn
import Derived.Laws.OwnMore
set_option linter.unusedSimpArgs false
set_option maxHeartbeats 1000000
namespace Go.Proofs.YthcppbmkacbbiaaGreat
open Go.Proofs.Tryz
section
open Go.RowKit Go.Maps Go.WideMaps
open aB (Key put)
structure Coll{α:Type}(k:Nat)(kv:α->Value)(ts:List α)(left:Lit->Bool)(ss:List (Fin ts.length)):Prop where
 nd:ss.Nodup
 mem:∀(i:Fin ts.length) (l:Lit),keyOf prog k (kv ts[i])=some l->(i∈ss↔left l=false)
section
variable {α:Type} {k:Nat} {kv:α->Value} {ts:List α} {left:Lit->Bool} {ss:List (Fin ts.length)}
theorem Coll.start(h:∀(i:Fin ts.length) (l:Lit),keyOf prog k (kv ts[i])=some l->left l=true):Coll k kv ts left []:=
 ⟨am7,λi l hl=>by simp[h i l hl]⟩
theorem Coll.step(K:Keyed prog k)(hinj:∀a b:α,kv a=kv b->a=b)(hnd:ts.Nodup)(h:Coll k kv ts left ss){i:Fin ts.length}{kl:Lit}(hkey:keyOf prog k (kv ts[i])=some kl)(hlk:left kl=true) :
  Coll k kv ts (λz=>left z&&!z.sameKey kl) (ss++[i]):=by
 have hnew:i∉ss:=λhx=>by have:=(h.mem i kl hkey).1 hx;rw[hlk]at this;cases this
 refine⟨al3.2 ⟨h.nd,by simp,λa ha b hb=>by simp at hb;subst hb;exact λe=>hnew (e▸ha)⟩,λj l hl=>?_⟩;by_cases e:j=i
 ·subst e;rw[hl]at hkey;cases hkey;simp[WideAt.sameKey_self (K.key hl)]
 ·have hne:l≠kl:=λe'=>e (by
   subst e';have h1:=hinj _ _ (K.inj hl hkey);rcases Nat.lt_trichotomy j.val i.val with h2|h2|h2
   ·exact absurd h1 (aj7.1 hnd j.val i.val j.isLt i.isLt h2)
   ·exact Fin.ext h2
   ·exact absurd h1.symm (aj7.1 hnd i.val j.val i.isLt j.isLt h2))
  rw[sameKey_ne hne];simp[h.mem j l hl,e]
theorem Coll.perm(h:Coll k kv ts left ss)(hv:∀x∈ts,∃l,keyOf prog k (kv x)=some l)(hl:∀kl,left kl=false):ss.Perm (List.finRange ts.length):=by
 refine(List.perm_ext_iff_of_nodup h.nd (List.nodup_finRange _)).2 λi=>?_;obtain⟨l,hk⟩:=hv ts[i] (ab2 i.isLt);simp[(h.mem i l hk).2 (hl l),List.mem_finRange]
end
theorem bg{W W':World}{row:Option Nat}{a:Addr}{v:Value}(h:W.cell? a=some v)(hg:W.grownBy W' row)(hr:∀r,row=some r->∃o:Obj,W.heap[r]?=some o/\o.isCells=false):W'.cell? a=some v:=
 hg.cell h (λe=>by
  obtain⟨o,ho,hc⟩:=hr _ e.symm;obtain⟨o',ho',hc'⟩:=cells_of_cell h;rw[ho]at ho';cases ho';rw[hc]at hc';cases hc')
theorem kU{W W':World}{row:Option Nat}{a:Addr}{v:Value}(h:W.cell? a=some v)(hg:W.grownBy W' row)(hr:∀r,row=some r->∃o:Obj,W.heap[r]?=some o/\o.isCells=false):W'.frozen? a=W.frozen? a:=
 af8 (hg.block a.block (ab1 W a h) (λe=>by
  obtain⟨o,ho,hc⟩:=hr _ e.symm;obtain⟨o',ho',hc'⟩:=cells_of_cell h;rw[ho]at ho';cases ho';rw[hc]at hc';cases hc'))
theorem jo{W W':World}{row:Option Nat}{base e size n:Nat}{v:Value}{xs:List Value}(h:W.ownsRow base e size v n xs)(hg:W.grownBy W' row)(hr:∀r,row=some r->∃o:Obj,W.heap[r]?=some o/\o.isCells=false):W'.ownsRow base e size v n xs:=by
 refine h.kept hg ?_;rcases h.2 with⟨rfl,_⟩|⟨g,cap,cur,rfl,_,hgb,_⟩
 ·exact Or.inl rfl
 ·refine Or.inr (λe=>?_);obtain⟨o,ho,hc⟩:=hr g (by rw[<-e];rfl);rw[hgb]at ho;cases ho;cases hc
theorem fP{W:World}{base base' e size n:Nat}{v:Value}{xs:List Value}(h:W.ownsRow base e size v n xs)(hb:base'<=base):W.ownsRow base' e size v n xs:=by
 refine⟨h.1,?_⟩;rcases h.2 with hn|⟨g,cap,cur,hv,hbg,rest⟩
 ·exact .inl hn
 ·exact .inr ⟨g,cap,cur,hv,ac9 hb hbg,rest⟩
theorem dO{W:World}{base e size n:Nat}{v:Value}{xs:List Value}(h:W.ownsRow base e size v n xs)(hn:0<n):∃g cap,v=.slice (some ⟨g,0,none⟩) n cap:=by
 rcases h.2 with⟨_,h0⟩|⟨g,cap,cur,rfl,_⟩
 ·omega
 ·exact⟨g,cap,rfl⟩
structure AI(w:World)(X base e k:Nat)(b:Bool)(len:Nat)(cells:List Value)(W:World):Prop where
 x:∃v,W.cell? ⟨X,0,none⟩=some v/\W.ownsRow base e k v len cells/\(v=.slice none 0 0↔b=true/\len=0)
 fx:W.frozen? ⟨X,0,none⟩=false
 below:Below w.heap.size w W
theorem AI.keep{w:World}{X base e k:Nat}{b:Bool}{len:Nat}{cells:List Value}{W W':World}{row:Option Nat}{B:Nat}(h:AI w X base e k b len cells W)(hg:W.grownBy W' row)
 (hw:w.heap.size<=B)(hr:∀r,row=some r->B<=r/\∃o:Obj,W.heap[r]?=some o/\o.isCells=false):AI w X base e k b len cells W':=by
 obtain⟨v,hx,hrow,hnil⟩:=h.x;have hr':∀r,row=some r->∃o:Obj,W.heap[r]?=some o/\o.isCells=false:=λr e=>(hr r e).2;refine⟨⟨v,bg hx hg hr',jo hrow hg hr',hnil⟩,(kU hx hg hr').trans h.fx,ownFrom_below (β:=Unit) (SH _) hw () W W' row h.below hg hr⟩
theorem AI.after{w:World}{X base e k:Nat}{b:Bool}{len:Nat}{cells:List Value}{W Wc w3:World}{v:Value}
 (hXb:X<base)(h:AI w X base e k b len cells W)(hv:W.cell? ⟨X,0,none⟩=some v)(hvr:W.ownsRow base e k v len cells)(hg:W.grownBy Wc none)(hg3:Wc.grownBy w3 v.ownBlock) :
  w3.cell? ⟨X,0,none⟩=some v/\w3.frozen? ⟨X,0,none⟩=false:=by
 have hlX:=ab1 W _ hv;have hnX:some X≠v.ownBlock:=λe=>by
  rcases hvr.2 with⟨rfl,_⟩|⟨g,cap,cur,rfl,hb,hgb,_⟩
  ·cases e
  ·simp only[Value.ownBlock,ag1]at e;omega
 have hX3:w3.heap[X]?=W.heap[X]?:=(hg3.block X (ac7 hlX hg.size) hnX).trans (hg.block X hlX (by simp));exact⟨(ab9 hX3).trans hv,(af8 hX3).trans h.fx⟩
theorem AI.close{w:World}{X base e k:Nat}{b:Bool}{len:Nat}{cells news:List Value}{W Wc w3:World}{B:Nat}{a:Act}{v v':Value}{m:Nat}
 (hX:X<B)(hwX:w.heap.size<=X)(hXb:X<base)(h:AI w X base e k b len cells W)(hv:W.cell? ⟨X,0,none⟩=some v)(hvr:W.ownsRow base e k v len cells)(hg:W.grownBy Wc none)
 (hr:w3.ownsRow base e k v' (len+m) (cells++news))(hg3:Wc.grownBy w3 v.ownBlock)(hn:v'=.slice none 0 0↔v=.slice none 0 0/\m=0)(hm:m≠0) :
  fV B KeepsWalks (AI w X base e k b (len+m) (cells++news)) W .normal a (w3.setCell ⟨X,0,none⟩ v'):=by
 have hlX:=ab1 W _ hv;obtain⟨o,ho,hoc⟩:=cells_of_cell hv;have hnb:∀j,v.ownBlock=some j->base<=j/\∃cur:Array Value,W.heap[j]?=some (.cells cur e (0,0)):=by
  intro j hj;rcases hvr.2 with⟨rfl,_⟩|⟨g,cap,cur,rfl,hb,hgb,_⟩
  ·cases hj
  ·cases hj;exact⟨hb,cur,hgb⟩
 have hnX:some X≠v.ownBlock:=λe=>by have:=(hnb X e.symm).1;omega
 have hX3:w3.heap[X]?=W.heap[X]?:=(hg3.block X (ac7 hlX hg.size) hnX).trans (hg.block X hlX (by simp));have hc3:w3.cell? ⟨X,0,none⟩=some v:=(ab9 hX3).trans hv;have hf3:w3.frozen? ⟨X,0,none⟩=false:=(af8 hX3).trans h.fx;have keep:∀(j:Nat) (o:Obj),W.heap[j]?=some o->o.isCells=false->(w3.setCell ⟨X,0,none⟩ v').heap[j]?=some o:=by
  intro j o' hj hc;have hjl:=(Js.1 hj).1;have hjX:j≠X:=λe=>by subst e;have h1:=hj.symm.trans ho;cases h1;rw[hc]at hoc;cases hoc
  refine(ac6 w3 _ _ j hjX).trans ((hg3.block j (ac7 hjl hg.size) (λe=>?_)).trans ((hg.block j hjl (by simp)).trans hj));obtain⟨cur,hcur⟩:=(hnb j e.symm).2;have h1:=hj.symm.trans hcur;cases h1;cases hc
 have hsz:W.heap.size<=(w3.setCell ⟨X,0,none⟩ v').heap.size:=by
  have h1:=ac9 hg.size hg3.size;simpa[World.setCell]using h1
 refine⟨⟨hsz,λj o _ hj hc=>keep j o hj hc⟩,⟨hsz,λj o hj hw=>keep j o hj (Obj.not_cells_of_walk hw)⟩,⟨⟨v',World.cell?_setCell_same' _ _ _ (by rw[hc3];rfl),?_,?_⟩,by rw[am8];exact hf3,?_⟩⟩
 ·refine hr.kept (grownBy_setCell' w3 X _) ?_;rcases hr.2 with⟨rfl,_⟩|⟨g,cap,cur,rfl,hb,hgb,_⟩
  ·exact Or.inl rfl
  ·refine Or.inr (λe=>?_);simp only[Value.ownBlock,ag1]at e;omega
 ·rw[hn];constructor
  ·rintro⟨_,e⟩;exact absurd e hm
  ·rintro⟨_,e⟩;omega
 ·have hb:=h.below;refine⟨hg3.os.trans (hg.os.trans hb.os),hg3.tape.trans (hg.tape.trans hb.tape),hg3.output.trans (hg.output.trans hb.output),ac9 hb.size hsz,λj hj=>?_⟩;have hjl:=ac7 hj hb.size;refine(ac6 w3 _ _ j (by show j≠X;omega)).trans ((hg3.block j (ac7 hjl hg.size) (λe=>?_)).trans ((hg.block j hjl (by simp)).trans (hb.block j hj)));have:=(hnb j e.symm).1;omega
def iV(k:Key):List Value:=[.int .u8 k.1,.int .i64 k.2.1,.int .i64 k.2.2]
def lJ(k:Int×Nat):List Value:=[.int .u8 k.1,.int .i64 k.2]
theorem Eo(w:World)(a:Int)(b c:Nat)(t:TypeId):∀j u,(iV (a,b,c))[j]?=some u->(w.alloc (.cells #[.int .u8 a,.int .i64 b,.int .i64 c] t)).cell? ((⟨w.heap.size,0,none⟩:Addr).add j)=some u:=by
 intro j u hj
 match j with
 |0=>simp[iV]at hj;subst hj;simp[Addr.add,go_sem]
 |1=>simp[iV]at hj;subst hj;simp[Addr.add,go_sem]
 |2=>simp[iV]at hj;subst hj;simp[Addr.add,go_sem]
 |j+3=>simp[iV]at hj
theorem Ox(w:World)(a:Int)(b:Nat)(t:TypeId):∀j u,(lJ (a,b))[j]?=some u->(w.alloc (.cells #[.int .u8 a,.int .i64 b] t)).cell? ((⟨w.heap.size,0,none⟩:Addr).add j)=some u:=by
 intro j u hj
 match j with
 |0=>simp[lJ]at hj;subst hj;simp[Addr.add,go_sem]
 |1=>simp[lJ]at hj;subst hj;simp[Addr.add,go_sem]
 |j+2=>simp[lJ]at hj
theorem Gx(k:Key):∀u∈iV k,u.oneCell'=true:=by intro u hu;simp[iV]at hu;rcases hu with rfl|rfl|rfl<;>rfl
theorem Og(k:Int×Nat):∀u∈lJ k,u.oneCell'=true:=by intro u hu;simp[lJ]at hu;rcases hu with rfl|rfl<;>rfl
end
section
open Go.RowKit Go.Maps Go.WideMaps
theorem FT{P:Program}{ops:Array Oper}{Q:Exit->Act->World->Prop}{md:Region.Mode}{S:World->Prop}{i:Nat}{o:Oper}{fuel:Nat}{listed:Array Bool}{a:Act}{w:World}(hr:Region.ready md ops listed=[i])(ho:ops[i]?=some o)(hw:Region.wanted o (yielded ops a.tmps)=true)
 (h:∀K':Act->World->Prop,Shut (∀a w,S w->wpAnyH P md ops Q S fuel (listed.setIfInBounds i true) a w->K' a w)->Oper.wp P o a w K' Q) :
  wpAnyH P md ops Q S (fuel+1) listed a w:=by
 refine⟨λh0=>(by rw[hr]at h0;cases h0),λj hj=>?_⟩;rw[hr]at hj;obtain rfl:j=i:=by simpa using hj
 refine wpOp_step ho (λK' hK=>?_);rw[ac8 hw];exact h K' (λa w hS hW=>hK a w ⟨hS,hW⟩)
theorem H9(W:World)(a b c d:Obj):((((W.alloc a).alloc b).alloc c).alloc d).drew=Go.Sort.grow (W.drewN 1) #[a,b,c,d]:=by
 rw[am3,am3,am3,am3,Go.Sort.drew_grow,Go.Sort.grow_grow,Go.Sort.grow_grow,Go.Sort.drew_grow,Go.Sort.grow_grow];rfl
def eY(a b:Int):Int:=if a<b then -1 else if b<a then 1 else 0
theorem lD(a b:Int)(w:World):Calls prog 115 #[.int .i64 a,.int .i64 b] w λe w'=>e=.returned (.int .i64 (eY a b))/\w'=w:=by
 have e1:(a != a)=false:=by simp
 have e2:(b != b)=false:=by simp
 unfold eY;by_cases h1:a<b
 ·rw[ac8 h1]
  go_enter func115,ntmps115
  go_wp2
  go_ret
  exact⟨rfl,rfl⟩
 ·rw[ac5 h1];by_cases h2:b<a
  ·rw[ac8 h2]
   go_enter func115,ntmps115
   go_wp2
   go_ret
   exact⟨rfl,rfl⟩
  ·rw[ac5 h2]
   go_enter func115,ntmps115
   go_wp2
   go_ret
   exact⟨rfl,rfl⟩
theorem aH.look{α:Type}[BEq α][LawfulBEq α]{w:World}{k b:Nat}{kv:α->Value}{ts:List α}(hM:aH w k b kv ts)(K:Keyed prog k){t:TypeId}(ht:prog.underlying t=some (.map k 3)){x:α}(hx:x∈ts){l:Lit}(hl:keyOf prog k (kv x)=some l) :
  (Instr.lookup t (.map (some b)) (kv x) false).run prog w=.ok (.int .i64 (ts.idxOf x)) w:=by
 obtain⟨D,hown,_,hall,_⟩:=hM;obtain⟨c,hrun,hat,_⟩:=hown.lookup_int K ht underlying3 (zeroE w) hl;have h1:=(hall x l hl).2 (by simpa using hx);rw[h1]at hat;simp at hat;rw[hrun,<-hat]
theorem aH.looks{α:Type}[BEq α][LawfulBEq α]{w:World}{k b:Nat}{kv:α->Value}{ts:List α}(hM:aH w k b kv ts)(K:Keyed prog k){t:TypeId}(ht:prog.underlying t=some (.map k 3)){x:α}(hx:x∈ts){l:Lit}(hl:keyOf prog k (kv x)=some l) :
  ∀W',w.grownBy W' none->(Instr.lookup t (.map (some b)) (kv x) false).run prog W'=.ok (.int .i64 (ts.idxOf x)) W':=
 λ_ hg=>(hM.kept (hg.block b hM.lt (by simp))).look K ht hx hl
theorem pF{i:Nat}(h:i<=1000):keyOf prog 3 (.int .i64 i)=some (.int .i64 i):=by
 have hw:(Lit.int .i64 i).wf=true:=am0 (by omega);simp[keyOf,mapKey,underlying3,hw]
theorem dY:Keyed prog 3:=int_keyed underlying3
def dQ(w:World)(b:Nat)(f:Nat->Nat)(n c:Nat):Prop:=
 ∃(D:DataW Unit) (nn:Nat),nn<=c/\w.ownsMap prog 3 (plainElem prog 3) b nn D/\
  ∀i,i<n->Maps.has D (.int .i64 i)=decide (f i≠i)/\(f i≠i->D.atKey (.int .i64 i) (.lit (.int .i64 0))=.lit (.int .i64 (f i)))
theorem dQ.lt{w:World}{b n c:Nat}{f:Nat->Nat}(h:dQ w b f n c):b<w.heap.size:=by
 obtain⟨D,nn,_,h1,_⟩:=h;exact h1.lt
theorem dQ.kept{w w':World}{b n c:Nat}{f:Nat->Nat}(h:dQ w b f n c)(hb:w'.heap[b]?=w.heap[b]?):dQ w' b f n c:=by
 obtain⟨D,nn,h0,⟨es,clock,h1,h2⟩,h3⟩:=h;exact⟨D,nn,h0,⟨es,clock,hb.trans h1,h2⟩,h3⟩
theorem dQ.congr{w:World}{b n c:Nat}{f g:Nat->Nat}(h:dQ w b f n c)(e:∀i,i<n->f i=g i):dQ w b g n c:=by
 obtain⟨D,nn,h0,h1,h2⟩:=h;exact⟨D,nn,h0,h1,λi hi=>by rw[<-e i hi];exact h2 i hi⟩
theorem x9(w:World)(b n c:Nat)(f:Nat->Nat)(i:Nat)(hM:dQ w b f n c)(hi:i<n)(hn:n<=1000)(hle:f i<=i)(hff:f (f i)=f i) :
  Calls prog 82 #[.map (some b),.int .i64 i] w λe w'=>e=.returned (.int .i64 (f i))/\w'=w:=by
 obtain⟨D,nn,h0,hown,hall⟩:=hM;by_cases e:f i=i
 ·have hk:=hall i hi;have hhas:Maps.has D (.int .i64 i)=false:=by rw[hk.1];simp[e]
  have hkey:keyOf prog 3 (.int .i64 i)=some (.int .i64 i):=pF (by omega);have E:=aj e;clear hall hk e hff hle
  go_enter func82,ntmps82
  go_wp2_with fail
  refine wp_loop_rounds 1 ?_;rw[al5]
  go_wp2_with (at_lookup;refine ak1 _ rfl _ _ 98 rfl 3 3 .i64 dY underlying98 underlying3 (zeroE _) b nn D rfl hown _ (.int .i64 i) rfl hkey ?_;intro c0 hat hwc)
  go_ret
  exact⟨gV (by rw[ah E]),rfl⟩
 ·have hk:=hall i hi;have hk2:=hall (f i) (by omega);have hhas:Maps.has D (.int .i64 i)=true:=by rw[hk.1];simp[e]
  have Yf:Maps.has D (.int .i64 (f i))=false:=by rw[hk2.1];simp[hff]
  have hkey:keyOf prog 3 (.int .i64 i)=some (.int .i64 i):=pF (by omega);have Uw:keyOf prog 3 (.int .i64 (f i))=some (.int .i64 (f i)):=pF (by omega);have HAT:=aj (hk.2 e);clear hall hk hk2 e hff hle;generalize f i=j at Yf Uw HAT
  go_enter func82,ntmps82
  go_wp2_with fail
  refine wp_loop_rounds 2 ?_;rw[al5]
  go_wp2_with (at_lookup;refine ak1 _ rfl _ _ 98 rfl 3 3 .i64 dY underlying98 underlying3 (zeroE _) b nn D rfl hown _ (.int .i64 i) rfl hkey ?_;intro c0 hat hwc;have hc0:c0=(j:Int):=by {have h:=hat.symm.trans (ah HAT);simpa using h};subst hc0;clear hat hwc)
  rw[al5]
  go_wp2_with (at_lookup;refine ak1 _ rfl _ _ 98 rfl 3 3 .i64 dY underlying98 underlying3 (zeroE _) b nn D rfl hown _ (.int .i64 j) rfl Uw ?_;intro c0 hat hwc)
  go_ret
  exact⟨rfl,rfl⟩
theorem NP(w:World)(b n c:Nat)(f:Nat->Nat)(i j:Nat)(hM:dQ w b f n c)(hi:i<n)(hj:j<n)(hn:n<=1000)(hle:∀i,i<n->f i<=i/\f (f i)=f i) :
  Calls prog 80 #[.map (some b),.int .i64 i,.int .i64 j] w λe w'=>e=.returned (.bool (decide (f i=f j)))/\w'=w:=by
 have h1:=x9 w b n c f i hM hi hn (hle i hi).1 (hle i hi).2;have h2:=x9 w b n c f j hM hj hn (hle j hj).1 (hle j hj).2;generalize f i=x at h1 ⊢;generalize f j=y at h2 ⊢
 go_enter func80,ntmps80
 go_wp2_with fail
 refine h1.mono ?_;rintro e w1 ⟨rfl,rfl⟩
 go_wp2_with fail
 refine h2.mono ?_;rintro e w2 ⟨rfl,rfl⟩
 go_wp2_with fail
 go_ret
 refine⟨?_,rfl⟩;by_cases e:x=y
 ·subst e;simp
 ·have:(x:Int)≠y:=by omega
  simp[e,this]
theorem EK(w:World)(b n c:Nat)(f:Nat->Nat)(i j:Nat)(hM:dQ w b f n c)(hi:i<n)(hj:j<n)(hn:n<=500)(hc:c<=500)(hne:i≠j)(fi:f i=i)(fj:f j=j) :
  Calls prog 126 #[.map (some b),.int .i64 i,.int .i64 j] w λe w'=>(∃v,e=.returned v)/\w.grownBy w' (some b)/\dQ w' b (λk=>if k=j then i else f k) n (c+1):=by
 have h1:=x9 w b n c f i hM hi (by omega) (by omega) (by rw[fi,fi]);have h2:=x9 w b n c f j hM hj (by omega) (by omega) (by rw[fj,fj]);rw[fi]at h1;rw[fj]at h2;obtain⟨D,nn,h0,hown,hall⟩:=hM;have fG:=hown.tidy dY;have hb:((i:Int) != (j:Int))=true:=by simp;omega
 have hkey:keyOf prog 3 (.int .i64 j)=some (.int .i64 j):=pF (by omega);have gJ:=aj hall;clear hall fi fj
 go_enter func126,ntmps126
 go_wp2_with fail
 refine h1.mono ?_;rintro e w1 ⟨rfl,rfl⟩
 go_wp2_with fail
 refine h2.mono ?_;rintro e w2 ⟨rfl,rfl⟩
 go_wp2_with (at_mapUpdate;refine wpList_mapUpdate_own _ rfl _ _ _ 98 rfl 3 3 dY underlying98 _ b nn D rfl hown (by unfold maxLen;omega) _ _ (.int .i64 j) rfl rfl hkey _ [] (an9 underlying3 (am0 (by omega))) ?_;intro w1 hown1 hgrow1)
 go_end0
 refine⟨⟨_,rfl⟩,hgrow1,_,nn+1,by omega,hown1,λk hk=>?_⟩;by_cases e:k=j
 ·subst e;simp only[ai4];rw[has_put_same fG.isMap (dY.key hkey),atKey_put_same fG.isMap (dY.key hkey)];simp[hne]
 ·have e1:(λq=>if q=j then i else f q) k=f k:=ac5 e;simp only[e1];rw[has_put_other (by simp;omega),atKey_put_other (by simp;omega)];exact ah gJ k hk
def gK(w:World)(b:Nat)(f:Nat->Nat)(n c:Nat):Prop:=
 ∃g d:Nat->Nat,dQ w b g n c/\∀i,i<n->g i<n/\(g i=i->f i=i)/\(g i≠i->d (g i)<d i/\f (g i)=f i)
theorem gK.lt{w:World}{b n c:Nat}{f:Nat->Nat}(h:gK w b f n c):b<w.heap.size:=by
 obtain⟨g,d,h1,_⟩:=h;exact h1.lt
theorem gK.kept{w w':World}{b n c:Nat}{f:Nat->Nat}(h:gK w b f n c)(hb:w'.heap[b]?=w.heap[b]?):gK w' b f n c:=by
 obtain⟨g,d,h1,h2⟩:=h;exact⟨g,d,h1.kept hb,h2⟩
theorem gK.of{w:World}{b n c:Nat}{f:Nat->Nat}(h:dQ w b f n c)(hf:∀i,i<n->f i<=i/\f (f i)=f i):gK w b f n c:=
 ⟨f,id,h,λi hi=>⟨by have:=(hf i hi).1;omega,id,λhne=>⟨by have:=(hf i hi).1;simp;omega,(hf i hi).2⟩⟩⟩
theorem y5{g d f:Nat->Nat}{n:Nat}(h:∀i,i<n->g i<n/\(g i=i->f i=i)/\(g i≠i->d (g i)<d i/\f (g i)=f i)):∀m i,d i<m->i<n->f i<n/\g (f i)=f i/\f (f i)=f i:=by
 intro m
 induction m with
 |zero=>intro i hd;omega
 |succ m ih=>
  intro i hd hi;obtain⟨k1,k2,k3⟩:=h i hi;by_cases e:g i=i
  ·rw[k2 e];exact⟨hi,e,k2 e⟩
  ·obtain⟨k4,k5⟩:=k3 e;have:=ih (g i) (by omega) k1
   rwa [k5]at this
theorem gK.root{w:World}{b n c:Nat}{f:Nat->Nat}(h:gK w b f n c){i:Nat}(hi:i<n):f i<n/\f (f i)=f i:=by
 obtain⟨g,d,h1,h2⟩:=h;have:=y5 h2 (d i+1) i (by omega) hi;exact⟨this.1,this.2.2⟩
theorem oV(w:World)(b n c:Nat)(f:Nat->Nat)(i:Nat)(hM:gK w b f n c)(hi:i<n)(hn:n<=1000) :
  Calls prog 82 #[.map (some b),.int .i64 i] w λe w'=>e=.returned (.int .i64 (f i))/\w'=w:=by
 obtain⟨g,d,⟨D,nn,h0,hown,hall⟩,hg⟩:=hM;have gJ:=aj hall;have HG:=aj hg;clear hall hg
 go_enter func82,ntmps82
 go_wp2_with fail
 go_loopw [1] (λkey wr=>∃k:Nat,key=.int .i64 k/\k<n/\f k=f i/\wr=w) (λkey _=>d (intOf key).toNat)
 case atStart=>exact⟨i,rfl,hi,rfl,rfl⟩
 case round=>
  obtain⟨k,rfl,hk,hfk,rfl⟩:=hrel;have hka:=(ah gJ) k hk;obtain⟨g1,g2,g3⟩:=(ah HG) k hk;have hkey:keyOf prog 3 (.int .i64 k)=some (.int .i64 k):=pF (by omega);by_cases e:g k=k
  ·have hhas:Maps.has D (.int .i64 k)=false:=(by rw[hka.1];simp[e]);have hfin:Hid (f i=k):=(by unfold Hid;rw[<-hfk];exact g2 e);clear hka g1 g2 g3 hfk e
   go_wp2_with (at_lookup;refine ak1 _ rfl _ _ 98 rfl 3 3 .i64 dY underlying98 underlying3 (zeroE _) b nn D rfl hown _ (.int .i64 k) rfl hkey ?_;intro c0 hat hwc)
   exact ad8 (v:=.int .i64 k) (by simp[results,results82,go_sem]) rfl ⟨by rw[ah hfin],rfl⟩
  ·have hhas:Maps.has D (.int .i64 k)=true:=(by rw[hka.1];simp[e]);have HAT:=aj (hka.2 e);obtain⟨g4,g5⟩:=g3 e;have HFK:=aj (g5.trans hfk);clear hka g2 g3 g5 hfk e;generalize g k=j at HAT g1 g4 HFK
   go_wp2_with (at_lookup;refine ak1 _ rfl _ _ 98 rfl 3 3 .i64 dY underlying98 underlying3 (zeroE _) b nn D rfl hown _ (.int .i64 k) rfl hkey ?_;intro c0 hat hwc;have hc0:c0=(j:Int):=by {have h:=hat.symm.trans (ah HAT);simpa using h};subst hc0;clear hat hwc)
   exact⟨⟨j,rfl,g1,ah HFK,by first|rfl|trivial⟩,by simpa[intOf]using g4⟩
theorem Ea(w:World)(b n c:Nat)(f:Nat->Nat)(i j:Nat)(hM:gK w b f n c)(hi:i<n)(hj:j<n)(hn:n<=1000) :
  Calls prog 80 #[.map (some b),.int .i64 i,.int .i64 j] w λe w'=>e=.returned (.bool (decide (f i=f j)))/\w'=w:=by
 have h1:=oV w b n c f i hM hi hn;have h2:=oV w b n c f j hM hj hn;generalize f i=x at h1 ⊢;generalize f j=y at h2 ⊢
 go_enter func80,ntmps80
 go_wp2_with fail
 refine h1.mono ?_;rintro e w1 ⟨rfl,rfl⟩
 go_wp2_with fail
 refine h2.mono ?_;rintro e w2 ⟨rfl,rfl⟩
 go_wp2_with fail
 go_ret
 refine⟨?_,rfl⟩;by_cases e:x=y
 ·subst e;simp
 ·have:(x:Int)≠y:=by omega
  simp[e,this]
def nR(f:Nat->Nat)(i j:Nat):Nat->Nat:=λk=>if f k=f j then f i else f k
theorem pG{f:Nat->Nat}{i j:Nat}(h:f i=f j):nR f i j=f:=by
 funext k;unfold nR;by_cases e:f k=f j
 ·rw[ac8 e,h,e]
 ·rw[ac5 e]
theorem EJ(w:World)(b n c:Nat)(f:Nat->Nat)(i j:Nat)(hM:gK w b f n c)(hi:i<n)(hj:j<n)(hn:n<=500)(hc:c<=500) :
  Calls prog 126 #[.map (some b),.int .i64 i,.int .i64 j] w λe w'=>(∃v,e=.returned v)/\w.grownBy w' (some b)/\gK w' b (nR f i j) n (if f i=f j then c else c+1):=by
 have h1:=oV w b n c f i hM hi (by omega);have h2:=oV w b n c f j hM hj (by omega);by_cases e:f i=f j
 ·rw[ac8 e,pG e];rw[<-e]at h2;have HM:=aj hM;clear hM e;generalize f i=x at h1 h2
  go_enter func126,ntmps126
  go_wp2_with fail
  refine h1.mono ?_;rintro e w1 ⟨rfl,rfl⟩
  go_wp2_with fail
  refine h2.mono ?_;rintro e w2 ⟨rfl,rfl⟩
  go_wp2_with fail
  go_end0
  exact⟨⟨_,rfl⟩,af2 _ _,ah HM⟩
 ·rw[ac5 e];obtain⟨hfi,Yj⟩:=hM.root hi;obtain⟨hfj,Yi⟩:=hM.root hj;obtain⟨g,d,⟨D,nn,h0,hown,hall⟩,hg⟩:=hM;obtain⟨_,hgi,_⟩:=y5 hg (d i+1) i (by omega) hi;obtain⟨_,hgj,_⟩:=y5 hg (d j+1) j (by omega) hj;have fG:=hown.tidy dY;have hb:((f i:Int) != (f j:Int))=true:=by simp;omega
  have hkey:keyOf prog 3 (.int .i64 (f j))=some (.int .i64 (f j)):=pF (by omega);have dw:Hid (∀w' nn',nn'<=c+1->w'.ownsMap prog 3 (plainElem prog 3) b nn' (D.put (.int .i64 (f j)) (.lit (.int .i64 (f i))))->gK w' b (nR f i j) n (c+1)):=by
   intro w' nn' hnn hown';refine⟨λk=>if k=f j then f i else g k,λk=>if f k=f j then d k+d (f i)+1 else d k,⟨_,nn',hnn,hown',λk hk=>?_⟩,λk hk=>?_⟩
   ·by_cases e2:k=f j
    ·subst e2;simp only[ai4];rw[has_put_same fG.isMap (dY.key hkey),atKey_put_same fG.isMap (dY.key hkey)];simp[e]
    ·have e1:(λq=>if q=f j then f i else g q) k=g k:=ac5 e2;simp only[e1];rw[has_put_other (by simp;omega),atKey_put_other (by simp;omega)];exact hall k hk
   ·by_cases e2:k=f j
    ·subst e2;simp only[ai4,nR,Yj,Yi,ac5 e];exact⟨hfi,λh=>absurd h e,λ_=>⟨by omega,by first|rfl|trivial⟩⟩
    ·obtain⟨k1,k2,k3⟩:=hg k hk;simp only[ac5 e2];refine⟨k1,λh=>?_,λh=>?_⟩
     ·have h3:=k2 h;unfold nR;rw[h3,ac5 e2]
     ·obtain⟨k4,k5⟩:=k3 h;unfold nR;rw[k5];refine⟨?_,rfl⟩;split<;>omega
  clear hall hg hgi hgj Yj Yi e fG;generalize f i=x at h1 hfi hb dw;generalize f j=y at h2 hfj hkey hb dw
  go_enter func126,ntmps126
  go_wp2_with fail
  refine h1.mono ?_;rintro e w1 ⟨rfl,rfl⟩
  go_wp2_with fail
  refine h2.mono ?_;rintro e w2 ⟨rfl,rfl⟩
  go_wp2_with (at_mapUpdate;refine wpList_mapUpdate_own _ rfl _ _ _ 98 rfl 3 3 dY underlying98 _ b nn D rfl hown (by unfold maxLen;omega) _ _ (.int .i64 y) rfl rfl hkey _ [] (an9 underlying3 (am0 (by omega))) ?_;intro w1 hown1 hgrow1)
  go_end0
  exact⟨⟨_,rfl⟩,hgrow1,(ah dw) _ _ (by omega) hown1⟩
end
section
open Go.RowKit
def lG(F:Fence)(n:Nat)(P:Program)(g:Nat)(lb:Array Value)(xs:List (Array Value))(Kp:World->World->Prop)(w:World):Prop:=
 ∀(l:Nat) (J:Nat->World->Prop) (Jx:World->Prop) (W:World),Below w.heap.size w W->AbidesFrom W.heap.size J->AbidesFrom W.heap.size (fun(_:Unit) V=>Jx V)->
  (∀k (hk:k<xs.length) W1,J k W1->YieldAt F (n-1) P l xs[k] W1 λe W'=>(e=.returned (.bool true)/\J (k+1) W'/\Kp W1 W')\/(e=.returned (.bool false)/\Jx W'))->
  J 0 W->
  CallsIn F n P g (#[.func (.yield l) #[] #[]]++lb) W λe W'=>(∃v,e=.returned v)/\(J xs.length W'\/Jx W')
theorem lG.all{F:Fence}{n:Nat}{P:Program}{g:Nat}{lb:Array Value}{xs:List (Array Value)}{Kp:World->World->Prop}{w:World}(h:lG F n P g lb xs Kp w):vM F n P g lb xs Kp w:=by
 intro l J W hW hJ hY h0;refine(h l J (λ_=>False) W hW hJ (λ_ _ _ _ hf _ _=>hf) (λk hk W1 hJk=>(hY k hk W1 hJk).mono λe W' he=>Or.inl he) h0).mono ?_;rintro e W' ⟨h1,h2|h2⟩
 ·exact⟨h1,h2⟩
 ·exact h2.elim
def Tz(B:Nat)(Kp:World->World->Prop)(I Ix:World->Prop)(W:World):Exit->Act->World->Prop
 |.normal,_,W'=>KeepsFrom B W W'/\Kp W W'/\I W'
 |.ret,_,W'=>KeepsFrom B W W'/\Ix W'
 |_,_,_=>False
theorem dZ{F:Fence}{n:Nat}{P:Program}{g:Operand}{ps:Array Tmp}{assign body:Code}{Q:Exit->Act->World->Prop}{a:Act}{w:World}
 (hro:F.round=none)(h1:1<=n){gf:Nat}{lb:Array Value}(hg:a.eval g=.func (.func gf) #[] lb)(hFg:F.fn gf)(eg:∀args w,(callFunc gf args).run P w=.ok (.enter gf args) w)
 {xs:List (Array Value)}{Kp:World->World->Prop}{w0:World}(hseq:lG F (n-1) P gf lb xs Kp w0)
 (hKt:∀{A B C:World},Kp A B->Kp B C->Kp A C)(hKb:∀(W:World) (l:Nat) (o o':Obj),w.heap.size<=l->W.heap[l]?=some o->o.isCells=false->o.isWalk=false->Kp W (W.putObj l o'))
 (hb0:Below w0.heap.size w0 w)(hps:∀k (hk:k<xs.length),xs[k].size=ps.size)
 (I:Nat->World->Prop)(Ix:World->Prop)(hI:OwnFrom w.heap.size I)(hIx:OwnFrom w.heap.size (fun(_:Unit) W=>Ix W))(h0:I 0 w)(Ax:Nat->Act->World->Prop)(hAx:∀k a',OwnFrom w.heap.size (fun(_:Unit) W=>Ax k a' W))
 (hassign:∀(l k:Nat) (hk:k<xs.length) (W:World) (K:Act->World->Prop),I k W->(∀a' W',KeepsFrom w.heap.size W W'->Kp W W'->I k W'->Ax k a' W'->K a' W')->
   assign.wpIn (F.inRound l) (n-1-1) P (Exit.then K (λ_ _ _=>False)) {tmps:=(ps.zip xs[k]).foldl (λt (p,v)=>t.setIfInBounds p v) a.tmps,defers:=[]} W)
 (hbody:∀(l k:Nat) (a':Act) (W:World),k<xs.length->w.heap.size<=l->I k W->Ax k a' W->body.wpIn (F.inRound l) (n-1-1) P (Tz w.heap.size Kp (I (k+1)) Ix W) a' W)
 (hdone:∀(D:Nat) (W:World),w.heap.size<=D->I xs.length W->W.heap[D]?=some (.deferred (some []))->Q .normal {a with defers:={target:=.collected D,args:=#[]}::a.defers} W)
 (hstop:∀(D:Nat) (W:World),w.heap.size<=D->Ix W->W.heap[D]?=some (.deferred (some []))->Code.ret.wpIn F n P Q {a with defers:={target:=.collected D,args:=#[]}::a.defers} W) :
  (Code.rangeFunc g ps assign body).wpIn F n P Q a w:=by
 refine wpIn_rangeFunc ?_;intro fn hfn;rw[hro];obtain⟨lp,hlp⟩:∃lp:LoopState->Option Code->Loop,lp=λst pe=>{state:=st,pending:=pe,fn,tmps:=a.tmps,params:=ps,assign,body,defers:=w.heap.size}:=⟨_,rfl⟩;obtain⟨W1,hW1⟩:∃W1,(w.alloc (.deferred (some []))).alloc (.loop (lp .ready none))=W1:=⟨_,rfl⟩;have hsz1:W1.heap.size=w.heap.size+2:=by rw[<-hW1];simp
 have sV:W1.heap[w.heap.size+1]?=some (.loop (lp .ready none)):=by
  have h:=ao7 (w.alloc (.deferred (some []))) (.loop (lp .ready none));rw[World.size_alloc]at h;rw[<-hW1];exact h
 have rH:W1.heap[w.heap.size]?=some (.deferred (some [])):=by
  rw[<-hW1];exact(ab6 _ _ _ (by simp)).trans (ao7 w _)
 have inv1:I 0 W1:=by rw[<-hW1];exact hI.alloc _ (hI.alloc _ h0)
 have nM:Below w0.heap.size w0 W1:=by
  rw[<-hW1];exact hb0.trans ((((ae1 _ w).alloc (SH _) _).alloc (by simp) _).mono hb0.size)
 have abide:AbidesFrom W1.heap.size (λk W=>I k W/\W.heap[w.heap.size+1]?=some (.loop (lp .ready none))/\W.heap[w.heap.size]?=some (.deferred (some []))):=by
  intro k A B row hk hgr hr;refine⟨hI k A B row hk.1 hgr (λr e=>?_),(grownBy_keeps hgr (λr e=>(hr r e).2) hk.2.1 rfl).trans hk.2.1,(grownBy_keeps hgr (λr e=>(hr r e).2) hk.2.2 rfl).trans hk.2.2⟩;obtain⟨h2,o,ho,hw⟩:=hr r e;exact⟨by omega,o,ho,Obj.not_cells_of_walk hw⟩
 have Wq:AbidesFrom W1.heap.size (fun(_:Unit) W=>Ix W/\W.heap[w.heap.size+1]?=some (.loop (lp .done (some .ret)))/\W.heap[w.heap.size]?=some (.deferred (some []))):=by
  intro k A B row hk hgr hr;refine⟨hIx () A B row hk.1 hgr (λr e=>?_),(grownBy_keeps hgr (λr e=>(hr r e).2) hk.2.1 rfl).trans hk.2.1,(grownBy_keeps hgr (λr e=>(hr r e).2) hk.2.2 rfl).trans hk.2.2⟩;obtain⟨h2,o,ho,hw⟩:=hr r e;exact⟨by omega,o,ho,Obj.not_cells_of_walk hw⟩
 refine⟨w.heap.size+1,[{target:=.collected w.heap.size,args:=#[]}],W1,{target:=.fn (.func gf) lb,args:=#[.func (.yield (w.heap.size+1)) #[] #[]]},W1,gf,
  #[.func (.yield (w.heap.size+1)) #[] #[]]++lb,W1,?_,?_,?_,?_,λ_=>h1,?_⟩
 ·rw[<-hW1,hlp];exact run_enterLoop_outer _ _ _ _ _
 ·simp only[resolve,hg];simp[go_sem]
 ·intro f' hf';simp[Target.leads]at hf';subst hf';exact hFg
 ·simp[invoke,go_sem,eg]
 ·refine(hseq (w.heap.size+1) _ _ W1 nM abide Wq ?_ ⟨inv1,sV,rH⟩).mono ?_
  ·rintro k hk W ⟨hi,hl,hd⟩;have hy:=run_yield (P:=P) (args:=xs[k]) hl (by rw[hlp];exact hps k hk);rw[hlp]at hy;refine⟨fn,_,assign,body,hy,roundIn_of_wpIn hfn (hassign _ k hk W _ hi ?_)⟩;intro a' Wa keepA kpA iA ax;have hl2:=keepA.same _ _ (by omega) hl rfl;have hd2:=keepA.same _ _ (SH _) hd rfl;have hlt:w.heap.size+1<Wa.heap.size:=(Js.1 hl2).1;refine⟨_,run_beginRound hl2 (by rw[hlp]),?_⟩;have hl3:(Wa.putObj (w.heap.size+1) (.loop {lp .ready none with state:=.busy})).heap[w.heap.size+1]?=some (.loop {lp .ready none with state:=.busy}):=al0 hlt;have hd3:(Wa.putObj (w.heap.size+1) (.loop {lp .ready none with state:=.busy})).heap[w.heap.size]?=some (.deferred (some [])):=(ac4 (by omega)).trans hd2;have kp3:Kp Wa (Wa.putObj (w.heap.size+1) (.loop {lp .ready none with state:=.busy})):=hKb _ _ _ _ (by omega) hl2 rfl rfl;refine wpIn_mono (hbody (w.heap.size+1) k a' _ hk (by omega) (hI.putObj _ iA (by omega) hl2 rfl) ((hAx k a').putObj (s:=()) _ ax (by omega) hl2 rfl)) ?_;rintro e a3 W3 hp;cases e with
   |normal=>
    obtain⟨iZ,kp4,i3⟩:=hp;have hl4:=iZ.same _ _ (by omega) hl3 rfl;have hr:=run_endRound (P:=P) none hl4;rw[hlp]at hr;refine⟨_,_,hr,Or.inl ⟨rfl,⟨hI.putObj _ i3 (by omega) hl4 rfl,?_,?_⟩,hKt kpA (hKt (hKt kp3 kp4) (hKb _ _ _ _ (by omega) hl4 rfl rfl))⟩⟩
    ·rw[hlp];exact al0 (Js.1 hl4).1
    ·exact(ac4 (by omega)).trans (iZ.same _ _ (SH _) hd3 rfl)
   |ret=>
    obtain⟨iZ,i3⟩:=hp;have hl4:=iZ.same _ _ (by omega) hl3 rfl;have hr:=run_endRound (P:=P) (some .ret) hl4;rw[hlp]at hr;refine⟨_,_,hr,Or.inr ⟨rfl,hIx.putObj (s:=()) _ i3 (by omega) hl4 rfl,?_,?_⟩⟩
    ·rw[hlp];exact al0 (Js.1 hl4).1
    ·exact(ac4 (by omega)).trans (iZ.same _ _ (SH _) hd3 rfl)
   |exit id=>exact hp.elim
   |goto t=>exact hp.elim
   |panic ch=>exact hp.elim
   |outgrown=>exact hp.elim
  ·rintro e W2 ⟨⟨v,rfl⟩,⟨hi,hl,hd⟩|⟨hi,hl,hd⟩⟩
   ·have hr:=run_endLoop (P:=P) hl (by rw[hlp];simp);rw[hlp]at hr;exact⟨none,_,hr,hdone _ _ (SH _) (hI.putObj _ hi (by omega) hl rfl) ((ac4 (by omega)).trans hd)⟩
   ·have hr:=run_endLoop (P:=P) hl (by rw[hlp];simp);rw[hlp]at hr;exact⟨some .ret,_,hr,hstop _ _ (SH _) (hIx.putObj (s:=()) _ hi (by omega) hl rfl) ((ac4 (by omega)).trans hd)⟩
end
section
open Go.RowKit Go.Maps Go.WideMaps
section
variable {α:Type} [BEq α]
def aO(keys:List α):Nat->List (Nat×Nat)
 |0=>[]
 |k+1=>match keys[k]? with
  |some x=>if (keys.take k).contains x then aO keys k++[((keys.take k).idxOf x,k)]else aO keys k
  |none=>aO keys k
theorem kH{keys:List α}{k:Nat}(hk:k<keys.length):aO keys (k+1)=if (keys.take k).contains keys[k]then aO keys k++[((keys.take k).idxOf keys[k],k)]else aO keys k:=by
 rw[aO,SI hk]
theorem Gp{keys:List α}{k m:Nat}(h:k<=m):aO keys k <+: aO keys m:=by
 induction m with
 |zero=>
      have:k=0:=(by omega);subst this;exact ai5 _
 |succ m ih=>
  by_cases e:k=m+1
  ·subst e;exact ai5 _
  ·have h1:=ih (by omega);refine h1.trans ?_;rw[aO];split
   ·split
    ·exact an5 _ _
    ·exact ai5 _
   ·exact ai5 _
theorem BK{keys:List α}{k:Nat}(hk:k<keys.length)(hc:(keys.take k).contains keys[k]=true) :
  ∃h:(aO keys k).length<(aO keys keys.length).length,(aO keys keys.length)[(aO keys k).length]=((keys.take k).idxOf keys[k],k):=by
 have hp:=Gp (keys:=keys) (k:=k+1) (m:=keys.length) hk;rw[kH hk,ac8 hc]at hp;obtain⟨r,hr⟩:=hp;refine⟨by rw[<-hr];simp,?_⟩;rw[List.getElem_of_eq hr.symm];simp
def mM(w:World)(k b:Nat)(kv:α->Value)(l:List α):Prop:=
 ∃(D:DataW Unit) (nn:Nat),nn<=l.length/\w.ownsMap prog k (plainElem prog 3) b nn D/\
  ∀x lt,keyOf prog k (kv x)=some lt->Maps.has D lt=l.contains x/\(l.contains x=true->D.atKey lt (.lit (.int .i64 0))=.lit (.int .i64 (l.idxOf x)))
theorem mM.kept{w w':World}{k b:Nat}{kv:α->Value}{l:List α}(h:mM w k b kv l)(hb:w'.heap[b]?=w.heap[b]?):mM w' k b kv l:=by
 obtain⟨D,nn,h0,⟨es,clock,h1,h2⟩,h3⟩:=h;exact⟨D,nn,h0,⟨es,clock,hb.trans h1,h2⟩,h3⟩
theorem mM.lt{w:World}{k b:Nat}{kv:α->Value}{l:List α}(h:mM w k b kv l):b<w.heap.size:=by
 obtain⟨D,nn,_,h1,_⟩:=h;exact h1.lt
theorem mM.walk{w:World}{k b:Nat}{kv:α->Value}{l:List α}(h:mM w k b kv l):∃o:Obj,w.heap[b]?=some o/\o.isWalk=true:=by
 obtain⟨D,nn,_,⟨es,clock,h1,_⟩,_⟩:=h;exact⟨_,h1,rfl⟩
theorem qB(w:World)(k:Nat)(kv:α->Value):mM (w.alloc (.map #[] 0)) k w.heap.size kv ([]:List α):=
 ⟨.map [],0,SH _,ao3 w _ _ _,λx l _=>⟨rfl,λh=>by simp at h⟩⟩
theorem mM.again[LawfulBEq α]{w:World}{k b:Nat}{kv:α->Value}{l:List α}(h:mM w k b kv l){x:α}(hx:l.contains x=true):mM w k b kv (l++[x]):=by
 obtain⟨D,nn,h0,h1,h2⟩:=h;have hx':x∈l:=by simpa using hx
 refine⟨D,nn,by simp;omega,h1,λy lt hy=>?_⟩;have h3:=h2 y lt hy;by_cases e:y∈l
 ·have e1:(l++[x]).contains y=true:=by simp[e]
  have e2:l.contains y=true:=by simpa using e
  rw[e1];refine⟨by rw[h3.1];exact e2,λ_=>?_⟩;rw[h3.2 e2];simp[ai6,e]
 ·have hne:y≠x:=λe'=>e (by rw[e'];exact hx');have e1:(l++[x]).contains y=false:=by simp[e,hne]
  have e2:l.contains y=false:=by simpa using e
  rw[e1];exact⟨by rw[h3.1];exact e2,λh=>by cases h⟩
theorem tY[LawfulBEq α]{w':World}{k b nn:Nat}{kv:α->Value}{l:List α}{D:DataW Unit}(hinj:∀a b:α,kv a=kv b->a=b)(K:Keyed prog k)(h0:nn<=l.length)
 (h2:∀x lt,keyOf prog k (kv x)=some lt->Maps.has D lt=l.contains x/\(l.contains x=true->D.atKey lt (.lit (.int .i64 0))=.lit (.int .i64 (l.idxOf x))))
 (h4:Tidy D){x:α}{lx:Lit}(hl:keyOf prog k (kv x)=some lx)(hx:l.contains x=false)
 (h5:w'.ownsMap prog k (plainElem prog 3) b (nn+1) (D.put lx (.lit (.int .i64 l.length)))):mM w' k b kv (l++[x]):=by
 have hx':¬x∈l:=by simpa using hx
 refine⟨_,nn+1,by simp;omega,h5,λy m hm=>?_⟩;by_cases e:m=lx
 ·subst e;have:y=x:=hinj _ _ (K.inj hm hl);subst this;refine⟨by rw[has_put_same h4.isMap (K.key hl)];simp,λ_=>?_⟩;rw[atKey_put_same h4.isMap (K.key hl)];simp[ai6,hx']
 ·have hne:y≠x:=λe'=>e (by subst e';rw[hm]at hl;exact ah4 hl);rw[has_put_other e,atKey_put_other e,(h2 y m hm).1];refine⟨by simp[hne],λhy=>?_⟩;have hy':y∈l:=by simpa[hne]using hy
  rw[(h2 y m hm).2 (by simpa using hy')];simp[ai6,hy']
end
def KA(m0 X G:Nat)(W W':World):Prop:=(∀(k:Nat) (o:Obj),m0<=k->W.heap[k]?=some o->(o.isCells=true\/o.isWalk=true)->W'.heap[k]?=some o)/\W'.heap[X]?=W.heap[X]?/\W'.heap[G]?=W.heap[G]?
theorem KA.trans{m0 X G:Nat}{A B C:World}(h:KA m0 X G A B)(g:KA m0 X G B C):KA m0 X G A C:=⟨λk o hk ho hc=>g.1 k o hk (h.1 k o hk ho hc) hc,g.2.1.trans h.2.1,g.2.2.trans h.2.2⟩
end
section
open Go.RowKit Go.Maps Go.WideMaps
open aB (Key put)
theorem dD{P:Program}{t k e:TypeId}(hu:P.underlying t=some (.map k e))(q:IntKind)(z:Int)(w:World):(Instr.makeMap t (some (.int q z))).run P w=.ok (.map (some w.heap.size)) (w.alloc (.map #[] 0)):=by
 simp[Instr.makeMap,run_underlying hu,asInt];rfl
def gX(x:Nat):Value:=.int .i64 x
def OH(x:UInt8):Value:=.int .u8 x.toNat
theorem BO{a b:Nat}(h:gX a=gX b):a=b:=by simp[gX]at h;omega
theorem Sz{a b:UInt8}(h:OH a=OH b):a=b:=by
 simp[OH]at h;exact UInt8.toNat_inj.1 (by omega)
theorem OE:Keyed prog 5:=int_keyed underlying5
theorem Zx(x:UInt8):keyOf prog 5 (OH x)=some (.int .u8 x.toNat):=by
 have hw:(Lit.int .u8 x.toNat).wf=true:=WalkArith.wf_u8 (by have:=UInt8.toNat_lt x;omega);simp[keyOf,mapKey,OH,underlying5,hw]
def bZ(w:World)(G:Nat)(ts:List Key):Prop:=G<w.heap.size/\∀i (hi:i<ts.length),w.cell? ⟨G,i*3,none⟩=some (.int .u8 ts[i].1)/\w.cell? ⟨G,i*3+1,none⟩=some (.int .i64 ts[i].2.1)/\w.cell? ⟨G,i*3+2,none⟩=some (.int .i64 ts[i].2.2)
def eU(w:World)(G:Nat)(cs:List (Int×Nat)):Prop:=G<w.heap.size/\∀i (hi:i<cs.length),w.cell? ⟨G,i*2,none⟩=some (.int .u8 cs[i].1)/\w.cell? ⟨G,i*2+1,none⟩=some (.int .i64 cs[i].2)
def uz(w:World)(G:Nat)(ks:List Nat):Prop:=G<w.heap.size/\∀i (hi:i<ks.length),w.cell? ⟨G,i,none⟩=some (.int .i64 ks[i])
def pX(w:World)(G:Nat)(ks:List UInt8):Prop:=G<w.heap.size/\∀i (hi:i<ks.length),w.cell? ⟨G,i,none⟩=some (.int .u8 ks[i].toNat)
theorem bZ.below{w w':World}{b G:Nat}{ts:List Key}(h:bZ w G ts)(hb:Below b w w')(hlt:G<b):bZ w' G ts:=
 ⟨ac7 h.1 hb.size,λi hi=>⟨(hb.cell (p:=⟨G,_,none⟩) hlt).trans (h.2 i hi).1,(hb.cell (p:=⟨G,_,none⟩) hlt).trans (h.2 i hi).2.1,(hb.cell (p:=⟨G,_,none⟩) hlt).trans (h.2 i hi).2.2⟩⟩
theorem eU.below{w w':World}{b G:Nat}{cs:List (Int×Nat)}(h:eU w G cs)(hb:Below b w w')(hlt:G<b):eU w' G cs:=
 ⟨ac7 h.1 hb.size,λi hi=>⟨(hb.cell (p:=⟨G,_,none⟩) hlt).trans (h.2 i hi).1,(hb.cell (p:=⟨G,_,none⟩) hlt).trans (h.2 i hi).2⟩⟩
theorem uz.below{w w':World}{b G:Nat}{ks:List Nat}(h:uz w G ks)(hb:Below b w w')(hlt:G<b):uz w' G ks:=
 ⟨ac7 h.1 hb.size,λi hi=>(hb.cell (p:=⟨G,_,none⟩) hlt).trans (h.2 i hi)⟩
theorem pX.below{w w':World}{b G:Nat}{ks:List UInt8}(h:pX w G ks)(hb:Below b w w')(hlt:G<b):pX w' G ks:=
 ⟨ac7 h.1 hb.size,λi hi=>(hb.cell (p:=⟨G,_,none⟩) hlt).trans (h.2 i hi)⟩
theorem bZ.same{w w':World}{G:Nat}{ts:List Key}(h:bZ w G ts)(hb:w'.heap[G]?=w.heap[G]?):bZ w' G ts:=
 ⟨by have h1:=h.1;rw[ae2 h1]at hb;exact(Js.1 hb).1,λi hi=>⟨(ab9 hb).trans (h.2 i hi).1,(ab9 hb).trans (h.2 i hi).2.1,(ab9 hb).trans (h.2 i hi).2.2⟩⟩
theorem eU.same{w w':World}{G:Nat}{cs:List (Int×Nat)}(h:eU w G cs)(hb:w'.heap[G]?=w.heap[G]?):eU w' G cs:=
 ⟨by have h1:=h.1;rw[ae2 h1]at hb;exact(Js.1 hb).1,λi hi=>⟨(ab9 hb).trans (h.2 i hi).1,(ab9 hb).trans (h.2 i hi).2⟩⟩
theorem uz.same{w w':World}{G:Nat}{ks:List Nat}(h:uz w G ks)(hb:w'.heap[G]?=w.heap[G]?):uz w' G ks:=
 ⟨by have h1:=h.1;rw[ae2 h1]at hb;exact(Js.1 hb).1,λi hi=>(ab9 hb).trans (h.2 i hi)⟩
theorem pX.same{w w':World}{G:Nat}{ks:List UInt8}(h:pX w G ks)(hb:w'.heap[G]?=w.heap[G]?):pX w' G ks:=
 ⟨by have h1:=h.1;rw[ae2 h1]at hb;exact(Js.1 hb).1,λi hi=>(ab9 hb).trans (h.2 i hi)⟩
end
theorem AB{P:Program}{ops:Array Oper}{Q:Exit->Act->World->Prop}{r n:Nat}(hd:∀(i:Nat) (o:Oper),ops[i]?=some o->∀c,o.op≠.defer c)(hQ:¬LetsOut Q) :
  ∀(l:List Nat) (a:Act) (w:World),wpOps P ops Q l a w->wpOpsIn (Fence.wide.inRound r) n P ops Q l a w:=by
 intro l
 induction l with
 |nil=>intro a w h;exact h
 |cons i rest ih=>
  intro a w h;simp only[wpOps]at h;simp only[wpOpsIn];cases ho:ops[i]? with
  |none=>simp only[ho]at h ⊢;exact ih _ _ h
  |some o=>
   simp only[ho]at h ⊢;by_cases hw:Region.wanted o (yielded ops a.tmps)=true
   ·simp only[hw,ai4]at h ⊢;have h:=h.resolve_right (λhx=>hQ hx.2);unfold Oper.wp at h;unfold Oper.wpIn;refine⟨λ_ _=>trivial,?_⟩;rw[Oper.semAt_eq _ _ _ (hd i o ho)];generalize (execOp a.eval o).run P w=z at *;cases z with
    |ok x w'=>
     cases x<;>simp only[Oper.upon,Oper.uponIn]at h ⊢
     case value u=>exact ih _ _ h
     case skip=>exact ih _ _ h
     case defer d=>exact ih _ _ h
     case enter f args=>
      refine⟨λhx=>(by cases hx),ai7 r (ad9.2 (Calls.mono h λe w'' he=>?_))⟩;cases e with
      |returned u=>exact ih _ _ he
      |panicked c=>exact he
      |outgrown=>exact he
     case row row args=>
      refine⟨λhx=>(by cases hx),λc cs _=>?_⟩;obtain⟨v,w2,hv,hs⟩:=h c cs;exact⟨v,w2,ih _ _ hv,stepsIn_wide.2 hs⟩
    |halt x w'=>cases x<;>simp only[Oper.upon,Oper.uponIn]at h ⊢<;>exact h
   ·simp only[hw]at h ⊢;exact⟨λ_ _=>trivial,ih _ _ h⟩
section
variable {P:Program} {ops:Array Oper} {Q:Exit->Act->World->Prop} {md:Region.Mode} {S:World->Prop} {z:Nat}
def wpAnyL(P:Program)(md:Region.Mode)(ops:Array Oper)(Q:Exit->Act->World->Prop)(S:World->Prop)(z:Nat):Nat->Array Bool->Act->World->Prop
 |0,listed,a,w=>Region.ready md ops listed=[]/\Q .normal a w
 |fuel+1,listed,a,w=>
  (Region.ready md ops listed=[]->Q .normal a w)/\
  ∀i∈Region.ready md ops listed,wpOp P ops Q i (λa' w'=>(i≠z->S w')/\wpAnyL P md ops Q S z fuel (listed.setIfInBounds i true) a' w') a w
theorem jm:∀(fuel:Nat) (listed:Array Bool) (a:Act) (w:World),wpAnyL P md ops Q S z fuel listed a w->wpAny P md ops Q fuel listed a w
 |0,_,_,_,h=>h
 |fuel+1,_,_,_,h=>⟨h.1,λi hi=>wpOp_mono (λa' w' h'=>jm fuel _ a' w' h'.2) (h.2 i hi)⟩
def waits(md:Region.Mode)(ops:Array Oper)(z i:Nat):Bool:=match ops[z]? with|some o=>o.after.any λe=>Region.binds md e&&(e.on==i)|none=>false
theorem wpAnyL_first{i:Nat}{oi:Oper}{v:Value}(hi:ops[i]?=some oi)(hz:waits md ops z i=true)(hsel:∀(j:Nat) (o:Oper) cs b,ops[j]?=some o->o.op≠.select cs b)
 (hQ:∀c a w,Q (.panic c) (a.put oi.dst v) w->Q (.panic c) a w) :
  ∀(fuel:Nat) (listed:Array Bool) (a:Act) (w:World),
   (∀j oj,ops[j]?=some oj->j≠i->listed.getD j true=false->(∀e∈oj.after,Region.binds md e=true->e.on≠i)->oi.apart ops oj=true)->
   i∈Region.ready md ops listed->YieldsIf P ops S oi v a->S w->
   wpAnyL P md ops Q S z fuel (listed.setIfInBounds i true) (a.put oi.dst v) w->wpAnyL P md ops Q S z (fuel+1) listed a w:=by
 intro fuel
 induction fuel with
 |zero=>
  intro listed a w _ hr hy hS H;refine⟨λh=>(by rw[h]at hr;cases hr),λj hj=>?_⟩;by_cases hji:j=i
  ·subst hji;exact hy.wpOp hi hS ⟨λ_=>hS,H⟩
  ·have:=ready_mono hj hji;rw[H.1]at this;cases this
 |succ fuel ih=>
  intro listed a w hfree hr hy hS H;refine⟨λh=>(by rw[h]at hr;cases hr),λj hj=>?_⟩;by_cases hji:j=i
  ·subst hji;exact hy.wpOp hi hS ⟨λ_=>hS,H⟩
  ·obtain⟨hjun,oj,hoj,hall⟩:=mem_ready.1 hj;have hnot:∀e∈oj.after,Region.binds md e=true->e.on≠i:=λe he hb heq=>by
    have h1:=hall e he hb;have h0:=(mem_ready.1 hr).1;rw[heq]at h1;rcases Nat.lt_or_ge i listed.size with h'|h'
    ·simp[h']at h0 h1;rw[h0]at h1;cases h1
    ·simp[Array.getElem?_eq_none h']at h1
   have hjz:j≠z:=λe=>by
    subst e;unfold waits at hz;rw[hoj]at hz;simp only[Array.any_eq_true',Bool.and_eq_true,beq_iff_eq]at hz;obtain⟨e,he,hb,hon⟩:=hz;exact hnot e he hb hon
   have h2:=wpOp_putIf hoj (hfree j oj hoj hji hjun hnot) (λcs b=>hsel i oi cs b hi) (λcs b=>hsel j oj cs b hoj) hQ hy (H.2 j (ready_mono hj hji));have hfree':∀k ok,ops[k]?=some ok->k≠i->(listed.setIfInBounds j true).getD k true=false->
     (∀e∈ok.after,Region.binds md e=true->e.on≠i)->oi.apart ops ok=true:=λk ok hk hki hun hno=>by
    refine hfree k ok hk hki ?_ hno;by_cases hjk:j=k
    ·subst hjk;exact hjun
    ·rw[getD_set_ne true hjk]at hun;exact hun
   refine wpOp_mono (λa' w' h3=>⟨h3.2.1,ih (listed.setIfInBounds j true) a' w' hfree' (ready_mono hr (am5 hji)) h3.1 (h3.2.1 hjz) ?_⟩) h2;rw[Array.setIfInBounds_comm _ _ hji];exact h3.2.2
theorem DI{i:Nat}{oi:Oper}{v:Value}{fuel:Nat}{listed:Array Bool}{a:Act}{w:World}(hi:ops[i]?=some oi)(hz:waits md ops z i=true)
 (hs:Region.noSelect ops=true)(hf:Region.free md ops listed i=true)(hr:(Region.ready md ops listed).contains i=true)
 (hQ:∀c a w,Q (.panic c) (a.put oi.dst v) w->Q (.panic c) a w)(hw:Region.wanted oi (yielded ops a.tmps)=true)(hy:∀w,S w->(execOp a.eval oi).run P w=.ok (.value v) w)(hS:S w)
 (h:wpAnyL P md ops Q S z fuel (listed.setIfInBounds i true) (a.put oi.dst v) w):wpAnyL P md ops Q S z (fuel+1) listed a w:=
 wpAnyL_first hi hz (Region.noSelect_spec hs) hQ fuel listed a w (Region.free_spec hi hf) (by simpa using hr) (Or.inl ⟨hw,hy⟩) hS h
theorem FQ{i:Nat}{o:Oper}{fuel:Nat}{listed:Array Bool}{a:Act}{w:World}(hr:Region.ready md ops listed=[i])(ho:ops[i]?=some o)(hw:Region.wanted o (yielded ops a.tmps)=true)
 (h:∀K':Act->World->Prop,Shut (∀a w,(i≠z->S w)->wpAnyL P md ops Q S z fuel (listed.setIfInBounds i true) a w->K' a w)->Oper.wp P o a w K' Q) :
  wpAnyL P md ops Q S z (fuel+1) listed a w:=by
 refine⟨λh0=>(by rw[hr]at h0;cases h0),λj hj=>?_⟩;rw[hr]at hj;obtain rfl:j=i:=by simpa using hj
 refine wpOp_step ho (λK' hK=>?_);rw[ac8 hw];exact h K' (λa w hS hW=>hK a w ⟨hS,hW⟩)
theorem jA{listed:Array Bool}{a:Act}{w:World}(hr:Region.ready md ops listed=[])(h:Q .normal a w):∀fuel,wpAnyL P md ops Q S z fuel listed a w
 |0=>⟨hr,h⟩
 |_+1=>⟨λ_=>h,by rw[hr];simp⟩
theorem Ai{o:Oper}{a:Act}{w:World}{K:Act->World->Prop}(s x:Operand)(t:TypeId)(hop:o.op=Op.call {callee:=Callee.builtin Builtin.append,args:=#[s,x],argTypes:=#[t,t]})
 (base:Nat)(e:TypeId)(i:TypeInfo)(size:Nat)(h1:P.underlying t=some (.slice e))(h2:P.info? e=some i)(h4:i.size=size)
 (g k cap:Nat)(xs:List Value)(hs:a.eval s=.slice (some ⟨g,0,none⟩) k cap)(hown:w.ownsRow base e size (.slice (some ⟨g,0,none⟩) k cap) k xs)(ad:Addr)(m c:Nat)(news:List Value)(hx:a.eval x=.slice (some ad) m c)(hn:news.length=m*size)
 (hc:∀j u,news[j]?=some u->w.cell? (ad.add j)=some u)(h1c:∀u∈news,u.oneCell'=true)(b1:k+m<=cap)
 (hK:∀w',w'.ownsRow base e size (.slice (some ⟨g,0,none⟩) (k+m) cap) (k+m) (xs++news)->w.grownBy w' (some g)->K (a.put o.dst (.slice (some ⟨g,0,none⟩) (k+m) cap)) w'):Oper.wp P o a w K Q:=by
 obtain⟨w',hrun,r1,r2⟩:=run_append_fits (P:=P) w base t o.type e i size h1 h2 h4 g k cap xs hown ad m c news hn hc h1c b1;unfold Oper.wp;simp[execOp,hop,resolve,invoke,builtin,hs,hx,hrun,Result.andThen];exact hK w' r1 r2
theorem oU{r n id:Nat}{a:Act}{w:World}(S:World->Prop)(z fuel:Nat)(listed:Array Bool)(hm:P.follows .mixedOrders=true)(hf:ops.size=fuel)(hl:Array.replicate ops.size false=listed)
 (hd:(ops.all λo=>match o.op with|.defer _=>false|_=>true)=true)(hQ:¬LetsOut Q)(h:wpAnyL P .any ops Q S z fuel listed a w.drew):(Code.region id ops true).wpIn (Fence.wide.inRound r) n P Q a w:=
 wpIn_region_draw λt=>by
  simp only[Region.schedule,hm,Bool.true_or,ai4];subst hf;subst hl;refine AB (λi o ho c hc=>?_) hQ _ _ _ (wpAny_sound ops.size t _ a _ (jm _ _ _ _ h));obtain⟨hlt,he⟩:=Js.1 ho;have:=(Array.all_eq_true.1 hd) i hlt;rw[he,hc]at this;cases this
end
end Go.Proofs.YthcppbmkacbbiaaGreat
