import Derived.Test.YthcppbmkacbbiaaGreatZl
import Derived.Test.YthcppbmkacbbiaaGreatZAH
import Derived.Test.YthcppbmkacbbiaaGreatSrt
import Derived.RangeFuncBox
import Derived.Maps.OwnOps
import Derived.Deep.RegionHeldLaw
set_option linter.unusedSimpArgs false
set_option maxHeartbeats 1000000
set_option maxRecDepth 100000
namespace Go.Proofs.YthcppbmkacbbiaaGreat
open Go.Proofs.Tryz
section
open Go.RowKit Go.Maps Go.WideMaps
open au (Key put)
structure Coll{α:Type}(k:Nat)(kv:α->Value)(ts:List α)(left:Lit->Bool)(ss:List (Fin ts.length)):Prop where
 nd:ss.Nodup
 mem:∀(i:Fin ts.length) (l:Lit),keyOf prog k (kv ts[i])=some l->(i∈ss↔left l=false)
section
variable {α:Type} {k:Nat} {kv:α->Value} {ts:List α} {left:Lit->Bool} {ss:List (Fin ts.length)}
theorem Coll.start(h:∀(i:Fin ts.length) (l:Lit),keyOf prog k (kv ts[i])=some l->left l=true):Coll k kv ts left []:=
 ⟨aq8,λi l hl=>by simp[h i l hl]⟩
theorem Coll.step(K:Keyed prog k)(hinj:∀a b:α,kv a=kv b->a=b)(hnd:ts.Nodup)(h:Coll k kv ts left ss){i:Fin ts.length}{kl:Lit}(hkey:keyOf prog k (kv ts[i])=some kl)(hlk:left kl=true) :
  Coll k kv ts (λz=>left z&&!z.sameKey kl) (ss++[i]):=by
 have hnew:i∉ss:=λhx=>by have:=(h.mem i kl hkey).1 hx;rw[hlk]at this;cases this
 refine⟨aq4.2 ⟨h.nd,by simp,λa ha b hb=>by simp at hb;subst hb;exact λe=>hnew (e▸ha)⟩,λj l hl=>?_⟩;by_cases e:j=i
 ·subst e;rw[hl]at hkey;cases hkey;simp[WideAt.sameKey_self (K.key hl)]
 ·have hne:l≠kl:=λe'=>e (by
   subst e';have h1:=hinj _ _ (K.inj hl hkey);rcases as7 j.val i.val with h2|h2|h2
   ·exact absurd h1 (an5.1 hnd j.val i.val j.isLt i.isLt h2)
   ·exact Fin.ext h2
   ·exact absurd h1.symm (an5.1 hnd i.val j.val i.isLt j.isLt h2))
  rw[sameKey_ne hne];simp[h.mem j l hl,e]
theorem Coll.perm(h:Coll k kv ts left ss)(hv:∀x∈ts,∃l,keyOf prog k (kv x)=some l)(hl:∀kl,left kl=false):ss.Perm (List.finRange ts.length):=by
 refine(List.perm_ext_iff_of_nodup h.nd (List.nodup_finRange _)).2 λi=>?_;obtain⟨l,hk⟩:=hv ts[i] (af4 i.isLt);simp[(h.mem i l hk).2 (hl l),List.mem_finRange]
end
theorem bY{W W':World}{row:Option Nat}{a:Addr}{v:Value}(h:W.cell? a=some v)(hg:W.grownBy W' row)(hr:∀r,row=some r->∃o:Obj,W.heap[r]?=some o/\o.isCells=false):W'.cell? a=some v:=
 hg.cell h (λe=>by
  obtain⟨o,ho,hc⟩:=hr _ e.symm;obtain⟨o',ho',hc'⟩:=cells_of_cell h;rw[ho]at ho';cases ho';rw[hc]at hc';cases hc')
theorem lV{W W':World}{row:Option Nat}{a:Addr}{v:Value}(h:W.cell? a=some v)(hg:W.grownBy W' row)(hr:∀r,row=some r->∃o:Obj,W.heap[r]?=some o/\o.isCells=false):W'.frozen? a=W.frozen? a:=
 aj3 (hg.block a.block (af5 W a h) (λe=>by
  obtain⟨o,ho,hc⟩:=hr _ e.symm;obtain⟨o',ho',hc'⟩:=cells_of_cell h;rw[ho]at ho';cases ho';rw[hc]at hc';cases hc'))
theorem jV{W W':World}{row:Option Nat}{base e size n:Nat}{v:Value}{xs:List Value}(h:W.ownsRow base e size v n xs)(hg:W.grownBy W' row)(hr:∀r,row=some r->∃o:Obj,W.heap[r]?=some o/\o.isCells=false):W'.ownsRow base e size v n xs:=by
 refine h.kept hg ?_;rcases h.2 with⟨rfl,_⟩|⟨g,cap,cur,rfl,_,hgb,_⟩
 ·exact Or.inl rfl
 ·refine Or.inr (λe=>?_);obtain⟨o,ho,hc⟩:=hr g (by rw[<-e];rfl);rw[hgb]at ho;cases ho;cases hc
theorem fE{W:World}{base base' e size n:Nat}{v:Value}{xs:List Value}(h:W.ownsRow base e size v n xs)(hb:base'<=base):W.ownsRow base' e size v n xs:=by
 refine⟨h.1,?_⟩;rcases h.2 with hn|⟨g,cap,cur,hv,hbg,rest⟩
 ·exact .inl hn
 ·exact .inr ⟨g,cap,cur,hv,ah2 hb hbg,rest⟩
theorem dZ{W:World}{base e size n:Nat}{v:Value}{xs:List Value}(h:W.ownsRow base e size v n xs)(hn:0<n):∃g cap,v=.slice (some ⟨g,0,none⟩) n cap:=by
 rcases h.2 with⟨_,h0⟩|⟨g,cap,cur,rfl,_⟩
 ·omega
 ·exact⟨g,cap,rfl⟩
structure AI(w:World)(X base e k:Nat)(b:Bool)(len:Nat)(cells:List Value)(W:World):Prop where
 x:∃v,W.cell? ⟨X,0,none⟩=some v/\W.ownsRow base e k v len cells/\(v=.slice none 0 0↔b=true/\len=0)
 fx:W.frozen? ⟨X,0,none⟩=false
 below:Below w.heap.size w W
theorem AI.keep{w:World}{X base e k:Nat}{b:Bool}{len:Nat}{cells:List Value}{W W':World}{row:Option Nat}{B:Nat}(h:AI w X base e k b len cells W)(hg:W.grownBy W' row)
 (hw:w.heap.size<=B)(hr:∀r,row=some r->B<=r/\∃o:Obj,W.heap[r]?=some o/\o.isCells=false):AI w X base e k b len cells W':=by
 obtain⟨v,hx,hrow,hnil⟩:=h.x;have hr':∀r,row=some r->∃o:Obj,W.heap[r]?=some o/\o.isCells=false:=λr e=>(hr r e).2;refine⟨⟨v,bY hx hg hr',jV hrow hg hr',hnil⟩,(lV hx hg hr').trans h.fx,ownFrom_below (β:=Unit) (af0 _) hw () W W' row h.below hg hr⟩
theorem AI.after{w:World}{X base e k:Nat}{b:Bool}{len:Nat}{cells:List Value}{W Wc w3:World}{v:Value}
 (hXb:X<base)(h:AI w X base e k b len cells W)(hv:W.cell? ⟨X,0,none⟩=some v)(hvr:W.ownsRow base e k v len cells)(hg:W.grownBy Wc none)(hg3:Wc.grownBy w3 v.ownBlock) :
  w3.cell? ⟨X,0,none⟩=some v/\w3.frozen? ⟨X,0,none⟩=false:=by
 have hlX:=af5 W _ hv;have hnX:some X≠v.ownBlock:=λe=>by
  rcases hvr.2 with⟨rfl,_⟩|⟨g,cap,cur,rfl,hb,hgb,_⟩
  ·cases e
  ·simp only[Value.ownBlock,ak5]at e;omega
 have hX3:w3.heap[X]?=W.heap[X]?:=(hg3.block X (ah4 hlX hg.size) hnX).trans (hg.block X hlX (by simp));exact⟨(ag2 hX3).trans hv,(aj3 hX3).trans h.fx⟩
theorem AI.close{w:World}{X base e k:Nat}{b:Bool}{len:Nat}{cells news:List Value}{W Wc w3:World}{B:Nat}{a:Act}{v v':Value}{m:Nat}
 (hX:X<B)(hwX:w.heap.size<=X)(hXb:X<base)(h:AI w X base e k b len cells W)(hv:W.cell? ⟨X,0,none⟩=some v)(hvr:W.ownsRow base e k v len cells)(hg:W.grownBy Wc none)
 (hr:w3.ownsRow base e k v' (len+m) (cells++news))(hg3:Wc.grownBy w3 v.ownBlock)(hn:v'=.slice none 0 0↔v=.slice none 0 0/\m=0)(hm:m≠0) :
  iW B KeepsWalks (AI w X base e k b (len+m) (cells++news)) W .normal a (w3.setCell ⟨X,0,none⟩ v'):=by
 have hlX:=af5 W _ hv;obtain⟨o,ho,hoc⟩:=cells_of_cell hv;have hnb:∀j,v.ownBlock=some j->base<=j/\∃cur:Array Value,W.heap[j]?=some (.cells cur e (0,0)):=by
  intro j hj;rcases hvr.2 with⟨rfl,_⟩|⟨g,cap,cur,rfl,hb,hgb,_⟩
  ·cases hj
  ·cases hj;exact⟨hb,cur,hgb⟩
 have hnX:some X≠v.ownBlock:=λe=>by have:=(hnb X e.symm).1;omega
 have hX3:w3.heap[X]?=W.heap[X]?:=(hg3.block X (ah4 hlX hg.size) hnX).trans (hg.block X hlX (by simp));have hc3:w3.cell? ⟨X,0,none⟩=some v:=(ag2 hX3).trans hv;have hf3:w3.frozen? ⟨X,0,none⟩=false:=(aj3 hX3).trans h.fx;have keep:∀(j:Nat) (o:Obj),W.heap[j]?=some o->o.isCells=false->(w3.setCell ⟨X,0,none⟩ v').heap[j]?=some o:=by
  intro j o' hj hc;have hjl:=(ae8.1 hj).1;have hjX:j≠X:=λe=>by subst e;have h1:=hj.symm.trans ho;cases h1;rw[hc]at hoc;cases hoc
  refine(ag6 w3 _ _ j hjX).trans ((hg3.block j (ah4 hjl hg.size) (λe=>?_)).trans ((hg.block j hjl (by simp)).trans hj));obtain⟨cur,hcur⟩:=(hnb j e.symm).2;have h1:=hj.symm.trans hcur;cases h1;cases hc
 have hsz:W.heap.size<=(w3.setCell ⟨X,0,none⟩ v').heap.size:=by
  have h1:=ah2 hg.size hg3.size;simpa[World.setCell]using h1
 refine⟨⟨hsz,λj o _ hj hc=>keep j o hj hc⟩,⟨hsz,λj o hj hw=>keep j o hj (Obj.not_cells_of_walk hw)⟩,⟨⟨v',World.cell?_setCell_same' _ _ _ (by rw[hc3];rfl),?_,?_⟩,by rw[an9];exact hf3,?_⟩⟩
 ·refine hr.kept (grownBy_setCell' w3 X _) ?_;rcases hr.2 with⟨rfl,_⟩|⟨g,cap,cur,rfl,hb,hgb,_⟩
  ·exact Or.inl rfl
  ·refine Or.inr (λe=>?_);simp only[Value.ownBlock,ak5]at e;omega
 ·rw[hn];constructor
  ·rintro⟨_,e⟩;exact absurd e hm
  ·rintro⟨_,e⟩;omega
 ·have hb:=h.below;refine⟨hg3.os.trans (hg.os.trans hb.os),hg3.tape.trans (hg.tape.trans hb.tape),hg3.output.trans (hg.output.trans hb.output),ah2 hb.size hsz,λj hj=>?_⟩;have hjl:=ah4 hj hb.size;refine(ag6 w3 _ _ j (by show j≠X;omega)).trans ((hg3.block j (ah4 hjl hg.size) (λe=>?_)).trans ((hg.block j hjl (by simp)).trans (hb.block j hj)));have:=(hnb j e.symm).1;omega
def jF(k:Key):List Value:=[.int .u8 k.1,.int .i64 k.2.1,.int .i64 k.2.2]
def pK(k:Int×Nat):List Value:=[.int .u8 k.1,.int .i64 k.2]
theorem GR(w:World)(a:Int)(b c:Nat)(t:TypeId):∀j u,(jF (a,b,c))[j]?=some u->(w.alloc (.cells #[.int .u8 a,.int .i64 b,.int .i64 c] t)).cell? ((⟨w.heap.size,0,none⟩:Addr).add j)=some u:=by
 intro j u hj
 match j with
 |0=>simp[jF]at hj;subst hj;simp[Addr.add,go_sem]
 |1=>simp[jF]at hj;subst hj;simp[Addr.add,go_sem]
 |2=>simp[jF]at hj;subst hj;simp[Addr.add,go_sem]
 |j+3=>simp[jF]at hj
theorem SQ(w:World)(a:Int)(b:Nat)(t:TypeId):∀j u,(pK (a,b))[j]?=some u->(w.alloc (.cells #[.int .u8 a,.int .i64 b] t)).cell? ((⟨w.heap.size,0,none⟩:Addr).add j)=some u:=by
 intro j u hj
 match j with
 |0=>simp[pK]at hj;subst hj;simp[Addr.add,go_sem]
 |1=>simp[pK]at hj;subst hj;simp[Addr.add,go_sem]
 |j+2=>simp[pK]at hj
theorem JB(k:Key):∀u∈jF k,u.oneCell'=true:=by intro u hu;simp[jF]at hu;rcases hu with rfl|rfl|rfl<;>rfl
theorem WS(k:Int×Nat):∀u∈pK k,u.oneCell'=true:=by intro u hu;simp[pK]at hu;rcases hu with rfl|rfl<;>rfl
end
section
open Go.RowKit Go.Maps Go.WideMaps
theorem I7{P:Program}{ops:Array Oper}{Q:Exit->Act->World->Prop}{md:Region.Mode}{S:World->Prop}{i:Nat}{o:Oper}{fuel:Nat}{listed:Array Bool}{a:Act}{w:World}(hr:Region.ready md ops listed=[i])(ho:ops[i]?=some o)(hw:Region.wanted o (yielded ops a.tmps)=true)
 (h:∀K':Act->World->Prop,Shut (∀a w,S w->wpAnyH P md ops Q S fuel (listed.setIfInBounds i true) a w->K' a w)->Oper.wp P o a w K' Q) :
  wpAnyH P md ops Q S (fuel+1) listed a w:=by
 refine⟨λh0=>(by rw[hr]at h0;cases h0),λj hj=>?_⟩;rw[hr]at hj;obtain rfl:j=i:=by simpa using hj
 refine wpOp_step ho (λK' hK=>?_);rw[af9 hw];exact h K' (λa w hS hW=>hK a w ⟨hS,hW⟩)
theorem KF(W:World)(a b c d:Obj):((((W.alloc a).alloc b).alloc c).alloc d).drew=Go.Sort.grow (W.drewN 1) #[a,b,c,d]:=by
 rw[ar4,ar4,ar4,ar4,Go.Sort.drew_grow,Go.Sort.grow_grow,Go.Sort.grow_grow,Go.Sort.drew_grow,Go.Sort.grow_grow];rfl
def fK(a b:Int):Int:=if a<b then -1 else if b<a then 1 else 0
theorem mJ(a b:Int)(w:World):Calls prog 115 #[.int .i64 a,.int .i64 b] w λe w'=>e=.returned (.int .i64 (fK a b))/\w'=w:=by
 have e1:(a != a)=false:=by simp
 have e2:(b != b)=false:=by simp
 unfold fK;by_cases h1:a<b
 ·rw[af9 h1]
  go_enter func115,ntmps115
  go_wp2
  go_ret
  exact⟨rfl,rfl⟩
 ·rw[af6 h1];by_cases h2:b<a
  ·rw[af9 h2]
   go_enter func115,ntmps115
   go_wp2
   go_ret
   exact⟨rfl,rfl⟩
  ·rw[af6 h2]
   go_enter func115,ntmps115
   go_wp2
   go_ret
   exact⟨rfl,rfl⟩
theorem aP.look{α:Type}[BEq α][LawfulBEq α]{w:World}{k b:Nat}{kv:α->Value}{ts:List α}(hM:aP w k b kv ts)(K:Keyed prog k){t:TypeId}(ht:prog.underlying t=some (.map k 3)){x:α}(hx:x∈ts){l:Lit}(hl:keyOf prog k (kv x)=some l) :
  (Instr.lookup t (.map (some b)) (kv x) false).run prog w=.ok (.int .i64 (ts.idxOf x)) w:=by
 obtain⟨D,hown,_,hall,_⟩:=hM;obtain⟨c,hrun,hat,_⟩:=hown.lookup_int K ht underlying3 (zeroE w) hl;have h1:=(hall x l hl).2 (by simpa using hx);rw[h1]at hat;simp at hat;rw[hrun,<-hat]
theorem aP.looks{α:Type}[BEq α][LawfulBEq α]{w:World}{k b:Nat}{kv:α->Value}{ts:List α}(hM:aP w k b kv ts)(K:Keyed prog k){t:TypeId}(ht:prog.underlying t=some (.map k 3)){x:α}(hx:x∈ts){l:Lit}(hl:keyOf prog k (kv x)=some l) :
  ∀W',w.grownBy W' none->(Instr.lookup t (.map (some b)) (kv x) false).run prog W'=.ok (.int .i64 (ts.idxOf x)) W':=
 λ_ hg=>(hM.kept (hg.block b hM.lt (by simp))).look K ht hx hl
end
section
open Go.RowKit
open au (St put)
theorem Ju(s:ByteArray):∀a,pk s a≠0->a<s.size:=λ_ h=>dD h
theorem iy{N n:Nat}{σ:St}(h1:1<=n)(h2:σ.E=0->N+1-σ.a<=n):au.need N σ<=n:=by
 unfold au.need;split
 ·exact h2 ‹_›
 ·exact h1
theorem LH(B:Nat)(s:ByteArray)(on:Bool)(k1 k2:Value)(n:Nat)(hs:s.size<=100)(hT:oN B s on k1 k2 n):oN B s on k1 k2 (n+1):=by
 intro w σ hr hn h;have hpk:=Ju s;unfold au.aJ;cases hO:au.aX (pk s) au.letters σ with
 |mk σ1 c=>
  have f1:=au.iL hpk au.GY hr.top;have d1:=au.oU (pk s) au.letters σ;rw[hO]at f1 d1;simp only at f1 d1;have hfit:∀τ:St,au.Fw s.size σ τ->τ.T.length<=500:=λτ f=>by
   have:=f.t;have:=f.top;have:=hr.t;have:=f.le;omega
  by_cases h102:c=102
  ·subst h102;obtain⟨q1,q2⟩:=au.X9 (pk s) au.letters σ (by rw[hO];simp);obtain⟨q3,q4,q5⟩:=au.uO (pk s) au.letters σ q1;rw[hO]at q5;have e1:σ1={σ with a:=σ.a+1}:=ap7 Prod.fst q5;have hlt:σ.a<s.size:=hpk _ (λe=>by rw[e]at q4;simp[au.letters]at q4);have hE1:σ1.E=0:=(by rw[e1];exact q3);have hd1:σ1.d<=8:=(by rw[d1];exact hr.d8 q3);have hr1:au.iJ s.size σ1:=hr.fw f1 d1;have hr2:=hr1.open hpk hd1;have hn':s.size+1-σ.a<=n+1:=(by unfold au.need at hn;rw[af9 q3]at hn;exact hn);have hn2:au.need s.size (au.aC (pk s) σ1)<=n:=iy (by omega) (λe=>by
    have:=au.jK (pk s) σ1 e;rw[this.2.2.2,e1];simp;omega)
   have f2:=au.gX hpk hr1.top;have f3:=au.gW hpk s.data.toList n (au.aC (pk s) σ1) f2.top;have hIn:au.yM (pk s) (λτ=>(au.aJ s.data.toList (pk s) n τ).1) 102 σ1=au.bM (pk s) (au.aJ s.data.toList (pk s) n (au.aC (pk s) σ1)).1:=(by unfold au.yM;rw[af9 rfl]);simp only[hIn];obtain⟨f3,d3⟩:=f3;rw[au.kK]at d3;generalize h3:(au.aJ s.data.toList (pk s) n (au.aC (pk s) σ1)).1=σ3 at f3 d3;have f4:=au.jw hpk f3.top;have ff:=((f1.trans f2).trans f3).trans f4;generalize ht:au.bM (pk s) σ3=τ at f4 ff;have hd3:1<=σ3.d/\σ3.d<=9:=(by omega);by_cases hE:τ.E=0
   ·cases hc:τ.T.contains (au.cut s.data.toList σ.a τ.a)with
    |true=>
     rw[Ac hE hc];exact IX w B s σ on k1 k2 hs hr n σ1 (aj hO) hr1.top hd1 hr2 hn2 hT σ3 (aj h3) f3.top hd3 τ (aj ht) (aj hE) ff.le ff.top (hfit τ ff) _ (aj rfl) (aj hc) h
    |false=>
     rw[Ad hE hc];exact IY w B s σ on k1 k2 hs hr n σ1 (aj hO) hr1.top hd1 hr2 hn2 hT σ3 (aj h3) f3.top hd3 τ (aj ht) (aj hE) ff.le ff.top (hfit τ ff) _ (aj rfl) (aj hc) h
   ·rw[Ae hE];exact IZ w B s σ on k1 k2 hs hr n σ1 (aj hO) hr1.top hd1 hr2 hn2 hT σ3 (aj h3) f3.top hd3 τ (aj ht) (aj hE) h
  ·by_cases h103:c=103
   ·subst h103;obtain⟨q1,q2⟩:=au.X9 (pk s) au.letters σ (by rw[hO];simp);obtain⟨q3,q4,q5⟩:=au.uO (pk s) au.letters σ q1;rw[hO]at q5;have e1:σ1={σ with a:=σ.a+1}:=ap7 Prod.fst q5;have hlt:σ.a<s.size:=hpk _ (λe=>by rw[e]at q4;simp[au.letters]at q4);have hE1:σ1.E=0:=(by rw[e1];exact q3);have hd1:σ1.d<=8:=(by rw[d1];exact hr.d8 q3);have hr1:au.iJ s.size σ1:=hr.fw f1 d1;have hr2:=hr1.open hpk hd1;have hn':s.size+1-σ.a<=n+1:=(by unfold au.need at hn;rw[af9 q3]at hn;exact hn);have ha1:σ1.a=σ.a+1:=(by rw[e1]);have hn2:au.need s.size (au.aC (pk s) σ1)<=n:=iy (by omega) (λe=>by
     have:=au.jK (pk s) σ1 e;rw[this.2.2.2,e1];simp;omega)
    have f2:=au.gX hpk hr1.top;have f3:=au.gW hpk s.data.toList n (au.aC (pk s) σ1) f2.top;have hIn:au.yM (pk s) (λτ=>(au.aJ s.data.toList (pk s) n τ).1) 103 σ1=au.bM (pk s) (au.aJ s.data.toList (pk s) n (au.aX (pk s) [44] (au.aJ s.data.toList (pk s) n (au.aC (pk s) σ1)).1).1).1:=by
     unfold au.yM;rw[af6 (by decide),af9 rfl]
    simp only[hIn];have hr3:=hr2.fw f3.1 f3.2;obtain⟨f3,d3⟩:=f3;rw[au.kK]at d3;generalize h3:(au.aJ s.data.toList (pk s) n (au.aC (pk s) σ1)).1=σ3 at f3 d3 hr3;have f4:=au.iL hpk (l:=[44]) (by rfl) f3.top;have d4:=au.oU (pk s) [44] σ3;have hr4:=hr3.fw f4 d4;cases h4:au.aX (pk s) [44] σ3 with
    |mk σ4 c4=>
     rw[h4]at f4 d4 hr4;simp only at f4 d4 hr4;have hn4:au.need s.size σ4<=n:=iy (by omega) (λ_=>by have:=f4.le;have:=f3.le;have:=f2.le;omega);have f5:=au.gW hpk s.data.toList n σ4 f4.top;obtain⟨f5,d5⟩:=f5;simp only;generalize h5:(au.aJ s.data.toList (pk s) n σ4).1=σ5 at f5 d5;have f6:=au.jw hpk f5.top;have ff:=((((f1.trans f2).trans f3).trans f4).trans f5).trans f6;generalize ht:au.bM (pk s) σ5=τ at f6 ff;have hd5:1<=σ5.d/\σ5.d<=9:=(by omega);by_cases hE:τ.E=0
     ·cases hc:τ.T.contains (au.cut s.data.toList σ.a τ.a)with
      |true=>
       rw[Ac hE hc];exact IU w B s σ on k1 k2 hs hr n σ1 (aj hO) hr1.top hd1 hr2 hn2 hT σ3 (aj h3) f3.top σ4 c4 (aj h4) hr4 hn4 σ5 (aj h5) f5.top hd5 τ (aj ht) (aj hE) ff.le ff.top (hfit τ ff) _ (aj rfl) (aj hc) h
      |false=>
       rw[Ad hE hc];exact IV w B s σ on k1 k2 hs hr n σ1 (aj hO) hr1.top hd1 hr2 hn2 hT σ3 (aj h3) f3.top σ4 c4 (aj h4) hr4 hn4 σ5 (aj h5) f5.top hd5 τ (aj ht) (aj hE) ff.le ff.top (hfit τ ff) _ (aj rfl) (aj hc) h
     ·rw[Ae hE];exact IW w B s σ on k1 k2 hs hr n σ1 (aj hO) hr1.top hd1 hr2 hn2 hT σ3 (aj h3) f3.top σ4 c4 (aj h4) hr4 hn4 σ5 (aj h5) f5.top hd5 τ (aj ht) (aj hE) h
   ·have hIn:au.yM (pk s) (λτ=>(au.aJ s.data.toList (pk s) n τ).1) c σ1=σ1:=(by unfold au.yM;rw[af6 h102,af6 h103]);simp only[hIn];have b1:(c==102)=false:=(by simpa using h102);have b2:(c==103)=false:=(by simpa using h103);by_cases hE:σ1.E=0
    ·cases hc:σ1.T.contains (au.cut s.data.toList σ.a σ1.a)with
     |true=>
      rw[Ac hE hc];exact BN w B s σ on k1 k2 hs hr σ1 c (aj hO) b1 b2 (aj hE) f1.le f1.top (hfit _ f1) _ (aj rfl) (aj hc) h
     |false=>
      rw[Ad hE hc];exact BO w B s σ on k1 k2 hs hr σ1 c (aj hO) b1 b2 (aj hE) f1.le f1.top (hfit _ f1) _ (aj rfl) (aj hc) h
    ·rw[Ae hE];exact BQ w B s σ on k1 k2 hs hr σ1 c (aj hO) b1 b2 (aj hE) h
theorem zS{N:Nat}{σ:St}(h:σ.a<=N):1<=au.need N σ:=by unfold au.need;split<;>omega
theorem dO(B:Nat)(s:ByteArray)(on:Bool)(k1 k2:Value)(hs:s.size<=100):∀n,oN B s on k1 k2 n
 |0=>λw σ hr hn h=>absurd hn (by have:=zS hr.top;omega)
 |n+1=>LH B s on k1 k2 n hs (dO B s on k1 k2 hs n)
end
namespace au
section
variable {pk:Nat->Int} {N:Nat}
theorem gB{pk:Nat->Int}{σ:St}{c:Int}(h:aH pk σ c=true):σ.E=0/\pk σ.a=c:=by simpa[aH]using h
theorem oK(hpk:∀a,pk a≠0->a<N){σ:St}{c:Int}(hc:c≠0)(h:aH pk σ c=true):Fw N σ {σ with a:=σ.a+1}:=by
 obtain⟨h1,h2⟩:=gB h;have:=hpk σ.a (by omega);exact⟨by simp,by simp;omega,by simp,by simp,λe=>by simpa using e⟩
theorem TB{l:List UInt8}{σ τ:St}{x:Nat}(f:Fw N {σ with a:=σ.a+1} τ):Fw N σ (fC l x τ)/\(fC l x τ).d=τ.d:=by
 have h1:=f.le;have h2:=f.t;have h3:=f.c;have h4:=f.dead
 simp at h1 h2 h3 h4;unfold fC;split
 ·have:=dW τ.C (cut l x τ.a);exact⟨⟨by simp;omega,f.top,by simp;omega,by simp;omega,λe=>by simpa using h4 e⟩,rfl⟩
 ·exact⟨⟨by omega,f.top,by omega,by omega,h4⟩,rfl⟩
theorem mg(hpk:∀a,pk a≠0->a<N)(l:List UInt8):∀(n:Nat) (σ:St),σ.a<=N->Fw N σ (aI l pk n σ)/\(aI l pk n σ).d=σ.d:=by
 intro n
 induction n with
 |zero=>intro σ h;exact⟨Fw.refl h,rfl⟩
 |succ n ih=>
  intro σ h;unfold aI;split
  ·rename_i h33;have f1:=oK hpk (by omega) h33;have g:=ih _ f1.top;exact⟨f1.trans g.1,g.2⟩
  ·split
   ·rename_i h8;have f1:Fw N σ {σ with a:=σ.a+1}:=by
     simp at h8;rcases h8 with h8|h8
     ·exact oK hpk (by omega) h8
     ·exact oK hpk (by omega) h8
    have f2:=gX hpk f1.top;have f3:=gW hpk l (n+1) _ f2.top;have f4:=jw hpk f3.1.top;have k:=TB (l:=l) (x:=σ.a) ((f2.trans f3.1).trans f4);refine⟨k.1,?_⟩;rw[k.2,Ec,f3.2,kK];simp
   ·split
    ·have f2:=gX hpk h;have f3:=ih _ f2.top;have f4:=iL hpk (l:=[38,124,62,45]) (by rfl) f3.1.top;have f5:=ih _ f4.top;have f6:=jw hpk f5.1.top;refine⟨(((f2.trans f3.1).trans f4).trans f5.1).trans f6,?_⟩;rw[Ec,f5.2,oU,f3.2,kK];omega
    ·have f3:=gW hpk l (n+1) _ h;have f4:=iL hpk (l:=[61]) (by rfl) f3.1.top;have f5:=gW hpk l (n+1) _ f4.top;refine⟨(f3.1.trans f4).trans f5.1,?_⟩;rw[f5.2,oU,f3.2]
end
end au
section
open Go.RowKit
open au (St put)
def BM(B:Nat)(s:ByteArray)(k1 k2:Value)(n:Nat):Prop:=
 ∀(w:World) (σ:St),au.iJ s.size σ->au.need s.size σ<=n->RI w B s σ false k1 k2->
  Calls prog 98 #[.pointer (some ⟨B,0,none⟩)] w λe w'=>(∃b:Bool,e=.returned (.bool b))/\RI w' B s (au.aI s.data.toList (pk s) n σ) false k1 k2/\Below B w w'
section
variable (w:World) (B:Nat) (s:ByteArray) (σ:St) (k1 k2:Value)
theorem ZW(hs:s.size<=100)(_hr:au.iJ s.size σ)(n:Nat)(H33:Hid (au.aH (pk s) σ 33=true))(hlt:σ.a<s.size)(hr1:au.iJ s.size {σ with a:=σ.a+1})(hn1:au.need s.size {σ with a:=σ.a+1}<=n)(hF:BM B s k1 k2 n)(h:RI w B s σ false k1 k2) :
  Calls prog 98 #[.pointer (some ⟨B,0,none⟩)] w λe w'=>(∃b:Bool,e=.returned (.bool b))/\RI w' B s (au.aI s.data.toList (pk s) n {σ with a:=σ.a+1}) false k1 k2/\Below B w w':=by
 have c1':=h.c1
 go_enter func98,ntmps98
 go_wp2_with fail
 refine(aO w B s σ false k1 k2 33 (by omega) h).mono ?_;rw[ah H33];rintro e w1 ⟨rfl,h1,b1⟩;have c1:=h1.c1;have f1:=h1.fz 1
 go_wp2_with fail
 refine(hF _ {σ with a:=σ.a+1} hr1 hn1 (h1.set1 (by omega))).mono ?_;rintro e w2 ⟨⟨b,rfl⟩,hI,hB⟩
 go_wp2_with fail
 go_ret
 exact⟨⟨_,rfl⟩,hI,(b1.trans (bH _ _ _ _)).trans hB⟩
theorem acw(hs:s.size<=100)(hr:au.iJ s.size σ)(n:Nat)(H33:Hid (au.aH (pk s) σ 33=false))(H80:Hid (au.aH (pk s) σ 80=false))(H81:Hid (au.aH (pk s) σ 81=false))(H40:Hid (au.aH (pk s) σ 40=false))(hn:au.need s.size σ<=n+1)(σ5:St)(H5:Hid ((au.aJ s.data.toList (pk s) (n+1) σ).1=σ5))(h5a:σ5.a<=s.size)(σ6:St)(c6':Int)(H6:Hid (au.aX (pk s) [61] σ5=(σ6,c6')))(hr6:au.iJ s.size σ6)(hn6:au.need s.size σ6<=n+1)(h:RI w B s σ false k1 k2) :
  Calls prog 98 #[.pointer (some ⟨B,0,none⟩)] w λe w'=>(∃b:Bool,e=.returned (.bool b))/\RI w' B s ((au.aJ s.data.toList (pk s) (n+1) σ6).1) false k1 k2/\Below B w w':=by
 have c1':=h.c1
 go_enter func98,ntmps98
 go_wp2_with fail
 refine(aO w B s σ false k1 k2 33 (by omega) h).mono ?_;rw[ah H33];rintro e w1 ⟨rfl,h1,b1⟩
 go_wp2_with fail
 refine(aO w1 B s σ false k1 k2 80 (by omega) h1).mono ?_;rw[ah H80];rintro e w2 ⟨rfl,h2,b2⟩
 go_wp2_with fail
 refine(aO w2 B s σ false k1 k2 81 (by omega) h2).mono ?_;rw[ah H81];rintro e w3 ⟨rfl,h3,b3⟩
 go_wp2_with fail
 refine(aO w3 B s σ false k1 k2 40 (by omega) h3).mono ?_;rw[ah H40];rintro e w4 ⟨rfl,h4,b4⟩
 go_wp2_with fail
 refine(dO B s false k1 k2 hs (n+1) w4 σ hr hn h4).mono ?_;rw[ah H5];generalize (au.aJ s.data.toList (pk s) (n+1) σ).2=z5;rintro e w5 ⟨rfl,h5,b5⟩
 go_wp2_with fail
 refine(dG w5 B s σ5 false k1 k2 _ [61] TL (by decide) (by decide) hs h5a h5).mono ?_;rw[ah H6];rintro e w6 ⟨rfl,h6,b6⟩;simp only at h6
 go_wp2_with fail
 refine(dO B s false k1 k2 hs (n+1) w6 σ6 hr6 hn6 h6).mono ?_;generalize (au.aJ s.data.toList (pk s) (n+1) σ6).2=z7;rintro e w7 ⟨rfl,h7,b7⟩;have c6:=h7.c6;have hB:=(((((b1.trans b2).trans b3).trans b4).trans b5).trans b6).trans b7;clear b1 b2 b3 b4 b5 b6 b7 h1 h2 h3 h4 h5 h6
 go_wp2_with fail
 go_quiet (fail)
 go_wp2_with fail
 go_ret
 exact⟨⟨_,rfl⟩,h7.drewN _,hB.trans (below_drewN _ _ _)⟩
end
section
variable (w:World) (B:Nat) (s:ByteArray) (σ:St) (k1 k2:Value)
theorem acy(hs:s.size<=100)(hr:au.iJ s.size σ)(n:Nat)(H33:Hid (au.aH (pk s) σ 33=false))(H80:Hid (au.aH (pk s) σ 80=false))(H81:Hid (au.aH (pk s) σ 81=false))(H40:Hid (au.aH (pk s) σ 40=true))(hd8:σ.d<=8)(hr5:au.iJ s.size (au.aC (pk s) σ))(hn5:au.need s.size (au.aC (pk s) σ)<=n)(hF:BM B s k1 k2 n)(σ6:St)(H6:Hid (au.aI s.data.toList (pk s) n (au.aC (pk s) σ)=σ6))(h6a:σ6.a<=s.size)(σ7:St)(c7:Int)(H7:Hid (au.aX (pk s) [38,124,62,45] σ6=(σ7,c7)))(hr7:au.iJ s.size σ7)(hn7:au.need s.size σ7<=n)(σ8:St)(H8:Hid (au.aI s.data.toList (pk s) n σ7=σ8))(h8a:σ8.a<=s.size)(h8d:1<=σ8.d/\σ8.d<=9)(h:RI w B s σ false k1 k2) :
  Calls prog 98 #[.pointer (some ⟨B,0,none⟩)] w λe w'=>(∃b:Bool,e=.returned (.bool b))/\RI w' B s (au.bM (pk s) σ8) false k1 k2/\Below B w w':=by
 have c1':=h.c1
 go_enter func98,ntmps98
 go_wp2_with fail
 refine(aO w B s σ false k1 k2 33 (by omega) h).mono ?_;rw[ah H33];rintro e w1 ⟨rfl,h1,b1⟩
 go_wp2_with fail
 refine(aO w1 B s σ false k1 k2 80 (by omega) h1).mono ?_;rw[ah H80];rintro e w2 ⟨rfl,h2,b2⟩
 go_wp2_with fail
 refine(aO w2 B s σ false k1 k2 81 (by omega) h2).mono ?_;rw[ah H81];rintro e w3 ⟨rfl,h3,b3⟩
 go_wp2_with fail
 refine(aO w3 B s σ false k1 k2 40 (by omega) h3).mono ?_;rw[ah H40];rintro e w4 ⟨rfl,h4,b4⟩
 go_wp2_with fail
 refine(dB w4 B s σ false k1 k2 hs hr.top hd8 h4).mono ?_;rintro e w5 ⟨rfl,h5,b5⟩
 go_wp2_with fail
 refine(hF w5 _ hr5 hn5 h5).mono ?_;rw[ah H6];rintro e w6 ⟨⟨x6,rfl⟩,h6,b6⟩
 go_wp2_with fail
 refine(dG w6 B s σ6 false k1 k2 _ [38,124,62,45] Yb (by decide) (by decide) hs h6a h6).mono ?_;rw[ah H7];rintro e w7 ⟨rfl,h7,b7⟩;simp only at h7
 go_wp2_with fail
 refine(hF w7 _ hr7 hn7 h7).mono ?_;rw[ah H8];rintro e w8 ⟨⟨x8,rfl⟩,h8,b8⟩
 go_wp2_with fail
 refine(dA w8 B s σ8 false k1 k2 hs h8a h8d.2 h8d.1 h8).mono ?_;rintro e w9 ⟨rfl,h9,b9⟩;have hB:=(((((((b1.trans b2).trans b3).trans b4).trans b5).trans b6).trans b7).trans b8).trans b9;clear b1 b2 b3 b4 b5 b6 b7 b8 b9 h1 h2 h3 h4 h5 h6 h7 h8
 go_wp2_with fail
 all_goals
  go_ret
  exact⟨⟨_,rfl⟩,h9,hB⟩
end
end
section
open Go.RowKit Go.Maps Go.WideMaps Go.Sort
def VJ(m0 Mb BT:Nat)(W W':World):Prop:=(∀(k:Nat) (o:Obj),m0<=k->W.heap[k]?=some o->o.isCells=true->W'.heap[k]?=some o)/\W'.heap[Mb]?=W.heap[Mb]?/\W'.heap[BT]?=W.heap[BT]?
theorem VJ.trans{m0 Mb BT:Nat}{A B C:World}(h:VJ m0 Mb BT A B)(g:VJ m0 Mb BT B C):VJ m0 Mb BT A C:=⟨λk o hk ho hc=>g.1 k o hk (h.1 k o hk ho hc) hc,g.2.1.trans h.2.1,g.2.2.trans h.2.2⟩
theorem flat_get{α:Type}{f:α->List Value}{k:Nat}(hk:∀x,(f x).length=k)(k0:0<k):∀(ss:List α) (i:Nat) (hi:i<ss.length) (c:Nat),c<k->(ss.flatMap f)[i*k+c]?=(f ss[i])[c]?
 |[],i,hi,_,_=>absurd hi (by simp)
 |x::r,0,_,c,hc=>by
  rw[ao5,au5,ap0,ak3 (by rw[hk];exact hc)];rfl
 |x::r,i+1,hi,c,hc=>by
  rw[ao5,ap8 (by rw[hk,ap5];omega),hk];have e:(i+1)*k+c-k=i*k+c:=by rw[ap5];omega
  rw[e,flat_get hk k0 r i (by simpa using hi) c hc];rfl
theorem Vd(a b:Int):fK a b<0↔a<b:=by
 unfold fK;by_cases h:a<b
 ·simp[h]
 ·by_cases h2:b<a
  ·simp[h,h2]
  ·simp[h,h2]
theorem kV{n:Nat}(i j:Fin n):(ltOf λi j:Fin n=>fK i.val j.val) i j=decide (i.val<j.val):=by
 show decide (fK i.val j.val<0)=decide (i.val<j.val)
 rw[decide_eq_decide,Vd];omega
theorem vZ(n:Nat):SWO (ltOf λi j:Fin n=>fK i.val j.val):=by
 constructor
 ·intro x;rw[kV];simp
 ·intro x y z;rw[kV,kV,kV];simp only[ak4];omega
 ·intro x y z;rw[kV,kV,kV];simp only[decide_eq_false_iff_not];omega
theorem vY{n:Nat}(i j:Fin n)(h1:(ltOf λi j:Fin n=>fK i.val j.val) i j=false)(h2:(ltOf λi j:Fin n=>fK i.val j.val) j i=false):i=j:=by
 rw[kV]at h1 h2;simp at h1 h2;exact Fin.ext (by omega)
theorem uw{n:Nat}{ss:List (Fin n)}(hp:ss.Perm (List.finRange n)):(ss.mergeSort λx y=>!(ltOf λi j:Fin n=>fK i.val j.val) y x)=List.finRange n:=by
 have hle:∀a b:Fin n,(!(ltOf λi j:Fin n=>fK i.val j.val) b a)=decide (a.val<=b.val):=λa b=>by
  rw[kV];by_cases h:b.val<a.val
  ·simp[h]
  ·simp[h];omega
 have e:(λx y:Fin n=>!(ltOf λi j:Fin n=>fK i.val j.val) y x)=λx y=>decide (x.val<=y.val):=funext λa=>funext λb=>hle a b;rw[e];refine List.Perm.eq_of_pairwise (le:=λa b:Fin n=>a.val<=b.val) (λa b _ _ h1 h2=>Fin.ext (by omega)) ?_ ?_ ((List.mergeSort_perm ss _).trans hp)
 ·have h:=List.pairwise_mergeSort (le:=λx y:Fin n=>decide (x.val<=y.val)) (λa b c h1 h2=>by simp at *;omega) (λa b=>by simp;omega) ss;exact h.imp (λhx=>by simpa using hx)
 ·refine an5.2 λi j hi hj hij=>?_;simp only[List.getElem_finRange];simp;omega
theorem wV{α:Type}[Inhabited α]{f:α->List Value}{k:Nat}(hk:∀x,(f x).length=k)(k0:0<k){w:World}{g e:Nat}{cur:Array Value}{ss:List α}(hb:w.heap[g]?=some (.cells cur e (0,0)))(ht:cur.toList.take (ss.length*k)=ss.flatMap f):HoldsK f k w g 0 ss.toArray:=by
 intro j hj;have hj':j<ss.length*k:=by simpa using hj
 refine⟨?_,by simp[World.frozen?,hb]⟩;have hdiv:j/k<ss.length:=Nat.div_lt_of_lt_mul (by rw[Nat.mul_comm];exact hj');have hmod:j%k<k:=Nat.mod_lt _ k0;have hjj:j/k*k+j%k=j:=by rw[Nat.mul_comm];exact Nat.div_add_mod j k
 have h1:(cur.toList.take (ss.length*k))[j]?=(ss.flatMap f)[j]?:=by rw[ht]
 rw[List.getElem?_take_of_lt hj']at h1;have h2:=flat_get hk k0 ss (j/k) hdiv (j%k) hmod;rw[hjj]at h2;rw[h2]at h1;simp only[World.cell?,hb,ap0];simp only[Option.isSome_none,aq0,aq3];rw[<-Array.getElem?_toList,h1,get_flatK _ _ _ _ (by simpa using hj')];rw[ar1 ss.toArray (j/k) (by simpa using hdiv),ar1 (f _) (j%k) (by rw[hk];exact hmod)];simp
theorem gG{α:Type}[Inhabited α](f:α->List Value)(k:Nat)(w:World)(g n:Nat)(d:Array α)(os:Array Obj):w.grownBy (sortWorldK f k w g 0 n d os) (some g):=by
 refine⟨rfl,rfl,rfl,by simp[sortWorldK,putRowK],λj hj hne=>?_⟩;unfold sortWorldK putRowK;rw[heap_grow_old _ _ (by simpa using hj)];have:g≠j:=λe=>hne (by rw[e]);simp[putRow,mapBlock,Sort.ahead,ar5,this]
end
open Go.RowKit Go.Maps Go.WideMaps
structure LI(w:World)(X G n e kn S:Nat)(T:List Value)(k:Nat)(W:World):Prop where
 x:W.cell? ⟨X,0,none⟩=some (.slice (some ⟨G,0,none⟩) k n)
 fx:W.frozen? ⟨X,0,none⟩=false
 row:W.ownsRow w.heap.size e kn (.slice (some ⟨G,0,none⟩) k n) k (T.take (k*kn))
 below:Below w.heap.size w W
 sz:S<=W.heap.size
section
variable {w:World} {X G n e kn S:Nat} {T:List Value} {k:Nat} {W:World}
theorem LI.lt(h:LI w X G n e kn S T k W):X<W.heap.size/\G<W.heap.size:=⟨af5 W _ h.x,(h.row.lt G rfl).2⟩
theorem LI.own(B:Nat)(hw:w.heap.size<=B):OwnFrom B (LI w X G n e kn S T):=by
 intro k W W' row h hg hr;have hr':∀r,row=some r->∃o:Obj,W.heap[r]?=some o/\o.isCells=false:=λr e=>(hr r e).2;exact⟨bY h.x hg hr',(lV h.x hg hr').trans h.fx,jV h.row hg hr',ownFrom_below (β:=Unit) (af0 _) hw () W W' row h.below hg hr,ah2 h.sz hg.size⟩
theorem LI.close{B Mb BT:Nat}{a:Act}{Wc w4:World}{news:List Value}(hX:X<B)(hG:G<B)(hwX:w.heap.size<=X)(hwG:w.heap.size<=G)(hXG:X≠G)(hXM:X≠Mb)(hXT:X≠BT)(hGM:G≠Mb)(hGT:G≠BT)(hMb:Mb<W.heap.size)(hBT:BT<W.heap.size)
 (h:LI w X G n e kn S T k W)(hg:W.grownBy Wc none)(hn:T.take ((k+1)*kn)=T.take (k*kn)++news)
 (r1:w4.ownsRow w.heap.size e kn (.slice (some ⟨G,0,none⟩) (k+1) n) (k+1) (T.take (k*kn)++news))(r2:Wc.grownBy w4 (some G)) :
  iW B (VJ B Mb BT) (LI w X G n e kn S T (k+1)) W .normal a (w4.setCell ⟨X,0,none⟩ (.slice (some ⟨G,0,none⟩) (k+1) n)):=by
 have hlX:=h.lt.1;have hs:∀j,j<W.heap.size->j≠X->j≠G->(w4.setCell ⟨X,0,none⟩ (.slice (some ⟨G,0,none⟩) (k+1) n)).heap[j]?=W.heap[j]?:=λj hj h1 h2=>
  (ag6 w4 _ _ j h1).trans ((r2.block j (ah4 hj hg.size) (by simpa using h2)).trans (hg.block j hj (by simp)))
 have hX4:w4.heap[X]?=W.heap[X]?:=(r2.block X (ah4 hlX hg.size) (by simpa using hXG)).trans (hg.block X hlX (by simp));have c4:w4.cell? ⟨X,0,none⟩=some (.slice (some ⟨G,0,none⟩) k n):=(ag2 hX4).trans h.x;have f4:w4.frozen? ⟨X,0,none⟩=false:=(aj3 hX4).trans h.fx;have hsz:W.heap.size<=(w4.setCell ⟨X,0,none⟩ (.slice (some ⟨G,0,none⟩) (k+1) n)).heap.size:=by
  have h1:=ah2 hg.size r2.size;simpa[World.setCell]using h1
 have hb:=h.below;refine⟨⟨hsz,λj o hj ho _=>(hs j (ae8.1 ho).1 (by omega) (by omega)).trans ho⟩,⟨λj o hj ho _=>(hs j (ae8.1 ho).1 (by omega) (by omega)).trans ho,hs Mb hMb hXM.symm hGM.symm,hs BT hBT hXT.symm hGT.symm⟩,
  World.cell?_setCell_same' _ _ _ (by rw[c4];rfl),by rw[an9];exact f4,?_,?_,ah2 h.sz hsz⟩
 ·rw[hn];exact r1.kept (grownBy_setCell' w4 X _) (Or.inr (by simp only[Value.ownBlock,ne_eq,ak5];exact λe=>hXG e.symm))
 ·exact⟨r2.os.trans (hg.os.trans hb.os),r2.tape.trans (hg.tape.trans hb.tape),r2.output.trans (hg.output.trans hb.output),ah2 hb.size hsz,λj hj=>(hs j (ah4 hj hb.size) (by omega) (by omega)).trans (hb.block j hj)⟩
end
theorem mX{α:Type}{f:α->List Value}{k:Nat}(hk:∀x,(f x).length=k):∀(ss:List α) (i:Nat) (hi:i<ss.length),(ss.flatMap f).take ((i+1)*k)=(ss.flatMap f).take (i*k)++f ss[i]
 |[],i,hi=>absurd hi (by simp)
 |x::r,0,_=>by
  rw[ao5,ap0,Nat.one_mul,au5,ar8,ag9,List.take_append_of_le_length (by rw[hk];exact af0 _),ai2 (by rw[hk];exact af0 _)];rfl
 |x::r,i+1,hi=>by
  rw[ao5];have e1:(i+1+1)*k=(f x).length+(i+1)*k:=by rw[hk,ap5 (i+1) 1 k];omega
  have e2:(i+1)*k=(f x).length+i*k:=by rw[hk,ap5 i 1 k];omega
  rw[e1,e2,List.take_length_add_append,List.take_length_add_append,ak6];have e3:(f x).length+i*k=(i+1)*k:=by rw[hk,ap5];omega
  rw[e3,mX hk r i (by simpa using hi)];rfl
theorem qK{α:Type}{f:α->List Value}{k:Nat}(hk:∀x,(f x).length=k):∀(ss:List α),(ss.flatMap f).length=ss.length*k
 |[]=>by simp
 |x::r=>by rw[ao5,ah1,hk,qK hk r,ag0,ap5];omega
end Go.Proofs.YthcppbmkacbbiaaGreat
