import Derived.Test.YthcppbmkacbbiabGreatWAX
import Derived.Test.YthcppbmkacbbiabGreatBld
import Derived.Laws.IdiomStrings
import Derived.Deep.OwnRows
set_option linter.unusedSimpArgs false
set_option maxHeartbeats 2000000
set_option maxRecDepth 100000
namespace Go.Proofs.YthcppbmkacbbiabGreat
open Go.Proofs.Tryz
section
open Sat (View Rule jk bG)
open aB (Key put oJ dY jn au aQ dJ)
abbrev aU:Type:=Key×Bool
def lv(v:Key->Bool)(l:aU):Bool:=v l.1==l.2
def nl(l:aU):aU:=(l.1,!l.2)
theorem wB(v:Key->Bool)(l:aU):lv v (nl l)=!lv v l:=by
 unfold lv nl;cases v l.1<;>cases l.2<;>rfl
def vw(Us:List Key)(l:aU):View:=(Us.idxOf l.1,l.2)
theorem jo{Us Us':List Key}(h:Us <+: Us'){p:Key}(hp:p∈Us):Us'.idxOf p=Us.idxOf p:=by
 obtain⟨R,rfl⟩:=h;rw[al3,af6 hp]
theorem mO{Us Us':List Key}(h:Us <+: Us'){l:aU}(hp:l.1∈Us):vw Us' l=vw Us l:=by
 unfold vw;rw[jo h hp]
theorem JA(Us:List Key)(l:aU):vw Us (nl l)=((vw Us l).1,!(vw Us l).2):=rfl
def dd(vs:List View):Rule:=vs.foldl put []
theorem Jh(vs:List View):∀(acc:List View) (u:View),u∈vs.foldl put acc↔u∈acc\/u∈vs:=by
 induction vs with
 |nil=>intro acc u;simp
 |cons a vs ih=>
  intro acc u;rw[List.foldl_cons,ih,tJ];simp[or_assoc]
theorem Dz(vs:List View)(u:View):u∈dd vs↔u∈vs:=by
 unfold dd;rw[Jh];simp
theorem Hf{l:List View}(h:l.Nodup)(a:View):(put l a).Nodup:=by
 unfold put;by_cases hc:l.contains a=true
 ·rw[af6 hc];exact h
 ·rw[af2 hc,an7];refine⟨h,by simp,λx hx y hy e=>?_⟩;rw[ag0.1 hy]at e;subst e;exact hc (by simpa using hx)
theorem Dy(vs:List View):∀(acc:List View),acc.Nodup->(vs.foldl put acc).Nodup:=by
 induction vs with
 |nil=>intro acc h;exact h
 |cons a vs ih=>intro acc h;exact ih _ (Hf h a)
theorem Ri(vs:List View):(dd vs).Nodup:=Dy vs [] ap3
theorem rW(vs:List View):∀(acc:List View),(vs.foldl put acc).length<=acc.length+vs.length:=by
 induction vs with
 |nil=>intro acc;simp
 |cons a vs ih=>
  intro acc;have h1:=ih (put acc a);have h2:(put acc a).length<=acc.length+1:=by unfold put;split<;>simp
  simp only[List.foldl_cons,ae1];omega
theorem XF(vs:List View):(dd vs).length<=vs.length:=by
 have:=rW vs [];simpa[dd]using this
def Sem(Us:List Key)(ak:List Rule)(Φ:(Key->Bool)->Prop):Prop:=
 ∀Us',Us <+: Us'->∀α:Nat->Bool,(∀r∈ak,Sat.keeps α r)↔Φ (λp=>α (Us'.idxOf p))
structure LP(Us:List Key)(ak:List Rule)(Φ:(Key->Bool)->Prop):Prop where
 sem:Sem Us ak Φ
 rg:RG Us.length ak
 nodup:Us.Nodup
theorem LP.nil:LP [] [] (λ_=>True):=
 ⟨λ_ _ _=>⟨λ_=>trivial,λ_ r hr=>by(cases hr)⟩,⟨λr hr=>by(cases hr),λr hr=>by(cases hr),λr hr=>by(cases hr),λr hr=>by(cases hr)⟩,ap3⟩
theorem fH{α:Type}[BEq α](l:List α)(k:α):l <+: put l k:=by
 unfold put;split
 ·exact al1 _
 ·exact aq1 _ _
theorem LP.so{Us:List Key}{ak:List Rule}{Φ:(Key->Bool)->Prop}(h:LP Us ak Φ)(p:Key):LP (put Us p) ak Φ:=by
 have hl:=(fH Us p).length_le;refine⟨λUs' hp α=>h.sem Us' ((fH Us p).trans hp) α,⟨h.rg.ne,h.rg.nodup,λr hr u hu=>af5 (h.rg.lt r hr u hu) hl,h.rg.len⟩,?_⟩;unfold put;by_cases hc:Us.contains p=true
 ·rw[af6 hc];exact h.nodup
 ·rw[af2 hc,an7];refine⟨h.nodup,by simp,λx hx y hy e=>?_⟩;rw[ag0.1 hy]at e;subst e;exact hc (by simpa using hx)
theorem LP.demand{Us:List Key}{ak:List Rule}{Φ:(Key->Bool)->Prop}(h:LP Us ak Φ){ls:List aU}(h0:ls≠[])(h1:ls.length<=1000)(hm:∀l∈ls,l.1∈Us) :
  LP Us (ak++[dd (ls.map (vw Us))]) (λv=>Φ v/\∃l∈ls,lv v l=true):=by
 refine⟨λUs' hp α=>?_,⟨λr hr=>?_,λr hr=>?_,λr hr=>?_,λr hr=>?_⟩,h.nodup⟩
 ·have hk:Sat.keeps α (dd (ls.map (vw Us)))↔∃l∈ls,lv (λp=>α (Us'.idxOf p)) l=true:=by
   unfold Sat.keeps;constructor
   ·rintro⟨u,hu,hα⟩;obtain⟨l,hl,rfl⟩:=af9.1 ((Dz _ _).1 hu);refine⟨l,hl,?_⟩;unfold lv;simp only[jo hp (hm l hl)];simpa[vw]using hα
   ·rintro⟨l,hl,hα⟩;refine⟨vw Us l,(Dz _ _).2 (af9.2 ⟨l,hl,rfl⟩),?_⟩;unfold lv at hα;simp only[jo hp (hm l hl)]at hα;simpa[vw]using hα
  rw[<-hk,<-h.sem Us' hp α];constructor
  ·intro hr;exact⟨λr h2=>hr r (ai5 _ h2),hr _ (by simp)⟩
  ·rintro⟨g1,g2⟩ r hr;rcases ag9.1 hr with hr|hr
   ·exact g1 r hr
   ·rw[ag0.1 hr];exact g2
 ·rcases ag9.1 hr with hr|hr
  ·exact h.rg.ne r hr
  ·rw[ag0.1 hr];intro e;obtain⟨l,hl⟩:=List.exists_mem_of_ne_nil _ h0;have:=(Dz _ _).2 (af9.2 ⟨l,hl,rfl⟩:vw Us l∈ls.map (vw Us));rw[e]at this;cases this
 ·rcases ag9.1 hr with hr|hr
  ·exact h.rg.nodup r hr
  ·rw[ag0.1 hr];exact Ri _
 ·rcases ag9.1 hr with hr|hr
  ·exact h.rg.lt r hr
  ·rw[ag0.1 hr];intro u hu;obtain⟨l,hl,rfl⟩:=af9.1 ((Dz _ _).1 hu);exact ak6.2 (hm l hl)
 ·rcases ag9.1 hr with hr|hr
  ·exact h.rg.len r hr
  ·rw[ag0.1 hr];have:=XF (ls.map (vw Us));simp at this;omega
theorem LP.imp{Us:List Key}{ak:List Rule}{Φ Ψ:(Key->Bool)->Prop}(h:LP Us ak Φ)(e:∀v,Φ v↔Ψ v):LP Us ak Ψ:=
 ⟨λUs' hp α=>(h.sem Us' hp α).trans (e _),h.rg,h.nodup⟩
def lits(sm:Key->Key)(ps:List Key):List aU:=ps.foldl (λacc q=>acc++[if q.1=33 then nl (acc.getD q.2.1 ((0,0,0),false))else(sm q,true)]) []
theorem uY(sm:Key->Key)(ps:List Key)(q:Key):lits sm (ps++[q])=lits sm ps++[if q.1=33 then nl ((lits sm ps).getD q.2.1 ((0,0,0),false))else(sm q,true)]:=by
 unfold lits;rw[an8];rfl
theorem iE(sm:Key->Key)(ps:List Key):(lits sm ps).length=ps.length:=by
 have h:∀qs:List Key,∀ps:List Key,(lits sm ps).length=ps.length->(lits sm (ps++qs)).length=(ps++qs).length:=by
  intro qs
  induction qs with
  |nil=>intro ps h;simpa using h
  |cons q qs ih=>
   intro ps h;have e:ps++q::qs=(ps++[q])++qs:=(by simp);rw[e];exact ih _ (by rw[uY];simp[h])
 simpa using h ps [] rfl
def LK(sm:Key->Key)(v:Key->Bool)(ps:List Key):Prop:=
 ∀ps1 q,ps1++[q] <+: ps->au q.1=true->v (sm q)=jn q.1 (lv v ((lits sm ps1).getD q.2.1 ((0,0,0),false))) (lv v ((lits sm ps1).getD q.2.2 ((0,0,0),false)))
theorem EN{α:Type}{a b:List α}{x:α}(h:a <+: b++[x]):a <+: b\/a=b++[x]:=by
 rcases List.prefix_concat_iff.1 h with h|h
 ·exact Or.inr h
 ·exact Or.inl h
theorem LK.snoc{sm:Key->Key}{v:Key->Bool}{ps:List Key}{q:Key}:LK sm v (ps++[q])↔LK sm v ps/\(au q.1=true->v (sm q)=jn q.1 (lv v ((lits sm ps).getD q.2.1 ((0,0,0),false))) (lv v ((lits sm ps).getD q.2.2 ((0,0,0),false)))):=by
 constructor
 ·intro h;exact⟨λps1 q1 hp=>h ps1 q1 (hp.trans (aq1 _ _)),h ps q (al1 _)⟩
 ·rintro⟨h1,h2⟩ ps1 q1 hp;rcases EN hp with hp|hp
  ·exact h1 ps1 q1 hp
  ·have:=List.append_inj' hp rfl;obtain⟨rfl,e⟩:=this;have e:q1=q:=(by simpa using e);subst e;exact h2
def qj(sm:Key->Key)(v:Key->Bool)(cl:List Int)(hl:List Bool)(ps:List Key):Prop:=
 ∀q∈ps,(q.1=61->v (sm q)=decide (cl.getD q.2.1 0=cl.getD q.2.2 0))/\(q.1=80\/q.1=81->v (sm q)=hl.getD q.2.1 false)
theorem fQ{v:Key->Bool}{L:List aU}{B:List Bool}(h:L.map (lv v)=B){i:Nat}(hi:i<L.length):lv v (L.getD i ((0,0,0),false))=B.getD i false:=by
 subst h;simp[ag2,ad6 hi]
theorem yN{sm:Key->Key}{v:Key->Bool}{cl:List Int}{hl:List Bool}{nt nc:Nat}:∀(ps:List Key),(∀i (h:i<ps.length),dJ nt nc i ps[i])->LK sm v ps->qj sm v cl hl ps->(lits sm ps).map (lv v)=dY cl hl ps:=by
 suffices H:∀n (ps:List Key),ps.length=n->(∀i (h:i<ps.length),dJ nt nc i ps[i])->LK sm v ps->qj sm v cl hl ps->(lits sm ps).map (lv v)=dY cl hl ps from λps=>H _ ps rfl
 intro n
 induction n with
 |zero=>
  intro ps hn _ _ _;have:ps=[]:=ah4 hn;subst this;rfl
 |succ n ih=>
  intro ps hn hok hk ha;obtain⟨qs,q,rfl⟩:∃qs q,ps=qs++[q]:=⟨ps.dropLast,ps.getLast (by intro e;rw[e]at hn;simp at hn),(List.dropLast_concat_getLast _).symm⟩;have hl1:qs.length=n:=by simpa using hn
  obtain⟨hk1,hk2⟩:=LK.snoc.1 hk;have ih1:=ih qs hl1 (λi h=>by have:=hok i (by simp;omega);rwa [aj9 h]at this) hk1 (λp hp=>ha p (ai5 _ hp));have hq:=hok qs.length (by simp);simp at hq;have haq:=ha q (by simp);rw[uY,aB.lU,ak3,ih1]
  congr 1
  simp only[ap8,List.map_nil]
  congr 1
  have hll:=iE sm qs;unfold oJ;rcases hq with⟨a,b,_⟩|⟨a,b,c⟩|⟨a,_,_⟩|⟨a,_,_⟩
  ·rw[af6 a,wB,fQ ih1 (by omega)];simp[a]
  ·have h33:q.1≠33:=(by intro e;rw[e]at a;simp[au]at a);have h61:q.1≠61:=(by intro e;rw[e]at a;simp[au]at a);have h80:¬(q.1=80\/q.1=81):=(by rintro(e|e)<;>(rw[e]at a;simp[au]at a));rw[af2 h33,af2 h61,af2 h80,af2 h33];have:=hk2 a;rw[fQ ih1 (by omega),fQ ih1 (by omega)]at this;rw[<-this];simp[lv]
  ·have h33:q.1≠33:=(by omega);have h61:q.1≠61:=(by omega);rw[af2 h33,af2 h61,af6 a,<-haq.2 a];simp[lv]
  ·have h33:q.1≠33:=(by omega);rw[af2 h33,af6 a,<-haq.1 a];simp[lv]
end
section
open Go.RowKit Go.Maps Go.WideMaps
open aB (Key put dJ oJ jn au dY aQ)
def nums(f:Nat->Nat):Nat->List Nat
 |0=>[]
 |k+1=>put (nums f k) (f k)
def uz(f:Nat->Nat)(k:Nat):List UInt8:=(List.range k).map λt=>UInt8.ofNat (48+(nums f t).idxOf (f t))
def bits(hl:List Bool):List UInt8:=hl.map λb=>if b then 49 else 48
def wrt(f:Nat->Nat)(n:Nat)(hl:List Bool):List UInt8:=uz f n++[47]++bits hl
theorem Aq{T e B b m:Nat}{bs:List Value}{w w':World}(h:Lib.IsBuilderF T e B b bs w)(hg:w.grownBy w' (some m))(hm:m≠b)(hc:∃o:Obj,w.heap[m]?=some o/\∀c t fz,o≠.cells c t fz):Lib.IsBuilderF T e B b bs w':=by
 have key:∀p,Lib.BuilderAtF T e B b p bs w->Lib.BuilderAtF T e B b p bs w':=by
  rintro p ⟨hB,v,hb,hown,hne⟩;have hlt:b<w.heap.size:=(ad3.1 hb).1;refine⟨hB,v,(hg.block b hlt (λe=>hm (ak1 e).symm)).trans hb,hown.kept hg (Or.inr λe=>?_),hne⟩;obtain⟨c,fz,h1⟩:=Lib.ownsRowF_kind hown m e;obtain⟨o,h2,h3⟩:=hc;rw[h1]at h2;exact h3 _ _ _ (ak1 h2).symm
 exact h.elim (λx=>.inl (key _ x)) (λx=>.inr (key _ x))
theorem aH.obj{w:World}{k b:Nat}{kv:Nat->Value}{ts:List Nat}(h:aH w k b kv ts):∃o:Obj,w.heap[b]?=some o/\∀c t fz,o≠.cells c t fz:=by
 obtain⟨D,⟨es,clock,h1,h2⟩,h3⟩:=h;exact⟨_,h1,λ_ _ _ e=>by cases e⟩
theorem nums_length(f:Nat->Nat):∀k,(nums f k).length<=k
 |0=>ad5 _
 |k+1=>by
  have h:=nums_length f k;unfold nums put;split
  ·omega
  ·simp;omega
theorem Q7(f:Nat->Nat)(k:Nat):uz f (k+1)=uz f k++[UInt8.ofNat (48+(nums f k).idxOf (f k))]:=by
 simp[uz,aq0]
structure WG(w:World)(b H nh:Nat)(acc:List UInt8)(l:List Nat)(W:World):Prop where
 bld:Lib.IsBuilderF 147 5 w.heap.size (w.heap.size+1+1) (Lib.byteCells acc) W
 s:W.heap[w.heap.size+1]?=some (.cells #[.map (some b),.slice (some ⟨H,0,none⟩) nh nh] 56 (0,0))
 m:aH W 3 (w.heap.size+1+1+1) gV l
 below:Below w.heap.size w W
theorem WG.x0{w W:World}{b H nh:Nat}{acc:List UInt8}{l:List Nat}(h:WG w b H nh acc l W):W.cell? ⟨w.heap.size+1,0,none⟩=some (.map (some b)):=by
 rw[Lib.cell_of_heap h.s];rfl
theorem WG.x1{w W:World}{b H nh:Nat}{acc:List UInt8}{l:List Nat}(h:WG w b H nh acc l W):W.cell? ⟨w.heap.size+1,1,none⟩=some (.slice (some ⟨H,0,none⟩) nh nh):=by
 rw[Lib.cell_of_heap h.s];rfl
theorem WG.write{w W W':World}{b H nh:Nat}{acc:List UInt8}{l:List Nat}{x:UInt8}(h:WG w b H nh acc l W)
 (h1:Lib.BuilderAtF 147 5 w.heap.size (w.heap.size+1+1) (.pointer (some ⟨w.heap.size+1+1,0,none⟩)) (Lib.byteCells acc++[.int .u8 x.toNat]) W')(h2:Below w.heap.size W W')(h3:Lib.OthersKept 5 (some (w.heap.size+1+1)) W W'):WG w b H nh (acc++[x]) l W' where
 bld:=by rw[Lib.byteCells_append];exact Or.inr h1
 s:=h3 _ _ h.s (by simp) (λc fz e=>by cases e)
 m:=by
  obtain⟨o,h4,h5⟩:=h.m.obj;exact h.m.kept ((h3 _ _ h4 (by simp) (λc fz=>h5 c _ fz)).trans h4.symm)
 below:=h.below.trans h2
theorem WG.ask{w W W':World}{b H nh x:Nat}{acc:List UInt8}{l:List Nat}(h:WG w b H nh acc l W)(h1:aH W' 3 (w.heap.size+1+1+1) gV (put l x))(h2:W.grownBy W' (some (w.heap.size+1+1+1))):WG w b H nh acc (put l x) W' where
 bld:=Aq h.bld h2 (by omega) h.m.obj
 s:=(h2.block _ (ad3.1 h.s).1 (by simp)).trans h.s
 m:=h1
 below:=h.below.grown h2 h.below.size (λk e=>by cases e;omega)
theorem WG.call{w W:World}{b H nh:Nat}{acc:List UInt8}{l:List Nat}(h:WG w b H nh acc l W)(x:UInt8)(c:Int)(hc:c=x.toNat)(hl:acc.length<=100) :
  Calls prog 71 #[.pointer (some ⟨w.heap.size+1+1,0,none⟩),.int .u8 c] W λe W'=>e=.returned .nilIface/\WG w b H nh (acc++[x]) l W':=by
 subst hc;refine(bWrite w.heap.size (w.heap.size+1+1) _ _ W h.bld (by rw[Lib.byteCells_length];omega) h.below.size).mono ?_;rintro e W' ⟨rfl,h1,h2,h3⟩;exact⟨rfl,h.write h1 h2 h3⟩
theorem oN(GT GC GP nt nc np b c H:Nat)(f:Nat->Nat)(hl:List Bool)(w:World)(h7:nt<=7)(h4:hl.length<=4)(hf:∀i,i<nt->f i<nt)(hM:gG w b f nt c)(hH:bY w H hl) :
  Calls prog 32 #[fv GT GC GP nt nc np,sv b H hl.length] w λe w'=>e=.returned (.string ⟨(wrt f nt hl).toArray⟩)/\Below w.heap.size w w':=by
 unfold fv sv;have hmm:=@as6 prog;obtain⟨w0,hw0⟩:∃w0,(((w.alloc (.cells #[.slice (some ⟨GT,0,none⟩) nt nt,.slice (some ⟨GC,0,none⟩) nc nc,.slice (some ⟨GP,0,none⟩) np np] 46)).alloc (.cells #[.map (some b),.slice (some ⟨H,0,none⟩) hl.length hl.length] 56)).alloc (.cells #[.pointer none,.slice none 0 0] 147)).alloc (.map #[] 0)=w0:=⟨_,rfl⟩;have hW0:WG w b H hl.length [] [] w0:=by
  rw[<-hw0];have hsz:((w.alloc (.cells #[.slice (some ⟨GT,0,none⟩) nt nt,.slice (some ⟨GC,0,none⟩) nc nc,.slice (some ⟨GP,0,none⟩) np np] 46)).alloc (.cells #[.map (some b),.slice (some ⟨H,0,none⟩) hl.length hl.length] 56)).heap.size=w.heap.size+1+1:=by simp
  refine⟨?_,?_,?_,?_⟩
  ·have h:=Lib.fresh_isBuilder 147 5 ((w.alloc (.cells #[.slice (some ⟨GT,0,none⟩) nt nt,.slice (some ⟨GC,0,none⟩) nc nc,.slice (some ⟨GP,0,none⟩) np np] 46)).alloc (.cells #[.map (some b),.slice (some ⟨H,0,none⟩) hl.length hl.length] 56));rw[hsz]at h;have h2:Lib.IsBuilderF 147 5 (w.heap.size+1+1) (w.heap.size+1+1) [] _:=Lib.IsBuilderF.of h;have h3:Lib.IsBuilderF 147 5 w.heap.size (w.heap.size+1+1) [] (((w.alloc (.cells #[.slice (some ⟨GT,0,none⟩) nt nt,.slice (some ⟨GC,0,none⟩) nc nc,.slice (some ⟨GP,0,none⟩) np np] 46)).alloc (.cells #[.map (some b),.slice (some ⟨H,0,none⟩) hl.length hl.length] 56)).alloc (.cells #[.pointer none,.slice none 0 0] 147)):=by
    refine Or.inl ⟨by omega,.slice none 0 0,?_,⟨by simp,.inl ⟨rfl,rfl⟩⟩,by simp[Value.ownBlock]⟩;rw[<-hsz];exact ae9 _ _
   exact h3.alloc _
  ·rw[ae3 _ _ _ (by simp),ae3 _ _ _ (by simp)];have h:=ae9 (w.alloc (.cells #[.slice (some ⟨GT,0,none⟩) nt nt,.slice (some ⟨GC,0,none⟩) nc nc,.slice (some ⟨GP,0,none⟩) np np] 46)) (.cells #[.map (some b),.slice (some ⟨H,0,none⟩) hl.length hl.length] 56);simpa using h
  ·have h:=jd (((w.alloc (.cells #[.slice (some ⟨GT,0,none⟩) nt nt,.slice (some ⟨GC,0,none⟩) nc nc,.slice (some ⟨GP,0,none⟩) np np] 46)).alloc (.cells #[.map (some b),.slice (some ⟨H,0,none⟩) hl.length hl.length] 56)).alloc (.cells #[.pointer none,.slice none 0 0] 147)) 3 gV;have e:(((w.alloc (.cells #[.slice (some ⟨GT,0,none⟩) nt nt,.slice (some ⟨GC,0,none⟩) nc nc,.slice (some ⟨GP,0,none⟩) np np] 46)).alloc (.cells #[.map (some b),.slice (some ⟨H,0,none⟩) hl.length hl.length] 56)).alloc (.cells #[.pointer none,.slice none 0 0] 147)).heap.size=w.heap.size+1+1+1:=(by simp);rw[e]at h;exact h
  ·exact((((ag6 _ _).alloc (ad5 _) _).alloc (by simp) _).alloc (by simp;omega) _).alloc (by simp;omega) _
 have HW:=aj hw0;have hc0:w0.cell? ⟨w.heap.size,0,none⟩=some (.slice (some ⟨GT,0,none⟩) nt nt):=by rw[<-hw0];simp[go_sem]
 have hlM:=hM.lt;have hlH:=hH.1;have HM:=aj hM;have HH:=aj hH;have HF:=aj hf;clear hM hH hf hw0
 go_enter func32,ntmps32
 go_wp2_with fail
 rw[ah HW]
 go_loopw [14] (λi wr=>∃k:Nat,k<=nt/\i=.int .i64 k/\WG w b H hl.length (uz f k) (nums f k) wr) (λi _=>nt-(intOf i).toNat)
 case atStart=>exact⟨0,ah2 _,rfl,hW0⟩
 case round=>
  obtain⟨k,hk,rfl,hwg⟩:=hrel;by_cases hlt:k<nt
  ·have hbd:(k:Int)<(nt:Int):=(by omega);have hx0:=hwg.x0;have hof:=o9 wr b nt c f k ((ah HM).kept (hwg.below.block b hlM)) hlt (by omega);have hnl:=nums_length f k;have hfk:f k<=1000:=af7 (Nat.le_of_lt (ah HF k hlt)) (by omega);have hnum:=yD (w.heap.size+1+1+1) (nums f k) (f k) wr hfk (by omega) hwg.m;have hds:=Q7 f k;have hdl:(uz f k).length<=100:=(by simp[uz];omega);have hns:nums f (k+1)=put (nums f k) (f k):=rfl;have hil:(nums f k).idxOf (f k)<=7:=af7 al6 (by omega);have HD:=aj hds;have HN:=aj hns;have HWG:=aj hwg;have HDL:=aj hdl;have XY:=aj hnum;clear hwg hns hds hnl hdl hnum;generalize (nums f k).idxOf (f k)=ix at HD XY hil;generalize f k=fk at hof HN XY
   go_wp2_with fail
   refine hof.mono ?_;rintro e w1 ⟨rfl,rfl⟩
   go_wp2_with fail
   refine(ah XY).mono ?_;rintro e w2 ⟨rfl,hm2,hg2⟩;have aaz:=(ah HWG).ask hm2 hg2
   go_wp2_with fail
   refine(aaz.call (UInt8.ofNat (48+ix)) (48+ix) (by simp[UInt8.toNat_ofNat'];omega) (ah HDL)).mono ?_;rintro e w3 ⟨rfl,Qb⟩
   go_wp2_with fail
   exact⟨⟨k+1,hlt,by go_num,by rw[ah HD,ah HN];exact Qb⟩,by simp[intOf];omega⟩
  ·have hkk:k=nt:=(by omega);subst hkk;have hbd:¬(k:Int)<(k:Int):=(by omega);have hdl:(uz f k).length<=100:=(by simp[uz];omega);have HWG:=aj hwg;have HDL:=aj hdl;clear hwg hdl
   go_wp2_with fail
   refine((ah HWG).call 47 47 rfl (ah HDL)).mono ?_;rintro e w1 ⟨rfl,Wv⟩;have hx1:=Wv.x1;have ace:=aj Wv;clear Wv
   go_wp2_with fail
   go_loopw [31] (λi wr=>∃j:Nat,j<=hl.length/\i=.int .i64 j/\WG w b H hl.length (uz f k++[47]++bits (hl.take j)) (nums f k) wr) (λi _=>hl.length-(intOf i).toNat)
   case atStart=>exact⟨0,ah2 _,rfl,by simpa[bits]using ah ace⟩
   case round=>
    obtain⟨j,hj,rfl,hwg⟩:=hrel;by_cases hjt:j<hl.length
    ·have hjd:(j:Int)<(hl.length:Int):=(by omega);have hcj:=((ah HH).same (hwg.below.block H hlH)).2 j hjt;have hbl:(uz f k++[47]++bits (hl.take j)).length<=100:=(by rw[af8,af8,bits,ai8,ah6,uz,ai8,aq8,ao8];omega);have hbs:bits (hl.take (j+1))=bits (hl.take j)++[if hl[j]then 49 else 48]:=(by unfold bits;rw[ah1,ad6 hjt,ak3];rfl);have HBS:=aj hbs;have HWG:=aj hwg;have HBL:=aj hbl;clear hwg hbl hbs;generalize hl[j]=bj at hcj HBS;cases bj
     ·go_wp2_with fail
      refine((ah HWG).call 48 48 rfl (ah HBL)).mono ?_;rintro e w3 ⟨rfl,Qb⟩
      go_wp2_with fail
      exact⟨⟨j+1,hjt,by go_num,by rw[ah HBS,<-ak2];exact Qb⟩,by simp[intOf];omega⟩
     ·go_wp2_with fail
      refine((ah HWG).call 49 49 rfl (ah HBL)).mono ?_;rintro e w3 ⟨rfl,Qb⟩
      go_wp2_with fail
      exact⟨⟨j+1,hjt,by go_num,by rw[ah HBS,<-ak2];exact Qb⟩,by simp[intOf];omega⟩
    ·have hjj:j=hl.length:=(by omega);subst hjj;have hjd:¬(hl.length:Int)<(hl.length:Int):=(by omega);have hbs:=bString w.heap.size (w.heap.size+1+1) _ wr hwg.bld hwg.below.size;have hbw:=hwg.below;have e1:uz f k++[47]++bits (hl.take hl.length)=wrt f k hl:=(by rw[ai7];rfl);rw[e1]at hbs;clear hwg e1
     go_wp2_with fail
     refine hbs.mono ?_;rintro e w3 ⟨rfl,_,hb3,_⟩;have hb4:=hbw.trans hb3
     go_wp2_with fail
     go_ret
     exact⟨rfl,hb4⟩
end
section
open Go.RowKit Go.Maps Go.WideMaps
open aB (Key put dJ oJ jn au dY aQ)
attribute [local go_sem] Oper.semAt_some
structure oI(w0:World)(keys:List UInt8)(nc:Nat)(o3 o4 o6 o8:Option Nat)(W:World):Prop where
 below:Below w0.heap.size w0 W
 i3:∀G,o3=some G->w0.heap.size<=G/\qg W G keys
 i4:∀b,o4=some b->w0.heap.size<=b/\dN W b (fi keys) keys.length 100
 i6:∀H,o6=some H->w0.heap.size<=H/\W.heap[H]?=some (.cells (madeCells #[.bool false] nc) 4)
 i8:∀X,o8=some X->w0.heap.size<=X/\W.heap[X]?=some (.cells #[.map none,.slice none 0 0] 56)
theorem oI.grow{w0:World}{keys:List UInt8}{nc:Nat}{o3 o4 o6 o8:Option Nat}{W W':World}(h:oI w0 keys nc o3 o4 o6 o8 W)(hb:Below W.heap.size W W'):oI w0 keys nc o3 o4 o6 o8 W' where
 below:=h.below.trans ⟨hb.os,hb.tape,hb.output,hb.size,λj hj=>hb.block j (af5 hj h.below.size)⟩
 i3:=λG e=>⟨(h.i3 G e).1,(h.i3 G e).2.same (hb.block G (h.i3 G e).2.1)⟩
 i4:=λb e=>⟨(h.i4 b e).1,(h.i4 b e).2.kept (hb.block b (h.i4 b e).2.lt)⟩
 i6:=λH e=>⟨(h.i6 H e).1,(hb.block H (ad3.1 (h.i6 H e).2).1).trans (h.i6 H e).2⟩
 i8:=λX e=>⟨(h.i8 X e).1,(hb.block X (ad3.1 (h.i8 X e).2).1).trans (h.i8 X e).2⟩
theorem fU{w:World}{p q:Addr}{v:Value}(h:p≠q):(w.setCell p v).cell? q=w.cell? q:=by
 apply World.cell?_setCell_other;exact h
theorem nV(W:World)(o:Obj):Below W.heap.size W (W.alloc o):=(ag6 _ _).alloc (ad5 _) _
theorem oI.s8{w0:World}{keys:List UInt8}{nc:Nat}{o3 o4 o6:Option Nat}{W:World}(h:oI w0 keys nc o3 o4 o6 none W):oI w0 keys nc o3 o4 o6 (some W.heap.size) (W.alloc (.cells #[.map none,.slice none 0 0] 56)):=by
 have h2:=h.grow (nV W (.cells #[.map none,.slice none 0 0] 56));exact⟨h2.below,h2.i3,h2.i4,h2.i6,λX e=>by cases e;exact⟨h.below.size,ae9 _ _⟩⟩
theorem oI.s6{w0:World}{keys:List UInt8}{nc:Nat}{o3 o4 o8:Option Nat}{W:World}(h:oI w0 keys nc o3 o4 none o8 W):oI w0 keys nc o3 o4 (some W.heap.size) o8 (W.alloc (.cells (madeCells #[.bool false] nc) 4)):=by
 have h2:=h.grow (nV W (.cells (madeCells #[.bool false] nc) 4));exact⟨h2.below,h2.i3,h2.i4,λX e=>(by cases e;exact⟨h.below.size,ae9 _ _⟩),h2.i8⟩
theorem oI.s3{w0:World}{t:ByteArray}{nc cap:Nat}{o6 o8:Option Nat}{W:World}{fz:Nat×Nat}(h:oI w0 t.data.toList nc none none o6 o8 W):oI w0 t.data.toList nc (some W.heap.size) none o6 o8 (W.drew.alloc (.cells (bytesRow t cap) 5 fz)):=by
 have hb:Below W.heap.size W (W.drew.alloc (.cells (bytesRow t cap) 5 fz)):=((ag6 _ W).drew).alloc (ad5 _) _;have h2:=h.grow hb;refine⟨h2.below,λG e=>?_,λb e=>(by cases e),h2.i6,h2.i8⟩;cases e;have hn:(W.drew.alloc (.cells (bytesRow t cap) 5 fz)).heap[W.heap.size]?=some (.cells (bytesRow t cap) 5 fz):=ae9 W.drew _;refine⟨h.below.size,(ad3.1 hn).1,λi hi=>?_⟩;rw[Lib.cell_of_heap hn];have hi2:i<t.data.size:=by simpa using hi
 have h3:=bytesRow_at t cap i hi2;simpa using h3
theorem oI.s4{w0:World}{keys:List UInt8}{nc b G:Nat}{o6 o8:Option Nat}{W W':World}(h:oI w0 keys nc (some G) none o6 o8 W)(hb:Below W.heap.size W W')(h1:W.heap.size<=b)(h2:dN W' b (fi keys) keys.length 100):oI w0 keys nc (some G) (some b) o6 o8 W':=by
 have h3:=h.grow hb;exact⟨h3.below,h3.i3,λc e=>(by cases e;exact⟨af7 h.below.size h1,h2⟩),h3.i6,h3.i8⟩
theorem Ac(GT GC GP nt nc np:Nat)(s:ByteArray)(w:World)(h7:nt<=7)(h4:nc<=4)(hs:s.size≠nt+1+nc) :
  Calls prog 20 #[fv GT GC GP nt nc np,.string s] w λe w'=>e=.returned (.tuple #[.agg #[.map none,.slice none 0 0],.bool false])/\Below w.heap.size w w':=by
 unfold fv
 go_enter func20,ntmps20
 go_wp2_with fail
 obtain⟨w0,hw0⟩:∃w0,(w.alloc (.cells #[.slice (some ⟨GT,0,none⟩) nt nt,.slice (some ⟨GC,0,none⟩) nc nc,.slice (some ⟨GP,0,none⟩) np np] 46)).alloc (.cells #[.map none,.slice none 0 0] 56)=w0:=⟨_,rfl⟩;have hb0:Below w.heap.size w w0:=by rw[<-hw0];exact cZ _ _ _
 have hz0:w0.heap.size=w.heap.size+2:=by rw[<-hw0];simp
 have hk0:w0.cell? ⟨w.heap.size,0,none⟩=some (.slice (some ⟨GT,0,none⟩) nt nt):=by rw[<-hw0];simp[go_sem]
 have hk1:w0.cell? ⟨w.heap.size,1,none⟩=some (.slice (some ⟨GC,0,none⟩) nc nc):=by rw[<-hw0];simp[go_sem]
 have hk2:w0.cell? ⟨w.heap.size,2,none⟩=some (.slice (some ⟨GP,0,none⟩) np np):=by rw[<-hw0];simp[go_sem]
 have hr0:w0.cell? ⟨w.heap.size+1,0,none⟩=some (.map none):=by rw[<-hw0];simp[go_sem]
 have hr1:w0.cell? ⟨w.heap.size+1,1,none⟩=some (.slice none 0 0):=by rw[<-hw0];simp[go_sem]
 have hq0:w0.frozen? ⟨w.heap.size+1,0,none⟩=false:=by rw[<-hw0];simp[go_sem]
 have hq1:w0.frozen? ⟨w.heap.size+1,1,none⟩=false:=by rw[<-hw0];simp[go_sem]
 rw[hw0];clear hw0;have hS0:w0.drew.cell? ⟨w.heap.size,0,none⟩=some (.slice (some ⟨GT,0,none⟩) nt nt)/\w0.drew.cell? ⟨w.heap.size,1,none⟩=some (.slice (some ⟨GC,0,none⟩) nc nc):=⟨hk0,hk1⟩;refine ah0 (S:=λW'=>W'.cell? ⟨w.heap.size,0,none⟩=some (.slice (some ⟨GT,0,none⟩) nt nt)/\W'.cell? ⟨w.heap.size,1,none⟩=some (.slice (some ⟨GC,0,none⟩) nc nc)) rfl ?_;simp only[ae2,ae1,ae8,Nat.reduceAdd,ae0,ad9,ae4,ae7,ae6];change wpAnyH prog .any _ _ _ _ _ _ w0.drew;refine tH 0 (.pointer (some ⟨w.heap.size,0,none⟩)) (λw' hS=>?_) hS0 ?_
 ·obtain⟨s1,s2⟩:=hS;go_simp
 simp only[aC];refine tH 1 (.slice (some ⟨GT,0,none⟩) nt nt) (λw' hS=>?_) hS0 ?_
 ·obtain⟨s1,s2⟩:=hS;go_simp
 simp only[aC];refine tH 2 (.int .i64 nt) (λw' hS=>?_) hS0 ?_
 ·obtain⟨s1,s2⟩:=hS;go_simp
 simp only[aC];refine tH 3 (.pointer (some ⟨w.heap.size,1,none⟩)) (λw' hS=>?_) hS0 ?_
 ·obtain⟨s1,s2⟩:=hS;go_simp
 simp only[aC];refine tH 4 (.slice (some ⟨GC,0,none⟩) nc nc) (λw' hS=>?_) hS0 ?_
 ·obtain⟨s1,s2⟩:=hS;go_simp
 simp only[aC];refine tH 5 (.int .i64 nc) (λw' hS=>?_) hS0 ?_
 ·obtain⟨s1,s2⟩:=hS;go_simp
 simp only[aC];refine oH 6 (λK hK=>?_);go_simp;refine hK.out _ _ hS0 ?_;clear hK K;refine oH 7 (λK hK=>?_);go_simp;refine hK.out _ _ hS0 (ag5 (by kernel_rfl) ?_ _);clear hK K hS0;have hne:decide ((s.size:Int)=(nt:Int)+1+(nc:Int))=false:=by simp;omega
 have hne2:¬((s.size:Int)=(nt:Int)+1+(nc:Int)):=by omega
 have hd0:w0.drew.cell? ⟨w.heap.size+1,0,none⟩=some (.map none):=hr0;have hd1:w0.drew.cell? ⟨w.heap.size+1,1,none⟩=some (.slice none 0 0):=hr1;have he0:w0.drew.frozen? ⟨w.heap.size+1,0,none⟩=false:=hq0;have he1:w0.drew.frozen? ⟨w.heap.size+1,1,none⟩=false:=hq1
 go_wp2_with fail
 obtain⟨wz,hwz⟩:∃wz,((w0.setCell ⟨w.heap.size+1,0,none⟩ (Value.map none)).setCell ⟨w.heap.size+1,1,none⟩ (Value.slice none 0 0)).drew=wz:=⟨_,rfl⟩;have z0:wz.cell? ⟨w.heap.size+1,0,none⟩=some (.map none):=by
  rw[<-hwz]
  show((w0.setCell ⟨w.heap.size+1,0,none⟩ (Value.map none)).setCell ⟨w.heap.size+1,1,none⟩ (Value.slice none 0 0)).cell? _=_
  rw[fU (by simp)];exact dB _ hr0
 have z1:wz.cell? ⟨w.heap.size+1,1,none⟩=some (.slice none 0 0):=by
  rw[<-hwz]
  show((w0.setCell ⟨w.heap.size+1,0,none⟩ (Value.map none)).setCell ⟨w.heap.size+1,1,none⟩ (Value.slice none 0 0)).cell? _=_
  exact dB _ ((fU (by simp)).trans hr1)
 have zb:Below w.heap.size w wz:=by
  rw[<-hwz];exact((hb0.setCell (p:=⟨w.heap.size+1,0,none⟩) (by show w.heap.size<=w.heap.size+1;omega) _).setCell (p:=⟨w.heap.size+1,1,none⟩) (by show w.heap.size<=w.heap.size+1;omega) _).drew
 rw[hwz];exact ag3 (v:=.tuple #[.agg #[.map none,.slice none 0 0],.bool false]) (by simp[results,results20,go_sem,z0,z1]) rfl ⟨rfl,zb⟩
end
open Go.RowKit Go.Maps Go.WideMaps
open aB (Key put RT wZ RF RP RQ)
theorem yj{w w':World}{base b e k n:Nat}{v:Value}{xs:List Value}(h:w.ownsRow base e k v n xs)(hb:Below b w w')(hlt:w.heap.size<=b):w'.ownsRow base e k v n xs:=
 h.kept (row:=none) ⟨hb.os,hb.tape,hb.output,hb.size,λj hj _=>hb.block j (af5 hj hlt)⟩ (by
  cases v<;>first|exact Or.inl rfl|skip
  rename_i p n c;cases p
  ·exact Or.inl rfl
  ·exact Or.inr (by simp[Value.ownBlock]))
theorem jI{w:World}{base e k n X i:Nat}{v x:Value}{xs:List Value}(h:w.ownsRow base e k v n xs)(hX:X<base):(w.setCell ⟨X,i,none⟩ x).ownsRow base e k v n xs:=by
 have hg:w.grownBy (w.setCell ⟨X,i,none⟩ x) (some X):=⟨rfl,rfl,rfl,by simp[World.setCell],λj _ hj=>af4 _ _ _ _ (λe=>hj (by rw[e]))⟩;refine h.kept hg ?_;rcases h.2 with⟨rfl,_⟩|⟨g,cap,cur,rfl,hb,_⟩
 ·exact Or.inl rfl
 ·refine Or.inr (λe=>?_);simp only[Value.ownBlock,ai4]at e;omega
section
variable (w:World) (s:ByteArray)
theorem TM(hs:s.size<=100)(a1:Nat)(ts:List Key)(cs:List (Int×Nat))(ps:List Key)(m:Nat)(HR:Hid (aB.gI (pk s) (s.size+1) 0 0 [] [] []=.ok (a1,ts,cs,ps,m)))(heq:a1=s.size)(h7:ts.length<=7)(h4:cs.length<=4)
 (hnT:ts.Nodup)(hnC:cs.Nodup)(hnP:ps.Nodup)(hp:ps.length<=100)(hvT:∀x∈ts,∃l,keyOf prog 76 (aS x)=some l)(hvC:∀x∈cs,∃l,keyOf prog 79 (iT x)=some l)(hvP:∀x∈ps,∃l,keyOf prog 82 (aS x)=some l) :
  Calls prog 17 #[.string s] w λe w'=>∃GT GC GP,e=.returned (.tuple #[fv GT GC GP ts.length cs.length ps.length,.int .i64 0,.int .i64 0])/\Below w.heap.size w w'/\FR w' (w.heap.size+1) GT GC GP ts cs ps:=by
 have hmm:=@as6 prog;have hb:decide ((100:Int)<(s.size:Int))=false:=by simp;omega
 go_enter func17,ntmps17
 go_wp2_with fail
 refine(jy _ _ _ _ s hs (s.size+1) (start w s) 0 0 [] [] [] (by omega) (by omega) (by simp) (by simp) (by simp) (by omega) (sJ w s)).mono ?_;rw[ah HR];rintro e w1 ⟨k1,rfl,h1⟩
 go_wp2_with fail
 refine(Ku w1 _ _ _ _ s a1 0 ts cs ps heq h1).mono ?_;rintro e w2 ⟨rfl,h2,k2⟩;have k3:=k1.trans k2;have r0:=fB k3 0;have r1:=fB k3 1;have r2:=fB k3 2;have q0:=dI k3 0;have q1:=dI k3 1;have q2:=dI k3 2;simp at r0 r1 r2;have c4:=h2.c4;have c5:=h2.c5;have c6:=h2.c6;have Nr:=h2.lt;have mt:=aj h2.mt;have mc:=aj h2.mc;have mp:=aj h2.mp;obtain⟨D,hown,hsz,hall,_⟩:=h2.mt;obtain⟨D2,hown2,hsz2,Qw,_⟩:=h2.mc;have nZ:=aj hsz;have XV:=aj hsz2;clear hall Qw hsz hsz2;have hb7:decide ((7:Int)<(Maps.size D:Int))=false:=by rw[ah nZ];simp;omega
 have hb4:decide ((4:Int)<(Maps.size D2:Int))=false:=by rw[ah XV];simp;omega
 have hl2:=λty=>hown2.len underlying67 ty
 go_wp2_with (at_len;refine wpList_len_own _ rfl (.tmp 33) 65 rfl 76 3 underlying65 _ _ ts.length D rfl hown ?_)
 have hsz3:w.heap.size+5<=w2.heap.size:=by have:=k3.size;rw[mW]at this;exact this
 clear hb7 hb4 hl2 hown hown2;refine ah0 (S:=λW'=>W'.cell? ⟨w.heap.size+1+1+1+1,4,none⟩=some (.map (some (w.heap.size+1)))/\W'.cell? ⟨w.heap.size+1+1+1+1,5,none⟩=some (.map (some (w.heap.size+1+1)))/\W'.cell? ⟨w.heap.size+1+1+1+1,6,none⟩=some (.map (some (w.heap.size+1+1+1)))) rfl ?_;have hS0:w2.drew.cell? ⟨w.heap.size+1+1+1+1,4,none⟩=some (.map (some (w.heap.size+1)))/\w2.drew.cell? ⟨w.heap.size+1+1+1+1,5,none⟩=some (.map (some (w.heap.size+1+1)))/\w2.drew.cell? ⟨w.heap.size+1+1+1+1,6,none⟩=some (.map (some (w.heap.size+1+1+1))):=⟨c4,c5,c6⟩;change wpAnyH prog .any _ _ _ 13 #[false,false,false,false,false,false,false,false,false,false,false,false,false] _ w2.drew;refine tH 0 (.pointer (some ⟨w.heap.size+1+1+1+1,4,none⟩)) (λw' hS=>?_) hS0 ?_
 ·obtain⟨s4,s5,s6⟩:=hS;go_simp
 simp only[aC];refine tH 1 (.map (some (w.heap.size+1))) (λw' hS=>?_) hS0 ?_
 ·obtain⟨s4,s5,s6⟩:=hS;go_simp
 simp only[aC];refine tH 3 (.pointer (some ⟨w.heap.size+1+1+1+1,5,none⟩)) (λw' hS=>?_) hS0 ?_
 ·obtain⟨s4,s5,s6⟩:=hS;go_simp
 simp only[aC];refine tH 4 (.map (some (w.heap.size+1+1))) (λw' hS=>?_) hS0 ?_
 ·obtain⟨s4,s5,s6⟩:=hS;go_simp
 simp only[aC];refine tH 6 (.pointer (some ⟨w.heap.size+1+1+1+1,6,none⟩)) (λw' hS=>?_) hS0 ?_
 ·obtain⟨s4,s5,s6⟩:=hS;go_simp
 simp only[aC];refine tH 7 (.map (some (w.heap.size+1+1+1))) (λw' hS=>?_) hS0 ?_
 ·obtain⟨s4,s5,s6⟩:=hS;go_simp
 simp only[aC];refine oH 2 (λK hK=>?_);go_simp;refine(L9 (w.heap.size+1) ts _ (by omega) hnT (by exact(ah mt).kept rfl) hvT).mono ?_;rintro e w3 ⟨GT,rfl,hGT,bT,rowT⟩;have hST:w3.cell? ⟨w.heap.size+1+1+1+1,4,none⟩=some (.map (some (w.heap.size+1)))/\w3.cell? ⟨w.heap.size+1+1+1+1,5,none⟩=some (.map (some (w.heap.size+1+1)))/\w3.cell? ⟨w.heap.size+1+1+1+1,6,none⟩=some (.map (some (w.heap.size+1+1+1))):=⟨(bT.cell (p:=⟨w.heap.size+1+1+1+1,4,none⟩) (ad7 _ _ hS0.1)).trans hS0.1,(bT.cell (p:=⟨w.heap.size+1+1+1+1,5,none⟩) (ad7 _ _ hS0.2.1)).trans hS0.2.1,(bT.cell (p:=⟨w.heap.size+1+1+1+1,6,none⟩) (ad7 _ _ hS0.2.2)).trans hS0.2.2⟩;refine hK.out _ _ hST ?_;clear hK K;have mc3:aH w3 79 (w.heap.size+1+1) iT cs:=(ah mc).kept (bT.block _ (ah mc).lt);refine oH 5 (λK hK=>?_);go_simp;refine(Mc (w.heap.size+1+1) cs w3 (by omega) hnC mc3 hvC).mono ?_;rintro e w4 ⟨GC,rfl,hGC,bC,V7⟩;have hSC:w4.cell? ⟨w.heap.size+1+1+1+1,4,none⟩=some (.map (some (w.heap.size+1)))/\w4.cell? ⟨w.heap.size+1+1+1+1,5,none⟩=some (.map (some (w.heap.size+1+1)))/\w4.cell? ⟨w.heap.size+1+1+1+1,6,none⟩=some (.map (some (w.heap.size+1+1+1))):=⟨(bC.cell (p:=⟨w.heap.size+1+1+1+1,4,none⟩) (ad7 _ _ hST.1)).trans hST.1,(bC.cell (p:=⟨w.heap.size+1+1+1+1,5,none⟩) (ad7 _ _ hST.2.1)).trans hST.2.1,(bC.cell (p:=⟨w.heap.size+1+1+1+1,6,none⟩) (ad7 _ _ hST.2.2)).trans hST.2.2⟩;refine hK.out _ _ hSC ?_;clear hK K;have mp4:aH w4 82 (w.heap.size+1+1+1) aS ps:=(ah mp).kept ((bC.block _ (af5 (ah mp).lt bT.size)).trans (bT.block _ (ah mp).lt));refine oH 8 (λK hK=>?_);go_simp;refine(Bh (w.heap.size+1+1+1) ps w4 (by omega) hnP mp4 hvP).mono ?_;rintro e w5 ⟨GP,rfl,hGP,bP,rowP⟩;have hSP:w5.cell? ⟨w.heap.size+1+1+1+1,4,none⟩=some (.map (some (w.heap.size+1)))/\w5.cell? ⟨w.heap.size+1+1+1+1,5,none⟩=some (.map (some (w.heap.size+1+1)))/\w5.cell? ⟨w.heap.size+1+1+1+1,6,none⟩=some (.map (some (w.heap.size+1+1+1))):=⟨(bP.cell (p:=⟨w.heap.size+1+1+1+1,4,none⟩) (ad7 _ _ hSC.1)).trans hSC.1,(bP.cell (p:=⟨w.heap.size+1+1+1+1,5,none⟩) (ad7 _ _ hSC.2.1)).trans hSC.2.1,(bP.cell (p:=⟨w.heap.size+1+1+1+1,6,none⟩) (ad7 _ _ hSC.2.2)).trans hSC.2.2⟩;refine hK.out _ _ hSP ?_;clear hK K;have sT:=bT.size;have sC:=bC.size;have sP:=bP.size;have sT':w2.heap.size<=w3.heap.size:=sT;have hb5:Below w2.heap.size w2 w5:=(⟨bT.os,bT.tape,bT.output,bT.size,bT.block⟩:Below w2.heap.size w2 w3).trans ((bC.mono sT').trans (bP.mono (af7 sT' sC)));have r0':w5.cell? ⟨w.heap.size,0,none⟩=some (.slice none 0 0):=(hb5.cell (p:=⟨w.heap.size,0,none⟩) (by show w.heap.size<w2.heap.size;omega)).trans r0;have r1':w5.cell? ⟨w.heap.size,1,none⟩=some (.slice none 0 0):=(hb5.cell (p:=⟨w.heap.size,1,none⟩) (by show w.heap.size<w2.heap.size;omega)).trans r1;have r2':w5.cell? ⟨w.heap.size,2,none⟩=some (.slice none 0 0):=(hb5.cell (p:=⟨w.heap.size,2,none⟩) (by show w.heap.size<w2.heap.size;omega)).trans r2;have q0':w5.frozen? ⟨w.heap.size,0,none⟩=false:=(ai1 (hb5.block _ (by show w.heap.size<w2.heap.size;omega))).trans q0;have q1':w5.frozen? ⟨w.heap.size,1,none⟩=false:=(ai1 (hb5.block _ (by show w.heap.size<w2.heap.size;omega))).trans q1;have q2':w5.frozen? ⟨w.heap.size,2,none⟩=false:=(ai1 (hb5.block _ (by show w.heap.size<w2.heap.size;omega))).trans q2;refine oH 9 (λK hK=>?_);go_simp;refine hK.out _ _ hSP ?_;clear hK K;refine oH 10 (λK hK=>?_);go_simp;have hSF:∀(a b c:Value),(((w5.setCell ⟨w.heap.size,0,none⟩ a).setCell ⟨w.heap.size,1,none⟩ b).setCell ⟨w.heap.size,2,none⟩ c).cell? ⟨w.heap.size+1+1+1+1,4,none⟩=some (.map (some (w.heap.size+1)))/\
   (((w5.setCell ⟨w.heap.size,0,none⟩ a).setCell ⟨w.heap.size,1,none⟩ b).setCell ⟨w.heap.size,2,none⟩ c).cell? ⟨w.heap.size+1+1+1+1,5,none⟩=some (.map (some (w.heap.size+1+1)))/\
   (((w5.setCell ⟨w.heap.size,0,none⟩ a).setCell ⟨w.heap.size,1,none⟩ b).setCell ⟨w.heap.size,2,none⟩ c).cell? ⟨w.heap.size+1+1+1+1,6,none⟩=some (.map (some (w.heap.size+1+1+1))):=λa b c=>by
  have hk:∀(u:World) (i j:Nat) (x:Value),(u.setCell ⟨w.heap.size,i,none⟩ x).cell? ⟨w.heap.size+1+1+1+1,j,none⟩=u.cell? ⟨w.heap.size+1+1+1+1,j,none⟩:=λu i j x=>ae5 (af4 _ _ _ _ (by show w.heap.size+1+1+1+1≠w.heap.size;omega));simp only[hk];exact hSP
 refine hK.out _ _ (hSF _ _ _) ?_;clear hK K;refine oH 11 (λK hK=>?_);go_simp;refine hK.out _ _ (hSF _ _ _) ?_;clear hK K;refine oH 12 (λK hK=>?_);go_simp;refine hK.out _ _ (hSF _ _ _) (ag5 (by kernel_rfl) ?_ _);clear hK K
 go_wp2_with fail
 have hbw:Below w.heap.size w w5:=(lS k3).trans (hb5.mono (by omega));refine ag3 (v:=.tuple #[fv GT GC GP ts.length cs.length ps.length,.int .i64 0,.int .i64 0]) (by simp[results,results17,go_sem,fv,r0',r1',r2']) rfl ⟨GT,GC,GP,rfl,?_,?_⟩
 ·exact((hbw.setCell (ad5 _) _).setCell (ad5 _) _).setCell (ad5 _) _
 ·have gT:w.heap.size+1<=w2.heap.size:=by omega
  have g3:w.heap.size+1<=w3.heap.size:=by omega
  have g4:w.heap.size+1<=w4.heap.size:=by omega
  refine⟨jI (jI (jI (fK (yj (yj rowT bC (ad5 _)) bP (ad5 _)) gT) (by omega)) (by omega)) (by omega),
   jI (jI (jI (fK (yj V7 bP (ad5 _)) g3) (by omega)) (by omega)) (by omega),jI (jI (jI (fK rowP g4) (by omega)) (by omega)) (by omega)⟩
end
end Go.Proofs.YthcppbmkacbbiabGreat
