import Derived.Test.YthcppbmkacbbiaaGreatZBC
import Derived.Test.YthcppbmkacbbiaaGreatBld
import Derived.Laws.IdiomStrings
import Derived.Deep.OwnRows
set_option linter.unusedSimpArgs false
set_option maxHeartbeats 2000000
set_option maxRecDepth 100000
namespace Go.Proofs.YthcppbmkacbbiaaGreat
open Go.Proofs.Tryz
section
open Sat (View Rule jT cZ)
open au (Key put qY iG jn aA bI dX)
abbrev bG:Type:=Key×Bool
def lv(v:Key->Bool)(l:bG):Bool:=v l.1==l.2
def nl(l:bG):bG:=(l.1,!l.2)
theorem xM(v:Key->Bool)(l:bG):lv v (nl l)=!lv v l:=by
 unfold lv nl;cases v l.1<;>cases l.2<;>rfl
def vw(Us:List Key)(l:bG):View:=(Us.idxOf l.1,l.2)
theorem jY{Us Us':List Key}(h:Us <+: Us'){p:Key}(hp:p∈Us):Us'.idxOf p=Us.idxOf p:=by
 obtain⟨R,rfl⟩:=h;rw[an1,af9 hp]
theorem nR{Us Us':List Key}(h:Us <+: Us'){l:bG}(hp:l.1∈Us):vw Us' l=vw Us l:=by
 unfold vw;rw[jY h hp]
theorem Md(Us:List Key)(l:bG):vw Us (nl l)=((vw Us l).1,!(vw Us l).2):=rfl
def dd(vs:List View):Rule:=vs.foldl put []
theorem La(vs:List View):∀(acc:List View) (u:View),u∈vs.foldl put acc↔u∈acc\/u∈vs:=by
 induction vs with
 |nil=>intro acc u;simp
 |cons a vs ih=>
  intro acc u;rw[List.foldl_cons,ih,uY];simp[or_assoc]
theorem EY(vs:List View)(u:View):u∈dd vs↔u∈vs:=by
 unfold dd;rw[La];simp
theorem Jr{l:List View}(h:l.Nodup)(a:View):(put l a).Nodup:=by
 unfold put;by_cases hc:l.contains a=true
 ·rw[af9 hc];exact h
 ·rw[af6 hc,aq4];refine⟨h,by simp,λx hx y hy e=>?_⟩;rw[ah6.1 hy]at e;subst e;exact hc (by simpa using hx)
theorem EX(vs:List View):∀(acc:List View),acc.Nodup->(vs.foldl put acc).Nodup:=by
 induction vs with
 |nil=>intro acc h;exact h
 |cons a vs ih=>intro acc h;exact ih _ (Jr h a)
theorem U0(vs:List View):(dd vs).Nodup:=EX vs [] aq8
theorem tX(vs:List View):∀(acc:List View),(vs.foldl put acc).length<=acc.length+vs.length:=by
 induction vs with
 |nil=>intro acc;simp
 |cons a vs ih=>
  intro acc;have h1:=ih (put acc a);have h2:(put acc a).length<=acc.length+1:=by unfold put;split<;>simp
  simp only[List.foldl_cons,ag0];omega
theorem ZM(vs:List View):(dd vs).length<=vs.length:=by
 have:=tX vs [];simpa[dd]using this
def Sem(Us:List Key)(ak:List Rule)(Φ:(Key->Bool)->Prop):Prop:=
 ∀Us',Us <+: Us'->∀α:Nat->Bool,(∀r∈ak,Sat.keeps α r)↔Φ (λp=>α (Us'.idxOf p))
structure LP(Us:List Key)(ak:List Rule)(Φ:(Key->Bool)->Prop):Prop where
 sem:Sem Us ak Φ
 rg:RG Us.length ak
 nodup:Us.Nodup
theorem LP.nil:LP [] [] (λ_=>True):=
 ⟨λ_ _ _=>⟨λ_=>trivial,λ_ r hr=>by(cases hr)⟩,⟨λr hr=>by(cases hr),λr hr=>by(cases hr),λr hr=>by(cases hr),λr hr=>by(cases hr)⟩,aq8⟩
theorem gK{α:Type}[BEq α](l:List α)(k:α):l <+: put l k:=by
 unfold put;split
 ·exact am7 _
 ·exact as6 _ _
theorem LP.so{Us:List Key}{ak:List Rule}{Φ:(Key->Bool)->Prop}(h:LP Us ak Φ)(p:Key):LP (put Us p) ak Φ:=by
 have hl:=(gK Us p).length_le;refine⟨λUs' hp α=>h.sem Us' ((gK Us p).trans hp) α,⟨h.rg.ne,h.rg.nodup,λr hr u hu=>ah4 (h.rg.lt r hr u hu) hl,h.rg.len⟩,?_⟩;unfold put;by_cases hc:Us.contains p=true
 ·rw[af9 hc];exact h.nodup
 ·rw[af6 hc,aq4];refine⟨h.nodup,by simp,λx hx y hy e=>?_⟩;rw[ah6.1 hy]at e;subst e;exact hc (by simpa using hx)
theorem LP.demand{Us:List Key}{ak:List Rule}{Φ:(Key->Bool)->Prop}(h:LP Us ak Φ){ls:List bG}(h0:ls≠[])(h1:ls.length<=1000)(hm:∀l∈ls,l.1∈Us) :
  LP Us (ak++[dd (ls.map (vw Us))]) (λv=>Φ v/\∃l∈ls,lv v l=true):=by
 refine⟨λUs' hp α=>?_,⟨λr hr=>?_,λr hr=>?_,λr hr=>?_,λr hr=>?_⟩,h.nodup⟩
 ·have hk:Sat.keeps α (dd (ls.map (vw Us)))↔∃l∈ls,lv (λp=>α (Us'.idxOf p)) l=true:=by
   unfold Sat.keeps;constructor
   ·rintro⟨u,hu,hα⟩;obtain⟨l,hl,rfl⟩:=ah3.1 ((EY _ _).1 hu);refine⟨l,hl,?_⟩;unfold lv;simp only[jY hp (hm l hl)];simpa[vw]using hα
   ·rintro⟨l,hl,hα⟩;refine⟨vw Us l,(EY _ _).2 (ah3.2 ⟨l,hl,rfl⟩),?_⟩;unfold lv at hα;simp only[jY hp (hm l hl)]at hα;simpa[vw]using hα
  rw[<-hk,<-h.sem Us' hp α];constructor
  ·intro hr;exact⟨λr h2=>hr r (ak9 _ h2),hr _ (by simp)⟩
  ·rintro⟨g1,g2⟩ r hr;rcases ai3.1 hr with hr|hr
   ·exact g1 r hr
   ·rw[ah6.1 hr];exact g2
 ·rcases ai3.1 hr with hr|hr
  ·exact h.rg.ne r hr
  ·rw[ah6.1 hr];intro e;obtain⟨l,hl⟩:=List.exists_mem_of_ne_nil _ h0;have:=(EY _ _).2 (ah3.2 ⟨l,hl,rfl⟩:vw Us l∈ls.map (vw Us));rw[e]at this;cases this
 ·rcases ai3.1 hr with hr|hr
  ·exact h.rg.nodup r hr
  ·rw[ah6.1 hr];exact U0 _
 ·rcases ai3.1 hr with hr|hr
  ·exact h.rg.lt r hr
  ·rw[ah6.1 hr];intro u hu;obtain⟨l,hl,rfl⟩:=ah3.1 ((EY _ _).1 hu);exact am1.2 (hm l hl)
 ·rcases ai3.1 hr with hr|hr
  ·exact h.rg.len r hr
  ·rw[ah6.1 hr];have:=ZM (ls.map (vw Us));simp at this;omega
theorem LP.imp{Us:List Key}{ak:List Rule}{Φ Ψ:(Key->Bool)->Prop}(h:LP Us ak Φ)(e:∀v,Φ v↔Ψ v):LP Us ak Ψ:=
 ⟨λUs' hp α=>(h.sem Us' hp α).trans (e _),h.rg,h.nodup⟩
def lits(sm:Key->Key)(ps:List Key):List bG:=ps.foldl (λacc q=>acc++[if q.1=33 then nl (acc.getD q.2.1 ((0,0,0),false))else(sm q,true)]) []
theorem wQ(sm:Key->Key)(ps:List Key)(q:Key):lits sm (ps++[q])=lits sm ps++[if q.1=33 then nl ((lits sm ps).getD q.2.1 ((0,0,0),false))else(sm q,true)]:=by
 unfold lits;rw[aq5];rfl
theorem je(sm:Key->Key)(ps:List Key):(lits sm ps).length=ps.length:=by
 have h:∀qs:List Key,∀ps:List Key,(lits sm ps).length=ps.length->(lits sm (ps++qs)).length=(ps++qs).length:=by
  intro qs
  induction qs with
  |nil=>intro ps h;simpa using h
  |cons q qs ih=>
   intro ps h;have e:ps++q::qs=(ps++[q])++qs:=(by simp);rw[e];exact ih _ (by rw[wQ];simp[h])
 simpa using h ps [] rfl
def LK(sm:Key->Key)(v:Key->Bool)(ps:List Key):Prop:=
 ∀ps1 q,ps1++[q] <+: ps->aA q.1=true->v (sm q)=jn q.1 (lv v ((lits sm ps1).getD q.2.1 ((0,0,0),false))) (lv v ((lits sm ps1).getD q.2.2 ((0,0,0),false)))
theorem Gz{α:Type}{a b:List α}{x:α}(h:a <+: b++[x]):a <+: b\/a=b++[x]:=by
 rcases List.prefix_concat_iff.1 h with h|h
 ·exact Or.inr h
 ·exact Or.inl h
theorem LK.snoc{sm:Key->Key}{v:Key->Bool}{ps:List Key}{q:Key}:LK sm v (ps++[q])↔LK sm v ps/\(aA q.1=true->v (sm q)=jn q.1 (lv v ((lits sm ps).getD q.2.1 ((0,0,0),false))) (lv v ((lits sm ps).getD q.2.2 ((0,0,0),false)))):=by
 constructor
 ·intro h;exact⟨λps1 q1 hp=>h ps1 q1 (hp.trans (as6 _ _)),h ps q (am7 _)⟩
 ·rintro⟨h1,h2⟩ ps1 q1 hp;rcases Gz hp with hp|hp
  ·exact h1 ps1 q1 hp
  ·have:=List.append_inj' hp rfl;obtain⟨rfl,e⟩:=this;have e:q1=q:=(by simpa using e);subst e;exact h2
def qW(sm:Key->Key)(v:Key->Bool)(cl:List Int)(hl:List Bool)(ps:List Key):Prop:=
 ∀q∈ps,(q.1=61->v (sm q)=decide (cl.getD q.2.1 0=cl.getD q.2.2 0))/\(q.1=80\/q.1=81->v (sm q)=hl.getD q.2.1 false)
theorem gY{v:Key->Bool}{L:List bG}{B:List Bool}(h:L.map (lv v)=B){i:Nat}(hi:i<L.length):lv v (L.getD i ((0,0,0),false))=B.getD i false:=by
 subst h;simp[ag8,af2 hi]
theorem Aa{sm:Key->Key}{v:Key->Bool}{cl:List Int}{hl:List Bool}{nt nc:Nat}:∀(ps:List Key),(∀i (h:i<ps.length),dX nt nc i ps[i])->LK sm v ps->qW sm v cl hl ps->(lits sm ps).map (lv v)=iG cl hl ps:=by
 suffices H:∀n (ps:List Key),ps.length=n->(∀i (h:i<ps.length),dX nt nc i ps[i])->LK sm v ps->qW sm v cl hl ps->(lits sm ps).map (lv v)=iG cl hl ps from λps=>H _ ps rfl
 intro n
 induction n with
 |zero=>
  intro ps hn _ _ _;have:ps=[]:=ai6 hn;subst this;rfl
 |succ n ih=>
  intro ps hn hok hk ha;obtain⟨qs,q,rfl⟩:∃qs q,ps=qs++[q]:=⟨ps.dropLast,ps.getLast (by intro e;rw[e]at hn;simp at hn),(List.dropLast_concat_getLast _).symm⟩;have hl1:qs.length=n:=by simpa using hn
  obtain⟨hk1,hk2⟩:=LK.snoc.1 hk;have ih1:=ih qs hl1 (λi h=>by have:=hok i (by simp;omega);rwa [al5 h]at this) hk1 (λp hp=>ha p (ak9 _ hp));have hq:=hok qs.length (by simp);simp at hq;have haq:=ha q (by simp);rw[wQ,au.lI,al7,ih1]
  congr 1
  simp only[aq6,List.map_nil]
  congr 1
  have hll:=je sm qs;unfold qY;rcases hq with⟨a,b,_⟩|⟨a,b,c⟩|⟨a,_,_⟩|⟨a,_,_⟩
  ·rw[af9 a,xM,gY ih1 (by omega)];simp[a]
  ·have h33:q.1≠33:=(by intro e;rw[e]at a;simp[aA]at a);have h61:q.1≠61:=(by intro e;rw[e]at a;simp[aA]at a);have h80:¬(q.1=80\/q.1=81):=(by rintro(e|e)<;>(rw[e]at a;simp[aA]at a));rw[af6 h33,af6 h61,af6 h80,af6 h33];have:=hk2 a;rw[gY ih1 (by omega),gY ih1 (by omega)]at this;rw[<-this];simp[lv]
  ·have h33:q.1≠33:=(by omega);have h61:q.1≠61:=(by omega);rw[af6 h33,af6 h61,af9 a,<-haq.2 a];simp[lv]
  ·have h33:q.1≠33:=(by omega);rw[af6 h33,af9 a,<-haq.1 a];simp[lv]
structure IQ(sm:Key->Key):Prop where
 eq:∀q:Key,q.1=61->(sm q).1=61/\(sm q=q\/((sm q).2=(q.2.2,q.2.1))\/(q.2.1=q.2.2/\(sm q).2.1=(sm q).2.2))
 other:∀q:Key,q.1≠61->sm q=q
theorem MC:IQ id:=⟨λ_ h=>⟨h,Or.inl rfl⟩,λ_ _=>rfl⟩
def cv(cl:List Int)(hl:List Bool)(ps:List Key):Key->Bool:=λp=>qY cl hl (iG cl hl ps) p
theorem Yu{cl:List Int}{hl:List Bool}{ps:List Key}{q:Key}(h:q.1=61):cv cl hl ps q=decide (cl.getD q.2.1 0=cl.getD q.2.2 0):=by
 unfold cv qY;rw[af9 h]
theorem vX{cl:List Int}{hl:List Bool}{ps:List Key}{q:Key}(h:q.1=80\/q.1=81):cv cl hl ps q=hl.getD q.2.1 false:=by
 have h1:q.1≠61:=by omega
 unfold cv qY;rw[af6 h1,af9 h]
theorem Yt{sm:Key->Key}(hs:IQ sm){cl:List Int}{hl:List Bool}{ps:List Key}{q:Key}(h:q.1=61):cv cl hl ps (sm q)=decide (cl.getD q.2.1 0=cl.getD q.2.2 0):=by
 obtain⟨h1,h2⟩:=hs.eq q h;rw[Yu h1];rcases h2 with e|e|⟨e1,e2⟩
 ·rw[e]
 ·rw[e];simp only[decide_eq_decide];exact⟨Eq.symm,Eq.symm⟩
 ·rw[e1,e2];simp
theorem Iw{sm:Key->Key}(hs:IQ sm)(cl:List Int)(hl:List Bool)(ps qs:List Key):qW sm (cv cl hl ps) cl hl qs:=by
 refine λq _=>⟨λh=>Yt hs h,λh=>?_⟩;rw[hs.other q (by omega),vX h]
theorem U9{sm:Key->Key}(hs:IQ sm){cl:List Int}{hl:List Bool}{nt nc:Nat}{ps:List Key}(hi:bI nt nc ps):∀n,n<=ps.length->LK sm (cv cl hl ps) (ps.take n):=by
 intro n
 induction n with
 |zero=>
  intro _ ps1 q hp;simp at hp
 |succ n ih=>
  intro hn;have e:ps.take (n+1)=ps.take n++[ps[n]]:=by rw[ai4,af2 (by omega)];rfl
  have hk:=ih (by omega);rw[e];refine LK.snoc.2 ⟨hk,λhj=>?_⟩;have hv:=Aa (nt:=nt) (nc:=nc) (ps.take n) (λi h=>by
   have h2:i<ps.length:=(by simp at h;omega);rw[List.getElem_take];exact hi.ok i h2) hk (Iw hs cl hl ps (ps.take n))
  have hq:=hi.ok n (by omega);have hlen:(lits sm (ps.take n)).length=n:=by rw[je];simp;omega
  have hpl:(iG cl hl (ps.take n)).length=n:=by rw[au.og];simp;omega
  have hpre:iG cl hl (ps.take n) <+: iG cl hl ps:=au.nZ (List.take_prefix _ _);have h33:ps[n].1≠33:=by intro e;rw[e]at hj;simp[aA]at hj
  have h61:ps[n].1≠61:=by intro e;rw[e]at hj;simp[aA]at hj
  have h80:¬(ps[n].1=80\/ps[n].1=81):=by rintro(e|e)<;>(rw[e]at hj;simp[aA]at hj)
  rcases hq with⟨a,_⟩|⟨_,b,c⟩|⟨a,_⟩|⟨a,_⟩
  ·exact absurd a h33
  ·rw[gY hv (by omega),gY hv (by omega),hs.other _ h61];unfold cv qY;rw[af6 h61,af6 h80,af6 h33,au.lU hpre (by omega),au.lU hpre (by omega)]
  ·exact absurd a h80
  ·exact absurd a h61
def Stt(sm:Key->Key)(ps:List Key)(v:Key->Bool):Prop:=LK sm v ps/\lv v ((lits sm ps).getD (ps.length-1) ((0,0,0),false))=true
theorem F7{sm:Key->Key}{v:Key->Bool}{cl:List Int}{hl:List Bool}{nt nc:Nat}{ps:List Key}(hi:bI nt nc ps)(h0:0<ps.length)(h:Stt sm ps v)(ha:qW sm v cl hl ps):(iG cl hl ps).getD (ps.length-1) false=true:=by
 have hv:=Aa ps hi.ok h.1 ha;rw[<-h.2,gY hv (by rw[je];omega)]
theorem Iz{sm:Key->Key}(hs:IQ sm){cl:List Int}{hl:List Bool}{nt nc:Nat}{ps:List Key}(hi:bI nt nc ps)(h0:0<ps.length)(h:(iG cl hl ps).getD (ps.length-1) false=true):Stt sm ps (cv cl hl ps):=by
 have hk:=U9 (cl:=cl) (hl:=hl) hs hi ps.length (af0 _);rw[ak8]at hk;have hv:=Aa ps hi.ok hk (Iw hs cl hl ps ps);exact⟨hk,by rw[gY hv (by rw[je];omega)];exact h⟩
def Hold(v:Key->Bool)(L:List (List bG)):Prop:=∀c∈L,∃l∈c,lv v l=true
theorem fG{v:Key->Bool}{L M:List (List bG)}:Hold v (L++M)↔Hold v L/\Hold v M:=by
 unfold Hold;constructor
 ·intro h;exact⟨λc hc=>h c (ak9 _ hc),λc hc=>h c (at6 _ hc)⟩
 ·rintro⟨h1,h2⟩ c hc;rcases ai3.1 hc with hc|hc
  ·exact h1 c hc
  ·exact h2 c hc
structure lC(Us:List Key)(ak:List Rule)(L:List (List bG)):Prop where
 lp:LP Us ak (λv=>Hold v L)
 mem:∀c∈L,∀l∈c,l.1∈Us
 len:ak.length=L.length
theorem lC.nil:lC [] [] []:=⟨LP.nil.imp (λ_=>⟨λ_ c hc=>by(cases hc),λ_=>trivial⟩),λc hc=>by(cases hc),rfl⟩
theorem lC.so{Us:List Key}{ak:List Rule}{L:List (List bG)}(h:lC Us ak L)(p:Key):lC (put Us p) ak L:=
 ⟨h.lp.so p,λc hc l hl=>(gK Us p).mem (h.mem c hc l hl),h.len⟩
theorem lC.demand{Us:List Key}{ak:List Rule}{L:List (List bG)}(h:lC Us ak L){ls:List bG}(h0:ls≠[])(h1:ls.length<=1000)(hm:∀l∈ls,l.1∈Us):lC Us (ak++[dd (ls.map (vw Us))]) (L++[ls]):=by
 refine⟨(h.lp.demand h0 h1 hm).imp (λv=>?_),λc hc=>?_,by simp[h.len]⟩
 ·rw[fG];refine and_congr Iff.rfl ⟨λe c hc=>?_,λe=>e ls (by simp)⟩;rw[ah6.1 hc];exact e
 ·rcases ai3.1 hc with hc|hc
  ·exact h.mem c hc
  ·rw[ah6.1 hc];exact hm
theorem bF(Us:List Key)(p:Key):p∈put Us p:=uY.2 (Or.inr rfl)
def mM(w f s:bG):List (List bG):=[[nl w,f],[nl w,s],[w,nl f,nl s]]
def qR(w f s:bG):List (List bG):=[[w,f,s],[w,nl f,nl s],[nl w,f,nl s],[nl w,nl f,s]]
theorem wW{v:Key->Bool}{w f s:bG}:Hold v (mM w f s)↔lv v w=(lv v f&&lv v s):=by
 unfold Hold mM;simp only[aj8,am4,ar6,forall_eq_or_imp,forall_eq,exists_eq_or_imp,exists_eq_left,xM];cases lv v w<;>cases lv v f<;>cases lv v s<;>simp
theorem JZ{v:Key->Bool}{w f s:bG}:Hold v (qR w f s)↔lv v w=(lv v f==lv v s):=by
 unfold Hold qR;simp only[aj8,am4,ar6,forall_eq_or_imp,forall_eq,exists_eq_or_imp,exists_eq_left,xM];cases lv v w<;>cases lv v f<;>cases lv v s<;>simp
def yY(sm:Key->Key)(acc:List bG)(q:Key):List (List bG):=
 if q.1=38 then mM (sm q,true) (acc.getD q.2.1 ((0,0,0),false)) (acc.getD q.2.2 ((0,0,0),false))
 else if q.1=124 then mM (nl (sm q,true)) (nl (acc.getD q.2.1 ((0,0,0),false))) (nl (acc.getD q.2.2 ((0,0,0),false)))
 else if q.1=62 then mM (nl (sm q,true)) (acc.getD q.2.1 ((0,0,0),false)) (nl (acc.getD q.2.2 ((0,0,0),false)))
 else if q.1=45 then qR (sm q,true) (acc.getD q.2.1 ((0,0,0),false)) (acc.getD q.2.2 ((0,0,0),false))
 else []
theorem TV{sm:Key->Key}{v:Key->Bool}{acc:List bG}{q:Key}:Hold v (yY sm acc q)↔(aA q.1=true->v (sm q)=jn q.1 (lv v (acc.getD q.2.1 ((0,0,0),false))) (lv v (acc.getD q.2.2 ((0,0,0),false)))):=by
 have hw:lv v (sm q,true)=v (sm q):=by simp[lv]
 unfold yY jn;by_cases h1:q.1=38
 ·rw[af9 h1,wW,hw,af9 h1];simp[aA,h1]
 ·rw[af6 h1];by_cases h2:q.1=124
  ·rw[af9 h2,wW,xM,xM,xM,hw];simp[aA,h2]
  ·rw[af6 h2];by_cases h3:q.1=62
   ·rw[af9 h3,wW,xM,xM,hw];simp[aA,h3]
   ·rw[af6 h3];by_cases h4:q.1=45
    ·rw[af9 h4,JZ,hw];simp[aA,h4]
    ·rw[af6 h4];have:aA q.1=false:=(by simp[aA,h1,h2,h3,h4]);simp[this,Hold]
def vW(sm:Key->Key):Nat->List Key->List (List bG)
 |0,_=>[]
 |k+1,ps=>vW sm k ps++match ps[k]? with
  |some q=>yY sm (lits sm (ps.take k)) q
  |none=>[]
theorem DX{sm:Key->Key}{k:Nat}{ps:List Key}(h:k<ps.length):vW sm (k+1) ps=vW sm k ps++yY sm (lits sm (ps.take k)) ps[k]:=by
 show _++_=_
 rw[af2 h]
theorem PI{sm:Key->Key}{v:Key->Bool}{ps:List Key}:∀k,k<=ps.length->(Hold v (vW sm k ps)↔LK sm v (ps.take k)):=by
 intro k
 induction k with
 |zero=>
  intro _;constructor
  ·intro _ ps1 q hp;simp at hp
  ·intro _ c hc;cases hc
 |succ k ih=>
  intro hk;have e:ps.take (k+1)=ps.take k++[ps[k]]:=by rw[ai4,af2 (by omega)];rfl
  rw[DX (by omega),fG,ih (by omega),TV,e,LK.snoc]
def mY(sm:Key->Key)(ps:List Key):List (List bG):=vW sm ps.length ps++[[(lits sm ps).getD (ps.length-1) ((0,0,0),false)]]
theorem vN{sm:Key->Key}{v:Key->Bool}{ps:List Key}:Hold v (mY sm ps)↔Stt sm ps v:=by
 unfold mY Stt;rw[fG,PI _ (af0 _),ak8];refine and_congr Iff.rfl ⟨λh=>?_,λh c hc=>?_⟩
 ·obtain⟨l,hl,h1⟩:=h _ (ah6.2 rfl);rw[ah6.1 hl]at h1;exact h1
 ·rw[ah6.1 hc];exact⟨_,ah6.2 rfl,h⟩
def dh(a b:Nat):Key:=(61,a,b)
def UO(sm:Key->Key)(n:Nat):List (List bG):=
 [[(sm (dh 0 0),true)]]++(List.range n).flatMap λa=>(List.range n).flatMap λb=>(List.range a).map λc=>[(sm (dh a b),false),(sm (dh b c),false),(sm (dh a c),true)]
def Ym(sm:Key->Key)(ts:List Key):List (List bG):=
 (List.range ts.length).flatMap λa=>(List.range a).flatMap λb=>
  if (ts.getD a (0,0,0)).1=(ts.getD b (0,0,0)).1 then [[(sm (dh (ts.getD a (0,0,0)).2.1 (ts.getD b (0,0,0)).2.1),false),(sm (dh (ts.getD a (0,0,0)).2.2 (ts.getD b (0,0,0)).2.2),false),(sm (dh a b),true)]]else []
def prC(sm:Key->Key)(cs:List (Int×Nat)):List (List bG):=
 (List.range cs.length).flatMap λa=>(List.range a).flatMap λb=>
  if (cs.getD a (0,0)).1=(cs.getD b (0,0)).1 then
   [[(sm (dh (cs.getD a (0,0)).2 (cs.getD b (0,0)).2),false),(sm ((cs.getD a (0,0)).1,a,0),true),(sm ((cs.getD b (0,0)).1,b,0),false)],
    [(sm (dh (cs.getD a (0,0)).2 (cs.getD b (0,0)).2),false),(sm ((cs.getD a (0,0)).1,a,0),false),(sm ((cs.getD b (0,0)).1,b,0),true)]]else []
theorem kY{v:Key->Bool}{n:Nat}{g:Nat->List (List bG)}:Hold v ((List.range n).flatMap g)↔∀a,a<n->Hold v (g a):=by
 unfold Hold;constructor
 ·intro h a ha c hc;exact h c (an4.2 ⟨a,aj9.2 ha,hc⟩)
 ·intro h c hc;obtain⟨a,ha,hc⟩:=an4.1 hc;exact h a (aj9.1 ha) c hc
theorem Hw{sm:Key->Key}{v:Key->Bool}{n:Nat}:Hold v (UO sm n)↔v (sm (dh 0 0))=true/\∀a,a<n->∀b,b<n->∀c,c<a->v (sm (dh a b))=true->v (sm (dh b c))=true->v (sm (dh a c))=true:=by
 unfold UO;rw[fG,kY];refine and_congr ?_ (ao8 λa=>ao8 λha=>?_)
 ·unfold Hold;simp only[aj8,am4,ar6,forall_eq,exists_eq_left,lv];cases v (sm (dh 0 0))<;>simp
 ·rw[kY];refine ao8 λb=>ao8 λhb=>?_;unfold Hold;constructor
  ·intro h c hc h1 h2;have:=h _ (ah3.2 ⟨c,aj9.2 hc,rfl⟩);simp[lv,h1,h2]at this;exact this
  ·intro h c hc;obtain⟨c',hc',rfl⟩:=ah3.1 hc;have:=h c' (aj9.1 hc');simp only[aj8,am4,ar6,exists_eq_or_imp,exists_eq_left,lv];cases h1:v (sm (dh a b))<;>cases h2:v (sm (dh b c'))<;>simp_all
theorem Hu{sm:Key->Key}{v:Key->Bool}{ts:List Key}:Hold v (Ym sm ts)↔∀a,a<ts.length->∀b,b<a->(ts.getD a (0,0,0)).1=(ts.getD b (0,0,0)).1->v (sm (dh (ts.getD a (0,0,0)).2.1 (ts.getD b (0,0,0)).2.1))=true->v (sm (dh (ts.getD a (0,0,0)).2.2 (ts.getD b (0,0,0)).2.2))=true->v (sm (dh a b))=true:=by
 unfold Ym;rw[kY];refine ao8 λa=>ao8 λha=>?_;rw[kY];refine ao8 λb=>ao8 λhb=>?_;by_cases e:(ts.getD a (0,0,0)).1=(ts.getD b (0,0,0)).1
 ·rw[af9 e];unfold Hold;simp only[aj8,am4,ar6,forall_eq,exists_eq_or_imp,exists_eq_left,lv];constructor
  ·intro h _ h1 h2;rw[h1,h2]at h;cases h3:v (sm (dh a b))<;>simp_all
  ·intro h;have:=h e;cases h1:v (sm (dh (ts.getD a (0,0,0)).2.1 (ts.getD b (0,0,0)).2.1))<;>cases h2:v (sm (dh (ts.getD a (0,0,0)).2.2 (ts.getD b (0,0,0)).2.2))<;>simp_all
 ·rw[af6 e];exact⟨λ_ h=>absurd h e,λ_ c hc=>by cases hc⟩
theorem Hr{sm:Key->Key}{v:Key->Bool}{cs:List (Int×Nat)}:Hold v (prC sm cs)↔∀a,a<cs.length->∀b,b<a->(cs.getD a (0,0)).1=(cs.getD b (0,0)).1->v (sm (dh (cs.getD a (0,0)).2 (cs.getD b (0,0)).2))=true->v (sm ((cs.getD a (0,0)).1,a,0))=v (sm ((cs.getD b (0,0)).1,b,0)):=by
 unfold prC;rw[kY];refine ao8 λa=>ao8 λha=>?_;rw[kY];refine ao8 λb=>ao8 λhb=>?_;by_cases e:(cs.getD a (0,0)).1=(cs.getD b (0,0)).1
 ·rw[af9 e];unfold Hold;simp only[aj8,am4,ar6,forall_eq_or_imp,forall_eq,exists_eq_or_imp,exists_eq_left,lv];constructor
  ·rintro⟨h1,h2⟩ _ h3;rw[h3]at h1 h2;cases h4:v (sm ((cs.getD a (0,0)).1,a,0))<;>cases h5:v (sm ((cs.getD b (0,0)).1,b,0))<;>simp_all
  ·intro h;have:=h e;cases h3:v (sm (dh (cs.getD a (0,0)).2 (cs.getD b (0,0)).2))<;>cases h4:v (sm ((cs.getD a (0,0)).1,a,0))<;>cases h5:v (sm ((cs.getD b (0,0)).1,b,0))<;>simp_all
 ·rw[af6 e];exact⟨λ_ h=>absurd h e,λ_ c hc=>by cases hc⟩
end
section
open Go.RowKit Go.Maps Go.WideMaps
open au (Key put dX qY jn aA iG bI)
def nums(f:Nat->Nat):Nat->List Nat
 |0=>[]
 |k+1=>put (nums f k) (f k)
def oW(f:Nat->Nat)(k:Nat):List UInt8:=(List.range k).map λt=>UInt8.ofNat (48+(nums f t).idxOf (f t))
def bits(hl:List Bool):List UInt8:=hl.map λb=>if b then 49 else 48
def wrt(f:Nat->Nat)(n:Nat)(hl:List Bool):List UInt8:=oW f n++[47]++bits hl
theorem C9{T e B b m:Nat}{bs:List Value}{w w':World}(h:Lib.IsBuilderF T e B b bs w)(hg:w.grownBy w' (some m))(hm:m≠b)(hc:∃o:Obj,w.heap[m]?=some o/\∀c t fz,o≠.cells c t fz):Lib.IsBuilderF T e B b bs w':=by
 have key:∀p,Lib.BuilderAtF T e B b p bs w->Lib.BuilderAtF T e B b p bs w':=by
  rintro p ⟨hB,v,hb,hown,hne⟩;have hlt:b<w.heap.size:=(ae8.1 hb).1;refine⟨hB,v,(hg.block b hlt (λe=>hm (am2 e).symm)).trans hb,hown.kept hg (Or.inr λe=>?_),hne⟩;obtain⟨c,fz,h1⟩:=Lib.ownsRowF_kind hown m e;obtain⟨o,h2,h3⟩:=hc;rw[h1]at h2;exact h3 _ _ _ (am2 h2).symm
 exact h.elim (λx=>.inl (key _ x)) (λx=>.inr (key _ x))
theorem aP.obj{w:World}{k b:Nat}{kv:Nat->Value}{ts:List Nat}(h:aP w k b kv ts):∃o:Obj,w.heap[b]?=some o/\∀c t fz,o≠.cells c t fz:=by
 obtain⟨D,⟨es,clock,h1,h2⟩,h3⟩:=h;exact⟨_,h1,λ_ _ _ e=>by cases e⟩
theorem nums_length(f:Nat->Nat):∀k,(nums f k).length<=k
 |0=>af0 _
 |k+1=>by
  have h:=nums_length f k;unfold nums put;split
  ·omega
  ·simp;omega
theorem Bd(f:Nat->Nat)(k:Nat):oW f (k+1)=oW f k++[UInt8.ofNat (48+(nums f k).idxOf (f k))]:=by
 simp[oW,au0]
structure WG(w:World)(b H nh:Nat)(acc:List UInt8)(l:List Nat)(W:World):Prop where
 bld:Lib.IsBuilderF 217 5 w.heap.size (w.heap.size+1+1) (Lib.byteCells acc) W
 s:W.heap[w.heap.size+1]?=some (.cells #[.map (some b),.slice (some ⟨H,0,none⟩) nh nh] 105 (0,0))
 m:aP W 3 (w.heap.size+1+1+1) kL l
 below:Below w.heap.size w W
theorem WG.x0{w W:World}{b H nh:Nat}{acc:List UInt8}{l:List Nat}(h:WG w b H nh acc l W):W.cell? ⟨w.heap.size+1,0,none⟩=some (.map (some b)):=by
 rw[Lib.cell_of_heap h.s];rfl
theorem WG.x1{w W:World}{b H nh:Nat}{acc:List UInt8}{l:List Nat}(h:WG w b H nh acc l W):W.cell? ⟨w.heap.size+1,1,none⟩=some (.slice (some ⟨H,0,none⟩) nh nh):=by
 rw[Lib.cell_of_heap h.s];rfl
theorem WG.write{w W W':World}{b H nh:Nat}{acc:List UInt8}{l:List Nat}{x:UInt8}(h:WG w b H nh acc l W)
 (h1:Lib.BuilderAtF 217 5 w.heap.size (w.heap.size+1+1) (.pointer (some ⟨w.heap.size+1+1,0,none⟩)) (Lib.byteCells acc++[.int .u8 x.toNat]) W')(h2:Below w.heap.size W W')(h3:Lib.OthersKept 5 (some (w.heap.size+1+1)) W W'):WG w b H nh (acc++[x]) l W' where
 bld:=by rw[Lib.byteCells_append];exact Or.inr h1
 s:=h3 _ _ h.s (by simp) (λc fz e=>by cases e)
 m:=by
  obtain⟨o,h4,h5⟩:=h.m.obj;exact h.m.kept ((h3 _ _ h4 (by simp) (λc fz=>h5 c _ fz)).trans h4.symm)
 below:=h.below.trans h2
theorem WG.ask{w W W':World}{b H nh x:Nat}{acc:List UInt8}{l:List Nat}(h:WG w b H nh acc l W)(h1:aP W' 3 (w.heap.size+1+1+1) kL (put l x))(h2:W.grownBy W' (some (w.heap.size+1+1+1))):WG w b H nh acc (put l x) W' where
 bld:=C9 h.bld h2 (by omega) h.m.obj
 s:=(h2.block _ (ae8.1 h.s).1 (by simp)).trans h.s
 m:=h1
 below:=h.below.grown h2 h.below.size (λk e=>by cases e;omega)
theorem WG.call{w W:World}{b H nh:Nat}{acc:List UInt8}{l:List Nat}(h:WG w b H nh acc l W)(x:UInt8)(c:Int)(hc:c=x.toNat)(hl:acc.length<=100) :
  Calls prog 138 #[.pointer (some ⟨w.heap.size+1+1,0,none⟩),.int .u8 c] W λe W'=>e=.returned .nilIface/\WG w b H nh (acc++[x]) l W':=by
 subst hc;refine(bWrite w.heap.size (w.heap.size+1+1) _ _ W h.bld (by rw[Lib.byteCells_length];omega) h.below.size).mono ?_;rintro e W' ⟨rfl,h1,h2,h3⟩;exact⟨rfl,h.write h1 h2 h3⟩
theorem xG(GT GC GP nt nc np b c H:Nat)(f:Nat->Nat)(hl:List Bool)(w:World)(h7:nt<=7)(h4:hl.length<=4)(hf:∀i,i<nt->f i<nt)(hM:jE w b f nt c)(hH:jD w H hl) :
  Calls prog 89 #[fv GT GC GP nt nc np,sv b H hl.length] w λe w'=>e=.returned (.string ⟨(wrt f nt hl).toArray⟩)/\Below w.heap.size w w':=by
 unfold fv sv;have hmm:=@av4 prog;obtain⟨w0,hw0⟩:∃w0,(((w.alloc (.cells #[.slice (some ⟨GT,0,none⟩) nt nt,.slice (some ⟨GC,0,none⟩) nc nc,.slice (some ⟨GP,0,none⟩) np np] 54)).alloc (.cells #[.map (some b),.slice (some ⟨H,0,none⟩) hl.length hl.length] 105)).alloc (.cells #[.pointer none,.slice none 0 0] 217)).alloc (.map #[] 0)=w0:=⟨_,rfl⟩;have hW0:WG w b H hl.length [] [] w0:=by
  rw[<-hw0];have hsz:((w.alloc (.cells #[.slice (some ⟨GT,0,none⟩) nt nt,.slice (some ⟨GC,0,none⟩) nc nc,.slice (some ⟨GP,0,none⟩) np np] 54)).alloc (.cells #[.map (some b),.slice (some ⟨H,0,none⟩) hl.length hl.length] 105)).heap.size=w.heap.size+1+1:=by simp
  refine⟨?_,?_,?_,?_⟩
  ·have h:=Lib.fresh_isBuilder 217 5 ((w.alloc (.cells #[.slice (some ⟨GT,0,none⟩) nt nt,.slice (some ⟨GC,0,none⟩) nc nc,.slice (some ⟨GP,0,none⟩) np np] 54)).alloc (.cells #[.map (some b),.slice (some ⟨H,0,none⟩) hl.length hl.length] 105));rw[hsz]at h;have h2:Lib.IsBuilderF 217 5 (w.heap.size+1+1) (w.heap.size+1+1) [] _:=Lib.IsBuilderF.of h;have h3:Lib.IsBuilderF 217 5 w.heap.size (w.heap.size+1+1) [] (((w.alloc (.cells #[.slice (some ⟨GT,0,none⟩) nt nt,.slice (some ⟨GC,0,none⟩) nc nc,.slice (some ⟨GP,0,none⟩) np np] 54)).alloc (.cells #[.map (some b),.slice (some ⟨H,0,none⟩) hl.length hl.length] 105)).alloc (.cells #[.pointer none,.slice none 0 0] 217)):=by
    refine Or.inl ⟨by omega,.slice none 0 0,?_,⟨by simp,.inl ⟨rfl,rfl⟩⟩,by simp[Value.ownBlock]⟩;rw[<-hsz];exact ag4 _ _
   exact h3.alloc _
  ·rw[ag1 _ _ _ (by simp),ag1 _ _ _ (by simp)];have h:=ag4 (w.alloc (.cells #[.slice (some ⟨GT,0,none⟩) nt nt,.slice (some ⟨GC,0,none⟩) nc nc,.slice (some ⟨GP,0,none⟩) np np] 54)) (.cells #[.map (some b),.slice (some ⟨H,0,none⟩) hl.length hl.length] 105);simpa using h
  ·have h:=jO (((w.alloc (.cells #[.slice (some ⟨GT,0,none⟩) nt nt,.slice (some ⟨GC,0,none⟩) nc nc,.slice (some ⟨GP,0,none⟩) np np] 54)).alloc (.cells #[.map (some b),.slice (some ⟨H,0,none⟩) hl.length hl.length] 105)).alloc (.cells #[.pointer none,.slice none 0 0] 217)) 3 kL;have e:(((w.alloc (.cells #[.slice (some ⟨GT,0,none⟩) nt nt,.slice (some ⟨GC,0,none⟩) nc nc,.slice (some ⟨GP,0,none⟩) np np] 54)).alloc (.cells #[.map (some b),.slice (some ⟨H,0,none⟩) hl.length hl.length] 105)).alloc (.cells #[.pointer none,.slice none 0 0] 217)).heap.size=w.heap.size+1+1+1:=(by simp);rw[e]at h;exact h
  ·exact((((ai7 _ _).alloc (af0 _) _).alloc (by simp) _).alloc (by simp;omega) _).alloc (by simp;omega) _
 have HW:=aj hw0;have hc0:w0.cell? ⟨w.heap.size,0,none⟩=some (.slice (some ⟨GT,0,none⟩) nt nt):=by rw[<-hw0];simp[go_sem]
 have hlM:=hM.lt;have hlH:=hH.1;have HM:=aj hM;have HH:=aj hH;have HF:=aj hf;clear hM hH hf hw0
 go_enter func89,ntmps89
 go_wp2_with fail
 rw[ah HW]
 go_loopw [14] (λi wr=>∃k:Nat,k<=nt/\i=.int .i64 k/\WG w b H hl.length (oW f k) (nums f k) wr) (λi _=>nt-(intOf i).toNat)
 case atStart=>exact⟨0,ah9 _,rfl,hW0⟩
 case round=>
  obtain⟨k,hk,rfl,hwg⟩:=hrel;by_cases hlt:k<nt
  ·have hbd:(k:Int)<(nt:Int):=(by omega);have hx0:=hwg.x0;have hof:=qw wr b nt c f k ((ah HM).kept (hwg.below.block b hlM)) hlt (by omega);have hnl:=nums_length f k;have hfk:f k<=1000:=ah2 (au6 (ah HF k hlt)) (by omega);have hnum:=zL (w.heap.size+1+1+1) (nums f k) (f k) wr hfk (by omega) hwg.m;have hds:=Bd f k;have hdl:(oW f k).length<=100:=(by simp[oW];omega);have hns:nums f (k+1)=put (nums f k) (f k):=rfl;have hil:(nums f k).idxOf (f k)<=7:=ah2 ap2 (by omega);have HD:=aj hds;have HN:=aj hns;have HWG:=aj hwg;have HDL:=aj hdl;have aad:=aj hnum;clear hwg hns hds hnl hdl hnum;generalize (nums f k).idxOf (f k)=ix at HD aad hil;generalize f k=fk at hof HN aad
   go_wp2_with fail
   refine hof.mono ?_;rintro e w1 ⟨rfl,rfl⟩
   go_wp2_with fail
   refine(ah aad).mono ?_;rintro e w2 ⟨rfl,hm2,hg2⟩;have acP:=(ah HWG).ask hm2 hg2
   go_wp2_with fail
   refine(acP.call (UInt8.ofNat (48+ix)) (48+ix) (by simp[UInt8.toNat_ofNat'];omega) (ah HDL)).mono ?_;rintro e w3 ⟨rfl,TR⟩
   go_wp2_with fail
   exact⟨⟨k+1,hlt,by go_num,by rw[ah HD,ah HN];exact TR⟩,by simp[intOf];omega⟩
  ·have hkk:k=nt:=(by omega);subst hkk;have hbd:¬(k:Int)<(k:Int):=(by omega);have hdl:(oW f k).length<=100:=(by simp[oW];omega);have HWG:=aj hwg;have HDL:=aj hdl;clear hwg hdl
   go_wp2_with fail
   refine((ah HWG).call 47 47 rfl (ah HDL)).mono ?_;rintro e w1 ⟨rfl,Y0⟩;have hx1:=Y0.x1;have ad4:=aj Y0;clear Y0
   go_wp2_with fail
   go_loopw [31] (λi wr=>∃j:Nat,j<=hl.length/\i=.int .i64 j/\WG w b H hl.length (oW f k++[47]++bits (hl.take j)) (nums f k) wr) (λi _=>hl.length-(intOf i).toNat)
   case atStart=>exact⟨0,ah9 _,rfl,by simpa[bits]using ah ad4⟩
   case round=>
    obtain⟨j,hj,rfl,hwg⟩:=hrel;by_cases hjt:j<hl.length
    ·have hjd:(j:Int)<(hl.length:Int):=(by omega);have hcj:=((ah HH).same (hwg.below.block H hlH)).2 j hjt;have hbl:(oW f k++[47]++bits (hl.take j)).length<=100:=(by rw[ah1,ah1,bits,am3,al0,oW,am3,List.length_range,al6];omega);have hbs:bits (hl.take (j+1))=bits (hl.take j)++[if hl[j]then 49 else 48]:=(by unfold bits;rw[ai4,af2 hjt,al7];rfl);have HBS:=aj hbs;have HWG:=aj hwg;have HBL:=aj hbl;clear hwg hbl hbs;generalize hl[j]=bj at hcj HBS;cases bj
     ·go_wp2_with fail
      refine((ah HWG).call 48 48 rfl (ah HBL)).mono ?_;rintro e w3 ⟨rfl,TR⟩
      go_wp2_with fail
      exact⟨⟨j+1,hjt,by go_num,by rw[ah HBS,<-ak6];exact TR⟩,by simp[intOf];omega⟩
     ·go_wp2_with fail
      refine((ah HWG).call 49 49 rfl (ah HBL)).mono ?_;rintro e w3 ⟨rfl,TR⟩
      go_wp2_with fail
      exact⟨⟨j+1,hjt,by go_num,by rw[ah HBS,<-ak6];exact TR⟩,by simp[intOf];omega⟩
    ·have hjj:j=hl.length:=(by omega);subst hjj;have hjd:¬(hl.length:Int)<(hl.length:Int):=(by omega);have hbs:=bString w.heap.size (w.heap.size+1+1) _ wr hwg.bld hwg.below.size;have hbw:=hwg.below;have e1:oW f k++[47]++bits (hl.take hl.length)=wrt f k hl:=(by rw[ak8];rfl);rw[e1]at hbs;clear hwg e1
     go_wp2_with fail
     refine hbs.mono ?_;rintro e w3 ⟨rfl,_,hb3,_⟩;have hb4:=hbw.trans hb3
     go_wp2_with fail
     go_ret
     exact⟨rfl,hb4⟩
end
section
open Go.RowKit Go.Maps Go.WideMaps
open au (Key put dX qY jn aA iG bI)
attribute [local go_sem] Oper.semAt_some
theorem kN(W:World)(o:Obj):Below W.heap.size W (W.alloc o):=(ai7 _ _).alloc (af0 _) _
end
open au (Key put)
def eu(b:UInt8):Bool:=decide ((b.toNat:Int)<48)||decide ((57:Int)<(b.toNat:Int))
def dR(t:ByteArray):Bool:=decide (60<t.size)||t.data.toList.any eu
theorem qQ{t:ByteArray}{k:Nat}(hk:k<t.size):(t.data.toList.take (k+1)).any eu=((t.data.toList.take k).any eu||eu t[k]):=by
 have hk':k<t.data.toList.length:=by simpa using hk
 rw[ai4,af2 hk',List.any_append];simp[aj1]
theorem any_true{t:ByteArray}{k:Nat}(h:(decide (60<t.size)||(t.data.toList.take k).any eu)=true):dR t=true:=by
 unfold dR;rw[Bool.or_eq_true]at h ⊢;rcases h with h|h
 ·exact Or.inl h
 ·refine Or.inr ?_;rw[ap6]at h ⊢;obtain⟨x,hx,hp⟩:=h;exact⟨x,ao1 hx,hp⟩
theorem Di{ts:List Key}{cs:List (Int×Nat)}{ps:List Key}(hc:au.iZ ts cs)(hp:au.bI ts.length cs.length ps)(h:0<ps.length):0<ts.length:=by
 rcases hp.ok 0 h with⟨_,q,_⟩|⟨_,q,_⟩|⟨_,q,_⟩|⟨_,q,_⟩
 ·omega
 ·omega
 ·have:=(hc cs[ps[0].2.1] (af4 q)).2;omega
 ·omega
end Go.Proofs.YthcppbmkacbbiaaGreat
