import Derived.Test.YthcppbmkacbbiabGreatVAX
set_option linter.unusedSimpArgs false
set_option maxHeartbeats 1000000
set_option maxRecDepth 100000
namespace Go.Proofs.YthcppbmkacbbiabGreat
open Go.Proofs.Tryz
section
open Sat (View Rule og dN)
open au (Key put tV gV jn aB bJ fQ)
abbrev dw:Type:=Key×Bool
def lv(v:Key->Bool)(l:dw):Bool:=v l.1==l.2
def nl(l:dw):dw:=(l.1,!l.2)
theorem F6(v:Key->Bool)(l:dw):lv v (nl l)=!lv v l:=by
 unfold lv nl;cases v l.1<;>cases l.2<;>rfl
def vw(Us:Ai)(l:dw):View:=(Us.idxOf l.1,l.2)
theorem oD{Us Us':Ai}(h:Us <+: Us'){p:Key}(hp:p∈Us):Us'.idxOf p=Us.idxOf p:=by
 obtain⟨anc,rfl⟩:=h;rw[aw0,ao4 hp]
theorem UY{Us Us':Ai}(h:Us <+: Us'){l:dw}(hp:l.1∈Us):vw Us' l=vw Us l:=by
 unfold vw;rw[oD h hp]
theorem XO(Us:Ai)(l:dw):vw Us (nl l)=((vw Us l).1,!(vw Us l).2):=rfl
def dd(vs:List View):Rule:=vs.foldl put []
theorem Xa(vs:List View):∀(acc:List View) (u:View),u∈vs.foldl put acc↔u∈acc\/u∈vs:=by
 induction vs with
 |nil=>intro acc u;simp
 |cons a vs ih=>
  intro acc u;rw[List.foldl_cons,ih,DC];simp[or_assoc]
theorem PO(vs:List View)(u:View):u∈dd vs↔u∈vs:=by
 unfold dd;rw[Xa];simp
theorem Vk{l:List View}(h:l.Nodup)(a:View):(put l a).Nodup:=by
 unfold put;by_cases hc:l.contains a=true
 ·rw[ao4 hc];exact h
 ·rw[an8 hc,az1];refine⟨h,R,λx hx y hy e=>?_⟩;rw[ap8.1 hy]at e;subst e;exact hc (by simpa using hx)
theorem PN(vs:List View):∀(acc:List View),acc.Nodup->(vs.foldl put acc).Nodup:=by
 induction vs with
 |nil=>intro acc h;exact h
 |cons a vs ih=>intro acc h;exact ih _ (Vk h a)
theorem adS(vs:List View):(dd vs).Nodup:=PN vs [] az6
theorem Cc(vs:List View):∀(acc:List View),(vs.foldl put acc).length<=acc.length+vs.length:=by
 induction vs with
 |nil=>intro acc;simp
 |cons a vs ih=>
  intro acc;have I:=ih (put acc a);have M:(put acc a).length<=acc.length+1:=by unfold put;split<;>simp
  simp only[List.foldl_cons,ao1];omega
theorem ahW(vs:List View):(dd vs).length<=vs.length:=by
 have:=Cc vs [];simpa[dd]using this
def Sem(Us:Ai)(ak:List Rule)(Φ:(Key->Bool)->Prop):Prop:=
 ∀Us',Us <+: Us'->∀α:Nat->Bool,(∀r∈ak,Sat.keeps α r)↔Φ (λp=>α (Us'.idxOf p))
structure LP(Us:Ai)(ak:List Rule)(Φ:(Key->Bool)->Prop):Prop where
 sem:Sem Us ak Φ
 rg:RG Us.length ak
 nodup:Us.Nodup
theorem LP.nil:LP [] [] (λ_=>True):=
 ⟨λ_ _ _=>⟨λ_=>trivial,λ_ r hr=>by(cases hr)⟩,⟨λr hr=>by(cases hr),λr hr=>by(cases hr),λr hr=>by(cases hr),λr hr=>by(cases hr)⟩,az6⟩
theorem mG{α:Type}[BEq α](l:List α)(k:α):l <+: put l k:=by
 unfold put;split
 ·exact av9 _
 ·exact aB0 _ _
theorem LP.so{Us:Ai}{ak:List Rule}{Φ:(Key->Bool)->Prop}(h:LP Us ak Φ)(p:Key):LP (put Us p) ak Φ:=by
 have hl:=(mG Us p).length_le;refine⟨λUs' hp α=>h.sem Us' ((mG Us p).trans hp) α,⟨h.rg.ne,h.rg.nodup,λr hr u hu=>ap2 (h.rg.lt r hr u hu) hl,h.rg.len⟩,?_⟩;unfold put;by_cases hc:Us.contains p=true
 ·rw[ao4 hc];exact h.nodup
 ·rw[an8 hc,az1];refine⟨h.nodup,R,λx hx y hy e=>?_⟩;rw[ap8.1 hy]at e;subst e;exact hc (by simpa using hx)
theorem LP.demand{Us:Ai}{ak:List Rule}{Φ:(Key->Bool)->Prop}(h:LP Us ak Φ){ls:List dw}(h0:ls≠[])(I:ls.length<=1000)(hm:∀l∈ls,l.1∈Us) :
  LP Us (ak++[dd (ls.map (vw Us))]) (λv=>Φ v/\∃l∈ls,lv v l=true):=by
 refine⟨λUs' hp α=>?_,⟨λr hr=>?_,λr hr=>?_,λr hr=>?_,λr hr=>?_⟩,h.nodup⟩
 ·have hk:Sat.keeps α (dd (ls.map (vw Us)))↔∃l∈ls,lv (λp=>α (Us'.idxOf p)) l=true:=by
   unfold Sat.keeps;constructor
   ·rintro⟨u,hu,hα⟩;obtain⟨l,hl,rfl⟩:=ap6.1 ((PO _ _).1 hu);refine⟨l,hl,?_⟩;unfold lv;simp only[oD hp (hm l hl)];simpa[vw]using hα
   ·rintro⟨l,hl,hα⟩;refine⟨vw Us l,(PO _ _).2 (ap6.2 ⟨l,hl,rfl⟩),?_⟩;unfold lv at hα;simp only[oD hp (hm l hl)]at hα;simpa[vw]using hα
  rw[<-hk,<-h.sem Us' hp α];constructor
  ·intro hr;exact⟨λr M=>hr r (as9 _ M),hr _ R⟩
  ·rintro⟨g1,g2⟩ r hr;obtain hr|hr:=aq7.1 hr
   ·exact g1 r hr
   ·rw[ap8.1 hr];exact g2
 ·obtain hr|hr:=aq7.1 hr
  ·exact h.rg.ne r hr
  ·rw[ap8.1 hr];intro e;obtain⟨l,hl⟩:=List.exists_mem_of_ne_nil _ h0;have:=(PO _ _).2 (ap6.2 ⟨l,hl,rfl⟩:vw Us l∈ls.map (vw Us));rw[e]at this;cases this
 ·obtain hr|hr:=aq7.1 hr
  ·exact h.rg.nodup r hr
  ·rw[ap8.1 hr];exact adS _
 ·obtain hr|hr:=aq7.1 hr
  ·exact h.rg.lt r hr
  ·rw[ap8.1 hr];intro u hu;obtain⟨l,hl,rfl⟩:=ap6.1 ((PO _ _).1 hu);exact av2.2 (hm l hl)
 ·obtain hr|hr:=aq7.1 hr
  ·exact h.rg.len r hr
  ·rw[ap8.1 hr];have:=ahW (ls.map (vw Us));simp at this;omega
theorem LP.imp{Us:Ai}{ak:List Rule}{Φ Ψ:(Key->Bool)->Prop}(h:LP Us ak Φ)(e:∀v,Φ v↔Ψ v):LP Us ak Ψ:=
 ⟨λUs' hp α=>(h.sem Us' hp α).trans (e _),h.rg,h.nodup⟩
def lits(sm:Key->Key)(ps:Ai):List dw:=ps.foldl (λacc q=>acc++[if q.1=33 then nl (acc.getD q.2.1 ((0,0,0),false))else(sm q,true)]) []
theorem EU(sm:Key->Key)(ps:Ai)(q:Key):lits sm (ps++[q])=lits sm ps++[if q.1=33 then nl ((lits sm ps).getD q.2.1 ((0,0,0),false))else(sm q,true)]:=by
 unfold lits;rw[az2];rfl
theorem lS(sm:Key->Key)(ps:Ai):(lits sm ps).length=ps.length:=by
 have h:∀qs:Ai,∀ps:Ai,(lits sm ps).length=ps.length->(lits sm (ps++qs)).length=(ps++qs).length:=by
  intro qs
  induction qs with
  |nil=>intro ps h;simpa using h
  |cons q qs ih=>
   intro ps h;have e:ps++q::qs=(ps++[q])++qs:=R;rw[e];exact ih _ (by rw[EU];simp[h])
 simpa using h ps [] rfl
def LK(sm:Key->Key)(v:Key->Bool)(ps:Ai):Prop:=
 ∀ps1 q,ps1++[q] <+: ps->aB q.1=true->v (sm q)=jn q.1 (lv v ((lits sm ps1).getD q.2.1 ((0,0,0),false))) (lv v ((lits sm ps1).getD q.2.2 ((0,0,0),false)))
theorem Rf{α:Type}{a b:List α}{x:α}(h:a <+: b++[x]):a <+: b\/a=b++[x]:=by
 obtain h|h:=List.prefix_concat_iff.1 h
 ·exact Or.inr h
 ·exact Or.inl h
theorem LK.snoc{sm:Key->Key}{v:Key->Bool}{ps:Ai}{q:Key}:LK sm v (ps++[q])↔LK sm v ps/\(aB q.1=true->v (sm q)=jn q.1 (lv v ((lits sm ps).getD q.2.1 ((0,0,0),false))) (lv v ((lits sm ps).getD q.2.2 ((0,0,0),false)))):=by
 constructor
 ·intro h;exact⟨λps1 q1 hp=>h ps1 q1 (hp.trans (aB0 _ _)),h ps q (av9 _)⟩
 ·rintro⟨I,M⟩ ps1 q1 hp;obtain hp|hp:=Rf hp
  ·exact I ps1 q1 hp
  ·have:=List.append_inj' hp rfl;obtain⟨rfl,e⟩:=this;have e:q1=q:=(by simpa using e);subst e;exact M
def zo(sm:Key->Key)(v:Key->Bool)(cl:List Int)(hl:List Bool)(ps:Ai):Prop:=
 ∀q∈ps,(q.1=61->v (sm q)=decide (cl.getD q.2.1 0=cl.getD q.2.2 0))/\(q.1=80\/q.1=81->v (sm q)=hl.getD q.2.1 false)
theorem jY{v:Key->Bool}{L:List dw}{B:List Bool}(h:L.map (lv v)=B){i:Nat}(hi:i<L.length):lv v (L.getD i ((0,0,0),false))=B.getD i false:=by
 subst h;simp[ao0,an3 hi]
theorem Jq{sm:Key->Key}{v:Key->Bool}{cl:List Int}{hl:List Bool}{nt nc:Nat}:∀(ps:Ai),(∀i (h:i<ps.length),fQ nt nc i ps[i])->LK sm v ps->zo sm v cl hl ps->(lits sm ps).map (lv v)=gV cl hl ps:=by
 suffices H:∀n (ps:Ai),ps.length=n->(∀i (h:i<ps.length),fQ nt nc i ps[i])->LK sm v ps->zo sm v cl hl ps->(lits sm ps).map (lv v)=gV cl hl ps from λps=>H _ ps rfl
 intro n
 induction n with
 |zero=>
  intro ps hn _ _ _;have:ps=[]:=aq9 hn;subst this;rfl
 |succ n ih=>
  intro ps hn iq hk ha;obtain⟨qs,q,rfl⟩:∃qs q,ps=qs++[q]:=⟨ps.dropLast,ps.getLast (by intro e;rw[e]at hn;simp at hn),(List.dropLast_concat_getLast _).symm⟩;have zM:qs.length=n:=by simpa using hn
  obtain⟨O4,sH⟩:=LK.snoc.1 hk;have ih1:=ih qs zM (λi h=>by have:=iq i anf;rwa [au6 h]at this) O4 (λp hp=>ha p (as9 _ hp));have hq:=iq qs.length R;simp at hq;have haq:=ha q R;rw[EU,au.qV,au0,ih1]
  congr 1
  simp only[ay3,List.map_nil]
  congr 1
  have GV:=lS sm qs;unfold tV;obtain⟨a,b,_⟩|⟨a,b,c⟩|⟨a,_,_⟩|⟨a,_,_⟩:=hq
  ·rw[ao4 a,F6,jY ih1 O];simp[a]
  ·have mV:q.1≠33:=(by intro e;rw[e]at a;simp[aB]at a);have jP:q.1≠61:=(by intro e;rw[e]at a;simp[aB]at a);have Qq:¬(q.1=80\/q.1=81):=(by rintro(e|e)<;>(rw[e]at a;simp[aB]at a));rw[an8 mV,an8 jP,an8 Qq,an8 mV];have:=sH a;rw[jY ih1 O,jY ih1 O]at this;rw[<-this];simp[lv]
  ·have mV:q.1≠33:=O;have jP:q.1≠61:=O;rw[an8 mV,an8 jP,ao4 a,<-haq.2 a];simp[lv]
  ·have mV:q.1≠33:=O;rw[an8 mV,ao4 a,<-haq.1 a];simp[lv]
structure Ur(sm:Key->Key):Prop where
 eq:∀q:Key,q.1=61->(sm q).1=61/\(sm q=q\/((sm q).2=(q.2.2,q.2.1))\/(q.2.1=q.2.2/\(sm q).2.1=(sm q).2.2))
 other:∀q:Key,q.1≠61->sm q=q
theorem XT:Ur id:=⟨λ_ h=>⟨h,Or.inl rfl⟩,λ_ _=>rfl⟩
def cv(cl:List Int)(hl:List Bool)(ps:Ai):Key->Bool:=λp=>tV cl hl (gV cl hl ps) p
theorem agp{cl:List Int}{hl:List Bool}{ps:Ai}{q:Key}(h:q.1=61):cv cl hl ps q=decide (cl.getD q.2.1 0=cl.getD q.2.2 0):=by
 unfold cv tV;rw[ao4 h]
theorem Ee{cl:List Int}{hl:List Bool}{ps:Ai}{q:Key}(h:q.1=80\/q.1=81):cv cl hl ps q=hl.getD q.2.1 false:=by
 have I:q.1≠61:=O
 unfold cv tV;rw[an8 I,ao4 h]
theorem agn{sm:Key->Key}(hs:Ur sm){cl:List Int}{hl:List Bool}{ps:Ai}{q:Key}(h:q.1=61):cv cl hl ps (sm q)=decide (cl.getD q.2.1 0=cl.getD q.2.2 0):=by
 obtain⟨I,M⟩:=hs.eq q h;rw[agp I];obtain e|e|⟨e1,e2⟩:=M
 ·rw[e]
 ·rw[e];simp only[aB7];exact⟨Eq.symm,Eq.symm⟩
 ·rw[e1,e2];simp
theorem Ud{sm:Key->Key}(hs:Ur sm)(cl:List Int)(hl:List Bool)(ps qs:Ai):zo sm (cv cl hl ps) cl hl qs:=by
 refine λq _=>⟨λh=>agn hs h,λh=>?_⟩;rw[hs.other q O,Ee h]
theorem adY{sm:Key->Key}(hs:Ur sm){cl:List Int}{hl:List Bool}{nt nc:Nat}{ps:Ai}(hi:bJ nt nc ps):∀n,n<=ps.length->LK sm (cv cl hl ps) (ps.take n):=by
 intro n
 induction n with
 |zero=>
  intro _ ps1 q hp;simp at hp
 |succ n ih=>
  intro hn;have e:ps.take (n+1)=ps.take n++[ps[n]]:=by rw[aq3,an3 O];rfl
  have hk:=ih O;rw[e];refine LK.snoc.2 ⟨hk,λhj=>?_⟩;have hv:=Jq (nt:=nt) (nc:=nc) (ps.take n) (λi h=>by
   have M:i<ps.length:=(by simp at h;omega);rw[List.getElem_take];exact hi.ok i M) hk (Ud hs cl hl ps (ps.take n))
  have hq:=hi.ok n O;have hlen:(lits sm (ps.take n)).length=n:=by rw[lS];simp;omega
  have Yp:(gV cl hl (ps.take n)).length=n:=by rw[au.jW];simp;omega
  have wB:gV cl hl (ps.take n) <+: gV cl hl ps:=au.vT (List.take_prefix _ _);have mV:ps[n].1≠33:=by intro e;rw[e]at hj;simp[aB]at hj
  have jP:ps[n].1≠61:=by intro e;rw[e]at hj;simp[aB]at hj
  have Qq:¬(ps[n].1=80\/ps[n].1=81):=by rintro(e|e)<;>(rw[e]at hj;simp[aB]at hj)
  obtain⟨a,_⟩|⟨_,b,c⟩|⟨a,_⟩|⟨a,_⟩:=hq
  ·exact absurd a mV
  ·rw[jY hv O,jY hv O,hs.other _ jP];unfold cv tV;rw[an8 jP,an8 Qq,an8 mV,au.rV wB O,au.rV wB O]
  ·exact absurd a Qq
  ·exact absurd a jP
def Stt(sm:Key->Key)(ps:Ai)(v:Key->Bool):Prop:=LK sm v ps/\lv v ((lits sm ps).getD (ps.length-1) ((0,0,0),false))=true
theorem QG{sm:Key->Key}{v:Key->Bool}{cl:List Int}{hl:List Bool}{nt nc:Nat}{ps:Ai}(hi:bJ nt nc ps)(h0:0<ps.length)(h:Stt sm ps v)(ha:zo sm v cl hl ps):(gV cl hl ps).getD (ps.length-1) false=true:=by
 have hv:=Jq ps hi.ok h.1 ha;rw[<-h.2,jY hv (by rw[lS];omega)]
theorem Uf{sm:Key->Key}(hs:Ur sm){cl:List Int}{hl:List Bool}{nt nc:Nat}{ps:Ai}(hi:bJ nt nc ps)(h0:0<ps.length)(h:(gV cl hl ps).getD (ps.length-1) false=true):Stt sm ps (cv cl hl ps):=by
 have hk:=adY (cl:=cl) (hl:=hl) hs hi ps.length (an2 _);rw[ar7]at hk;have hv:=Jq ps hi.ok hk (Ud hs cl hl ps ps);exact⟨hk,by rw[jY hv (by rw[lS];omega)];exact h⟩
def Hold(v:Key->Bool)(L:List (List dw)):Prop:=∀c∈L,∃l∈c,lv v l=true
theorem iY{v:Key->Bool}{L h2:List (List dw)}:Hold v (L++h2)↔Hold v L/\Hold v h2:=by
 unfold Hold;constructor
 ·intro h;exact⟨λc hc=>h c (as9 _ hc),λc hc=>h c (aA1 _ hc)⟩
 ·rintro⟨I,M⟩ c hc;obtain hc|hc:=aq7.1 hc
  ·exact I c hc
  ·exact M c hc
structure vG(Us:Ai)(ak:List Rule)(L:List (List dw)):Prop where
 lp:LP Us ak (λv=>Hold v L)
 mem:∀c∈L,∀l∈c,l.1∈Us
 len:ak.length=L.length
theorem vG.nil:vG [] [] []:=⟨LP.nil.imp (λ_=>⟨λ_ c hc=>by(cases hc),λ_=>trivial⟩),λc hc=>by(cases hc),rfl⟩
theorem vG.so{Us:Ai}{ak:List Rule}{L:List (List dw)}(h:vG Us ak L)(p:Key):vG (put Us p) ak L:=
 ⟨h.lp.so p,λc hc l hl=>(mG Us p).mem (h.mem c hc l hl),h.len⟩
theorem vG.demand{Us:Ai}{ak:List Rule}{L:List (List dw)}(h:vG Us ak L){ls:List dw}(h0:ls≠[])(I:ls.length<=1000)(hm:∀l∈ls,l.1∈Us):vG Us (ak++[dd (ls.map (vw Us))]) (L++[ls]):=by
 refine⟨(h.lp.demand h0 I hm).imp (λv=>?_),λc hc=>?_,by simp[h.len]⟩
 ·rw[iY];refine and_congr Iff.rfl ⟨λe c hc=>?_,λe=>e ls R⟩;rw[ap8.1 hc];exact e
 ·obtain hc|hc:=aq7.1 hc
  ·exact h.mem c hc
  ·rw[ap8.1 hc];exact hm
theorem dL(Us:Ai)(p:Key):p∈put Us p:=DC.2 (Or.inr rfl)
def y9(w f s:dw):List (List dw):=[[nl w,f],[nl w,s],[w,nl f,nl s]]
def Cm(w f s:dw):List (List dw):=[[w,f,s],[w,nl f,nl s],[nl w,f,nl s],[nl w,nl f,s]]
theorem Fa{v:Key->Bool}{w f s:dw}:Hold v (y9 w f s)↔lv v w=(lv v f&&lv v s):=by
 unfold Hold y9;simp only[ar9,av3,aA4,forall_eq_or_imp,forall_eq,exists_eq_or_imp,aC2,F6];cases lv v w<;>cases lv v f<;>cases lv v s<;>simp
theorem VW{v:Key->Bool}{w f s:dw}:Hold v (Cm w f s)↔lv v w=(lv v f==lv v s):=by
 unfold Hold Cm;simp only[ar9,av3,aA4,forall_eq_or_imp,forall_eq,exists_eq_or_imp,aC2,F6];cases lv v w<;>cases lv v f<;>cases lv v s<;>simp
def Xb(sm:Key->Key)(acc:List dw)(q:Key):List (List dw):=
 if q.1=38 then y9 (sm q,true) (acc.getD q.2.1 ((0,0,0),false)) (acc.getD q.2.2 ((0,0,0),false))
 else if q.1=124 then y9 (nl (sm q,true)) (nl (acc.getD q.2.1 ((0,0,0),false))) (nl (acc.getD q.2.2 ((0,0,0),false)))
 else if q.1=62 then y9 (nl (sm q,true)) (acc.getD q.2.1 ((0,0,0),false)) (nl (acc.getD q.2.2 ((0,0,0),false)))
 else if q.1=45 then Cm (sm q,true) (acc.getD q.2.1 ((0,0,0),false)) (acc.getD q.2.2 ((0,0,0),false))
 else []
theorem ada{sm:Key->Key}{v:Key->Bool}{acc:List dw}{q:Key}:Hold v (Xb sm acc q)↔(aB q.1=true->v (sm q)=jn q.1 (lv v (acc.getD q.2.1 ((0,0,0),false))) (lv v (acc.getD q.2.2 ((0,0,0),false)))):=by
 have hw:lv v (sm q,true)=v (sm q):=by simp[lv]
 unfold Xb jn;by_cases I:q.1=38
 ·rw[ao4 I,Fa,hw,ao4 I];simp[aB,I]
 ·rw[an8 I];by_cases M:q.1=124
  ·rw[ao4 M,Fa,F6,F6,F6,hw];simp[aB,M]
  ·rw[an8 M];by_cases h3:q.1=62
   ·rw[ao4 h3,Fa,F6,F6,hw];simp[aB,h3]
   ·rw[an8 h3];by_cases h4:q.1=45
    ·rw[ao4 h4,VW,hw];simp[aB,h4]
    ·rw[an8 h4];have:aB q.1=false:=(by simp[aB,I,M,h3,h4]);simp[this,Hold]
def Ed(sm:Key->Key):Nat->Ai->List (List dw)
 |0,_=>[]
 |k+1,ps=>Ed sm k ps++match ps[k]? with
  |some q=>Xb sm (lits sm (ps.take k)) q
  |none=>[]
theorem Oe{sm:Key->Key}{k:Nat}{ps:Ai}(h:k<ps.length):Ed sm (k+1) ps=Ed sm k ps++Xb sm (lits sm (ps.take k)) ps[k]:=by
 show _++_=_
 rw[an3 h]
theorem aaD{sm:Key->Key}{v:Key->Bool}{ps:Ai}:∀k,k<=ps.length->(Hold v (Ed sm k ps)↔LK sm v (ps.take k)):=by
 intro k
 induction k with
 |zero=>
  intro _;constructor
  ·intro _ ps1 q hp;simp at hp
  ·intro _ c hc;cases hc
 |succ k ih=>
  intro hk;have e:ps.take (k+1)=ps.take k++[ps[k]]:=by rw[aq3,an3 O];rfl
  rw[Oe O,iY,ih O,ada,e,LK.snoc]
def tZ(sm:Key->Key)(ps:Ai):List (List dw):=Ed sm ps.length ps++[[(lits sm ps).getD (ps.length-1) ((0,0,0),false)]]
theorem DY{sm:Key->Key}{v:Key->Bool}{ps:Ai}:Hold v (tZ sm ps)↔Stt sm ps v:=by
 unfold tZ Stt;rw[iY,aaD _ (an2 _),ar7];refine and_congr Iff.rfl ⟨λh=>?_,λh c hc=>?_⟩
 ·obtain⟨l,hl,I⟩:=h _ (ap8.2 rfl);rw[ap8.1 hl]at I;exact I
 ·rw[ap8.1 hc];exact⟨_,ap8.2 rfl,h⟩
def dP(a b:Nat):Key:=(61,a,b)
def eqC(sm:Key->Key)(n:Nat):List (List dw):=
 [[(sm (dP 0 0),true)]]++(List.range n).flatMap λa=>(List.range n).flatMap λb=>(List.range a).map λc=>[(sm (dP a b),false),(sm (dP b c),false),(sm (dP a c),true)]
def fnC(sm:Key->Key)(Y:Ai):List (List dw):=
 (List.range Y.length).flatMap λa=>(List.range a).flatMap λb=>
  if (Y.getD a (0,0,0)).1=(Y.getD b (0,0,0)).1 then [[(sm (dP (Y.getD a (0,0,0)).2.1 (Y.getD b (0,0,0)).2.1),false),(sm (dP (Y.getD a (0,0,0)).2.2 (Y.getD b (0,0,0)).2.2),false),(sm (dP a b),true)]]else []
def prC(sm:Key->Key)(cs:Ah):List (List dw):=
 (List.range cs.length).flatMap λa=>(List.range a).flatMap λb=>
  if (cs.getD a (0,0)).1=(cs.getD b (0,0)).1 then
   [[(sm (dP (cs.getD a (0,0)).2 (cs.getD b (0,0)).2),false),(sm ((cs.getD a (0,0)).1,a,0),true),(sm ((cs.getD b (0,0)).1,b,0),false)],
    [(sm (dP (cs.getD a (0,0)).2 (cs.getD b (0,0)).2),false),(sm ((cs.getD a (0,0)).1,a,0),false),(sm ((cs.getD b (0,0)).1,b,0),true)]]else []
theorem qH{v:Key->Bool}{n:Nat}{g:Nat->List (List dw)}:Hold v ((List.range n).flatMap g)↔∀a,a<n->Hold v (g a):=by
 unfold Hold;constructor
 ·intro h a ha c hc;exact h c (aw5.2 ⟨a,as2.2 ha,hc⟩)
 ·intro h c hc;obtain⟨a,ha,hc⟩:=aw5.1 hc;exact h a (as2.1 ha) c hc
theorem SN{sm:Key->Key}{v:Key->Bool}{n:Nat}:Hold v (eqC sm n)↔v (sm (dP 0 0))=true/\∀a,a<n->∀b,b<n->∀c,c<a->v (sm (dP a b))=true->v (sm (dP b c))=true->v (sm (dP a c))=true:=by
 unfold eqC;rw[iY,qH];refine and_congr ?_ (ax6 λa=>ax6 λha=>?_)
 ·unfold Hold;simp only[ar9,av3,aA4,forall_eq,aC2,lv];cases v (sm (dP 0 0))<;>simp
 ·rw[qH];refine ax6 λb=>ax6 λhb=>?_;unfold Hold;constructor
  ·intro h c hc I M;have:=h _ (ap6.2 ⟨c,as2.2 hc,rfl⟩);simp[lv,I,M]at this;exact this
  ·intro h c hc;obtain⟨c',Fj,rfl⟩:=ap6.1 hc;have:=h c' (as2.1 Fj);simp only[ar9,av3,aA4,exists_eq_or_imp,aC2,lv];cases I:v (sm (dP a b))<;>cases M:v (sm (dP b c'))<;>simp_all
theorem SL{sm:Key->Key}{v:Key->Bool}{Y:Ai}:Hold v (fnC sm Y)↔∀a,a<Y.length->∀b,b<a->(Y.getD a (0,0,0)).1=(Y.getD b (0,0,0)).1->v (sm (dP (Y.getD a (0,0,0)).2.1 (Y.getD b (0,0,0)).2.1))=true->v (sm (dP (Y.getD a (0,0,0)).2.2 (Y.getD b (0,0,0)).2.2))=true->v (sm (dP a b))=true:=by
 unfold fnC;rw[qH];refine ax6 λa=>ax6 λha=>?_;rw[qH];refine ax6 λb=>ax6 λhb=>?_;by_cases e:(Y.getD a (0,0,0)).1=(Y.getD b (0,0,0)).1
 ·rw[ao4 e];unfold Hold;simp only[ar9,av3,aA4,forall_eq,exists_eq_or_imp,aC2,lv];constructor
  ·intro h _ I M;rw[I,M]at h;cases h3:v (sm (dP a b))<;>simp_all
  ·intro h;have:=h e;cases I:v (sm (dP (Y.getD a (0,0,0)).2.1 (Y.getD b (0,0,0)).2.1))<;>cases M:v (sm (dP (Y.getD a (0,0,0)).2.2 (Y.getD b (0,0,0)).2.2))<;>simp_all
 ·rw[an8 e];exact⟨λ_ h=>absurd h e,λ_ c hc=>by cases hc⟩
theorem SI{sm:Key->Key}{v:Key->Bool}{cs:Ah}:Hold v (prC sm cs)↔∀a,a<cs.length->∀b,b<a->(cs.getD a (0,0)).1=(cs.getD b (0,0)).1->v (sm (dP (cs.getD a (0,0)).2 (cs.getD b (0,0)).2))=true->v (sm ((cs.getD a (0,0)).1,a,0))=v (sm ((cs.getD b (0,0)).1,b,0)):=by
 unfold prC;rw[qH];refine ax6 λa=>ax6 λha=>?_;rw[qH];refine ax6 λb=>ax6 λhb=>?_;by_cases e:(cs.getD a (0,0)).1=(cs.getD b (0,0)).1
 ·rw[ao4 e];unfold Hold;simp only[ar9,av3,aA4,forall_eq_or_imp,forall_eq,exists_eq_or_imp,aC2,lv];constructor
  ·rintro⟨I,M⟩ _ h3;rw[h3]at I M;cases h4:v (sm ((cs.getD a (0,0)).1,a,0))<;>cases h5:v (sm ((cs.getD b (0,0)).1,b,0))<;>simp_all
  ·intro h;have:=h e;cases h3:v (sm (dP (cs.getD a (0,0)).2 (cs.getD b (0,0)).2))<;>cases h4:v (sm ((cs.getD a (0,0)).1,a,0))<;>cases h5:v (sm ((cs.getD b (0,0)).1,b,0))<;>simp_all
 ·rw[an8 e];exact⟨λ_ h=>absurd h e,λ_ c hc=>by cases hc⟩
end
open Go.RowKit Go.Maps Go.WideMaps
open au (Key put)
def kL(w:World)(b:Nat)(f:Key->Key)(dom:Key->Prop)(c:Nat):Prop:=
 ∃(D:DataW Value) (nn:Nat),nn<=c/\w.ownsMap prog 82 ES b nn D/\
  ∀k l,dom k->keyOf prog 82 (bZ k)=some l->Maps.has D l=decide (f k≠k)/\(f k≠k->∀z,D.atKey l z=.held (bZ (f k)))
theorem kL.lt{w:World}{b c:Nat}{f:Key->Key}{dom:Key->Prop}(h:kL w b f dom c):b<w.heap.size:=by
 obtain⟨D,nn,_,I,_⟩:=h;exact I.lt
theorem kL.kept{w w':World}{b c:Nat}{f:Key->Key}{dom:Key->Prop}(h:kL w b f dom c)(hb:w'.heap[b]?=w.heap[b]?):kL w' b f dom c:=by
 obtain⟨D,nn,h0,⟨es,clock,I,M⟩,h3⟩:=h;exact⟨D,nn,h0,⟨es,clock,hb.trans I,M⟩,h3⟩
theorem kL.congr{w:World}{b c:Nat}{f g:Key->Key}{dom:Key->Prop}(h:kL w b f dom c)(e:∀k,dom k->f k=g k):kL w b g dom c:=by
 obtain⟨D,nn,h0,I,M⟩:=h;exact⟨D,nn,h0,I,λk l hk hl=>by rw[<-e k hk];exact M k l hk hl⟩
theorem kL.made(w:World)(dom:Key->Prop):kL (w.alloc (.map #[] 0)) w.heap.size id dom 0:=
 ⟨.map [],0,an2 _,aB6 w _ _ _,λk l _ _=>⟨by simp[Maps.has],λh=>absurd rfl h⟩⟩
theorem ail(w:World):(zeroValue 82).run prog w=.ok (bZ (0,0,0)) w:=by kernel_rfl
theorem kL.look{w:World}{b c:Nat}{f:Key->Key}{dom:Key->Prop}(h:kL w b f dom c){k:Key}(hk:dom k)(I:0<=k.1/\k.1<=255)(M:k.2.1<=1000)(h3:k.2.2<=1000) :
  ∃v:Key,(Instr.lookup 201 (.map (some b)) (bZ k) true).run prog w=.ok (.tuple #[bZ v,.bool (decide (f k≠k))]) w/\(f k≠k->v=f k):=by
 obtain⟨l,aV⟩:=aaj k I M h3;obtain⟨D,nn,h0,aH,aX⟩:=h;obtain⟨q1,q2⟩:=aX k l hk aV;obtain⟨v,ps,iW,hv⟩:=aH.look_ok xH underlying201 (ail w) (zd:=.held (bZ (0,0,0))) (zp:=[]) rfl aV;by_cases e:f k=k
 ·have hh:Maps.has D l=false:=by rw[q1];simp[e]
  obtain⟨es,e1,e2,_⟩:=aH.entries xH;subst e1;have M:(es.find? λp=>p.1.sameKey l)=none:=by
   rw[aC5];intro p Ig uZ;have:Maps.has (.map es) l=true:=ay4.2 ⟨p,Ig,uZ⟩;rw[hh]at this;cases this
  simp only[DataW.atKey]at hv;rw[M]at hv;cases hv;refine⟨(0,0,0),?_,λh=>absurd e h⟩;rw[iW,hh];simp[e]
 ·rw[q2 e]at hv;cases hv;refine⟨f k,?_,λ_=>rfl⟩;rw[iW,q1]
def vP(k:Key):Array Value:=#[Ae k.1,A k.2.1,A k.2.2]
theorem OJ(w:World)(b c:Nat)(f:Key->Key)(dom:Key->Prop)(k:Key)(hM:kL w b f dom c)(hk:dom k)(hfk:dom (f k))(hff:f (f k)=f k)
 (hb:(0<=k.1/\k.1<=255)/\k.2.1<=1000/\k.2.2<=1000)(hbf:(0<=(f k).1/\(f k).1<=255)/\(f k).2.1<=1000/\(f k).2.2<=1000) :
  Calls prog 186 #[.map (some b),bZ k] w λe w'=>e=.returned (bZ (f k))/\w.grownBy w' none:=by
 have hlt:=hM.lt;have iW:Hid (∀W:World,W.heap[b]?=w.heap[b]?->∃v:Key,(Instr.lookup 201 (.map (some b)) (bZ k) true).run prog W=.ok (.tuple #[bZ v,.bool (decide (f k≠k))]) W/\(f k≠k->v=f k)):=λW hW=>(hM.kept hW).look hk hb.1 hb.2.1 hb.2.2;have Ym:Hid (∀W:World,W.heap[b]?=w.heap[b]?->∃v:Key,(Instr.lookup 201 (.map (some b)) (bZ (f k)) true).run prog W=.ok (.tuple #[bZ v,.bool (decide (f (f k)≠f k))]) W/\(f (f k)≠f k->v=f (f k))):=λW hW=>(hM.kept hW).look hfk hbf.1 hbf.2.1 hbf.2.2;have I:((w.alloc (.cells (vP k) 82)).alloc (.cells #[Ae 0,A 0,A 0] 82)).heap[b]?=w.heap[b]?:=by
  rw[ao3 _ _ _ anf,ao3 _ _ _ hlt]
 obtain⟨v,hr,hv⟩:=Z iW _ I;by_cases e:f k=k
 ·have hd:decide (f k≠k)=false:=by simp[e]
  rw[hd]at hr;rw[e];obtain⟨kc,kx,ky⟩:=k;obtain⟨vc,vx,vy⟩:=v;simp only[bZ,vP]at hr ⊢
  go_in
  go_wp2_with fail
  refine wp_loop_rounds 1 ?_;rw[az3]
  go_wp2_with fail
  refine aq0 (v:=.agg #[Ae kc,A kx,A ky]) (by simp[results,results186,go_sem]) rfl ⟨rfl,?_⟩;exact((an1 _ _ none).trans (an1 _ _ none)).trans (an1 _ _ none)
 ·have hd:decide (f k≠k)=true:=by simp[e]
  rw[hd]at hr;obtain rfl:=hv e;have hd2:decide (f (f k)≠f k)=false:=by simp[hff]
  rw[hd2]at Ym;generalize f k=k2 at hr Ym hbf;obtain⟨kc,kx,ky⟩:=k;obtain⟨vc,vx,vy⟩:=k2;simp only[bZ,vP]at hr Ym ⊢
  go_in
  go_wp2_with fail
  refine wp_loop_rounds 2 ?_;rw[az3]
  go_wp2_with fail
  obtain⟨v3,UG,_⟩:=Z Ym (((w.alloc (.cells #[Ae vc,A vx,A vy] 82)).alloc (.cells #[Ae 0,A 0,A 0] 82)).alloc (.cells #[Ae vc,A vx,A vy] 82)) (by
   rw[ao3 _ _ _ anf,ao3 _ _ _ anf,ao3 _ _ _ hlt])
  obtain⟨zc,zx,zy⟩:=v3;simp only at UG;rw[az3]
  go_wp2_with fail
  refine aq0 (v:=.agg #[Ae vc,A vx,A vy]) (by simp[results,results186,go_sem]) rfl ⟨rfl,?_⟩;exact(((an1 _ _ none).trans (an1 _ _ none)).trans (an1 _ _ none)).trans (an1 _ _ none)
theorem jZ(Y:Ai)(cs:Ah):(ctx Y cs).length=cs.length:=by simp[ctx]
theorem Yg(T:List (List UInt8))(bk cap:Nat)(w:World)(hT:T.length<=10)(hcap:T.length<=cap)(hlen:(wW T).length<=2000)(hbk:bk<w.heap.size)(hcells:∀j (hj:j<T.length),w.cell? (J bk j)=some (str T[j])) :
  Calls prog 135 #[Ac bk 0 T.length cap,.string ⟨#[32]⟩] w λe w'=>e=.returned (.string ⟨(wW T).toArray⟩)/\Ag w w':=by
 have e1:(T.map (λt=>(⟨t.toArray⟩:ByteArray))).map (·.data.toList)=T:=by simp[List.map_map,Function.comp_def]
 have e2:(T.map (λt=>(⟨t.toArray⟩:ByteArray))).length=T.length:=R
 have h:=strings_Join bk 0 cap (T.map (λt=>(⟨t.toArray⟩:ByteArray))) ⟨#[32]⟩ w (λj x hx=>by
  rw[as1]at hx;by_cases hj:j<T.length
  ·rw[an3 hj]at hx;simp at hx;subst hx;rw[aw8];exact hcells j hj
  ·rw[List.getElem?_eq_none O]at hx;simp at hx) hbk O O (by rw[e1];exact ap3 hlen O)
 rw[e1,e2]at h;exact h
theorem Zh{b:Nat}{w wr W2 w4:World}{G:Nat}(hb:Below b w wr)(hg:wr.grownBy W2 none)(r2:W2.grownBy w4 (some G))(hG:b<=G)(hbs:b<=w.heap.size:=by first|exact an2 _|omega):Below b w w4:=
 (hb.grown hg (ap3 hbs hb.size) (λk e=>by cases e)).grown r2 (ap3 hbs (ap3 hb.size hg.size)) (λk e=>by cases e;exact hG)
theorem abH(GT GC GP np:Nat)(Y:Ai)(cs:Ah)(w:World)(hl:Y.length<=7)(kE:dS w GT Y)(AA:gZ w GC cs)(hi:au.Inv Y)(pR:∀i,((au.texts Y).getD i []).length<=100)
 (hlc:cs.length<=4)(Bd:au.kD Y cs)(akM:∀t∈ctx Y cs,t.length<=100) :
  Calls prog 81 #[fv GT GC GP Y.length cs.length np] w λe w'=>e=.returned (str (wW (au.texts Y)++47::wW (ctx Y cs)))/\Ag w w':=by
 obtain⟨wb,kP⟩:∃wb,w.alloc (.cells #[Ac GT 0 Y.length Y.length,Ac GC 0 cs.length cs.length,Ac GP 0 np np] 46)=wb:=⟨_,rfl⟩;have qK:Below w.heap.size w wb:=by rw[<-kP];exact(aq1 _ w).alloc (an2 _) _
 have SA:wb.heap.size=w.heap.size+1:=by rw[<-kP];simp
 have yP:wb.cell? (J w.heap.size 1)=some (Ac GC 0 cs.length cs.length):=by rw[<-kP];simp[go_sem]
 have HTT:=F (LM GT GC GP cs.length np Y wb hl (kE.below qK kE.1) hi pR);have ajc:=AA.below qK AA.1;have HIC:=F Bd;have HRC:=F ajc;have HSB:=F SA;have hlC:GC<w.heap.size:=AA.1;clear kE AA hi Bd ajc SA;unfold fv at HTT ⊢;rw[<-kP]at HTT;have HWB:=F kP;clear kP
 go_in
 go_wp2_with fail
 refine(Z HTT).mono ?_;rw[Z HWB];rintro e wt ⟨G1,rfl,ana,akf,EG,hcy⟩;have SA:=Z HSB;obtain⟨i0,gK,jR,ig,jy⟩:=au5 DR;obtain⟨w1,wC,aS,bG⟩:=aA9 (P:=prog) wt wt.heap.size 163 9 i0 (.string ⟨#[]⟩) 1 underlying163 gK jR ig .i64 .i64 cs.length (by rw[jy];omega) anj (an2 _);have vC:wt.cell? (J w.heap.size 1)=some (Ac GC 0 cs.length cs.length):=(EG.cell (p:=(J w.heap.size 1)) (by show w.heap.size<wb.heap.size;omega)).trans yP;have Gn:w1.cell? (J w.heap.size 1)=some (Ac GC 0 cs.length cs.length):=bG.cell vC R;have iD:Below wt.heap.size wt w1:=⟨bG.os,bG.tape,bG.output,bG.size,λj hj=>bG.block j hj R⟩;have rQ:Below w.heap.size w wt:=qK.trans (EG.mono O);have HCY:=F hcy;have oP:w.heap.size+1<=wt.heap.size:=by have:=EG.size;omega
 have amh:Hid (gZ wt GC cs):=(Z HRC).below EG O;clear hcy HTT SA yP
 go_wp2_with fail
 have rD:w1.ownsRow 0 9 1 (Ac wt.heap.size 0 0 cs.length) 0 []:=fO aS (ap7 _);clear wC aS
 go_loopw [4,16] (λt i wr=>∃k:Nat,k<=cs.length/\i=A k/\t=Ac wt.heap.size 0 k cs.length/\wr.ownsRow 0 9 1 (Ac wt.heap.size 0 k cs.length) k (((ctx Y cs).take k).map str)/\Ag wt wr) (λ_ i _=>cs.length-(intOf i).toNat)
 case atStart=>exact⟨0,ap7 _,rfl,rfl,rD,iD⟩
 case round=>
  obtain⟨k,hk,rfl,rfl,Az,hb⟩:=hrel;by_cases hlt:k<cs.length
  ·have iF:(k:Int)<(cs.length:Int):=O;obtain⟨c0,c1⟩:=((Z amh).below hb O).2 k hlt;have gX:k+1<=cs.length:=hlt;have iq:au.okC Y.length cs[k]:=(Z HIC) _ (an5 hlt);have htx:(ctx Y cs).getD k []=au.dH (au.texts Y) cs[k]:=(by simp[ctx,ao0,hlt]);have VR:((ctx Y cs).take (k+1)).map str=((ctx Y cs).take k).map str++[str ((ctx Y cs).getD k [])]:=by
    have iQ:k<(ctx Y cs).length:=(by rw[jZ];exact hlt);rw[aq3,an3 iQ,au0,ao0,an3 iQ];rfl
   have GH:=F htx;have Y5:=F VR;have MF:Hid (∀W2:World,wr.grownBy W2 none->W2.ownsRow 0 9 1 (Ac wt.heap.size 0 k cs.length) k (((ctx Y cs).take k).map str)):=λW2 h=>Az.kept h (Or.inr (by simp[Value.ownBlock]));have EK:wt.heap.size<wr.heap.size:=(Az.lt wt.heap.size rfl).2;clear htx VR;generalize cs[k]=key at c0 c1 iq GH;obtain⟨kl,kf⟩:=key;simp only at c0 c1;obtain⟨h8,hkf⟩:=iq;simp only at h8 hkf;have g4:((kf:Nat):Int)<(Y.length:Int):=O;have cG:wr.cell? (J G1 kf)=some (str ((au.texts Y).getD kf [])):=(hb.cell (p:=(J G1 kf)) akf).trans (Z HCY kf hkf);have jL:((au.texts Y).getD kf []).length<=100:=pR kf;obtain⟨c,hc,rfl⟩:∃c:UInt8,(c=80\/c=81\/c=102\/c=103)/\kl=(c.toNat:Int):=by
    obtain rfl|rfl:=h8
    ·exact⟨80,Or.inl rfl,rfl⟩
    ·exact⟨81,Or.inr (Or.inl rfl),rfl⟩
   have HC:=F hc;clear hc h8;have rC:au.dH (au.texts Y) ((c.toNat:Int),kf)=Em c [(au.texts Y).getD kf []]:=(by simp[Em,au.dH,Lib.join_one]);rw[rC]at GH;clear rC;generalize (au.texts Y).getD kf []=t1 at GH cG jL;unfold str at cG;have HAP:Hid (∀(W:World) (n:Nat),W.heap.size=n->Calls prog 134 #[Ae c.toNat,Ac n 0 1 1] (W.alloc (.cells #[.string ⟨t1.toArray⟩] 9)) λe w'=>e=.returned (str (Em c [t1]))/\W.grownBy w' none):=λW n hn=>by
    subst hn;have h:=zf c (Z HC) [t1] W.heap.size 1 (W.alloc (.cells #[.string ⟨t1.toArray⟩] 9)) R R (by rw[Lib.join_one];omega) R (λj hj=>by
     obtain rfl:j=0:=(by simp at hj;omega);simp[go_sem,str])
    exact h.mono λe w' ⟨I,M⟩=>⟨I,⟨M.os,M.tape,M.output,ap3 R M.size,λq hq _=>(M.block q anf).trans (ao3 W _ q hq)⟩⟩
   generalize Em c [t1]=tn at GH HAP
   go_wp2_with fail
   have fK:wr.grownBy (wr.alloc (.cells #[Ae c.toNat,A kf] 79)) none:=an1 _ _ none;refine aq8 (S:=λW'=>W'.cell? (J wr.heap.size 0)=some (Ae c.toNat)/\W'.cell? (J wr.heap.size 1)=some (A kf)/\W'.cell? (J G1 kf)=some (.string ⟨t1.toArray⟩)) rfl ?_;obtain⟨W1,dO⟩:∃W1,wr.alloc (.cells #[Ae c.toNat,A kf] 79)=W1:=⟨_,rfl⟩;have aA:W1.drew.cell? (J wr.heap.size 0)=some (Ae c.toNat)/\W1.drew.cell? (J wr.heap.size 1)=some (A kf)/\W1.drew.cell? (J G1 kf)=some (.string ⟨t1.toArray⟩):=by
    rw[<-dO];exact⟨by simp[go_sem],by simp[go_sem],fK.cell cG R⟩
   have bG:wr.grownBy W1.drew none:=(by rw[<-dO];exact⟨rfl,rfl,rfl,R,λj hj _=>ao3 _ _ _ hj⟩);rw[dO]at fK ⊢;clear dO;change wpAnyH prog .any _ _ _ 13 #[false,false,false,false,false,false,false,false,false,false,false,false,false] _ W1.drew;refine tH 0 (Ac wt.heap.size 0 k cs.length) (λw' hS=>?_) aA ?_
   ·obtain⟨s1,s2,s3⟩:=hS;go_simp
   simp only[aF];refine tH 1 (Aa wr.heap.size 0) (λw' hS=>?_) aA ?_
   ·obtain⟨s1,s2,s3⟩:=hS;go_simp
   simp only[aF];refine tH 2 (Ae c.toNat) (λw' hS=>?_) aA ?_
   ·obtain⟨s1,s2,s3⟩:=hS;go_simp
   simp only[aF];refine tH 3 (Ac G1 0 Y.length Y.length) (λw' hS=>?_) aA ?_
   ·obtain⟨s1,s2,s3⟩:=hS;go_simp
   simp only[aF];refine tH 4 (Aa wr.heap.size 1) (λw' hS=>?_) aA ?_
   ·obtain⟨s1,s2,s3⟩:=hS;go_simp
   simp only[aF];refine tH 5 (A kf) (λw' hS=>?_) aA ?_
   ·obtain⟨s1,s2,s3⟩:=hS;go_simp
   simp only[aF];refine tH 6 (Aa G1 kf) (λw' hS=>?_) aA ?_
   ·obtain⟨s1,s2,s3⟩:=hS;go_simp
   simp only[aF];refine tH 7 (.string ⟨t1.toArray⟩) (λw' hS=>?_) aA ?_
   ·obtain⟨s1,s2,s3⟩:=hS;go_simp
   simp only[aF];have wK:Hid (∀W':World,W1.drew.grownBy W' none->W'.cell? (J wr.heap.size 0)=some (Ae c.toNat)/\W'.cell? (J wr.heap.size 1)=some (A kf)/\W'.cell? (J G1 kf)=some (.string ⟨t1.toArray⟩)):=λW' hg=>⟨hg.cell aA.1 R,hg.cell aA.2.1 R,hg.cell aA.2.2 R⟩;refine oH 8 (λK hK=>?_);go_simp;refine hK.out _ _ (Z wK _ (an1 W1.drew (.cells #[.string ⟨t1.toArray⟩] 9) none)) ?_;clear hK K;refine oH 9 (λK hK=>?_);go_simp;refine(Z HAP W1.drew _ rfl).mono ?_;rintro e w3 ⟨rfl,dY⟩;refine hK.out _ _ (Z wK _ dY) ?_;clear hK K HAP;unfold str;refine oH 10 (λK hK=>?_);go_simp;have mP:W1.drew.grownBy (w3.alloc (.cells #[.string ⟨tn.toArray⟩] 9)) none:=dY.trans (an1 _ _ none);refine hK.out _ _ (Z wK _ mP) ?_;clear hK K;have AO:wr.grownBy (w3.alloc (.cells #[.string ⟨tn.toArray⟩] 9)) none:=bG.trans mP;refine oH 11 (λK hK=>?_);refine zq (.tmp 20) (.tmp 30) 163 rfl 0 9 i0 1 underlying163 gK ig _ _ _ _ rfl (Z MF _ AO) _ 1 1 [str tn] rfl rfl (sQ _ _ _ _ rfl) (sO _) gX ?_;intro w4 r1 r2;have q0:=Z wK _ mP;have bg:wr.heap.size≠wt.heap.size:=O;have ajj:G1≠wt.heap.size:=O;have hS4:w4.cell? (J wr.heap.size 0)=some (Ae c.toNat)/\w4.cell? (J wr.heap.size 1)=some (A kf)/\w4.cell? (J G1 kf)=some (.string ⟨t1.toArray⟩):=⟨r2.cell q0.1 (by simpa using bg),r2.cell q0.2.1 (by simpa using bg),r2.cell q0.2.2 (by simpa using ajj)⟩;refine hK.out _ _ hS4 ?_;clear hK K;refine oH 12 (λK hK=>?_);go_simp;refine hK.out _ _ hS4 (ar2 (by kernel_rfl) ?_ _);clear hK K
   go_wp2_with fail
   exact⟨⟨k+1,gX,by go_num,rfl,by rw[Z Y5,Z GH];exact r1,Zh hb AO r2 (an2 _)⟩,by simp[intOf];omega⟩
  ·have gW:k=cs.length:=O;have Lr:=F gW;clear gW;have iF:¬(k:Int)<(cs.length:Int):=O;have gW:=Z Lr;have hcX:∀j (hj:j<(ctx Y cs).length),wr.cell? (J wt.heap.size j)=some (str (ctx Y cs)[j]):=λj hj=>by
    rw[jZ]at hj;rw[Az.cellAt j O];simp[hj,jZ,gW]
   have hcT:∀j (hj:j<(au.texts Y).length),wr.cell? (J G1 j)=some (str (au.texts Y)[j]):=λj hj=>by
    have I:=(hb.cell (p:=(J G1 j)) akf).trans (Z HCY j (by rw[au.aO]at hj;exact hj));rw[I];simp[ao0,hj]
   have hlT:(wW (au.texts Y)).length<=1000:=by
    have h:=C9 (au.texts Y) (λt ht=>by obtain⟨j,hj,rfl⟩:=ar6 ht;have h:=pR j;simpa[ao0,hj]using h) (au.texts Y).length (an2 _);rw[ar7,au.aO]at h;omega
   have aln:(wW (ctx Y cs)).length<=1000:=by
    have h:=C9 (ctx Y cs) akM (ctx Y cs).length (an2 _);rw[ar7,jZ]at h;omega
   have EK:wt.heap.size<wr.heap.size:=(Az.lt wt.heap.size rfl).2;have HJ1:Hid (Calls prog 135 #[Ac G1 0 Y.length Y.length,.string ⟨#[32]⟩] wr λe w'=>e=.returned (.string ⟨(wW (au.texts Y)).toArray⟩)/\Ag wr w'):=by
    have h:=Yg (au.texts Y) G1 Y.length wr (by rw[au.aO];omega) (by rw[au.aO];exact an2 _) O O hcT;rw[au.aO]at h;exact h
   have HJ2:Hid (∀w3,Below wr.heap.size wr w3->Calls prog 135 #[Ac wt.heap.size 0 cs.length cs.length,.string ⟨#[32]⟩] w3 λe w'=>e=.returned (.string ⟨(wW (ctx Y cs)).toArray⟩)/\Ag wr w'):=λw3 h3=>by
    have h:=Yg (ctx Y cs) wt.heap.size cs.length w3 (by rw[jZ];omega) (by rw[jZ];exact an2 _) O (ap2 EK h3.size) (λj hj=>(h3.cell (p:=(J wt.heap.size j)) EK).trans (hcX j hj));rw[jZ]at h;exact h.mono λe w' ⟨I,M⟩=>⟨I,h3.trans (M.mono h3.size)⟩
   clear hcX hcT;obtain⟨xT,hxT⟩:∃xT,wW (au.texts Y)=xT:=⟨_,rfl⟩;obtain⟨xC,hxC⟩:∃xC,wW (ctx Y cs)=xC:=⟨_,rfl⟩;rw[hxT]at HJ1 hlT;rw[hxC]at HJ2 aln;have HXT:=F hxT;have HXC:=F hxC;clear hxT hxC;subst gW
   go_wp2_with fail
   refine(Z HJ1).mono ?_;rintro e w3 ⟨rfl,iR⟩
   go_wp2_with fail
   refine(Z HJ2 _ iR).mono ?_;rintro e w5 ⟨rfl,AP⟩
   go_wp2_with fail
   go_ret
   refine⟨?_,?_⟩
   ·rw[Z HXT,Z HXC];have e47:(⟨#[47]⟩:ByteArray)=⟨[47].toArray⟩:=rfl;have e:(⟨xT.toArray⟩++⟨#[47]⟩++⟨xC.toArray⟩:ByteArray)=⟨(xT++47::xC).toArray⟩:=(by rw[e47,jI,jI];simp);exact ax1 (λb=>Ending.returned (.string b)) e
   ·have hbW:Below w.heap.size w wr:=rQ.trans (hb.mono O);exact hbW.trans (AP.mono hbW.size)
end Go.Proofs.YthcppbmkacbbiabGreat
