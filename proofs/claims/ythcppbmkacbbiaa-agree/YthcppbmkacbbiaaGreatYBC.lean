import Derived.Test.YthcppbmkacbbiaaGreatYBA
set_option linter.unusedSimpArgs false
namespace Go.Proofs.YthcppbmkacbbiaaGreat
section
open Sat (View Rule jl bH)
open aB (Key put mO dX jn au aT dM)
abbrev aV:Type:=Key×Bool
def lv(v:Key->Bool)(l:aV):Bool:=v l.1==l.2
def nl(l:aV):aV:=(l.1,!l.2)
theorem vW(v:Key->Bool)(l:aV):lv v (nl l)=!lv v l:=by
 unfold lv nl;cases v l.1<;>cases l.2<;>rfl
def vw(Us:List Key)(l:aV):View:=(Us.idxOf l.1,l.2)
theorem jv{Us Us':List Key}(h:Us <+: Us'){p:Key}(hp:p∈Us):Us'.idxOf p=Us.idxOf p:=by
 obtain⟨R,rfl⟩:=h;rw[ai6,ac8 hp]
theorem mP{Us Us':List Key}(h:Us <+: Us'){l:aV}(hp:l.1∈Us):vw Us' l=vw Us l:=by
 unfold vw;rw[jv h hp]
theorem IX(Us:List Key)(l:aV):vw Us (nl l)=((vw Us l).1,!(vw Us l).2):=rfl
def dd(vs:List View):Rule:=vs.foldl put []
theorem Iw(vs:List View):∀(acc:List View) (u:View),u∈vs.foldl put acc↔u∈acc\/u∈vs:=by
 induction vs with
 |nil=>intro acc u;simp
 |cons a vs ih=>
  intro acc u;rw[List.foldl_cons,ih,sU];simp[or_assoc]
theorem Dh(vs:List View)(u:View):u∈dd vs↔u∈vs:=by
 unfold dd;rw[Iw];simp
theorem Gm{l:List View}(h:l.Nodup)(a:View):(put l a).Nodup:=by
 unfold put;by_cases hc:l.contains a=true
 ·rw[ac8 hc];exact h
 ·rw[ac5 hc,al3];refine⟨h,by simp,λx hx y hy e=>?_⟩;rw[ad4.1 hy]at e;subst e;exact hc (by simpa using hx)
theorem Df(vs:List View):∀(acc:List View),acc.Nodup->(vs.foldl put acc).Nodup:=by
 induction vs with
 |nil=>intro acc h;exact h
 |cons a vs ih=>intro acc h;exact ih _ (Gm h a)
theorem Qm(vs:List View):(dd vs).Nodup:=Df vs [] am7
theorem rJ(vs:List View):∀(acc:List View),(vs.foldl put acc).length<=acc.length+vs.length:=by
 induction vs with
 |nil=>intro acc;simp
 |cons a vs ih=>
  intro acc;have h1:=ih (put acc a);have h2:(put acc a).length<=acc.length+1:=by unfold put;split<;>simp
  simp only[List.foldl_cons,ab5];omega
theorem Wj(vs:List View):(dd vs).length<=vs.length:=by
 have:=rJ vs [];simpa[dd]using this
def Sem(Us:List Key)(ak:List Rule)(Φ:(Key->Bool)->Prop):Prop:=
 ∀Us',Us <+: Us'->∀α:Nat->Bool,(∀r∈ak,Sat.keeps α r)↔Φ (λp=>α (Us'.idxOf p))
structure LP(Us:List Key)(ak:List Rule)(Φ:(Key->Bool)->Prop):Prop where
 sem:Sem Us ak Φ
 rg:RG Us.length ak
 nodup:Us.Nodup
theorem LP.nil:LP [] [] (λ_=>True):=
 ⟨λ_ _ _=>⟨λ_=>trivial,λ_ r hr=>by(cases hr)⟩,⟨λr hr=>by(cases hr),λr hr=>by(cases hr),λr hr=>by(cases hr),λr hr=>by(cases hr)⟩,am7⟩
theorem fM{α:Type}[BEq α](l:List α)(k:α):l <+: put l k:=by
 unfold put;split
 ·exact ai5 _
 ·exact an5 _ _
theorem LP.so{Us:List Key}{ak:List Rule}{Φ:(Key->Bool)->Prop}(h:LP Us ak Φ)(p:Key):LP (put Us p) ak Φ:=by
 have hl:=(fM Us p).length_le;refine⟨λUs' hp α=>h.sem Us' ((fM Us p).trans hp) α,⟨h.rg.ne,h.rg.nodup,λr hr u hu=>ac7 (h.rg.lt r hr u hu) hl,h.rg.len⟩,?_⟩;unfold put;by_cases hc:Us.contains p=true
 ·rw[ac8 hc];exact h.nodup
 ·rw[ac5 hc,al3];refine⟨h.nodup,by simp,λx hx y hy e=>?_⟩;rw[ad4.1 hy]at e;subst e;exact hc (by simpa using hx)
theorem LP.demand{Us:List Key}{ak:List Rule}{Φ:(Key->Bool)->Prop}(h:LP Us ak Φ){ls:List aV}(h0:ls≠[])(h1:ls.length<=1000)(hm:∀l∈ls,l.1∈Us) :
  LP Us (ak++[dd (ls.map (vw Us))]) (λv=>Φ v/\∃l∈ls,lv v l=true):=by
 refine⟨λUs' hp α=>?_,⟨λr hr=>?_,λr hr=>?_,λr hr=>?_,λr hr=>?_⟩,h.nodup⟩
 ·have hk:Sat.keeps α (dd (ls.map (vw Us)))↔∃l∈ls,lv (λp=>α (Us'.idxOf p)) l=true:=by
   unfold Sat.keeps;constructor
   ·rintro⟨u,hu,hα⟩;obtain⟨l,hl,rfl⟩:=ad5.1 ((Dh _ _).1 hu);refine⟨l,hl,?_⟩;unfold lv;simp only[jv hp (hm l hl)];simpa[vw]using hα
   ·rintro⟨l,hl,hα⟩;refine⟨vw Us l,(Dh _ _).2 (ad5.2 ⟨l,hl,rfl⟩),?_⟩;unfold lv at hα;simp only[jv hp (hm l hl)]at hα;simpa[vw]using hα
  rw[<-hk,<-h.sem Us' hp α];constructor
  ·intro hr;exact⟨λr h2=>hr r (ag2 _ h2),hr _ (by simp)⟩
  ·rintro⟨g1,g2⟩ r hr;rcases ae4.1 hr with hr|hr
   ·exact g1 r hr
   ·rw[ad4.1 hr];exact g2
 ·rcases ae4.1 hr with hr|hr
  ·exact h.rg.ne r hr
  ·rw[ad4.1 hr];intro e;obtain⟨l,hl⟩:=List.exists_mem_of_ne_nil _ h0;have:=(Dh _ _).2 (ad5.2 ⟨l,hl,rfl⟩:vw Us l∈ls.map (vw Us));rw[e]at this;cases this
 ·rcases ae4.1 hr with hr|hr
  ·exact h.rg.nodup r hr
  ·rw[ad4.1 hr];exact Qm _
 ·rcases ae4.1 hr with hr|hr
  ·exact h.rg.lt r hr
  ·rw[ad4.1 hr];intro u hu;obtain⟨l,hl,rfl⟩:=ad5.1 ((Dh _ _).1 hu);exact ai0.2 (hm l hl)
 ·rcases ae4.1 hr with hr|hr
  ·exact h.rg.len r hr
  ·rw[ad4.1 hr];have:=Wj (ls.map (vw Us));simp at this;omega
theorem LP.imp{Us:List Key}{ak:List Rule}{Φ Ψ:(Key->Bool)->Prop}(h:LP Us ak Φ)(e:∀v,Φ v↔Ψ v):LP Us ak Ψ:=
 ⟨λUs' hp α=>(h.sem Us' hp α).trans (e _),h.rg,h.nodup⟩
def lits(sm:Key->Key)(ps:List Key):List aV:=ps.foldl (λacc q=>acc++[if q.1=33 then nl (acc.getD q.2.1 ((0,0,0),false))else(sm q,true)]) []
theorem uQ(sm:Key->Key)(ps:List Key)(q:Key):lits sm (ps++[q])=lits sm ps++[if q.1=33 then nl ((lits sm ps).getD q.2.1 ((0,0,0),false))else(sm q,true)]:=by
 unfold lits;rw[al4];rfl
theorem iI(sm:Key->Key)(ps:List Key):(lits sm ps).length=ps.length:=by
 have h:∀qs:List Key,∀ps:List Key,(lits sm ps).length=ps.length->(lits sm (ps++qs)).length=(ps++qs).length:=by
  intro qs
  induction qs with
  |nil=>intro ps h;simpa using h
  |cons q qs ih=>
   intro ps h;have e:ps++q::qs=(ps++[q])++qs:=(by simp);rw[e];exact ih _ (by rw[uQ];simp[h])
 simpa using h ps [] rfl
def LK(sm:Key->Key)(v:Key->Bool)(ps:List Key):Prop:=
 ∀ps1 q,ps1++[q] <+: ps->au q.1=true->v (sm q)=jn q.1 (lv v ((lits sm ps1).getD q.2.1 ((0,0,0),false))) (lv v ((lits sm ps1).getD q.2.2 ((0,0,0),false)))
theorem Eh{α:Type}{a b:List α}{x:α}(h:a <+: b++[x]):a <+: b\/a=b++[x]:=by
 rcases List.prefix_concat_iff.1 h with h|h
 ·exact Or.inr h
 ·exact Or.inl h
theorem LK.snoc{sm:Key->Key}{v:Key->Bool}{ps:List Key}{q:Key}:LK sm v (ps++[q])↔LK sm v ps/\(au q.1=true->v (sm q)=jn q.1 (lv v ((lits sm ps).getD q.2.1 ((0,0,0),false))) (lv v ((lits sm ps).getD q.2.2 ((0,0,0),false)))):=by
 constructor
 ·intro h;exact⟨λps1 q1 hp=>h ps1 q1 (hp.trans (an5 _ _)),h ps q (ai5 _)⟩
 ·rintro⟨h1,h2⟩ ps1 q1 hp;rcases Eh hp with hp|hp
  ·exact h1 ps1 q1 hp
  ·have:=List.append_inj' hp rfl;obtain⟨rfl,e⟩:=this;have e:q1=q:=(by simpa using e);subst e;exact h2
def pY(sm:Key->Key)(v:Key->Bool)(cl:List Int)(hl:List Bool)(ps:List Key):Prop:=
 ∀q∈ps,(q.1=61->v (sm q)=decide (cl.getD q.2.1 0=cl.getD q.2.2 0))/\(q.1=80\/q.1=81->v (sm q)=hl.getD q.2.1 false)
theorem fZ{v:Key->Bool}{L:List aV}{B:List Bool}(h:L.map (lv v)=B){i:Nat}(hi:i<L.length):lv v (L.getD i ((0,0,0),false))=B.getD i false:=by
 subst h;simp[ad7,SI hi]
theorem yE{sm:Key->Key}{v:Key->Bool}{cl:List Int}{hl:List Bool}{nt nc:Nat}:∀(ps:List Key),(∀i (h:i<ps.length),dM nt nc i ps[i])->LK sm v ps->pY sm v cl hl ps->(lits sm ps).map (lv v)=dX cl hl ps:=by
 suffices H:∀n (ps:List Key),ps.length=n->(∀i (h:i<ps.length),dM nt nc i ps[i])->LK sm v ps->pY sm v cl hl ps->(lits sm ps).map (lv v)=dX cl hl ps from λps=>H _ ps rfl
 intro n
 induction n with
 |zero=>
  intro ps hn _ _ _;have:ps=[]:=ae8 hn;subst this;rfl
 |succ n ih=>
  intro ps hn hok hk ha;obtain⟨qs,q,rfl⟩:∃qs q,ps=qs++[q]:=⟨ps.dropLast,ps.getLast (by intro e;rw[e]at hn;simp at hn),(List.dropLast_concat_getLast _).symm⟩;have hl1:qs.length=n:=by simpa using hn
  obtain⟨hk1,hk2⟩:=LK.snoc.1 hk;have ih1:=ih qs hl1 (λi h=>by have:=hok i (by simp;omega);rwa [ah2 h]at this) hk1 (λp hp=>ha p (ag2 _ hp));have hq:=hok qs.length (by simp);simp at hq;have haq:=ha q (by simp);rw[uQ,aB.lW,ah6,ih1]
  congr 1
  simp only[an2,List.map_nil]
  congr 1
  have hll:=iI sm qs;unfold mO;rcases hq with⟨a,b,_⟩|⟨a,b,c⟩|⟨a,_,_⟩|⟨a,_,_⟩
  ·rw[ac8 a,vW,fZ ih1 (by omega)];simp[a]
  ·have h33:q.1≠33:=(by intro e;rw[e]at a;simp[au]at a);have h61:q.1≠61:=(by intro e;rw[e]at a;simp[au]at a);have h80:¬(q.1=80\/q.1=81):=(by rintro(e|e)<;>(rw[e]at a;simp[au]at a));rw[ac5 h33,ac5 h61,ac5 h80,ac5 h33];have:=hk2 a;rw[fZ ih1 (by omega),fZ ih1 (by omega)]at this;rw[<-this];simp[lv]
  ·have h33:q.1≠33:=(by omega);have h61:q.1≠61:=(by omega);rw[ac5 h33,ac5 h61,ac8 a,<-haq.2 a];simp[lv]
  ·have h33:q.1≠33:=(by omega);rw[ac5 h33,ac8 a,<-haq.1 a];simp[lv]
structure FP(sm:Key->Key):Prop where
 eq:∀q:Key,q.1=61->(sm q).1=61/\(sm q=q\/((sm q).2=(q.2.2,q.2.1))\/(q.2.1=q.2.2/\(sm q).2.1=(sm q).2.2))
 other:∀q:Key,q.1≠61->sm q=q
theorem I4:FP id:=⟨λ_ h=>⟨h,Or.inl rfl⟩,λ_ _=>rfl⟩
def cv(cl:List Int)(hl:List Bool)(ps:List Key):Key->Bool:=λp=>mO cl hl (dX cl hl ps) p
theorem UG{cl:List Int}{hl:List Bool}{ps:List Key}{q:Key}(h:q.1=61):cv cl hl ps q=decide (cl.getD q.2.1 0=cl.getD q.2.2 0):=by
 unfold cv mO;rw[ac8 h]
theorem uh{cl:List Int}{hl:List Bool}{ps:List Key}{q:Key}(h:q.1=80\/q.1=81):cv cl hl ps q=hl.getD q.2.1 false:=by
 have h1:q.1≠61:=by omega
 unfold cv mO;rw[ac5 h1,ac8 h]
theorem UF{sm:Key->Key}(hs:FP sm){cl:List Int}{hl:List Bool}{ps:List Key}{q:Key}(h:q.1=61):cv cl hl ps (sm q)=decide (cl.getD q.2.1 0=cl.getD q.2.2 0):=by
 obtain⟨h1,h2⟩:=hs.eq q h;rw[UG h1];rcases h2 with e|e|⟨e1,e2⟩
 ·rw[e]
 ·rw[e];simp only[decide_eq_decide];exact⟨Eq.symm,Eq.symm⟩
 ·rw[e1,e2];simp
theorem Fq{sm:Key->Key}(hs:FP sm)(cl:List Int)(hl:List Bool)(ps qs:List Key):pY sm (cv cl hl ps) cl hl qs:=by
 refine λq _=>⟨λh=>UF hs h,λh=>?_⟩;rw[hs.other q (by omega),uh h]
theorem Qo{sm:Key->Key}(hs:FP sm){cl:List Int}{hl:List Bool}{nt nc:Nat}{ps:List Key}(hi:aT nt nc ps):∀n,n<=ps.length->LK sm (cv cl hl ps) (ps.take n):=by
 intro n
 induction n with
 |zero=>
  intro _ ps1 q hp;simp at hp
 |succ n ih=>
  intro hn;have e:ps.take (n+1)=ps.take n++[ps[n]]:=by rw[ae6,SI (by omega)];rfl
  have hk:=ih (by omega);rw[e];refine LK.snoc.2 ⟨hk,λhj=>?_⟩;have hv:=yE (nt:=nt) (nc:=nc) (ps.take n) (λi h=>by
   have h2:i<ps.length:=(by simp at h;omega);rw[List.getElem_take];exact hi.ok i h2) hk (Fq hs cl hl ps (ps.take n))
  have hq:=hi.ok n (by omega);have hlen:(lits sm (ps.take n)).length=n:=by rw[iI];simp;omega
  have hpl:(dX cl hl (ps.take n)).length=n:=by rw[aB.ig];simp;omega
  have hpre:dX cl hl (ps.take n) <+: dX cl hl ps:=aB.mZ (List.take_prefix _ _);have h33:ps[n].1≠33:=by intro e;rw[e]at hj;simp[au]at hj
  have h61:ps[n].1≠61:=by intro e;rw[e]at hj;simp[au]at hj
  have h80:¬(ps[n].1=80\/ps[n].1=81):=by rintro(e|e)<;>(rw[e]at hj;simp[au]at hj)
  rcases hq with⟨a,_⟩|⟨_,b,c⟩|⟨a,_⟩|⟨a,_⟩
  ·exact absurd a h33
  ·rw[fZ hv (by omega),fZ hv (by omega),hs.other _ h61];unfold cv mO;rw[ac5 h61,ac5 h80,ac5 h33,aB.kT hpre (by omega),aB.kT hpre (by omega)]
  ·exact absurd a h80
  ·exact absurd a h61
def Zl(sm:Key->Key)(ps:List Key)(v:Key->Bool):Prop:=LK sm v ps/\lv v ((lits sm ps).getD (ps.length-1) ((0,0,0),false))=true
theorem DV{sm:Key->Key}{v:Key->Bool}{cl:List Int}{hl:List Bool}{nt nc:Nat}{ps:List Key}(hi:aT nt nc ps)(h0:0<ps.length)(h:Zl sm ps v)(ha:pY sm v cl hl ps):(dX cl hl ps).getD (ps.length-1) false=true:=by
 have hv:=yE ps hi.ok h.1 ha;rw[<-h.2,fZ hv (by rw[iI];omega)]
theorem Fz{sm:Key->Key}(hs:FP sm){cl:List Int}{hl:List Bool}{nt nc:Nat}{ps:List Key}(hi:aT nt nc ps)(h0:0<ps.length)(h:(dX cl hl ps).getD (ps.length-1) false=true):Zl sm ps (cv cl hl ps):=by
 have hk:=Qo (cl:=cl) (hl:=hl) hs hi ps.length (SH _);rw[ag4]at hk;have hv:=yE ps hi.ok hk (Fq hs cl hl ps ps);exact⟨hk,by rw[fZ hv (by rw[iI];omega)];exact h⟩
def Hold(v:Key->Bool)(L:List (List aV)):Prop:=∀c∈L,∃l∈c,lv v l=true
theorem eH{v:Key->Bool}{L M:List (List aV)}:Hold v (L++M)↔Hold v L/\Hold v M:=by
 unfold Hold;constructor
 ·intro h;exact⟨λc hc=>h c (ag2 _ hc),λc hc=>h c (am1 _ hc)⟩
 ·rintro⟨h1,h2⟩ c hc;rcases ae4.1 hc with hc|hc
  ·exact h1 c hc
  ·exact h2 c hc
structure ku(Us:List Key)(ak:List Rule)(L:List (List aV)):Prop where
 lp:LP Us ak (λv=>Hold v L)
 mem:∀c∈L,∀l∈c,l.1∈Us
 len:ak.length=L.length
theorem ku.nil:ku [] [] []:=⟨LP.nil.imp (λ_=>⟨λ_ c hc=>by(cases hc),λ_=>trivial⟩),λc hc=>by(cases hc),rfl⟩
theorem ku.so{Us:List Key}{ak:List Rule}{L:List (List aV)}(h:ku Us ak L)(p:Key):ku (put Us p) ak L:=
 ⟨h.lp.so p,λc hc l hl=>(fM Us p).mem (h.mem c hc l hl),h.len⟩
theorem ku.demand{Us:List Key}{ak:List Rule}{L:List (List aV)}(h:ku Us ak L){ls:List aV}(h0:ls≠[])(h1:ls.length<=1000)(hm:∀l∈ls,l.1∈Us):ku Us (ak++[dd (ls.map (vw Us))]) (L++[ls]):=by
 refine⟨(h.lp.demand h0 h1 hm).imp (λv=>?_),λc hc=>?_,by simp[h.len]⟩
 ·rw[eH];refine and_congr Iff.rfl ⟨λe c hc=>?_,λe=>e ls (by simp)⟩;rw[ad4.1 hc];exact e
 ·rcases ae4.1 hc with hc|hc
  ·exact h.mem c hc
  ·rw[ad4.1 hc];exact hm
theorem aU(Us:List Key)(p:Key):p∈put Us p:=sU.2 (Or.inr rfl)
def lF(w f s:aV):List (List aV):=[[nl w,f],[nl w,s],[w,nl f,nl s]]
def pV(w f s:aV):List (List aV):=[[w,f,s],[w,nl f,nl s],[nl w,f,nl s],[nl w,nl f,s]]
theorem uU{v:Key->Bool}{w f s:aV}:Hold v (lF w f s)↔lv v w=(lv v f&&lv v s):=by
 unfold Hold lF;simp only[af4,ai2,am6,forall_eq_or_imp,forall_eq,exists_eq_or_imp,exists_eq_left,vW];cases lv v w<;>cases lv v f<;>cases lv v s<;>simp
theorem GZ{v:Key->Bool}{w f s:aV}:Hold v (pV w f s)↔lv v w=(lv v f==lv v s):=by
 unfold Hold pV;simp only[af4,ai2,am6,forall_eq_or_imp,forall_eq,exists_eq_or_imp,exists_eq_left,vW];cases lv v w<;>cases lv v f<;>cases lv v s<;>simp
def xE(sm:Key->Key)(acc:List aV)(q:Key):List (List aV):=
 if q.1=38 then lF (sm q,true) (acc.getD q.2.1 ((0,0,0),false)) (acc.getD q.2.2 ((0,0,0),false))
 else if q.1=124 then lF (nl (sm q,true)) (nl (acc.getD q.2.1 ((0,0,0),false))) (nl (acc.getD q.2.2 ((0,0,0),false)))
 else if q.1=62 then lF (nl (sm q,true)) (acc.getD q.2.1 ((0,0,0),false)) (nl (acc.getD q.2.2 ((0,0,0),false)))
 else if q.1=45 then pV (sm q,true) (acc.getD q.2.1 ((0,0,0),false)) (acc.getD q.2.2 ((0,0,0),false))
 else []
theorem O6{sm:Key->Key}{v:Key->Bool}{acc:List aV}{q:Key}:Hold v (xE sm acc q)↔(au q.1=true->v (sm q)=jn q.1 (lv v (acc.getD q.2.1 ((0,0,0),false))) (lv v (acc.getD q.2.2 ((0,0,0),false)))):=by
 have hw:lv v (sm q,true)=v (sm q):=by simp[lv]
 unfold xE jn;by_cases h1:q.1=38
 ·rw[ac8 h1,uU,hw,ac8 h1];simp[au,h1]
 ·rw[ac5 h1];by_cases h2:q.1=124
  ·rw[ac8 h2,uU,vW,vW,vW,hw];simp[au,h2]
  ·rw[ac5 h2];by_cases h3:q.1=62
   ·rw[ac8 h3,uU,vW,vW,hw];simp[au,h3]
   ·rw[ac5 h3];by_cases h4:q.1=45
    ·rw[ac8 h4,GZ,hw];simp[au,h4]
    ·rw[ac5 h4];have:au q.1=false:=(by simp[au,h1,h2,h3,h4]);simp[this,Hold]
def ug(sm:Key->Key):Nat->List Key->List (List aV)
 |0,_=>[]
 |k+1,ps=>ug sm k ps++match ps[k]? with
  |some q=>xE sm (lits sm (ps.take k)) q
  |none=>[]
theorem Bj{sm:Key->Key}{k:Nat}{ps:List Key}(h:k<ps.length):ug sm (k+1) ps=ug sm k ps++xE sm (lits sm (ps.take k)) ps[k]:=by
 show _++_=_
 rw[SI h]
theorem LX{sm:Key->Key}{v:Key->Bool}{ps:List Key}:∀k,k<=ps.length->(Hold v (ug sm k ps)↔LK sm v (ps.take k)):=by
 intro k
 induction k with
 |zero=>
  intro _;constructor
  ·intro _ ps1 q hp;simp at hp
  ·intro _ c hc;cases hc
 |succ k ih=>
  intro hk;have e:ps.take (k+1)=ps.take k++[ps[k]]:=by rw[ae6,SI (by omega)];rfl
  rw[Bj (by omega),eH,ih (by omega),O6,e,LK.snoc]
def lQ(sm:Key->Key)(ps:List Key):List (List aV):=ug sm ps.length ps++[[(lits sm ps).getD (ps.length-1) ((0,0,0),false)]]
theorem tV{sm:Key->Key}{v:Key->Bool}{ps:List Key}:Hold v (lQ sm ps)↔Zl sm ps v:=by
 unfold lQ Zl;rw[eH,LX _ (SH _),ag4];refine and_congr Iff.rfl ⟨λh=>?_,λh c hc=>?_⟩
 ·obtain⟨l,hl,h1⟩:=h _ (ad4.2 rfl);rw[ad4.1 hl]at h1;exact h1
 ·rw[ad4.1 hc];exact⟨_,ad4.2 rfl,h⟩
def bI(a b:Nat):Key:=(61,a,b)
def Qc(sm:Key->Key)(n:Nat):List (List aV):=
 [[(sm (bI 0 0),true)]]++(List.range n).flatMap λa=>(List.range n).flatMap λb=>(List.range a).map λc=>[(sm (bI a b),false),(sm (bI b c),false),(sm (bI a c),true)]
def UC(sm:Key->Key)(ts:List Key):List (List aV):=
 (List.range ts.length).flatMap λa=>(List.range a).flatMap λb=>
  if (ts.getD a (0,0,0)).1=(ts.getD b (0,0,0)).1 then [[(sm (bI (ts.getD a (0,0,0)).2.1 (ts.getD b (0,0,0)).2.1),false),(sm (bI (ts.getD a (0,0,0)).2.2 (ts.getD b (0,0,0)).2.2),false),(sm (bI a b),true)]]else []
def WU(sm:Key->Key)(cs:List (Int×Nat)):List (List aV):=
 (List.range cs.length).flatMap λa=>(List.range a).flatMap λb=>
  if (cs.getD a (0,0)).1=(cs.getD b (0,0)).1 then
   [[(sm (bI (cs.getD a (0,0)).2 (cs.getD b (0,0)).2),false),(sm ((cs.getD a (0,0)).1,a,0),true),(sm ((cs.getD b (0,0)).1,b,0),false)],
    [(sm (bI (cs.getD a (0,0)).2 (cs.getD b (0,0)).2),false),(sm ((cs.getD a (0,0)).1,a,0),false),(sm ((cs.getD b (0,0)).1,b,0),true)]]else []
theorem jX{v:Key->Bool}{n:Nat}{g:Nat->List (List aV)}:Hold v ((List.range n).flatMap g)↔∀a,a<n->Hold v (g a):=by
 unfold Hold;constructor
 ·intro h a ha c hc;exact h c (aj0.2 ⟨a,ag8.2 ha,hc⟩)
 ·intro h c hc;obtain⟨a,ha,hc⟩:=aj0.1 hc;exact h a (ag8.1 ha) c hc
theorem EW{sm:Key->Key}{v:Key->Bool}{n:Nat}:Hold v (Qc sm n)↔v (sm (bI 0 0))=true/\∀a,a<n->∀b,b<n->∀c,c<a->v (sm (bI a b))=true->v (sm (bI b c))=true->v (sm (bI a c))=true:=by
 unfold Qc;rw[eH,jX];refine and_congr ?_ (aj8 λa=>aj8 λha=>?_)
 ·unfold Hold;simp only[af4,ai2,am6,forall_eq,exists_eq_left,lv];cases v (sm (bI 0 0))<;>simp
 ·rw[jX];refine aj8 λb=>aj8 λhb=>?_;unfold Hold;constructor
  ·intro h c hc h1 h2;have:=h _ (ad5.2 ⟨c,ag8.2 hc,rfl⟩);simp[lv,h1,h2]at this;exact this
  ·intro h c hc;obtain⟨c',hc',rfl⟩:=ad5.1 hc;have:=h c' (ag8.1 hc');simp only[af4,ai2,am6,exists_eq_or_imp,exists_eq_left,lv];cases h1:v (sm (bI a b))<;>cases h2:v (sm (bI b c'))<;>simp_all
theorem EU{sm:Key->Key}{v:Key->Bool}{ts:List Key}:Hold v (UC sm ts)↔∀a,a<ts.length->∀b,b<a->(ts.getD a (0,0,0)).1=(ts.getD b (0,0,0)).1->v (sm (bI (ts.getD a (0,0,0)).2.1 (ts.getD b (0,0,0)).2.1))=true->v (sm (bI (ts.getD a (0,0,0)).2.2 (ts.getD b (0,0,0)).2.2))=true->v (sm (bI a b))=true:=by
 unfold UC;rw[jX];refine aj8 λa=>aj8 λha=>?_;rw[jX];refine aj8 λb=>aj8 λhb=>?_;by_cases e:(ts.getD a (0,0,0)).1=(ts.getD b (0,0,0)).1
 ·rw[ac8 e];unfold Hold;simp only[af4,ai2,am6,forall_eq,exists_eq_or_imp,exists_eq_left,lv];constructor
  ·intro h _ h1 h2;rw[h1,h2]at h;cases h3:v (sm (bI a b))<;>simp_all
  ·intro h;have:=h e;cases h1:v (sm (bI (ts.getD a (0,0,0)).2.1 (ts.getD b (0,0,0)).2.1))<;>cases h2:v (sm (bI (ts.getD a (0,0,0)).2.2 (ts.getD b (0,0,0)).2.2))<;>simp_all
 ·rw[ac5 e];exact⟨λ_ h=>absurd h e,λ_ c hc=>by cases hc⟩
theorem ES{sm:Key->Key}{v:Key->Bool}{cs:List (Int×Nat)}:Hold v (WU sm cs)↔∀a,a<cs.length->∀b,b<a->(cs.getD a (0,0)).1=(cs.getD b (0,0)).1->v (sm (bI (cs.getD a (0,0)).2 (cs.getD b (0,0)).2))=true->v (sm ((cs.getD a (0,0)).1,a,0))=v (sm ((cs.getD b (0,0)).1,b,0)):=by
 unfold WU;rw[jX];refine aj8 λa=>aj8 λha=>?_;rw[jX];refine aj8 λb=>aj8 λhb=>?_;by_cases e:(cs.getD a (0,0)).1=(cs.getD b (0,0)).1
 ·rw[ac8 e];unfold Hold;simp only[af4,ai2,am6,forall_eq_or_imp,forall_eq,exists_eq_or_imp,exists_eq_left,lv];constructor
  ·rintro⟨h1,h2⟩ _ h3;rw[h3]at h1 h2;cases h4:v (sm ((cs.getD a (0,0)).1,a,0))<;>cases h5:v (sm ((cs.getD b (0,0)).1,b,0))<;>simp_all
  ·intro h;have:=h e;cases h3:v (sm (bI (cs.getD a (0,0)).2 (cs.getD b (0,0)).2))<;>cases h4:v (sm ((cs.getD a (0,0)).1,a,0))<;>cases h5:v (sm ((cs.getD b (0,0)).1,b,0))<;>simp_all
 ·rw[ac5 e];exact⟨λ_ h=>absurd h e,λ_ c hc=>by cases hc⟩
end
open aB (Key put)
def lZ(b:UInt8):Bool:=decide ((b.toNat:Int)<48)||decide ((57:Int)<(b.toNat:Int))
def dJ(t:ByteArray):Bool:=decide (60<t.size)||t.data.toList.any lZ
theorem QL{t:ByteArray}{k:Nat}(hk:k<t.size):(t.data.toList.take (k+1)).any lZ=((t.data.toList.take k).any lZ||lZ t[k]):=by
 have hk':k<t.data.toList.length:=by simpa using hk
 rw[ae6,SI hk',List.any_append];simp[an8]
theorem any_true{t:ByteArray}{k:Nat}(h:(decide (60<t.size)||(t.data.toList.take k).any lZ)=true):dJ t=true:=by
 unfold dJ;rw[Bool.or_eq_true]at h ⊢;rcases h with h|h
 ·exact Or.inl h
 ·refine Or.inr ?_;rw[ak5]at h ⊢;obtain⟨x,hx,hp⟩:=h;exact⟨x,aj2 hx,hp⟩
theorem Ak{ts:List Key}{cs:List (Int×Nat)}{ps:List Key}(hc:aB.jJ ts cs)(hp:aB.aT ts.length cs.length ps)(h:0<ps.length):0<ts.length:=by
 rcases hp.ok 0 h with⟨_,q,_⟩|⟨_,q,_⟩|⟨_,q,_⟩|⟨_,q,_⟩
 ·omega
 ·omega
 ·have:=(hc cs[ps[0].2.1] (ab2 q)).2;omega
 ·omega
end Go.Proofs.YthcppbmkacbbiaaGreat
