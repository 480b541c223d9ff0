import Derived.Test.YthcppbmkacbbiaaGreatXBA
set_option linter.unusedSimpArgs false
set_option maxHeartbeats 1000000
set_option maxRecDepth 100000
namespace Go.Proofs.YthcppbmkacbbiaaGreat
open Go.Proofs.Tryz
section
open Sat (View Rule je bG)
open aB (Key put lD dR jn au aO dF)
abbrev aT:Type:=Key×Bool
def lv(v:Key->Bool)(l:aT):Bool:=v l.1==l.2
def nl(l:aT):aT:=(l.1,!l.2)
theorem vJ(v:Key->Bool)(l:aT):lv v (nl l)=!lv v l:=by
 unfold lv nl;cases v l.1<;>cases l.2<;>rfl
def vw(Us:List Key)(l:aT):View:=(Us.idxOf l.1,l.2)
theorem gu{Us Us':List Key}(h:Us <+: Us'){p:Key}(hp:p∈Us):Us'.idxOf p=Us.idxOf p:=by
 obtain⟨R,rfl⟩:=h;rw[ai1,ad3 hp]
theorem mJ{Us Us':List Key}(h:Us <+: Us'){l:aT}(hp:l.1∈Us):vw Us' l=vw Us l:=by
 unfold vw;rw[gu h hp]
theorem IV(Us:List Key)(l:aT):vw Us (nl l)=((vw Us l).1,!(vw Us l).2):=rfl
def dd(vs:List View):Rule:=vs.foldl put []
theorem Ir(vs:List View):∀(acc:List View) (u:View),u∈vs.foldl put acc↔u∈acc\/u∈vs:=by
 induction vs with
 |nil=>intro acc u;simp
 |cons a vs ih=>
  intro acc u;rw[List.foldl_cons,ih,sH];simp[or_assoc]
theorem CW(vs:List View)(u:View):u∈dd vs↔u∈vs:=by
 unfold dd;rw[Ir];simp
theorem Gi{l:List View}(h:l.Nodup)(a:View):(put l a).Nodup:=by
 unfold put;by_cases hc:l.contains a=true
 ·rw[ad3 hc];exact h
 ·rw[ac2 hc,al4];refine⟨h,by simp,λx hx y hy e=>?_⟩;rw[ad8.1 hy]at e;subst e;exact hc (by simpa using hx)
theorem CV(vs:List View):∀(acc:List View),acc.Nodup->(vs.foldl put acc).Nodup:=by
 induction vs with
 |nil=>intro acc h;exact h
 |cons a vs ih=>intro acc h;exact ih _ (Gi h a)
theorem Qm(vs:List View):(dd vs).Nodup:=CV vs [] aj2
theorem rE(vs:List View):∀(acc:List View),(vs.foldl put acc).length<=acc.length+vs.length:=by
 induction vs with
 |nil=>intro acc;simp
 |cons a vs ih=>
  intro acc;have h1:=ih (put acc a);have h2:(put acc a).length<=acc.length+1:=by unfold put;split<;>simp
  simp only[List.foldl_cons,ab9];omega
theorem V6(vs:List View):(dd vs).length<=vs.length:=by
 have:=rE vs [];simpa[dd]using this
def Sem(Us:List Key)(ak:List Rule)(Φ:(Key->Bool)->Prop):Prop:=
 ∀Us',Us <+: Us'->∀α:Nat->Bool,(∀r∈ak,Sat.keeps α r)↔Φ (λp=>α (Us'.idxOf p))
structure LP(Us:List Key)(ak:List Rule)(Φ:(Key->Bool)->Prop):Prop where
 sem:Sem Us ak Φ
 rg:RG Us.length ak
 nodup:Us.Nodup
theorem LP.nil:LP [] [] (λ_=>True):=
 ⟨λ_ _ _=>⟨λ_=>trivial,λ_ r hr=>by(cases hr)⟩,⟨λr hr=>by(cases hr),λr hr=>by(cases hr),λr hr=>by(cases hr),λr hr=>by(cases hr)⟩,aj2⟩
theorem cO{α:Type}[BEq α](l:List α)(k:α):l <+: put l k:=by
 unfold put;split
 ·exact ah5 _
 ·exact ak8 _ _
theorem LP.so{Us:List Key}{ak:List Rule}{Φ:(Key->Bool)->Prop}(h:LP Us ak Φ)(p:Key):LP (put Us p) ak Φ:=by
 have hl:=(cO Us p).length_le;refine⟨λUs' hp α=>h.sem Us' ((cO Us p).trans hp) α,⟨h.rg.ne,h.rg.nodup,λr hr u hu=>ac7 (h.rg.lt r hr u hu) hl,h.rg.len⟩,?_⟩;unfold put;by_cases hc:Us.contains p=true
 ·rw[ad3 hc];exact h.nodup
 ·rw[ac2 hc,al4];refine⟨h.nodup,by simp,λx hx y hy e=>?_⟩;rw[ad8.1 hy]at e;subst e;exact hc (by simpa using hx)
theorem LP.demand{Us:List Key}{ak:List Rule}{Φ:(Key->Bool)->Prop}(h:LP Us ak Φ){ls:List aT}(h0:ls≠[])(h1:ls.length<=1000)(hm:∀l∈ls,l.1∈Us) :
  LP Us (ak++[dd (ls.map (vw Us))]) (λv=>Φ v/\∃l∈ls,lv v l=true):=by
 refine⟨λUs' hp α=>?_,⟨λr hr=>?_,λr hr=>?_,λr hr=>?_,λr hr=>?_⟩,h.nodup⟩
 ·have hk:Sat.keeps α (dd (ls.map (vw Us)))↔∃l∈ls,lv (λp=>α (Us'.idxOf p)) l=true:=by
   unfold Sat.keeps;constructor
   ·rintro⟨u,hu,hα⟩;obtain⟨l,hl,rfl⟩:=ad9.1 ((CW _ _).1 hu);refine⟨l,hl,?_⟩;unfold lv;simp only[gu hp (hm l hl)];simpa[vw]using hα
   ·rintro⟨l,hl,hα⟩;refine⟨vw Us l,(CW _ _).2 (ad9.2 ⟨l,hl,rfl⟩),?_⟩;unfold lv at hα;simp only[gu hp (hm l hl)]at hα;simpa[vw]using hα
  rw[<-hk,<-h.sem Us' hp α];constructor
  ·intro hr;exact⟨λr h2=>hr r (ag7 _ h2),hr _ (by simp)⟩
  ·rintro⟨g1,g2⟩ r hr;rcases ae6.1 hr with hr|hr
   ·exact g1 r hr
   ·rw[ad8.1 hr];exact g2
 ·rcases ae6.1 hr with hr|hr
  ·exact h.rg.ne r hr
  ·rw[ad8.1 hr];intro e;obtain⟨l,hl⟩:=List.exists_mem_of_ne_nil _ h0;have:=(CW _ _).2 (ad9.2 ⟨l,hl,rfl⟩:vw Us l∈ls.map (vw Us));rw[e]at this;cases this
 ·rcases ae6.1 hr with hr|hr
  ·exact h.rg.nodup r hr
  ·rw[ad8.1 hr];exact Qm _
 ·rcases ae6.1 hr with hr|hr
  ·exact h.rg.lt r hr
  ·rw[ad8.1 hr];intro u hu;obtain⟨l,hl,rfl⟩:=ad9.1 ((CW _ _).1 hu);exact ai2.2 (hm l hl)
 ·rcases ae6.1 hr with hr|hr
  ·exact h.rg.len r hr
  ·rw[ad8.1 hr];have:=V6 (ls.map (vw Us));simp at this;omega
theorem LP.imp{Us:List Key}{ak:List Rule}{Φ Ψ:(Key->Bool)->Prop}(h:LP Us ak Φ)(e:∀v,Φ v↔Ψ v):LP Us ak Ψ:=
 ⟨λUs' hp α=>(h.sem Us' hp α).trans (e _),h.rg,h.nodup⟩
def lits(sm:Key->Key)(ps:List Key):List aT:=ps.foldl (λacc q=>acc++[if q.1=33 then nl (acc.getD q.2.1 ((0,0,0),false))else(sm q,true)]) []
theorem uF(sm:Key->Key)(ps:List Key)(q:Key):lits sm (ps++[q])=lits sm ps++[if q.1=33 then nl ((lits sm ps).getD q.2.1 ((0,0,0),false))else(sm q,true)]:=by
 unfold lits;rw[al5];rfl
theorem iD(sm:Key->Key)(ps:List Key):(lits sm ps).length=ps.length:=by
 have h:∀qs:List Key,∀ps:List Key,(lits sm ps).length=ps.length->(lits sm (ps++qs)).length=(ps++qs).length:=by
  intro qs
  induction qs with
  |nil=>intro ps h;simpa using h
  |cons q qs ih=>
   intro ps h;have e:ps++q::qs=(ps++[q])++qs:=(by simp);rw[e];exact ih _ (by rw[uF];simp[h])
 simpa using h ps [] rfl
def LK(sm:Key->Key)(v:Key->Bool)(ps:List Key):Prop:=
 ∀ps1 q,ps1++[q] <+: ps->au q.1=true->v (sm q)=jn q.1 (lv v ((lits sm ps1).getD q.2.1 ((0,0,0),false))) (lv v ((lits sm ps1).getD q.2.2 ((0,0,0),false)))
theorem Ee{α:Type}{a b:List α}{x:α}(h:a <+: b++[x]):a <+: b\/a=b++[x]:=by
 rcases List.prefix_concat_iff.1 h with h|h
 ·exact Or.inr h
 ·exact Or.inl h
theorem LK.snoc{sm:Key->Key}{v:Key->Bool}{ps:List Key}{q:Key}:LK sm v (ps++[q])↔LK sm v ps/\(au q.1=true->v (sm q)=jn q.1 (lv v ((lits sm ps).getD q.2.1 ((0,0,0),false))) (lv v ((lits sm ps).getD q.2.2 ((0,0,0),false)))):=by
 constructor
 ·intro h;exact⟨λps1 q1 hp=>h ps1 q1 (hp.trans (ak8 _ _)),h ps q (ah5 _)⟩
 ·rintro⟨h1,h2⟩ ps1 q1 hp;rcases Ee hp with hp|hp
  ·exact h1 ps1 q1 hp
  ·have:=List.append_inj' hp rfl;obtain⟨rfl,e⟩:=this;have e:q1=q:=(by simpa using e);subst e;exact h2
def pU(sm:Key->Key)(v:Key->Bool)(cl:List Int)(hl:List Bool)(ps:List Key):Prop:=
 ∀q∈ps,(q.1=61->v (sm q)=decide (cl.getD q.2.1 0=cl.getD q.2.2 0))/\(q.1=80\/q.1=81->v (sm q)=hl.getD q.2.1 false)
theorem fQ{v:Key->Bool}{L:List aT}{B:List Bool}(h:L.map (lv v)=B){i:Nat}(hi:i<L.length):lv v (L.getD i ((0,0,0),false))=B.getD i false:=by
 subst h;simp[ad4,ab4 hi]
theorem yu{sm:Key->Key}{v:Key->Bool}{cl:List Int}{hl:List Bool}{nt nc:Nat}:∀(ps:List Key),(∀i (h:i<ps.length),dF nt nc i ps[i])->LK sm v ps->pU sm v cl hl ps->(lits sm ps).map (lv v)=dR cl hl ps:=by
 suffices H:∀n (ps:List Key),ps.length=n->(∀i (h:i<ps.length),dF nt nc i ps[i])->LK sm v ps->pU sm v cl hl ps->(lits sm ps).map (lv v)=dR cl hl ps from λps=>H _ ps rfl
 intro n
 induction n with
 |zero=>
  intro ps hn _ _ _;have:ps=[]:=af7 hn;subst this;rfl
 |succ n ih=>
  intro ps hn hok hk ha;obtain⟨qs,q,rfl⟩:∃qs q,ps=qs++[q]:=⟨ps.dropLast,ps.getLast (by intro e;rw[e]at hn;simp at hn),(List.dropLast_concat_getLast _).symm⟩;have hl1:qs.length=n:=by simpa using hn
  obtain⟨hk1,hk2⟩:=LK.snoc.1 hk;have ih1:=ih qs hl1 (λi h=>by have:=hok i (by simp;omega);rwa [ae2 h]at this) hk1 (λp hp=>ha p (ag7 _ hp));have hq:=hok qs.length (by simp);simp at hq;have haq:=ha q (by simp);rw[uF,aB.jZ,ai5,ih1]
  congr 1
  simp only[ap1,List.map_nil]
  congr 1
  have hll:=iD sm qs;unfold lD;rcases hq with⟨a,b,_⟩|⟨a,b,c⟩|⟨a,_,_⟩|⟨a,_,_⟩
  ·rw[ad3 a,vJ,fQ ih1 (by omega)];simp[a]
  ·have h33:q.1≠33:=(by intro e;rw[e]at a;simp[au]at a);have h61:q.1≠61:=(by intro e;rw[e]at a;simp[au]at a);have h80:¬(q.1=80\/q.1=81):=(by rintro(e|e)<;>(rw[e]at a;simp[au]at a));rw[ac2 h33,ac2 h61,ac2 h80,ac2 h33];have:=hk2 a;rw[fQ ih1 (by omega),fQ ih1 (by omega)]at this;rw[<-this];simp[lv]
  ·have h33:q.1≠33:=(by omega);have h61:q.1≠61:=(by omega);rw[ac2 h33,ac2 h61,ad3 a,<-haq.2 a];simp[lv]
  ·have h33:q.1≠33:=(by omega);rw[ac2 h33,ad3 a,<-haq.1 a];simp[lv]
structure FK(sm:Key->Key):Prop where
 eq:∀q:Key,q.1=61->(sm q).1=61/\(sm q=q\/((sm q).2=(q.2.2,q.2.1))\/(q.2.1=q.2.2/\(sm q).2.1=(sm q).2.2))
 other:∀q:Key,q.1≠61->sm q=q
theorem IY:FK id:=⟨λ_ h=>⟨h,Or.inl rfl⟩,λ_ _=>rfl⟩
def cv(cl:List Int)(hl:List Bool)(ps:List Key):Key->Bool:=λp=>lD cl hl (dR cl hl ps) p
theorem UF{cl:List Int}{hl:List Bool}{ps:List Key}{q:Key}(h:q.1=61):cv cl hl ps q=decide (cl.getD q.2.1 0=cl.getD q.2.2 0):=by
 unfold cv lD;rw[ad3 h]
theorem tK{cl:List Int}{hl:List Bool}{ps:List Key}{q:Key}(h:q.1=80\/q.1=81):cv cl hl ps q=hl.getD q.2.1 false:=by
 have h1:q.1≠61:=by omega
 unfold cv lD;rw[ac2 h1,ad3 h]
theorem UE{sm:Key->Key}(hs:FK sm){cl:List Int}{hl:List Bool}{ps:List Key}{q:Key}(h:q.1=61):cv cl hl ps (sm q)=decide (cl.getD q.2.1 0=cl.getD q.2.2 0):=by
 obtain⟨h1,h2⟩:=hs.eq q h;rw[UF h1];rcases h2 with e|e|⟨e1,e2⟩
 ·rw[e]
 ·rw[e];simp only[decide_eq_decide];exact⟨Eq.symm,Eq.symm⟩
 ·rw[e1,e2];simp
theorem Fg{sm:Key->Key}(hs:FK sm)(cl:List Int)(hl:List Bool)(ps qs:List Key):pU sm (cv cl hl ps) cl hl qs:=by
 refine λq _=>⟨λh=>UE hs h,λh=>?_⟩;rw[hs.other q (by omega),tK h]
theorem Qo{sm:Key->Key}(hs:FK sm){cl:List Int}{hl:List Bool}{nt nc:Nat}{ps:List Key}(hi:aO nt nc ps):∀n,n<=ps.length->LK sm (cv cl hl ps) (ps.take n):=by
 intro n
 induction n with
 |zero=>
  intro _ ps1 q hp;simp at hp
 |succ n ih=>
  intro hn;have e:ps.take (n+1)=ps.take n++[ps[n]]:=by rw[af6,ab4 (by omega)];rfl
  have hk:=ih (by omega);rw[e];refine LK.snoc.2 ⟨hk,λhj=>?_⟩;have hv:=yu (nt:=nt) (nc:=nc) (ps.take n) (λi h=>by
   have h2:i<ps.length:=(by simp at h;omega);rw[List.getElem_take];exact hi.ok i h2) hk (Fg hs cl hl ps (ps.take n))
  have hq:=hi.ok n (by omega);have hlen:(lits sm (ps.take n)).length=n:=by rw[iD];simp;omega
  have hpl:(dR cl hl (ps.take n)).length=n:=by rw[aB.fK];simp;omega
  have hpre:dR cl hl (ps.take n) <+: dR cl hl ps:=aB.mV (List.take_prefix _ _);have h33:ps[n].1≠33:=by intro e;rw[e]at hj;simp[au]at hj
  have h61:ps[n].1≠61:=by intro e;rw[e]at hj;simp[au]at hj
  have h80:¬(ps[n].1=80\/ps[n].1=81):=by rintro(e|e)<;>(rw[e]at hj;simp[au]at hj)
  rcases hq with⟨a,_⟩|⟨_,b,c⟩|⟨a,_⟩|⟨a,_⟩
  ·exact absurd a h33
  ·rw[fQ hv (by omega),fQ hv (by omega),hs.other _ h61];unfold cv lD;rw[ac2 h61,ac2 h80,ac2 h33,aB.kL hpre (by omega),aB.kL hpre (by omega)]
  ·exact absurd a h80
  ·exact absurd a h61
def Zm(sm:Key->Key)(ps:List Key)(v:Key->Bool):Prop:=LK sm v ps/\lv v ((lits sm ps).getD (ps.length-1) ((0,0,0),false))=true
theorem DL{sm:Key->Key}{v:Key->Bool}{cl:List Int}{hl:List Bool}{nt nc:Nat}{ps:List Key}(hi:aO nt nc ps)(h0:0<ps.length)(h:Zm sm ps v)(ha:pU sm v cl hl ps):(dR cl hl ps).getD (ps.length-1) false=true:=by
 have hv:=yu ps hi.ok h.1 ha;rw[<-h.2,fQ hv (by rw[iD];omega)]
theorem Fj{sm:Key->Key}(hs:FK sm){cl:List Int}{hl:List Bool}{nt nc:Nat}{ps:List Key}(hi:aO nt nc ps)(h0:0<ps.length)(h:(dR cl hl ps).getD (ps.length-1) false=true):Zm sm ps (cv cl hl ps):=by
 have hk:=Qo (cl:=cl) (hl:=hl) hs hi ps.length (ab3 _);rw[ag9]at hk;have hv:=yu ps hi.ok hk (Fg hs cl hl ps ps);exact⟨hk,by rw[fQ hv (by rw[iD];omega)];exact h⟩
end
namespace aB
structure fA(cs:List (Int×Nat))(ps:List Key):Prop where
 letter:∀q∈ps,q.1=80\/q.1=81->∃h:q.2.1<cs.length,cs[q.2.1].1=q.1
 has:∀c (h:c<cs.length),(cs[c].1,c,0)∈ps
def isAtom(c:Int):Bool:=decide (c=61\/c=80\/c=81)
def cnt(p:Int->Bool)(ps:List Key):Nat:=ps.countP λq=>p q.1
theorem y9(p:Int->Bool)(ps:List Key)(q:Key):cnt p (put ps q)<=cnt p ps+(if p q.1 then 1 else 0):=by
 unfold cnt put;split
 ·omega
 ·rw[List.countP_append];simp only[ao0,List.countP_nil,ak2];exact ab3 _
def D5(a:Nat)(cs:List (Int×Nat))(ps:List Key):RP->Prop
 |.error _=>True
 |.ok (a1,_,cs1,ps1,_)=>a<a1/\6*cnt au ps1+3+a<=6*cnt au ps+a1/\3*(cnt au ps1+cnt isAtom ps1)+a<=3*(cnt au ps+cnt isAtom ps)+a1/\(fA cs ps->fA cs1 ps1)
theorem fA.uD{cs:List (Int×Nat)}{ps:List Key}(h:fA cs ps){q:Key}(hq:¬(q.1=80\/q.1=81)):fA cs (put ps q):=by
 refine⟨λp hp hc=>?_,λc hc=>?_⟩
 ·unfold put at hp;split at hp
  ·exact h.letter p hp hc
  ·rcases ae6.1 hp with hp|hp
   ·exact h.letter p hp hc
   ·rw[ad8.1 hp]at hc;exact absurd hc hq
 ·unfold put;split
  ·exact h.has c hc
  ·exact ag7 _ (h.has c hc)
theorem fA.Kt{cs:List (Int×Nat)}{ps:List Key}(h:fA cs ps)(k:Int×Nat):fA (put cs k) (put ps (k.1,cs.idxOf k,0)):=by
 have hsub:∀c (hc:c<cs.length),∃h':c<(put cs k).length,(put cs k)[c]=cs[c]:=λc hc=>by
  unfold put;split
  ·exact⟨hc,rfl⟩
  ·exact⟨by simp;omega,ae2 hc⟩
 have hidx:∃h':cs.idxOf k<(put cs k).length,(put cs k)[cs.idxOf k]=k:=by
  unfold put;split
  ·rename_i hc;have hm:k∈cs:=(by simpa using hc);exact⟨ai2.2 hm,af5 _⟩
  ·rename_i hc;have hm:k∉cs:=(by simpa using hc);have e:=ag0 hm;refine⟨by rw[e];simp,?_⟩;simp[e]
 have hpm:∀p,p∈put ps (k.1,cs.idxOf k,0)↔p∈ps\/p=(k.1,cs.idxOf k,0):=λp=>by
  unfold put;split
  ·rename_i hc;constructor
   ·exact Or.inl
   ·rintro(h1|rfl)
    ·exact h1
    ·simpa using hc
  ·simp
 refine⟨λq hq hc=>?_,λc hc=>?_⟩
 ·rcases(hpm q).1 hq with hq|rfl
  ·obtain⟨h1,h2⟩:=h.letter q hq hc;obtain⟨h3,h4⟩:=hsub _ h1;exact⟨h3,by rw[h4];exact h2⟩
  ·obtain⟨h1,h2⟩:=hidx;exact⟨h1,by simp only;rw[h2]⟩
 ·by_cases hlt:c<cs.length
  ·obtain⟨h3,h4⟩:=hsub c hlt;rw[h4];exact(hpm _).2 (Or.inl (h.has c hlt))
  ·have hn:¬cs.contains k=true:=by
    intro hc2;unfold put at hc;rw[ad3 hc2]at hc;exact hlt hc
   have hm:k∉cs:=(by simpa using hn);have hle:c=cs.length:=by
    unfold put at hc;rw[ac2 hn]at hc;simp at hc;omega
   have e:=ag0 hm;obtain⟨h1,h2⟩:=hidx;have e2:c=cs.idxOf k:=(by omega);subst e2;refine(hpm _).2 (Or.inr ?_);rw[h2]
section
variable {pk:Nat->Int} {N:Nat}
theorem rX{a a1:Nat}{cs cs1:List (Int×Nat)}{ps ps1 aF:List Key}{q:Key}(h1:a<a1)
 (hj:6*(cnt au ps1+(if au q.1 then 1 else 0))+3+a<=6*cnt au ps+a1)
 (hs:3*(cnt au ps1+(if au q.1 then 1 else 0)+(cnt isAtom ps1+(if isAtom q.1 then 1 else 0)))+a<=3*(cnt au ps+cnt isAtom ps)+a1)
 (hk:fA cs ps->fA cs1 (put ps1 q)):D5 a cs ps (uO (.ok (a1,aF,cs1,ps1,q))):=by
 have e1:=y9 au ps1 q;have e2:=y9 isAtom ps1 q;exact⟨h1,by omega,by omega,hk⟩
theorem NI(hpk:∀a,pk a≠0->a<N):∀(n a d:Nat) (ts:List Key) (cs:List (Int×Nat)) (ps:List Key),a<=N->D5 a cs ps (iL pk n a d ts cs ps):=by
 intro n
 induction n with
 |zero=>intro a d ts cs ps _;trivial
 |succ n ih=>
  intro a d ts cs ps ha;unfold iL;split
  ·rename_i e;have hl:=hpk a (by omega);have h:=ih (a+1) d ts cs ps (by omega);rcases hR:iL pk n (a+1) d ts cs ps with e|⟨a1,aF,cs1,ps1,m⟩
   ·trivial
   ·rw[hR]at h;obtain⟨h1,h2,h3,h4⟩:=h;refine rX (by omega) (by simp[au];omega) (by simp[au,isAtom];omega) (λhk=>(h4 hk).uD (by simp))
  ·split
   ·rename_i e;have hl:=hpk a (by omega);unfold Kr;split
    ·trivial
    ·have h:=ih (a+1) (d+1) ts cs ps (by omega);have hF:=qh hpk n (a+1) (d+1) ts cs (by omega);rw[<-kD pk n (a+1) (d+1) ts cs ps]at hF;rcases hR:iL pk n (a+1) (d+1) ts cs ps with e|⟨a1,aF,cs1,ps1,m1⟩
     ·trivial
     ·rw[hR]at h hF;obtain⟨h1,h2,h3,h4⟩:=h;obtain⟨g1,g2,_⟩:=hF
      show D5 a cs ps (uO (if au (pk a1)=true then _ else _))
      split
      ·rename_i hj;have hl1:=hpk a1 (λe=>by rw[e]at hj;simp[au]at hj);have h':=ih (a1+1) (d+1) aF cs1 ps1 (by omega);rcases hR2:iL pk n (a1+1) (d+1) aF cs1 ps1 with e|⟨a2,ts2,cs2,ps2,m2⟩
       ·trivial
       ·rw[hR2]at h';obtain⟨k1,k2,k3,k4⟩:=h'
        show D5 a cs ps (uO (if pk a2=41 then _ else _))
        split
        ·have hna:isAtom (pk a1)=false:=by
          simp[au]at hj;simp[isAtom];omega
         have hn8:¬(pk a1=80\/pk a1=81):=by
          simp[au]at hj;omega
         exact rX (by omega) (by simp only[hj,ah9];omega) (by simp only[hj,hna,ah9];simp;omega) (λhk=>(k4 (h4 hk)).uD hn8)
        ·trivial
      ·trivial
   ·split
    ·rename_i e8;have hl:=hpk a (by omega);have h':=iV hpk (rec:=dO pk (n+1)) (a:=a+1) (d:=d) (ts:=ts) (by omega) (λh40=>bQ hpk _ _ _ _ (by have:=hpk (a+1) (by omega);omega));have h4:∀a1 aF m,arg1 pk (dO pk (n+1)) (a+1) d ts=.ok (a1,aF,m)->a+4<=a1:=by
      intro a1 aF m hA;unfold arg1 at hA;split at hA
      ·rename_i h40;have hl2:=hpk (a+1) (by omega);have h5:=bQ hpk (n+1) (a+1+1) (d+1) ts (by omega);split at hA
       ·cases hA
       ·rcases hR3:dO pk (n+1) (a+1+1) (d+1) ts with e|⟨b1,us1,m3⟩
        ·rw[hR3]at hA;cases hA
        ·rw[hR3]at hA h5;obtain⟨p1,_⟩:=h5;simp only at hA;split at hA
         ·cases hA;omega
         ·cases hA
      ·cases hA
     unfold RD;rcases hR:arg1 pk (dO pk (n+1)) (a+1) d ts with e|⟨a1,aF,m⟩
     ·trivial
     ·have h5:=h4 _ _ _ hR;have hnj:au (pk a)=false:=by
       rcases e8 with e|e<;>(rw[e];decide)
      have hat:isAtom (pk a)=true:=by
       rcases e8 with e|e<;>(rw[e];decide)
      exact rX (by omega) (by simp only[hnj];simp;omega) (by simp only[hnj,hat,ah9];simp;omega) (λhk=>hk.Kt _)
    ·have h:=bQ hpk (n+1) a d ts ha;unfold BA;rcases hR:dO pk (n+1) a d ts with e|⟨a1,aF,m1⟩
     ·trivial
     ·rw[hR]at h;obtain⟨p1,p2,p3,p4,p5⟩:=h
      show D5 a cs ps (uO (if pk a1=61 then _ else _))
      split
      ·rename_i h61;have hl1:=hpk a1 (by omega);have h2:=bQ hpk (n+1) (a1+1) d aF (by omega);rcases hR2:dO pk (n+1) (a1+1) d aF with e|⟨a2,ts2,m2⟩
       ·trivial
       ·rw[hR2]at h2;obtain⟨q1,q2,q3,q4,q5⟩:=h2;exact rX (by omega) (by simp[au];omega) (by simp[au,isAtom];omega) (λhk=>hk.uD (by simp))
      ·trivial
end
end aB
section
open aB (Key put)
def lV(b:UInt8):Bool:=decide ((b.toNat:Int)<48)||decide ((57:Int)<(b.toNat:Int))
def dG(t:ByteArray):Bool:=decide (60<t.size)||t.data.toList.any lV
theorem QK{t:ByteArray}{k:Nat}(hk:k<t.size):(t.data.toList.take (k+1)).any lV=((t.data.toList.take k).any lV||lV t[k]):=by
 have hk':k<t.data.toList.length:=by simpa using hk
 rw[af6,ab4 hk',List.any_append];simp[al2]
theorem any_true{t:ByteArray}{k:Nat}(h:(decide (60<t.size)||(t.data.toList.take k).any lV)=true):dG t=true:=by
 unfold dG;rw[Bool.or_eq_true]at h ⊢;rcases h with h|h
 ·exact Or.inl h
 ·refine Or.inr ?_;rw[ak7]at h ⊢;obtain⟨x,hx,hp⟩:=h;exact⟨x,am9 hx,hp⟩
theorem JZ{ts:List Key}{cs:List (Int×Nat)}{ps:List Key}(hc:aB.jA ts cs)(hp:aB.aO ts.length cs.length ps)(h:0<ps.length):0<ts.length:=by
 rcases hp.ok 0 h with⟨_,q,_⟩|⟨_,q,_⟩|⟨_,q,_⟩|⟨_,q,_⟩
 ·omega
 ·omega
 ·have:=(hc cs[ps[0].2.1] (ab5 q)).2;omega
 ·omega
end
open Go.RowKit
theorem GL(w:World)(t:ByteArray) :
  Calls prog 32 #[.string t] w λe w'=>e=.returned (.bool (!dG t))/\Below w.heap.size w w':=by
 by_cases h60:60<t.size
 ·have hb:(60:Int)<(t.size:Int):=by omega
  have hn:dG t=true:=by unfold dG;simp[h60]
  rw[hn]
  go_enter func32,ntmps32
  go_wp2_with fail
  go_ret
  exact⟨rfl,af0 _ _⟩
 ·have hb:¬(60:Int)<(t.size:Int):=by omega
  have hcv:=run_bytes_of_string (P:=prog) w 9 107 5 t underlying9 underlying107 underlying5;obtain⟨cap,hcap⟩:∃c,grownCap w t.size 0 5=c:=⟨_,rfl⟩;rw[hcap]at hcv;obtain⟨W,hW⟩:∃W,w.drew.alloc (.cells (bytesRow t cap) 5 ((bytesRow t cap).size,(bytesRow t cap).size+1))=W:=⟨_,rfl⟩;have hbw:Below w.heap.size w W:=by rw[<-hW];exact((af0 _ w).drew).alloc (ab3 _) _
  have hn:W.heap[w.heap.size]?=some (.cells (bytesRow t cap) 5 ((bytesRow t cap).size,(bytesRow t cap).size+1)):=by rw[<-hW];exact ac4 w.drew _
  have hrow:∀i (hi:i<t.size),W.cell? ⟨w.heap.size,i,none⟩=some (.int .u8 (t[i].toNat:Int)):=λi hi=>by
   rw[Lib.cell_of_heap hn];have h3:=bytesRow_at t cap i hi;simpa[al2]using h3
  rw[hW]at hcv;have HR:=aj hrow;clear hW hn hrow hcap
  go_enter func32,ntmps32
  go_wp2_with fail
  go_loop [11] (λiv=>∃k:Nat,k<=t.size/\iv=.int .i64 k/\Hid ((t.data.toList.take k).any lV=false)) (λiv=>t.size-(intOf iv).toNat)
  case atStart=>exact⟨0,af4 _,rfl,by simp[Hid]⟩
  case round=>
   obtain⟨k,hk,rfl,hno⟩:=hrel;by_cases hlt:k<t.size
   ·have hbk:(k:Int)<(t.size:Int):=(by omega);have hck:=ah HR k hlt;have hat:=QK hlt;rw[ah hno,Bool.false_or]at hat;have hnd:lV t[k]=(decide ((t[k].toNat:Int)<48)||decide ((57:Int)<(t[k].toNat:Int))):=rfl;have Vo:(t[k].toNat:Int)<256:=(by have:=t[k].toNat_lt;omega);have HAT:=aj hat;have HND:=aj hnd;clear hat hnd hno;generalize lV t[k]=nd at HAT HND;generalize (t[k].toNat:Int)=c at hck HND Vo;have hbad:Hid (nd=true->dG t=true):=λh=>by
     have q:=ah HAT;rw[h]at q;exact any_true (k:=k+1) (by rw[q];simp)
    by_cases h48:c<48
    ·have hnt:dG t=true:=ah hbad (by rw[ah HND];simp[h48]);have HNT:=aj hnt;clear hnt
     go_wp2_with fail
     refine ae3 (v:=.bool false) (by simp[results,results32,go_sem]) rfl ⟨by rw[ah HNT];rfl,hbw⟩
    ·by_cases h57:57<c
     ·have hnt:dG t=true:=ah hbad (by rw[ah HND];simp[h57]);have HNT:=aj hnt;clear hnt
      go_wp2_with fail
      refine ae3 (v:=.bool false) (by simp[results,results32,go_sem]) rfl ⟨by rw[ah HNT];rfl,hbw⟩
     ·have hnf:nd=false:=(by rw[ah HND];simp[h48,h57]);have HNF:=aj hnf;clear hnf
      go_wp2_with fail
      refine⟨⟨k+1,hlt,by go_num,by rw[ah HAT];exact HNF⟩,by simp[intOf];omega⟩
   ·have hkk:k=t.size:=(by omega);have hbk:¬(k:Int)<(t.size:Int):=(by omega);have hnt:dG t=false:=by
     have q:=ah hno;rw[hkk,ag3 (by simp)]at q;unfold dG;rw[q,show decide (60<t.size)=false by simp;omega];rfl
    have HNT:=aj hnt;clear hnt hkk hno
    go_wp2_with fail
    refine ae3 (v:=.bool true) (by simp[results,results32,go_sem]) rfl ⟨by rw[ah HNT];rfl,hbw⟩
end Go.Proofs.YthcppbmkacbbiaaGreat
