import Derived.Test.YthcppbmkacbbiabGreatVBJ
import Derived.Test.YthcppbmkacbbiabGreatVBK
set_option linter.unusedSimpArgs false
namespace Go.Proofs.YthcppbmkacbbiabGreat
section
open Sat (View Rule og dN)
open au (Key put tV gV jn aB bJ fQ jD isAtom)
def Xm(τ:List Tr)(x:Nat):Bool:=match uS τ x with
 |some q=>q.1.2.1
 |none=>false
theorem afF{τ:List Tr}{x:Nat}{b:og}(h:bel τ x=some b):Xm τ x=b.1:=by
 unfold bel at h;unfold Xm;cases e:uS τ x with
 |none=>rw[e]at h;cases h
 |some q=>
  rw[e]at h;simp only[ay9,as4]at h;rw[<-h]
theorem afE{τ:List Tr}{U x:Nat}(hlt:∀q∈τ,q.1<U)(hx:U<=x):Xm τ x=false:=by
 have:uS τ x=none:=oW.2 (λh=>by
  obtain⟨q,hq,rfl⟩:=ap6.1 h;have:=hlt q hq;omega)
 unfold Xm;rw[this]
theorem Ye{τ:List Tr}{x:Nat}(h:sS τ x=true):∃b,bel τ x=some b/\b.1=Xm τ x:=by
 unfold sS at h;cases e:uS τ x with
 |none=>rw[e]at h;cases h
 |some q=>exact⟨(q.1.2.1,q.2,q.1.2.2.2),by simp[bel,e],by simp[Xm,e]⟩
theorem Kq{U:Nat}{aW ak:List Rule}{τ:List Tr}(hd:Sat.Done ak (bel τ))(hs:∀r∈aW,r∈ak)(hlt:∀r∈aW,∀u∈r,u.1<U)(aX:∀x,x<U->sS τ x=true):∀r∈aW,Sat.keeps (Xm τ) r:=by
 intro r hr;obtain⟨v,hv,b,I,M⟩|⟨u,hu,_,_,_,I,_⟩:=hd r (hs r hr)
 ·exact⟨v,hv,(afF I).trans M⟩
 ·obtain⟨b,M,_⟩:=Ye (aX u.1 (hlt r hr u hu));rw[M]at I;cases I
def GL(Us:Ai)(τ:List Tr)(x:Nat):List pV:=if isAtom (Us.getD x (0,0,0)).1=true then [(x,Xm τ x,Us.getD x (0,0,0))]else []
def Bv(Us:Ai)(τ:List Tr)(k:Nat):List pV:=(List.range k).flatMap (GL Us τ)
def jr(Us:Ai)(τ:List Tr):List pV:=Bv Us τ Us.length
theorem EP(Us:Ai)(τ:List Tr)(k:Nat):Bv Us τ (k+1)=Bv Us τ k++GL Us τ k:=by
 unfold Bv;rw[aA8,List.flatMap_append];simp
theorem abW(Us:Ai)(τ:List Tr)(x:Nat):(GL Us τ x).length<=1:=by
 unfold GL;split<;>simp
theorem yt(Us:Ai)(τ:List Tr):∀k,(Bv Us τ k).length<=k
 |0=>by simp[Bv]
 |k+1=>by
  have:=yt Us τ k;have:=abW Us τ k;rw[EP,ap4];omega
theorem Jl{Us:Ai}{τ:List Tr}{s:pV}:s∈jr Us τ↔∃h:s.1<Us.length,isAtom Us[s.1].1=true/\s.2.1=Xm τ s.1/\s.2.2=Us[s.1]:=by
 unfold jr Bv GL;rw[aw5];constructor
 ·rintro⟨x,hx,hs⟩;have hx:=as2.1 hx;rw[aU hx]at hs;split at hs
  ·rename_i ha;have e:=ap8.1 hs;subst e;exact⟨hx,ha,rfl,rfl⟩
  ·cases hs
 ·rintro⟨h,ha,e1,e2⟩;refine⟨s.1,as2.2 h,?_⟩;rw[aU h,ao4 ha,ap8,<-e1,<-e2]
theorem Vb(Us:Ai)(τ:List Tr):((jr Us τ).map (·.1)).Nodup:=by
 have key:∀k,((Bv Us τ k).map (·.1)).Nodup/\∀x∈(Bv Us τ k).map (·.1),x<k:=by
  intro k
  induction k with
  |zero=>exact⟨by simp[Bv],by simp[Bv]⟩
  |succ k ih=>
   rw[EP,au0];have ho:∀x∈(GL Us τ k).map (·.1),x=k:=by
    unfold GL;split<;>simp
   have hn:((GL Us τ k).map (·.1)).Nodup:=by
    unfold GL;split<;>simp
   refine⟨az1.2 ⟨ih.1,hn,λx hx y hy e=>?_⟩,λx hx=>?_⟩
   ·have I:=ih.2 x hx;have M:=ho y hy;omega
   ·obtain hx|hx:=aq7.1 hx
    ·have:=ih.2 x hx;omega
    ·have:=ho x hx;omega
 exact(key _).1
def rJ(ss:List pV)(n:Nat):List Bool:=ss.foldl (λh s=>if s.2.2.1=61 then h else h.set s.2.2.2.1 s.2.1) (List.replicate n false)
theorem O1(ss:List pV):∀h:List Bool,(ss.foldl (λh s=>if s.2.2.1=61 then h else h.set s.2.2.2.1 s.2.1) h).length=h.length:=by
 induction ss with
 |nil=>intro h;rfl
 |cons s ss ih=>
  intro h;rw[List.foldl_cons,ih];split<;>simp
theorem JF(ss:List pV)(n:Nat):(rJ ss n).length=n:=by
 unfold rJ;rw[O1];simp
theorem aaG{ss:List pV}{n k:Nat}(hk:k<ss.length):rJ (ss.take (k+1)) n=if ss[k].2.2.1=61 then rJ (ss.take k) n else(rJ (ss.take k) n).set ss[k].2.2.2.1 ss[k].2.1:=by
 unfold rJ;rw[aq3,an3 hk,az2];rfl
theorem O3{c:Nat}{bv:Bool}(ss:List pV):∀h:List Bool,c<h.length->(∀s∈ss,s.2.2.1≠61->s.2.2.2.1=c->s.2.1=bv)->(h.getD c false=bv\/∃s∈ss,s.2.2.1≠61/\s.2.2.2.1=c)->
  (ss.foldl (λh s=>if s.2.2.1=61 then h else h.set s.2.2.2.1 s.2.1) h).getD c false=bv:=by
 induction ss with
 |nil=>
  intro h _ _ M;obtain M|⟨s,hs,_⟩:=M
  ·exact M
  ·cases hs
 |cons s ss ih=>
  intro h hc I M;rw[List.foldl_cons];refine ih _ (by split<;>simpa using hc) (λt ht=>I t (List.mem_cons_of_mem _ ht)) ?_;by_cases e:s.2.2.1=61
  ·rw[ao4 e];obtain M|⟨t,ht,g1,g2⟩:=M
   ·exact Or.inl M
   ·obtain e2|ht:=ar9.1 ht
    ·subst e2;exact absurd e g1
    ·exact Or.inr ⟨t,ht,g1,g2⟩
  ·rw[an8 e];by_cases e2:s.2.2.2.1=c
   ·left;subst e2;rw[ao0,List.getElem?_set_self hc];exact I s R e rfl
   ·obtain M|⟨t,ht,g1,g2⟩:=M
    ·left;rw[ao0,List.getElem?_set_ne e2,<-ao0];exact M
    ·obtain e3|ht:=ar9.1 ht
     ·subst e3;exact absurd g2 e2
     ·exact Or.inr ⟨t,ht,g1,g2⟩
theorem SS{c n:Nat}{bv:Bool}{ss:List pV}(hc:c<n)(I:∀s∈ss,s.2.2.1≠61->s.2.2.2.1=c->s.2.1=bv)(M:bv=false\/∃s∈ss,s.2.2.1≠61/\s.2.2.2.1=c):(rJ ss n).getD c false=bv:=by
 refine O3 ss _ (by simpa using hc) I ?_;obtain M|M:=M
 ·left;rw[M,aU (by simpa using hc)];simp
 ·exact Or.inr M
def vsn(Us:Ai)(τ:List Tr)(p:Key):Bool:=Xm τ (Us.idxOf p)
theorem XP{Us:Ai}{τ:List Tr}{p:Key}(hlt:∀q∈τ,q.1<Us.length)(h:vsn Us τ p=true):p∈Us:=by
 refine aq4 λhn=>?_;unfold vsn at h;rw[as3 hn,afE hlt (an2 _)]at h;cases h
theorem Oz{Us:Ai}{τ:List Tr}{p:Key}(hp:p∈Us)(ha:isAtom p.1=true):(Us.idxOf p,vsn Us τ p,p)∈jr Us τ:=by
 have hl:=av2.2 hp;have e:Us[Us.idxOf p]=p:=ar8 hl;exact Jl.2 ⟨hl,by simp only[e];exact ha,rfl,e.symm⟩
theorem Bz{Us:Ai}{τ:List Tr}(hn:Us.Nodup){s:pV}(h:s∈jr Us τ):s.2.2∈Us/\isAtom s.2.2.1=true/\s.2.1=vsn Us τ s.2.2/\s.1=Us.idxOf s.2.2:=by
 obtain⟨hl,ha,I,M⟩:=Jl.1 h;have e:s.1=Us.idxOf s.2.2:=by
  rw[M];exact(hn.idxOf_getElem s.1 hl).symm
 refine⟨by rw[M];exact an5 hl,by rw[M];exact ha,?_,e⟩;unfold vsn;rw[I,<-e]
theorem Kw{nt:Nat}{cs:Ah}{ps:Ai}(hcs:∀x∈cs,(x.1=80\/x.1=81)/\x.2<nt){q:Key}(h:q∈oZ nt cs ps)(jP:q.1=61):q=(61,0,0)\/(q.2.1<q.2.2/\q.2.2<nt):=by
 unfold oZ at h;obtain h|h:=aq7.1 h
 ·obtain h|h:=aq7.1 h
  ·unfold sU at h;obtain h|h:=ar9.1 h
   ·exact Or.inl h
   ·obtain⟨y,hy,h⟩:=aw5.1 h;obtain⟨x,hx,rfl⟩:=ap6.1 h;exact Or.inr ⟨as2.1 hx,as2.1 hy⟩
  ·unfold wO at h;obtain⟨c,hc,rfl⟩:=ap6.1 h;have hc:=as2.1 hc;simp only[aU hc]at jP;have:=(hcs _ (an5 hc)).1;omega
 ·unfold DL at h;have:=(as6.1 h).2;rw[jP]at this;simp[aB]at this
theorem Ky{nt:Nat}{cs:Ah}{ps:Ai}{q:Key}(h:q∈oZ nt cs ps)(h8:q.1=80\/q.1=81):∃h:q.2.1<cs.length,q=(cs[q.2.1].1,q.2.1,0):=by
 unfold oZ at h;obtain h|h:=aq7.1 h
 ·obtain h|h:=aq7.1 h
  ·exfalso;unfold sU at h;obtain h|h:=ar9.1 h
   ·rw[h]at h8;simp at h8
   ·obtain⟨y,hy,h⟩:=aw5.1 h;obtain⟨x,hx,rfl⟩:=ap6.1 h;simp at h8
  ·unfold wO at h;obtain⟨c,hc,rfl⟩:=ap6.1 h;have hc:=as2.1 hc;exact⟨hc,by simp only[aU hc]⟩
 ·exfalso;unfold DL at h;have:=(as6.1 h).2;obtain e|e:=h8<;>(rw[e]at this;simp[aB]at this)
section
variable {Y:List Key} {cs:List (Int×Nat)} {ps Us:List Key} {aW ak:List Rule} {τ:List Tr}
theorem Zd(hi:bJ Y.length cs.length ps)(hk:jD cs ps)(h0:0<ps.length)(hn:0<Y.length)
 (ht:∀i (hi:i<Y.length),Y[i].2.1<Y.length/\Y[i].2.2<Y.length)(hcs:∀x∈cs,(x.1=80\/x.1=81)/\x.2<Y.length)
 (hP:vG Us aW (KG Y cs ps))(hc:∀p∈Us,p∈oZ Y.length cs ps)(hd:Sat.Done ak (bel τ))(hs:∀r∈aW,r∈ak)(aX:∀x,x<Us.length->sS τ x=true)(hlt:∀q∈τ,q.1<Us.length) :
  Om (cZ ((jr Us τ).map fM)) Y cs ps (rJ (jr Us τ) cs.length):=by
 have hkp:=Kq hd hs hP.lp.rg.lt aX;have hH:Hold (vsn Us τ) (KG Y cs ps):=(hP.lp.sem Us (av9 _) (Xm τ)).1 hkp;have hE:=hH;unfold KG at hE;rw[iY,iY,iY]at hE;obtain⟨e1,e2,e3⟩:=aks hE.1.1.2;have iL:=hP.lp.nodup;have aiM:isAtom 61=true:=ane
 refine UW hi hk h0 ht hcs hH (λa b ha hb=>⟨λh=>?_,λh=>?_⟩) (λc Fj=>?_)
 ·have hR:Eqv (λa b=>a=b\/(a<Y.length/\b<Y.length/\vsn Us τ (kF (dP a b))=true)):=by
   refine⟨λa=>Or.inl rfl,λa b h=>?_,λa b c h k=>?_⟩
   ·obtain h|⟨I,M,h3⟩:=h
    ·exact Or.inl h.symm
    ·exact Or.inr ⟨M,I,e2 _ _ h3⟩
   ·obtain rfl|⟨I,M,h3⟩:=h
    ·exact k
    ·obtain rfl|⟨k1,k2,k3⟩:=k
     ·exact Or.inr ⟨I,M,h3⟩
     ·exact Or.inr ⟨I,k2,e3 _ _ _ I M k2 h3 k3⟩
  have SE:∀p∈eqs ((jr Us τ).map fM),p.1<Y.length/\p.2<Y.length/\(p.1=p.2\/(p.1<Y.length/\p.2<Y.length/\vsn Us τ (kF (dP p.1 p.2))=true)):=λp hp=>by
   obtain⟨s,oI,su⟩:=ap6.1 (Ie.1 hp);obtain⟨g1,g2,g3,g4⟩:=Bz iL oI;have e4:s.2.2=(61,p):=ax1 Prod.fst su;have e5:s.2.1=true:=ax1 Prod.snd su;rw[e4]at g1 g3;rw[e5]at g3;obtain h|⟨h,h'⟩:=Kw hcs (hc _ g1) rfl
   ·have hp0:p=(0,0):=ax1 Prod.snd h;subst hp0;exact⟨hn,hn,Or.inl rfl⟩
   ·simp only at h h';refine⟨O,h',Or.inr ⟨O,h',?_⟩⟩;have:kF (dP p.1 p.2)=(61,p):=yg h;rw[this];exact g3.symm
  obtain e|⟨_,_,e⟩:=OQ hR (n:=Y.length) (f:=id) SE (λx y _ _ e=>Or.inl e) a b ha hb h
  ·subst e;exact e1 a
  ·exact e
 ·by_cases e:a=b
  ·subst e;rfl
  ·have hm:=XP hlt h;have key:∀x y,kF (dP a b)=(61,x,y)->cZ ((jr Us τ).map fM) x=cZ ((jr Us τ).map fM) y:=λx y e2=>by
    rw[e2]at hm h;have wu:=Oz (τ:=τ) hm aiM;rw[h]at wu;have:=Ju (f:=id) (Ie.2 (ap6.2 ⟨_,wu,rfl⟩:((61,(x,y)),true)∈(jr Us τ).map fM));exact this
   by_cases hab:a<b
   ·exact key a b (yg hab)
   ·exact(key b a (Df O)).symm
 ·refine SS Fj (λs oI jP hsc=>?_) ?_
  ·obtain⟨g1,g2,g3,g4⟩:=Bz iL oI;have h8:s.2.2.1=80\/s.2.2.1=81:=by
    simp only[isAtom,as7]at g2;omega
   obtain⟨q1,q2⟩:=Ky (hc _ g1) h8;rw[g3]
   congr 1
   rw[q2];simp only[hsc]
  ·by_cases hm:(cs[c].1,c,0)∈Us
   ·have h8:=(hcs _ (an5 Fj)).1;refine Or.inr ⟨_,Oz hm (by simp only[isAtom,as7];omega),by show cs[c].1≠61;omega,rfl⟩
   ·left;cases hv:vsn Us τ (cs[c].1,c,0)
    ·rfl
    ·exact absurd (XP hlt hv) hm
theorem SK{v:Key->Bool}{L:List (List dw)}(hP:vG Us aW L)(h:Hold v L):∀r∈aW,Sat.keeps (λx=>v (Us.getD x (0,0,0))) r:=by
 refine(hP.lp.sem Us (av9 _) (λx=>v (Us.getD x (0,0,0)))).2 (λc hc=>?_);obtain⟨l,hl,I⟩:=h c hc;refine⟨l,hl,?_⟩;unfold lv at I ⊢;have hm:=av2.2 (hP.mem c hc l hl);simp only;rw[aU hm,ar8 hm];exact I
theorem Zc(hi:bJ Y.length cs.length ps)(h0:0<ps.length)(hn:0<Y.length)
 (ht:∀i (hi:i<Y.length),Y[i].2.1<Y.length/\Y[i].2.2<Y.length)(hcs:∀x∈cs,(x.1=80\/x.1=81)/\x.2<Y.length)
 (hP:vG Us aW (KG Y cs ps))(ny:∀α:Nat->Bool,True->¬∀r∈aW,Sat.keeps α r):¬∃f hl,hl.length=cs.length/\Om f Y cs ps hl:=by
 rintro⟨f,hl,_,hm⟩;exact ny _ trivial (SK hP (VA hi h0 hn ht hcs hm))
end
end
section
open au (Key put tV gV jn aB bJ fQ jD)
open Nx
def Gz(f g:Nat->Nat)(n:Nat):Prop:=∀i j,i<n->j<n->(f i=f j↔g i=g j)
theorem Gz.symm{f g:Nat->Nat}{n:Nat}(h:Gz f g n):Gz g f n:=λi j hi hj=>(h i j hi hj).symm
theorem ZU{f g:Nat->Nat}{n:Nat}(h:Gz f g n):∀k,k<=n->(nums f k).length=(nums g k).length/\∀j,j<n->(nums f k).idxOf (f j)=(nums g k).idxOf (g j):=by
 intro k
 induction k with
 |zero=>intro _;exact⟨rfl,λj _=>rfl⟩
 |succ k ih=>
  intro hk;obtain⟨I,M⟩:=ih O;have fZ:f k∈nums f k↔g k∈nums g k:=by
   rw[jw,jw];constructor
   ·rintro⟨j,hj,e⟩;exact⟨j,hj,(h j k O O).1 e⟩
   ·rintro⟨j,hj,e⟩;exact⟨j,hj,(h j k O O).2 e⟩
  unfold nums put;by_cases hm:f k∈nums f k
  ·have hm':=fZ.1 hm;rw[ao4 (by simpa using hm),ao4 (by simpa using hm')];exact⟨I,M⟩
  ·have hm':g k∉nums g k:=λe=>hm (fZ.2 e);rw[an8 (by simpa using hm),an8 (by simpa using hm')];refine⟨by simp[I],λj hj=>?_⟩;rw[aw0,aw0];have hmj:f j∈nums f k↔g j∈nums g k:=by
    rw[jw,jw];constructor
    ·rintro⟨i,hi,e⟩;exact⟨i,hi,(h i j O hj).1 e⟩
    ·rintro⟨i,hi,e⟩;exact⟨i,hi,(h i j O hj).2 e⟩
   by_cases hj2:f j∈nums f k
   ·rw[ao4 hj2,ao4 (hmj.1 hj2),M j hj]
   ·rw[an8 hj2,an8 (λe=>hj2 (hmj.2 e)),I];by_cases e:f k=f j
    ·have e':=(h k j O hj).1 e;simp[e,e']
    ·have e':¬g k=g j:=λe2=>e ((h k j O hj).2 e2);have e3:(f k==f j)=false:=(by simpa using e);have e4:(g k==g j)=false:=(by simpa using e');simp[List.idxOf_cons,e3,e4]
theorem adQ{f g:Nat->Nat}{n:Nat}(h:Gz f g n):xu f n=xu g n:=by
 unfold xu;refine List.map_congr_left λt ht=>?_;have ht:=as2.1 ht;rw[(ZU h t O).2 t ht]
theorem ahT(f:Nat->Nat){n:Nat}(hn:n<=7):Gz (fi (xu f n)) f n:=by
 intro i j hi hj;have li:i<(xu f n).length:=by rw[Ec];exact hi
 have lj:j<(xu f n).length:=by rw[Ec];exact hj
 rw[Gt li lj];have ei:(xu f n)[i]=UInt8.ofNat (48+(nums f i).idxOf (f i)):=by
  have:=PL f n i hi;rw[an3 li]at this;simpa using this
 have ej:(xu f n)[j]=UInt8.ofNat (48+(nums f j).idxOf (f j)):=by
  have:=PL f n j hj;rw[an3 lj]at this;simpa using this
 rw[ei,ej,<-uw f i n hi,<-uw f j n hj];have mi:f i∈nums f n:=(jw f n _).2 ⟨i,hi,rfl⟩;have mj:f j∈nums f n:=(jw f n _).2 ⟨j,hj,rfl⟩;have l1:=av2.2 mi;have l2:=av2.2 mj;have l3:=nums_length f n;constructor
 ·intro e;have e2:=ax1 UInt8.toNat e;simp only[UInt8.toNat_ofNat']at e2;have e3:(nums f n).idxOf (f i)=(nums f n).idxOf (f j):=O
  have g1:=ar8 l1;have g2:=ar8 l2;rw[<-g1,<-g2];simp only[e3]
 ·intro e;rw[e]
theorem Q8{cl cl':List Int}{hl:List Bool}{nt nc:Nat}(hc:∀i j,i<nt->j<nt->(cl.getD i 0=cl.getD j 0↔cl'.getD i 0=cl'.getD j 0)):∀ps:Ai,(∀i (h:i<ps.length),fQ nt nc i ps[i])->gV cl hl ps=gV cl' hl ps:=by
 suffices H:∀n (ps:Ai),ps.length=n->(∀i (h:i<ps.length),fQ nt nc i ps[i])->gV cl hl ps=gV cl' hl ps from λps=>H _ ps rfl
 intro n
 induction n with
 |zero=>
  intro ps hn _;have:ps=[]:=aq9 hn;subst this;rfl
 |succ n ih=>
  intro ps hn iq;obtain⟨qs,q,rfl⟩:∃qs q,ps=qs++[q]:=⟨ps.dropLast,ps.getLast (by intro e;rw[e]at hn;simp at hn),(List.dropLast_concat_getLast _).symm⟩;have zM:qs.length=n:=by simpa using hn
  have ih1:=ih qs zM (λi h=>by have:=iq i anf;rwa [au6 h]at this);have hq:=iq qs.length R;simp at hq;rw[au.qV,au.qV,ih1]
  congr 2
  unfold tV;obtain⟨a,b,_⟩|⟨a,b,c⟩|⟨a,_,_⟩|⟨a,b,c⟩:=hq
  ·have I:q.1≠61:=O;rw[an8 I,an8 I]
  ·have I:q.1≠61:=(by intro e;rw[e]at a;simp[aB]at a);rw[an8 I,an8 I]
  ·have I:q.1≠61:=O;rw[an8 I,an8 I]
  ·rw[ao4 a,ao4 a,aB7];exact hc _ _ b c
theorem Om.same{f g:Nat->Nat}{Y:Ai}{cs:Ah}{ps:Ai}{hl:List Bool}(hi:bJ Y.length cs.length ps)(ht:∀i (hi:i<Y.length),Y[i].2.1<Y.length/\Y[i].2.2<Y.length)(hc:∀x∈cs,(x.1=80\/x.1=81)/\x.2<Y.length)(h:Om f Y cs ps hl)(hs:Gz f g Y.length):Om g Y cs ps hl:=by
 refine⟨?_,?_,?_⟩
 ·rw[qM];intro i j pI nR e1 e2 e3;obtain⟨a1,a2⟩:=ht i pI;obtain⟨b1,b2⟩:=ht j nR;exact(hs i j pI nR).1 ((qM f Y).1 h.Ue i j pI nR e1 ((hs _ _ a1 b1).2 e2) ((hs _ _ a2 b2).2 e3))
 ·rw[zZ];intro i j pI nR e1 e2;exact(zZ f cs hl).1 h.agr i j pI nR e1 ((hs _ _ (hc _ (an5 pI)).2 (hc _ (an5 nR)).2).2 e2)
 ·rw[Q8 (cl':=clf f Y.length) (λi j pI nR=>?_) ps hi.ok]
  ·exact h.Ou
  ·rw[pK g pI,pK g nR,pK f pI,pK f nR];have:=hs i j pI nR;omega
theorem row_mem(f:Nat->Nat):∀n k,((List.range' k n).map λt=>(nums f t).idxOf (f t))∈rws (nums f k).length n
 |0,k=>by simp[rws]
 |n+1,k=>by
  have ih:=row_mem f n (k+1);have e0:List.range' k (n+1)=k::List.range' (k+1) n:=List.range'_succ;unfold rws;rw[e0,ay3];refine aw5.2 ⟨(nums f k).idxOf (f k),?_,ap6.2 ⟨_,?_,rfl⟩⟩
  ·have:=aw3 (l:=nums f k) (a:=f k);simp;omega
  ·have e:max (nums f k).length ((nums f k).idxOf (f k)+1)=(nums f (k+1)).length:=by
    show _=(put (nums f k) (f k)).length
    unfold put;by_cases hm:f k∈nums f k
    ·rw[ao4 (by simpa using hm)];have:=av2.2 hm;omega
    ·rw[an8 (by simpa using hm),as3 hm];simp
   rw[e];exact ih
theorem Yd:∀(n:Nat) (l:List Bool),l.length=n->l∈sZ n
 |0,l,h=>by
  have:l=[]:=aq9 h;subst this;simp[sZ]
 |n+1,l,h=>by
  cases l with
  |nil=>simp at h
  |cons b l=>
   have ih:=Yd n l (by simpa using h);unfold sZ;cases b
   ·exact as9 _ (ap6.2 ⟨l,ih,rfl⟩)
   ·exact aA1 _ (ap6.2 ⟨l,ih,rfl⟩)
theorem Zl{α:Type}{L:List α}{g:α->Nat}{x:α}(hx:x∈L)(h:g x≠0):sumTo L g L.length≠0:=by
 unfold sumTo;rw[ar7];intro e;exact h (List.sum_eq_zero_iff_forall_eq_nat.1 e _ (ap6.2 ⟨x,hx,rfl⟩))
theorem U6{α:Type}{L:List α}{g:α->Nat}(h:sumTo L g L.length≠0):∃x∈L,g x≠0:=by
 refine aq4 λhn=>h ?_;unfold sumTo;rw[ar7];refine List.sum_eq_zero_iff_forall_eq_nat.2 λy hy=>?_;obtain⟨x,hx,rfl⟩:=ap6.1 hy;exact aq4 λe=>hn ⟨x,hx,e⟩
end
open au (Key put tV gV jn aB bJ fQ jD Inv kD texts)
open Nx
def rowOf(f:Nat->Nat)(n:Nat):List Nat:=(List.range' 0 n).map λt=>(nums f t).idxOf (f t)
theorem uh(f:Nat->Nat)(n:Nat):(rowOf f n).length=n:=by simp[rowOf]
theorem QY(f:Nat->Nat){n i:Nat}(h:i<n):(rowOf f n)[i]'(by rw[uh];exact h)=(nums f i).idxOf (f i):=by simp[rowOf]
theorem ahS(f:Nat->Nat)(n:Nat):Gz (fi (rowOf f n)) f n:=by
 intro i j hi hj;rw[Gt (by rw[uh];exact hi) (by rw[uh];exact hj),QY f hi,QY f hj,<-uw f i n hi,<-uw f j n hj];have mi:f i∈nums f n:=(jw f n _).2 ⟨i,hi,rfl⟩;have mj:f j∈nums f n:=(jw f n _).2 ⟨j,hj,rfl⟩;have l1:=av2.2 mi;have l2:=av2.2 mj;constructor
 ·intro e3;have g1:=ar8 l1;have g2:=ar8 l2;rw[<-g1,<-g2];simp only[e3]
 ·intro e;rw[e]
theorem Ot{f:Nat->Nat}{cl:List Int}{hl:List Bool}{nt nc:Nat}{ps:Ai}(hi:bJ nt nc ps)(hc:∀i j,i<nt->j<nt->(f i=f j↔cl.getD i 0=cl.getD j 0)):gV cl hl ps=gV (clf f nt) hl ps:=by
 refine Q8 (nt:=nt) (nc:=nc) (λi j I M=>?_) ps hi.ok;rw[pK f I,pK f M,<-hc i j I M];omega
section
variable {s:ByteArray} {Y:List Key} {cs:List (Int×Nat)} {ps:List Key}
theorem Xi(h4:cs.length<=4)(qj:bJ Y.length cs.length ps)(ht:∀i (hi:i<Y.length),Y[i].2.1<Y.length/\Y[i].2.2<Y.length)(hc:∀x∈cs,(x.1=80\/x.1=81)/\x.2<Y.length) :
  Uh Y cs ps≠0↔∃f hl,hl.length=cs.length/\Om f Y cs ps hl:=by
 constructor
 ·intro h;obtain⟨row,hr,I⟩:=U6 h;have OW:=vO _ _ row hr;unfold A8 at I;by_cases zN:∀p∈bI (mkd (fi row) Y) Y.length,fi row p.1=fi row p.2
  ·rw[ao4 zN]at I;obtain⟨k,hk,M⟩:=List.countP_pos_iff.1 (Nat.pos_of_ne_zero I);unfold aa8 at M;simp only[ax0,as7]at M;refine⟨fi row,tv cs.length k,iT _ _,zN,M.1,?_⟩;rw[<-Ot qj (λi j I M=>Iz row i j O O)];exact M.2
  ·rw[an8 zN]at I;exact absurd rfl I
 ·rintro⟨f,hl,hlen,hm⟩;have tC:=hm.same qj ht hc (ahS f Y.length).symm;have fZ:rowOf f Y.length∈rws 0 Y.length:=row_mem f Y.length 0;refine Zl fZ ?_;unfold A8;have zN:∀p∈bI (mkd (fi (rowOf f Y.length)) Y) Y.length,fi (rowOf f Y.length) p.1=fi (rowOf f Y.length) p.2:=tC.Ue;rw[ao4 zN];have hb:=Yd cs.length hl hlen;have fF:=(XQ h4).mem_iff.1 hb;obtain⟨k,hk,e⟩:=ap6.1 fF;refine Nat.pos_iff_ne_zero.1 (List.countP_pos_iff.2 ⟨k,hk,?_⟩);unfold aa8;simp only[ax0,as7];rw[e];refine⟨tC.agr,?_⟩;rw[Ot qj (λi j I M=>Iz _ i j (by rw[uh];omega) (by rw[uh];omega))];exact tC.Ou
theorem aeB(h7:Y.length<=7)(qj:bJ Y.length cs.length ps)(ht:∀i (hi:i<Y.length),Y[i].2.1<Y.length/\Y[i].2.2<Y.length)(hc:∀x∈cs,(x.1=80\/x.1=81)/\x.2<Y.length)
 {f:Nat->Nat}{hl:List Bool}(hlen:hl.length=cs.length)(hm:Om f Y cs ps hl):hld ⟨(wrt f Y.length hl).toArray⟩ Y cs ps (dig ⟨(wrt f Y.length hl).toArray⟩ Y.length)=(true,0):=by
 have Tq:(xu f Y.length).length=Y.length:=Ec _ _;have eH:(⟨(wrt f Y.length hl).toArray⟩:ByteArray).size=Y.length+1+cs.length:=by
  show(wrt f Y.length hl).toArray.size=_
  simp[wrt,bits,Tq,hlen]
  try omega
 have kT:(wrt f Y.length hl).take Y.length=xu f Y.length:=by
  unfold wrt;rw[at1,List.take_append_of_le_length O,aq5 O]
 have hhl:hlo ⟨(wrt f Y.length hl).toArray⟩ Y.length cs.length=hl:=by
  rw[SV _ _ _ eH]
  show((wrt f Y.length hl).drop (Y.length+1)).map _=_
  unfold wrt;rw[List.drop_append,List.drop_eq_nil_of_le (by simp[Tq])];simp only[ap4,Tq,au7,Nat.sub_self,List.drop_zero,ao8];unfold bits;rw[List.map_map]
  conv=>rhs;rw[<-List.map_id hl]
  refine List.map_congr_left λb _=>?_;cases b<;>rfl
 have gW:=ahT f h7;have tC:=hm.same qj ht hc gW.symm;unfold hld
 show(if _/\wrt (fi ((wrt f Y.length hl).take Y.length)) Y.length _=wrt f Y.length hl then(isM (fi ((wrt f Y.length hl).take Y.length)) _ _ _ _ _,(0:Int))else _)=_
 rw[kT,hhl];have hw:wrt (fi (xu f Y.length)) Y.length hl=wrt f Y.length hl:=by
  unfold wrt;rw[adQ gW]
 rw[ao4 ⟨eH,hw⟩];have hM:isM (fi (xu f Y.length)) Y cs ps (dig ⟨(wrt f Y.length hl).toArray⟩ Y.length) hl=true:=by
  unfold isM;simp only[ax0,as7];refine⟨⟨tC.Ue,tC.agr⟩,?_⟩;have iy:∀i j,i<Y.length->j<Y.length->(fi ((wrt f Y.length hl).take Y.length) i=fi ((wrt f Y.length hl).take Y.length) j↔_):=WW ⟨(wrt f Y.length hl).toArray⟩ Y.length cs.length eH;rw[kT]at iy;rw[Ot qj iy];exact tC.Ou
 rw[hM]
theorem Y9(hR:au.lG (pk s) (s.size+1) 0 0 [] [] []=.ok (s.size,Y,cs,ps,ps.length-1))(h7:Y.length<=7)(hi:Inv Y)(Bd:kD Y cs)(qj:bJ Y.length cs.length ps)(ht:∀i (hi:i<Y.length),Y[i].2.1<Y.length/\Y[i].2.2<Y.length)(hc:∀x∈cs,(x.1=80\/x.1=81)/\x.2<Y.length)
 {f:Nat->Nat}{hl:List Bool}(hlen:hl.length=cs.length)(hm:Om f Y cs ps hl):OB s ⟨(wrt f Y.length hl).toArray⟩ (texts Y) (ctx Y cs)=(true,0):=by
 rw[SX s _ Y cs ps hR h7 hi Bd];exact aeB h7 qj ht hc hlen hm
end
end Go.Proofs.YthcppbmkacbbiabGreat
