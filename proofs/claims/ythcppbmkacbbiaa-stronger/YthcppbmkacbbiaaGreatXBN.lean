import Derived.Test.YthcppbmkacbbiaaGreatXBM
import Derived.Lib.SliceRun
import Derived.BigFrame
set_option linter.unusedSimpArgs false
set_option maxHeartbeats 4000000
set_option maxRecDepth 100000
namespace Go.Proofs.YthcppbmkacbbiaaGreat
open Go.Proofs.Tryz
section
open Sat (View Rule je bG)
open aB (Key put lD dR jn au aO dF fA isAtom)
def IC(τ:List Tr)(x:Nat):Bool:=match lZ τ x with
 |some q=>q.1.2.1
 |none=>false
theorem TS{τ:List Tr}{x:Nat}{b:je}(h:bel τ x=some b):IC τ x=b.1:=by
 unfold bel at h;unfold IC;cases e:lZ τ x with
 |none=>rw[e]at h;cases h
 |some q=>
  rw[e]at h;simp only[an3,ag8]at h;rw[<-h]
theorem TR{τ:List Tr}{U x:Nat}(hlt:∀q∈τ,q.1<U)(hx:U<=x):IC τ x=false:=by
 have:lZ τ x=none:=jq.2 (λh=>by
  obtain⟨q,hq,rfl⟩:=ad9.1 h;have:=hlt q hq;omega)
 unfold IC;rw[this]
theorem Ji{τ:List Tr}{x:Nat}(h:kT τ x=true):∃b,bel τ x=some b/\b.1=IC τ x:=by
 unfold kT at h;cases e:lZ τ x with
 |none=>rw[e]at h;cases h
 |some q=>exact⟨(q.1.2.1,q.2,q.1.2.2.2),by simp[bel,e],by simp[IC,e]⟩
theorem y5{U:Nat}{aJ ak:List Rule}{τ:List Tr}(hd:Sat.Done ak (bel τ))(hs:∀r∈aJ,r∈ak)(hlt:∀r∈aJ,∀u∈r,u.1<U)(hall:∀x,x<U->kT τ x=true):∀r∈aJ,Sat.keeps (IC τ) r:=by
 intro r hr;rcases hd r (hs r hr)with⟨v,hv,b,h1,h2⟩|⟨u,hu,_,_,_,h1,_⟩
 ·exact⟨v,hv,(TS h1).trans h2⟩
 ·obtain⟨b,h2,_⟩:=Ji (hall u.1 (hlt r hr u hu));rw[h2]at h1;cases h1
def wH(Us:List Key)(τ:List Tr)(x:Nat):List jB:=if isAtom (Us.getD x (0,0,0)).1=true then [(x,IC τ x,Us.getD x (0,0,0))]else []
def qR(Us:List Key)(τ:List Tr)(k:Nat):List jB:=(List.range k).flatMap (wH Us τ)
def eU(Us:List Key)(τ:List Tr):List jB:=qR Us τ Us.length
theorem uq(Us:List Key)(τ:List Tr)(k:Nat):qR Us τ (k+1)=qR Us τ k++wH Us τ k:=by
 unfold qR;rw[ao1,List.flatMap_append];simp
theorem NK(Us:List Key)(τ:List Tr)(x:Nat):(wH Us τ x).length<=1:=by
 unfold wH;split<;>simp
theorem oM(Us:List Key)(τ:List Tr):∀k,(qR Us τ k).length<=k
 |0=>by simp[qR]
 |k+1=>by
  have:=oM Us τ k;have:=NK Us τ k;rw[uq,ae0];omega
theorem yj{Us:List Key}{τ:List Tr}{s:jB}:s∈eU Us τ↔∃h:s.1<Us.length,isAtom Us[s.1].1=true/\s.2.1=IC τ s.1/\s.2.2=Us[s.1]:=by
 unfold eU qR wH;rw[aj6];constructor
 ·rintro⟨x,hx,hs⟩;have hx:=ah2.1 hx;rw[aG hx]at hs;split at hs
  ·rename_i ha;have e:=ad8.1 hs;subst e;exact⟨hx,ha,rfl,rfl⟩
  ·cases hs
 ·rintro⟨h,ha,e1,e2⟩;refine⟨s.1,ah2.2 h,?_⟩;rw[aG h,ad3 ha,ad8,<-e1,<-e2]
theorem F5(Us:List Key)(τ:List Tr):((eU Us τ).map (·.1)).Nodup:=by
 have key:∀k,((qR Us τ k).map (·.1)).Nodup/\∀x∈(qR Us τ k).map (·.1),x<k:=by
  intro k
  induction k with
  |zero=>exact⟨by simp[qR],by simp[qR]⟩
  |succ k ih=>
   rw[uq,ai5];have ho:∀x∈(wH Us τ k).map (·.1),x=k:=by
    unfold wH;split<;>simp
   have hn:((wH Us τ k).map (·.1)).Nodup:=by
    unfold wH;split<;>simp
   refine⟨al4.2 ⟨ih.1,hn,λx hx y hy e=>?_⟩,λx hx=>?_⟩
   ·have h1:=ih.2 x hx;have h2:=ho y hy;omega
   ·rcases ae6.1 hx with hx|hx
    ·have:=ih.2 x hx;omega
    ·have:=ho x hx;omega
 exact(key _).1
def kJ(ss:List jB)(n:Nat):List Bool:=ss.foldl (λh s=>if s.2.2.1=61 then h else h.set s.2.2.2.1 s.2.1) (List.replicate n false)
theorem BO(ss:List jB):∀h:List Bool,(ss.foldl (λh s=>if s.2.2.1=61 then h else h.set s.2.2.2.1 s.2.1) h).length=h.length:=by
 induction ss with
 |nil=>intro h;rfl
 |cons s ss ih=>
  intro h;rw[List.foldl_cons,ih];split<;>simp
theorem yE(ss:List jB)(n:Nat):(kJ ss n).length=n:=by
 unfold kJ;rw[BO];simp
theorem LW{ss:List jB}{n k:Nat}(hk:k<ss.length):kJ (ss.take (k+1)) n=if ss[k].2.2.1=61 then kJ (ss.take k) n else(kJ (ss.take k) n).set ss[k].2.2.2.1 ss[k].2.1:=by
 unfold kJ;rw[af6,ab4 hk,al5];rfl
theorem BQ{c:Nat}{bv:Bool}(ss:List jB):∀h:List Bool,c<h.length->(∀s∈ss,s.2.2.1≠61->s.2.2.2.1=c->s.2.1=bv)->(h.getD c false=bv\/∃s∈ss,s.2.2.1≠61/\s.2.2.2.1=c)->
  (ss.foldl (λh s=>if s.2.2.1=61 then h else h.set s.2.2.2.1 s.2.1) h).getD c false=bv:=by
 induction ss with
 |nil=>
  intro h _ _ h2;rcases h2 with h2|⟨s,hs,_⟩
  ·exact h2
  ·cases hs
 |cons s ss ih=>
  intro h hc h1 h2;rw[List.foldl_cons];refine ih _ (by split<;>simpa using hc) (λt ht=>h1 t (List.mem_cons_of_mem _ ht)) ?_;by_cases e:s.2.2.1=61
  ·rw[ad3 e];rcases h2 with h2|⟨t,ht,g1,g2⟩
   ·exact Or.inl h2
   ·rcases ag1.1 ht with e2|ht
    ·subst e2;exact absurd e g1
    ·exact Or.inr ⟨t,ht,g1,g2⟩
  ·rw[ac2 e];by_cases e2:s.2.2.2.1=c
   ·left;subst e2;rw[ad4,List.getElem?_set_self hc];exact h1 s (by simp) e rfl
   ·rcases h2 with h2|⟨t,ht,g1,g2⟩
    ·left;rw[ad4,List.getElem?_set_ne e2,<-ad4];exact h2
    ·rcases ag1.1 ht with e3|ht
     ·subst e3;exact absurd g2 e2
     ·exact Or.inr ⟨t,ht,g1,g2⟩
theorem ES{c n:Nat}{bv:Bool}{ss:List jB}(hc:c<n)(h1:∀s∈ss,s.2.2.1≠61->s.2.2.2.1=c->s.2.1=bv)(h2:bv=false\/∃s∈ss,s.2.2.1≠61/\s.2.2.2.1=c):(kJ ss n).getD c false=bv:=by
 refine BQ ss _ (by simpa using hc) h1 ?_;rcases h2 with h2|h2
 ·left;rw[h2,aG (by simpa using hc)];simp
 ·exact Or.inr h2
def Q7(Us:List Key)(τ:List Tr)(p:Key):Bool:=IC τ (Us.idxOf p)
theorem IW{Us:List Key}{τ:List Tr}{p:Key}(hlt:∀q∈τ,q.1<Us.length)(h:Q7 Us τ p=true):p∈Us:=by
 refine af2 λhn=>?_;unfold Q7 at h;rw[ag0 hn,TR hlt (ab3 _)]at h;cases h
theorem Bq{Us:List Key}{τ:List Tr}{p:Key}(hp:p∈Us)(ha:isAtom p.1=true):(Us.idxOf p,Q7 Us τ p,p)∈eU Us τ:=by
 have hl:=ai2.2 hp;have e:Us[Us.idxOf p]=p:=af5 hl;exact yj.2 ⟨hl,by simp only[e];exact ha,rfl,e.symm⟩
theorem qW{Us:List Key}{τ:List Tr}(hn:Us.Nodup){s:jB}(h:s∈eU Us τ):s.2.2∈Us/\isAtom s.2.2.1=true/\s.2.1=Q7 Us τ s.2.2/\s.1=Us.idxOf s.2.2:=by
 obtain⟨hl,ha,h1,h2⟩:=yj.1 h;have e:s.1=Us.idxOf s.2.2:=by
  rw[h2];exact(hn.idxOf_getElem s.1 hl).symm
 refine⟨by rw[h2];exact ab5 hl,by rw[h2];exact ha,?_,e⟩;unfold Q7;rw[h1,<-e]
end
section
open aB (Key put dF au isAtom cnt aO fA)
def kV(nt:Nat):List Key:=(61,0,0)::(List.range nt).flatMap λy=>(List.range y).map λx=>(61,x,y)
def ng(cs:List (Int×Nat)):List Key:=(List.range cs.length).map λc=>((cs.getD c (0,0)).1,c,0)
def sO(ps:List Key):List Key:=ps.filter λq=>au q.1
def jr(nt:Nat)(cs:List (Int×Nat))(ps:List Key):List Key:=kV nt++ng cs++sO ps
def nK(ps:List Key):List Key:=ps.filter λq=>au q.1||isAtom q.1
theorem E9{nt:Nat}(h:nt<=7):(kV nt).length<=22:=by
 have key:∀k,k<=7->((List.range k).flatMap λy=>(List.range y).map λx=>((61,x,y):Key)).length<=k*(k-1)/2:=by
  intro k hk
  match k,hk with
  |0,_=>decide
  |1,_=>decide
  |2,_=>decide
  |3,_=>decide
  |4,_=>decide
  |5,_=>decide
  |6,_=>decide
  |7,_=>decide
 have h1:=key nt h;have h2:nt*(nt-1)/2<=21:=by
  match nt,h with
  |0,_=>decide
  |1,_=>decide
  |2,_=>decide
  |3,_=>decide
  |4,_=>decide
  |5,_=>decide
  |6,_=>decide
  |7,_=>decide
 unfold kV;rw[ab9];omega
theorem vU{nt a b:Nat}(ha:a<nt)(hb:b<nt):fZ (61,a,b)∈kV nt:=by
 unfold kV;by_cases e:a=b
 ·subst e;rw[oJ];simp
 ·by_cases h:a<b
  ·rw[oI h];refine List.mem_cons_of_mem _ (aj6.2 ⟨b,ah2.2 hb,ad9.2 ⟨a,ah2.2 h,rfl⟩⟩)
  ·have h':b<a:=(by omega);rw[rW h'];refine List.mem_cons_of_mem _ (aj6.2 ⟨a,ah2.2 ha,ad9.2 ⟨b,ah2.2 h',rfl⟩⟩)
theorem vZ{cs:List (Int×Nat)}{c:Nat}(h:c<cs.length):(cs[c].1,c,0)∈ng cs:=by
 refine ad9.2 ⟨c,ah2.2 h,?_⟩;rw[aG h]
theorem AZ{nt:Nat}{cs:List (Int×Nat)}{ps:List Key}(h7:nt<=7)(h4:cs.length<=4)(hj:6*cnt au ps+3<=100):(jr nt cs ps).length<=42:=by
 have h1:=E9 h7;have h2:(ng cs).length=cs.length:=by simp[ng]
 have h3:(sO ps).length=cnt au ps:=by
  unfold sO cnt;rw[List.countP_eq_length_filter]
 unfold jr;rw[ae0,ae0];omega
theorem MS{ps:List Key}(hj:3*(cnt au ps+cnt isAtom ps)<=100):(nK ps).length<=33:=by
 have h:(nK ps).length<=cnt au ps+cnt isAtom ps:=by
  unfold nK cnt
  induction ps with
  |nil=>simp
  |cons q ps ih=>
   have hp:3*(cnt au ps+cnt isAtom ps)<=100:=by
    unfold cnt at hj ⊢;rw[ao0,ao0]at hj;omega
   have:=ih hp;rw[List.filter_cons,ao0,ao0];cases h1:au q.1<;>cases h2:isAtom q.1<;>simp<;>omega
 omega
theorem DJ{f:Key->Key}{Us ps aN:List Key}(h0:∀p∈Us,p∈aN)(h:∀q∈ps,q.1≠33->f q∈aN):∀k,∀p∈mM f Us ps k,p∈aN:=by
 intro k
 induction k with
 |zero=>simpa[mM]using h0
 |succ k ih=>
  by_cases hk:k<ps.length
  ·rw[lF hk];unfold CY;by_cases e:ps[k].1=33
   ·rw[ad3 e];exact ih
   ·rw[ac2 e];exact Ed ih (h _ (ab5 hk) e)
  ·have:mM f Us ps (k+1)=mM f Us ps k:=by
    unfold mM;rw[ag3 (by omega),ag3 (by omega)]
   rw[this];exact ih
theorem Eh{nt:Nat}{cs:List (Int×Nat)}{ps:List Key}(hi:aO nt cs.length ps)(hk:fA cs ps):∀q∈ps,q.1≠33->fZ q∈jr nt cs ps:=by
 intro q hq h33;obtain⟨i,hlt,e⟩:=ag2 hq;have ho:=hi.ok i hlt;rw[e]at ho;unfold jr;rcases ho with⟨a,_⟩|⟨a,_⟩|⟨a,b,c⟩|⟨a,b,c⟩
 ·exact absurd a h33
 ·rw[eH.other q (by intro e;rw[e]at a;simp[au]at a)];exact am2 _ (ag5.2 ⟨hq,a⟩)
 ·rw[eH.other q (by omega)];obtain⟨h1,h2⟩:=hk.letter q hq a;have:=vZ h1;have eq:q=(cs[q.2.1].1,q.2.1,0):=by rw[h2,<-c]
  rw[<-eq]at this;exact ag7 _ (am2 _ this)
 ·have eq:q=(61,q.2.1,q.2.2):=by rw[<-a]
  rw[eq];exact ag7 _ (ag7 _ (vU b c))
theorem Ef{nt nc:Nat}{ps:List Key}(hi:aO nt nc ps):∀q∈ps,q.1≠33->id q∈nK ps:=by
 intro q hq h33;obtain⟨i,hlt,e⟩:=ag2 hq;have ho:=hi.ok i hlt;rw[e]at ho;refine ag5.2 ⟨hq,?_⟩;rcases ho with⟨a,_⟩|⟨a,_⟩|⟨a,b,c⟩|⟨a,b,c⟩
 ·exact absurd a h33
 ·simp[a]
 ·have:isAtom q.1=true:=by rcases a with a|a<;>(rw[a];decide)
  simp[this]
 ·have:isAtom q.1=true:=by rw[a];decide
  simp[this]
theorem IZ(nt:Nat):Ub fZ (pI nt) nt:=by
 refine⟨λp h=>h,λa b ha hb=>?_,λp h=>eH.other p h⟩;by_cases e:a=b
 ·subst e;exact⟨0,0,oJ a,by omega,by omega,oJ 0⟩
 ·by_cases h:a<b
  ·exact⟨a,b,oI h,ha,hb,oI h⟩
  ·have h':b<a:=(by omega);exact⟨b,a,rW h',hb,ha,oI h'⟩
theorem UO(dom:Key->Prop)(nt:Nat)(hd:∀p,dom p):Ub id dom nt:=
 ⟨λp _=>hd p,λa b ha hb=>⟨a,b,rfl,ha,hb,rfl⟩,λ_ _=>rfl⟩
end
section
open Go.RowKit Go.Maps Go.WideMaps
open aB (Key put)
attribute [local go_sem] Oper.semAt_some
structure Ug(ts:List Key)(f f':Nat->Nat):Prop where
 roots:iG f' ts.length
 Xr:∀a b,f a=f b->f' a=f' b
 least:∀R:Nat->Nat->Prop,WU R->uf R ts->(∀a b,a<ts.length->b<ts.length->f a=f b->R a b)->∀a b,a<ts.length->b<ts.length->f' a=f' b->R a b
theorem Ug.start{ts:List Key}{f:Nat->Nat}(h:iG f ts.length):Ug ts f f:=⟨h,λ_ _ e=>e,λ_ _ _ h=>h⟩
theorem Gm{f:Nat->Nat}{ts:List Key}:∀p∈aY (mkd f ts) ts.length,p.1<ts.length/\p.2<ts.length:=λp hp=>by
 have h:=(iM (mkd f ts) ts.length (by rw[aU];exact ab3 _) p).1 hp;exact⟨by omega,h.1⟩
theorem Ug.step{ts:List Key}{f f':Nat->Nat}(h:Ug ts f f')(ht:∀i (hi:i<ts.length),ts[i].2.1<ts.length/\ts[i].2.2<ts.length):Ug ts f (iH f' (aY (mkd f' ts) ts.length)):=by
 refine⟨h.roots.iH (λp hp=>(Gm p hp).1),λa b e=>EH (h.Xr a b e),λR hR hC hf=>?_⟩;have h2:=h.least R hR hC hf;exact BL hR (λp hp=>N7 hC ht h2 p hp) h2
theorem Ug.closed{ts:List Key}{f f':Nat->Nat}(h:Ug ts f f')(hc:wE f' ts):Closed ts f f':=⟨h.roots,hc,h.Xr,h.least⟩
theorem D8{n:Nat}{l:List (Nat×Nat)}:∀{f:Nat->Nat},iG f n->(∀p∈l,p.1<n/\p.2<n)->rts (iH f l) n<=rts f n:=by
 induction l with
 |nil=>intro f _ _;exact ab3 _
 |cons p l ih=>
  intro f h hl;have h1:=hl p (by simp);have h2:=ih (h.nJ (j:=p.2) h1.1) (λq hq=>hl q (by simp[hq]));have h3:=F6 h h1.1 h1.2;exact ad6 h2 h3
theorem vG{n:Nat}{l:List (Nat×Nat)}:∀{f:Nat->Nat},iG f n->(∀p∈l,p.1<n/\p.2<n)->(∃p∈l,f p.1≠f p.2)->rts (iH f l) n+1<=rts f n:=by
 induction l with
 |nil=>intro f _ _ ⟨p,hp,_⟩;cases hp
 |cons p l ih=>
  intro f h hl ⟨q,hq,hne⟩;have h1:=hl p (by simp);have h2:∀q∈l,q.1<n/\q.2<n:=λq hq=>hl q (by simp[hq]);by_cases e:f p.1=f p.2
  ·have e1:iH f (p::l)=iH f l:=by
    show iH (nJ f p.1 p.2) l=iH f l
    rw[pq e]
   rw[e1];rcases ag1.1 hq with e2|hq
   ·subst e2;exact absurd e hne
   ·exact ih h h2 ⟨q,hq,hne⟩
  ·have h3:=D8 (h.nJ (j:=p.2) h1.1) h2;have h4:=wS h h1.1 h1.2 e
   show rts (iH (nJ f p.1 p.2) l) n+1<=rts f n
   omega
theorem gJ.Xl{W:World}{b n c:Nat}{f:Nat->Nat}(h:gJ W b f n c):∃o:Obj,W.heap[b]?=some o/\∀c t fz,o≠.cells c t fz:=by
 obtain⟨g,d,⟨D,nn,_,⟨es,clock,h1,_⟩,_⟩,_⟩:=h;exact⟨_,h1,λ_ _ _ e=>by cases e⟩
def mkD(D:Nat):Deferred:={target:=.collected D,args:=#[]}
theorem vM{F:Fence}{n:Nat}{P:Program}{fn:Func}{tmps:Array Value}{R:Ending->World->Prop}:∀(Ds:List Nat) (W:World),Ds.Nodup->(∀D∈Ds,W.heap[D]?=some (.deferred (some [])))->
  (∀W',But (λk=>k∈Ds) W W'->LeavesInM F n P fn tmps R [] .returning W')->LeavesInM F n P fn tmps R (Ds.map mkD) .returning W
 |[],W,_,_,h=>h W (But.refl _ _)
 |D::Ds,W,hn,hd,h=>by
  have hn':=List.nodup_cons.1 hn;refine⟨by simp,.inl ⟨D,W.putObj D (.deferred none),rfl,ah8 (hd D (by simp)),?_⟩⟩;have hb:But (λk=>some k=some D) W (W.putObj D (.deferred none)):=But.aA (ai9 _ D _);refine vM Ds _ hn'.2 (λE hE=>?_) (λW' hW'=>h W' ?_)
  ·have hne:E≠D:=λe=>hn'.1 (e▸hE);rw[ad7 hne];exact hd E (by simp[hE])
  ·exact(hb.mono (λk _ e=>by cases e;simp)).trans (hW'.mono (λk _ e=>by simp[e]))
structure CL(w:World)(ts:List Key)(f':Nat->Nat)(b GT GC GP nc np:Nat)(Ds:List Nat)(W:World):Prop where
 m:∃c,gJ W b f' ts.length c/\c+rts f' ts.length<=ts.length
 but:But (λk=>k=b) w W
 x0:W.heap[w.heap.size]?=some (.cells #[.slice (some ⟨GT,0,none⟩) ts.length ts.length,.slice (some ⟨GC,0,none⟩) nc nc,.slice (some ⟨GP,0,none⟩) np np] 54 (0,0))
 x1:W.heap[w.heap.size+1]?=some (.cells #[.map (some b)] 98 (0,0))
 ds:∀D∈Ds,W.heap[D]?=some (.deferred (some []))
 lo:∀D∈Ds,w.heap.size<=D
theorem CL.grow{w:World}{ts:List Key}{f':Nat->Nat}{b GT GC GP nc np:Nat}{Ds:List Nat}{W W':World}(h:CL w ts f' b GT GC GP nc np Ds W)(hg:W.grownBy W' none):CL w ts f' b GT GC GP nc np Ds W':=by
 obtain⟨c,h1,h2⟩:=h.m;have k:∀(j:Nat) (o:Obj),W.heap[j]?=some o->W'.heap[j]?=some o:=λj o hj=>(hg.block j (ab1.1 hj).1 (by simp)).trans hj;exact⟨⟨c,h1.kept (hg.block b h1.lt (by simp)),h2⟩,h.but.then (But.aA hg) (λi _ e=>by cases e),k _ _ h.x0,k _ _ h.x1,λD hD=>k _ _ (h.ds D hD),h.lo⟩
theorem CL.keep{w:World}{ts:List Key}{f':Nat->Nat}{b GT GC GP nc np:Nat}{Ds:List Nat}{W W':World}{row:Option Nat}{B:Nat}(h:CL w ts f' b GT GC GP nc np Ds W)(hg:W.grownBy W' row)(hb:b<B)(hw:w.heap.size+1<B)(hD:∀D∈Ds,D<B)
 (hr:∀r,row=some r->B<=r/\∃o:Obj,W.heap[r]?=some o/\o.isCells=false):CL w ts f' b GT GC GP nc np Ds W':=by
 obtain⟨c,h1,h2⟩:=h.m;have k:∀j,j<B->j<W.heap.size->W'.heap[j]?=W.heap[j]?:=λj hj hl=>hg.block j hl (λe=>by have:=(hr j e.symm).1;omega);refine⟨⟨c,h1.kept (k b hb h1.lt),h2⟩,h.but.then (But.aA hg) (λi hi e=>?_),(k _ (by omega) (ab1.1 h.x0).1).trans h.x0,(k _ hw (ab1.1 h.x1).1).trans h.x1,λD hD'=>(k _ (hD D hD') (ab1.1 (h.ds D hD')).1).trans (h.ds D hD'),h.lo⟩;have:=(hr i e.symm).1;omega
theorem CL.xY{w:World}{ts:List Key}{f':Nat->Nat}{b GT GC GP nc np:Nat}{Ds:List Nat}{W:World}(h:CL w ts f' b GT GC GP nc np Ds W):∃es cl,W.heap[b]?=some (.map es cl):=by
 obtain⟨c,⟨g,d,⟨D,nn,_,⟨es,clock,h1,_⟩,_⟩,_⟩,_⟩:=h.m;exact⟨es,clock,h1⟩
theorem CL.join{w:World}{ts:List Key}{f':Nat->Nat}{b GT GC GP nc np:Nat}{Ds:List Nat}{W:World}(h:CL w ts f' b GT GC GP nc np Ds W)(hr:iG f' ts.length)(hn:ts.length<=7){i j:Nat}(hi:i<ts.length)(hj:j<ts.length) :
  Calls prog 126 #[.map (some b),.int .i64 i,.int .i64 j] W λe W'=>(∃v,e=.returned v)/\CL w ts (nJ f' i j) b GT GC GP nc np Ds W'/\W.grownBy W' (some b):=by
 obtain⟨c,h1,h2⟩:=h.m;obtain⟨es,cl,hb⟩:=h.xY;refine(EG W b ts.length c f' i j h1 hi hj (by omega) (by omega)).mono ?_;rintro e W' ⟨he,hg,hc⟩;have k:∀(j:Nat) (o:Obj),W.heap[j]?=some o->(∀es cl,o≠.map es cl)->W'.heap[j]?=some o:=λj o hj hne=>(hg.block j (ab1.1 hj).1 (λe=>by
  cases e;rw[hb]at hj;cases hj;exact hne _ _ rfl)).trans hj
 refine⟨he,⟨⟨_,hc,?_⟩,h.but.then (But.aA hg) (λi _ e=>by cases e;rfl),k _ _ h.x0 (λ_ _ e=>by cases e),k _ _ h.x1 (λ_ _ e=>by cases e),λD hD=>k _ _ (h.ds D hD) (λ_ _ e=>by cases e),h.lo⟩,hg⟩;by_cases e:f' i=f' j
 ·rw[ad3 e,pq e];exact h2
 ·rw[ac2 e];have:=wS hr hi hj e;omega
theorem Lp{f:Nat->Nat}{l:List (Nat×Nat)}{k:Nat}(hk:k<l.length):iH f (l.take (k+1))=nJ (iH f (l.take k)) l[k].1 l[k].2:=by
 rw[af6,ab4 hk]
 show iH f (l.take k++[l[k]])=_
 rw[AB]
theorem close_any(GT GC GP nc np b c0:Nat)(f:Nat->Nat)(ts:List Key)(w:World)(hl:ts.length<=7)(hrt:bU w GT ts)(hi:aB.Inv ts)(hM:gJ w b f ts.length c0)(hc0:c0+rts f ts.length<=ts.length)(hro:iG f ts.length)(ht:∀i (hi:i<ts.length),ts[i].2.1<ts.length/\ts[i].2.2<ts.length) :
  Calls prog 96 #[fv GT GC GP ts.length nc np,.map (some b)] w λe w'=>(∃v,e=.returned v)/\∃f',Closed ts f f'/\(∃c,gJ w' b f' ts.length c/\c+rts f' ts.length<=ts.length)/\w.grownBy w' (some b):=by
 refine(ae8 (n:=5)).1 ?_;have hbl:=hM.lt;have hgt:=hrt.1;have YC:GT≠b\/ts.length=0:=by
  by_cases h0:ts.length=0
  ·exact Or.inr h0
  ·refine Or.inl (λe=>?_);obtain⟨g,d,⟨D,nn,_,⟨es,clock,h1,_⟩,_⟩,_⟩:=hM;have h2:=(hrt.2 0 (by omega)).1;rw[e]at h2;simp[World.cell?,h1]at h2
 have XF:Hid (∀W,But (λk=>k=b) w W->bU W GT ts):=λW hW=>by
  refine⟨ac7 hgt hW.size,λi hi'=>?_⟩;have hne:GT≠b:=YC.resolve_right (by omega);have hbk:=hW.block GT hgt hne;exact⟨(ac8 hbk).trans (hrt.2 i hi').1,(ac8 hbk).trans (hrt.2 i hi').2.1,(ac8 hbk).trans (hrt.2 i hi').2.2⟩
 have HMD:Hid (∀(W:World) (f':Nat->Nat) (Ds:List Nat),CL w ts f' b GT GC GP nc np Ds W->iG f' ts.length->Calls prog 79 #[fv GT GC GP ts.length nc np,.map (some b)] W λe w'=>∃G,e=.returned (.slice (some ⟨G,0,none⟩) ts.length ts.length)/\W.heap.size<=G/\bU w' G (mkd f' ts)/\Below W.heap.size W w'):=λW f' Ds h hr=>by
  obtain⟨c,h1,h2⟩:=h.m;exact Et GT GC GP nc np b c f' ts W hl (ah XF W h.but) hi (λi hi=>(hr i hi).1) h1
 have HCG:Hid (∀(W:World) (f':Nat->Nat) (Ds:List Nat),CL w ts f' b GT GC GP nc np Ds W->iG f' ts.length->Calls prog 48 #[fv GT GC GP ts.length nc np,.map (some b)] W λe w'=>e=.returned (.bool (decide (∀p∈aY (mkd f' ts) ts.length,f' p.1=f' p.2)))/\Below W.heap.size W w'):=λW f' Ds h hr=>by
  obtain⟨c,h1,h2⟩:=h.m;exact qP GT GC GP nc np b c f' ts W hl (ah XF W h.but) hi (λi hi=>(hr i hi).1) h1
 unfold fv at HMD HCG ⊢;refine ah0 func96 rfl trivial ?_ rfl;simp only[ntmps96,ac0,ab9,ac9,Nat.reduceAdd,Nat.reduceSub,ab8,ab7,ac3,ae1,ac6,ac5]
 gi_wp2
 obtain⟨wb,hwb⟩:∃wb,(w.alloc (.cells #[.slice (some ⟨GT,0,none⟩) ts.length ts.length,.slice (some ⟨GC,0,none⟩) nc nc,.slice (some ⟨GP,0,none⟩) np np] 54)).alloc (.cells #[.map (some b)] 98)=wb:=⟨_,rfl⟩;have hgb:w.grownBy wb none:=by rw[<-hwb];exact(ab2 _ _ none).trans (ab2 _ _ none)
 have hcl0:CL w ts f b GT GC GP nc np [] wb:=by
  refine⟨⟨c0,hM.kept (hgb.block b hbl (by simp)),hc0⟩,(But.aA hgb).mono (λk _ e=>by cases e),?_,?_,λD hD=>(by cases hD),λD hD=>(by cases hD)⟩
  ·rw[<-hwb,ac1 _ _ _ (by simp),ac4]
  ·rw[<-hwb];have:=ac4 (w.alloc (.cells #[.slice (some ⟨GT,0,none⟩) ts.length ts.length,.slice (some ⟨GC,0,none⟩) nc nc,.slice (some ⟨GP,0,none⟩) np np] 54)) (.cells #[.map (some b)] 98);simpa using this
 rw[hwb];clear hwb hgb;have HT:=aj ht;have HI:=aj hi;have HST:=aj (Ug.start hro);clear ht hi hM hrt hro YC;refine wpIn_loop (λa W=>∃(u4 u5 u6 u7 u8 u9 u10 u11 u12 u13 u14 u15 u16 u17 u18 u19:Value) (f':Nat->Nat) (Ds:List Nat),a={tmps:=#[.agg #[.slice (some ⟨GT,0,none⟩) ts.length ts.length,.slice (some ⟨GC,0,none⟩) nc nc,.slice (some ⟨GP,0,none⟩) np np],.map (some b),.pointer (some ⟨w.heap.size,0,none⟩),.pointer (some ⟨w.heap.size+1,0,none⟩),u4,u5,u6,u7,u8,u9,u10,u11,u12,u13,u14,u15,u16,u17,u18,u19],defers:=Ds.map mkD}/\
   CL w ts f' b GT GC GP nc np Ds W/\Hid (Ug ts f f')/\Hid Ds.Nodup/\Hid (rts f' ts.length+Ds.length<=rts f ts.length)) (λa _=>ts.length+1-a.defers.length) ?start ?round
 case start=>exact⟨_,_,_,_,_,_,_,_,_,_,_,_,_,_,_,_,f,[],rfl,hcl0,HST,aj2,ab3 _⟩
 case round=>
  rintro _ W ⟨u4,u5,u6,u7,u8,u9,u10,u11,u12,u13,u14,u15,u16,u17,u18,u19,f',Ds,rfl,hcl,hC0,hDn,hrt⟩;have hx1:W.cell? ⟨w.heap.size+1,0,none⟩=some (.map (some b)):=by rw[cell_of hcl.x1];rfl
  have q0:W.cell? ⟨w.heap.size,0,none⟩=some (.slice (some ⟨GT,0,none⟩) ts.length ts.length):=by rw[cell_of hcl.x0];rfl
  have q1:W.cell? ⟨w.heap.size,1,none⟩=some (.slice (some ⟨GC,0,none⟩) nc nc):=by rw[cell_of hcl.x0];rfl
  have q2:W.cell? ⟨w.heap.size,2,none⟩=some (.slice (some ⟨GP,0,none⟩) np np):=by rw[cell_of hcl.x0];rfl
  have hcg:=ah HCG W f' Ds hcl (ah hC0).roots;have HCL:=aj hcl;clear hcl0 hcl;by_cases vS:∀p∈aY (mkd f' ts) ts.length,f' p.1=f' p.2
  ·rw[an6 vS]at hcg;have QV:=aj vS;clear vS
   gi_wp2
   refine⟨trivial,(ae8.2 hcg).mono ?_⟩;rintro e w1 ⟨rfl,hb1⟩;have lq:=(ah HCL).grow (bJ hb1);have QX:=aj lq;clear hcg lq hb1
   gi_wp2
   refine vM Ds w1 (ah hDn) (ah QX).ds (λW' hW'=>?_);have lq:=ah QX;obtain⟨c,hm1,hm2⟩:=lq.m;obtain⟨es,cl,hbm⟩:=lq.xY;have hbD:b∉Ds:=λhm=>by
    have:=lq.ds b hm;rw[hbm]at this;cases this
   refine⟨.tuple #[],by simp[results,results96,go_sem],⟨_,rfl⟩,f',(ah hC0).closed (ah QV),⟨c,hm1.kept (hW'.block b hm1.lt hbD),hm2⟩,?_⟩;refine⟨hW'.os.trans lq.but.os,hW'.tape.trans lq.but.tape,hW'.output.trans lq.but.output,ad6 lq.but.size hW'.size,λj hj hn=>?_⟩;have hjD:j∉Ds:=λhm=>by have:=lq.lo j hm;omega
   exact(hW'.block j (ac7 hj lq.but.size) hjD).trans (lq.but.block j hj (λe=>hn (by rw[e])))
  ·rw[am1 vS]at hcg;have QV:=aj vS;clear vS
   gi_wp2
   refine⟨trivial,(ae8.2 hcg).mono ?_⟩;rintro e w1 ⟨rfl,hb1⟩;have lq:=(ah HCL).grow (bJ hb1);have ZE:w1.cell? ⟨w.heap.size+1,0,none⟩=some (.map (some b)):=(by rw[cell_of lq.x1];rfl);have q0':w1.cell? ⟨w.heap.size,0,none⟩=some (.slice (some ⟨GT,0,none⟩) ts.length ts.length):=(by rw[cell_of lq.x0];rfl);have q1':w1.cell? ⟨w.heap.size,1,none⟩=some (.slice (some ⟨GC,0,none⟩) nc nc):=(by rw[cell_of lq.x0];rfl);have q2':w1.cell? ⟨w.heap.size,2,none⟩=some (.slice (some ⟨GP,0,none⟩) np np):=(by rw[cell_of lq.x0];rfl);have hmd:=ah HMD w1 f' Ds lq (ah hC0).roots;have QX:=aj lq;clear hcg lq hb1 hx1 q0 q1 q2
   gi_wp2
   refine⟨trivial,(ae8.2 hmd).mono ?_⟩;rintro e wr ⟨G,rfl,aav,zN,hb2⟩;have Yk:=(ah QX).grow (bJ hb2);have QW:=aj Yk;have HR2:=aj zN;clear hmd Yk hb2 zN ZE q0' q1' q2'
   gi_wp2
   refine⟨trivial,(ae8.2 (zC (some ⟨G,0,none⟩) ts.length ts.length wr)).mono ?_⟩;rintro e w2 ⟨rfl,rfl⟩
   gi_wp2
   obtain⟨w2,hw2⟩:∃w2,wr.alloc (.cells #[.slice (some ⟨G,0,none⟩) ts.length ts.length] 50)=w2:=⟨_,rfl⟩;have hg2:wr.grownBy w2 none:=(by rw[<-hw2];exact ab2 _ _ none);have hs2:w2.heap.size=wr.heap.size+1:=(by rw[<-hw2];simp);have hX2:w2.cell? ⟨wr.heap.size,0,none⟩=some (.slice (some ⟨G,0,none⟩) ts.length ts.length):=(by rw[<-hw2];simp[go_sem]);have Ym:=(ah QW).grow hg2;have SH:=(ah hC0).roots;have hvm:∀x∈mkd f' ts,∃l,keyOf prog 87 (aQ x)=some l:=by
    intro x hx;obtain⟨q,hq,rfl⟩:=ad9.1 hx;obtain⟨i,hi,rfl⟩:=ag2 hq;have hkey:=(ah HI).key i hi;have hb':ts[i].2.1<ts.length/\ts[i].2.2<ts.length/\0<=ts[i].1/\ts[i].1<=255:=by
     rcases hkey with⟨_,_,h3,h4⟩|⟨_,h2,h3⟩|⟨_,h2,h3⟩<;>omega
    have e1:=(SH _ hb'.1).1;have e2:=(SH _ hb'.2.1).1;exact La _ (by simp;omega) (by simp;omega) (by simp;omega)
   have EL:bU w2 G (mkd f' ts):=(ah HR2).same (hg2.block _ (ah HR2).1 (by simp));have XP:G<wr.heap.size:=(ah HR2).1;have hseq:=zB 4 (by omega) wr.heap.size G ts.length w2.heap.size (mkd f' ts) w2 (ab3 _) (by rw[aU];omega) (by rw[aU];exact hX2) EL hvm;rw[aU]at hseq;rw[hw2];have SE:wr.heap.size+1<=w2.heap.size:=(by omega);obtain⟨es0,cl0,Vz⟩:=(ah QW).xY;have hblt:b<wr.heap.size:=(ab1.1 Vz).1;have abE:w.heap.size+1<wr.heap.size:=(ab1.1 (ah QW).x1).1;have hDlt:∀D∈Ds,D<w2.heap.size:=λD hD=>by have:=(ab1.1 ((ah QW).ds D hD)).1;omega
   have hbG:b≠G:=λe=>by
    by_cases h0:ts.length=0
    ·have:=(ah HR2).1;obtain⟨p,hp,_⟩:∃p∈aY (mkd f' ts) ts.length,f' p.1≠f' p.2:=af2 λhn=>(ah QV) (λp hp=>af2 λh=>hn ⟨p,hp,h⟩);have:=(Gm p hp).1;omega
    ·have h1:=((ah HR2).2 0 (by rw[aU];omega)).1;rw[<-e]at h1;simp[World.cell?,Vz]at h1
   clear hw2 hX2 EL hvm hs2 HR2 hg2 Vz QW QX HCL;have HRO:=aj SH;have HP:Hid (∀p∈(aY (mkd f' ts) ts.length),p.1<ts.length/\p.2<ts.length):=λp hp=>Gm p hp;have HDL:=aj hDlt;have hown:OwnFrom w2.heap.size (fun(k:Nat) W=>CL w ts (iH f' ((aY (mkd f' ts) ts.length).take k)) b GT GC GP nc np Ds W/\w2.heap.size<=W.heap.size):=λk W W' row h hg hr=>⟨h.1.keep hg (by omega) (by omega) (ah HDL) hr,ad6 h.2 hg.size⟩;have qM:OwnFrom w2.heap.size (fun(_:Unit) (_:World)=>False):=λk W W' row h hg hr=>h;clear SH hDlt;refine dW rfl (by omega) rfl trivial (λ_ _=>by simp[go_sem]) hseq KA.trans ?_ (af0 _ _) ?_ _ (λ_=>False) hown qM ⟨Ym,ab3 _⟩
    (λk a' W=>∃hk:k<(aY (mkd f' ts) ts.length).length,a'={tmps:=#[.agg #[.slice (some ⟨GT,0,none⟩) ts.length ts.length,.slice (some ⟨GC,0,none⟩) nc nc,.slice (some ⟨GP,0,none⟩) np np],.map (some b),.pointer (some ⟨w.heap.size,0,none⟩),.pointer (some ⟨w.heap.size+1,0,none⟩),
     .int .i64 ((aY (mkd f' ts) ts.length)[k]).1,.int .i64 ((aY (mkd f' ts) ts.length)[k]).2,.agg #[.slice (some ⟨GT,0,none⟩) ts.length ts.length,.slice (some ⟨GC,0,none⟩) nc nc,.slice (some ⟨GP,0,none⟩) np np],.map (some b),.bool false,.bool true,.agg #[.slice (some ⟨GT,0,none⟩) ts.length ts.length,.slice (some ⟨GC,0,none⟩) nc nc,.slice (some ⟨GP,0,none⟩) np np],.map (some b),.slice (some ⟨G,0,none⟩) ts.length ts.length,.func (.func 127) #[] #[.pointer (some ⟨wr.heap.size,0,none⟩)],.int .i64 ((aY (mkd f' ts) ts.length)[k]).1,.int .i64 ((aY (mkd f' ts) ts.length)[k]).2,u16,u17,u18,u19],defers:=[]}) ?own ?assign ?body ?done ?stop
   ·intro W l o o' hlw ho hc hwk;refine⟨λj x hj hx hxc=>(ad7 (λe=>?_)).trans hx,ad7 (by omega),ad7 (by omega)⟩;subst e;rw[ho]at hx;cases hx;rcases hxc with h|h
    ·rw[hc]at h;cases h
    ·rw[hwk]at h;cases h
   ·intro k hk;simp
   case own=>
    rintro k a' ⟨⟩ W W' row h hg hr;exact h
   case assign=>
    intro l k hk W K hI hK;have hk':k<(aY (mkd f' ts) ts.length).length:=(by simpa using hk);have e1:((aY (mkd f' ts) ts.length).map λp:Nat×Nat=>#[Value.int .i64 p.1,Value.int .i64 p.2])[k]'hk=#[.int .i64 ((aY (mkd f' ts) ts.length)[k]).1,.int .i64 ((aY (mkd f' ts) ts.length)[k]).2]:=(by simp);rw[e1];have hK2:=hK _ W ((ao5 _).from _) ⟨λj o hj ho hc=>ho,rfl,rfl⟩ hI ⟨hk',rfl⟩;clear hK;generalize (aY (mkd f' ts) ts.length)[k]=pr at hK2 ⊢
    gi_wp2
    exact hK2
   case body=>
    rintro l k a' W hk hl' ⟨hI,hsW⟩ ⟨hk',rfl⟩;have hx1:W.cell? ⟨w.heap.size+1,0,none⟩=some (.map (some b)):=(by rw[cell_of hI.x1];rfl);have hpm:=ah HP _ (ab5 hk');have hrk:iG (iH f' ((aY (mkd f' ts) ts.length).take k)) ts.length:=(ah HRO).iH (λp hp=>(ah HP p (am9 hp)).1);have hjn:=hI.join hrk hl hpm.1 hpm.2;have htk:=Lp (f:=f') hk';have fE:=aj htk;clear hI htk Ym hown qM hseq hrk;generalize (aY (mkd f' ts) ts.length)[k]=pr at hjn fE hpm ⊢;obtain⟨x,y⟩:=pr;simp only at hjn hpm fE ⊢
    gi_wp2
    refine⟨trivial,ap0 l (ae8.2 (hjn.mono ?_))⟩;rintro e w3 ⟨⟨v3,rfl⟩,Yl,hg3⟩;have aaV:=aj Yl;have HG3:=aj hg3;clear Yl hg3 hjn
    gi_wp2
    have hg3:=ah HG3;have hkp:∀(j:Nat),j≠b->j<W.heap.size->w3.heap[j]?=W.heap[j]?:=λj hj hl=>hg3.block j hl (λe=>hj (by cases e;rfl));refine⟨⟨hg3.size,λj o hj ho hc=>(hkp j (by omega) (ab1.1 ho).1).trans ho⟩,⟨λj o hj ho hc=>(hkp j (by omega) (ab1.1 ho).1).trans ho,?_,?_⟩,?_⟩
    ·exact hkp _ (by omega) (by omega)
    ·exact hkp _ (λe=>hbG e.symm) (by omega)
    ·refine⟨?_,ad6 hsW hg3.size⟩
     show CL w ts (iH f' ((aY (mkd f' ts) ts.length).take (k+1))) b GT GC GP nc np Ds w3
     rw[ah fE];exact ah aaV
   case done=>
    rintro D W hD ⟨hI,hsW⟩ hdef;rw[ai6,ag9]at hI
    gi_wp2
    refine⟨⟨_,_,_,_,_,_,_,_,_,_,_,_,_,_,_,_,iH f' (aY (mkd f' ts) ts.length),D::Ds,rfl,⟨hI.m,hI.but,hI.x0,hI.x1,λE hE=>?_,λE hE=>?_⟩,(ah hC0).step (ah HT),?_,?_⟩,?_⟩
    ·rcases ag1.1 hE with e|hE
     ·rw[e];exact hdef
     ·exact hI.ds E hE
    ·rcases ag1.1 hE with e|hE
     ·rw[e];omega
     ·exact hI.lo E hE
    ·exact List.nodup_cons.2 ⟨λhm=>by have:=ah HDL D hm;omega,ah hDn⟩
    ·have h1:=vG (ah HRO) (ah HP) (af2 λhn=>(ah QV) (λp hp=>af2 λh=>hn ⟨p,hp,h⟩));have h2:=ah hrt
     show rts (iH f' (aY (mkd f' ts) ts.length)) ts.length+(D::Ds).length<=rts f ts.length
     simp only[ab9];omega
    ·have h1:=vG (ah HRO) (ah HP) (af2 λhn=>(ah QV) (λp hp=>af2 λh=>hn ⟨p,hp,h⟩));have h2:rts f' ts.length+Ds.length<=rts f ts.length:=ah hrt;have h3:=UU f ts.length;simp only[ab9,ai6];omega
   case stop=>
    intro D W hD hI hdef;exact hI.elim
end
namespace Nx
def rws:Nat->Nat->List (List Nat)
 |_,0=>[[]]
 |m,n+1=>(List.range' 0 (m+1)).flatMap λd=>(rws (max m (d+1)) n).map (d::·)
theorem I5:∀(n m:Nat),∀r∈rws m n,r.length=n
 |0,m,r,h=>by simp[rws]at h;simp[h]
 |n+1,m,r,h=>by
  unfold rws at h;obtain⟨d,hd,hr⟩:=aj6.1 h;obtain⟨r',hr',rfl⟩:=ad9.1 hr;simp[I5 n _ r' hr']
def WS:Nat->List (List Bool)
 |0=>[[]]
 |n+1=>(WS n).map (false::·)++(WS n).map (true::·)
def tv(n k:Nat):List Bool:=(List.range n).map λi=>decide (k/2 ^ i%2=1)
theorem JK(n k:Nat):(tv n k).length=n:=by simp[tv]
theorem Rj{n:Nat}(h:n<=4):(WS n).Perm ((List.range (2 ^ n)).map (tv n)):=by
 have h':n=0\/n=1\/n=2\/n=3\/n=4:=by omega
 rcases h' with rfl|rfl|rfl|rfl|rfl<;>decide +kernel
def sumTo{α:Type}(L:List α)(g:α->Nat)(k:Nat):Nat:=((L.take k).map g).sum
end Nx
end Go.Proofs.YthcppbmkacbbiaaGreat
