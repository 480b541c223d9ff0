import Derived.Test.YthcppbmkacbbiaaGreatYAX
import Derived.Test.YthcppbmkacbbiaaGreatRows
import Derived.OpenShut
import Derived.ShutString
import Derived.ChangeOld
import Derived.Lib.SmallJoins
import Derived.Deep.Slices
set_option linter.unusedSimpArgs false
namespace Go.Proofs.YthcppbmkacbbiaaGreat
open Go.Proofs.Tryz
namespace Ast
open aB
def At(pk:Nat->Int)(a:Nat)(l:List UInt8):Prop:=∀i (h:i<l.length),pk (a+i)=(l[i].toNat:Int)
theorem At.left{pk:Nat->Int}{a:Nat}{l m:List UInt8}(h:At pk a (l++m)):At pk a l:=λi hi=>by
 have:=h i (by simp;omega);rw[ah9 hi]at this;exact this
theorem At.right{pk:Nat->Int}{a:Nat}{l m:List UInt8}(h:At pk a (l++m)):At pk (a+l.length) m:=λi hi=>by
 have:=h (l.length+i) (by simp;omega);rw[al3 (by omega)]at this;simpa[Nat.add_assoc]using this
theorem At.head{pk:Nat->Int}{a:Nat}{c:UInt8}{m:List UInt8}(h:At pk a (c::m)):pk a=(c.toNat:Int):=h 0 (by simp)
theorem At.tail{pk:Nat->Int}{a:Nat}{c:UInt8}{m:List UInt8}(h:At pk a (c::m)):At pk (a+1) m:=λi hi=>by
 have:=h (i+1) (by simp;omega);simpa[Nat.add_assoc,Nat.add_comm 1]using this
theorem aN{α:Type}[BEq α][LawfulBEq α](l:List α)(k:α):l <+: put l k:=by
 unfold aB.put;split
 ·exact ag6 _
 ·exact an6 _ _
theorem put_mem{α:Type}[BEq α][LawfulBEq α](l:List α)(k:α):k∈put l k:=by
 unfold aB.put;by_cases h:k∈l
 ·rw[ae2 (by simpa using h)];exact h
 ·rw[ad6 (by simpa using h)];simp
theorem gI{α:Type}[BEq α][LawfulBEq α]{l m:List α}{k:α}(h:l <+: m)(hk:k∈l):m.idxOf k=l.idxOf k:=by
 obtain⟨r,rfl⟩:=h;rw[aj2,ae2 hk]
theorem xC{α:Type}[BEq α][LawfulBEq α](l:List α)(k:α):(put l k).idxOf k=l.idxOf k:=by
 by_cases h:k∈l
 ·exact gI (aN l k) h
 ·unfold aB.put;rw[ad6 (by simpa using h),aj2,ad6 h,ag4 h];simp
theorem qH{α:Type}[BEq α][LawfulBEq α]{l m:List α}{k:α}(h:put l k <+: m):put m k=m/\m.idxOf k=l.idxOf k:=by
 have hm:k∈m:=h.subset (put_mem l k);refine⟨by unfold aB.put;rw[ae2 (by simpa using hm)],?_⟩;rw[gI h (put_mem l k),xC]
structure eG(txt:List UInt8)(dep:Nat)(run:List Key->List Key×Nat):Prop where
 fst:∃c r,txt=c::r/\97<=c.toNat/\c.toNat<=103
 reads:∀(pk:Nat->Int) (n a d:Nat) (ts:List Key),At pk a txt->txt.length<=n->d<=8->
  (d+dep<=8->dX pk n a d ts=.ok (a+txt.length,(run ts).1,(run ts).2))/\(¬d+dep<=8->∃p,dX pk n a d ts=.error (3,p))
 fJ:∀ts ts',(run ts).1 <+: ts'->run ts'=(ts',(run ts).2)
 grow:∀ts,ts <+: (run ts).1
 good:∀ts,Bz ts->Bz (run ts).1/\(run ts).2<(run ts).1.length
 nat:∀ts ts' σ,Xu σ ts ts'->∃σ',(∀i,i<ts.length->σ' i=σ i)/\Xu σ' (run ts).1 (run ts').1/\(run ts).2<(run ts).1.length/\σ' (run ts).2=(run ts').2
theorem XD{c:UInt8}(h1:97<=c.toNat)(h2:c.toNat<=101):eG [c] 0 (λts=>(put ts ((c.toNat:Int),0,0),ts.idxOf ((c.toNat:Int),0,0))) where
 fst:=⟨c,[],rfl,h1,by omega⟩
 reads:=λpk n a d ts h hn hd=>by
  refine⟨λ_=>?_,λh=>absurd hd h⟩;cases n with
  |zero=>simp at hn
  |succ n=>
   have hp:=h.head;unfold dX;rw[hp,ae2 (by simp[isName];omega)];rfl
 fJ:=λts ts' h=>by
  obtain⟨e1,e2⟩:=qH h;simp only;rw[e1,e2]
 grow:=λts=>aN _ _
 good:=λts h=>y5 h (Or.inl ⟨by show(97:Int)<=(c.toNat:Int);omega,by show(c.toNat:Int)<=101;omega,rfl,rfl⟩)
 nat:=λts ts' σ h=>by
  have n1:((c.toNat:Int),0,0).1≠(102:Int):=by show(c.toNat:Int)≠102;omega
  have n2:((c.toNat:Int),0,0).1≠(103:Int):=by show(c.toNat:Int)≠103;omega
  have hk:Arg ts.length ((c.toNat:Int),0,0):=⟨λq=>q.elim (λq=>absurd q n1) (λq=>absurd q n2),λq=>absurd q n2⟩;have e:mkK σ ((c.toNat:Int),0,0)=((c.toNat:Int),0,0):=by
   unfold mkK;rw[ad6 (λq=>q.elim (λq=>n1 q) (λq=>n2 q)),ad6 n2]
  have g:=Dc h hk;rw[e]at g;exact g
theorem J8{t:List UInt8}{dep:Nat}{run:List Key->List Key×Nat}(h:eG t dep run):eG (102::40::(t++[41])) (dep+1) (λts=>(put (run ts).1 (102,(run ts).2,0),(run ts).1.idxOf (102,(run ts).2,0))) where
 fst:=⟨102,_,rfl,by decide,by decide⟩
 reads:=λpk n a d ts hA hn hd=>by
  cases n with
  |zero=>simp at hn
  |succ n=>
   have hp:=hA.head;have hp1:=hA.tail.head;have hA2:=hA.tail.tail;have hp2:=hA2.right.head;have hr:=h.reads pk n (a+1+1) (d+1) ts hA2.left (by simp at hn;omega);have e0:pk a=102:=hp;have e1:pk (a+1)=40:=hp1;have e2:pk (a+1+1+t.length)=41:=hp2;unfold dX;rw[ad6 (by rw[e0];decide),ae2 e0];unfold arg1;rw[ae2 e1];constructor
   ·intro h8;rw[ad6 (by omega),(hr (by omega)).1 (by omega)];simp only[e2,aj0]
    show Except.ok _=_
    congr 2
    simp;omega
   ·intro h8;by_cases hd8:d=8
    ·rw[ae2 hd8];exact⟨_,rfl⟩
    ·rw[ad6 hd8];obtain⟨p,hp⟩:=(hr (by omega)).2 (by omega);rw[hp];exact⟨p,rfl⟩
 fJ:=λts ts' hg=>by
  have h1:=h.fJ ts ts' ((aN _ _).trans hg);obtain⟨e1,e2⟩:=qH hg;simp only;rw[h1];simp only;rw[e1,e2]
 grow:=λts=>(h.grow ts).trans (aN _ _)
 good:=λts hG=>by
  obtain⟨a,b⟩:=h.good ts hG;exact y5 a (Or.inr (Or.inl ⟨rfl,b,rfl⟩))
 nat:=λts ts' σ hE=>by
  obtain⟨σ1,e1,m1,l1,i1⟩:=h.nat ts ts' σ hE;have g:=Dc m1 (k:=(102,(run ts).2,0)) ⟨λ_=>l1,λq=>absurd q (by show ¬(102:Int)=103;decide)⟩;have e:mkK σ1 (102,(run ts).2,0)=(102,(run ts').2,0):=by
   unfold mkK;simp[i1]
  rw[e]at g;obtain⟨σ2,e2,m2,l2,i2⟩:=g;exact⟨σ2,λi hi=>(e2 i (ac8 hi (h.grow ts).length_le)).trans (e1 i hi),m2,l2,i2⟩
theorem J7{t u:List UInt8}{d1 d2:Nat}{r1 r2:List Key->List Key×Nat}(h:eG t d1 r1)(g:eG u d2 r2) :
  eG (103::40::(t++44::(u++[41]))) (max d1 d2+1) (λts=>(put (r2 (r1 ts).1).1 (103,(r1 ts).2,(r2 (r1 ts).1).2),(r2 (r1 ts).1).1.idxOf (103,(r1 ts).2,(r2 (r1 ts).1).2))) where
 fst:=⟨103,_,rfl,by decide,by decide⟩
 reads:=λpk n a d ts hA hn hd=>by
  cases n with
  |zero=>simp at hn
  |succ n=>
   have hA2:=hA.tail.tail;have hA3:=hA2.right.tail;have e0:pk a=103:=hA.head;have e1:pk (a+1)=40:=hA.tail.head;have e2:pk (a+1+1+t.length)=44:=hA2.right.head;have e3:pk (a+1+1+t.length+1+u.length)=41:=hA3.right.head;have hr:=h.reads pk n (a+1+1) (d+1) ts hA2.left (by simp at hn;omega);have gr:=g.reads pk n (a+1+1+t.length+1) (d+1) (r1 ts).1 hA3.left (by simp at hn;omega);unfold dX;rw[ad6 (by rw[e0];decide),ad6 (by rw[e0];decide),ae2 e0];unfold arg2;rw[ae2 e1];by_cases hd8:d=8
   ·rw[ae2 hd8];exact⟨λh=>by omega,λ_=>⟨_,rfl⟩⟩
   ·rw[ad6 hd8];by_cases q1:d+1+d1<=8
    ·rw[(hr (by omega)).1 q1];simp only[e2,aj0];by_cases q2:d+1+d2<=8
     ·rw[(gr (by omega)).1 q2];simp only[e3,aj0];refine⟨λ_=>?_,λh=>by omega⟩
      show Except.ok _=_
      congr 2
      simp;omega
     ·obtain⟨p,hp⟩:=(gr (by omega)).2 q2;rw[hp];exact⟨λh=>by omega,λ_=>⟨p,rfl⟩⟩
    ·obtain⟨p,hp⟩:=(hr (by omega)).2 q1;rw[hp];exact⟨λh=>by omega,λ_=>⟨p,rfl⟩⟩
 fJ:=λts ts' hg=>by
  have p2:(r2 (r1 ts).1).1 <+: ts':=(aN _ _).trans hg;have h1:=h.fJ ts ts' ((g.grow _).trans p2);have h2:=g.fJ (r1 ts).1 ts' p2;obtain⟨e1,e2⟩:=qH hg;simp only;rw[h1];simp only;rw[h2];simp only;rw[e1,e2]
 grow:=λts=>((h.grow ts).trans (g.grow _)).trans (aN _ _)
 good:=λts hG=>by
  obtain⟨a,b⟩:=h.good ts hG;obtain⟨a2,b2⟩:=g.good _ a;exact y5 a2 (Or.inr (Or.inr ⟨rfl,ac8 b (g.grow _).length_le,b2⟩))
 nat:=λts ts' σ hE=>by
  obtain⟨σ1,e1,m1,l1,i1⟩:=h.nat ts ts' σ hE;obtain⟨σ2,e2,m2,l2,i2⟩:=g.nat _ _ σ1 m1;have hg:=(g.grow (r1 ts).1).length_le;have k1:σ2 (r1 ts).2=(r1 ts').2:=(e2 _ l1).trans i1;have q:=Dc m2 (k:=(103,(r1 ts).2,(r2 (r1 ts).1).2)) ⟨λ_=>ac8 l1 hg,λ_=>l2⟩;have e:mkK σ2 (103,(r1 ts).2,(r2 (r1 ts).1).2)=(103,(r1 ts').2,(r2 (r1 ts').1).2):=by
   unfold mkK;simp[k1,i2]
  rw[e]at q;obtain⟨σ3,e3,m3,l3,i3⟩:=q;exact⟨σ3,λi hi=>(e3 i (ac8 hi ((h.grow ts).trans (g.grow _)).length_le)).trans ((e2 i (ac8 hi (h.grow ts).length_le)).trans (e1 i hi)),m3,l3,i3⟩
structure Am(txt:List UInt8)(dep:Nat)(run:List Key->List (Int×Nat)->List Key×List (Int×Nat))(val:List Int->List Bool->List Key->List (Int×Nat)->Bool):Prop where
 pos:0<txt.length
 reads:∀(pk:Nat->Int) (N n a d:Nat) (ts:List Key) (cs:List (Int×Nat)) (ps:List Key),(∀a,pk a≠0->a<N)->a<=N->At pk a txt->txt.length<=n->d<=8->aP ts.length cs.length ps->
  (d+dep<=8->∃ps1 m,iT pk n a d ts cs ps=.ok (a+txt.length,(run ts cs).1,(run ts cs).2,ps1,m)/\∀cl hl,(dP cl hl ps1).getD m false=val cl hl ts cs)/\(¬d+dep<=8->∃p,iT pk n a d ts cs ps=.error (3,p))
 fJ:∀ts cs ts' cs',(run ts cs).1 <+: ts'->(run ts cs).2 <+: cs'->run ts' cs'=(ts',cs')/\∀cl hl,val cl hl ts' cs'=val cl hl ts cs
 grow:∀ts cs,ts <+: (run ts cs).1/\cs <+: (run ts cs).2
 good:∀ts cs,Bz ts->BA ts.length cs->Bz (run ts cs).1/\BA (run ts cs).1.length (run ts cs).2
 nat:∀ts cs ts' cs' σ ρ,Xu σ ts ts'->NK σ ρ ts.length cs cs'->∃σ' ρ',(∀i,i<ts.length->σ' i=σ i)/\(∀i,i<cs.length->ρ' i=ρ i)/\Xu σ' (run ts cs).1 (run ts' cs').1/\NK σ' ρ' (run ts cs).1.length (run ts cs).2 (run ts' cs').2/\
  ∀cl hl cl' hl',(∀i j,i<(run ts cs).1.length->j<(run ts cs).1.length->(cl.getD i 0=cl.getD j 0↔cl'.getD (σ' i) 0=cl'.getD (σ' j) 0))->(∀i,i<(run ts cs).2.length->hl.getD i false=hl'.getD (ρ' i) false)->val cl hl ts cs=val cl' hl' ts' cs'
theorem CX{a1 a':Nat}{aF:List Key}{cs1:List (Int×Nat)}{ps1:List Key}{q:Key}{val:List Int->List Bool->Bool}(h:aP aF.length cs1.length ps1)(hq:dH aF.length cs1.length ps1.length q)(ha:a1=a')(hv:∀cl hl,lY cl hl (dP cl hl ps1) q=val cl hl) :
  ∃ps2 m,vF (.ok (a1,aF,cs1,ps1,q))=.ok (a',aF,cs1,ps2,m)/\∀cl hl,(dP cl hl ps2).getD m false=val cl hl:=
 ⟨put ps1 q,ps1.idxOf q,by subst ha;rfl,λcl hl=>by rw[SL h hq];exact hv cl hl⟩
theorem jh{t u:List UInt8}{d1 d2:Nat}{r1 r2:List Key->List Key×Nat}(h:eG t d1 r1)(g:eG u d2 r2) :
  Am (t++61::u) (max d1 d2) (λts cs=>((r2 (r1 ts).1).1,cs)) (λcl _ ts _=>decide (cl.getD (r1 ts).2 0=cl.getD (r2 (r1 ts).1).2 0)) where
 pos:=by rw[ae9,ac9];omega
 reads:=λpk N n a d ts cs ps hpk ha hA hn hd hi=>by
  cases n with
  |zero=>simp at hn
  |succ n=>
   obtain⟨c,r,hc,c1,c2⟩:=h.fst;have e0:pk a=(c.toNat:Int):=(by have:=hA.left;rw[hc]at this;exact this.head);have e1:pk (a+t.length)=61:=hA.right.head;have hr:=h.reads pk (n+1) a d ts hA.left (by simp at hn;omega) hd;have gr:=g.reads pk (n+1) (a+t.length+1) d (r1 ts).1 hA.right.tail (by simp at hn;omega) hd;have hok:=bZ hpk (n+1) a d ts ha;unfold iT;rw[ad6 (by rw[e0];omega),ad6 (by rw[e0];omega),ad6 (by rw[e0];omega)];unfold BL;by_cases q1:d+d1<=8
   ·rw[hr.1 q1]at hok ⊢;obtain⟨p1,p2,p3,p4,p5⟩:=hok;simp only[e1,aj0];have hlt:=hpk (a+t.length) (by rw[e1];decide);have hok2:=bZ hpk (n+1) (a+t.length+1) d (r1 ts).1 (by omega);by_cases q2:d+d2<=8
    ·rw[gr.1 q2]at hok2 ⊢;obtain⟨k1,k2,k3,k4,k5⟩:=hok2;exact⟨λ_=>CX (hi.more (by omega) (ac2 _)) (Or.inr (Or.inr (Or.inr ⟨rfl,by show(r1 ts).2<(r2 (r1 ts).1).1.length;omega,k5⟩))) (by simp;omega) (λcl hl=>by simp[lY]),λh=>by omega⟩
    ·obtain⟨p,hp⟩:=gr.2 q2;rw[hp];exact⟨λh=>by omega,λ_=>⟨p,rfl⟩⟩
   ·obtain⟨p,hp⟩:=hr.2 q1;rw[hp];exact⟨λh=>by omega,λ_=>⟨p,rfl⟩⟩
 fJ:=λts cs ts' cs' h1 h2=>by
  have s1:=h.fJ ts ts' ((g.grow _).trans h1);have s2:=g.fJ (r1 ts).1 ts' h1;refine⟨?_,λcl hl=>?_⟩
  ·(try simp only);rw[s1];(try simp only);rw[s2]
  ·(try simp only);rw[s1];(try simp only);rw[s2]
 grow:=λts cs=>⟨(h.grow ts).trans (g.grow _),ag6 _⟩
 good:=λts cs hT hC=>⟨(g.good _ (h.good ts hT).1).1,yZ hC ((h.grow ts).trans (g.grow _)).length_le⟩
 nat:=λts cs ts' cs' σ ρ hE hC=>by
  obtain⟨σ1,e1,m1,l1,i1⟩:=h.nat ts ts' σ hE;obtain⟨σ2,e2,m2,l2,i2⟩:=g.nat _ _ σ1 m1;have hg:=(g.grow (r1 ts).1).length_le;have k1:σ2 (r1 ts).2=(r1 ts').2:=(e2 _ l1).trans i1;have ee:∀i,i<ts.length->σ2 i=σ i:=λi hi=>(e2 i (ac8 hi (h.grow ts).length_le)).trans (e1 i hi);refine⟨σ2,ρ,ee,λ_ _=>rfl,m2,Fv hC ee ((h.grow ts).trans (g.grow _)).length_le,λcl hl cl' hl' q1 q2=>?_⟩;have q:=q1 _ _ (ac8 l1 hg) l2;rw[k1,i2]at q;exact ao6.2 q
theorem wH{c:UInt8}(hc:c.toNat=80\/c.toNat=81){t:List UInt8}{dep:Nat}{r:List Key->List Key×Nat}(h:eG t dep r) :
  Am (c::40::(t++[41])) (dep+1) (λts cs=>((r ts).1,put cs ((c.toNat:Int),(r ts).2))) (λ_ hl ts cs=>hl.getD (cs.idxOf ((c.toNat:Int),(r ts).2)) false) where
 pos:=by simp
 reads:=λpk N n a d ts cs ps hpk ha hA hn hd hi=>by
  cases n with
  |zero=>simp at hn
  |succ n=>
   have hA2:=hA.tail.tail;have e0:pk a=(c.toNat:Int):=hA.head;have e1:pk (a+1)=40:=hA.tail.head;have e2:pk (a+1+1+t.length)=41:=hA2.right.head;have hr:=h.reads pk (n+1) (a+1+1) (d+1) ts hA2.left (by simp at hn;omega);have l0:=hpk a (by omega);have l1:=hpk (a+1) (by omega);have hok:=bZ hpk (n+1) (a+1+1) (d+1) ts (by omega);unfold iT;rw[ad6 (by omega),ad6 (by omega),ae2 (by omega)];unfold SI arg1;rw[ae2 e1];by_cases hd8:d=8
   ·rw[ae2 hd8];exact⟨λh=>by omega,λ_=>⟨_,rfl⟩⟩
   ·rw[ad6 hd8];by_cases q1:d+1+dep<=8
    ·rw[(hr (by omega)).1 q1]at hok ⊢;obtain⟨p1,p2,p3,p4,p5⟩:=hok;simp only[e2,aj0,e0];have q:=fU cs ((c.toNat:Int),(r ts).2);refine⟨λ_=>CX (hi.more p3 q.1) (Or.inr (Or.inr (Or.inl ⟨by show((c.toNat:Int)=80\/(c.toNat:Int)=81);omega,jB _ _,rfl⟩))) (by simp;omega) (λcl hl=>?_),λh=>by omega⟩;unfold lY;rw[ad6 (by show(c.toNat:Int)≠61;omega),ae2 (by show((c.toNat:Int)=80\/(c.toNat:Int)=81);omega)]
    ·obtain⟨p,hp⟩:=(hr (by omega)).2 q1;rw[hp];exact⟨λh=>by omega,λ_=>⟨p,rfl⟩⟩
 fJ:=λts cs ts' cs' h1 h2=>by
  have s1:=h.fJ ts ts' h1;obtain⟨e1,e2⟩:=qH h2;refine⟨?_,λcl hl=>?_⟩
  ·(try simp only);rw[s1];(try simp only);rw[e1]
  ·(try simp only);rw[s1];(try simp only);rw[e2]
 grow:=λts cs=>⟨h.grow ts,aN _ _⟩
 good:=λts cs hT hC=>⟨(h.good ts hT).1,Nb (yZ hC (h.grow ts).length_le) (h.good ts hT).2⟩
 nat:=λts cs ts' cs' σ ρ hE hC=>by
  obtain⟨σ1,e1,m1,l1,i1⟩:=h.nat ts ts' σ hE;have hC1:=Fv hC e1 (h.grow ts).length_le;obtain⟨ρ1,f1,n1,k1,j1⟩:=QA hC1 (k:=((c.toNat:Int),(r ts).2)) l1;rw[i1]at n1 j1;refine⟨σ1,ρ1,e1,f1,m1,n1,λcl hl cl' hl' q1 q2=>?_⟩;have q:=q2 _ k1;rw[j1]at q;exact q
theorem oz{t:List UInt8}{dep:Nat}{run:List Key->List (Int×Nat)->List Key×List (Int×Nat)}{val:List Int->List Bool->List Key->List (Int×Nat)->Bool}(h:Am t dep run val) :
  Am (33::t) dep run (λcl hl ts cs=>!(val cl hl ts cs)) where
 pos:=by simp
 reads:=λpk N n a d ts cs ps hpk ha hA hn hd hi=>by
  cases n with
  |zero=>simp at hn
  |succ n=>
   have e0:pk a=33:=hA.head;have l0:=hpk a (by omega);have hr:=h.reads pk N n (a+1) d ts cs ps hpk (by omega) hA.tail (by simp at hn;omega) hd hi;have hf:=kZ hpk n (a+1) d ts cs ps (by omega) hi;unfold iT;rw[ae2 e0];refine⟨λh8=>?_,λh8=>?_⟩
   ·obtain⟨ps1,m,hp,hv⟩:=hr.1 h8;rw[hp]at hf ⊢;obtain⟨f1,f2,f3,f4,f5⟩:=hf;refine CX f1 (Or.inl ⟨rfl,f2,rfl⟩) (by simp;omega) (λcl hl=>?_);unfold lY;rw[ad6 (by show(33:Int)≠61;decide),ad6 (by show ¬((33:Int)=80\/(33:Int)=81);decide),ae2 rfl]
    show(!(dP cl hl ps1).getD m false)=_
    rw[hv]
   ·obtain⟨p,hp⟩:=hr.2 h8;rw[hp];exact⟨p,rfl⟩
 fJ:=λts cs ts' cs' h1 h2=>by
  obtain⟨s1,s2⟩:=h.fJ ts cs ts' cs' h1 h2;exact⟨s1,λcl hl=>by(try simp only);rw[s2]⟩
 grow:=h.grow
 good:=h.good
 nat:=λts cs ts' cs' σ ρ hE hC=>by
  obtain⟨σ1,ρ1,e1,f1,m1,n1,v⟩:=h.nat ts cs ts' cs' σ ρ hE hC;exact⟨σ1,ρ1,e1,f1,m1,n1,λcl hl cl' hl' q1 q2=>by show(!_)=(!_);rw[v cl hl cl' hl' q1 q2]⟩
theorem mY{c:UInt8}(hc:au (c.toNat:Int)=true){t u:List UInt8}{d1 d2:Nat}{r1 r2:List Key->List (Int×Nat)->List Key×List (Int×Nat)}{v1 v2:List Int->List Bool->List Key->List (Int×Nat)->Bool}(h:Am t d1 r1 v1)(g:Am u d2 r2 v2) :
  Am (40::(t++c::(u++[41]))) (max d1 d2+1) (λts cs=>r2 (r1 ts cs).1 (r1 ts cs).2) (λcl hl ts cs=>jn (c.toNat:Int) (v1 cl hl ts cs) (v2 cl hl (r1 ts cs).1 (r1 ts cs).2)) where
 pos:=by simp
 reads:=λpk N n a d ts cs ps hpk ha hA hn hd hi=>by
  cases n with
  |zero=>simp at hn
  |succ n=>
   have hA2:=hA.tail;have hA3:=hA2.right.tail;have e0:pk a=40:=hA.head;have e1:pk (a+1+t.length)=(c.toNat:Int):=hA2.right.head;have e2:pk (a+1+t.length+1+u.length)=41:=hA3.right.head;have l0:=hpk a (by omega);have hc0:(c.toNat:Int)≠0:=λe=>by rw[e]at hc;simp[au]at hc
   have l1:=hpk (a+1+t.length) (by rw[e1];exact hc0);have hr:=h.reads pk N n (a+1) (d+1) ts cs ps hpk (by omega) hA2.left (by simp at hn;omega);have hf:=kZ hpk n (a+1) (d+1) ts cs ps (by omega) hi;unfold iT;rw[ad6 (by omega),ae2 e0];unfold KO;by_cases hd8:d=8
   ·rw[ae2 hd8];exact⟨λh=>by omega,λ_=>⟨_,rfl⟩⟩
   ·rw[ad6 hd8];by_cases q1:d+1+d1<=8
    ·obtain⟨ps1,m1,hp,hv⟩:=(hr (by omega) hi).1 q1;rw[hp]at hf ⊢;obtain⟨f1,f2,f3,f4,f5⟩:=hf;simp only[e1,hc,aj0];have gr:=g.reads pk N n (a+1+t.length+1) (d+1) (r1 ts cs).1 (r1 ts cs).2 ps1 hpk (by omega) hA3.left (by simp at hn;omega) (by omega) f1;have gf:=kZ hpk n (a+1+t.length+1) (d+1) (r1 ts cs).1 (r1 ts cs).2 ps1 (by omega) f1;by_cases q2:d+1+d2<=8
     ·obtain⟨ps2,m2,gp,gv⟩:=gr.1 q2;rw[gp]at gf ⊢;obtain⟨g1,g2,g3,g4,g5⟩:=gf;simp only[e2,aj0];have hle:=g5.length_le;refine⟨λ_=>CX g1 (Or.inr (Or.inl ⟨hc,by show m1<ps2.length;omega,g2⟩)) (by simp;omega) (λcl hl=>?_),λh=>by omega⟩
      ·have e3:(dP cl hl ps2).getD m1 false=(dP cl hl ps1).getD m1 false:=kX (nK g5) (by rw[fQ];exact f2);have n1:(c.toNat:Int)≠61:=λe=>by rw[e]at hc;simp[au]at hc
       have n2:¬((c.toNat:Int)=80\/(c.toNat:Int)=81):=λe=>by rcases e with e|e<;>(rw[e]at hc;simp[au]at hc)
       have n3:(c.toNat:Int)≠33:=λe=>by rw[e]at hc;simp[au]at hc
       unfold lY;rw[ad6 n1,ad6 n2,ad6 n3];simp only;rw[e3,hv,gv]
     ·obtain⟨p,hp⟩:=gr.2 q2;rw[hp];exact⟨λh=>by omega,λ_=>⟨p,rfl⟩⟩
    ·obtain⟨p,hp⟩:=(hr (by omega) hi).2 q1;rw[hp];exact⟨λh=>by omega,λ_=>⟨p,rfl⟩⟩
 fJ:=λts cs ts' cs' h1 h2=>by
  obtain⟨w1,w2⟩:=g.grow (r1 ts cs).1 (r1 ts cs).2;obtain⟨s1,s2⟩:=h.fJ ts cs ts' cs' (w1.trans h1) (w2.trans h2);obtain⟨s3,s4⟩:=g.fJ (r1 ts cs).1 (r1 ts cs).2 ts' cs' h1 h2;refine⟨?_,λcl hl=>?_⟩
  ·(try simp only);rw[s1];exact s3
  ·(try simp only);rw[s2,s1];(try simp only);rw[s4]
 grow:=λts cs=>⟨(h.grow ts cs).1.trans (g.grow _ _).1,(h.grow ts cs).2.trans (g.grow _ _).2⟩
 good:=λts cs hT hC=>by
  obtain⟨a,b⟩:=h.good ts cs hT hC;exact g.good _ _ a b
 nat:=λts cs ts' cs' σ ρ hE hC=>by
  obtain⟨σ1,ρ1,e1,f1,m1,n1,w1⟩:=h.nat ts cs ts' cs' σ ρ hE hC;obtain⟨σ2,ρ2,e2,f2,m2,n2,w2⟩:=g.nat _ _ _ _ σ1 ρ1 m1 n1;have g1:=(h.grow ts cs).1.length_le;have g2:=(h.grow ts cs).2.length_le;have g3:=(g.grow (r1 ts cs).1 (r1 ts cs).2).1.length_le;have g4:=(g.grow (r1 ts cs).1 (r1 ts cs).2).2.length_le;refine⟨σ2,ρ2,λi hi=>(e2 i (by omega)).trans (e1 i hi),λi hi=>(f2 i (by omega)).trans (f1 i hi),m2,n2,λcl hl cl' hl' q1 q2=>?_⟩
  show jn _ _ _=jn _ _ _
  rw[w2 cl hl cl' hl' q1 q2,w1 cl hl cl' hl' (λi j hi hj=>?_) (λi hi=>?_)]
  ·rw[<-e2 i hi,<-e2 j hj];exact q1 i j (by omega) (by omega)
  ·rw[<-f2 i hi];exact q2 i (by omega)
end Ast
section
open Sat (View Rule jw bI)
open aB (Key put lY dP jn au aP dH)
abbrev aV:Type:=Key×Bool
def lv(v:Key->Bool)(l:aV):Bool:=v l.1==l.2
def nl(l:aV):aV:=(l.1,!l.2)
theorem wu(v:Key->Bool)(l:aV):lv v (nl l)=!lv v l:=by
 unfold lv nl;cases v l.1<;>cases l.2<;>rfl
def vw(Us:List Key)(l:aV):View:=(Us.idxOf l.1,l.2)
theorem gI{Us Us':List Key}(h:Us <+: Us'){p:Key}(hp:p∈Us):Us'.idxOf p=Us.idxOf p:=by
 obtain⟨R,rfl⟩:=h;rw[aj2,ae2 hp]
theorem nD{Us Us':List Key}(h:Us <+: Us'){l:aV}(hp:l.1∈Us):vw Us' l=vw Us l:=by
 unfold vw;rw[gI h hp]
theorem Jb(Us:List Key)(l:aV):vw Us (nl l)=((vw Us l).1,!(vw Us l).2):=rfl
def dd(vs:List View):Rule:=vs.foldl put []
theorem IJ(vs:List View):∀(acc:List View) (u:View),u∈vs.foldl put acc↔u∈acc\/u∈vs:=by
 induction vs with
 |nil=>intro acc u;simp
 |cons a vs ih=>
  intro acc u;rw[List.foldl_cons,ih,tC];simp[or_assoc]
theorem Dk(vs:List View)(u:View):u∈dd vs↔u∈vs:=by
 unfold dd;rw[IJ];simp
theorem Gt{l:List View}(h:l.Nodup)(a:View):(put l a).Nodup:=by
 unfold put;by_cases hc:l.contains a=true
 ·rw[ae2 hc];exact h
 ·rw[ad6 hc,am9];refine⟨h,by simp,λx hx y hy e=>?_⟩;rw[ae5.1 hy]at e;subst e;exact hc (by simpa using hx)
theorem Dj(vs:List View):∀(acc:List View),acc.Nodup->(vs.foldl put acc).Nodup:=by
 induction vs with
 |nil=>intro acc h;exact h
 |cons a vs ih=>intro acc h;exact ih _ (Gt h a)
theorem QH(vs:List View):(dd vs).Nodup:=Dj vs [] al6
theorem rZ(vs:List View):∀(acc:List View),(vs.foldl put acc).length<=acc.length+vs.length:=by
 induction vs with
 |nil=>intro acc;simp
 |cons a vs ih=>
  intro acc;have h1:=ih (put acc a);have h2:(put acc a).length<=acc.length+1:=by unfold put;split<;>simp
  simp only[List.foldl_cons,ac9];omega
theorem WQ(vs:List View):(dd vs).length<=vs.length:=by
 have:=rZ vs [];simpa[dd]using this
def Sem(Us:List Key)(ak:List Rule)(Φ:(Key->Bool)->Prop):Prop:=
 ∀Us',Us <+: Us'->∀α:Nat->Bool,(∀r∈ak,Sat.keeps α r)↔Φ (λp=>α (Us'.idxOf p))
structure LP(Us:List Key)(ak:List Rule)(Φ:(Key->Bool)->Prop):Prop where
 sem:Sem Us ak Φ
 rg:RG Us.length ak
 nodup:Us.Nodup
theorem LP.nil:LP [] [] (λ_=>True):=
 ⟨λ_ _ _=>⟨λ_=>trivial,λ_ r hr=>by(cases hr)⟩,⟨λr hr=>by(cases hr),λr hr=>by(cases hr),λr hr=>by(cases hr),λr hr=>by(cases hr)⟩,al6⟩
theorem aN{α:Type}[BEq α](l:List α)(k:α):l <+: put l k:=by
 unfold put;split
 ·exact ag6 _
 ·exact an6 _ _
theorem LP.so{Us:List Key}{ak:List Rule}{Φ:(Key->Bool)->Prop}(h:LP Us ak Φ)(p:Key):LP (put Us p) ak Φ:=by
 have hl:=(aN Us p).length_le;refine⟨λUs' hp α=>h.sem Us' ((aN Us p).trans hp) α,⟨h.rg.ne,h.rg.nodup,λr hr u hu=>ac8 (h.rg.lt r hr u hu) hl,h.rg.len⟩,?_⟩;unfold put;by_cases hc:Us.contains p=true
 ·rw[ae2 hc];exact h.nodup
 ·rw[ad6 hc,am9];refine⟨h.nodup,by simp,λx hx y hy e=>?_⟩;rw[ae5.1 hy]at e;subst e;exact hc (by simpa using hx)
theorem LP.demand{Us:List Key}{ak:List Rule}{Φ:(Key->Bool)->Prop}(h:LP Us ak Φ){ls:List aV}(h0:ls≠[])(h1:ls.length<=1000)(hm:∀l∈ls,l.1∈Us) :
  LP Us (ak++[dd (ls.map (vw Us))]) (λv=>Φ v/\∃l∈ls,lv v l=true):=by
 refine⟨λUs' hp α=>?_,⟨λr hr=>?_,λr hr=>?_,λr hr=>?_,λr hr=>?_⟩,h.nodup⟩
 ·have hk:Sat.keeps α (dd (ls.map (vw Us)))↔∃l∈ls,lv (λp=>α (Us'.idxOf p)) l=true:=by
   unfold Sat.keeps;constructor
   ·rintro⟨u,hu,hα⟩;obtain⟨l,hl,rfl⟩:=ae8.1 ((Dk _ _).1 hu);refine⟨l,hl,?_⟩;unfold lv;simp only[gI hp (hm l hl)];simpa[vw]using hα
   ·rintro⟨l,hl,hα⟩;refine⟨vw Us l,(Dk _ _).2 (ae8.2 ⟨l,hl,rfl⟩),?_⟩;unfold lv at hα;simp only[gI hp (hm l hl)]at hα;simpa[vw]using hα
  rw[<-hk,<-h.sem Us' hp α];constructor
  ·intro hr;exact⟨λr h2=>hr r (ah6 _ h2),hr _ (by simp)⟩
  ·rintro⟨g1,g2⟩ r hr;rcases af7.1 hr with hr|hr
   ·exact g1 r hr
   ·rw[ae5.1 hr];exact g2
 ·rcases af7.1 hr with hr|hr
  ·exact h.rg.ne r hr
  ·rw[ae5.1 hr];intro e;obtain⟨l,hl⟩:=List.exists_mem_of_ne_nil _ h0;have:=(Dk _ _).2 (ae8.2 ⟨l,hl,rfl⟩:vw Us l∈ls.map (vw Us));rw[e]at this;cases this
 ·rcases af7.1 hr with hr|hr
  ·exact h.rg.nodup r hr
  ·rw[ae5.1 hr];exact QH _
 ·rcases af7.1 hr with hr|hr
  ·exact h.rg.lt r hr
  ·rw[ae5.1 hr];intro u hu;obtain⟨l,hl,rfl⟩:=ae8.1 ((Dk _ _).1 hu);exact aj3.2 (hm l hl)
 ·rcases af7.1 hr with hr|hr
  ·exact h.rg.len r hr
  ·rw[ae5.1 hr];have:=WQ (ls.map (vw Us));simp at this;omega
theorem LP.imp{Us:List Key}{ak:List Rule}{Φ Ψ:(Key->Bool)->Prop}(h:LP Us ak Φ)(e:∀v,Φ v↔Ψ v):LP Us ak Ψ:=
 ⟨λUs' hp α=>(h.sem Us' hp α).trans (e _),h.rg,h.nodup⟩
def lits(sm:Key->Key)(ps:List Key):List aV:=ps.foldl (λacc q=>acc++[if q.1=33 then nl (acc.getD q.2.1 ((0,0,0),false))else(sm q,true)]) []
theorem uT(sm:Key->Key)(ps:List Key)(q:Key):lits sm (ps++[q])=lits sm ps++[if q.1=33 then nl ((lits sm ps).getD q.2.1 ((0,0,0),false))else(sm q,true)]:=by
 unfold lits;rw[an0];rfl
theorem iH(sm:Key->Key)(ps:List Key):(lits sm ps).length=ps.length:=by
 have h:∀qs:List Key,∀ps:List Key,(lits sm ps).length=ps.length->(lits sm (ps++qs)).length=(ps++qs).length:=by
  intro qs
  induction qs with
  |nil=>intro ps h;simpa using h
  |cons q qs ih=>
   intro ps h;have e:ps++q::qs=(ps++[q])++qs:=(by simp);rw[e];exact ih _ (by rw[uT];simp[h])
 simpa using h ps [] rfl
def LK(sm:Key->Key)(v:Key->Bool)(ps:List Key):Prop:=
 ∀ps1 q,ps1++[q] <+: ps->au q.1=true->v (sm q)=jn q.1 (lv v ((lits sm ps1).getD q.2.1 ((0,0,0),false))) (lv v ((lits sm ps1).getD q.2.2 ((0,0,0),false)))
theorem En{α:Type}{a b:List α}{x:α}(h:a <+: b++[x]):a <+: b\/a=b++[x]:=by
 rcases List.prefix_concat_iff.1 h with h|h
 ·exact Or.inr h
 ·exact Or.inl h
theorem LK.snoc{sm:Key->Key}{v:Key->Bool}{ps:List Key}{q:Key}:LK sm v (ps++[q])↔LK sm v ps/\(au q.1=true->v (sm q)=jn q.1 (lv v ((lits sm ps).getD q.2.1 ((0,0,0),false))) (lv v ((lits sm ps).getD q.2.2 ((0,0,0),false)))):=by
 constructor
 ·intro h;exact⟨λps1 q1 hp=>h ps1 q1 (hp.trans (an6 _ _)),h ps q (ag6 _)⟩
 ·rintro⟨h1,h2⟩ ps1 q1 hp;rcases En hp with hp|hp
  ·exact h1 ps1 q1 hp
  ·have:=List.append_inj' hp rfl;obtain⟨rfl,e⟩:=this;have e:q1=q:=(by simpa using e);subst e;exact h2
def qF(sm:Key->Key)(v:Key->Bool)(cl:List Int)(hl:List Bool)(ps:List Key):Prop:=
 ∀q∈ps,(q.1=61->v (sm q)=decide (cl.getD q.2.1 0=cl.getD q.2.2 0))/\(q.1=80\/q.1=81->v (sm q)=hl.getD q.2.1 false)
theorem gq{v:Key->Bool}{L:List aV}{B:List Bool}(h:L.map (lv v)=B){i:Nat}(hi:i<L.length):lv v (L.getD i ((0,0,0),false))=B.getD i false:=by
 subst h;simp[ae7,ac3 hi]
theorem yH{sm:Key->Key}{v:Key->Bool}{cl:List Int}{hl:List Bool}{nt nc:Nat}:∀(ps:List Key),(∀i (h:i<ps.length),dH nt nc i ps[i])->LK sm v ps->qF sm v cl hl ps->(lits sm ps).map (lv v)=dP cl hl ps:=by
 suffices H:∀n (ps:List Key),ps.length=n->(∀i (h:i<ps.length),dH nt nc i ps[i])->LK sm v ps->qF sm v cl hl ps->(lits sm ps).map (lv v)=dP cl hl ps from λps=>H _ ps rfl
 intro n
 induction n with
 |zero=>
  intro ps hn _ _ _;have:ps=[]:=ag9 hn;subst this;rfl
 |succ n ih=>
  intro ps hn hok hk ha;obtain⟨qs,q,rfl⟩:∃qs q,ps=qs++[q]:=⟨ps.dropLast,ps.getLast (by intro e;rw[e]at hn;simp at hn),(List.dropLast_concat_getLast _).symm⟩;have hl1:qs.length=n:=by simpa using hn
  obtain⟨hk1,hk2⟩:=LK.snoc.1 hk;have ih1:=ih qs hl1 (λi h=>by have:=hok i (by simp;omega);rwa [ah9 h]at this) hk1 (λp hp=>ha p (ah6 _ hp));have hq:=hok qs.length (by simp);simp at hq;have haq:=ha q (by simp);rw[uT,aB.kM,ak0,ih1]
  congr 1
  simp only[ar4,List.map_nil]
  congr 1
  have hll:=iH sm qs;unfold lY;rcases hq with⟨a,b,_⟩|⟨a,b,c⟩|⟨a,_,_⟩|⟨a,_,_⟩
  ·rw[ae2 a,wu,gq ih1 (by omega)];simp[a]
  ·have h33:q.1≠33:=(by intro e;rw[e]at a;simp[au]at a);have h61:q.1≠61:=(by intro e;rw[e]at a;simp[au]at a);have h80:¬(q.1=80\/q.1=81):=(by rintro(e|e)<;>(rw[e]at a;simp[au]at a));rw[ad6 h33,ad6 h61,ad6 h80,ad6 h33];have:=hk2 a;rw[gq ih1 (by omega),gq ih1 (by omega)]at this;rw[<-this];simp[lv]
  ·have h33:q.1≠33:=(by omega);have h61:q.1≠61:=(by omega);rw[ad6 h33,ad6 h61,ae2 a,<-haq.2 a];simp[lv]
  ·have h33:q.1≠33:=(by omega);rw[ad6 h33,ae2 a,<-haq.1 a];simp[lv]
structure FW(sm:Key->Key):Prop where
 eq:∀q:Key,q.1=61->(sm q).1=61/\(sm q=q\/((sm q).2=(q.2.2,q.2.1))\/(q.2.1=q.2.2/\(sm q).2.1=(sm q).2.2))
 other:∀q:Key,q.1≠61->sm q=q
theorem Jd:FW id:=⟨λ_ h=>⟨h,Or.inl rfl⟩,λ_ _=>rfl⟩
def cv(cl:List Int)(hl:List Bool)(ps:List Key):Key->Bool:=λp=>lY cl hl (dP cl hl ps) p
theorem U8{cl:List Int}{hl:List Bool}{ps:List Key}{q:Key}(h:q.1=61):cv cl hl ps q=decide (cl.getD q.2.1 0=cl.getD q.2.2 0):=by
 unfold cv lY;rw[ae2 h]
theorem uw{cl:List Int}{hl:List Bool}{ps:List Key}{q:Key}(h:q.1=80\/q.1=81):cv cl hl ps q=hl.getD q.2.1 false:=by
 have h1:q.1≠61:=by omega
 unfold cv lY;rw[ad6 h1,ae2 h]
theorem U7{sm:Key->Key}(hs:FW sm){cl:List Int}{hl:List Bool}{ps:List Key}{q:Key}(h:q.1=61):cv cl hl ps (sm q)=decide (cl.getD q.2.1 0=cl.getD q.2.2 0):=by
 obtain⟨h1,h2⟩:=hs.eq q h;rw[U8 h1];rcases h2 with e|e|⟨e1,e2⟩
 ·rw[e]
 ·rw[e];simp only[ao6];exact⟨Eq.symm,Eq.symm⟩
 ·rw[e1,e2];simp
theorem FD{sm:Key->Key}(hs:FW sm)(cl:List Int)(hl:List Bool)(ps qs:List Key):qF sm (cv cl hl ps) cl hl qs:=by
 refine λq _=>⟨λh=>U7 hs h,λh=>?_⟩;rw[hs.other q (by omega),uw h]
theorem QJ{sm:Key->Key}(hs:FW sm){cl:List Int}{hl:List Bool}{nt nc:Nat}{ps:List Key}(hi:aP nt nc ps):∀n,n<=ps.length->LK sm (cv cl hl ps) (ps.take n):=by
 intro n
 induction n with
 |zero=>
  intro _ ps1 q hp;simp at hp
 |succ n ih=>
  intro hn;have e:ps.take (n+1)=ps.take n++[ps[n]]:=by rw[ag5,ac3 (by omega)];rfl
  have hk:=ih (by omega);rw[e];refine LK.snoc.2 ⟨hk,λhj=>?_⟩;have hv:=yH (nt:=nt) (nc:=nc) (ps.take n) (λi h=>by
   have h2:i<ps.length:=(by simp at h;omega);rw[List.getElem_take];exact hi.ok i h2) hk (FD hs cl hl ps (ps.take n))
  have hq:=hi.ok n (by omega);have hlen:(lits sm (ps.take n)).length=n:=by rw[iH];simp;omega
  have hpl:(dP cl hl (ps.take n)).length=n:=by rw[aB.fQ];simp;omega
  have hpre:dP cl hl (ps.take n) <+: dP cl hl ps:=aB.nK (List.take_prefix _ _);have h33:ps[n].1≠33:=by intro e;rw[e]at hj;simp[au]at hj
  have h61:ps[n].1≠61:=by intro e;rw[e]at hj;simp[au]at hj
  have h80:¬(ps[n].1=80\/ps[n].1=81):=by rintro(e|e)<;>(rw[e]at hj;simp[au]at hj)
  rcases hq with⟨a,_⟩|⟨_,b,c⟩|⟨a,_⟩|⟨a,_⟩
  ·exact absurd a h33
  ·rw[gq hv (by omega),gq hv (by omega),hs.other _ h61];unfold cv lY;rw[ad6 h61,ad6 h80,ad6 h33,aB.kX hpre (by omega),aB.kX hpre (by omega)]
  ·exact absurd a h80
  ·exact absurd a h61
def ZO(sm:Key->Key)(ps:List Key)(v:Key->Bool):Prop:=LK sm v ps/\lv v ((lits sm ps).getD (ps.length-1) ((0,0,0),false))=true
theorem DZ{sm:Key->Key}{v:Key->Bool}{cl:List Int}{hl:List Bool}{nt nc:Nat}{ps:List Key}(hi:aP nt nc ps)(h0:0<ps.length)(h:ZO sm ps v)(ha:qF sm v cl hl ps):(dP cl hl ps).getD (ps.length-1) false=true:=by
 have hv:=yH ps hi.ok h.1 ha;rw[<-h.2,gq hv (by rw[iH];omega)]
theorem FK{sm:Key->Key}(hs:FW sm){cl:List Int}{hl:List Bool}{nt nc:Nat}{ps:List Key}(hi:aP nt nc ps)(h0:0<ps.length)(h:(dP cl hl ps).getD (ps.length-1) false=true):ZO sm ps (cv cl hl ps):=by
 have hk:=QJ (cl:=cl) (hl:=hl) hs hi ps.length (ac2 _);rw[ai1]at hk;have hv:=yH ps hi.ok hk (FD hs cl hl ps ps);exact⟨hk,by rw[gq hv (by rw[iH];omega)];exact h⟩
def Hold(v:Key->Bool)(L:List (List aV)):Prop:=∀c∈L,∃l∈c,lv v l=true
theorem dZ{v:Key->Bool}{L M:List (List aV)}:Hold v (L++M)↔Hold v L/\Hold v M:=by
 unfold Hold;constructor
 ·intro h;exact⟨λc hc=>h c (ah6 _ hc),λc hc=>h c (an8 _ hc)⟩
 ·rintro⟨h1,h2⟩ c hc;rcases af7.1 hc with hc|hc
  ·exact h1 c hc
  ·exact h2 c hc
structure kC(Us:List Key)(ak:List Rule)(L:List (List aV)):Prop where
 lp:LP Us ak (λv=>Hold v L)
 mem:∀c∈L,∀l∈c,l.1∈Us
 len:ak.length=L.length
theorem kC.nil:kC [] [] []:=⟨LP.nil.imp (λ_=>⟨λ_ c hc=>by(cases hc),λ_=>trivial⟩),λc hc=>by(cases hc),rfl⟩
theorem kC.so{Us:List Key}{ak:List Rule}{L:List (List aV)}(h:kC Us ak L)(p:Key):kC (put Us p) ak L:=
 ⟨h.lp.so p,λc hc l hl=>(aN Us p).mem (h.mem c hc l hl),h.len⟩
theorem kC.demand{Us:List Key}{ak:List Rule}{L:List (List aV)}(h:kC Us ak L){ls:List aV}(h0:ls≠[])(h1:ls.length<=1000)(hm:∀l∈ls,l.1∈Us):kC Us (ak++[dd (ls.map (vw Us))]) (L++[ls]):=by
 refine⟨(h.lp.demand h0 h1 hm).imp (λv=>?_),λc hc=>?_,by simp[h.len]⟩
 ·rw[dZ];refine and_congr Iff.rfl ⟨λe c hc=>?_,λe=>e ls (by simp)⟩;rw[ae5.1 hc];exact e
 ·rcases af7.1 hc with hc|hc
  ·exact h.mem c hc
  ·rw[ae5.1 hc];exact hm
theorem aU(Us:List Key)(p:Key):p∈put Us p:=tC.2 (Or.inr rfl)
def lN(w f s:aV):List (List aV):=[[nl w,f],[nl w,s],[w,nl f,nl s]]
def qB(w f s:aV):List (List aV):=[[w,f,s],[w,nl f,nl s],[nl w,f,nl s],[nl w,nl f,s]]
theorem uX{v:Key->Bool}{w f s:aV}:Hold v (lN w f s)↔lv v w=(lv v f&&lv v s):=by
 unfold Hold lN;simp only[ah0,aj8,ao3,forall_eq_or_imp,forall_eq,exists_eq_or_imp,aq6,wu];cases lv v w<;>cases lv v f<;>cases lv v s<;>simp
theorem Hg{v:Key->Bool}{w f s:aV}:Hold v (qB w f s)↔lv v w=(lv v f==lv v s):=by
 unfold Hold qB;simp only[ah0,aj8,ao3,forall_eq_or_imp,forall_eq,exists_eq_or_imp,aq6,wu];cases lv v w<;>cases lv v f<;>cases lv v s<;>simp
def xM(sm:Key->Key)(acc:List aV)(q:Key):List (List aV):=
 if q.1=38 then lN (sm q,true) (acc.getD q.2.1 ((0,0,0),false)) (acc.getD q.2.2 ((0,0,0),false))
 else if q.1=124 then lN (nl (sm q,true)) (nl (acc.getD q.2.1 ((0,0,0),false))) (nl (acc.getD q.2.2 ((0,0,0),false)))
 else if q.1=62 then lN (nl (sm q,true)) (acc.getD q.2.1 ((0,0,0),false)) (nl (acc.getD q.2.2 ((0,0,0),false)))
 else if q.1=45 then qB (sm q,true) (acc.getD q.2.1 ((0,0,0),false)) (acc.getD q.2.2 ((0,0,0),false))
 else []
theorem PG{sm:Key->Key}{v:Key->Bool}{acc:List aV}{q:Key}:Hold v (xM sm acc q)↔(au q.1=true->v (sm q)=jn q.1 (lv v (acc.getD q.2.1 ((0,0,0),false))) (lv v (acc.getD q.2.2 ((0,0,0),false)))):=by
 have hw:lv v (sm q,true)=v (sm q):=by simp[lv]
 unfold xM jn;by_cases h1:q.1=38
 ·rw[ae2 h1,uX,hw,ae2 h1];simp[au,h1]
 ·rw[ad6 h1];by_cases h2:q.1=124
  ·rw[ae2 h2,uX,wu,wu,wu,hw];simp[au,h2]
  ·rw[ad6 h2];by_cases h3:q.1=62
   ·rw[ae2 h3,uX,wu,wu,hw];simp[au,h3]
   ·rw[ad6 h3];by_cases h4:q.1=45
    ·rw[ae2 h4,Hg,hw];simp[au,h4]
    ·rw[ad6 h4];have:au q.1=false:=(by simp[au,h1,h2,h3,h4]);simp[this,Hold]
def uq(sm:Key->Key):Nat->List Key->List (List aV)
 |0,_=>[]
 |k+1,ps=>uq sm k ps++match ps[k]? with
  |some q=>xM sm (lits sm (ps.take k)) q
  |none=>[]
theorem Bh{sm:Key->Key}{k:Nat}{ps:List Key}(h:k<ps.length):uq sm (k+1) ps=uq sm k ps++xM sm (lits sm (ps.take k)) ps[k]:=by
 show _++_=_
 rw[ac3 h]
theorem MN{sm:Key->Key}{v:Key->Bool}{ps:List Key}:∀k,k<=ps.length->(Hold v (uq sm k ps)↔LK sm v (ps.take k)):=by
 intro k
 induction k with
 |zero=>
  intro _;constructor
  ·intro _ ps1 q hp;simp at hp
  ·intro _ c hc;cases hc
 |succ k ih=>
  intro hk;have e:ps.take (k+1)=ps.take k++[ps[k]]:=by rw[ag5,ac3 (by omega)];rfl
  rw[Bh (by omega),dZ,ih (by omega),PG,e,LK.snoc]
def l9(sm:Key->Key)(ps:List Key):List (List aV):=uq sm ps.length ps++[[(lits sm ps).getD (ps.length-1) ((0,0,0),false)]]
theorem uf{sm:Key->Key}{v:Key->Bool}{ps:List Key}:Hold v (l9 sm ps)↔ZO sm ps v:=by
 unfold l9 ZO;rw[dZ,MN _ (ac2 _),ai1];refine and_congr Iff.rfl ⟨λh=>?_,λh c hc=>?_⟩
 ·obtain⟨l,hl,h1⟩:=h _ (ae5.2 rfl);rw[ae5.1 hl]at h1;exact h1
 ·rw[ae5.1 hc];exact⟨_,ae5.2 rfl,h⟩
def bJ(a b:Nat):Key:=(61,a,b)
def Qz(sm:Key->Key)(n:Nat):List (List aV):=
 [[(sm (bJ 0 0),true)]]++(List.range n).flatMap λa=>(List.range n).flatMap λb=>(List.range a).map λc=>[(sm (bJ a b),false),(sm (bJ b c),false),(sm (bJ a c),true)]
def U4(sm:Key->Key)(ts:List Key):List (List aV):=
 (List.range ts.length).flatMap λa=>(List.range a).flatMap λb=>
  if (ts.getD a (0,0,0)).1=(ts.getD b (0,0,0)).1 then [[(sm (bJ (ts.getD a (0,0,0)).2.1 (ts.getD b (0,0,0)).2.1),false),(sm (bJ (ts.getD a (0,0,0)).2.2 (ts.getD b (0,0,0)).2.2),false),(sm (bJ a b),true)]]else []
def Xo(sm:Key->Key)(cs:List (Int×Nat)):List (List aV):=
 (List.range cs.length).flatMap λa=>(List.range a).flatMap λb=>
  if (cs.getD a (0,0)).1=(cs.getD b (0,0)).1 then
   [[(sm (bJ (cs.getD a (0,0)).2 (cs.getD b (0,0)).2),false),(sm ((cs.getD a (0,0)).1,a,0),true),(sm ((cs.getD b (0,0)).1,b,0),false)],
    [(sm (bJ (cs.getD a (0,0)).2 (cs.getD b (0,0)).2),false),(sm ((cs.getD a (0,0)).1,a,0),false),(sm ((cs.getD b (0,0)).1,b,0),true)]]else []
theorem jY{v:Key->Bool}{n:Nat}{g:Nat->List (List aV)}:Hold v ((List.range n).flatMap g)↔∀a,a<n->Hold v (g a):=by
 unfold Hold;constructor
 ·intro h a ha c hc;exact h c (ak7.2 ⟨a,ai5.2 ha,hc⟩)
 ·intro h c hc;obtain⟨a,ha,hc⟩:=ak7.1 hc;exact h a (ai5.1 ha) c hc
theorem EY{sm:Key->Key}{v:Key->Bool}{n:Nat}:Hold v (Qz sm n)↔v (sm (bJ 0 0))=true/\∀a,a<n->∀b,b<n->∀c,c<a->v (sm (bJ a b))=true->v (sm (bJ b c))=true->v (sm (bJ a c))=true:=by
 unfold Qz;rw[dZ,jY];refine and_congr ?_ (al4 λa=>al4 λha=>?_)
 ·unfold Hold;simp only[ah0,aj8,ao3,forall_eq,aq6,lv];cases v (sm (bJ 0 0))<;>simp
 ·rw[jY];refine al4 λb=>al4 λhb=>?_;unfold Hold;constructor
  ·intro h c hc h1 h2;have:=h _ (ae8.2 ⟨c,ai5.2 hc,rfl⟩);simp[lv,h1,h2]at this;exact this
  ·intro h c hc;obtain⟨c',hc',rfl⟩:=ae8.1 hc;have:=h c' (ai5.1 hc');simp only[ah0,aj8,ao3,exists_eq_or_imp,aq6,lv];cases h1:v (sm (bJ a b))<;>cases h2:v (sm (bJ b c'))<;>simp_all
theorem EX{sm:Key->Key}{v:Key->Bool}{ts:List Key}:Hold v (U4 sm ts)↔∀a,a<ts.length->∀b,b<a->(ts.getD a (0,0,0)).1=(ts.getD b (0,0,0)).1->v (sm (bJ (ts.getD a (0,0,0)).2.1 (ts.getD b (0,0,0)).2.1))=true->v (sm (bJ (ts.getD a (0,0,0)).2.2 (ts.getD b (0,0,0)).2.2))=true->v (sm (bJ a b))=true:=by
 unfold U4;rw[jY];refine al4 λa=>al4 λha=>?_;rw[jY];refine al4 λb=>al4 λhb=>?_;by_cases e:(ts.getD a (0,0,0)).1=(ts.getD b (0,0,0)).1
 ·rw[ae2 e];unfold Hold;simp only[ah0,aj8,ao3,forall_eq,exists_eq_or_imp,aq6,lv];constructor
  ·intro h _ h1 h2;rw[h1,h2]at h;cases h3:v (sm (bJ a b))<;>simp_all
  ·intro h;have:=h e;cases h1:v (sm (bJ (ts.getD a (0,0,0)).2.1 (ts.getD b (0,0,0)).2.1))<;>cases h2:v (sm (bJ (ts.getD a (0,0,0)).2.2 (ts.getD b (0,0,0)).2.2))<;>simp_all
 ·rw[ad6 e];exact⟨λ_ h=>absurd h e,λ_ c hc=>by cases hc⟩
theorem EU{sm:Key->Key}{v:Key->Bool}{cs:List (Int×Nat)}:Hold v (Xo sm cs)↔∀a,a<cs.length->∀b,b<a->(cs.getD a (0,0)).1=(cs.getD b (0,0)).1->v (sm (bJ (cs.getD a (0,0)).2 (cs.getD b (0,0)).2))=true->v (sm ((cs.getD a (0,0)).1,a,0))=v (sm ((cs.getD b (0,0)).1,b,0)):=by
 unfold Xo;rw[jY];refine al4 λa=>al4 λha=>?_;rw[jY];refine al4 λb=>al4 λhb=>?_;by_cases e:(cs.getD a (0,0)).1=(cs.getD b (0,0)).1
 ·rw[ae2 e];unfold Hold;simp only[ah0,aj8,ao3,forall_eq_or_imp,forall_eq,exists_eq_or_imp,aq6,lv];constructor
  ·rintro⟨h1,h2⟩ _ h3;rw[h3]at h1 h2;cases h4:v (sm ((cs.getD a (0,0)).1,a,0))<;>cases h5:v (sm ((cs.getD b (0,0)).1,b,0))<;>simp_all
  ·intro h;have:=h e;cases h3:v (sm (bJ (cs.getD a (0,0)).2 (cs.getD b (0,0)).2))<;>cases h4:v (sm ((cs.getD a (0,0)).1,a,0))<;>cases h5:v (sm ((cs.getD b (0,0)).1,b,0))<;>simp_all
 ·rw[ad6 e];exact⟨λ_ h=>absurd h e,λ_ c hc=>by cases hc⟩
end
open Go.ChangeShapes Go.WideShapes Go.ChangeAt Go.RowKit
open Go.ChangeMaps (open_string shut_string)
theorem XG:ownKnob prog.godebug=none:=by kernel_rfl
theorem iV:laidOutB prog=true:=by kernel_rfl
theorem Ns:prog.cellsOf 3=1:=by kernel_rfl
theorem Ro(b off i:Nat):(⟨b,off,none⟩:Addr).add i=⟨b,off+i,none⟩:=by
 unfold Addr.add;split
 ·rename_i h;subst h;rfl
 ·rfl
end Go.Proofs.YthcppbmkacbbiaaGreat
