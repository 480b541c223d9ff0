import Derived.Test.YthcppbmkacbbiabGreatVBL
set_option linter.unusedSimpArgs false
set_option maxHeartbeats 4000000
set_option maxRecDepth 100000
namespace Go.Proofs.YthcppbmkacbbiabGreat
open Go.Proofs.Tryz
section
open Sat (View Rule og dN)
open au (Key put tV gV jn aB bJ fQ jD isAtom)
def Th1(Y:Ai)(cs:Ah)(Us:Ai)(α:Nat->Bool):Prop:=
 ∃g hl,GI g Y/\afU g cs hl/\∀p∈Us,(p.1=61->(g p.2.1=g p.2.2↔α (Us.idxOf p)=true))/\(p.1=80\/p.1=81->hl.getD p.2.1 false=α (Us.idxOf p))
def Vy(s:pV):View:=(s.1,!s.2.1)
theorem Gv{Y:Ai}{f f' f'':Nat->Nat}(h':Closed Y f f')(EL:Closed Y f f''){a b:Nat}(ha:a<Y.length)(hb:b<Y.length)(h:f' a=f' b):f'' a=f'' b:=
 h'.least (λa b=>f'' a=f'' b) (Pz f'') ((qM f'' Y).1 EL.Ue) (λa b _ _ e=>EL.ker a b e) a b ha hb h
theorem aa4{Y:Ai}{cs:Ah}{said:List dw}{f f' f'':Nat->Nat}(hs:wU Y cs said)(vC:∀x∈cs,(x.1=80\/x.1=81)/\x.2<Y.length)(h':Closed Y f f')(EL:Closed Y f f'')(h:cb f' cs said):cb f'' cs said:=by
 refine⟨λl hl jP hf e=>?_,λl hl m hm jP WJ JJ e=>?_⟩
 ·obtain⟨_,q1,q2⟩|⟨q,_⟩:=hs l hl
  ·exact h.1 l hl jP hf (Gv EL h' q1 q2 e)
  ·omega
 ·obtain⟨q,_⟩|⟨_,p1,p2⟩:=hs l hl
  ·exact absurd q jP
  ·obtain⟨q,_⟩|⟨_,r1,r2⟩:=hs m hm
   ·exact absurd q WJ
   ·refine h.2 l hl m hm jP WJ JJ ?_;rw[aU p1,aU r1]at e ⊢;exact Gv EL h' (vC _ (an5 p1)).2 (vC _ (an5 r1)).2 e
theorem aeD{f:Key->Key}{Us ps:Ai}:∀k,k<=ps.length->∀q∈ps.take k,q.1≠33->f q∈vH f Us ps k:=by
 intro k
 induction k with
 |zero=>intro _ q hq;simp at hq
 |succ k ih=>
  intro hk q hq mV;have iQ:k<ps.length:=O
  rw[tY iQ];have e:ps.take (k+1)=ps.take k++[ps[k]]:=by rw[aq3,an3 iQ];rfl
  rw[e]at hq;obtain hq|hq:=aq7.1 hq
  ·exact(PU _ _ _).mem (ih O q hq mV)
  ·rw[ap8.1 hq]at mV ⊢;unfold PV;rw[an8 mV];exact dL _ _
section
variable {Y:List Key} {cs:List (Int×Nat)} {ps Us:List Key} {aW ak:List Rule} {τ:List Tr}
theorem wP(hi:bJ Y.length cs.length ps)(hk:jD cs ps){q:Key}(hq:q∈xA ps)(ha:isAtom q.1=true):(q.1=61/\q.2.1<Y.length/\q.2.2<Y.length)\/((q.1=80\/q.1=81)/\(∃h:q.2.1<cs.length,cs[q.2.1].1=q.1)/\q.2.2=0):=by
 have hq:=(as6.1 hq).1;obtain⟨i,hlt,e⟩:=ar6 hq;have ho:=hi.ok i hlt;rw[e]at ho;simp only[isAtom,as7]at ha;obtain⟨a,_⟩|⟨a,_⟩|⟨a,_,b⟩|⟨a,b,c⟩:=ho
 ·omega
 ·obtain e|e|e:=ha<;>(rw[e]at a;simp[aB]at a)
 ·exact Or.inr ⟨a,hk.letter q hq a,b⟩
 ·exact Or.inl ⟨a,b,c⟩
theorem IV(hi:bJ Y.length cs.length ps)(hk:jD cs ps)(hc:∀p∈Us,p∈xA ps)(hn:Us.Nodup){S:List pV}(hS:∀s∈S,s∈jr Us τ):wU Y cs (S.map fM):=by
 intro l hl;obtain⟨s,hs,rfl⟩:=ap6.1 hl;obtain⟨g1,g2,_,_⟩:=Bz hn (hS s hs);obtain⟨a,b,c⟩|⟨a,b,c⟩:=wP hi hk (hc _ g1) g2
 ·exact Or.inl ⟨a,b,c⟩
 ·exact Or.inr ⟨a,b⟩
theorem ZT(hi:bJ Y.length cs.length ps)(hk:jD cs ps)(hc:∀p∈Us,p∈xA ps)(hn:Us.Nodup)(vC:∀x∈cs,(x.1=80\/x.1=81)/\x.2<Y.length){S:List pV}(hS:∀s∈S,s∈jr Us τ){f':Nat->Nat}(hf:Closed Y (cZ (S.map fM)) f')(UH:¬cb f' cs (S.map fM))
 (α:Nat->Bool)(hα:Th1 Y cs Us α):Sat.keeps α (S.map Vy):=by
 refine aq4 λny=>UH ?_;obtain⟨g,hl,hg,ha,hα⟩:=hα;refine aeg (IV hi hk hc hn hS) hf vC hg ha (λl hlm=>?_);obtain⟨s,hs,rfl⟩:=ap6.1 hlm;obtain⟨g1,g2,g3,g4⟩:=Bz hn (hS s hs);have hv:α s.1=s.2.1:=by
  refine aq4 λbg=>ny ⟨Vy s,ap6.2 ⟨s,hs,rfl⟩,?_⟩
  show α s.1=!s.2.1
  cases I:α s.1<;>cases M:s.2.1<;>simp_all
 obtain⟨q1,q2⟩:=hα _ g1;rw[<-g4,hv]at q1 q2;refine⟨q1,λjP=>q2 ?_⟩;have jP:s.2.2.1≠61:=jP;simp only[isAtom,as7]at g2;omega
theorem ZR(aX:∀x,x<Us.length->sS τ x=true){S:List pV}(hS:∀s∈S,s∈jr Us τ):∀u∈S.map Vy,u.1<Us.length/\Sat.wrong (bel τ) u:=by
 intro u hu;obtain⟨s,hs,rfl⟩:=ap6.1 hu;obtain⟨hl,_,I,_⟩:=Jl.1 (hS s hs);obtain⟨b,M,h3⟩:=Ye (aX s.1 hl);refine⟨hl,b,M,?_⟩
 show b.1≠!s.2.1
 rw[h3,I];cases Xm τ s.1<;>simp
theorem ZV{S:List pV}(h:(S.map (·.1)).Nodup):(S.map Vy).Nodup:=by
 unfold List.Nodup at h ⊢;rw[List.pairwise_map]at h ⊢;refine h.imp (λbg e=>bg ?_);have M:(Vy _).1=(Vy _).1:=ax1 (λv:View=>v.1) e;exact M
theorem ahX(f:Nat->Nat)(cs:Ah):cb f cs []:=⟨λl hl=>(by cases hl),λl hl=>(by cases hl)⟩
theorem Zb(hi:bJ Y.length cs.length ps)(hk:jD cs ps)(h0:0<ps.length)(vC:∀x∈cs,(x.1=80\/x.1=81)/\x.2<Y.length)
 (hP:vG Us aW (tZ id ps))(hc:∀p∈Us,p∈xA ps)(hU:∀q∈ps,q.1≠33->q∈Us)(hd:Sat.Done ak (bel τ))(hs:∀r∈aW,r∈ak)(aX:∀x,x<Us.length->sS τ x=true)
 {f' f'':Nat->Nat}(O5:Closed Y (cZ ((jr Us τ).map fM)) f')(yP:cb f' cs ((jr Us τ).map fM))(ajP:Closed Y (cZ ((jr Us τ).map fM)) f''):Om f'' Y cs ps (rJ (jr Us τ) cs.length):=by
 have hkp:=Kq hd hs hP.lp.rg.lt aX;have hH:Hold (vsn Us τ) (tZ id ps):=(hP.lp.sem Us (av9 _) (Xm τ)).1 hkp;have iL:=hP.lp.nodup;have wu:=IV (τ:=τ) hi hk hc iL (λs hs=>hs);refine Ug hi hk h0 vC hH (λq hq ha=>?_) ajP (aa4 wu vC O5 ajP yP) (λc Fj=>?_)
 ·have hm:=hU q hq O;exact ap6.2 ⟨_,Oz hm (by simp only[isAtom,as7];exact ha),rfl⟩
 ·refine SS Fj (λs oI jP hsc=>?_) ?_
  ·obtain⟨g1,g2,g3,g4⟩:=Bz iL oI;obtain⟨a,_⟩|⟨a,⟨b1,b2⟩,c0⟩:=wP hi hk (hc _ g1) g2
   ·exact absurd a jP
   ·rw[g3]
    congr 1
    have:s.2.2=(s.2.2.1,s.2.2.2.1,s.2.2.2.2):=rfl;rw[this,c0,<-b2];simp only[hsc]
  ·have h8:=(vC _ (an5 Fj)).1;have hm:=hU _ (hk.has c Fj) (by show cs[c].1≠33;omega);exact Or.inr ⟨_,Oz hm (by simp only[isAtom,as7];omega),by show cs[c].1≠61;omega,rfl⟩
theorem Za(hi:bJ Y.length cs.length ps)(hk:jD cs ps)(h0:0<ps.length)(hP:vG Us aW (tZ id ps))(hc:∀p∈Us,p∈xA ps)(ny:∀α:Nat->Bool,Th1 Y cs Us α->¬∀r∈aW,Sat.keeps α r):¬∃f hl,hl.length=cs.length/\Om f Y cs ps hl:=by
 rintro⟨f,hl,_,hm⟩;refine ny _ ⟨f,hl,hm.Ue,(zZ f cs hl).1 hm.agr,λp hp=>?_⟩ (SK hP (Vz hi h0 hm));have hlt:=av2.2 hp;rw[aU hlt,ar8 hlt];refine⟨λjP=>?_,λh8=>(Ee h8).symm⟩;rcases wP hi hk (hc _ hp) (by simp[isAtom,jP])with⟨_,b,c⟩|⟨a,_⟩
 ·rw[agp jP,pK f b,pK f c];simp only[as7];omega
 ·omega
end
end
open Go.RowKit Go.Maps Go.WideMaps
open au (Key put)
attribute [local go_sem] Oper.semAt_some
structure pO(w0:World)(f:Nat->Nat)(nt nc:Nat)(o1 o5 o7:Option Nat)(W:World):Prop where
 below:Below w0.heap.size w0 W
 i1:∀b,o1=some b->JG w0 f nt b W
 i5:∀H,o5=some H->w0.heap.size<=H/\W.heap[H]?=some (.cells (madeCells #[.bool false] nc) 4)
 i7:∀X,o7=some X->w0.heap.size<=X/\W.heap[X]?=some (.cells #[.map none,.slice none 0 0] 56)
theorem pO.grow{w0:World}{f:Nat->Nat}{nt nc:Nat}{o1 o5 o7:Option Nat}{W W':World}(h:pO w0 f nt nc o1 o5 o7 W)(hb:Below W.heap.size W W'):pO w0 f nt nc o1 o5 o7 W' where
 below:=h.below.trans (hb.mono h.below.size)
 i1:=λb e=>(h.i1 b e).grow (dX hb)
 i5:=λH e=>⟨(h.i5 H e).1,(hb.block H (an0.1 (h.i5 H e).2).1).trans (h.i5 H e).2⟩
 i7:=λX e=>⟨(h.i7 X e).1,(hb.block X (an0.1 (h.i7 X e).2).1).trans (h.i7 X e).2⟩
theorem below_alloc1(W:World)(o:Obj):Below W.heap.size W (W.alloc o):=(aq1 _ _).alloc (an2 _) _
theorem pO.s7{w0:World}{f:Nat->Nat}{nt nc:Nat}{o1 o5:Option Nat}{W:World}(h:pO w0 f nt nc o1 o5 none W):pO w0 f nt nc o1 o5 (some W.heap.size) (W.alloc (.cells #[.map none,.slice none 0 0] 56)):=by
 have M:=h.grow (below_alloc1 W (.cells #[.map none,.slice none 0 0] 56));exact⟨M.below,M.i1,M.i5,λX e=>by cases e;exact⟨h.below.size,ap5 _ _⟩⟩
theorem pO.s5{w0:World}{f:Nat->Nat}{nt nc:Nat}{o1 o7:Option Nat}{W:World}(h:pO w0 f nt nc o1 none o7 W):pO w0 f nt nc o1 (some W.heap.size) o7 (W.alloc (.cells (madeCells #[.bool false] nc) 4)):=by
 have M:=h.grow (below_alloc1 W (.cells (madeCells #[.bool false] nc) 4));exact⟨M.below,M.i1,λX e=>(by cases e;exact⟨h.below.size,ap5 _ _⟩),M.i7⟩
theorem pO.s1{w0:World}{f:Nat->Nat}{nt nc b:Nat}{o5 o7:Option Nat}{W W':World}(h:pO w0 f nt nc none o5 o7 W)(hJ:JG W f nt b W'):pO w0 f nt nc (some b) o5 o7 W':=by
 have M:=h.grow hJ.below;exact⟨M.below,λc e=>(by cases e;exact⟨hJ.m,hJ.roots,M.below,ap3 h.below.size hJ.lo⟩),M.i5,M.i7⟩
theorem kM.obj{W:World}{b n c:Nat}{f:Nat->Nat}(h:kM W b f n c):∃o:Obj,W.heap[b]?=some o/\∀c t fz,o≠.cells c t fz:=by
 obtain⟨g,d,⟨D,nn,_,⟨es,clock,I,_⟩,_⟩,_⟩:=h;exact⟨_,I,λ_ _ _ e=>by cases e⟩
theorem JG.uz{w W:World}{f:Nat->Nat}{n b:Nat}(h:JG w f n b W){k:Nat}{cur:Array Value}{t:TypeId}{x:Nat×Nat}(hk:W.heap[k]?=some (.cells cur t x)):b≠k:=λe=>by
 obtain⟨c,I,_⟩:=h.m;obtain⟨o,M,h3⟩:=I.obj;subst e;rw[hk]at M;exact h3 _ _ _ (at7 M).symm
theorem JG.setCell{w W:World}{f:Nat->Nat}{n b:Nat}(h:JG w f n b W){p:Addr}(hp:w.heap.size<=p.block)(hb:b≠p.block)(v:Value):JG w f n b (W.setCell p v):=by
 obtain⟨c,I,M⟩:=h.m;exact⟨⟨c,I.kept (ao9 _ _ _ _ hb),M⟩,h.roots,h.below.setCell hp _,h.lo⟩
structure ST(w0:World)(f:Nat->Nat)(nt b H X:Nat)(hl:List Bool)(W:World):Prop where
 j:JG w0 f nt b W
 lh:w0.heap.size<=H
 lx:w0.heap.size<=X
 x:W.heap[X]?=some (.cells #[.map (some b),Ac H 0 hl.length hl.length] 56)
 h:W.heap[H]?=some (.cells (hl.map Value.bool).toArray 4)
theorem ae7(nc:Nat):madeCells #[.bool false] nc=((List.replicate nc false).map Value.bool).toArray:=by
 apply Array.ext_getElem?;intro i;by_cases hi:i<nc
 ·simp[madeCells,hi,Nat.mod_one]
 ·simp[madeCells,hi]
theorem IU{W:World}{X t:Nat}{p q u v:Value}(h:W.heap[X]?=some (.cells #[p,q] t)):((W.setCell (J X 0) u).setCell (J X 1) v).heap[X]?=some (.cells #[u,v] t):=by
 have I:(W.setCell (J X 0) u).heap[X]?=some (.cells #[u,q] t):=by rw[heap_setCell_same h];rfl
 rw[heap_setCell_same I];rfl
theorem pO.akp{w0:World}{f:Nat->Nat}{nt nc b H X:Nat}{W:World}(h:pO w0 f nt nc (some b) (some H) (some X) W):ST w0 f nt b H X (List.replicate nc false) ((W.setCell (J X 0) (.map (some b))).setCell (J X 1) (Ac H 0 nc nc)):=by
 obtain⟨lx,hx⟩:=h.i7 X rfl;obtain⟨lh,hh⟩:=h.i5 H rfl;have hj:=h.i1 b rfl;have n1:H≠X:=λe=>by
  subst e;rw[hx]at hh;have I:=at7 hh;injection I with _ M _
  exact absurd M ane
 refine⟨(hj.setCell (p:=(J X 0)) lx (hj.uz hx) _).setCell (p:=(J X 1)) lx (hj.uz hx) _,lh,lx,?_,?_⟩
 ·rw[List.length_replicate];exact IU hx
 ·rw[<-ae7 nc];exact((ao9 _ _ _ _ n1).trans (ao9 _ _ _ _ n1)).trans hh
theorem ST.set{w0:World}{f:Nat->Nat}{nt b H X:Nat}{hl:List Bool}{W:World}(h:ST w0 f nt b H X hl W)(c:Nat)(i:Bool):ST w0 f nt b H X (hl.set c i) (W.setCell (J H c) (.bool i)):=by
 have n1:X≠H:=λe=>by
  have I:=h.x;rw[e,h.h]at I;have M:=at7 I;injection M with _ h3 _
  exact absurd h3 ane
 refine⟨h.j.setCell (p:=(J H c)) h.lh (h.j.uz h.h) _,h.lh,h.lx,?_,?_⟩
 ·rw[List.length_set,ao9 _ _ _ _ n1];exact h.x
 ·rw[heap_setCell_same h.h]
  congr 2
  simp[List.map_set]
theorem ST.rows{w0:World}{f:Nat->Nat}{nt b H X:Nat}{hl:List Bool}{W:World}(h:ST w0 f nt b H X hl W):eP W H hl:=by
 refine⟨(an0.1 h.h).1,λi hi=>?_⟩;rw[cell_of h.h];simp[hi]
theorem ST.grow{w0:World}{f:Nat->Nat}{nt b H X:Nat}{hl:List Bool}{W W':World}(h:ST w0 f nt b H X hl W)(hg:W.grownBy W' none):ST w0 f nt b H X hl W':=
 ⟨h.j.grow hg,h.lh,h.lx,(hg.block X (an0.1 h.x).1 R).trans h.x,(hg.block H (an0.1 h.h).1 R).trans h.h⟩
theorem wX(GT GC GP nt nc np:Nat)(v:Value)(ss:List pV)(w:World)(h7:nt<=7)(h4:nc<=4)(hs:kC w v ss)(hl:ss.length<=1000)(iq:∀s∈ss,(s.2.2.1=61->s.2.2.2.1<nt/\s.2.2.2.2<nt)/\(s.2.2.1≠61->s.2.2.2.1<nc)) :
  Calls prog 62 #[fv GT GC GP nt nc np,v] w λe w'=>∃b H,e=.returned (sv b H nc)/\w.heap.size<=H/\JG w (cZ (ss.map fM)) nt b w'/\eP w' H (rJ ss nc):=by
 obtain⟨vp,vc,rfl,hvc,Lc⟩:=hs.cells;unfold fv
 go_in
 go_wp2_with fail
 obtain⟨w0,kW⟩:∃w0,(w.alloc (.cells #[Ac GT 0 nt nt,Ac GC 0 nc nc,Ac GP 0 np np] 46)).alloc (.cells #[.map none,.slice none 0 0] 56)=w0:=⟨_,rfl⟩;have kQ:Below w.heap.size w w0:=by rw[<-kW];exact((aq1 _ w).alloc (an2 _) _).alloc R _
 have jR:w0.heap.size=w.heap.size+2:=by rw[<-kW];simp
 have O4:w0.cell? (J w.heap.size 1)=some (Ac GC 0 nc nc):=by rw[<-kW];simp[go_sem]
 have rE:w0.heap[w.heap.size+1]?=some (.cells #[.map none,.slice none 0 0] 56):=by rw[<-kW];have:=ap5 (w.alloc (.cells #[Ac GT 0 nt nt,Ac GC 0 nc nc,Ac GP 0 np np] 46)) (.cells #[.map none,.slice none 0 0] 56);simpa using this
 have HS:Hid (∀W':World,Below w0.heap.size w0 W'->W'.cell? (J w.heap.size 1)=some (Ac GC 0 nc nc)):=λW' hb=>(hb.cell (p:=(J w.heap.size 1)) (by show w.heap.size<w0.heap.size;omega)).trans O4;have HMK:Hid (∀W:World,(Instr.makeSlice 54 (A (nc:Int)) (A (nc:Int))).run prog W=.ok (Ac W.heap.size 0 nc nc) (W.alloc (.cells (madeCells #[.bool false] nc) 4))):=λW=>
  run_make_row' (P:=prog) 54 4 (.bool false) 1 underlying54 Jw rfl .i64 .i64 nc O O W
 have HJN:Hid (∀W:World,Below w0.heap.size w0 W->Calls prog 120 #[.slice vp ss.length vc] W λe W'=>∃b,e=.returned (.map (some b))/\JG W (cZ (ss.map fM)) nt b W'):=λW hb=>
  Gf W _ ss nt (kC.below hs (kQ.trans (hb.mono O))) O hl (λs I M=>(iq s I).1 M)
 have hI:pO w0 (cZ (ss.map fM)) nt nc none none none w0:=⟨aq1 _ _,λ_ e=>(by cases e),λ_ e=>(by cases e),λ_ e=>(by cases e)⟩;rw[kW];have HVS:=F Lc;have HOK:=F iq;refine Code.wp_mono (Q:=λe a W'=>e=.normal/\∃(b H X:Nat),a={tmps:=#[.agg #[Ac GT 0 nt nt,Ac GC 0 nc nc,Ac GP 0 np np],.slice vp ss.length vc,Aa w.heap.size 0,undef,Aa (w.heap.size+1) 0,Aa X 0,undef,undef,.slice vp ss.length vc,.map (some b),Aa w.heap.size 1,Ac GC 0 nc nc,A nc,Ac H 0 nc nc,.agg #[.map (some b),Ac H 0 nc nc],undef,undef,undef,undef,undef,undef,undef,undef,undef,undef,undef,undef,undef,undef,undef,undef,undef,undef,undef,undef,undef],defers:=[]}/\ST w0 (cZ (ss.map fM)) nt b H X (List.replicate nc false) W') ?_ ?_
 rotate_left
 ·refine aq8 (S:=λW'=>W'.cell? (J w.heap.size 1)=some (Ac GC 0 nc nc)) rfl ?_;simp only[ao5,ao1,ap0,Nat.reduceAdd,an7,an6,ao6,ao8,ao7];have Lj:Below w0.heap.size w0 w0.drew:=(aq1 _ _).drew;have hI:=hI.grow Lj;change wpAnyH prog .any _ _ _ _ _ _ w0.drew;generalize w0.drew=W at hI ⊢;have aA:=Z HS _ hI.below;refine dF 0 (.slice vp ss.length vc) aA ?_
  simp only[aF];refine dF 2 (Aa w.heap.size 1) aA ?_
  simp only[aF];refine dF 3 (Ac GC 0 nc nc) aA ?_
  simp only[aF];refine dF 4 (A nc) aA ?_
  simp only[aF]
  repeat'
   first
   |(show pz _ _ _ _ _ _ _ 1 _ _
     refine oO (λK hK=>?_);have Td:=Z HJN W hI.below;go_simp;refine Td.mono ?_;rintro e W2 ⟨b,rfl,hJ⟩;have dD:=hI.s1 hJ;refine hK.out _ _ ⟨Z HS _ dD.below,?_⟩
     rename World=>W
     have hI:=dD;clear dD)
   |(show pz _ _ _ _ _ _ _ 5 _ _
     refine oO (λK hK=>?_);have dD:=hI.s5;have wC:=Z HMK W;go_simp;refine hK.out _ _ ⟨Z HS _ dD.below,?_⟩;generalize W.alloc (.cells (madeCells #[.bool false] nc) 4)=W2 at dD ⊢;generalize W.heap.size=H at dD ⊢
     rename World=>W
     have hI:=dD;clear dD)
   |(show pz _ _ _ _ _ _ _ 7 _ _
     refine oO (λK hK=>?_);have dD:=hI.s7;go_simp;refine hK.out _ _ ⟨Z HS _ dD.below,?_⟩;generalize W.alloc (.cells #[.map none,.slice none 0 0] 56)=W2 at dD ⊢;generalize W.heap.size=X at dD ⊢
     rename World=>W
     have hI:=dD;clear dD)
   |(show pz _ _ _ _ _ _ _ 8 _ _
     refine oO (λK hK=>?_);have cx:=(hI.i7 X rfl).2;have cx0:W.cell? (J X 0)=some (.map none):=(by rw[cell_of cx];rfl);have cx1:W.cell? (J X 1)=some (.slice none 0 0):=(by rw[cell_of cx];rfl);have fx0:W.frozen? (J X 0)=false:=(by simp[World.frozen?,cx]);have fx1:W.frozen? (J X 1)=false:=(by simp[World.frozen?,cx]);go_simp;exact hK.out _ _ ⟨Z HS _ hI.akp.j.below,ar2 (by kernel_rfl) ⟨rfl,b,H,X,rfl,hI.akp⟩ _⟩)
   |(have h:pO _ _ _ _ none none none W:=hI;clear h;refine a3 1 5 7 ?_ ?_ ?_)
   |(have h:pO _ _ _ _ (some _) none none W:=hI;clear h;refine a2 5 7 ?_ ?_)
   |(have h:pO _ _ _ _ none (some _) none W:=hI;clear h;refine a2 1 7 ?_ ?_)
   |(have h:pO _ _ _ _ none none (some _) W:=hI;clear h;refine a2 1 5 ?_ ?_)
   |(show wpAnyH _ _ _ _ _ 3 _ _ _
     have h:pO _ _ _ _ (some _) (some _) none W:=hI;refine dF 6 (.agg #[.map (some b),Ac H 0 nc nc]) (Z HS _ hI.below) ?_
     simp only[jq0,jq1,jq2,jq3,jq4,jq5,jq6])
   |(show wpAnyH _ _ _ _ _ 2 _ _ _;have h:pO _ _ _ _ (some _) (some _) none W:=hI;clear h;refine a1 7 ?_)
   |(have h:pO _ _ _ _ (some _) none (some _) W:=hI;clear h;refine a1 5 ?_)
   |(have h:pO _ _ _ _ none (some _) (some _) W:=hI;clear h;refine a1 1 ?_)
   |(show wpAnyH _ _ _ _ _ 2 _ _ _
     have h:pO _ _ _ _ (some _) (some _) (some _) W:=hI;refine dF 6 (.agg #[.map (some b),Ac H 0 nc nc]) (Z HS _ hI.below) ?_
     simp only[jq0,jq1,jq2,jq3,jq4,jq5,jq6])
   |(show wpAnyH _ _ _ _ _ 1 _ _ _;have h:pO _ _ _ _ (some _) (some _) (some _) W:=hI;clear h;refine a1 8 ?_)
 ·rintro e a W ⟨rfl,b,H,X,rfl,hL⟩;dsimp only;have HL:=F hL
  go_wp2_with fail
  go_loopw [17] (λi wr=>∃k:Nat,k<=ss.length/\i=A k/\ST w0 (cZ (ss.map fM)) nt b H X (rJ (ss.take k) nc) wr) (λi _=>ss.length-(intOf i).toNat)
  case atStart=>exact⟨0,ap7 _,rfl,Z HL⟩
  case round=>
   obtain⟨k,hk,rfl,Wv⟩:=hrel;have hlen:=JF (ss.take k) nc;by_cases hlt:k<ss.length
   ·have iF:(k:Int)<(ss.length:Int):=O;have bg:ss≠[]:=(by intro e;rw[e]at hlt;simp at hlt);obtain⟨g,off,rfl,D5,hcs⟩:=Z HVS bg;obtain⟨d0,d1,d2,d3,d4⟩:=hcs wr (kQ.trans (Wv.j.below.mono O)) k hlt;have iq:=Z HOK ss[k] (an5 hlt);have kT:=aaG (n:=nc) hlt;have je:=F kT;have kR:=F Wv;generalize ss[k]=s at d0 d1 d2 d3 d4 iq je;obtain⟨sx,si,sc,s1,s2⟩:=s;simp only at d0 d1 d2 d3 d4 iq je;generalize rJ (ss.take k) nc=NS at je kR hlen;have fK:wr.grownBy (wr.alloc (.cells #[A sx,.bool si,Ae sc,A s1,A s2] 210)) none:=an1 _ _ none;have adx:=(Z kR).grow fK;have nN:(wr.alloc (.cells #[A sx,.bool si,Ae sc,A s1,A s2] 210)).cell? (J X 1)=some (Ac H 0 NS.length NS.length):=(by rw[cell_of adx.x];rfl);rw[hlen]at nN;by_cases hc:sc=61
    ·subst hc;rw[ao4 rfl]at je;have aie:=F adx
     go_wp2_with fail
     refine⟨⟨k+1,hlt,by go_num,?_⟩,by simp[intOf];omega⟩;rw[Z je];exact Z aie
    ·have oI:=iq.2 hc;rw[an8 hc]at je;have alb:(s1:Int)<(nc:Int):=O;have hfz:(wr.alloc (.cells #[A sx,.bool si,Ae sc,A s1,A s2] 210)).frozen? (J H s1)=false:=(by simp only[World.frozen?,adx.h];simp);have Qn:∃bv,(wr.alloc (.cells #[A sx,.bool si,Ae sc,A s1,A s2] 210)).cell? (J H s1)=some (.bool bv):=by
      rw[cell_of adx.h];have:s1<NS.length:=O;exact⟨NS[s1],by simp[this]⟩
     obtain⟨bv,Qn⟩:=Qn;have aie:=F (adx.set s1 si)
     go_wp2_with fail
     refine⟨⟨k+1,hlt,by go_num,?_⟩,by simp[intOf];omega⟩;rw[Z je];exact Z aie
   ·have gW:k=ss.length:=O;have iF:¬(k:Int)<(ss.length:Int):=O;rw[gW,ar7]at Wv hlen;have xI:wr.cell? (J X 0)=some (.map (some b)):=(by rw[cell_of Wv.x];rfl);have nN:wr.cell? (J X 1)=some (Ac H 0 (rJ ss nc).length (rJ ss nc).length):=(by rw[cell_of Wv.x];rfl);rw[hlen]at nN;have h4b:=(Wv.j.below.block (w.heap.size+1) O).trans rE;have r0:wr.cell? (J (w.heap.size+1) 0)=some (.map none):=(by rw[cell_of h4b];rfl);have r1:wr.cell? (J (w.heap.size+1) 1)=some (.slice none 0 0):=(by rw[cell_of h4b];rfl);have f0:wr.frozen? (J (w.heap.size+1) 0)=false:=(by simp[World.frozen?,h4b]);have f1:wr.frozen? (J (w.heap.size+1) 1)=false:=(by simp[World.frozen?,h4b]);have kR:=F Wv
    go_wp2_with fail
    obtain⟨wz,NJ⟩:∃wz,(wr.setCell (J (w.heap.size+1) 0) (.map (some b))).setCell (J (w.heap.size+1) 1) (Ac H 0 nc nc)=wz:=⟨_,rfl⟩;have hz4:wz.heap[w.heap.size+1]?=some (.cells #[.map (some b),Ac H 0 nc nc] 56):=(by rw[<-NJ];exact IU h4b);have z0:wz.cell? (J (w.heap.size+1) 0)=some (.map (some b)):=(by rw[cell_of hz4];rfl);have z1:wz.cell? (J (w.heap.size+1) 1)=some (Ac H 0 nc nc):=(by rw[cell_of hz4];rfl);have hlo:=(Z kR).lh;have NT:∀j,j≠w.heap.size+1->wz.heap[j]?=wr.heap[j]?:=λj hj=>by rw[<-NJ];exact(ao9 _ _ _ _ hj).trans (ao9 _ _ _ _ hj)
    have hbz:Below w.heap.size w wz:=by
     rw[<-NJ];exact((kQ.trans ((Z kR).j.below.mono O)).setCell (p:=(J (w.heap.size+1) 0)) (by show w.heap.size<=w.heap.size+1;omega) _).setCell (p:=(J (w.heap.size+1) 1)) (by show w.heap.size<=w.heap.size+1;omega) _
    rw[NJ];refine aq0 (v:=sv b H nc) (by simp[results,results62,go_sem,z0,z1,sv]) rfl ⟨b,H,rfl,O,⟨?_,(Z kR).j.roots,hbz,by have:=(Z kR).j.lo;omega⟩,?_⟩
    ·obtain⟨c,I,M⟩:=(Z kR).j.m;exact⟨c,I.kept (NT b (by have:=(Z kR).j.lo;omega)),M⟩
    ·obtain⟨I,M⟩:=(Z kR).rows;refine⟨?_,λi hi=>?_⟩
     ·have:=NT H O;have h3:=(Z kR).h;rw[<-this]at h3;exact(an0.1 h3).1
     ·exact(an9 (NT H O)).trans (M i hi)
theorem Xp(n:Nat)(X:Nat)(w:World)(hX:w.cell? (J X 0)=some (.slice none 0 0)) :
  tq Fence.wide n prog 169 #[Aa X 0] [] (λ_ _=>True) w:=by
 intro l Af Jx W hW hJ hJx hY h0;have Qp:W.cell? (J X 0)=some (.slice none 0 0):=(hW.cell (p:=(J X 0)) (an4 w _ hX)).trans hX;have Ii:=λz=>fG (P:=prog) underlying66 .i64 z W;have Lm:Af 0 (W.alloc (.map #[] 0)):=hJ 0 W _ none h0 (an1 _ _ none) (λr e=>by cases e);have EH:(W.alloc (.map #[] 0)).cell? (J X 0)=some (.slice none 0 0):=(an1 _ _ none).cell Qp R;refine au2 func169 rfl trivial ?_ rfl;simp only[ntmps169,ao5,ao1,ap0,Nat.reduceAdd,Nat.reduceSub,an7,an6,ao6,ap9,ao8,ao7]
 gi_wp2
 obtain⟨W1,dO⟩:∃W1,W.alloc (.map #[] 0)=W1:=⟨_,rfl⟩;rw[dO]at Lm EH ⊢
 gi_wp2
 gi_loopw [13] (λi wr=>i=A 0/\Af 0 wr) (λ_ _=>0)
 case atStart=>exact⟨rfl,Lm⟩
 case round=>
  obtain⟨rfl,YF⟩:=hrel
  gi_wp2
  go_end0
  exact⟨⟨_,rfl⟩,Or.inl YF⟩
theorem abf(w:World):Calls prog 78 #[.slice none 0 0,.slice none 0 0] w λe w'=>e=.returned (.bool true)/\Ag w w':=by
 refine(aq2 (n:=5)).1 ?_;refine at6 func78 rfl trivial ?_ rfl;simp only[ntmps78,ao5,ao1,ap0,Nat.reduceAdd,Nat.reduceSub,an7,an6,ao6,ap9,ao8,ao7]
 gi_wp2
 obtain⟨wr,uG⟩:∃wr,(w.alloc (.cells #[.slice none 0 0] 54)).alloc (.cells #[.bool false] 4)=wr:=⟨_,rfl⟩;have jS:w.grownBy wr none:=by rw[<-uG];exact(an1 _ _ none).trans (an1 _ _ none)
 have Gp:Below w.heap.size w wr:=⟨jS.os,jS.tape,jS.output,jS.size,λj hj=>jS.block j hj R⟩;have mM:wr.cell? (J (w.heap.size+1) 0)=some (.bool false):=by rw[<-uG];simp[go_sem]
 have tX:wr.frozen? (J (w.heap.size+1) 0)=false:=by rw[<-uG];simp[go_sem]
 have hsr:w.heap.size+2<=wr.heap.size:=by rw[<-uG];simp
 rw[uG];refine⟨trivial,(aq2.2 (KJ none 0 0 wr)).mono ?_⟩;rintro e w2 ⟨rfl,rfl⟩
 gi_wp2
 obtain⟨w2,eu⟩:∃w2,wr.alloc (.cells #[.slice none 0 0] 43)=w2:=⟨_,rfl⟩;have dh:wr.grownBy w2 none:=by rw[<-eu];exact an1 _ _ none
 have pJ:w2.cell? (J wr.heap.size 0)=some (.slice none 0 0):=by rw[<-eu];simp[go_sem]
 have dK:=Xp 4 wr.heap.size w2 pJ;have kU:w2.cell? (J (w.heap.size+1) 0)=some (.bool false)/\w2.frozen? (J (w.heap.size+1) 0)=false/\Ag w w2:=⟨dh.cell mM R,(ar5 (dh.block (w.heap.size+1) O R)).trans tX,Gp.grown dh Gp.size (λk e=>by cases e)⟩;have Me:w.heap.size+2<=w2.heap.size:=ap3 hsr dh.size;rw[eu];have aH:OwnFrom w2.heap.size (fun(_:Nat) W=>W.cell? (J (w.heap.size+1) 0)=some (.bool false)/\W.frozen? (J (w.heap.size+1) 0)=false/\Ag w W):=λk W W' row h hg hr=>by
  have ng:∀r,row=some r->∃o:Obj,W.heap[r]?=some o/\o.isCells=false:=λr e=>(hr r e).2;exact⟨dB h.1 hg ng,(rW h.1 hg ng).trans h.2.1,h.2.2.grown hg h.2.2.size (λk e=>by have:=(hr k e).1;omega)⟩
 have Gi:OwnFrom w2.heap.size (fun(_:Unit) (_:World)=>False):=λk W W' row h hg hr=>h;refine iP rfl O rfl trivial (λ_ _=>by simp[go_sem]) dK (λ_ _=>trivial) (λ_ _ _ _ _ _ _ _=>trivial) (aq1 _ _) ?_ _ (λ_=>False) aH Gi kU (λ_ _ _=>False) ?own ?assign ?body ?done ?stop
 ·intro k hk;simp at hk
 case own=>exact λk a' u W W' row h _ _=>h
 case assign=>intro l k hk;simp at hk
 case body=>intro l k a' W hk;simp at hk
 case done=>
  rintro D W hD ⟨mM,tX,hb⟩ eU
  gi_wp2
  have JO:(W.setCell (J (w.heap.size+1) 0) (.bool true)).heap[D]?=some (.deferred (some [])):=(ao9 _ _ _ _ (by show D≠w.heap.size+1;omega)).trans eU;have VL:(W.setCell (J (w.heap.size+1) 0) (.bool true)).cell? (J (w.heap.size+1) 0)=some (.bool true):=bH _ mM;have hgp:=au9 (W.setCell (J (w.heap.size+1) 0) (.bool true)) D (.deferred none);have qh:=hgp.cell VL anf;refine⟨R,.inl ⟨_,_,rfl,au4 JO,?_⟩⟩;refine⟨.bool true,by simp[results,results78,go_sem,qh],rfl,?_⟩;exact(hb.setCell (p:=(J (w.heap.size+1) 0)) (by show w.heap.size<=w.heap.size+1;omega) _).grown hgp (hb.setCell (p:=(J (w.heap.size+1) 0)) (by show w.heap.size<=w.heap.size+1;omega) _).size (λk e=>by cases e;omega)
 case stop=>exact λD W hD hI eU=>hI.elim
def Gx(f':Nat->Nat)(cs:Ah)(ss:List pV):Ah:=(ss.filter λs=>decide (s.2.2.1≠61)).map λs=>(s.2.2.1,f' (cs.getD s.2.2.2.1 (0,0)).2)
def IB(ss:List pV):List Bool:=(ss.filter λs=>decide (s.2.2.1≠61)).map λs=>s.2.1
theorem aec{f':Nat->Nat}{cs:Ah}{ss:List pV}{k:Nat}(hk:k<ss.length):Gx f' cs (ss.take (k+1))=Gx f' cs (ss.take k)++if ss[k].2.2.1=61 then []else [(ss[k].2.2.1,f' (cs.getD ss[k].2.2.2.1 (0,0)).2)]:=by
 unfold Gx;rw[aq3,an3 hk,ay6,au0]
 congr 1
 show([ss[k]].filter _).map _=_
 rw[List.filter_cons];by_cases e:ss[k].2.2.1=61<;>simp[e]
theorem aeb{ss:List pV}{k:Nat}(hk:k<ss.length):IB (ss.take (k+1))=IB (ss.take k)++if ss[k].2.2.1=61 then []else [ss[k].2.1]:=by
 unfold IB;rw[aq3,an3 hk,ay6,au0]
 congr 1
 show([ss[k]].filter _).map _=_
 rw[List.filter_cons];by_cases e:ss[k].2.2.1=61<;>simp[e]
theorem afC(f':Nat->Nat)(cs:Ah)(ss:List pV):(Gx f' cs ss).length<=ss.length:=by
 unfold Gx;rw[au3];exact List.length_filter_le _ _
theorem afB(f':Nat->Nat)(cs:Ah)(ss:List pV):(IB ss).length=(Gx f' cs ss).length:=by
 unfold Gx IB;simp
theorem aea{f':Nat->Nat}{cs:Ah}{ss:List pV}:cb f' cs (ss.map fM)↔(∀s∈ss,s.2.2.1=61->s.2.1=false->f' s.2.2.2.1≠f' s.2.2.2.2)/\(∀p∈bI (Gx f' cs ss) (Gx f' cs ss).length,(IB ss).getD p.1 false=(IB ss).getD p.2 false):=by
 have hA:=Dl (Gx f' cs ss) (λi j=>(IB ss).getD i false=(IB ss).getD j false) (λ_=>rfl) (λ_ _ e=>e.symm) (λ_ _ _ e1 e2=>e1.trans e2);rw[hA];unfold cb;refine and_congr ?_ ?_
 ·constructor
  ·intro h s hs I M;exact h (fM s) (ap6.2 ⟨s,hs,rfl⟩) I M
  ·intro h l hl I M;obtain⟨s,hs,rfl⟩:=ap6.1 hl;exact h s hs I M
 ·unfold Gx IB;obtain⟨L,hL⟩:∃L,L=ss.filter λs=>decide (s.2.2.1≠61):=⟨_,rfl⟩;have hm:∀s,s∈L↔s∈ss/\s.2.2.1≠61:=λs=>by rw[hL,as6];simp
  rw[<-hL];constructor
  ·intro h i j hi hj e;simp only[au3]at hi hj;simp only[as1,an3 hi,an3 hj,ay9,as4,aA7]at e;have I:=(hm L[i]).1 (an5 hi);have M:=(hm L[j]).1 (an5 hj);have:=h (fM L[i]) (ap6.2 ⟨_,I.1,rfl⟩) (fM L[j]) (ap6.2 ⟨_,M.1,rfl⟩) I.2 M.2 e.1 e.2;rw[aU (by simpa using hi),aU (by simpa using hj)];simpa[fM]using this
  ·intro h l hl m hm' jP WJ JJ e;obtain⟨s,hs,rfl⟩:=ap6.1 hl;obtain⟨t,ht,rfl⟩:=ap6.1 hm';obtain⟨i,hi,e1⟩:=ar6 ((hm s).2 ⟨hs,jP⟩);obtain⟨j,hj,e2⟩:=ar6 ((hm t).2 ⟨ht,WJ⟩);have:=h i j (by simpa using hi) (by simpa using hj) (by
    simp only[as1,an3 hi,an3 hj,ay9,e1,e2]
    congr 1
    exact Prod.ext JJ e)
   rw[aU (by simpa using hi),aU (by simpa using hj)]at this;simpa[e1,e2,fM]using this
structure CI1(w:World)(b n:Nat)(f':Nat->Nat)(fo:Array Value)(C:Ah)(H:List Bool)(v6 v7:Value)(W:World):Prop where
 j:∃c,kM W b f' n c
 lo:w.heap.size<=b
 x0:W.heap[w.heap.size]?=some (.cells fo 46 (0,0))
 rc:W.ownsRow w.heap.size 79 2 v6 C.length (C.flatMap tK)
 rh:W.ownsRow w.heap.size 4 1 v7 H.length (H.map Value.bool)
 nc:v6=.slice none 0 0↔C=[]
 nh:v7=.slice none 0 0↔H=[]
 below:Below w.heap.size w W
theorem uo{W:World}{base e size n:Nat}{v:Value}{xs:List Value}(h:W.ownsRow base e size v n xs):∀k,v.ownBlock=some k->base<=k/\∃cur:Array Value,W.heap[k]?=some (.cells cur e (0,0)):=by
 intro k hk;obtain⟨rfl,_⟩|⟨g,cap,cur,rfl,hb,fD,_⟩:=h.2
 ·cases hk
 ·cases hk;exact⟨hb,cur,fD⟩
theorem CI1.grow{w:World}{b n:Nat}{f':Nat->Nat}{fo:Array Value}{C:Ah}{H:List Bool}{v6 v7:Value}{W W':World}(h:CI1 w b n f' fo C H v6 v7 W)(hg:W.grownBy W' none):CI1 w b n f' fo C H v6 v7 W':=by
 obtain⟨c,I⟩:=h.j;exact⟨⟨c,I.kept (hg.block b I.lt R)⟩,h.lo,(hg.block _ (an0.1 h.x0).1 R).trans h.x0,h.rc.kept hg (Classical.em _),h.rh.kept hg (Classical.em _),h.nc,h.nh,h.below.grown hg h.below.size (λk e=>by cases e)⟩
theorem CI1.amc{w:World}{b n:Nat}{f':Nat->Nat}{fo:Array Value}{C:Ah}{H:List Bool}{v6 v6' v7:Value}{W W':World}{x:Int×Nat}(h:CI1 w b n f' fo C H v6 v7 W)(hg:W.grownBy W' v6.ownBlock)(hr:W'.ownsRow w.heap.size 79 2 v6' (C.length+1) (C.flatMap tK++tK x))(hn:v6'≠.slice none 0 0):CI1 w b n f' fo (C++[x]) H v6' v7 W':=by
 obtain⟨c,I⟩:=h.j;have hb:=uo h.rc;have keep:∀(j:Nat) (o:Obj),W.heap[j]?=some o->(∀cur x,o≠Obj.cells cur 79 x)->W'.heap[j]?=some o:=λj o hj hc=>(hg.block j (an0.1 hj).1 (λe=>by
  obtain⟨_,cur,nS⟩:=hb j e.symm;rw[hj]at nS;cases nS;exact hc _ _ rfl)).trans hj
 obtain⟨o,ho,hoc⟩:=I.aiA;refine⟨⟨c,I.kept ((keep b o ho (λcur x e=>hoc _ _ _ e)).trans ho.symm)⟩,h.lo,keep _ _ h.x0 (λcur x e=>by simp at e),?_,h.rh.kept hg ?_,?_,h.nh,h.below.grown hg h.below.size (λk e=>(hb k e).1)⟩
 ·rw[ap4,List.flatMap_append];simpa using hr
 ·by_cases e:v7.ownBlock=none
  ·exact Or.inl e
  ·refine Or.inr (λe2=>?_);cases e3:v7.ownBlock with
   |none=>exact e e3
   |some k=>
    obtain⟨_,cur,M⟩:=uo h.rh k e3;obtain⟨_,G9,h3⟩:=hb k (by rw[<-e2,e3]);rw[M]at h3;simp at h3
 ·constructor
  ·intro e;exact absurd e hn
  ·intro e;simp at e
theorem CI1.appH{w:World}{b n:Nat}{f':Nat->Nat}{fo:Array Value}{C:Ah}{H:List Bool}{v6 v7 v7':Value}{W W':World}{x:Bool}(h:CI1 w b n f' fo C H v6 v7 W)(hg:W.grownBy W' v7.ownBlock)(hr:W'.ownsRow w.heap.size 4 1 v7' (H.length+1) (H.map Value.bool++[Value.bool x]))(hn:v7'≠.slice none 0 0):CI1 w b n f' fo C (H++[x]) v6 v7' W':=by
 obtain⟨c,I⟩:=h.j;have hb:=uo h.rh;have keep:∀(j:Nat) (o:Obj),W.heap[j]?=some o->(∀cur x,o≠Obj.cells cur 4 x)->W'.heap[j]?=some o:=λj o hj hc=>(hg.block j (an0.1 hj).1 (λe=>by
  obtain⟨_,cur,nS⟩:=hb j e.symm;rw[hj]at nS;cases nS;exact hc _ _ rfl)).trans hj
 obtain⟨o,ho,hoc⟩:=I.aiA;refine⟨⟨c,I.kept ((keep b o ho (λcur x e=>hoc _ _ _ e)).trans ho.symm)⟩,h.lo,keep _ _ h.x0 (λcur x e=>by simp at e),h.rc.kept hg ?_,?_,h.nc,?_,h.below.grown hg h.below.size (λk e=>(hb k e).1)⟩
 ·by_cases e:v6.ownBlock=none
  ·exact Or.inl e
  ·refine Or.inr (λe2=>?_);cases e3:v6.ownBlock with
   |none=>exact e e3
   |some k=>
    obtain⟨_,cur,M⟩:=uo h.rc k e3;obtain⟨_,G9,h3⟩:=hb k (by rw[<-e2,e3]);rw[M]at h3;simp at h3
 ·rw[ap4,au0];simpa using hr
 ·constructor
  ·intro e;exact absurd e hn
  ·intro e;simp at e
end Go.Proofs.YthcppbmkacbbiabGreat
