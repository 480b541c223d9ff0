import Derived.Test.YthcppbmkacbbiabGreatVBF
set_option linter.unusedSimpArgs false
set_option maxHeartbeats 8000000
set_option maxRecDepth 100000
namespace Go.Proofs.YthcppbmkacbbiabGreat
open Go.Proofs.Tryz
open Go.RowKit Go.Maps Go.WideMaps
open Sat (View Rule og dN)
open au (Key put fQ aB bJ)
theorem abY{w w':World}{base:Nat}{v:Value}{n:Nat}{xs:List Value}(h:w.ownsRow base 207 2 v n xs)(hk:VK w w'):w'.ownsRow base 207 2 v n xs:=by
 obtain⟨I,M⟩:=h;refine⟨I,?_⟩;obtain M|⟨g,cap,cur,e,q1,q2,q3⟩:=M
 ·exact Or.inl M
 ·exact Or.inr ⟨g,cap,cur,e,q1,aZ hk q2,q3⟩
theorem agu(vs:List View):∀i (hi:i<vs.length),(vcs vs)[i*2]?=some (A vs[i].1)/\(vcs vs)[i*2+1]?=some (.bool vs[i].2):=by
 induction vs with
 |nil=>intro i hi;simp at hi
 |cons v vs ih=>
  intro i hi;cases i with
  |zero=>simp[vcs,Oa]
  |succ i=>
   have:=ih i (by simpa using hi);have e:vcs (v::vs)=A v.1::.bool v.2::vcs vs:=(by simp[vcs,Oa]);rw[e];have e1:(i+1)*2=i*2+1+1:=O;rw[e1];simpa using this
theorem Nc{w:World}{base g n cap:Nat}{vs:List View}(h:w.ownsRow base 207 2 (Ac g 0 n cap) n (vcs vs))(hn:vs.length=n):Qd w g vs:=by
 obtain⟨I,M⟩:=h;obtain⟨e,_⟩|⟨g',qB,cur,e,q1,q2,q3,q4,q5,q6⟩:=M
 ·cases e
 ·cases e;refine⟨cur,_,q2,λi hi=>?_⟩;obtain⟨a1,a2⟩:=agu vs i hi;rw[<-q6,av5]at a1 a2;rw[ao4 O]at a1 a2;exact⟨by simpa using a1,by simpa using a2⟩
theorem afx(f:Key->Key)(acc:List dw)(q:Key):(Xb f acc q).length<=4:=by
 unfold Xb y9 Cm;split
 ·simp
 ·split
  ·simp
  ·split
   ·simp
   ·split
    ·simp
    ·simp
theorem Uc(f:Key->Key)(ps:Ai):∀k,(Ed f k ps).length<=4*k:=by
 intro k
 induction k with
 |zero=>simp[Ed]
 |succ k ih=>
  unfold Ed;rw[ap4];split
  ·have:=afx f (lits f (ps.take k)) (by assumption);omega
  ·simp;omega
structure SG(w:World)(n0 lb BU BS:Nat)(f:Key->Key)(dom:Key->Prop)(Us:Ai)(L:List (List dw))(ps:Ai)(X:Nat->Prop)(k:Nat)(W:World):Prop where
 lg:∃ak,LG n0 W lb BU BS f dom (vH f Us ps k) ak (λq=>X q\/(w.heap.size<=q/\q<w.heap.size+2))/\vG (vH f Us ps k) ak (L++Ed f k ps)
 row:W.ownsRow 0 207 2 (Ac (w.heap.size+1) 0 k ps.length) k (vcs ((lits f (ps.take k)).map (vw (vH f Us ps k))))
 below:Below n0 w W
 size:w.heap.size+2<=W.heap.size
 keep:VK w W
theorem Na(X:Nat->Prop)(n0:Nat)(w:World)(lb BU BS:Nat)(f:Key->Key)(dom:Key->Prop)(Us:Ai)(ak:List Rule)(L:List (List dw))(GT GC GP nt nc:Nat)(ps:Ai)(wM:LG n0 w lb BU BS f dom Us ak X)(hX:∀k,X k->k<w.heap.size)(EJ:vG Us ak L)(YA:Us.length<=100)(hL:L.length<=1000)
 (kE:dS w GP ps)(hG:GP<n0)(hi:bJ nt nc ps)(h0:0<ps.length)(adG:ps.length<=100)(Bc:nt<=7)(UH:nc<=4)(BF:SmD f dom nt)(hn:n0<=w.heap.size) :
  Calls prog 65 #[Aa lb 0,fv GT GC GP nt nc ps.length] w λe w'=>(∃z,e=.returned z)/\∃dR,LG n0 w' lb BU BS f dom (vH f Us ps ps.length) dR X/\vG (vH f Us ps ps.length) dR (L++tZ f ps)/\Below n0 w w'/\VK w w':=by
 unfold fv;obtain⟨wb,kP⟩:∃wb,wb=w.alloc (.cells #[Ac GT 0 nt nt,Ac GC 0 nc nc,Ac GP 0 ps.length ps.length] 46):=⟨_,rfl⟩;obtain⟨i0,gK,jR,ig,jy⟩:=au5 Yj;obtain⟨w1,wC,aS,bG⟩:=aA9 (P:=prog) wb wb.heap.size 129 207 i0 (.agg #[A 0,.bool false]) 2 underlying129 gK jR ig .i64 .i64 ps.length (by rw[jy];omega) anj (an2 _);have Jy:wb.heap.size=w.heap.size+1:=by rw[kP];simp
 have fD:w.grownBy wb none:=by rw[kP];exact an1 _ _ none
 have Gn:w1.cell? (J w.heap.size 2)=some (Ac GP 0 ps.length ps.length):=bG.cell (by rw[kP];simp[go_sem]) R;have jL:w.heap.size+1<w1.heap.size:=by have h:=(aS.lt wb.heap.size rfl).2;rw[Jy]at h;exact h
 rw[Jy]at aS;have rD:w1.ownsRow 0 207 2 (Ac (w.heap.size+1) 0 0 ps.length) 0 []:=fO aS (ap7 _);have alV:SG w n0 lb BU BS f dom Us L ps X 0 w1:=by
  refine⟨⟨ak,?_,?_⟩,rD,(But.aC (fD.trans bG)).below hn (λk _ e=>by cases e),O,VK.grown (fD.trans bG)⟩
  ·exact(wM.other (λk hk h=>h.elim id (λh=>O))).grow (fD.trans bG)
  ·show vG Us ak (L++[])
   rw[av7];exact EJ
 rw[kP]at wC;have hX':Hid (∀W:World,w.heap.size+2<=W.heap.size->∀q,(X q\/(w.heap.size<=q/\q<w.heap.size+2))->q<W.heap.size):=λW h q e=>by
  obtain e|e:=e
  ·have:=hX q e;omega
  ·omega
 have HI:=F hi;have Eu:=F kE;have HSM:=F BF
 go_in
 go_wp2_with fail
 go_loopw [4,14] (λt i wr=>∃k:Nat,k<=ps.length/\i=A k/\t=Ac (w.heap.size+1) 0 k ps.length/\SG w n0 lb BU BS f dom Us L ps X k wr) (λ_ i _=>ps.length-(intOf i).toNat)
 case atStart=>exact⟨0,ap7 _,rfl,rfl,alV⟩
 case round=>
  obtain⟨k,hk,rfl,rfl,hS⟩:=hrel;have TK:(lits f (ps.take k)).length=k:=by rw[lS];simp;omega
  have hul:=aeC f Us ps k;obtain⟨rk,aj7,ahG⟩:=hS.lg;have Tq:(L++Ed f k ps).length<=1000+4*k:=by
   have:=Uc f ps k;simp;omega
  have fZ:=acJ (f:=f) (Us:=Us) (Z HI) k hk;have aiX:=hS.size;by_cases hlt:k<ps.length
  ·have iF:(k:Int)<(ps.length:Int):=O;obtain⟨c0,c1,c2⟩:=((Z Eu).below hS.below hG).2 k hlt;have gX:k+1<=ps.length:=hlt;have eU:Hid (∀W2,wr.grownBy W2 none->Calls prog 123 #[Aa lb 0,bZ ps[k],Ac (w.heap.size+1) 0 k ps.length] W2 λe w'=>∃dR,e=.returned (vV (vw (vH f Us ps (k+1)) (Kt f (lits f (ps.take k)) ps[k])))/\LG n0 w' lb BU BS f dom (vH f Us ps (k+1)) dR (λq=>X q\/(w.heap.size<=q/\q<w.heap.size+2))/\vG (vH f Us ps (k+1)) dR (L++Ed f (k+1) ps)/\Below n0 W2 w'/\VK W2 w'):=λW2 hg=>by
    have hr:=abY hS.row (VK.grown hg);have hv:=Nc hr (by simp[TK]);have iq:=(Z HI).ok k hlt;have h:=WZ _ n0 W2 lb BU BS f dom (vH f Us ps k) rk (L++Ed f k ps) (lits f (ps.take k)) ps[k] (w.heap.size+1) ps.length nt nc (aj7.grow hg) (λq e=>ap2 (Z hX' wr aiX q e) hg.size) ahG O fZ hv O (by rw[TK];exact iq) O O (Z HSM) (ap3 hn (ap3 O hg.size)) O;rw[TK,<-tY hlt,at1,<-Oe hlt]at h;exact h
   have OZ:vcs ((lits f (ps.take (k+1))).map (vw (vH f Us ps (k+1))))=vcs ((lits f (ps.take k)).map (vw (vH f Us ps k)))++Oa (vw (vH f Us ps (k+1)) (Kt f (lits f (ps.take k)) ps[k])):=by
    rw[Nz hlt,au0];have e:(lits f (ps.take k)).map (vw (vH f Us ps (k+1)))=(lits f (ps.take k)).map (vw (vH f Us ps k)):=List.map_congr_left (λl hl=>UY (by rw[tY hlt];exact PU _ _ _) (fZ l hl));rw[e];simp[vcs]
   have akL:=F OZ;have HS:=F hS;generalize vw (vH f Us ps (k+1)) (Kt f (lits f (ps.take k)) ps[k])=u at eU akL;obtain⟨vx,vi⟩:=u;generalize ps[k]=key at c0 c1 c2 eU;obtain⟨kl,kf,ks⟩:=key;simp only at c0 c1 c2;unfold vV at eU;simp only[bZ]at eU;have fK:wr.grownBy (wr.alloc (.cells #[Ae kl,A kf,A ks] 82)) none:=an1 _ _ none
   go_wp2_with fail
   refine(Z eU _ fK).mono ?_;rintro e w3 ⟨jK,rfl,wL,qo,iR,pG⟩;have ai9:=abY (Z HS).row ((VK.grown fK).trans pG);have Aw:=iR.size;have jo:=F ai9;have amk:=F wL;have amj:=F qo;have Ak:=F iR;have HK3:=F pG
   go_wp2_with (refine wpList_append_fits _ rfl (.tmp 18) (.tmp 23) 129 rfl 0 207 i0 2 underlying129 gK ig _ _ _ _ rfl ((Z jo).alloc _) _ 1 1 (Oa (vx,vi)) rfl rfl (Dv _ _ _ _ _ rfl) (aeX _) gX ?_;intro w4 r1 r2)
   have hgn:w3.grownBy (w3.alloc (.cells #[A vx,.bool vi] 207)) none:=an1 _ _ none;obtain⟨cur,nS⟩:∃cur,(w3.alloc (.cells #[A vx,.bool vi] 207)).heap[w.heap.size+1]?=some (Obj.cells cur 207 (0,0)):=by
    rcases((Z jo).alloc (.cells #[A vx,.bool vi] 207)).2 with⟨e,_⟩|⟨g',qB,cur,e,_,q,_⟩
    ·cases e
    ·cases e;exact⟨cur,q⟩
   have hs4:=r2.size;have hsa:wr.heap.size<=w3.heap.size:=ap3 fK.size Aw;have Wq:Below n0 w w3:=((Z HS).below.trans ((But.aC fK).below (ap3 hn O) (λk _ e=>by cases e))).trans (Z Ak);have alo:VK w w3:=((Z HS).keep.trans (VK.grown fK)).trans (Z HK3);refine⟨⟨k+1,gX,by go_num,rfl,⟨jK,?_,Z amj⟩,?_,?_,?_,?_⟩,by simp[intOf];omega⟩
   ·exact((Z amk).grow hgn).ahY (But.aC r2) (λq e=>by cases e;exact⟨Or.inr O,cur,207,(0,0),nS,ane,ane⟩)
   ·rw[Z akL];exact r1
   ·exact(Wq.trans ((But.aC hgn).below O (λk _ e=>by cases e))).trans ((But.aC r2).below anf (λk hk e=>by cases e;omega))
   ·simp at hs4;omega
   ·intro q cu t xx t1 t2 e;have hq:=(an0.1 e).1;have e3:=(VK.grown hgn) _ _ _ _ t1 t2 (alo _ _ _ _ t1 t2 e);exact(r2.block q (an0.1 e3).1 anf).trans e3
  ·have gW:k=ps.length:=O;subst gW;have iF:¬(ps.length:Int)<(ps.length:Int):=O;rw[ar7]at TK fZ;have hvw:=Nc hS.row (by rw[ar7];simp[TK]);rw[ar7]at hvw;obtain⟨cur,cx,bV,nS⟩:=hvw;have hla:ps.length-1<(lits f ps).length:=O;obtain⟨a0,a1⟩:=nS (ps.length-1) (by simpa using hla);have D5:(lits f ps).getD (ps.length-1) ((0,0,0),false)=(lits f ps)[ps.length-1]:=aU hla _;have hml:=fZ _ (an5 hla);simp only[ax5]at a0 a1;have d0:=(cell_of bV ((ps.length-1)*2)).trans a0;have d1:=(cell_of bV ((ps.length-1)*2+1)).trans a1;have oP:tZ f ps=Ed f ps.length ps++[[(lits f ps)[ps.length-1]]]:=(by unfold tZ;rw[D5]);have kR:=F oP;generalize (lits f ps)[ps.length-1]=ll at hml d0 d1 kR;have hvv:vw (vH f Us ps ps.length) ll=((vH f Us ps ps.length).idxOf ll.1,ll.2):=rfl;rw[hvv]at d0 d1;simp only at d0 d1;have hdi:((ps.length:Int)-1)=((ps.length-1:Nat):Int):=O;have aha:((ps.length-1:Nat):Int)<(ps.length:Int):=O;have Qm:=fH _ n0 (wr.alloc (.cells #[A ((vH f Us ps ps.length).idxOf ll.1),.bool ll.2] 207)) lb BU BS f dom (vH f Us ps ps.length) rk (L++Ed f ps.length ps) _ [ll] (aj7.grow (an1 _ _ none)) (λq e=>by have:=Z hX' wr aiX q e;simp;omega) ahG (aei wr (vw (vH f Us ps ps.length) ll)) R R (by simpa using hml) anf (by rw[ahG.len];omega);rw[at1]at Qm;have amU:w.heap.size+1<wr.heap.size:=O;have HS:=F hS;generalize (vH f Us ps ps.length).idxOf ll.1=xl at d0 d1 Qm;obtain⟨lk,li⟩:=ll;simp only at d0 d1 Qm
   go_wp2_with fail
   refine Qm.mono ?_;rintro e w3 ⟨⟨z3,rfl⟩,jK,wL,qo,iR,pG⟩;have hgn:wr.grownBy (wr.alloc (.cells #[A xl,.bool li] 207)) none:=an1 _ _ none;have Q1:=F (wL.other (λk _ h=>Or.inl h):LG n0 w3 lb BU BS f dom (vH f Us ps ps.length) jK X);have Q2:=F qo;have Q3:=F (((Z HS).below.trans ((But.aC hgn).below O (λk _ e=>by cases e))).trans iR);have Q4:=F (((Z HS).keep.trans (VK.grown hgn)).trans pG)
   go_wp2_with fail
   go_end0
   exact⟨⟨_,rfl⟩,jK,Z Q1,by rw[Z kR];exact Z Q2,Z Q3,Z Q4⟩
theorem lD(a b:Nat)(w:World):Calls prog 153 #[A a,A b] w λe w'=>e=.returned (.agg #[Ae 61,A a,A b])/\w.grownBy w' none:=by
 go_in
 go_wp2_with fail
 refine aq0 (v:=.agg #[Ae 61,A a,A b]) (by simp[results,results153,go_sem]) rfl ⟨rfl,?_⟩;exact an1 _ _ none
theorem zD{α:Type}[BEq α][LawfulBEq α]:∀(m l:List α),l.Nodup->(∀x∈l,x∈m)->l.length<=m.length
 |[],l,_,h=>by
  cases l with
  |nil=>simp
  |cons a l=>have:=h a R;cases this
 |a::m,l,hn,h=>by
  have I:=zD m (l.erase a) (hn.sublist List.erase_sublist) (λx hx=>by
   have M:=(hn.mem_erase_iff).1 hx;obtain e|e:=ar9.1 (h x M.2)
   ·exact absurd e M.1
   ·exact e)
  have M:l.length<=(l.erase a).length+1:=by
   rw[List.length_erase];split<;>omega
  simp;omega
theorem iE{α:Type}(g:Nat->List α)(k:Nat):(List.range (k+1)).flatMap g=(List.range k).flatMap g++g k:=by
 rw[aA8,List.flatMap_append];simp
theorem ZY{α:Type}(g:Nat->α)(k:Nat):(List.range (k+1)).map g=(List.range k).map g++[g k]:=by
 rw[aA8,au0];rfl
def LS(n0 lb BU BS:Nat)(f:Key->Key)(dom:Key->Prop)(X:Nat->Prop)(aY:Ai)(L':List (List dw))(W:World):Prop:=
 ∃Us ak,LG n0 W lb BU BS f dom Us ak X/\vG Us ak L'/\∀p∈Us,p∈aY
theorem aee{Us:Ai}{ak:List Rule}{L:List (List dw)}(h:vG Us ak L){aY:Ai}(hc:∀p∈Us,p∈aY)(h9:aY.length<=900):Us.length<=900:=ap3 (zD aY Us h.lp.nodup hc) h9
structure Ask(f:Key->Key)(dom:Key->Prop)(aY:Ai)(p:Key):Prop where
 d:dom p
 fd:dom (f p)
 ff:f (f p)=f p
 b:(0<=p.1/\p.1<=255)/\p.2.1<=1000/\p.2.2<=1000
 bf:(0<=(f p).1/\(f p).1<=255)/\(f p).2.1<=1000/\(f p).2.2<=1000
 c:f p∈aY
theorem SmD.ask{f:Key->Key}{dom:Key->Prop}{nt:Nat}(h:SmD f dom nt){aY:Ai}(hc:∀a b,a<nt->b<nt->f (61,a,b)∈aY)(Bc:nt<=1000){a b:Nat}(ha:a<nt)(hb:b<nt):Ask f dom aY (61,a,b):=by
 obtain⟨c,d,q1,q2,q3,q4⟩:=h.eq a b ha hb;refine⟨h.WV _ (λ_=>⟨ha,hb⟩),?_,?_,⟨R,by show a<=1000;omega,by show b<=1000;omega⟩,?_,hc a b ha hb⟩
 ·rw[q1];exact h.WV _ (λ_=>⟨q2,q3⟩)
 ·rw[q1,q4]
 ·rw[q1];exact⟨R,by show c<=1000;omega,by show d<=1000;omega⟩
theorem Q9{Us aY:Ai}{p:Key}(h:∀q∈Us,q∈aY)(hp:p∈aY):∀q∈put Us p,q∈aY:=λq hq=>by
 obtain e|e:=DC.1 hq
 ·exact h q e
 ·rw[e];exact hp
theorem U8(n0:Nat)(w:World)(lb BU BS:Nat)(f:Key->Key)(dom:Key->Prop)(X:Nat->Prop)(aY Us:Ai)(ak:List Rule)(L':List (List dw))(p:Key)(hA:Ask f dom aY p)(h:LG n0 w lb BU BS f dom Us ak X)(hP:vG Us ak L')(hc:∀q∈Us,q∈aY)(h9:aY.length<=900)(hn:n0<=w.heap.size) :
  Calls prog 154 #[Aa lb 0,.agg #[Ae p.1,A p.2.1,A p.2.2]] w λe w'=>e=.returned (.agg #[A ((put Us (f p)).idxOf (f p)),.bool true])/\LG n0 w' lb BU BS f dom (put Us (f p)) ak X/\vG (put Us (f p)) ak L'/\(∀q∈put Us (f p),q∈aY)/\Below n0 w w'/\VK w w':=by
 have hU:=aee hP hc h9;refine(U9 n0 w lb BU BS f dom Us ak X p h O hA.d hA.fd hA.ff hA.b hA.bf).mono ?_;rintro e w' ⟨rfl,I,M⟩;refine⟨?_,I,hP.so _,Q9 hc hA.c,h.below hn M,VK.map M h.us.noC⟩;rw[vY];rfl
theorem FX(n0:Nat)(w:World)(lb BU BS:Nat)(f:Key->Key)(dom:Key->Prop)(X:Nat->Prop)(aY Us:Ai)(ak:List Rule)(L':List (List dw))(a b:Nat)(hA:Ask f dom aY (61,a,b))(h:LG n0 w lb BU BS f dom Us ak X)(hP:vG Us ak L')(hc:∀q∈Us,q∈aY)(h9:aY.length<=900)(hn:n0<=w.heap.size) :
  Calls prog 154 #[Aa lb 0,.agg #[Ae 61,A a,A b]] w λe w'=>e=.returned (.agg #[A ((put Us (f (61,a,b))).idxOf (f (61,a,b))),.bool true])/\LG n0 w' lb BU BS f dom (put Us (f (61,a,b))) ak X/\vG (put Us (f (61,a,b))) ak L'/\(∀q∈put Us (f (61,a,b)),q∈aY)/\Below n0 w w'/\VK w w':=
 U8 n0 w lb BU BS f dom X aY Us ak L' (61,a,b) hA h hP hc h9 hn
structure EI(w:World)(n0 lb BU BS:Nat)(f:Key->Key)(dom:Key->Prop)(X:Nat->Prop)(aY:Ai)(L':List (List dw))(W:World):Prop where
 ls:LS n0 lb BU BS f dom X aY L' W
 below:Below n0 w W
 keep:VK w W
 size:w.heap.size<=W.heap.size
theorem EI.grow{w:World}{n0 lb BU BS:Nat}{f:Key->Key}{dom:Key->Prop}{X:Nat->Prop}{aY:Ai}{L':List (List dw)}{W W':World}(h:EI w n0 lb BU BS f dom X aY L' W)(hn:n0<=w.heap.size)(hg:W.grownBy W' none):EI w n0 lb BU BS f dom X aY L' W':=by
 obtain⟨Us,ak,I,M,h3⟩:=h.ls;exact⟨⟨Us,ak,I.grow hg,M,h3⟩,h.below.trans ((But.aC hg).below (ap3 hn h.size) (λk _ e=>by cases e)),h.keep.trans (VK.grown hg),ap3 h.size hg.size⟩
theorem afz(X:Nat->Prop)(n0:Nat)(w:World)(lb BU BS:Nat)(f:Key->Key)(dom:Key->Prop)(aY:Ai)(L:List (List dw))(nt:Nat)(hLS:LS n0 lb BU BS f dom X aY L w)(hX:∀k,X k->k<w.heap.size)(h9:aY.length<=900)(BF:SmD f dom nt)(hc:∀a b,a<nt->b<nt->f (61,a,b)∈aY)(h0:0<nt)(Bc:nt<=7)(hn:n0<=w.heap.size)(hL:L.length<=2000) :
  Calls prog 112 #[Aa lb 0,A nt] w λe w'=>(∃z,e=.returned z)/\EI w n0 lb BU BS f dom X aY (L++eqC f nt) w':=by
 have MC:Hid (∀a b,a<nt->b<nt->Ask f dom aY (61,a,b)):=λa b ha hb=>BF.ask hc O ha hb;have hlen:Hid (∀a b c,a<=nt->b<=nt->c<=a->((L++[[(f (dP 0 0),true)]])++((List.range a).flatMap λa=>(List.range nt).flatMap λb=>(List.range a).map λc=>[(f (dP a b),false),(f (dP b c),false),(f (dP a c),true)])++((List.range b).flatMap λb=>(List.range a).map λc=>[(f (dP a b),false),(f (dP b c),false),(f (dP a c),true)])++((List.range c).map λc=>[(f (dP a b),false),(f (dP b c),false),(f (dP a c),true)])).length<=5000):=λa b c ha hb hc=>by
  have e1:∀k x,(((List.range k).flatMap λb=>(List.range x).map λc=>[(f (dP x b),false),(f (dP b c),false),(f (dP x c),true)]:List (List dw))).length=k*x:=λk x=>by
   induction k with
   |zero=>simp
   |succ k ih=>rw[iE,ap4,ih];simp;rw[ay2];omega
  have e2:∀k,k<=nt->(((List.range k).flatMap λa=>(List.range nt).flatMap λb=>(List.range a).map λc=>[(f (dP a b),false),(f (dP b c),false),(f (dP a c),true)]:List (List dw))).length<=k*49:=λk=>by
   induction k with
   |zero=>intro _;simp
   |succ k ih=>
    intro hk;rw[iE,ap4,e1];have:=ih O;have h3:nt*k<=7*7:=Nat.mul_le_mul O O;omega
  have I:=e2 a ha;have M:=e1 b a;have h3:b*a<=7*7:=Nat.mul_le_mul O O;have h4:a*49<=7*49:=Nat.mul_le_mul_right _ O;simp only[ap4,au3,aB5,au7]at *;omega
 obtain⟨Us,ak,wM,EJ,hUC⟩:=hLS;have a00:=Z MC 0 0 h0 h0
 go_in
 have ajQ:=lD 0 0 w;simp only[Int.natCast_zero]at ajQ
 go_wp2_with fail
 refine ajQ.mono ?_;rintro e w1 ⟨rfl,bG⟩;have ai5:=FX n0 w1 lb BU BS f dom X aY Us ak L 0 0 a00 (wM.grow bG) EJ hUC h9 (ap3 hn bG.size);simp only[Int.natCast_zero]at ai5
 go_wp2_with fail
 refine ai5.mono ?_;rintro e w2 ⟨rfl,AU,BN,Wu,BQ,oU⟩;have su:=BQ.size;have oI:=bG.size;have Qm:=fH X n0 (w2.alloc (.cells #[A ((put Us (f (61,0,0))).idxOf (f (61,0,0))),.bool true] 207)) lb BU BS f dom _ ak L _ [(f (61,0,0),true)] (AU.grow (an1 _ _ none)) (λq e=>by have:=hX q e;simp;omega) BN (aei w2 (vw (put Us (f (61,0,0))) (f (61,0,0),true))) R R (by simpa using dL Us (f (61,0,0))) anf (by rw[BN.len];omega);have fD:w2.grownBy (w2.alloc (.cells #[A ((put Us (f (61,0,0))).idxOf (f (61,0,0))),.bool true] 207)) none:=an1 _ _ none;generalize (put Us (f (61,0,0))).idxOf (f (61,0,0))=ix at Qm fD
 go_wp2_with fail
 refine Qm.mono ?_;rintro e w3 ⟨⟨z3,rfl⟩,jK,wL,qo,uQ,hK3⟩;have Bf:EI w n0 lb BU BS f dom X aY (L++[[(f (dP 0 0),true)]]) w3:=by
  refine⟨⟨_,jK,wL,qo,Wu⟩,?_,?_,?_⟩
  ·exact((((But.aC bG).below hn (λk _ e=>by cases e)).trans BQ).trans ((But.aC fD).below O (λk _ e=>by cases e))).trans uQ
  ·exact(((VK.grown bG).trans oU).trans (VK.grown fD)).trans hK3
  ·have:=uQ.size;simp at this;omega
 have HE0:=F Bf
 go_wp2_with fail
 go_loopw [14] (λi wr=>∃a:Nat,a<=nt/\i=A a/\EI w n0 lb BU BS f dom X aY ((L++[[(f (dP 0 0),true)]])++((List.range a).flatMap λa=>(List.range nt).flatMap λb=>(List.range a).map λc=>[(f (dP a b),false),(f (dP b c),false),(f (dP a c),true)])) wr) (λi _=>nt-(intOf i).toNat)
 case atStart=>exact⟨0,ap7 _,rfl,by simpa using Z HE0⟩
 case round=>
  obtain⟨a,ha,rfl,hE⟩:=hrel;by_cases hlt:a<nt
  ·have iF:(a:Int)<(nt:Int):=O;have HE:=F hE
   go_wp2_with fail
   go_loopw [18] (λi wr=>∃b:Nat,b<=nt/\i=A b/\EI w n0 lb BU BS f dom X aY ((L++[[(f (dP 0 0),true)]])++((List.range a).flatMap λa=>(List.range nt).flatMap λb=>(List.range a).map λc=>[(f (dP a b),false),(f (dP b c),false),(f (dP a c),true)])++((List.range b).flatMap λb=>(List.range a).map λc=>[(f (dP a b),false),(f (dP b c),false),(f (dP a c),true)])) wr) (λi _=>nt-(intOf i).toNat)
   case atStart=>exact⟨0,ap7 _,rfl,by simpa using Z HE⟩
   case round=>
    obtain⟨b,hb,rfl,hE⟩:=hrel;by_cases Yw:b<nt
    ·have JR:(b:Int)<(nt:Int):=O;have HE2:=F hE
     go_wp2_with fail
     go_loopw [22] (λi wr=>∃c:Nat,c<=a/\i=A c/\EI w n0 lb BU BS f dom X aY ((L++[[(f (dP 0 0),true)]])++((List.range a).flatMap λa=>(List.range nt).flatMap λb=>(List.range a).map λc=>[(f (dP a b),false),(f (dP b c),false),(f (dP a c),true)])++((List.range b).flatMap λb=>(List.range a).map λc=>[(f (dP a b),false),(f (dP b c),false),(f (dP a c),true)])++((List.range c).map λc=>[(f (dP a b),false),(f (dP b c),false),(f (dP a c),true)])) wr) (λi _=>a-(intOf i).toNat)
     case atStart=>exact⟨0,ap7 _,rfl,by simpa using Z HE2⟩
     case round=>
      obtain⟨c,hc,rfl,hE⟩:=hrel;by_cases hlc:c<a
      ·have ajY:(c:Int)<(a:Int):=O;have GV:=Z hlen a b c O O O;have Yq:=ZY (λc=>[(f (dP a b),false),(f (dP b c),false),(f (dP a c),true)]) c;have HNX:=F Yq;have gB:Hid (∀W',EI w n0 lb BU BS f dom X aY (((L++[[(f (dP 0 0),true)]])++((List.range a).flatMap λa=>(List.range nt).flatMap λb=>(List.range a).map λc=>[(f (dP a b),false),(f (dP b c),false),(f (dP a c),true)])++((List.range b).flatMap λb=>(List.range a).map λc=>[(f (dP a b),false),(f (dP b c),false),(f (dP a c),true)]))++((List.range c).map λc=>[(f (dP a b),false),(f (dP b c),false),(f (dP a c),true)])++[[(f (61,a,b),false),(f (61,b,c),false),(f (61,a,c),true)]]) W'->EI w n0 lb BU BS f dom X aY (((L++[[(f (dP 0 0),true)]])++((List.range a).flatMap λa=>(List.range nt).flatMap λb=>(List.range a).map λc=>[(f (dP a b),false),(f (dP b c),false),(f (dP a c),true)])++((List.range b).flatMap λb=>(List.range a).map λc=>[(f (dP a b),false),(f (dP b c),false),(f (dP a c),true)]))++((List.range (c+1)).map λc=>[(f (dP a b),false),(f (dP b c),false),(f (dP a c),true)])) W'):=λW' h=>by
        rw[Z HNX,<-at1];exact h
       obtain⟨h2,hM⟩:∃h2,((L++[[(f (dP 0 0),true)]])++((List.range a).flatMap λa=>(List.range nt).flatMap λb=>(List.range a).map λc=>[(f (dP a b),false),(f (dP b c),false),(f (dP a c),true)])++((List.range b).flatMap λb=>(List.range a).map λc=>[(f (dP a b),false),(f (dP b c),false),(f (dP a c),true)]))++((List.range c).map λc=>[(f (dP a b),false),(f (dP b c),false),(f (dP a c),true)])=h2:=⟨_,rfl⟩;rw[hM]at hE GV gB;obtain⟨Us,ak,wM,EJ,hUC⟩:=hE.ls;have hbs:=hE.below.size;have UO:=F hE;have hsw:=hE.size;have A1:=Z MC a b O O;have A2:=Z MC b c O O;have A3:=Z MC a c O O;have Qk:=lD a b wr
       go_wp2_with fail
       refine Qk.mono ?_;rintro e w1 ⟨rfl,bG⟩;have oI:=bG.size;have ho1:=FX n0 w1 lb BU BS f dom X aY Us ak h2 a b A1 (wM.grow bG) EJ hUC h9 O;have HK1:=F (VK.grown bG);have HB1:Hid (Below n0 wr w1):=(But.aC bG).below O (λk _ e=>by cases e)
       go_wp2_with fail
       refine ho1.mono ?_;rintro e w2 ⟨rfl,AU,BN,Wu,BQ,oU⟩;have Fb:f (61,a,b)∈put Us (f (61,a,b)):=dL _ _;generalize hU1:put Us (f (61,a,b))=U1 at AU BN Wu Fb;generalize nN:U1.idxOf (f (61,a,b))=x1;have hn1:=jT x1 true w2;have su:=BQ.size;have Lu:=F BQ;have XH:=F oU;have HX1:=F nN
       go_wp2_with fail
       refine hn1.mono ?_;rintro e w3 ⟨rfl,dY⟩;have Aw:=dY.size;have OX:=lD b c w3;have wL:=AU.grow dY;have HK3:=F (VK.grown dY);have Ak:Hid (Below n0 w2 w3):=(But.aC dY).below O (λk _ e=>by cases e)
       go_wp2_with fail
       refine OX.mono ?_;rintro e w4 ⟨rfl,mP⟩;have hs4:=mP.size;have ho2:=FX n0 w4 lb BU BS f dom X aY U1 ak h2 b c A2 (wL.grow mP) BN Wu h9 O;have HK4:=F (VK.grown mP);have UC:Hid (Below n0 w3 w4):=(But.aC mP).below O (λk _ e=>by cases e)
       go_wp2_with fail
       refine ho2.mono ?_;rintro e w5 ⟨rfl,adC,adz,adw,YJ,hK5⟩;have tC:f (61,b,c)∈put U1 (f (61,b,c)):=dL _ _;have LZ:=mG U1 (f (61,b,c));generalize hU2:put U1 (f (61,b,c))=U2 at adC adz adw tC LZ;generalize mM:U2.idxOf (f (61,b,c))=x2;have EC:=jT x2 true w5;have hs5:=YJ.size;have Qh:=F YJ;have HK5:=F hK5;have HX2:=F mM
       go_wp2_with fail
       refine EC.mono ?_;rintro e w6 ⟨rfl,UK⟩;have hs6:=UK.size;have hq3:=lD a c w6;have alW:=adC.grow UK;have HK6:=F (VK.grown UK);have HB6:Hid (Below n0 w5 w6):=(But.aC UK).below O (λk _ e=>by cases e)
       go_wp2_with fail
       refine hq3.mono ?_;rintro e w7 ⟨rfl,hg7⟩;have hs7:=hg7.size;have ho3:=FX n0 w7 lb BU BS f dom X aY U2 ak h2 a c A3 (alW.grow hg7) adz adw h9 O;have HK7:=F (VK.grown hg7);have HB7:Hid (Below n0 w6 w7):=(But.aC hg7).below O (λk _ e=>by cases e)
       go_wp2_with fail
       refine ho3.mono ?_;rintro e w8 ⟨rfl,TL,JV,adv,hB8,hK8⟩;have hm3:f (61,a,c)∈put U2 (f (61,a,c)):=dL _ _;have yN:=mG U2 (f (61,a,c));generalize hU3:put U2 (f (61,a,c))=U3 at TL JV adv hm3 yN;generalize qh:U3.idxOf (f (61,a,c))=x3;have hs8:=hB8.size;have HB8:=F hB8;have HK8:=F hK8;have e1:vw U3 (f (61,a,b),false)=(x1,false):=(by unfold vw;rw[oD (LZ.trans yN) Fb,Z HX1]);have e2:vw U3 (f (61,b,c),false)=(x2,false):=(by unfold vw;rw[oD yN tC,Z HX2]);have e3:vw U3 (f (61,a,c),true)=(x3,true):=(by unfold vw;rw[qh]);have EG:=wQ w8 (x1,false) (x2,false) (x3,true);have ag8:[(f (61,a,b),false),(f (61,b,c),false),(f (61,a,c),true)].map (vw U3)=[(x1,false),(x2,false),(x3,true)]:=(by simp only[ay3,List.map_nil,e1,e2,e3]);rw[<-ag8]at EG;simp only at EG;have fD:w8.grownBy (w8.alloc (.cells #[A x1,.bool false,A x2,.bool false,A x3,.bool true] 207)) none:=an1 _ _ none;have Qm:=fH X n0 _ lb BU BS f dom U3 ak h2 _ [(f (61,a,b),false),(f (61,b,c),false),(f (61,a,c),true)] (TL.grow fD) (λq e=>by have:=hX q e;simp;omega) JV EG R R (by
        intro l hl;simp only[ar9,av3,aA4]at hl;obtain rfl|rfl|rfl:=hl
        ·exact(LZ.trans yN).mem Fb
        ·exact yN.mem tC
        ·exact hm3) anf (by rw[JV.len];omega)
       have HKb:=F (VK.grown fD);have HBb:Hid (Below n0 w8 _):=(But.aC fD).below O (λk _ e=>by cases e);have HUC:=F adv
       go_wp2_with fail
       refine Qm.mono ?_;rintro e w9 ⟨⟨z9,rfl⟩,IW,aaO,Wx,WI,hK9⟩;have hs9:=WI.size;have SA:=(Z HBb).size;have hEF:=Z gB w9 ⟨⟨U3,IW,aaO,Wx,Z HUC⟩,((Z UO).below.trans (Z HB1)).trans ((((((((Z Lu).trans (Z Ak)).trans (Z UC)).trans (Z Qh)).trans (Z HB6)).trans (Z HB7)).trans (Z HB8)).trans ((Z HBb).trans WI)),((Z UO).keep.trans (Z HK1)).trans ((((((((Z XH).trans (Z HK3)).trans (Z HK4)).trans (Z HK5)).trans (Z HK6)).trans (Z HK7)).trans (Z HK8)).trans ((Z HKb).trans hK9)),O⟩;have HEF:=F hEF
       go_wp2_with fail
       exact⟨⟨c+1,hlc,by go_num,Z HEF⟩,by simp[intOf];omega⟩
      ·have Gm:c=a:=O;subst Gm;have ajY:¬(c:Int)<(c:Int):=O;have HN:=F (iE (λb=>(List.range c).map λc'=>[(f (dP c b),false),(f (dP b c'),false),(f (dP c c'),true)]) b);have UO:=F hE
       go_wp2_with fail
       refine⟨⟨b+1,Yw,by go_num,?_⟩,by simp[intOf];omega⟩;rw[Z HN,<-at1];exact Z UO
    ·have qK:b=nt:=O;subst qK;have JR:¬(b:Int)<(b:Int):=O;have HN:=F (iE (λa=>(List.range b).flatMap λb'=>(List.range a).map λc=>[(f (dP a b'),false),(f (dP b' c),false),(f (dP a c),true)]) a);have UO:=F hE
     go_wp2_with fail
     refine⟨⟨a+1,hlt,by go_num,?_⟩,by simp[intOf];omega⟩;rw[Z HN,<-at1];exact Z UO
  ·have haa:a=nt:=O;subst haa;have iF:¬(a:Int)<(a:Int):=O;have UO:=F hE
   go_wp2_with fail
   go_end0
   refine⟨⟨_,rfl⟩,?_⟩;have h:=Z UO;rw[at1]at h;exact h
def Ir(f:Key->Key)(Y:Ai)(a b:Nat):List (List dw):=
 if (Y.getD a (0,0,0)).1=(Y.getD b (0,0,0)).1 then [[(f (dP (Y.getD a (0,0,0)).2.1 (Y.getD b (0,0,0)).2.1),false),(f (dP (Y.getD a (0,0,0)).2.2 (Y.getD b (0,0,0)).2.2),false),(f (dP a b),true)]]else []
theorem adJ(f:Key->Key)(Y:Ai):fnC f Y=(List.range Y.length).flatMap λa=>(List.range a).flatMap λb=>Ir f Y a b:=rfl
theorem Py(f:Key->Key)(Y:Ai)(a b:Nat):(Ir f Y a b).length<=1:=by unfold Ir;split<;>simp
theorem qL{α:Type}(g:Nat->List α)(c:Nat)(h:∀i,(g i).length<=c):∀k,((List.range k).flatMap g).length<=k*c:=by
 intro k
 induction k with
 |zero=>simp
 |succ k ih=>rw[iE,ap4,ay2];have:=h k;omega
theorem adX(X:Nat->Prop)(n0:Nat)(w:World)(lb BU BS:Nat)(f:Key->Key)(dom:Key->Prop)(aY:Ai)(L:List (List dw))(GT:Nat)(Y:Ai)(hLS:LS n0 lb BU BS f dom X aY L w)(hX:∀k,X k->k<w.heap.size)(h9:aY.length<=900)(BF:SmD f dom Y.length)(hc:∀a b,a<Y.length->b<Y.length->f (61,a,b)∈aY)(Bc:Y.length<=7)(hn:n0<=w.heap.size)(hL:L.length<=5000)
 (kE:dS w GT Y)(hG:GT<n0)(ht:∀i (hi:i<Y.length),Y[i].2.1<Y.length/\Y[i].2.2<Y.length) :
  Calls prog 113 #[Aa lb 0,Ac GT 0 Y.length Y.length] w λe w'=>(∃z,e=.returned z)/\EI w n0 lb BU BS f dom X aY (L++fnC f Y) w':=by
 have MC:Hid (∀a b,a<Y.length->b<Y.length->Ask f dom aY (61,a,b)):=λa b ha hb=>BF.ask hc O ha hb;have hlen:Hid (∀a b,a<=Y.length->b<=a->((L++((List.range a).flatMap λa=>(List.range a).flatMap λb=>Ir f Y a b))++((List.range b).flatMap λb=>Ir f Y a b)).length<=6000):=λa b ha hb=>by
  have I:((List.range a).flatMap λa=>(List.range a).flatMap λb=>Ir f Y a b).length<=a*7:=by
   have key:∀k,k<=7->((List.range k).flatMap λa=>(List.range a).flatMap λb=>Ir f Y a b).length<=k*7:=λk=>by
    induction k with
    |zero=>intro _;simp
    |succ k ih=>
     intro hk;rw[iE,ap4,ay2];have I:=ih O;have M:=qL (λb=>Ir f Y k b) 1 (Py f Y k) k;omega
   exact key a O
  have M:=qL (λb=>Ir f Y a b) 1 (Py f Y a) b;simp only[ap4];omega
 have Bf:EI w n0 lb BU BS f dom X aY L w:=⟨hLS,aq1 _ _,VK.refl _,an2 _⟩;have HE0:=F Bf;have Eu:=F kE;have HT:=F ht;rw[adJ]
 go_in
 go_wp2_with fail
 go_loopw [10] (λi wr=>∃a:Nat,a<=Y.length/\i=A a/\EI w n0 lb BU BS f dom X aY (L++((List.range a).flatMap λa=>(List.range a).flatMap λb=>Ir f Y a b)) wr) (λi _=>Y.length-(intOf i).toNat)
 case atStart=>exact⟨0,ap7 _,rfl,by simpa using Z HE0⟩
 case round=>
  obtain⟨a,ha,rfl,hE⟩:=hrel;by_cases hlt:a<Y.length
  ·have iF:(a:Int)<(Y.length:Int):=O;obtain⟨c0,c1,c2⟩:=((Z Eu).below hE.below hG).2 a hlt;obtain⟨ta1,ta2⟩:=Z HT a hlt;have fK:Y.getD a (0,0,0)=Y[a]:=aU hlt _;have eH:=hE.size;have HGA:=F fK;have HE:=F hE;generalize Y[a]=ka at c0 c1 c2 ta1 ta2 HGA;obtain⟨al,ax,ay⟩:=ka;simp only at c0 c1 c2 ta1 ta2;have jd:wr.grownBy (wr.alloc (.cells #[Ae al,A ax,A ay] 76)) none:=an1 _ _ none;have hE1:=(Z HE).grow hn jd;have b5:(wr.alloc (.cells #[Ae al,A ax,A ay] 76)).heap[wr.heap.size]?=some (.cells #[Ae al,A ax,A ay] 76 (0,0)):=ap5 _ _;have HE1:=F hE1;have B5:=F b5;obtain⟨B,hB⟩:∃B,wr.heap.size=B:=⟨_,rfl⟩
   go_wp2_with fail
   rw[hB]at B5;have HB:=F hB
   go_loopw [19] (λi wq=>∃b:Nat,b<=a/\i=A b/\EI w n0 lb BU BS f dom X aY ((L++((List.range a).flatMap λa=>(List.range a).flatMap λb=>Ir f Y a b))++((List.range b).flatMap λb=>Ir f Y a b)) wq/\wq.heap[B]?=some (.cells #[Ae al,A ax,A ay] 76 (0,0))) (λi _=>a-(intOf i).toNat)
   case atStart=>exact⟨0,ap7 _,rfl,by simpa using Z HE1,Z B5⟩
   case round=>
    obtain⟨b,hb,rfl,hE,b5⟩:=hrel;by_cases Yw:b<a
    ·have JR:(b:Int)<(a:Int):=O;obtain⟨c0,c1,c2⟩:=((Z Eu).below hE.below hG).2 b O;obtain⟨tb1,tb2⟩:=Z HT b O;have fD:Y.getD b (0,0,0)=Y[b]:=aU O _;have GV:=Z hlen a b O O;have ak6:=hE.size;have hfb:Ir f Y a b=if al=Y[b].1 then [[(f (61,ax,Y[b].2.1),false),(f (61,ay,Y[b].2.2),false),(f (61,a,b),true)]]else []:=by
      unfold Ir dP;rw[Z HGA,fD]
     have gB:Hid (∀W',EI w n0 lb BU BS f dom X aY (((L++((List.range a).flatMap λa=>(List.range a).flatMap λb=>Ir f Y a b))++((List.range b).flatMap λb=>Ir f Y a b))++Ir f Y a b) W'->EI w n0 lb BU BS f dom X aY ((L++((List.range a).flatMap λa=>(List.range a).flatMap λb=>Ir f Y a b))++((List.range (b+1)).flatMap λb=>Ir f Y a b)) W'):=λW' h=>by
      rw[iE,<-at1];exact h
     rw[hfb]at gB;generalize Y[b]=kb at c0 c1 c2 tb1 tb2 gB;obtain⟨bl,bx,by'⟩:=kb;simp only at c0 c1 c2 tb1 tb2 gB;have jd:wr.grownBy (wr.alloc (.cells #[Ae bl,A bx,A by'] 76)) none:=an1 _ _ none;obtain⟨W1,dO⟩:∃W1,wr.alloc (.cells #[Ae bl,A bx,A by'] 76)=W1:=⟨_,rfl⟩;have b7:W1.heap[wr.heap.size]?=some (.cells #[Ae bl,A bx,A by'] 76 (0,0)):=(by rw[<-dO];exact ap5 _ _);rw[dO]at jd;have b51:=aZ (VK.grown jd) b5;have hE1:=hE.grow hn jd;have k50:W1.cell? (J B 0)=some (Ae al):=(by rw[cell_of b51];rfl);have k70:W1.cell? (J wr.heap.size 0)=some (Ae bl):=(by rw[cell_of b7];rfl);obtain⟨C,hC⟩:∃C,wr.heap.size=C:=⟨_,rfl⟩;have HE1:=F hE1;have B51:=F b51;have B7:=F b7;rw[hC]at B7 k70;obtain⟨h2,hM⟩:∃h2,(L++((List.range a).flatMap λa=>(List.range a).flatMap λb=>Ir f Y a b))++((List.range b).flatMap λb=>Ir f Y a b)=h2:=⟨_,rfl⟩;rw[hM]at GV gB HE1;have Gh:=hE1.size;have HM:=F hM;by_cases JJ:al=bl
     ·subst JJ;rw[ao4 rfl]at gB
      go_wp2_with fail
      obtain⟨V,O8⟩:∃V,W1.drew=V:=⟨_,rfl⟩;have Gl:W1.grownBy V none:=(by rw[<-O8];exact⟨rfl,rfl,rfl,an2 _,λ_ _ _=>rfl⟩);refine aq8 (S:=λW'=>VK V W') rfl ?_;have aA:VK V V:=VK.refl _;simp only[ao5,ao1,ap0,Nat.reduceAdd,an7,an6,ao6,ao8,ao7];change wpAnyH prog .any _ _ _ _ _ _ W1.drew;rw[O8];have bA:=aZ (VK.grown Gl) (Z B51);have bB:=aZ (VK.grown Gl) (Z B7);have hEV:=(Z HE1).grow hn Gl;have hsV:=hEV.size;obtain⟨Us,ak,wM,EJ,hUC⟩:=hEV.ls;have A1:=Z MC ax bx ta1 tb1;have A2:=Z MC ay by' ta2 tb2;have A3:=Z MC a b O O;refine dF 0 (Aa lb 0) aA ?_
      simp only[aF];refine dF 1 (Aa lb 0) aA ?_
      simp only[aF];refine dF 2 (Aa B 1) aA ?_
      simp only[aF];refine tH 3 (A ax) (λw' hS=>?_) aA ?_
      ·have q:=aZ hS bA;have q0:=(cell_of q 1)
       go_simp
      simp only[aF];refine dF 4 (Aa C 1) aA ?_
      simp only[aF];refine tH 5 (A bx) (λw' hS=>?_) aA ?_
      ·have q:=aZ hS bB;have q0:=(cell_of q 1)
       go_simp
      simp only[aF];refine dF 9 (Aa lb 0) aA ?_
      simp only[aF];refine dF 10 (Aa B 2) aA ?_
      simp only[aF];refine tH 11 (A ay) (λw' hS=>?_) aA ?_
      ·have q:=aZ hS bA;have q0:=(cell_of q 2)
       go_simp
      simp only[aF];refine dF 12 (Aa C 2) aA ?_
      simp only[aF];refine tH 13 (A by') (λw' hS=>?_) aA ?_
      ·have q:=aZ hS bB;have q0:=(cell_of q 2)
       go_simp
      simp only[aF];refine dF 17 (Aa lb 0) aA ?_
      simp only[aF];refine dF 18 (A a) aA ?_
      simp only[aF];refine dF 19 (A b) aA ?_
      simp only[aF];refine oH 6 (λK hK=>?_);go_simp;refine(lD ax bx V).mono ?_;rintro e w1 ⟨rfl,bG⟩;replace aA:=aA.trans (VK.grown bG);refine hK.out _ _ aA ?_;have oI:=bG.size;have NZ:Below n0 V w1:=(But.aC bG).below O (λk _ e=>by cases e);refine oH 7 (λK hK=>?_);go_simp;refine(FX n0 w1 lb BU BS f dom X aY Us ak h2 ax bx A1 (wM.grow bG) EJ hUC h9 O).mono ?_;rintro e w2 ⟨rfl,AU,BN,Wu,BQ,oU⟩;replace aA:=aA.trans oU;refine hK.out _ _ aA ?_;have Fb:f (61,ax,bx)∈put Us (f (61,ax,bx)):=dL _ _;generalize hU1:put Us (f (61,ax,bx))=U1 at AU BN Wu Fb ⊢;generalize nN:U1.idxOf (f (61,ax,bx))=x1;have su:=BQ.size;refine oH 8 (λK hK=>?_);go_simp;refine(jT x1 true w2).mono ?_;rintro e w3 ⟨rfl,dY⟩;replace aA:=aA.trans (VK.grown dY);refine hK.out _ _ aA ?_;have Aw:=dY.size;have uQ:Below n0 w2 w3:=(But.aC dY).below O (λk _ e=>by cases e);refine oH 14 (λK hK=>?_);go_simp;refine(lD ay by' w3).mono ?_;rintro e w4 ⟨rfl,mP⟩;replace aA:=aA.trans (VK.grown mP);refine hK.out _ _ aA ?_;have hs4:=mP.size;have TR:Below n0 w3 w4:=(But.aC mP).below O (λk _ e=>by cases e);refine oH 15 (λK hK=>?_);go_simp;refine(FX n0 w4 lb BU BS f dom X aY U1 ak h2 ay by' A2 ((AU.grow dY).grow mP) BN Wu h9 O).mono ?_;rintro e w5 ⟨rfl,adC,adz,adw,YJ,hK5⟩;replace aA:=aA.trans hK5;refine hK.out _ _ aA ?_;have tC:f (61,ay,by')∈put U1 (f (61,ay,by')):=dL _ _;have LZ:=mG U1 (f (61,ay,by'));generalize hU2:put U1 (f (61,ay,by'))=U2 at adC adz adw tC LZ ⊢;generalize mM:U2.idxOf (f (61,ay,by'))=x2;have hs5:=YJ.size;refine oH 16 (λK hK=>?_);go_simp;refine(jT x2 true w5).mono ?_;rintro e w6 ⟨rfl,UK⟩;replace aA:=aA.trans (VK.grown UK);refine hK.out _ _ aA ?_;have hs6:=UK.size;have hB6:Below n0 w5 w6:=(But.aC UK).below O (λk _ e=>by cases e);refine oH 20 (λK hK=>?_);go_simp;refine(lD a b w6).mono ?_;rintro e w7 ⟨rfl,hg7⟩;replace aA:=aA.trans (VK.grown hg7);refine hK.out _ _ aA ?_;have hs7:=hg7.size;have hB7:Below n0 w6 w7:=(But.aC hg7).below O (λk _ e=>by cases e);refine oH 21 (λK hK=>?_);go_simp;refine(FX n0 w7 lb BU BS f dom X aY U2 ak h2 a b A3 ((adC.grow UK).grow hg7) adz adw h9 O).mono ?_;rintro e w8 ⟨rfl,TL,JV,adv,hB8,hK8⟩;replace aA:=aA.trans hK8;refine hK.out _ _ aA ?_;have hm3:f (61,a,b)∈put U2 (f (61,a,b)):=dL _ _;have yN:=mG U2 (f (61,a,b));generalize hU3:put U2 (f (61,a,b))=U3 at TL JV adv hm3 yN ⊢;generalize qh:U3.idxOf (f (61,a,b))=x3;have hs8:=hB8.size;have e1:vw U3 (f (61,ax,bx),false)=(x1,false):=(by unfold vw;rw[oD (LZ.trans yN) Fb,nN]);have e2:vw U3 (f (61,ay,by'),false)=(x2,false):=(by unfold vw;rw[oD yN tC,mM]);have e3:vw U3 (f (61,a,b),true)=(x3,true):=(by unfold vw;rw[qh]);have EG:=wQ w8 (x1,false) (x2,false) (x3,true);have ag8:[(f (61,ax,bx),false),(f (61,ay,by'),false),(f (61,a,b),true)].map (vw U3)=[(x1,false),(x2,false),(x3,true)]:=(by simp only[ay3,List.map_nil,e1,e2,e3]);rw[<-ag8]at EG;simp only at EG;have fD:w8.grownBy (w8.alloc (.cells #[A x1,.bool false,A x2,.bool false,A x3,.bool true] 207)) none:=an1 _ _ none;refine oH 22 (λK hK=>?_);go_simp;replace aA:=aA.trans (VK.grown fD);refine hK.out _ _ aA ?_;have Qm:=fH X n0 _ lb BU BS f dom U3 ak h2 _ [(f (61,ax,bx),false),(f (61,ay,by'),false),(f (61,a,b),true)] (TL.grow fD) (λq e=>by have:=hX q e;simp;omega) JV EG R R (by
       intro l hl;simp only[ar9,av3,aA4]at hl;obtain rfl|rfl|rfl:=hl
       ·exact(LZ.trans yN).mem Fb
       ·exact yN.mem tC
       ·exact hm3) anf (by rw[JV.len];omega)
      refine oH 23 (λK hK=>?_);go_simp;refine(Qm).mono ?_;rintro e w9 ⟨⟨z9,rfl⟩,IW,aaO,Wx,WI,hK9⟩;refine hK.out _ _ (aA.trans hK9) (ar2 (by kernel_rfl) ?_ _);have hBb:Below n0 w8 _:=(But.aC fD).below O (λk _ e=>by cases e);have hs9:=WI.size;have SA:=fD.size;have hEF:=Z gB w9 ⟨⟨U3,IW,aaO,Wx,adv⟩,hEV.below.trans (((((((((NZ.trans BQ).trans uQ).trans TR).trans YJ).trans hB6).trans hB7).trans hB8).trans hBb).trans WI),hEV.keep.trans (aA.trans hK9),O⟩;have b59:=aZ (aA.trans hK9) bA;have HEF:=F hEF;have B59:=F b59
      go_wp2_with fail
      exact⟨⟨b+1,Yw,by go_num,Z HEF,Z B59⟩,by simp[intOf];omega⟩
     ·rw[an8 JJ,av7]at gB
      go_wp2_with fail
      exact⟨⟨b+1,Yw,by go_num,Z gB _ (Z HE1),Z B51⟩,by simp[intOf];omega⟩
    ·have qK:b=a:=O;subst qK;have JR:¬(b:Int)<(b:Int):=O;have HN:=F (iE (λa=>(List.range a).flatMap λb=>Ir f Y a b) b);have UO:=F hE
     go_wp2_with fail
     refine⟨⟨b+1,hlt,by go_num,?_⟩,by simp[intOf];omega⟩;rw[Z HN,<-at1];exact Z UO
  ·have haa:a=Y.length:=O;subst haa;have iF:¬(Y.length:Int)<(Y.length:Int):=O;have UO:=F hE
   go_wp2_with fail
   go_end0
   exact⟨⟨_,rfl⟩,Z UO⟩
end Go.Proofs.YthcppbmkacbbiabGreat
