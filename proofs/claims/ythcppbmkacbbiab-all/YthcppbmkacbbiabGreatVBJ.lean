import Derived.Test.YthcppbmkacbbiabGreatVBI
set_option linter.unusedSimpArgs false
set_option maxHeartbeats 4000000
set_option maxRecDepth 100000
namespace Go.Proofs.YthcppbmkacbbiabGreat
open Go.Proofs.Tryz
section
open Go.RowKit Go.Maps Go.WideMaps
open au (Key put)
abbrev pV:Type:=Nat×Bool×Key
def fM(s:pV):dw:=(s.2.2,s.2.1)
def PI(s:pV):List Value:=[A s.1,.bool s.2.1,Ae s.2.2.1,A s.2.2.2.1,A s.2.2.2.2]
def kC(w:World)(v:Value)(ss:List pV):Prop:=
 ∃(p:Option Addr) (cap:Nat),v=.slice p ss.length cap/\ss.length<=cap/\(ss≠[]->∃(g off:Nat) (cur:Array Value) (x:Nat×Nat),p=some (J g off)/\w.heap[g]?=some (Obj.cells cur 210 x)/\
  ∀i (hi:i<ss.length) j,j<5->cur[off+i*5+j]?=(PI ss[i])[j]?)
theorem kC.below{w w':World}{v:Value}{ss:List pV}(h:kC w v ss)(hb:Below w.heap.size w w'):kC w' v ss:=by
 obtain⟨p,cap,I,M,h3⟩:=h;refine⟨p,cap,I,M,λbg=>?_⟩;obtain⟨g,off,cur,x,q1,q2,q3⟩:=h3 bg;exact⟨g,off,cur,x,q1,(hb.block g (an0.1 q2).1).trans q2,q3⟩
theorem kC.cells{w:World}{v:Value}{ss:List pV}(h:kC w v ss):∃p cap,v=.slice p ss.length cap/\ss.length<=cap/\(ss≠[]->∃g off,p=some (J g off)/\g<w.heap.size/\∀W:World,Below w.heap.size w W->∀k (hk:k<ss.length),
  W.cell? ⟨g,off+k*5,none⟩=some (A ss[k].1)/\W.cell? ⟨g,off+k*5+1,none⟩=some (.bool ss[k].2.1)/\W.cell? ⟨g,off+k*5+2,none⟩=some (Ae ss[k].2.2.1)/\W.cell? ⟨g,off+k*5+3,none⟩=some (A ss[k].2.2.2.1)/\W.cell? ⟨g,off+k*5+4,none⟩=some (A ss[k].2.2.2.2)):=by
 obtain⟨p,cap,I,M,h3⟩:=h;refine⟨p,cap,I,M,λbg=>?_⟩;obtain⟨g,off,cur,x,q1,q2,q3⟩:=h3 bg;have hg:=(an0.1 q2).1;refine⟨g,off,q1,hg,λW hW k hk=>?_⟩;have hb:=(hW.block g hg).trans q2;refine⟨?_,?_,?_,?_,?_⟩<;>rw[cell_of hb]
 ·exact(q3 k hk 0 O).trans rfl
 ·exact(q3 k hk 1 O).trans rfl
 ·exact(q3 k hk 2 O).trans rfl
 ·exact(q3 k hk 3 O).trans rfl
 ·exact(q3 k hk 4 O).trans rfl
theorem kM.made(w:World)(n:Nat):kM (w.alloc (.map #[] 0)) w.heap.size id n 0:=
 ⟨id,λ_=>0,⟨.map [],0,an2 _,aB6 w _ _ _,λi _=>⟨by simp[Maps.has],λh=>absurd rfl h⟩⟩,λi hi=>⟨hi,λh=>h,λh=>absurd rfl h⟩⟩
theorem agE(n:Nat):rts id n=n:=by
 unfold rts;rw[List.countP_eq_length.2 R];simp
theorem adN{L:List dw}{k:Nat}(hk:k<L.length):eqs (L.take (k+1))=eqs (L.take k)++if (L[k].2&&decide (L[k].1.1=61))=true then [L[k].1.2]else []:=by
 unfold eqs;rw[aq3,an3 hk,ay6,au0]
 congr 1
 show([L[k]].filter _).map _=_
 rw[List.filter_cons];split<;>rfl
structure JG(w:World)(f:Nat->Nat)(n b:Nat)(W:World):Prop where
 m:∃c,kM W b f n c/\c+rts f n<=n
 roots:lX f n
 below:Below w.heap.size w W
 lo:w.heap.size<=b
theorem JG.grow{w:World}{f:Nat->Nat}{n b:Nat}{W W':World}(h:JG w f n b W)(hg:W.grownBy W' none):JG w f n b W':=by
 obtain⟨c,I,M⟩:=h.m;exact⟨⟨c,I.kept (hg.block b I.lt R),M⟩,h.roots,h.below.grown hg h.below.size (λk e=>by cases e),h.lo⟩
theorem JG.join{w:World}{f:Nat->Nat}{n b:Nat}{W:World}(h:JG w f n b W)(hn:n<=500){i j:Nat}(hi:i<n)(hj:j<n) :
  Calls prog 70 #[.map (some b),A i,A j] W λe W'=>(∃v,e=.returned v)/\JG w (wZ f i j) n b W'/\W.grownBy W' (some b):=by
 obtain⟨c,I,M⟩:=h.m;refine(RZ W b n c f i j I hi hj hn O).mono ?_;rintro e W' ⟨he,hg,hc⟩;refine⟨he,⟨⟨_,hc,?_⟩,h.roots.wZ hi,h.below.grown hg h.below.size (λk e=>by cases e;exact h.lo),h.lo⟩,hg⟩;by_cases e:f i=f j
 ·rw[ao4 e,yI e];exact M
 ·rw[an8 e];have:=Hu h.roots hi hj e;omega
theorem Gf(w:World)(v:Value)(ss:List pV)(n:Nat)(hs:kC w v ss)(hn:n<=500)(hl:ss.length<=1000)(iq:∀s∈ss,s.2.2.1=61->s.2.2.2.1<n/\s.2.2.2.2<n) :
  Calls prog 120 #[v] w λe w'=>∃b,e=.returned (.map (some b))/\JG w (cZ (ss.map fM)) n b w':=by
 obtain⟨vp,vc,rfl,hvc,Lc⟩:=hs.cells;have Ii:=@aC9 prog;have HVS:=F Lc;have HOK:=F iq
 go_in
 go_wp2_with fail
 go_loopw [9] (λi wr=>∃k:Nat,k<=ss.length/\i=A k/\JG w (cZ ((ss.map fM).take k)) n w.heap.size wr) (λi _=>ss.length-(intOf i).toNat)
 case atStart=>
  refine⟨0,ap7 _,rfl,⟨0,kM.made w n,?_⟩,ab1 n,(aq1 _ _).alloc (an2 _) _,an2 _⟩;rw[az5]
  show 0+rts id n<=n
  rw[agE];omega
 case round=>
  obtain⟨k,hk,rfl,hJ⟩:=hrel;by_cases hlt:k<ss.length
  ·have iF:(k:Int)<(ss.length:Int):=O;have bg:ss≠[]:=(by intro e;rw[e]at hlt;simp at hlt);obtain⟨g,off,rfl,D5,hcs⟩:=Z HVS bg;obtain⟨d0,d1,d2,d3,d4⟩:=hcs wr hJ.below k hlt;have iq:=Z HOK ss[k] (an5 hlt);have kT:cZ ((ss.map fM).take (k+1))=if (ss[k].2.1&&decide (ss[k].2.2.1=61))=true then wZ (cZ ((ss.map fM).take k)) ss[k].2.2.2.1 ss[k].2.2.2.2 else cZ ((ss.map fM).take k):=by
    unfold cZ;rw[adN (by simpa using hlt)];simp only[ax5,fM];split
    ·rw[NG]
    ·rw[av7]
   have je:=F kT;have HJ:=F hJ;generalize ss[k]=s at d0 d1 d2 d3 d4 iq je;obtain⟨sx,si,sc,s1,s2⟩:=s;simp only at d0 d1 d2 d3 d4 iq je;generalize cZ ((ss.map fM).take k)=aj at je HJ;have fK:wr.grownBy (wr.alloc (.cells #[A sx,.bool si,Ae sc,A s1,A s2] 210)) none:=an1 _ _ none;have Lm:=(Z HJ).grow fK;by_cases hc:si=true/\sc=61
   ·obtain⟨rfl,rfl⟩:=hc;obtain⟨o1,o2⟩:=iq rfl;have Td:=Lm.join hn o1 o2;rw[ao4 R]at je;have HJN:=F Td
    go_wp2_with fail
    refine(Z HJN).mono ?_;rintro e w2 ⟨⟨v2,rfl⟩,JW,dh⟩;have HJ2:=F JW
    go_wp2_with fail
    refine⟨⟨k+1,hlt,by go_num,?_⟩,by simp[intOf];omega⟩;rw[Z je];exact Z HJ2
   ·have Qo:¬(si&&decide (sc=61))=true:=(by simpa using hc);rw[an8 Qo]at je;have HJ2:=F Lm;by_cases I:si=true
    ·have M:¬sc=61:=λe=>hc ⟨I,e⟩;subst I
     go_wp2_with fail
     refine⟨⟨k+1,hlt,by go_num,?_⟩,by simp[intOf];omega⟩;rw[Z je];exact Z HJ2
    ·have h1':si=false:=(by simpa using I);subst h1'
     go_wp2_with fail
     refine⟨⟨k+1,hlt,by go_num,?_⟩,by simp[intOf];omega⟩;rw[Z je];exact Z HJ2
  ·have gW:k=ss.length:=O;have iF:¬(k:Int)<(ss.length:Int):=O;have ht:(ss.map fM).take k=ss.map fM:=(by rw[aq5 anf]);rw[ht]at hJ;have HJ:=F hJ
   go_wp2_with fail
   exact aq0 (v:=.map (some w.heap.size)) (by simp[results,results120,go_sem]) rfl ⟨w.heap.size,rfl,Z HJ⟩
end
section
open au (Key put fQ aB isAtom cnt bJ jD)
def sU(nt:Nat):Ai:=(61,0,0)::(List.range nt).flatMap λy=>(List.range y).map λx=>(61,x,y)
def wO(cs:Ah):Ai:=(List.range cs.length).map λc=>((cs.getD c (0,0)).1,c,0)
def DL(ps:Ai):Ai:=ps.filter λq=>aB q.1
def oZ(nt:Nat)(cs:Ah)(ps:Ai):Ai:=sU nt++wO cs++DL ps
def xA(ps:Ai):Ai:=ps.filter λq=>aB q.1||isAtom q.1
theorem TY{nt:Nat}(h:nt<=7):(sU nt).length<=22:=by
 have key:∀k,k<=7->((List.range k).flatMap λy=>(List.range y).map λx=>((61,x,y):Key)).length<=k*(k-1)/2:=by
  intro k hk
  match k,hk with
  |0,_=>decide
  |1,_=>decide
  |2,_=>decide
  |3,_=>decide
  |4,_=>decide
  |5,_=>decide
  |6,_=>decide
  |7,_=>decide
 have I:=key nt h;have M:nt*(nt-1)/2<=21:=by
  match nt,h with
  |0,_=>decide
  |1,_=>decide
  |2,_=>decide
  |3,_=>decide
  |4,_=>decide
  |5,_=>decide
  |6,_=>decide
  |7,_=>decide
 unfold sU;rw[ao1];omega
theorem Gu{nt a b:Nat}(ha:a<nt)(hb:b<nt):kF (61,a,b)∈sU nt:=by
 unfold sU;by_cases e:a=b
 ·subst e;rw[yh];simp
 ·by_cases h:a<b
  ·rw[yg h];refine List.mem_cons_of_mem _ (aw5.2 ⟨b,as2.2 hb,ap6.2 ⟨a,as2.2 h,rfl⟩⟩)
  ·have h':b<a:=O;rw[Df h'];refine List.mem_cons_of_mem _ (aw5.2 ⟨a,as2.2 ha,ap6.2 ⟨b,as2.2 h',rfl⟩⟩)
theorem Gw{cs:Ah}{c:Nat}(h:c<cs.length):(cs[c].1,c,0)∈wO cs:=by
 refine ap6.2 ⟨c,as2.2 h,?_⟩;rw[aU h]
theorem Og{nt:Nat}{cs:Ah}{ps:Ai}(h7:nt<=7)(h4:cs.length<=4)(hj:6*cnt aB ps+3<=100):(oZ nt cs ps).length<=42:=by
 have I:=TY h7;have M:(wO cs).length=cs.length:=by simp[wO]
 have h3:(DL ps).length=cnt aB ps:=by
  unfold DL cnt;rw[List.countP_eq_length_filter]
 unfold oZ;rw[ap4,ap4];omega
theorem aa6{ps:Ai}(hj:3*(cnt aB ps+cnt isAtom ps)<=100):(xA ps).length<=33:=by
 have h:(xA ps).length<=cnt aB ps+cnt isAtom ps:=by
  unfold xA cnt
  induction ps with
  |nil=>simp
  |cons q ps ih=>
   have hp:3*(cnt aB ps+cnt isAtom ps)<=100:=by
    unfold cnt at hj ⊢;rw[az7,az7]at hj;omega
   have:=ih hp;rw[List.filter_cons,az7,az7];cases I:aB q.1<;>cases M:isAtom q.1<;>simp<;>omega
 omega
theorem QB{f:Key->Key}{Us ps aY:Ai}(h0:∀p∈Us,p∈aY)(h:∀q∈ps,q.1≠33->f q∈aY):∀k,∀p∈vH f Us ps k,p∈aY:=by
 intro k
 induction k with
 |zero=>simpa[vH]using h0
 |succ k ih=>
  by_cases hk:k<ps.length
  ·rw[tY hk];unfold PV;by_cases e:ps[k].1=33
   ·rw[ao4 e];exact ih
   ·rw[an8 e];exact Q9 ih (h _ (an5 hk) e)
  ·have:vH f Us ps (k+1)=vH f Us ps k:=by
    unfold vH;rw[aq5 O,aq5 O]
   rw[this];exact ih
theorem Rn{nt:Nat}{cs:Ah}{ps:Ai}(hi:bJ nt cs.length ps)(hk:jD cs ps):∀q∈ps,q.1≠33->kF q∈oZ nt cs ps:=by
 intro q hq mV;obtain⟨i,hlt,e⟩:=ar6 hq;have ho:=hi.ok i hlt;rw[e]at ho;unfold oZ;obtain⟨a,_⟩|⟨a,_⟩|⟨a,b,c⟩|⟨a,b,c⟩:=ho
 ·exact absurd a mV
 ·rw[jl.other q (by intro e;rw[e]at a;simp[aB]at a)];exact aA1 _ (as6.2 ⟨hq,a⟩)
 ·rw[jl.other q O];obtain⟨I,M⟩:=hk.letter q hq a;have:=Gw I;have eq:q=(cs[q.2.1].1,q.2.1,0):=by rw[M,<-c]
  rw[<-eq]at this;exact as9 _ (aA1 _ this)
 ·have eq:q=(61,q.2.1,q.2.2):=by rw[<-a]
  rw[eq];exact as9 _ (as9 _ (Gu b c))
theorem Rl{nt nc:Nat}{ps:Ai}(hi:bJ nt nc ps):∀q∈ps,q.1≠33->id q∈xA ps:=by
 intro q hq mV;obtain⟨i,hlt,e⟩:=ar6 hq;have ho:=hi.ok i hlt;rw[e]at ho;refine as6.2 ⟨hq,?_⟩;obtain⟨a,_⟩|⟨a,_⟩|⟨a,b,c⟩|⟨a,b,c⟩:=ho
 ·exact absurd a mV
 ·simp[a]
 ·have:isAtom q.1=true:=by obtain a|a:=a<;>(rw[a];decide)
  simp[this]
 ·have:isAtom q.1=true:=by rw[a];decide
  simp[this]
theorem XU(nt:Nat):SmD kF (yV nt) nt:=by
 refine⟨λp h=>h,λa b ha hb=>?_,λp h=>jl.other p h⟩;by_cases e:a=b
 ·subst e;exact⟨0,0,yh a,O,O,yh 0⟩
 ·by_cases h:a<b
  ·exact⟨a,b,yg h,ha,hb,yg h⟩
  ·have h':b<a:=O;exact⟨b,a,Df h',hb,ha,yg h'⟩
theorem agA(dom:Key->Prop)(nt:Nat)(hd:∀p,dom p):SmD id dom nt:=
 ⟨λp _=>hd p,λa b ha hb=>⟨a,b,rfl,ha,hb,rfl⟩,λ_ _=>rfl⟩
end
section
open Go.RowKit Go.Maps Go.WideMaps
open Sat (View Rule og dN)
open au (Key put fQ aB bJ)
theorem Dy(w:World)(dom:Key->Prop)(X:Nat->Prop) :
  Calls prog 64 #[] w λe w'=>∃lb BU BS,e=.returned (Aa lb 0)/\LG w.heap.size w' lb BU BS id dom [] [] X/\kL w' BS id dom 0/\w.grownBy w' none:=by
 have Ii:=@aC9 prog
 go_in
 go_wp2_with fail
 go_ret
 have I:((w.alloc (.map #[] 0)).alloc (.map #[] 0)).heap.size=w.heap.size+2:=R
 have hgF:w.grownBy (((w.alloc (.map #[] 0)).alloc (.map #[] 0)).alloc (.cells #[.map (some w.heap.size),.map (some (w.heap.size+1)),.slice none 0 0] 203)) none:=((an1 _ _ none).trans (an1 _ _ none)).trans (an1 _ _ none);have hm:=kL.made (w.alloc (.map #[] 0)) dom;have e:(w.alloc (.map #[] 0)).heap.size=w.heap.size+1:=R
 rw[e]at hm;have tC:=hm.kept (w':=((w.alloc (.map #[] 0)).alloc (.map #[] 0)).alloc (.cells #[.map (some w.heap.size),.map (some (w.heap.size+1)),.slice none 0 0] 203)) (ao3 _ _ _ R);refine⟨w.heap.size+1+1,w.heap.size,w.heap.size+1,rfl,⟨⟨.slice none 0 0,?_,?_,λk hk=>by cases hk⟩,?_,?_,O,O⟩,tC,hgF⟩
 ·refine xE.mk ?_;have e:w.heap.size+1+1=((w.alloc (.map #[] 0)).alloc (.map #[] 0)).heap.size:=R
  rw[e,ap5]
 ·exact⟨[],aw9 _ _ _ _,λi hi=>by simp at hi⟩
 ·have hm:aT (w.alloc (.map #[] 0)) 82 w.heap.size bZ ([]:Ai):=nK w _ _;exact(hm.kept (ao3 _ _ _ R)).kept (ao3 _ _ _ anf)
 ·obtain⟨D,nn,a,b,c⟩:=tC;exact⟨D,nn,O,b,c⟩
theorem aT.akV{w:World}{b:Nat}{Us:Ai}(h:aT w 82 b bZ Us)(ty:TypeId):(Builtin.len_ #[69] ty #[.map (some b)]).run prog w=.ok (A Us.length) w:=by
 obtain⟨D,I,M,_⟩:=h;rw[I.len underlying69 ty,M]
theorem F7(w:World)(lb BU:Nat)(ms:Option Nat)(rp:Option Addr)(rl rc:Nat)(Us:Ai)(tape:ByteArray)(no:Nat)(aa5:Array Value)(hL:xE w lb (some BU) ms (.slice rp rl rc))(hM:aT w 82 BU bZ Us) :
  Calls prog 59 #[Aa lb 0,.string tape,.func (.func no) #[] aa5] w λe w'=>e=.returned (Aa w.heap.size 0)/\xB w' w.heap.size Us.length (.slice rp rl rc) (.func (.func no) #[] aa5) tape.data.toList none/\w.grownBy w' none:=by
 obtain⟨c0,_,c2⟩:=hL.cells;have HM:=F hM
 go_in
 go_wp2_with fail
 refine aq8 (S:=λW'=>w.grownBy W' none) rfl ?_;have aA:w.grownBy w.drew none:=⟨rfl,rfl,rfl,an2 _,λ_ _ _=>rfl⟩;simp only[ao5,ao1,ap0,Nat.reduceAdd,an7,an6,ao6,ao8,ao7];change wpAnyH prog .any _ _ _ _ _ _ w.drew;refine dF 0 (Aa lb 0) aA ?_
 simp only[aF];refine dF 1 (Aa lb 0) aA ?_
 simp only[aF];refine dF 2 (Aa lb 0) aA ?_
 simp only[aF];refine tH 3 (.map (some BU)) (λw' hS=>?_) aA ?_
 ·have q:=hS.cell c0 R;go_simp
 simp only[aF];refine tH 4 (A Us.length) (λw' hS=>?_) aA ?_
 ·have hlen:=((Z HM).kept (hS.block BU (Z HM).lt R)).akV 3;simp[execOp,resolve,invoke,builtin,hlen,Result.andThen,go_sem]
 simp only[aF];refine dF 5 (Aa lb 0) aA ?_
 simp only[aF];refine dF 6 (Aa lb 0) aA ?_
 simp only[aF];refine dF 7 (Aa lb 2) aA ?_
 simp only[aF];refine tH 8 (.slice rp rl rc) (λw' hS=>?_) aA ?_
 ·have q:=hS.cell c2 R;go_simp
 simp only[aF];refine dF 9 (.func (.func no) #[] aa5) aA ?_
 simp only[aF];refine dF 10 (.string tape) aA ?_
 simp only[aF];refine dF 11 (.agg #[A Us.length,.slice rp rl rc,.func (.func no) #[] aa5,.string tape,.map none]) aA ?_
 simp only[aF];have fD:w.grownBy (w.drew.alloc (.cells #[A Us.length,.slice rp rl rc,.func (.func no) #[] aa5,.string tape,.map none] 137)) none:=aA.trans (an1 _ _ none);refine oH 12 (λK hK=>?_);go_simp;replace aA:=fD;refine hK.out _ _ aA ?_;refine oH 13 (λK hK=>?_);go_simp;refine hK.out _ _ (aA) (ar2 (by kernel_rfl) ?_ _)
 go_wp2_with fail
 go_ret
 refine⟨rfl,?_,fD⟩;refine xB.mk ?_;have:(w.drew.alloc (.cells #[A Us.length,.slice rp rl rc,.func (.func no) #[] aa5,.string tape,.map none] 137)).heap[w.drew.heap.size]?=_:=ap5 _ _;exact this
end
open Go.RowKit Go.Maps Go.WideMaps
open au (Key put)
attribute [local go_sem] Oper.semAt_some
structure Cl0(Y:Ai)(f f':Nat->Nat):Prop where
 roots:lX f' Y.length
 ker:∀a b,f a=f b->f' a=f' b
 least:∀anc:Nat->Nat->Prop,Eqv anc->Y8 anc Y->(∀a b,a<Y.length->b<Y.length->f a=f b->anc a b)->∀a b,a<Y.length->b<Y.length->f' a=f' b->anc a b
theorem Cl0.start{Y:Ai}{f:Nat->Nat}(h:lX f Y.length):Cl0 Y f f:=⟨h,λ_ _ e=>e,λ_ _ _ h=>h⟩
theorem Vo{f:Nat->Nat}{Y:Ai}:∀p∈bI (mkd f Y) Y.length,p.1<Y.length/\p.2<Y.length:=λp hp=>by
 have h:=(lq (mkd f Y) Y.length (by rw[bM];exact an2 _) p).1 hp;exact⟨O,h.1⟩
theorem Cl0.step{Y:Ai}{f f':Nat->Nat}(h:Cl0 Y f f')(ht:∀i (hi:i<Y.length),Y[i].2.1<Y.length/\Y[i].2.2<Y.length):Cl0 Y f (lY f' (bI (mkd f' Y) Y.length)):=by
 refine⟨h.roots.lY (λp hp=>(Vo p hp).1),λa b e=>Sj (h.ker a b e),λanc hR hC hf=>?_⟩;have M:=h.least anc hR hC hf;exact OQ hR (λp hp=>acf hC ht M p hp) M
theorem Cl0.closed{Y:Ai}{f f':Nat->Nat}(h:Cl0 Y f f')(hc:GI f' Y):Closed Y f f':=⟨h.roots,hc,h.ker,h.least⟩
theorem QW{n:Nat}{l:List (Nat×Nat)}:∀{f:Nat->Nat},lX f n->(∀p∈l,p.1<n/\p.2<n)->rts (lY f l) n<=rts f n:=by
 induction l with
 |nil=>intro f _ _;exact an2 _
 |cons p l ih=>
  intro f h hl;have I:=hl p R;have M:=ih (h.wZ (j:=p.2) I.1) (λq hq=>hl q (by simp[hq]));have h3:=Ve h I.1 I.2;exact ap3 M h3
theorem FZ{n:Nat}{l:List (Nat×Nat)}:∀{f:Nat->Nat},lX f n->(∀p∈l,p.1<n/\p.2<n)->(∃p∈l,f p.1≠f p.2)->rts (lY f l) n+1<=rts f n:=by
 induction l with
 |nil=>intro f _ _ ⟨p,hp,_⟩;cases hp
 |cons p l ih=>
  intro f h hl ⟨q,hq,bg⟩;have I:=hl p R;have M:∀q∈l,q.1<n/\q.2<n:=λq hq=>hl q (by simp[hq]);by_cases e:f p.1=f p.2
  ·have e1:lY f (p::l)=lY f l:=by
    show lY (wZ f p.1 p.2) l=lY f l
    rw[yI e]
   rw[e1];obtain e2|hq:=ar9.1 hq
   ·subst e2;exact absurd e bg
   ·exact ih h M ⟨q,hq,bg⟩
  ·have h3:=QW (h.wZ (j:=p.2) I.1) M;have h4:=Hu h I.1 I.2 e
   show rts (lY (wZ f p.1 p.2) l) n+1<=rts f n
   omega
theorem kM.aiA{W:World}{b n c:Nat}{f:Nat->Nat}(h:kM W b f n c):∃o:Obj,W.heap[b]?=some o/\∀c t fz,o≠.cells c t fz:=by
 obtain⟨g,d,⟨D,nn,_,⟨es,clock,I,_⟩,_⟩,_⟩:=h;exact⟨_,I,λ_ _ _ e=>by cases e⟩
def mkD(D:Nat):Deferred:={target:=.collected D,args:=#[]}
theorem F8{aj:Fence}{n:Nat}{P:Program}{fn:Func}{tmps:Array Value}{anc:Ending->World->Prop}:∀(Ds:List Nat) (W:World),Ds.Nodup->(∀D∈Ds,W.heap[D]?=some (.deferred (some [])))->
  (∀W',But (λk=>k∈Ds) W W'->LeavesInM aj n P fn tmps anc [] .returning W')->LeavesInM aj n P fn tmps anc (Ds.map mkD) .returning W
 |[],W,_,_,h=>h W (But.refl _ _)
 |D::Ds,W,hn,hd,h=>by
  have hn':=List.nodup_cons.1 hn;refine⟨R,.inl ⟨D,W.putObj D (.deferred none),rfl,au4 (hd D R),?_⟩⟩;have hb:But (λk=>some k=some D) W (W.putObj D (.deferred none)):=But.aC (au9 _ D _);refine F8 Ds _ hn'.2 (λE hE=>?_) (λW' hW'=>h W' ?_)
  ·have bg:E≠D:=λe=>hn'.1 (e▸hE);rw[ap1 bg];exact hd E (by simp[hE])
  ·exact(hb.mono (λk _ e=>by cases e;simp)).trans (hW'.mono (λk _ e=>by simp[e]))
structure CL(w:World)(Y:Ai)(f':Nat->Nat)(b GT GC GP nc np:Nat)(Ds:List Nat)(W:World):Prop where
 m:∃c,kM W b f' Y.length c/\c+rts f' Y.length<=Y.length
 but:But (λk=>k=b) w W
 x0:W.heap[w.heap.size]?=some (.cells #[Ac GT 0 Y.length Y.length,Ac GC 0 nc nc,Ac GP 0 np np] 46 (0,0))
 x1:W.heap[w.heap.size+1]?=some (.cells #[.map (some b)] 53 (0,0))
 ds:∀D∈Ds,W.heap[D]?=some (.deferred (some []))
 lo:∀D∈Ds,w.heap.size<=D
theorem CL.grow{w:World}{Y:Ai}{f':Nat->Nat}{b GT GC GP nc np:Nat}{Ds:List Nat}{W W':World}(h:CL w Y f' b GT GC GP nc np Ds W)(hg:W.grownBy W' none):CL w Y f' b GT GC GP nc np Ds W':=by
 obtain⟨c,I,M⟩:=h.m;have k:∀(j:Nat) (o:Obj),W.heap[j]?=some o->W'.heap[j]?=some o:=λj o hj=>(hg.block j (an0.1 hj).1 R).trans hj;exact⟨⟨c,I.kept (hg.block b I.lt R),M⟩,h.but.then (But.aC hg) (λi _ e=>by cases e),k _ _ h.x0,k _ _ h.x1,λD hD=>k _ _ (h.ds D hD),h.lo⟩
theorem CL.keep{w:World}{Y:Ai}{f':Nat->Nat}{b GT GC GP nc np:Nat}{Ds:List Nat}{W W':World}{row:Option Nat}{B:Nat}(h:CL w Y f' b GT GC GP nc np Ds W)(hg:W.grownBy W' row)(hb:b<B)(hw:w.heap.size+1<B)(hD:∀D∈Ds,D<B)
 (hr:∀r,row=some r->B<=r/\∃o:Obj,W.heap[r]?=some o/\o.isCells=false):CL w Y f' b GT GC GP nc np Ds W':=by
 obtain⟨c,I,M⟩:=h.m;have k:∀j,j<B->j<W.heap.size->W'.heap[j]?=W.heap[j]?:=λj hj hl=>hg.block j hl (λe=>by have:=(hr j e.symm).1;omega);refine⟨⟨c,I.kept (k b hb I.lt),M⟩,h.but.then (But.aC hg) (λi hi e=>?_),(k _ O (an0.1 h.x0).1).trans h.x0,(k _ hw (an0.1 h.x1).1).trans h.x1,λD hD'=>(k _ (hD D hD') (an0.1 (h.ds D hD')).1).trans (h.ds D hD'),h.lo⟩;have:=(hr i e.symm).1;omega
theorem CL.Jd{w:World}{Y:Ai}{f':Nat->Nat}{b GT GC GP nc np:Nat}{Ds:List Nat}{W:World}(h:CL w Y f' b GT GC GP nc np Ds W):∃es cl,W.heap[b]?=some (.map es cl):=by
 obtain⟨c,⟨g,d,⟨D,nn,_,⟨es,clock,I,_⟩,_⟩,_⟩,_⟩:=h.m;exact⟨es,clock,I⟩
theorem CL.join{w:World}{Y:Ai}{f':Nat->Nat}{b GT GC GP nc np:Nat}{Ds:List Nat}{W:World}(h:CL w Y f' b GT GC GP nc np Ds W)(hr:lX f' Y.length)(hn:Y.length<=7){i j:Nat}(hi:i<Y.length)(hj:j<Y.length) :
  Calls prog 70 #[.map (some b),A i,A j] W λe W'=>(∃v,e=.returned v)/\CL w Y (wZ f' i j) b GT GC GP nc np Ds W'/\W.grownBy W' (some b):=by
 obtain⟨c,I,M⟩:=h.m;obtain⟨es,cl,hb⟩:=h.Jd;refine(RZ W b Y.length c f' i j I hi hj O O).mono ?_;rintro e W' ⟨he,hg,hc⟩;have k:∀(j:Nat) (o:Obj),W.heap[j]?=some o->(∀es cl,o≠.map es cl)->W'.heap[j]?=some o:=λj o hj bg=>(hg.block j (an0.1 hj).1 (λe=>by
  cases e;rw[hb]at hj;cases hj;exact bg _ _ rfl)).trans hj
 refine⟨he,⟨⟨_,hc,?_⟩,h.but.then (But.aC hg) (λi _ e=>by cases e;rfl),k _ _ h.x0 (λ_ _ e=>by cases e),k _ _ h.x1 (λ_ _ e=>by cases e),λD hD=>k _ _ (h.ds D hD) (λ_ _ e=>by cases e),h.lo⟩,hg⟩;by_cases e:f' i=f' j
 ·rw[ao4 e,yI e];exact M
 ·rw[an8 e];have:=Hu hr hi hj e;omega
theorem aaq{f:Nat->Nat}{l:List (Nat×Nat)}{k:Nat}(hk:k<l.length):lY f (l.take (k+1))=wZ (lY f (l.take k)) l[k].1 l[k].2:=by
 rw[aq3,an3 hk]
 show lY f (l.take k++[l[k]])=_
 rw[NG]
theorem close_any(GT GC GP nc np b c0:Nat)(f:Nat->Nat)(Y:Ai)(w:World)(hl:Y.length<=7)(kE:dS w GT Y)(hi:au.Inv Y)(hM:kM w b f Y.length c0)(zO:c0+rts f Y.length<=Y.length)(yK:lX f Y.length)(ht:∀i (hi:i<Y.length),Y[i].2.1<Y.length/\Y[i].2.2<Y.length) :
  Calls prog 68 #[fv GT GC GP Y.length nc np,.map (some b)] w λe w'=>(∃v,e=.returned v)/\∃f',Closed Y f f'/\(∃c,kM w' b f' Y.length c/\c+rts f' Y.length<=Y.length)/\w.grownBy w' (some b):=by
 refine(aq2 (n:=5)).1 ?_;have mg:=hM.lt;have hgt:=kE.1;have alZ:GT≠b\/Y.length=0:=by
  by_cases h0:Y.length=0
  ·exact Or.inr h0
  ·refine Or.inl (λe=>?_);obtain⟨g,d,⟨D,nn,_,⟨es,clock,I,_⟩,_⟩,_⟩:=hM;have M:=(kE.2 0 O).1;rw[e]at M;simp[World.cell?,I]at M
 have ai8:Hid (∀W,But (λk=>k=b) w W->dS W GT Y):=λW hW=>by
  refine⟨ap2 hgt hW.size,λi pI=>?_⟩;have bg:GT≠b:=alZ.resolve_right O;have hbk:=hW.block GT hgt bg;exact⟨(an9 hbk).trans (kE.2 i pI).1,(an9 hbk).trans (kE.2 i pI).2.1,(an9 hbk).trans (kE.2 i pI).2.2⟩
 have HMD:Hid (∀(W:World) (f':Nat->Nat) (Ds:List Nat),CL w Y f' b GT GC GP nc np Ds W->lX f' Y.length->Calls prog 76 #[fv GT GC GP Y.length nc np,.map (some b)] W λe w'=>∃G,e=.returned (Ac G 0 Y.length Y.length)/\W.heap.size<=G/\dS w' G (mkd f' Y)/\Ag W w'):=λW f' Ds h hr=>by
  obtain⟨c,I,M⟩:=h.m;exact Rz GT GC GP nc np b c f' Y W hl (Z ai8 W h.but) hi (λi hi=>(hr i hi).1) I
 have HCG:Hid (∀(W:World) (f':Nat->Nat) (Ds:List Nat),CL w Y f' b GT GC GP nc np Ds W->lX f' Y.length->Calls prog 33 #[fv GT GC GP Y.length nc np,.map (some b)] W λe w'=>e=.returned (.bool (decide (∀p∈bI (mkd f' Y) Y.length,f' p.1=f' p.2)))/\Ag W w'):=λW f' Ds h hr=>by
  obtain⟨c,I,M⟩:=h.m;exact tN GT GC GP nc np b c f' Y W hl (Z ai8 W h.but) hi (λi hi=>(hr i hi).1) I
 unfold fv at HMD HCG ⊢;refine at6 func68 rfl trivial ?_ rfl;simp only[ntmps68,ao5,ao1,ap0,Nat.reduceAdd,Nat.reduceSub,an7,an6,ao6,ap9,ao8,ao7]
 gi_wp2
 obtain⟨wb,kP⟩:∃wb,(w.alloc (.cells #[Ac GT 0 Y.length Y.length,Ac GC 0 nc nc,Ac GP 0 np np] 46)).alloc (.cells #[.map (some b)] 53)=wb:=⟨_,rfl⟩;have fD:w.grownBy wb none:=by rw[<-kP];exact(an1 _ _ none).trans (an1 _ _ none)
 have alJ:CL w Y f b GT GC GP nc np [] wb:=by
  refine⟨⟨c0,hM.kept (fD.block b mg R),zO⟩,(But.aC fD).mono (λk _ e=>by cases e),?_,?_,λD hD=>(by cases hD),λD hD=>(by cases hD)⟩
  ·rw[<-kP,ao3 _ _ _ R,ap5]
  ·rw[<-kP];have:=ap5 (w.alloc (.cells #[Ac GT 0 Y.length Y.length,Ac GC 0 nc nc,Ac GP 0 np np] 46)) (.cells #[.map (some b)] 53);simpa using this
 rw[kP];have HT:=F ht;have HI:=F hi;have kR:=F (Cl0.start yK);refine wpIn_loop (λa W=>∃(u4 u5 u6 u7 u8 u9 u10 u11 u12 u13 u14 u15 u16 u17 u18 u19:Value) (f':Nat->Nat) (Ds:List Nat),a={tmps:=#[.agg #[Ac GT 0 Y.length Y.length,Ac GC 0 nc nc,Ac GP 0 np np],.map (some b),Aa w.heap.size 0,Aa (w.heap.size+1) 0,u4,u5,u6,u7,u8,u9,u10,u11,u12,u13,u14,u15,u16,u17,u18,u19],defers:=Ds.map mkD}/\
   CL w Y f' b GT GC GP nc np Ds W/\Hid (Cl0 Y f f')/\Hid Ds.Nodup/\Hid (rts f' Y.length+Ds.length<=rts f Y.length)) (λa _=>Y.length+1-a.defers.length) ?start ?round
 case start=>exact⟨_,_,_,_,_,_,_,_,_,_,_,_,_,_,_,_,f,[],rfl,alJ,kR,az6,an2 _⟩
 case round=>
  rintro _ W ⟨u4,u5,u6,u7,u8,u9,u10,u11,u12,u13,u14,u15,u16,u17,u18,u19,f',Ds,rfl,iy,AX,hDn,kE⟩;have nN:W.cell? (J (w.heap.size+1) 0)=some (.map (some b)):=by rw[cell_of iy.x1];rfl
  have q0:W.cell? (J w.heap.size 0)=some (Ac GT 0 Y.length Y.length):=by rw[cell_of iy.x0];rfl
  have q1:W.cell? (J w.heap.size 1)=some (Ac GC 0 nc nc):=by rw[cell_of iy.x0];rfl
  have q2:W.cell? (J w.heap.size 2)=some (Ac GP 0 np np):=by rw[cell_of iy.x0];rfl
  have zN:=Z HCG W f' Ds iy (Z AX).roots;have HCL:=F iy;by_cases uO:∀p∈bI (mkd f' Y) Y.length,f' p.1=f' p.2
  ·rw[ay5 uO]at zN;have aez:=F uO
   gi_wp2
   refine⟨trivial,(aq2.2 zN).mono ?_⟩;rintro e w1 ⟨rfl,iD⟩;have wJ:=(Z HCL).grow (dX iD);have afS:=F wJ
   gi_wp2
   refine F8 Ds w1 (Z hDn) (Z afS).ds (λW' hW'=>?_);have wJ:=Z afS;obtain⟨c,Fb,tC⟩:=wJ.m;obtain⟨es,cl,hbm⟩:=wJ.Jd;have hbD:b∉Ds:=λhm=>by
    have:=wJ.ds b hm;rw[hbm]at this;cases this
   refine⟨.tuple #[],by simp[results,results68,go_sem],⟨_,rfl⟩,f',(Z AX).closed (Z aez),⟨c,Fb.kept (hW'.block b Fb.lt hbD),tC⟩,?_⟩;refine⟨hW'.os.trans wJ.but.os,hW'.tape.trans wJ.but.tape,hW'.output.trans wJ.but.output,ap3 wJ.but.size hW'.size,λj hj hn=>?_⟩;have hjD:j∉Ds:=λhm=>by have:=wJ.lo j hm;omega
   exact(hW'.block j (ap2 hj wJ.but.size) hjD).trans (wJ.but.block j hj (λe=>hn (by rw[e])))
  ·rw[ax4 uO]at zN;have aez:=F uO
   gi_wp2
   refine⟨trivial,(aq2.2 zN).mono ?_⟩;rintro e w1 ⟨rfl,iD⟩;have wJ:=(Z HCL).grow (dX iD);have amI:w1.cell? (J (w.heap.size+1) 0)=some (.map (some b)):=(by rw[cell_of wJ.x1];rfl);have q0':w1.cell? (J w.heap.size 0)=some (Ac GT 0 Y.length Y.length):=(by rw[cell_of wJ.x0];rfl);have q1':w1.cell? (J w.heap.size 1)=some (Ac GC 0 nc nc):=(by rw[cell_of wJ.x0];rfl);have q2':w1.cell? (J w.heap.size 2)=some (Ac GP 0 np np):=(by rw[cell_of wJ.x0];rfl);have hmd:=Z HMD w1 f' Ds wJ (Z AX).roots;have afS:=F wJ
   gi_wp2
   refine⟨trivial,(aq2.2 hmd).mono ?_⟩;rintro e wr ⟨G,rfl,alY,SB,fF⟩;have alH:=(Z afS).grow (dX fF);have afQ:=F alH;have Bl:=F SB
   gi_wp2
   refine⟨trivial,(aq2.2 (KI (some (J G 0)) Y.length Y.length wr)).mono ?_⟩;rintro e w2 ⟨rfl,rfl⟩
   gi_wp2
   obtain⟨w2,eu⟩:∃w2,wr.alloc (.cells #[Ac G 0 Y.length Y.length] 42)=w2:=⟨_,rfl⟩;have dh:wr.grownBy w2 none:=(by rw[<-eu];exact an1 _ _ none);have su:w2.heap.size=wr.heap.size+1:=(by rw[<-eu];simp);have pJ:w2.cell? (J wr.heap.size 0)=some (Ac G 0 Y.length Y.length):=(by rw[<-eu];simp[go_sem]);have Wl:=(Z afQ).grow dh;have agY:=(Z AX).roots;have hvm:∀x∈mkd f' Y,∃l,keyOf prog 76 (bZ x)=some l:=by
    intro x hx;obtain⟨q,hq,rfl⟩:=ap6.1 hx;obtain⟨i,hi,rfl⟩:=ar6 hq;have aV:=(Z HI).key i hi;have TF:Y[i].2.1<Y.length/\Y[i].2.2<Y.length/\0<=Y[i].1/\Y[i].1<=255:=by
     obtain⟨_,_,h3,h4⟩|⟨_,M,h3⟩|⟨_,M,h3⟩:=aV<;>omega
    have e1:=(agY _ TF.1).1;have e2:=(agY _ TF.2.1).1;exact aai _ anf anf anf
   have aaA:dS w2 G (mkd f' Y):=(Z Bl).same (dh.block _ (Z Bl).1 R);have ajz:G<wr.heap.size:=(Z Bl).1;have dK:=KH 4 O wr.heap.size G Y.length w2.heap.size (mkd f' Y) w2 (an2 _) (by rw[bM];omega) (by rw[bM];exact pJ) aaA hvm;rw[bM]at dK;rw[eu];have aay:wr.heap.size+1<=w2.heap.size:=O;obtain⟨es0,cl0,ajW⟩:=(Z afQ).Jd;have am2:b<wr.heap.size:=(an0.1 ajW).1;have amK:w.heap.size+1<wr.heap.size:=(an0.1 (Z afQ).x1).1;have al0:∀D∈Ds,D<w2.heap.size:=λD hD=>by have:=(an0.1 ((Z afQ).ds D hD)).1;omega
   have hbG:b≠G:=λe=>by
    by_cases h0:Y.length=0
    ·have:=(Z Bl).1;obtain⟨p,hp,_⟩:∃p∈bI (mkd f' Y) Y.length,f' p.1≠f' p.2:=aq4 λhn=>(Z aez) (λp hp=>aq4 λh=>hn ⟨p,hp,h⟩);have:=(Vo p hp).1;omega
    ·have I:=((Z Bl).2 0 (by rw[bM];omega)).1;rw[<-e]at I;simp[World.cell?,ajW]at I
   have HRO:=F agY;have HP:Hid (∀p∈(bI (mkd f' Y) Y.length),p.1<Y.length/\p.2<Y.length):=λp hp=>Vo p hp;have HDL:=F al0;have aH:OwnFrom w2.heap.size (fun(k:Nat) W=>CL w Y (lY f' ((bI (mkd f' Y) Y.length).take k)) b GT GC GP nc np Ds W/\w2.heap.size<=W.heap.size):=λk W W' row h hg hr=>⟨h.1.keep hg O O (Z HDL) hr,ap3 h.2 hg.size⟩;have Gi:OwnFrom w2.heap.size (fun(_:Unit) (_:World)=>False):=λk W W' row h hg hr=>h;refine iP rfl O rfl trivial (λ_ _=>by simp[go_sem]) dK KA.trans ?_ (aq1 _ _) ?_ _ (λ_=>False) aH Gi ⟨Wl,an2 _⟩
    (λk a' W=>∃hk:k<(bI (mkd f' Y) Y.length).length,a'={tmps:=#[.agg #[Ac GT 0 Y.length Y.length,Ac GC 0 nc nc,Ac GP 0 np np],.map (some b),Aa w.heap.size 0,Aa (w.heap.size+1) 0,
     .int .i64 ((bI (mkd f' Y) Y.length)[k]).1,.int .i64 ((bI (mkd f' Y) Y.length)[k]).2,.agg #[Ac GT 0 Y.length Y.length,Ac GC 0 nc nc,Ac GP 0 np np],.map (some b),.bool false,.bool true,.agg #[Ac GT 0 Y.length Y.length,Ac GC 0 nc nc,Ac GP 0 np np],.map (some b),Ac G 0 Y.length Y.length,.func (.func 130) #[] #[Aa wr.heap.size 0],.int .i64 ((bI (mkd f' Y) Y.length)[k]).1,.int .i64 ((bI (mkd f' Y) Y.length)[k]).2,u16,u17,u18,u19],defers:=[]}) ?own ?assign ?body ?done ?stop
   ·intro W l o o' Yv ho hc EY;refine⟨λj x hj hx La=>(ap1 (λe=>?_)).trans hx,ap1 O,ap1 O⟩;subst e;rw[ho]at hx;cases hx;obtain h|h:=La
    ·rw[hc]at h;cases h
    ·rw[EY]at h;cases h
   ·intro k hk;simp
   case own=>
    rintro k a' ⟨⟩ W W' row h hg hr;exact h
   case assign=>
    intro l k hk W K hI hK;have iQ:k<(bI (mkd f' Y) Y.length).length:=(by simpa using hk);have e1:((bI (mkd f' Y) Y.length).map λp:Nat×Nat=>#[Value.int .i64 p.1,Value.int .i64 p.2])[k]'hk=#[.int .i64 ((bI (mkd f' Y) Y.length)[k]).1,.int .i64 ((bI (mkd f' Y) Y.length)[k]).2]:=R;rw[e1];have oU:=hK _ W ((aB1 _).from _) ⟨λj o hj ho hc=>ho,rfl,rfl⟩ hI ⟨iQ,rfl⟩;generalize (bI (mkd f' Y) Y.length)[k]=pr at oU ⊢
    gi_wp2
    exact oU
   case body=>
    rintro l k a' W hk Ij ⟨hI,Gh⟩ ⟨iQ,rfl⟩;have nN:W.cell? (J (w.heap.size+1) 0)=some (.map (some b)):=(by rw[cell_of hI.x1];rfl);have SE:=Z HP _ (an5 iQ);have Le:lX (lY f' ((bI (mkd f' Y) Y.length).take k)) Y.length:=(Z HRO).lY (λp hp=>(Z HP p (au8 hp)).1);have Td:=hI.join Le hl SE.1 SE.2;have kT:=aaq (f:=f') iQ;have je:=F kT;generalize (bI (mkd f' Y) Y.length)[k]=pr at Td je SE ⊢;obtain⟨x,y⟩:=pr;simp only at Td SE je ⊢
    gi_wp2
    refine⟨trivial,aw1 l (aq2.2 (Td.mono ?_))⟩;rintro e w3 ⟨⟨v3,rfl⟩,alI,dY⟩;have aml:=F alI;have HG3:=F dY
    gi_wp2
    have dY:=Z HG3;have hkp:∀(j:Nat),j≠b->j<W.heap.size->w3.heap[j]?=W.heap[j]?:=λj hj hl=>dY.block j hl (λe=>hj (by cases e;rfl));refine⟨⟨dY.size,λj o hj ho hc=>(hkp j O (an0.1 ho).1).trans ho⟩,⟨λj o hj ho hc=>(hkp j O (an0.1 ho).1).trans ho,?_,?_⟩,?_⟩
    ·exact hkp _ O O
    ·exact hkp _ (λe=>hbG e.symm) O
    ·refine⟨?_,ap3 Gh dY.size⟩
     show CL w Y (lY f' ((bI (mkd f' Y) Y.length).take (k+1))) b GT GC GP nc np Ds w3
     rw[Z je];exact Z aml
   case done=>
    rintro D W hD ⟨hI,Gh⟩ eU;rw[au3,ar7]at hI
    gi_wp2
    refine⟨⟨_,_,_,_,_,_,_,_,_,_,_,_,_,_,_,_,lY f' (bI (mkd f' Y) Y.length),D::Ds,rfl,⟨hI.m,hI.but,hI.x0,hI.x1,λE hE=>?_,λE hE=>?_⟩,(Z AX).step (Z HT),?_,?_⟩,?_⟩
    ·obtain e|hE:=ar9.1 hE
     ·rw[e];exact eU
     ·exact hI.ds E hE
    ·obtain e|hE:=ar9.1 hE
     ·rw[e];omega
     ·exact hI.lo E hE
    ·exact List.nodup_cons.2 ⟨λhm=>by have:=Z HDL D hm;omega,Z hDn⟩
    ·have I:=FZ (Z HRO) (Z HP) (aq4 λhn=>(Z aez) (λp hp=>aq4 λh=>hn ⟨p,hp,h⟩));have M:=Z kE
     show rts (lY f' (bI (mkd f' Y) Y.length)) Y.length+(D::Ds).length<=rts f Y.length
     simp only[ao1];omega
    ·have I:=FZ (Z HRO) (Z HP) (aq4 λhn=>(Z aez) (λp hp=>aq4 λh=>hn ⟨p,hp,h⟩));have M:rts f' Y.length+Ds.length<=rts f Y.length:=Z kE;have h3:=agD f Y.length;simp only[ao1,au3];omega
   case stop=>
    intro D W hD hI eU;exact hI.elim
end Go.Proofs.YthcppbmkacbbiabGreat
