import Derived.Test.YthcppbmkacbbiabGreatVAY
import Derived.Test.YthcppbmkacbbiabGreatVBB
set_option linter.unusedSimpArgs false
set_option maxHeartbeats 4000000
set_option maxRecDepth 100000
namespace Go.Proofs.YthcppbmkacbbiabGreat
open Go.Proofs.Tryz
open Go.RowKit Go.Maps Go.WideMaps
open Sat (View Rule og dN)
open au (Key put)
def vV(u:View):Value:=.agg #[A u.1,.bool u.2]
theorem Qw(u:View)(w:World) :
  Calls prog 127 #[vV u] w λe w'=>e=.returned (vV (u.1,!u.2))/\w.grownBy w' none:=by
 obtain⟨x,i⟩:=u;unfold vV
 go_in
 go_wp2_with fail
 refine aq0 (v:=.agg #[A x,.bool (!i)]) (by simp[results,results127,go_sem]) rfl ⟨rfl,?_⟩;exact(an1 _ _ none).trans (an1 _ _ none)
theorem ahN:prog.eqGuardType prog.depth 207=false:=by kernel_rfl
theorem eqV(x y:Nat)(i j:Bool)(W:World):(Op.equalIn 10000 207 (.agg #[A x,.bool i]) (.agg #[A y,.bool j])).run prog W=.ok (decide ((x,i)=(y,j))) W:=by
 have u3:=underlying3;have a3:=isAgg3;have z3:=sizeOf3;have u4:=underlying4;have a4:=isAgg4;have z4:=sizeOf4;have hS:prog.underlying 207=some (.struct (prog.fieldsOf 207)):=by kernel_rfl
 have hp:prog.stoodInHeld 207=false:=by kernel_rfl
 rw[show(10000:Nat)=9999+1 from rfl,run_equalIn_agg W 9999 207 _ _ hS hp];simp only[Program.fieldsOf,underlying207];go_simp;by_cases I:x=y
 ·subst I;by_cases M:i=j
  ·subst M;simp
  ·simp[M]
 ·have:¬(x:Int)=(y:Int):=O
  simp[I,this]
theorem VJ(r:Rule)(v:Value)(u:View)(w:World)(hv:bQ w v r)(hl:r.length<=1000) :
  Calls prog 190 #[v,vV u] w λe w'=>(∃z:Int,e=.returned (A z)/\(0<=z↔u∈r))/\w.grownBy w' none:=by
 obtain⟨x,i⟩:=u;obtain⟨vp,vc,rfl,Yl,Lc⟩:=hv.cells;have jd:w.grownBy (w.alloc (.cells #[A x,.bool i] 207)) none:=an1 _ _ none;have k0:(w.alloc (.cells #[A x,.bool i] 207)).cell? (J w.heap.size 0)=some (A x):=by simp[go_sem]
 have k1:(w.alloc (.cells #[A x,.bool i] 207)).cell? (J w.heap.size 1)=some (.bool i):=by simp[go_sem]
 obtain⟨W1,dO⟩:∃W1,w.alloc (.cells #[A x,.bool i] 207)=W1:=⟨_,rfl⟩;have oI:w.heap.size<W1.heap.size:=by rw[<-dO];simp
 rw[dO]at jd k0 k1;have Lj:=ahN;have HVS:=F Lc;have hq0:Hid (∀a b:Nat,∀c d:Bool,∀W:World,(Op.equalIn 10000 207 (.agg #[A a,.bool c]) (.agg #[A b,.bool d])).run prog W=.ok (decide ((a,c)=(b,d))) W):=eqV;unfold vV
 go_in
 go_wp2_with fail
 go_loopw [5,8] (λo j wr=>∃k:Nat,k<=r.length/\j=A k/\(∀q (hq:q<r.length),q<k->r[q]≠(x,i))/\W1.grownBy wr none) (λ_ j _=>r.length-(intOf j).toNat)
 case atStart=>exact⟨0,ap7 _,rfl,λq hq h=>O,as8 _ _⟩
 case round=>
  obtain⟨k,hk,rfl,adg,jS⟩:=hrel;by_cases hlt:k<r.length
  ·have iF:(k:Int)<(r.length:Int):=O;have bg:r≠[]:=(by intro e;rw[e]at hlt;simp at hlt);obtain⟨g,rfl,D5,hcs⟩:=Z HVS bg;have Yq:Hid (r[k]≠(x,i)->∀q (hq:q<r.length),q<k+1->r[q]≠(x,i)):=λh q hq hqk=>by
    by_cases e:q=k
    ·subst e;exact h
    ·exact adg q hq O
   have afc:Hid (r[k]=(x,i)->(x,i)∈r):=λh=>by rw[<-h];exact an5 hlt
   have hdd:Hid (∀W',wr.grownBy W' none->W'.cell? ⟨g,k*2,none⟩=some (A r[k].1)/\W'.cell? ⟨g,k*2+1,none⟩=some (.bool r[k].2)):=λW' hW=>by
    have Il:w.grownBy W' none:=jd.trans (jS.trans hW);exact hcs W' ⟨Il.os,Il.tape,Il.output,Il.size,λk hk=>Il.block k hk R⟩ k hlt
   have gW:Hid (∀W',wr.grownBy W' none->W'.cell? (J w.heap.size 0)=some (A x)/\W'.cell? (J w.heap.size 1)=some (.bool i)):=λW' hW=>⟨(jS.trans hW).cell k0 R,(jS.trans hW).cell k1 R⟩;have HGR:=F jS;generalize r[k]=u at Yq afc hdd;obtain⟨y,j⟩:=u;simp only at hdd
   go_wp2_with fail
   refine aq8 (S:=λW'=>wr.grownBy W' none) rfl ?_;have aA:wr.grownBy wr.drew none:=⟨rfl,rfl,rfl,an2 _,λ_ _ _=>rfl⟩;simp only[ao5,ao1,ap0,Nat.reduceAdd,an7,an6,ao6,ao8,ao7];change wpAnyH prog .any _ _ _ _ _ _ wr.drew;refine tH 0 (.agg #[A x,.bool i]) (λw' hS=>?_) aA ?_
   ·obtain⟨q0,q1⟩:=Z gW w' hS;go_simp
   simp only[aF];refine dF 1 (Ac g 0 r.length vc) aA ?_
   simp only[aF];refine dF 2 (A k) aA ?_
   simp only[aF];refine dF 3 (.pointer (some ⟨g,k*2,none⟩)) aA ?_
   simp only[aF];refine tH 4 (.agg #[A y,.bool j]) (λw' hS=>?_) aA ?_
   ·obtain⟨q0,q1⟩:=Z hdd w' hS;go_simp
   simp only[aF];refine tH 5 (.bool (decide ((x,i)=(y,j)))) (λw' hS=>?_) aA ?_
   ·go_simp;by_cases I:x=y<;>by_cases M:i=j<;>simp[I,M]<;>omega
   simp only[aF];refine ar2 (by kernel_rfl) ?_ _;obtain⟨W2,Il⟩:∃W2,wr.drew=W2:=⟨_,rfl⟩;rw[Il]at aA ⊢;have dh:=jd.trans ((Z HGR).trans aA);have dY:=(Z HGR).trans aA;have Q1:=F dh;have Q2:=F dY;by_cases e:(x,i)=(y,j)
   ·have hd:decide ((x,i)=(y,j))=true:=(by simp[e]);have hm:=F (Z afc e.symm);rw[hd]
    go_wp2_with fail
    exact aq0 (v:=A k) (by simp[results,results190,go_sem]) rfl ⟨⟨k,rfl,⟨λ_=>Z hm,λ_=>O⟩⟩,Z Q1⟩
   ·have hd:decide ((x,i)=(y,j))=false:=(by simp only[decide_eq_false_iff_not];exact e);have hm:=F (Z Yq (λh=>e h.symm));rw[hd]
    go_wp2_with fail
    exact⟨⟨k+1,hlt,by go_num,Z hm,Z Q2⟩,by simp[intOf];omega⟩
  ·have gW:k=r.length:=O;have iF:¬(k:Int)<(r.length:Int):=O;have hm:Hid (¬(x,i)∈r):=λh=>by
    obtain⟨q,hq,e⟩:=ar6 h;exact adg q hq O e
   have Q1:=F (jd.trans jS)
   go_wp2_with fail
   exact aq0 (v:=A (-1)) (by simp[results,results190,go_sem]) rfl ⟨⟨-1,rfl,⟨λh=>O,λh=>absurd h (Z hm)⟩⟩,Z Q1⟩
theorem MP(r:Rule)(v:Value)(u:View)(w:World)(hv:bQ w v r)(hl:r.length<=1000) :
  Calls prog 166 #[v,vV u] w λe w'=>e=.returned (.bool (r.contains u))/\w.grownBy w' none:=by
 have jd:w.grownBy (w.alloc (.cells #[A u.1,.bool u.2] 207)) none:=an1 _ _ none;have GX:=VJ r v u _ (hv.but (But.aC jd) (λk e=>by cases e)) hl;obtain⟨vp,vc,rfl⟩:=hv.len;have HV:=F hv;have HG:=F jd;clear hv jd;obtain⟨x,i⟩:=u;unfold vV at GX ⊢
 go_in
 go_wp2_with fail
 refine GX.mono ?_;rintro e w1 ⟨⟨z,rfl,hz⟩,bG⟩;have Q1:=F ((Z HG).trans bG);have hzz:r.contains (x,i)=decide (0<=z):=by
  by_cases h:(x,i)∈r
  ·have:=hz.2 h;simp[h,this]
  ·have:¬0<=z:=λM=>h (hz.1 M);simp[h,this]
 have HZ:=F hzz;clear bG hz hzz
 go_wp2_with fail
 go_ret
 exact⟨by rw[Z HZ];rfl,Z Q1⟩
def xE(w:World)(lb:Nat)(mu ms:Option Nat)(rv:Value):Prop:=w.heap[lb]?=some (.cells #[.map mu,.map ms,rv] 203 (0,0))
theorem xE.mk{w:World}{lb:Nat}{mu ms:Option Nat}{rv:Value}(h:w.heap[lb]?=some (.cells #[.map mu,.map ms,rv] 203 (0,0))):xE w lb mu ms rv:=h
theorem xE.out{w:World}{lb:Nat}{mu ms:Option Nat}{rv:Value}(h:xE w lb mu ms rv):w.heap[lb]?=some (.cells #[.map mu,.map ms,rv] 203 (0,0)):=h
theorem xE.lt{w:World}{lb:Nat}{mu ms:Option Nat}{rv:Value}(h:xE w lb mu ms rv):lb<w.heap.size:=(an0.1 h).1
theorem xE.kept{w w':World}{lb:Nat}{mu ms:Option Nat}{rv:Value}(h:xE w lb mu ms rv)(hb:w'.heap[lb]?=w.heap[lb]?):xE w' lb mu ms rv:=hb.trans h
theorem xE.xG{w:World}{lb:Nat}{mu ms:Option Nat}{rv:Value}(h:xE w lb mu ms rv):o9 w lb:=by
 intro cur y e;have q:=h.symm.trans e;simp at q
theorem xE.cells{w:World}{lb:Nat}{mu ms:Option Nat}{rv:Value}(h:xE w lb mu ms rv):w.cell? (J lb 0)=some (.map mu)/\w.cell? (J lb 1)=some (.map ms)/\w.cell? (J lb 2)=some rv:=by
 refine⟨?_,?_,?_⟩<;>(rw[cell_of h];rfl)
theorem xE.thaw{w:World}{lb:Nat}{mu ms:Option Nat}{rv:Value}(h:xE w lb mu ms rv)(i:Nat):w.frozen? (J lb i)=false:=by
 unfold xE at h;simp[World.frozen?,h]
theorem dM.acF{w:World}{rv':Value}{ak:List Rule}(h:dM w rv' ak){lb:Nat}{mu ms:Option Nat}{rv:Value}(hB:xE w lb mu ms rv):∀k,rv'.ownBlock=some k->k≠lb:=by
 obtain⟨vs,⟨I,M⟩,h3⟩:=h;intro k hk e;subst e;obtain⟨rfl,_⟩|⟨g,cap,cur,rfl,q2,q3,q4⟩:=M
 ·cases hk
 ·cases hk;have:=hB.out.symm.trans q3;simp at this
theorem bQ.keep{w w':World}{v:Value}{r:Rule}(h:bQ w v r)(hb:∀k,v.ownBlock=some k->w'.heap[k]?=w.heap[k]?):bQ w' v r:=by
 obtain h|⟨g,cap,cur,x,I,M,h3⟩:=h
 ·exact Or.inl h
 ·refine Or.inr ⟨g,cap,cur,x,I,(hb g ?_).trans M,h3⟩;rw[I];rfl
theorem bQ.lt{w:World}{v:Value}{r:Rule}(h:bQ w v r):∀k,v.ownBlock=some k->k<w.heap.size:=by
 intro k hk;obtain⟨_,rfl⟩|⟨g,cap,cur,x,rfl,M,h3⟩:=h
 ·cases hk
 ·cases hk;exact(an0.1 M).1
def jc(w:World)(rv:Value)(ak:List Rule)(X:Nat->Prop):Prop:=
 ∃vs:List Value,w.ownsRow 0 130 1 rv ak.length vs/\∀i (hi:i<ak.length),∃v,vs[i]?=some v/\bQ w v ak[i]/\∀k,v.ownBlock=some k->¬X k
theorem jc.v{w:World}{rv:Value}{ak:List Rule}{X:Nat->Prop}(h:jc w rv ak X):dM w rv ak:=by
 obtain⟨vs,I,M⟩:=h;exact⟨vs,I,λi hi=>by obtain⟨v,q1,q2,_⟩:=M i hi;exact⟨v,q1,q2⟩⟩
theorem jc.keep{S X:Nat->Prop}{w w':World}{rv:Value}{ak:List Rule}(h:jc w rv ak X)(hb:But S w w')(hS:∀k,S k->o9 w k\/X k)(hr:∀k,rv.ownBlock=some k->¬S k):jc w' rv ak X:=by
 obtain⟨vs,⟨I,M⟩,h3⟩:=h;refine⟨vs,⟨I,?_⟩,λi hi=>?_⟩
 ·obtain M|⟨g,cap,cur,rfl,q2,q3,q4⟩:=M
  ·exact Or.inl M
  ·have hlt:g<w.heap.size:=(an0.1 q3).1;exact Or.inr ⟨g,cap,cur,rfl,q2,(hb.block g hlt (hr g rfl)).trans q3,q4⟩
 ·obtain⟨v,q1,q2,q3⟩:=h3 i hi;refine⟨v,q1,q2.keep (λk hk=>hb.block k (q2.lt k hk) (λe=>?_)),q3⟩;obtain e2|e2:=hS k e
  ·obtain⟨_,rfl⟩|⟨g,cap,cur,x,rfl,M,h3⟩:=q2
   ·cases hk
   ·cases hk;exact e2 _ _ M
  ·exact q3 k hk e2
theorem jc.but{S X:Nat->Prop}{w w':World}{rv:Value}{ak:List Rule}(h:jc w rv ak X)(hb:But S w w')(hS:∀k,S k->o9 w k)(hr:∀k,rv.ownBlock=some k->¬S k):jc w' rv ak X:=h.keep hb (λk e=>Or.inl (hS k e)) hr
theorem jc.other{X X':Nat->Prop}{w:World}{rv:Value}{ak:List Rule}(h:jc w rv ak X)(hX:∀k,k<w.heap.size->X' k->X k):jc w rv ak X':=by
 obtain⟨vs,I,M⟩:=h;exact⟨vs,I,λi hi=>by obtain⟨v,q1,q2,q3⟩:=M i hi;exact⟨v,q1,q2,λk hk e=>q3 k hk (hX k (q2.lt k hk) e)⟩⟩
theorem jc.add{S X:Nat->Prop}{W W3:World}{v' v:Value}{ak:List Rule}{r:Rule}{vs:List Value}(hl:vs.length=ak.length)(h3:∀i (hi:i<ak.length),∃v,vs[i]?=some v/\bQ W v ak[i]/\∀k,v.ownBlock=some k->¬X k)
 (aH:W3.ownsRow 0 130 1 v' (ak.length+1) (vs++[v]))(hb:But S W W3)(hS:∀k,S k->o9 W k)(hv:bQ W v r)(hX:∀k,v.ownBlock=some k->¬X k):jc W3 v' (ak++[r]) X:=by
 refine⟨vs++[v],by rw[ap4];exact aH,λi hi=>?_⟩;by_cases hlt:i<ak.length
 ·obtain⟨u,q1,q2,q3⟩:=h3 i hlt;refine⟨u,by rw[as5 O];exact q1,?_,q3⟩;rw[au6 hlt];exact q2.but hb hS
 ·have e:i=ak.length:=by simp at hi;omega
  subst e;refine⟨v,by rw[List.getElem?_append_right O,hl];simp,?_,hX⟩;rw[aA6 (an2 _)];simpa using hv.but hb hS
theorem agK{X:Nat->Prop}{W W3:World}{lb:Nat}{mu ms:Option Nat}{rv:Value}{ak:List Rule}{v v':Value}{C:Rule}{vs:List Value}(h:xE W lb mu ms rv)(mO:dM W rv ak)(hv:bQ W v C)(hvX:∀k,v.ownBlock=some k->¬X k)(aS:W.ownsRow 0 130 1 rv ak.length vs)(h3:∀i (hi:i<ak.length),∃v,vs[i]?=some v/\bQ W v ak[i]/\∀k,v.ownBlock=some k->¬X k)
 (dY:(W.alloc (.cells #[v] 130)).grownBy W3 rv.ownBlock)(aH:W3.ownsRow 0 130 1 v' (ak.length+1) (vs++[v])) :
  xE (W3.setCell (J lb 2) v') lb mu ms v'/\jc (W3.setCell (J lb 2) v') v' (ak++[C]) X/\But (λk=>k=lb\/some k=rv.ownBlock) W (W3.setCell (J lb 2) v')/\
  W3.cell? (J lb 2)=some rv/\W3.frozen? (J lb 2)=false/\lb<W3.heap.size:=by
 have fK:W.grownBy (W.alloc (.cells #[v] 130)) rv.ownBlock:=an1 _ _ _;have hg:W.grownBy W3 rv.ownBlock:=fK.trans dY;have iR:=But.aC hg;have hN:=mO.xG;have mg:=h.lt;have Gp:some lb≠rv.ownBlock:=λe=>mO.acF h lb e.symm rfl;have Aw:xE W3 lb mu ms rv:=h.kept (hg.block lb mg Gp);have UG:jc W3 v' (ak++[C]) X:=jc.add (by have:=aS.1;omega) h3 aH iR hN hv hvX;have sD:But (λk=>k=lb) W3 (W3.setCell (J lb 2) v'):=But.setCell (S:=λk=>k=lb) (But.refl _ _) (λ_=>rfl) _;have O9:∀k,k=lb->o9 W3 k:=λk e=>by rw[e];exact Aw.xG
 refine⟨?_,UG.but sD O9 (λk hk=>UG.v.acF Aw k hk),(iR.mono (λk _ e=>Or.inr e)).trans (sD.mono (λk _ e=>Or.inl e)),Aw.cells.2.2,Aw.thaw 2,Aw.lt⟩;refine xE.mk ?_;rw[heap_setCell_same Aw.out]
 congr 2
structure DG(w:World)(C:Rule)(v:Value)(W:World):Prop where
 row:W.ownsRow w.heap.size 207 2 v C.length (vcs C)
 nil:v=.slice none 0 0↔C=[]
 below:Below w.heap.size w W
theorem DG.grow{w:World}{C:Rule}{v:Value}{W W':World}(h:DG w C v W)(hg:W.grownBy W' none):DG w C v W':=
 ⟨ou h.row hg (λr e=>by cases e),h.nil,h.below.grown hg h.below.size (λk e=>by cases e)⟩
theorem abK{vs:List View}{k:Nat}(hk:k<vs.length):(vs.take (k+1)).foldl put []=put ((vs.take k).foldl put []) vs[k]:=by
 rw[aq3,an3 hk,az2];rfl
theorem WX(X:Nat->Prop)(w:World)(lb:Nat)(mu ms:Option Nat)(rv:Value)(ak:List Rule)(h:xE w lb mu ms rv)(hR:jc w rv ak X)(hX:∀k,X k->k<w.heap.size)(v:Value)(vs:List View)(hv:bQ w v vs)(hl:vs.length<=500)(hn:ak.length<=100000) :
  Calls prog 124 #[Aa lb 0,v] w λe w'=>(∃z,e=.returned z)/\∃rv',xE w' lb mu ms rv'/\jc w' rv' (ak++[dd vs]) X/\But (λk=>k=lb\/some k=rv.ownBlock) w w'/\(∀k,rv'.ownBlock=some k->rv.ownBlock=some k\/w.heap.size<=k):=by
 obtain⟨i0,gK,jR,ig,jy⟩:=au5 Yj;obtain⟨j0,jin,jz0,jz1,jz2⟩:=au5 afZ;obtain⟨vp,vc,rfl,Yl,Lc⟩:=hv.cells;have HH:=F h;have HR:=F hR;have HVS:=F Lc
 go_in
 go_wp2_with fail
 go_loopw [4,9] (λo i wr=>∃k:Nat,k<=vs.length/\i=A k/\DG w ((vs.take k).foldl put []) o wr) (λ_ i _=>vs.length-(intOf i).toNat)
 case atStart=>exact⟨0,ap7 _,rfl,aw9 _ _ _ _,R,aq1 _ _⟩
 case round=>
  obtain⟨k,hk,rfl,hG⟩:=hrel;by_cases hlt:k<vs.length
  ·have iF:(k:Int)<(vs.length:Int):=O;have bg:vs≠[]:=(by intro e;rw[e]at hlt;simp at hlt);obtain⟨g,rfl,D5,hcs⟩:=Z HVS bg;obtain⟨d0,d1⟩:=hcs wr hG.below k hlt;have htp:=abK hlt;have iy:((vs.take k).foldl put []).length<=500:=by
    have:=Cc (vs.take k) [];simp at this;omega
   generalize vs[k]=u at d0 d1 htp;obtain⟨x,i⟩:=u;simp only at d0 d1;generalize hC:(vs.take k).foldl put []=C at hG htp iy;have Ld:=sK hG.row hG.nil;have jd:wr.grownBy (wr.alloc (.cells #[A x,.bool i] 207)) none:=an1 _ _ none;have vC:=MP C _ (x,i) _ (Ld.but (But.aC jd) (λk e=>by cases e)) O;obtain⟨op,oc,rfl⟩:=Ld.len;have HG:=F hG;have HTP:=F htp;have HGA:=F jd;unfold vV at vC
   go_wp2_with fail
   refine vC.mono ?_;rintro e w1 ⟨rfl,bG⟩;have EF:=(Z HGA).trans bG;have AV:=(Z HG).grow EF;have k0:w1.cell? (J wr.heap.size 0)=some (A x):=bG.cell (by simp[go_sem]) R;have k1:w1.cell? (J wr.heap.size 1)=some (.bool i):=bG.cell (by simp[go_sem]) R;have oI:wr.heap.size<w1.heap.size:=(by have:=bG.size;simp at this;omega);have hlo:∀j,(Value.slice op C.length oc).ownBlock=some j->w.heap.size<=j:=λj e=>(AV.row.lt j e).1;have hws:=AV.below.size;cases hc:C.contains (x,i)
   ·have ag0:put C (x,i)=C++[(x,i)]:=(by unfold put;rw[hc];rfl);rw[ag0]at HTP;have MF:Hid (∀v' w3,w3.ownsRow w.heap.size 207 2 v' (C.length+1) (vcs C++Oa (x,i))->(w1.alloc (.cells #[A x,.bool i] 207)).grownBy w3 (Value.slice op C.length oc).ownBlock->DG w (C++[(x,i)]) v' w3):=λv' w3 I M=>by
     have als:w1.grownBy (w1.alloc (.cells #[A x,.bool i] 207)) (Value.slice op C.length oc).ownBlock:=an1 _ _ _;refine⟨?_,?_,AV.below.grown (als.trans M) hws hlo⟩
     ·have e:vcs (C++[(x,i)])=vcs C++Oa (x,i):=(by simp[vcs]);rw[e,ap4];exact I
     ·obtain⟨g',qB,e⟩:=gG I (aw4 _);subst e;simp
    have jo:=F AV.row
    go_wp2_with (at_builtin;refine av6 _ rfl _ _ 130 rfl w.heap.size 207 i0 _ 2 16 underlying130 gK jR ig jy rfl ane (.slice op C.length oc) C.length (vcs C) rfl ((Z jo).alloc _) (J w1.heap.size 0) 1 1 (Oa (x,i)) rfl rfl (Dv _ _ _ _ _ rfl) (aeX _) anj O anf ?_;intro v' w3 fA dY uJ gU;obtain⟨g',qB,Sr⟩:=gG fA (aw4 _);subst Sr)
    refine⟨⟨k+1,hlt,by go_num,?_⟩,by simp[intOf];omega⟩;rw[Z HTP];exact Z MF _ _ fA dY
   ·have ag0:put C (x,i)=C:=(by unfold put;rw[hc];rfl);rw[ag0]at HTP;have HG1:=F AV
    go_wp2_with fail
    refine⟨⟨k+1,hlt,by go_num,?_⟩,by simp[intOf];omega⟩;rw[Z HTP];exact Z HG1
  ·have gW:k=vs.length:=O;have iF:¬(k:Int)<(vs.length:Int):=O;rw[gW,ar7]at hG;have Ld:=sK hG.row hG.nil;have rQ:=But.of_below hG.below (λ_=>False);have hn0:∀k,(λ_=>False) k->o9 w k:=λk e=>e.elim;have I:=(Z HH).kept (hG.below.block lb (Z HH).lt);have M:=(Z HR).but rQ hn0 (λk _ e=>e);obtain⟨rp,rc,OW⟩:=M.v.slice;have h2v:=M.v;subst OW;obtain⟨op,oc,rfl⟩:=Ld.len;obtain⟨rs,aS,h3⟩:=M;have hvX:∀k,(Value.slice op (vs.foldl put []).length oc).ownBlock=some k->¬X k:=λk hk e=>by have:=(hG.row.lt k hk).1;have:=hX k e;omega
   have one:=agJ Ld;have iy:(vs.foldl put []).length<=500:=by
    have:=Cc vs [];simp at this;omega
   have c2:=I.cells.2.2;have GV:=I.lt;have HL:Hid (∀W3 v2,(wr.alloc (.cells #[.slice op (vs.foldl put []).length oc] 130)).grownBy W3 (Value.slice rp ak.length rc).ownBlock->W3.ownsRow 0 130 1 v2 (ak.length+1) (rs++[.slice op (vs.foldl put []).length oc])->_):=λW3 v2 g1 g2=>agK I h2v Ld hvX aS h3 g1 g2;have jo:=F aS;have FV:=F hG.below
   go_wp2_with (at_builtin;refine av6 _ rfl _ _ 135 rfl 0 130 j0 (.slice none 0 0) 1 24 underlying135 jin jz0 jz1 jz2 rfl ane (.slice rp ak.length rc) ak.length rs rfl ((Z jo).alloc _) (J wr.heap.size 0) 1 1 [.slice op (vs.foldl put []).length oc] rfl rfl (Jg _ _ _ _ rfl) one anj O R ?_;intro v2 w4 lT mP af6 afo;obtain⟨g2,xO,BD⟩:=gG lT (aw4 _);subst BD;have hlr:=Z HL w4 _ mP lT;obtain⟨L1,L2,L4,L6,L7,L8⟩:=hlr)
   go_end0
   refine⟨⟨_,rfl⟩,_,L1,L2,(But.of_below (Z FV) _).trans L4,λk hk=>?_⟩;obtain e|e:=afo
   ·exact Or.inl (e.symm.trans hk)
   ·rw[e]at hk;simp at hk;have:=(Z FV).size;right;omega
structure LG(n0:Nat)(w:World)(lb BU BS:Nat)(f:Key->Key)(dom:Key->Prop)(Us:Ai)(ak:List Rule)(X:Nat->Prop):Prop where
 rv:∃rv,xE w lb (some BU) (some BS) rv/\jc w rv ak X/\∀k,rv.ownBlock=some k->n0<=k
 us:aT w 82 BU bZ Us
 sm:kL w BS f dom 500
 ne:BU≠BS
 lo:n0<=lb/\n0<=BU/\n0<=BS
theorem aT.xG{w:World}{k b:Nat}{kv:Key->Value}{Y:Ai}(h:aT w k b kv Y):o9 w b:=by
 obtain⟨D,⟨es,c,I,_⟩,_⟩:=h;intro cur x e;rw[I]at e;cases e
theorem kL.xG{w:World}{b c:Nat}{f:Key->Key}{dom:Key->Prop}(h:kL w b f dom c):o9 w b:=by
 obtain⟨D,nn,_,⟨es,c,I,_⟩,_⟩:=h;intro cur x e;rw[I]at e;cases e
theorem xE.Ji{w:World}{lb:Nat}{mu ms:Option Nat}{rv:Value}(h:xE w lb mu ms rv){b:Nat}{Us:Ai}(hB:aT w 82 b bZ Us):lb≠b:=λe=>by
 obtain⟨D,⟨es,c,I,_⟩,_⟩:=hB;have:=h.out;rw[e,I]at this;cases this
theorem xE.Jj{w:World}{lb:Nat}{mu ms:Option Nat}{rv:Value}(h:xE w lb mu ms rv){b c:Nat}{f:Key->Key}{dom:Key->Prop}(hB:kL w b f dom c):lb≠b:=λe=>by
 obtain⟨D,nn,_,⟨es,c,I,_⟩,_⟩:=hB;have:=h.out;rw[e,I]at this;cases this
theorem dM.Ji{w:World}{rv:Value}{ak:List Rule}(h:dM w rv ak){b:Nat}{Us:Ai}(hB:aT w 82 b bZ Us):∀k,rv.ownBlock=some k->k≠b:=by
 obtain⟨D,⟨es,c,h4,_⟩,_⟩:=hB;obtain⟨vs,⟨I,M⟩,h3⟩:=h;intro k hk e;subst e;obtain⟨rfl,_⟩|⟨g,cap,cur,rfl,q2,q3,q4⟩:=M
 ·cases hk
 ·cases hk;rw[h4]at q3;cases q3
theorem dM.Jj{w:World}{rv:Value}{ak:List Rule}(h:dM w rv ak){b c:Nat}{f:Key->Key}{dom:Key->Prop}(hB:kL w b f dom c):∀k,rv.ownBlock=some k->k≠b:=by
 obtain⟨D,nn,_,⟨es,c,h4,_⟩,_⟩:=hB;obtain⟨vs,⟨I,M⟩,h3⟩:=h;intro k hk e;subst e;obtain⟨rfl,_⟩|⟨g,cap,cur,rfl,q2,q3,q4⟩:=M
 ·cases hk
 ·cases hk;rw[h4]at q3;cases q3
theorem LG.grow{n0:Nat}{w w':World}{lb BU BS:Nat}{f:Key->Key}{dom:Key->Prop}{Us:Ai}{ak:List Rule}{X:Nat->Prop}(h:LG n0 w lb BU BS f dom Us ak X)(hg:w.grownBy w' none):LG n0 w' lb BU BS f dom Us ak X:=by
 obtain⟨rv,I,M,h3⟩:=h.rv;exact⟨⟨rv,I.kept (hg.block lb I.lt R),M.but (But.aC hg) (λk e=>by cases e) (λk _=>R),h3⟩,h.us.kept (hg.block BU h.us.lt R),h.sm.kept (hg.block BS h.sm.lt R),h.ne,h.lo⟩
theorem LG.other{n0:Nat}{w:World}{lb BU BS:Nat}{f:Key->Key}{dom:Key->Prop}{Us:Ai}{ak:List Rule}{X X':Nat->Prop}(h:LG n0 w lb BU BS f dom Us ak X)(hX:∀k,k<w.heap.size->X' k->X k):LG n0 w lb BU BS f dom Us ak X':=by
 obtain⟨rv,I,M,h3⟩:=h.rv;exact⟨⟨rv,I,M.other hX,h3⟩,h.us,h.sm,h.ne,h.lo⟩
theorem LG.ahY{S:Nat->Prop}{n0:Nat}{w w':World}{lb BU BS:Nat}{f:Key->Key}{dom:Key->Prop}{Us:Ai}{ak:List Rule}{X:Nat->Prop}(h:LG n0 w lb BU BS f dom Us ak X)(hb:But S w w')(hS:∀k,S k->X k/\∃cur t x,w.heap[k]?=some (Obj.cells cur t x)/\t≠130/\t≠203):LG n0 w' lb BU BS f dom Us ak X:=by
 obtain⟨rv,I,M,h3⟩:=h.rv;refine⟨⟨rv,I.kept (hb.block lb I.lt (λe=>?_)),M.keep hb (λk e=>Or.inr (hS k e).1) (λk hk e=>?_),h3⟩,h.us.kept (hb.block BU h.us.lt (λe=>?_)),h.sm.kept (hb.block BS h.sm.lt (λe=>?_)),h.ne,h.lo⟩
 ·obtain⟨_,cur,t,x,e1,e2,e3⟩:=hS _ e;rw[I.out]at e1;simp at e1;exact e3 e1.2.1.symm
 ·obtain⟨_,cur,t,x,e1,e2,e3⟩:=hS _ e;obtain⟨vs,⟨_,q⟩,_⟩:=M;obtain⟨rfl,_⟩|⟨g,cap,G9,rfl,q2,q3,q4⟩:=q
  ·cases hk
  ·cases hk;rw[q3]at e1;simp at e1;exact e2 e1.2.1.symm
 ·obtain⟨_,cur,t,x,e1,_⟩:=hS _ e;obtain⟨D,⟨es,c,q,_⟩,_⟩:=h.us;rw[q]at e1;cases e1
 ·obtain⟨_,cur,t,x,e1,_⟩:=hS _ e;obtain⟨D,nn,_,⟨es,c,q,_⟩,_⟩:=h.sm;rw[q]at e1;cases e1
theorem LG.unk{n0:Nat}{w w':World}{lb BU BS:Nat}{f:Key->Key}{dom:Key->Prop}{Us Us':Ai}{ak:List Rule}{X:Nat->Prop}(h:LG n0 w lb BU BS f dom Us ak X)(hg:w.grownBy w' (some BU))(hu:aT w' 82 BU bZ Us'):LG n0 w' lb BU BS f dom Us' ak X:=by
 obtain⟨rv,I,M,h3⟩:=h.rv;exact⟨⟨rv,I.kept (hg.block lb I.lt (by simpa using I.Ji h.us)),M.but (But.aC hg) (λk e=>by cases e;exact h.us.xG) (λk hk e=>M.v.Ji h.us k hk (by cases e;rfl)),h3⟩,hu,h.sm.kept (hg.block BS h.sm.lt (by simpa using h.ne.symm)),h.ne,h.lo⟩
theorem LG.dem{n0:Nat}{w w':World}{lb BU BS:Nat}{f:Key->Key}{dom:Key->Prop}{Us:Ai}{ak dR:List Rule}{X:Nat->Prop}{rv rv':Value}(h:LG n0 w lb BU BS f dom Us ak X)(I:xE w lb (some BU) (some BS) rv)(M:dM w rv ak)(h3:∀k,rv.ownBlock=some k->n0<=k)(hn:n0<=w.heap.size)
 (hL:xE w' lb (some BU) (some BS) rv')(hR:jc w' rv' dR X)(hb:But (λk=>k=lb\/some k=rv.ownBlock) w w')(ho:∀k,rv'.ownBlock=some k->rv.ownBlock=some k\/w.heap.size<=k):LG n0 w' lb BU BS f dom Us dR X/\Below n0 w w':=by
 refine⟨⟨⟨rv',hL,hR,λk hk=>?_⟩,h.us.kept (hb.block BU h.us.lt (λe=>?_)),h.sm.kept (hb.block BS h.sm.lt (λe=>?_)),h.ne,h.lo⟩,hb.below hn (λk hk e=>?_)⟩
 ·obtain e|e:=ho k hk
  ·exact h3 k e
  ·omega
 ·obtain e|e:=e
  ·exact I.Ji h.us e.symm
  ·exact M.Ji h.us _ e.symm rfl
 ·obtain e|e:=e
  ·exact I.Jj h.sm e.symm
  ·exact M.Jj h.sm _ e.symm rfl
 ·obtain e|e:=e
  ·have:=h.lo.1;omega
  ·have:=h3 _ e.symm;omega
theorem LG.below{n0:Nat}{w w':World}{lb BU BS:Nat}{f:Key->Key}{dom:Key->Prop}{Us:Ai}{ak:List Rule}{X:Nat->Prop}(h:LG n0 w lb BU BS f dom Us ak X)(hn:n0<=w.heap.size)(hg:w.grownBy w' (some BU)):Below n0 w w':=
 (But.aC hg).below hn (λk hk e=>by cases e;have:=h.lo.2.1;omega)
theorem lV{w W:World}{row:Option Nat}(h:w.grownBy W row){p:Addr}(hp:w.heap.size<=p.block)(v:Value):w.grownBy (W.setCell p v) row:=
 ⟨h.os,h.tape,h.output,ap3 h.size (by simp[World.setCell]),λk hk hn=>by rw[ao9 _ _ _ _ O];exact h.block k hk hn⟩
theorem U9(n0:Nat)(w:World)(lb BU BS:Nat)(f:Key->Key)(dom:Key->Prop)(Us:Ai)(ak:List Rule)(X:Nat->Prop)(p:Key)(h:LG n0 w lb BU BS f dom Us ak X)(YA:Us.length<=1000)(hp:dom p)(Ll:dom (f p))(hff:f (f p)=f p)
 (hb:(0<=p.1/\p.1<=255)/\p.2.1<=1000/\p.2.2<=1000)(hbf:(0<=(f p).1/\(f p).1<=255)/\(f p).2.1<=1000/\(f p).2.2<=1000) :
  Calls prog 154 #[Aa lb 0,bZ p] w λe w'=>e=.returned (vV (Us.idxOf (f p),true))/\LG n0 w' lb BU BS f dom (put Us (f p)) ak X/\w.grownBy w' (some BU):=by
 obtain⟨rv,hL,hR,hlo⟩:=h.rv;have HLG:=F h;have VX:Hid (∀W,w.grownBy W none->Calls prog 186 #[.map (some BS),bZ p] W λe w'=>e=.returned (bZ (f p))/\W.grownBy w' none):=λW hg=>OJ W BS 500 f dom p (h.sm.kept (hg.block BS h.sm.lt R)) hp Ll hff hb hbf;have Lh:Hid (∀W,w.grownBy W none->Calls prog 50 #[.map (some BU),bZ (f p)] W λe w'=>e=.returned (A (Us.idxOf (f p)))/\aT w' 82 BU bZ (put Us (f p))/\W.grownBy w' (some BU)):=λW hg=>Rw BU Us (f p).1 (f p).2.1 (f p).2.2 W hbf.1 hbf.2.1 hbf.2.2 YA (h.us.kept (hg.block BU h.us.lt R));obtain⟨c0,c1,_⟩:=hL.cells;have GV:=hL.lt;have bg:=hL.Ji h.us;have hUl:=h.us.lt;have hle:=aw3 (l:=Us) (a:=f p);generalize f p=q at VX Lh hbf HLG hle ⊢;generalize Us.idxOf q=ix at Lh hle ⊢;obtain⟨pc,px,py⟩:=p;obtain⟨qc,qx,qy⟩:=q;unfold vV;simp only[bZ]at VX Lh ⊢;obtain⟨W1,dO⟩:∃W1,((w.alloc (.cells #[Ae pc,A px,A py] 82)).alloc (.cells #[A 0,.bool false] 207)).drew=W1:=⟨_,rfl⟩;have bG:w.grownBy W1 none:=by rw[<-dO];exact((an1 _ _ none).trans (an1 _ _ none)).trans ⟨rfl,rfl,rfl,an2 _,λ_ _ _=>rfl⟩
 have kQ:W1.heap[w.heap.size]?=some (.cells #[Ae pc,A px,A py] 82 (0,0)):=by
  rw[<-dO]
  show((w.alloc (.cells #[Ae pc,A px,A py] 82)).alloc (.cells #[A 0,.bool false] 207)).heap[w.heap.size]?=_
  rw[ao3 _ _ _ R,ap5]
 have iD:W1.heap[w.heap.size+1]?=some (.cells #[A 0,.bool false] 207 (0,0)):=by
  rw[<-dO]
  show((w.alloc (.cells #[Ae pc,A px,A py] 82)).alloc (.cells #[A 0,.bool false] 207)).heap[w.heap.size+1]?=_
  have:w.heap.size+1=(w.alloc (.cells #[Ae pc,A px,A py] 82)).heap.size:=R
  rw[this,ap5]
 go_in
 go_wp2_with fail
 refine wp_region_any rfl (iI (S:=λW'=>W1.grownBy W' (some BU)) (z:=12) _ _ _ _ ?_);have aA:W1.grownBy W1 (some BU):=as8 _ _;simp only[ao5,ao1,ap0,Nat.reduceAdd,an7,an6,ao6,ao8,ao7];change wpAnyL prog .any _ _ _ _ _ _ _ ((w.alloc (.cells #[Ae pc,A px,A py] 82)).alloc (.cells #[A 0,.bool false] 207)).drew;rw[dO];have c0':=bG.cell c0 R;have FN:=bG.cell c1 R;have p0:W1.cell? (J w.heap.size 0)=some (Ae pc):=by rw[cell_of kQ];rfl
 have p1:W1.cell? (J w.heap.size 1)=some (A px):=by rw[cell_of kQ];rfl
 have p2:W1.cell? (J w.heap.size 2)=some (A py):=by rw[cell_of kQ];rfl
 have vZ:=bG.size;have oI:w.heap.size+1<W1.heap.size:=(an0.1 iD).1;have NR:(some lb:Option Nat)≠some BU:=by simpa using bg
 have hwB:(some w.heap.size:Option Nat)≠some BU:=anf
 have ak2:(some (w.heap.size+1):Option Nat)≠some BU:=anf
 refine tL 0 (Aa lb 0) (λw' hS=>?_) aA ?_
 ·go_simp
 simp only[aF];refine tL 1 (Aa lb 0) (λw' hS=>?_) aA ?_
 ·go_simp
 simp only[aF];refine tL 2 (Aa lb 0) (λw' hS=>?_) aA ?_
 ·go_simp
 simp only[aF];refine tL 3 (.map (some BU)) (λw' hS=>?_) aA ?_
 ·have q:=hS.cell c0' NR;go_simp
 simp only[aF];refine tL 4 (Aa lb 0) (λw' hS=>?_) aA ?_
 ·go_simp
 simp only[aF];refine tL 5 (Aa lb 0) (λw' hS=>?_) aA ?_
 ·go_simp
 simp only[aF];refine tL 6 (Aa lb 1) (λw' hS=>?_) aA ?_
 ·go_simp
 simp only[aF];refine tL 7 (.map (some BS)) (λw' hS=>?_) aA ?_
 ·have q:=hS.cell FN NR;go_simp
 simp only[aF];refine tL 8 (.agg #[Ae pc,A px,A py]) (λw' hS=>?_) aA ?_
 ·have q0:=hS.cell p0 hwB;have q1:=hS.cell p1 hwB;have q2:=hS.cell p2 hwB
  go_simp
 simp only[aF];refine oL 9 (λK hK=>?_);go_simp;refine(Z VX W1 bG).mono ?_;rintro e w2 ⟨rfl,dh⟩;replace aA:=(dh.but (some BU):W1.grownBy w2 (some BU));refine hK.out _ _ (λ_=>aA) ?_;refine oL 10 (λK hK=>?_);go_simp;refine(Z Lh w2 (bG.trans dh)).mono ?_;rintro e w3 ⟨rfl,hM3,dY⟩;replace aA:=((dh.but (some BU)).trans dY:W1.grownBy w3 (some BU));refine hK.out _ _ (λ_=>aA) ?_;refine tL 11 (.agg #[A ix,.bool true]) (λw' hS=>?_) aA ?_
 ·go_simp
 simp only[aF];have iR:w3.heap[w.heap.size+1]?=some (.cells #[A 0,.bool false] 207 (0,0)):=(aA.block _ oI ak2).trans iD;have r0:w3.cell? (J (w.heap.size+1) 0)=some (A 0):=by rw[cell_of iR];rfl
 have r1:w3.cell? (J (w.heap.size+1) 1)=some (.bool false):=by rw[cell_of iR];rfl
 have rf:w3.frozen? (J (w.heap.size+1) 0)=false:=by simp[World.frozen?,iR]
 have rf1:w3.frozen? (J (w.heap.size+1) 1)=false:=by simp[World.frozen?,iR]
 have Aw:w.heap.size+1<w3.heap.size:=(an0.1 iR).1;refine oL 12 (λK hK=>?_);go_simp;refine hK.out _ _ (λh=>absurd rfl h) (jh (by kernel_rfl) ?_ _);have hM4:aT ((w3.setCell (J (w.heap.size+1) 0) (A ix)).setCell (J (w.heap.size+1) 1) (.bool true)) 82 BU bZ (put Us (qc,qx,qy)):=hM3.kept (by rw[ao9 _ _ _ _ (by show BU≠w.heap.size+1;omega),ao9 _ _ _ _ (by show BU≠w.heap.size+1;omega)]);have mP:w.grownBy ((w3.setCell (J (w.heap.size+1) 0) (A ix)).setCell (J (w.heap.size+1) 1) (.bool true)) (some BU):=lV (lV ((bG.but (some BU)).trans aA) (by show w.heap.size<=w.heap.size+1;omega) _) (by show w.heap.size<=w.heap.size+1;omega) _;have O6:((w3.setCell (J (w.heap.size+1) 0) (A ix)).setCell (J (w.heap.size+1) 1) (.bool true)).heap[w.heap.size+1]?=some (.cells #[A ix,.bool true] 207 (0,0)):=by
  rw[heap_setCell_same (heap_setCell_same iR)]
  congr 2
 obtain⟨WF,hWF⟩:∃WF,(w3.setCell (J (w.heap.size+1) 0) (A ix)).setCell (J (w.heap.size+1) 1) (.bool true)=WF:=⟨_,rfl⟩;rw[hWF]at hM4 mP O6 ⊢;have x0:WF.cell? (J (w.heap.size+1) 0)=some (A ix):=by rw[cell_of O6];rfl
 have x1:WF.cell? (J (w.heap.size+1) 1)=some (.bool true):=by rw[cell_of O6];rfl
 have Q1:=F hM4;have Q2:=F mP
 go_wp2_with fail
 exact aq0 (v:=.agg #[A ix,.bool true]) (by simp[results,results154,go_sem,x0,x1]) rfl ⟨rfl,(Z HLG).unk (Z Q2) (Z Q1),Z Q2⟩
end Go.Proofs.YthcppbmkacbbiabGreat
