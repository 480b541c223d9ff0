import Derived.Test.YthcppbmkacbbiabGreatWAY
import Derived.Test.YthcppbmkacbbiabGreatWBA
set_option linter.unusedSimpArgs false
set_option maxHeartbeats 4000000
set_option maxRecDepth 100000
namespace Go.Proofs.YthcppbmkacbbiabGreat
open Go.Proofs.Tryz
open Go.RowKit Go.Maps Go.WideMaps
open Sat (View Rule jk bG)
open aB (Key put)
def vV(u:View):Value:=.agg #[.int .i64 u.1,.bool u.2]
theorem Ed(u:View)(w:World) :
  Calls prog 127 #[vV u] w λe w'=>e=.returned (vV (u.1,!u.2))/\w.grownBy w' none:=by
 obtain⟨x,i⟩:=u;unfold vV
 go_enter func127,ntmps127
 go_wp2_with fail
 refine ag3 (v:=.agg #[.int .i64 x,.bool (!i)]) (by simp[results,results127,go_sem]) rfl ⟨rfl,?_⟩;exact(ad4 _ _ none).trans (ad4 _ _ none)
theorem Xw:prog.eqGuardType prog.depth 207=false:=by kernel_rfl
theorem eqV(x y:Nat)(i j:Bool)(W:World):(Op.equalIn 10000 207 (.agg #[.int .i64 x,.bool i]) (.agg #[.int .i64 y,.bool j])).run prog W=.ok (decide ((x,i)=(y,j))) W:=by
 have u3:=underlying3;have a3:=isAgg3;have z3:=sizeOf3;have u4:=underlying4;have a4:=isAgg4;have z4:=sizeOf4;have hS:prog.underlying 207=some (.struct (prog.fieldsOf 207)):=by kernel_rfl
 have hp:prog.stoodInHeld 207=false:=by kernel_rfl
 rw[show(10000:Nat)=9999+1 from rfl,run_equalIn_agg W 9999 207 _ _ hS hp];simp only[Program.fieldsOf,underlying207];go_simp;by_cases h1:x=y
 ·subst h1;by_cases h2:i=j
  ·subst h2;simp
  ·simp[h2]
 ·have:¬(x:Int)=(y:Int):=by omega
  simp[h1,this]
theorem Ih(r:Rule)(v:Value)(u:View)(w:World)(hv:aP w v r)(hl:r.length<=1000) :
  Calls prog 190 #[v,vV u] w λe w'=>(∃z:Int,e=.returned (.int .i64 z)/\(0<=z↔u∈r))/\w.grownBy w' none:=by
 obtain⟨x,i⟩:=u;obtain⟨vp,vc,rfl,hvn,hvs⟩:=hv.cells;have hgA:w.grownBy (w.alloc (.cells #[.int .i64 x,.bool i] 207)) none:=ad4 _ _ none;have k0:(w.alloc (.cells #[.int .i64 x,.bool i] 207)).cell? ⟨w.heap.size,0,none⟩=some (.int .i64 x):=by simp[go_sem]
 have k1:(w.alloc (.cells #[.int .i64 x,.bool i] 207)).cell? ⟨w.heap.size,1,none⟩=some (.bool i):=by simp[go_sem]
 obtain⟨W1,hW1⟩:∃W1,w.alloc (.cells #[.int .i64 x,.bool i] 207)=W1:=⟨_,rfl⟩;have hs1:w.heap.size<W1.heap.size:=by rw[<-hW1];simp
 rw[hW1]at hgA k0 k1;have hgd:=Xw;have HVS:=aj hvs;have hq0:Hid (∀a b:Nat,∀c d:Bool,∀W:World,(Op.equalIn 10000 207 (.agg #[.int .i64 a,.bool c]) (.agg #[.int .i64 b,.bool d])).run prog W=.ok (decide ((a,c)=(b,d))) W):=eqV;clear hv hvs hvn;unfold vV
 go_enter func190,ntmps190
 go_wp2_with fail
 clear hW1
 go_loopw [5,8] (λo j wr=>∃k:Nat,k<=r.length/\j=.int .i64 k/\(∀q (hq:q<r.length),q<k->r[q]≠(x,i))/\W1.grownBy wr none) (λ_ j _=>r.length-(intOf j).toNat)
 case atStart=>exact⟨0,ah2 _,rfl,λq hq h=>by omega,ah7 _ _⟩
 case round=>
  obtain⟨k,hk,rfl,hnot,hgr⟩:=hrel;by_cases hlt:k<r.length
  ·have hbd:(k:Int)<(r.length:Int):=(by omega);have hne:r≠[]:=(by intro e;rw[e]at hlt;simp at hlt);obtain⟨g,rfl,hgl,hcs⟩:=ah HVS hne;have hnx:Hid (r[k]≠(x,i)->∀q (hq:q<r.length),q<k+1->r[q]≠(x,i)):=λh q hq hqk=>by
    by_cases e:q=k
    ·subst e;exact h
    ·exact hnot q hq (by omega)
   have hyes:Hid (r[k]=(x,i)->(x,i)∈r):=λh=>by rw[<-h];exact ad8 hlt
   have hdd:Hid (∀W',wr.grownBy W' none->W'.cell? ⟨g,k*2,none⟩=some (.int .i64 r[k].1)/\W'.cell? ⟨g,k*2+1,none⟩=some (.bool r[k].2)):=λW' hW=>by
    have hW2:w.grownBy W' none:=hgA.trans (hgr.trans hW);exact hcs W' ⟨hW2.os,hW2.tape,hW2.output,hW2.size,λk hk=>hW2.block k hk (by simp)⟩ k hlt
   have hkk:Hid (∀W',wr.grownBy W' none->W'.cell? ⟨w.heap.size,0,none⟩=some (.int .i64 x)/\W'.cell? ⟨w.heap.size,1,none⟩=some (.bool i)):=λW' hW=>⟨(hgr.trans hW).cell k0 (by simp),(hgr.trans hW).cell k1 (by simp)⟩;have HGR:=aj hgr;clear hnot hcs hgr;generalize r[k]=u at hnx hyes hdd;obtain⟨y,j⟩:=u;simp only at hdd
   go_wp2_with fail
   refine ah0 (S:=λW'=>wr.grownBy W' none) rfl ?_;have hS0:wr.grownBy wr.drew none:=⟨rfl,rfl,rfl,ad5 _,λ_ _ _=>rfl⟩;simp only[ae2,ae1,ae8,Nat.reduceAdd,ae0,ad9,ae4,ae7,ae6];change wpAnyH prog .any _ _ _ _ _ _ wr.drew;refine tH 0 (.agg #[.int .i64 x,.bool i]) (λw' hS=>?_) hS0 ?_
   ·obtain⟨q0,q1⟩:=ah hkk w' hS;go_simp
   simp only[aC];refine tH 1 (.slice (some ⟨g,0,none⟩) r.length vc) (λw' hS=>?_) hS0 ?_
   ·go_simp
   simp only[aC];refine tH 2 (.int .i64 k) (λw' hS=>?_) hS0 ?_
   ·go_simp
   simp only[aC];refine tH 3 (.pointer (some ⟨g,k*2,none⟩)) (λw' hS=>?_) hS0 ?_
   ·go_simp
   simp only[aC];refine tH 4 (.agg #[.int .i64 y,.bool j]) (λw' hS=>?_) hS0 ?_
   ·obtain⟨q0,q1⟩:=ah hdd w' hS;go_simp
   simp only[aC];refine tH 5 (.bool (decide ((x,i)=(y,j)))) (λw' hS=>?_) hS0 ?_
   ·go_simp;by_cases h1:x=y<;>by_cases h2:i=j<;>simp[h1,h2]<;>omega
   simp only[aC];refine ag5 (by kernel_rfl) ?_ _;obtain⟨W2,hW2⟩:∃W2,wr.drew=W2:=⟨_,rfl⟩;rw[hW2]at hS0 ⊢;clear hW2;have hg2:=hgA.trans ((ah HGR).trans hS0);have hg3:=(ah HGR).trans hS0;have Q1:=aj hg2;have Q2:=aj hg3;clear hg2 hg3;by_cases e:(x,i)=(y,j)
   ·have hd:decide ((x,i)=(y,j))=true:=(by simp[e]);have hm:=aj (ah hyes e.symm);rw[hd];clear e hd
    go_wp2_with fail
    exact ag3 (v:=.int .i64 k) (by simp[results,results190,go_sem]) rfl ⟨⟨k,rfl,⟨λ_=>ah hm,λ_=>by omega⟩⟩,ah Q1⟩
   ·have hd:decide ((x,i)=(y,j))=false:=(by simp only[decide_eq_false_iff_not];exact e);have hm:=aj (ah hnx (λh=>e h.symm));rw[hd];clear e hd
    go_wp2_with fail
    exact⟨⟨k+1,hlt,by go_num,ah hm,ah Q2⟩,by simp[intOf];omega⟩
  ·have hkk:k=r.length:=(by omega);have hbd:¬(k:Int)<(r.length:Int):=(by omega);have hm:Hid (¬(x,i)∈r):=λh=>by
    obtain⟨q,hq,e⟩:=ai0 h;exact hnot q hq (by omega) e
   have Q1:=aj (hgA.trans hgr);clear hkk hnot hgr
   go_wp2_with fail
   exact ag3 (v:=.int .i64 (-1)) (by simp[results,results190,go_sem]) rfl ⟨⟨-1,rfl,⟨λh=>by omega,λh=>absurd h (ah hm)⟩⟩,ah Q1⟩
theorem Ap(r:Rule)(v:Value)(u:View)(w:World)(hv:aP w v r)(hl:r.length<=1000) :
  Calls prog 166 #[v,vV u] w λe w'=>e=.returned (.bool (r.contains u))/\w.grownBy w' none:=by
 have hgA:w.grownBy (w.alloc (.cells #[.int .i64 u.1,.bool u.2] 207)) none:=ad4 _ _ none;have hix:=Ih r v u _ (hv.but (But.aA hgA) (λk e=>by cases e)) hl;obtain⟨vp,vc,rfl⟩:=hv.len;have HV:=aj hv;have HG:=aj hgA;clear hv hgA;obtain⟨x,i⟩:=u;unfold vV at hix ⊢
 go_enter func166,ntmps166
 go_wp2_with fail
 refine hix.mono ?_;rintro e w1 ⟨⟨z,rfl,hz⟩,hg1⟩;have Q1:=aj ((ah HG).trans hg1);have hzz:r.contains (x,i)=decide (0<=z):=by
  by_cases h:(x,i)∈r
  ·have:=hz.2 h;simp[h,this]
  ·have:¬0<=z:=λh2=>h (hz.1 h2);simp[h,this]
 have HZ:=aj hzz;clear hg1 hz hzz
 go_wp2_with fail
 go_ret
 exact⟨by rw[ah HZ];rfl,ah Q1⟩
def nY(w:World)(lb:Nat)(mu ms:Option Nat)(rv:Value):Prop:=w.heap[lb]?=some (.cells #[.map mu,.map ms,rv] 203 (0,0))
theorem nY.mk{w:World}{lb:Nat}{mu ms:Option Nat}{rv:Value}(h:w.heap[lb]?=some (.cells #[.map mu,.map ms,rv] 203 (0,0))):nY w lb mu ms rv:=h
theorem nY.out{w:World}{lb:Nat}{mu ms:Option Nat}{rv:Value}(h:nY w lb mu ms rv):w.heap[lb]?=some (.cells #[.map mu,.map ms,rv] 203 (0,0)):=h
theorem nY.lt{w:World}{lb:Nat}{mu ms:Option Nat}{rv:Value}(h:nY w lb mu ms rv):lb<w.heap.size:=(ad3.1 h).1
theorem nY.kept{w w':World}{lb:Nat}{mu ms:Option Nat}{rv:Value}(h:nY w lb mu ms rv)(hb:w'.heap[lb]?=w.heap[lb]?):nY w' lb mu ms rv:=hb.trans h
theorem nY.og{w:World}{lb:Nat}{mu ms:Option Nat}{rv:Value}(h:nY w lb mu ms rv):jC w lb:=by
 intro cur y e;have q:=h.symm.trans e;simp at q
theorem nY.cells{w:World}{lb:Nat}{mu ms:Option Nat}{rv:Value}(h:nY w lb mu ms rv):w.cell? ⟨lb,0,none⟩=some (.map mu)/\w.cell? ⟨lb,1,none⟩=some (.map ms)/\w.cell? ⟨lb,2,none⟩=some rv:=by
 refine⟨?_,?_,?_⟩<;>(rw[cell_of h];rfl)
theorem nY.thaw{w:World}{lb:Nat}{mu ms:Option Nat}{rv:Value}(h:nY w lb mu ms rv)(i:Nat):w.frozen? ⟨lb,i,none⟩=false:=by
 unfold nY at h;simp[World.frozen?,h]
theorem bF.Px{w:World}{rv':Value}{ak:List Rule}(h:bF w rv' ak){lb:Nat}{mu ms:Option Nat}{rv:Value}(hB:nY w lb mu ms rv):∀k,rv'.ownBlock=some k->k≠lb:=by
 obtain⟨vs,⟨h1,h2⟩,h3⟩:=h;intro k hk e;subst e;rcases h2 with⟨rfl,_⟩|⟨g,cap,cur,rfl,q2,q3,q4⟩
 ·cases hk
 ·cases hk;have:=hB.out.symm.trans q3;simp at this
theorem aP.keep{w w':World}{v:Value}{r:Rule}(h:aP w v r)(hb:∀k,v.ownBlock=some k->w'.heap[k]?=w.heap[k]?):aP w' v r:=by
 rcases h with h|⟨g,cap,cur,x,h1,h2,h3⟩
 ·exact Or.inl h
 ·refine Or.inr ⟨g,cap,cur,x,h1,(hb g ?_).trans h2,h3⟩;rw[h1];rfl
theorem aP.lt{w:World}{v:Value}{r:Rule}(h:aP w v r):∀k,v.ownBlock=some k->k<w.heap.size:=by
 intro k hk;rcases h with⟨_,rfl⟩|⟨g,cap,cur,x,rfl,h2,h3⟩
 ·cases hk
 ·cases hk;exact(ad3.1 h2).1
def eu(w:World)(rv:Value)(ak:List Rule)(X:Nat->Prop):Prop:=
 ∃vs:List Value,w.ownsRow 0 130 1 rv ak.length vs/\∀i (hi:i<ak.length),∃v,vs[i]?=some v/\aP w v ak[i]/\∀k,v.ownBlock=some k->¬X k
theorem eu.v{w:World}{rv:Value}{ak:List Rule}{X:Nat->Prop}(h:eu w rv ak X):bF w rv ak:=by
 obtain⟨vs,h1,h2⟩:=h;exact⟨vs,h1,λi hi=>by obtain⟨v,q1,q2,_⟩:=h2 i hi;exact⟨v,q1,q2⟩⟩
theorem eu.keep{S X:Nat->Prop}{w w':World}{rv:Value}{ak:List Rule}(h:eu w rv ak X)(hb:But S w w')(hS:∀k,S k->jC w k\/X k)(hr:∀k,rv.ownBlock=some k->¬S k):eu w' rv ak X:=by
 obtain⟨vs,⟨h1,h2⟩,h3⟩:=h;refine⟨vs,⟨h1,?_⟩,λi hi=>?_⟩
 ·rcases h2 with h2|⟨g,cap,cur,rfl,q2,q3,q4⟩
  ·exact Or.inl h2
  ·have hlt:g<w.heap.size:=(ad3.1 q3).1;exact Or.inr ⟨g,cap,cur,rfl,q2,(hb.block g hlt (hr g rfl)).trans q3,q4⟩
 ·obtain⟨v,q1,q2,q3⟩:=h3 i hi;refine⟨v,q1,q2.keep (λk hk=>hb.block k (q2.lt k hk) (λe=>?_)),q3⟩;rcases hS k e with e2|e2
  ·rcases q2 with⟨_,rfl⟩|⟨g,cap,cur,x,rfl,h2,h3⟩
   ·cases hk
   ·cases hk;exact e2 _ _ h2
  ·exact q3 k hk e2
theorem eu.but{S X:Nat->Prop}{w w':World}{rv:Value}{ak:List Rule}(h:eu w rv ak X)(hb:But S w w')(hS:∀k,S k->jC w k)(hr:∀k,rv.ownBlock=some k->¬S k):eu w' rv ak X:=h.keep hb (λk e=>Or.inl (hS k e)) hr
theorem eu.other{X X':Nat->Prop}{w:World}{rv:Value}{ak:List Rule}(h:eu w rv ak X)(hX:∀k,k<w.heap.size->X' k->X k):eu w rv ak X':=by
 obtain⟨vs,h1,h2⟩:=h;exact⟨vs,h1,λi hi=>by obtain⟨v,q1,q2,q3⟩:=h2 i hi;exact⟨v,q1,q2,λk hk e=>q3 k hk (hX k (q2.lt k hk) e)⟩⟩
theorem eu.add{S X:Nat->Prop}{W W3:World}{v' v:Value}{ak:List Rule}{r:Rule}{vs:List Value}(hl:vs.length=ak.length)(h3:∀i (hi:i<ak.length),∃v,vs[i]?=some v/\aP W v ak[i]/\∀k,v.ownBlock=some k->¬X k)
 (hown:W3.ownsRow 0 130 1 v' (ak.length+1) (vs++[v]))(hb:But S W W3)(hS:∀k,S k->jC W k)(hv:aP W v r)(hX:∀k,v.ownBlock=some k->¬X k):eu W3 v' (ak++[r]) X:=by
 refine⟨vs++[v],by rw[af8];exact hown,λi hi=>?_⟩;by_cases hlt:i<ak.length
 ·obtain⟨u,q1,q2,q3⟩:=h3 i hlt;refine⟨u,by rw[aj1 (by omega)];exact q1,?_,q3⟩;rw[aj9 hlt];exact q2.but hb hS
 ·have e:i=ak.length:=by simp at hi;omega
  subst e;refine⟨v,by rw[List.getElem?_append_right (by omega),hl];simp,?_,hX⟩;rw[ap7 (ad5 _)];simpa using hv.but hb hS
theorem Wp{X:Nat->Prop}{W W3:World}{lb:Nat}{mu ms:Option Nat}{rv:Value}{ak:List Rule}{v v':Value}{C:Rule}{vs:List Value}(h:nY W lb mu ms rv)(hrows:bF W rv ak)(hv:aP W v C)(hvX:∀k,v.ownBlock=some k->¬X k)(hrow:W.ownsRow 0 130 1 rv ak.length vs)(h3:∀i (hi:i<ak.length),∃v,vs[i]?=some v/\aP W v ak[i]/\∀k,v.ownBlock=some k->¬X k)
 (hg3:(W.alloc (.cells #[v] 130)).grownBy W3 rv.ownBlock)(hown:W3.ownsRow 0 130 1 v' (ak.length+1) (vs++[v])) :
  nY (W3.setCell ⟨lb,2,none⟩ v') lb mu ms v'/\eu (W3.setCell ⟨lb,2,none⟩ v') v' (ak++[C]) X/\But (λk=>k=lb\/some k=rv.ownBlock) W (W3.setCell ⟨lb,2,none⟩ v')/\
  W3.cell? ⟨lb,2,none⟩=some rv/\W3.frozen? ⟨lb,2,none⟩=false/\lb<W3.heap.size:=by
 have hga:W.grownBy (W.alloc (.cells #[v] 130)) rv.ownBlock:=ad4 _ _ _;have hg:W.grownBy W3 rv.ownBlock:=hga.trans hg3;have hb3:=But.aA hg;have hN:=hrows.og;have hbl:=h.lt;have hbr:some lb≠rv.ownBlock:=λe=>hrows.Px h lb e.symm rfl;have hs3:nY W3 lb mu ms rv:=h.kept (hg.block lb hbl hbr);have hr3:eu W3 v' (ak++[C]) X:=eu.add (by have:=hrow.1;omega) h3 hown hb3 hN hv hvX;have hb4:But (λk=>k=lb) W3 (W3.setCell ⟨lb,2,none⟩ v'):=But.setCell (S:=λk=>k=lb) (But.refl _ _) (λ_=>rfl) _;have hN3:∀k,k=lb->jC W3 k:=λk e=>by rw[e];exact hs3.og
 refine⟨?_,hr3.but hb4 hN3 (λk hk=>hr3.v.Px hs3 k hk),(hb3.mono (λk _ e=>Or.inr e)).trans (hb4.mono (λk _ e=>Or.inl e)),hs3.cells.2.2,hs3.thaw 2,hs3.lt⟩;refine nY.mk ?_;rw[heap_setCell_same hs3.out]
 congr 2
structure DG(w:World)(C:Rule)(v:Value)(W:World):Prop where
 row:W.ownsRow w.heap.size 207 2 v C.length (vcs C)
 nil:v=.slice none 0 0↔C=[]
 below:Below w.heap.size w W
theorem DG.grow{w:World}{C:Rule}{v:Value}{W W':World}(h:DG w C v W)(hg:W.grownBy W' none):DG w C v W':=
 ⟨jm h.row hg (λr e=>by cases e),h.nil,h.below.grown hg h.below.size (λk e=>by cases e)⟩
theorem Ot{vs:List View}{k:Nat}(hk:k<vs.length):(vs.take (k+1)).foldl put []=put ((vs.take k).foldl put []) vs[k]:=by
 rw[ah1,ad6 hk,an8];rfl
theorem Ja(X:Nat->Prop)(w:World)(lb:Nat)(mu ms:Option Nat)(rv:Value)(ak:List Rule)(h:nY w lb mu ms rv)(hR:eu w rv ak X)(hX:∀k,X k->k<w.heap.size)(v:Value)(vs:List View)(hv:aP w v vs)(hl:vs.length<=500)(hn:ak.length<=100000) :
  Calls prog 124 #[.pointer (some ⟨lb,0,none⟩),v] w λe w'=>(∃z,e=.returned z)/\∃rv',nY w' lb mu ms rv'/\eu w' rv' (ak++[dd vs]) X/\But (λk=>k=lb\/some k=rv.ownBlock) w w'/\(∀k,rv'.ownBlock=some k->rv.ownBlock=some k\/w.heap.size<=k):=by
 obtain⟨i0,hin,hz0,hz1,hz2⟩:=ak7 J5;obtain⟨j0,jin,jz0,jz1,jz2⟩:=ak7 Vu;obtain⟨vp,vc,rfl,hvn,hvs⟩:=hv.cells;have HH:=aj h;have HR:=aj hR;have HVS:=aj hvs;clear h hR hvs hv hvn
 go_enter func124,ntmps124
 go_wp2_with fail
 go_loopw [4,9] (λo i wr=>∃k:Nat,k<=vs.length/\i=.int .i64 k/\DG w ((vs.take k).foldl put []) o wr) (λ_ i _=>vs.length-(intOf i).toNat)
 case atStart=>exact⟨0,ah2 _,rfl,am9 _ _ _ _,by simp,ag6 _ _⟩
 case round=>
  obtain⟨k,hk,rfl,hG⟩:=hrel;by_cases hlt:k<vs.length
  ·have hbd:(k:Int)<(vs.length:Int):=(by omega);have hne:vs≠[]:=(by intro e;rw[e]at hlt;simp at hlt);obtain⟨g,rfl,hgl,hcs⟩:=ah HVS hne;obtain⟨d0,d1⟩:=hcs wr hG.below k hlt;have htp:=Ot hlt;have hcl:((vs.take k).foldl put []).length<=500:=by
    have:=rW (vs.take k) [];simp at this;omega
   generalize vs[k]=u at d0 d1 htp;obtain⟨x,i⟩:=u;simp only at d0 d1;generalize hC:(vs.take k).foldl put []=C at hG htp hcl;have hrv:=kW hG.row hG.nil;have hgA:wr.grownBy (wr.alloc (.cells #[.int .i64 x,.bool i] 207)) none:=ad4 _ _ none;have hct:=Ap C _ (x,i) _ (hrv.but (But.aA hgA) (λk e=>by cases e)) (by omega);obtain⟨op,oc,rfl⟩:=hrv.len;have HG:=aj hG;have HTP:=aj htp;have HGA:=aj hgA;clear hG htp hrv hgA hcs hC;unfold vV at hct
   go_wp2_with fail
   refine hct.mono ?_;rintro e w1 ⟨rfl,hg1⟩;have hgw:=(ah HGA).trans hg1;have hG1:=(ah HG).grow hgw;have k0:w1.cell? ⟨wr.heap.size,0,none⟩=some (.int .i64 x):=hg1.cell (by simp[go_sem]) (by simp);have k1:w1.cell? ⟨wr.heap.size,1,none⟩=some (.bool i):=hg1.cell (by simp[go_sem]) (by simp);have hs1:wr.heap.size<w1.heap.size:=(by have:=hg1.size;simp at this;omega);have hlo:∀j,(Value.slice op C.length oc).ownBlock=some j->w.heap.size<=j:=λj e=>(hG1.row.lt j e).1;have hws:=hG1.below.size;cases hc:C.contains (x,i)
   ·have hput:put C (x,i)=C++[(x,i)]:=(by unfold put;rw[hc];rfl);rw[hput]at HTP;have hap:Hid (∀v' w3,w3.ownsRow w.heap.size 207 2 v' (C.length+1) (vcs C++BD (x,i))->(w1.alloc (.cells #[.int .i64 x,.bool i] 207)).grownBy w3 (Value.slice op C.length oc).ownBlock->DG w (C++[(x,i)]) v' w3):=λv' w3 h1 h2=>by
     have aaU:w1.grownBy (w1.alloc (.cells #[.int .i64 x,.bool i] 207)) (Value.slice op C.length oc).ownBlock:=ad4 _ _ _;refine⟨?_,?_,hG1.below.grown (aaU.trans h2) hws hlo⟩
     ·have e:vcs (C++[(x,i)])=vcs C++BD (x,i):=(by simp[vcs]);rw[e,af8];exact h1
     ·obtain⟨g',cap',e⟩:=dL h1 (al7 _);subst e;simp
    have eX:=aj hG1.row;clear hG1 hc hput hct hg1 hgw
    go_wp2_with (at_builtin;refine am1 _ rfl _ _ 130 rfl w.heap.size 207 i0 _ 2 16 underlying130 hin hz0 hz1 hz2 rfl (by decide) (.slice op C.length oc) C.length (vcs C) rfl ((ah eX).alloc _) ⟨w1.heap.size,0,none⟩ 1 1 (BD (x,i)) rfl rfl (tu _ _ _ _ _ rfl) (TW _) (by unfold maxLen;omega) (by omega) (by simp;omega) ?_;intro v' w3 hown' hg3 hnil3 hat;obtain⟨g',cap',hv'⟩:=dL hown' (al7 _);subst hv')
    refine⟨⟨k+1,hlt,by go_num,?_⟩,by simp[intOf];omega⟩;rw[ah HTP];exact ah hap _ _ hown' hg3
   ·have hput:put C (x,i)=C:=(by unfold put;rw[hc];rfl);rw[hput]at HTP;have HG1:=aj hG1;clear hG1 hc hput hct hg1 hgw
    go_wp2_with fail
    refine⟨⟨k+1,hlt,by go_num,?_⟩,by simp[intOf];omega⟩;rw[ah HTP];exact ah HG1
  ·have hkk:k=vs.length:=(by omega);have hbd:¬(k:Int)<(vs.length:Int):=(by omega);rw[hkk,ai7]at hG;have hrv:=kW hG.row hG.nil;have hbw:=But.of_below hG.below (λ_=>False);have hn0:∀k,(λ_=>False) k->jC w k:=λk e=>e.elim;have h1:=(ah HH).kept (hG.below.block lb (ah HH).lt);have h2:=(ah HR).but hbw hn0 (λk _ e=>e);obtain⟨rp,rc,hrl⟩:=h2.v.slice;have h2v:=h2.v;subst hrl;obtain⟨op,oc,rfl⟩:=hrv.len;obtain⟨rs,hrow,h3⟩:=h2;have hvX:∀k,(Value.slice op (vs.foldl put []).length oc).ownBlock=some k->¬X k:=λk hk e=>by have:=(hG.row.lt k hk).1;have:=hX k e;omega
   have one:=Wj hrv;have hcl:(vs.foldl put []).length<=500:=by
    have:=rW vs [];simp at this;omega
   have c2:=h1.cells.2.2;have hll:=h1.lt;have HL:Hid (∀W3 v2,(wr.alloc (.cells #[.slice op (vs.foldl put []).length oc] 130)).grownBy W3 (Value.slice rp ak.length rc).ownBlock->W3.ownsRow 0 130 1 v2 (ak.length+1) (rs++[.slice op (vs.foldl put []).length oc])->_):=λW3 v2 g1 g2=>Wp h1 h2v hrv hvX hrow h3 g1 g2;have eX:=aj hrow;have HBW:=aj hG.below;clear hG hkk hrv hbw h1 hrow h3
   go_wp2_with (at_builtin;refine am1 _ rfl _ _ 135 rfl 0 130 j0 (.slice none 0 0) 1 24 underlying135 jin jz0 jz1 jz2 rfl (by decide) (.slice rp ak.length rc) ak.length rs rfl ((ah eX).alloc _) ⟨wr.heap.size,0,none⟩ 1 1 [.slice op (vs.foldl put []).length oc] rfl rfl (yH _ _ _ _ rfl) one (by unfold maxLen;omega) (by omega) (by simp) ?_;intro v2 w4 hown2 hg4 Vy UA;obtain⟨g2,cap2,hv2⟩:=dL hown2 (al7 _);subst hv2;have hlr:=ah HL w4 _ hg4 hown2;obtain⟨L1,L2,L4,L6,L7,L8⟩:=hlr)
   go_end0
   refine⟨⟨_,rfl⟩,_,L1,L2,(But.of_below (ah HBW) _).trans L4,λk hk=>?_⟩;rcases UA with e|e
   ·exact Or.inl (e.symm.trans hk)
   ·rw[e]at hk;simp at hk;have:=(ah HBW).size;right;omega
structure LG(n0:Nat)(w:World)(lb BU BS:Nat)(f:Key->Key)(dom:Key->Prop)(Us:List Key)(ak:List Rule)(X:Nat->Prop):Prop where
 rv:∃rv,nY w lb (some BU) (some BS) rv/\eu w rv ak X/\∀k,rv.ownBlock=some k->n0<=k
 us:aH w 82 BU aS Us
 sm:gy w BS f dom 500
 ne:BU≠BS
 lo:n0<=lb/\n0<=BU/\n0<=BS
theorem aH.og{w:World}{k b:Nat}{kv:Key->Value}{ts:List Key}(h:aH w k b kv ts):jC w b:=by
 obtain⟨D,⟨es,c,h1,_⟩,_⟩:=h;intro cur x e;rw[h1]at e;cases e
theorem gy.og{w:World}{b c:Nat}{f:Key->Key}{dom:Key->Prop}(h:gy w b f dom c):jC w b:=by
 obtain⟨D,nn,_,⟨es,c,h1,_⟩,_⟩:=h;intro cur x e;rw[h1]at e;cases e
theorem nY.yI{w:World}{lb:Nat}{mu ms:Option Nat}{rv:Value}(h:nY w lb mu ms rv){b:Nat}{Us:List Key}(hB:aH w 82 b aS Us):lb≠b:=λe=>by
 obtain⟨D,⟨es,c,h1,_⟩,_⟩:=hB;have:=h.out;rw[e,h1]at this;cases this
theorem nY.yJ{w:World}{lb:Nat}{mu ms:Option Nat}{rv:Value}(h:nY w lb mu ms rv){b c:Nat}{f:Key->Key}{dom:Key->Prop}(hB:gy w b f dom c):lb≠b:=λe=>by
 obtain⟨D,nn,_,⟨es,c,h1,_⟩,_⟩:=hB;have:=h.out;rw[e,h1]at this;cases this
theorem bF.yI{w:World}{rv:Value}{ak:List Rule}(h:bF w rv ak){b:Nat}{Us:List Key}(hB:aH w 82 b aS Us):∀k,rv.ownBlock=some k->k≠b:=by
 obtain⟨D,⟨es,c,h4,_⟩,_⟩:=hB;obtain⟨vs,⟨h1,h2⟩,h3⟩:=h;intro k hk e;subst e;rcases h2 with⟨rfl,_⟩|⟨g,cap,cur,rfl,q2,q3,q4⟩
 ·cases hk
 ·cases hk;rw[h4]at q3;cases q3
theorem bF.yJ{w:World}{rv:Value}{ak:List Rule}(h:bF w rv ak){b c:Nat}{f:Key->Key}{dom:Key->Prop}(hB:gy w b f dom c):∀k,rv.ownBlock=some k->k≠b:=by
 obtain⟨D,nn,_,⟨es,c,h4,_⟩,_⟩:=hB;obtain⟨vs,⟨h1,h2⟩,h3⟩:=h;intro k hk e;subst e;rcases h2 with⟨rfl,_⟩|⟨g,cap,cur,rfl,q2,q3,q4⟩
 ·cases hk
 ·cases hk;rw[h4]at q3;cases q3
theorem LG.grow{n0:Nat}{w w':World}{lb BU BS:Nat}{f:Key->Key}{dom:Key->Prop}{Us:List Key}{ak:List Rule}{X:Nat->Prop}(h:LG n0 w lb BU BS f dom Us ak X)(hg:w.grownBy w' none):LG n0 w' lb BU BS f dom Us ak X:=by
 obtain⟨rv,h1,h2,h3⟩:=h.rv;exact⟨⟨rv,h1.kept (hg.block lb h1.lt (by simp)),h2.but (But.aA hg) (λk e=>by cases e) (λk _=>by simp),h3⟩,h.us.kept (hg.block BU h.us.lt (by simp)),h.sm.kept (hg.block BS h.sm.lt (by simp)),h.ne,h.lo⟩
theorem LG.other{n0:Nat}{w:World}{lb BU BS:Nat}{f:Key->Key}{dom:Key->Prop}{Us:List Key}{ak:List Rule}{X X':Nat->Prop}(h:LG n0 w lb BU BS f dom Us ak X)(hX:∀k,k<w.heap.size->X' k->X k):LG n0 w lb BU BS f dom Us ak X':=by
 obtain⟨rv,h1,h2,h3⟩:=h.rv;exact⟨⟨rv,h1,h2.other hX,h3⟩,h.us,h.sm,h.ne,h.lo⟩
theorem LG.NZ{S:Nat->Prop}{n0:Nat}{w w':World}{lb BU BS:Nat}{f:Key->Key}{dom:Key->Prop}{Us:List Key}{ak:List Rule}{X:Nat->Prop}(h:LG n0 w lb BU BS f dom Us ak X)(hb:But S w w')(hS:∀k,S k->X k/\∃cur t x,w.heap[k]?=some (Obj.cells cur t x)/\t≠130/\t≠203):LG n0 w' lb BU BS f dom Us ak X:=by
 obtain⟨rv,h1,h2,h3⟩:=h.rv;refine⟨⟨rv,h1.kept (hb.block lb h1.lt (λe=>?_)),h2.keep hb (λk e=>Or.inr (hS k e).1) (λk hk e=>?_),h3⟩,h.us.kept (hb.block BU h.us.lt (λe=>?_)),h.sm.kept (hb.block BS h.sm.lt (λe=>?_)),h.ne,h.lo⟩
 ·obtain⟨_,cur,t,x,e1,e2,e3⟩:=hS _ e;rw[h1.out]at e1;simp at e1;exact e3 e1.2.1.symm
 ·obtain⟨_,cur,t,x,e1,e2,e3⟩:=hS _ e;obtain⟨vs,⟨_,q⟩,_⟩:=h2;rcases q with⟨rfl,_⟩|⟨g,cap,cur',rfl,q2,q3,q4⟩
  ·cases hk
  ·cases hk;rw[q3]at e1;simp at e1;exact e2 e1.2.1.symm
 ·obtain⟨_,cur,t,x,e1,_⟩:=hS _ e;obtain⟨D,⟨es,c,q,_⟩,_⟩:=h.us;rw[q]at e1;cases e1
 ·obtain⟨_,cur,t,x,e1,_⟩:=hS _ e;obtain⟨D,nn,_,⟨es,c,q,_⟩,_⟩:=h.sm;rw[q]at e1;cases e1
theorem LG.unk{n0:Nat}{w w':World}{lb BU BS:Nat}{f:Key->Key}{dom:Key->Prop}{Us Us':List Key}{ak:List Rule}{X:Nat->Prop}(h:LG n0 w lb BU BS f dom Us ak X)(hg:w.grownBy w' (some BU))(hu:aH w' 82 BU aS Us'):LG n0 w' lb BU BS f dom Us' ak X:=by
 obtain⟨rv,h1,h2,h3⟩:=h.rv;exact⟨⟨rv,h1.kept (hg.block lb h1.lt (by simpa using h1.yI h.us)),h2.but (But.aA hg) (λk e=>by cases e;exact h.us.og) (λk hk e=>h2.v.yI h.us k hk (by cases e;rfl)),h3⟩,hu,h.sm.kept (hg.block BS h.sm.lt (by simpa using h.ne.symm)),h.ne,h.lo⟩
theorem LG.dem{n0:Nat}{w w':World}{lb BU BS:Nat}{f:Key->Key}{dom:Key->Prop}{Us:List Key}{ak aK:List Rule}{X:Nat->Prop}{rv rv':Value}(h:LG n0 w lb BU BS f dom Us ak X)(h1:nY w lb (some BU) (some BS) rv)(h2:bF w rv ak)(h3:∀k,rv.ownBlock=some k->n0<=k)(hn:n0<=w.heap.size)
 (hL:nY w' lb (some BU) (some BS) rv')(hR:eu w' rv' aK X)(hb:But (λk=>k=lb\/some k=rv.ownBlock) w w')(ho:∀k,rv'.ownBlock=some k->rv.ownBlock=some k\/w.heap.size<=k):LG n0 w' lb BU BS f dom Us aK X/\Below n0 w w':=by
 refine⟨⟨⟨rv',hL,hR,λk hk=>?_⟩,h.us.kept (hb.block BU h.us.lt (λe=>?_)),h.sm.kept (hb.block BS h.sm.lt (λe=>?_)),h.ne,h.lo⟩,hb.below hn (λk hk e=>?_)⟩
 ·rcases ho k hk with e|e
  ·exact h3 k e
  ·omega
 ·rcases e with e|e
  ·exact h1.yI h.us e.symm
  ·exact h2.yI h.us _ e.symm rfl
 ·rcases e with e|e
  ·exact h1.yJ h.sm e.symm
  ·exact h2.yJ h.sm _ e.symm rfl
 ·rcases e with e|e
  ·have:=h.lo.1;omega
  ·have:=h3 _ e.symm;omega
theorem LG.below{n0:Nat}{w w':World}{lb BU BS:Nat}{f:Key->Key}{dom:Key->Prop}{Us:List Key}{ak:List Rule}{X:Nat->Prop}(h:LG n0 w lb BU BS f dom Us ak X)(hn:n0<=w.heap.size)(hg:w.grownBy w' (some BU)):Below n0 w w':=
 (But.aA hg).below hn (λk hk e=>by cases e;have:=h.lo.2.1;omega)
theorem iF{w W:World}{row:Option Nat}(h:w.grownBy W row){p:Addr}(hp:w.heap.size<=p.block)(v:Value):w.grownBy (W.setCell p v) row:=
 ⟨h.os,h.tape,h.output,af7 h.size (by simp[World.setCell]),λk hk hn=>by rw[af4 _ _ _ _ (by omega)];exact h.block k hk hn⟩
theorem uP(n0:Nat)(w:World)(lb BU BS:Nat)(f:Key->Key)(dom:Key->Prop)(Us:List Key)(ak:List Rule)(X:Nat->Prop)(p:Key)(h:LG n0 w lb BU BS f dom Us ak X)(hUs:Us.length<=1000)(hp:dom p)(hfp:dom (f p))(hff:f (f p)=f p)
 (hb:(0<=p.1/\p.1<=255)/\p.2.1<=1000/\p.2.2<=1000)(hbf:(0<=(f p).1/\(f p).1<=255)/\(f p).2.1<=1000/\(f p).2.2<=1000) :
  Calls prog 154 #[.pointer (some ⟨lb,0,none⟩),aS p] w λe w'=>e=.returned (vV (Us.idxOf (f p),true))/\LG n0 w' lb BU BS f dom (put Us (f p)) ak X/\w.grownBy w' (some BU):=by
 obtain⟨rv,hL,hR,hlo⟩:=h.rv;have HLG:=aj h;have hof:Hid (∀W,w.grownBy W none->Calls prog 186 #[.map (some BS),aS p] W λe w'=>e=.returned (aS (f p))/\W.grownBy w' none):=λW hg=>CQ W BS 500 f dom p (h.sm.kept (hg.block BS h.sm.lt (by simp))) hp hfp hff hb hbf;have hnm:Hid (∀W,w.grownBy W none->Calls prog 50 #[.map (some BU),aS (f p)] W λe w'=>e=.returned (.int .i64 (Us.idxOf (f p)))/\aH w' 82 BU aS (put Us (f p))/\W.grownBy w' (some BU)):=λW hg=>ES BU Us (f p).1 (f p).2.1 (f p).2.2 W hbf.1 hbf.2.1 hbf.2.2 hUs (h.us.kept (hg.block BU h.us.lt (by simp)));obtain⟨c0,c1,_⟩:=hL.cells;have hll:=hL.lt;have hne:=hL.yI h.us;have hUl:=h.us.lt;have hle:=al6 (l:=Us) (a:=f p);clear h hL hR hlo hff hp hfp;generalize f p=q at hof hnm hbf HLG hle ⊢;generalize Us.idxOf q=ix at hnm hle ⊢;obtain⟨pc,px,py⟩:=p;obtain⟨qc,qx,qy⟩:=q;unfold vV;simp only[aS]at hof hnm ⊢;obtain⟨W1,hW1⟩:∃W1,((w.alloc (.cells #[.int .u8 pc,.int .i64 px,.int .i64 py] 82)).alloc (.cells #[.int .i64 0,.bool false] 207)).drew=W1:=⟨_,rfl⟩;have hg1:w.grownBy W1 none:=by rw[<-hW1];exact((ad4 _ _ none).trans (ad4 _ _ none)).trans ⟨rfl,rfl,rfl,ad5 _,λ_ _ _=>rfl⟩
 have hb0:W1.heap[w.heap.size]?=some (.cells #[.int .u8 pc,.int .i64 px,.int .i64 py] 82 (0,0)):=by
  rw[<-hW1]
  show((w.alloc (.cells #[.int .u8 pc,.int .i64 px,.int .i64 py] 82)).alloc (.cells #[.int .i64 0,.bool false] 207)).heap[w.heap.size]?=_
  rw[ae3 _ _ _ (by simp),ae9]
 have hb1:W1.heap[w.heap.size+1]?=some (.cells #[.int .i64 0,.bool false] 207 (0,0)):=by
  rw[<-hW1]
  show((w.alloc (.cells #[.int .u8 pc,.int .i64 px,.int .i64 py] 82)).alloc (.cells #[.int .i64 0,.bool false] 207)).heap[w.heap.size+1]?=_
  have:w.heap.size+1=(w.alloc (.cells #[.int .u8 pc,.int .i64 px,.int .i64 py] 82)).heap.size:=by simp
  rw[this,ae9]
 go_enter func154,ntmps154
 go_wp2_with fail
 refine wp_region_any rfl (jl (S:=λW'=>W1.grownBy W' (some BU)) (z:=12) _ _ _ _ ?_);have hS0:W1.grownBy W1 (some BU):=ah7 _ _;simp only[ae2,ae1,ae8,Nat.reduceAdd,ae0,ad9,ae4,ae7,ae6];change wpAnyL prog .any _ _ _ _ _ _ _ ((w.alloc (.cells #[.int .u8 pc,.int .i64 px,.int .i64 py] 82)).alloc (.cells #[.int .i64 0,.bool false] 207)).drew;rw[hW1];clear hW1;have c0':=hg1.cell c0 (by simp);have c1':=hg1.cell c1 (by simp);have p0:W1.cell? ⟨w.heap.size,0,none⟩=some (.int .u8 pc):=by rw[cell_of hb0];rfl
 have p1:W1.cell? ⟨w.heap.size,1,none⟩=some (.int .i64 px):=by rw[cell_of hb0];rfl
 have p2:W1.cell? ⟨w.heap.size,2,none⟩=some (.int .i64 py):=by rw[cell_of hb0];rfl
 have hsz1:=hg1.size;have hs1:w.heap.size+1<W1.heap.size:=(ad3.1 hb1).1;have hlB:(some lb:Option Nat)≠some BU:=by simpa using hne
 have hwB:(some w.heap.size:Option Nat)≠some BU:=by simp;omega
 have aaA:(some (w.heap.size+1):Option Nat)≠some BU:=by simp;omega
 refine tL 0 (.pointer (some ⟨lb,0,none⟩)) (λw' hS=>?_) hS0 ?_
 ·go_simp
 simp only[aC];refine tL 1 (.pointer (some ⟨lb,0,none⟩)) (λw' hS=>?_) hS0 ?_
 ·go_simp
 simp only[aC];refine tL 2 (.pointer (some ⟨lb,0,none⟩)) (λw' hS=>?_) hS0 ?_
 ·go_simp
 simp only[aC];refine tL 3 (.map (some BU)) (λw' hS=>?_) hS0 ?_
 ·have q:=hS.cell c0' hlB;go_simp
 simp only[aC];refine tL 4 (.pointer (some ⟨lb,0,none⟩)) (λw' hS=>?_) hS0 ?_
 ·go_simp
 simp only[aC];refine tL 5 (.pointer (some ⟨lb,0,none⟩)) (λw' hS=>?_) hS0 ?_
 ·go_simp
 simp only[aC];refine tL 6 (.pointer (some ⟨lb,1,none⟩)) (λw' hS=>?_) hS0 ?_
 ·go_simp
 simp only[aC];refine tL 7 (.map (some BS)) (λw' hS=>?_) hS0 ?_
 ·have q:=hS.cell c1' hlB;go_simp
 simp only[aC];refine tL 8 (.agg #[.int .u8 pc,.int .i64 px,.int .i64 py]) (λw' hS=>?_) hS0 ?_
 ·have q0:=hS.cell p0 hwB;have q1:=hS.cell p1 hwB;have q2:=hS.cell p2 hwB
  go_simp
 simp only[aC];refine oL 9 (λK hK=>?_);go_simp;refine(ah hof W1 hg1).mono ?_;rintro e w2 ⟨rfl,hg2⟩;replace hS0:=(hg2.but (some BU):W1.grownBy w2 (some BU));refine hK.out _ _ (λ_=>hS0) ?_;clear hK K;refine oL 10 (λK hK=>?_);go_simp;refine(ah hnm w2 (hg1.trans hg2)).mono ?_;rintro e w3 ⟨rfl,hM3,hg3⟩;replace hS0:=((hg2.but (some BU)).trans hg3:W1.grownBy w3 (some BU));refine hK.out _ _ (λ_=>hS0) ?_;clear hK K;refine tL 11 (.agg #[.int .i64 ix,.bool true]) (λw' hS=>?_) hS0 ?_
 ·go_simp
 simp only[aC];have hb3:w3.heap[w.heap.size+1]?=some (.cells #[.int .i64 0,.bool false] 207 (0,0)):=(hS0.block _ hs1 aaA).trans hb1;have r0:w3.cell? ⟨w.heap.size+1,0,none⟩=some (.int .i64 0):=by rw[cell_of hb3];rfl
 have r1:w3.cell? ⟨w.heap.size+1,1,none⟩=some (.bool false):=by rw[cell_of hb3];rfl
 have rf:w3.frozen? ⟨w.heap.size+1,0,none⟩=false:=by simp[World.frozen?,hb3]
 have rf1:w3.frozen? ⟨w.heap.size+1,1,none⟩=false:=by simp[World.frozen?,hb3]
 have hs3:w.heap.size+1<w3.heap.size:=(ad3.1 hb3).1;refine oL 12 (λK hK=>?_);go_simp;refine hK.out _ _ (λh=>absurd rfl h) (jq (by kernel_rfl) ?_ _);clear hK K;have hM4:aH ((w3.setCell ⟨w.heap.size+1,0,none⟩ (.int .i64 ix)).setCell ⟨w.heap.size+1,1,none⟩ (.bool true)) 82 BU aS (put Us (qc,qx,qy)):=hM3.kept (by rw[af4 _ _ _ _ (by show BU≠w.heap.size+1;omega),af4 _ _ _ _ (by show BU≠w.heap.size+1;omega)]);have hg4:w.grownBy ((w3.setCell ⟨w.heap.size+1,0,none⟩ (.int .i64 ix)).setCell ⟨w.heap.size+1,1,none⟩ (.bool true)) (some BU):=iF (iF ((hg1.but (some BU)).trans hS0) (by show w.heap.size<=w.heap.size+1;omega) _) (by show w.heap.size<=w.heap.size+1;omega) _;have hbF:((w3.setCell ⟨w.heap.size+1,0,none⟩ (.int .i64 ix)).setCell ⟨w.heap.size+1,1,none⟩ (.bool true)).heap[w.heap.size+1]?=some (.cells #[.int .i64 ix,.bool true] 207 (0,0)):=by
  rw[heap_setCell_same (heap_setCell_same hb3)]
  congr 2
 obtain⟨WF,hWF⟩:∃WF,(w3.setCell ⟨w.heap.size+1,0,none⟩ (.int .i64 ix)).setCell ⟨w.heap.size+1,1,none⟩ (.bool true)=WF:=⟨_,rfl⟩;rw[hWF]at hM4 hg4 hbF ⊢;have x0:WF.cell? ⟨w.heap.size+1,0,none⟩=some (.int .i64 ix):=by rw[cell_of hbF];rfl
 have x1:WF.cell? ⟨w.heap.size+1,1,none⟩=some (.bool true):=by rw[cell_of hbF];rfl
 have Q1:=aj hM4;have Q2:=aj hg4;clear hM4 hg4 hM3 hS0 hg2 hg3 hof hnm hWF hbF
 go_wp2_with fail
 exact ag3 (v:=.agg #[.int .i64 ix,.bool true]) (by simp[results,results154,go_sem,x0,x1]) rfl ⟨rfl,(ah HLG).unk (ah Q2) (ah Q1),ah Q2⟩
end Go.Proofs.YthcppbmkacbbiabGreat
