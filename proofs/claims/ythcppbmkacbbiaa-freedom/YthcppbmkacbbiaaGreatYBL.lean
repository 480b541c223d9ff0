import Derived.Test.YthcppbmkacbbiaaGreatYBK
import Derived.Test.YthcppbmkacbbiaaGreatYBB
set_option linter.unusedSimpArgs false
set_option maxHeartbeats 4000000
set_option maxRecDepth 100000
namespace Go.Proofs.YthcppbmkacbbiaaGreat
open Go.Proofs.Tryz
open Go.RowKit Go.Maps Go.WideMaps
open Sat (View Rule jw bI)
open aB (Key put isAtom)
attribute [local go_sem] Oper.semAt_some
def wR(ss:List jL):List Value:=ss.flatMap Df
theorem Oc(ss:List jL)(s:jL):wR (ss++[s])=wR ss++Df s:=by simp[wR]
theorem Cc:(prog.info? 224).map (λi=>(i.zero,i.size,i.bytes))=some (some (.agg #[.int .i64 0,.bool false,.int .u8 0,.int .i64 0,.int .i64 0]),5,40):=by kernel_rfl
structure Aj(w:World)(G X6 U:Nat)(jS:Array Value)(ss:List jL)(W:World):Prop where
 x5:∃v,W.heap[w.heap.size]?=some (.cells #[v] 165 (0,0))/\W.ownsRow w.heap.size 224 5 v ss.length (wR ss)/\(v=.slice none 0 0↔ss=[])
 x6:W.heap[X6]?=some (.cells #[.slice (some ⟨G,0,none⟩) U U] 52 (0,0))
 g:W.heap[G]?=some (.cells jS 93 (0,0))
 below:Below w.heap.size w W
theorem Aj.grow{w:World}{G X6 U:Nat}{jS:Array Value}{ss:List jL}{W W':World}{row:Option Nat}(h:Aj w G X6 U jS ss W)(hg:W.grownBy W' row)(hr:∀r,row=some r->w.heap.size<=r/\∃o:Obj,W.heap[r]?=some o/\o.isCells=false):Aj w G X6 U jS ss W':=by
 obtain⟨v,h1,h2,h3⟩:=h.x5;have hr':∀r,row=some r->∃o:Obj,W.heap[r]?=some o/\o.isCells=false:=λr e=>(hr r e).2;have keep:∀(j:Nat) (cur:Array Value) (t:TypeId) (x:Nat×Nat),W.heap[j]?=some (.cells cur t x)->W'.heap[j]?=some (.cells cur t x):=λj cur t x hj=>by
  refine(hg.block j (ac0.1 hj).1 (λe=>?_)).trans hj;obtain⟨o,ho,hc⟩:=hr' j e.symm;rw[hj]at ho;cases ho;cases hc
 exact⟨⟨v,keep _ _ _ _ h1,jA h2 hg hr',h3⟩,keep _ _ _ _ h.x6,keep _ _ _ _ h.g,h.below.grown hg h.below.size (λk e=>(hr k e).1)⟩
theorem Aj.keeps{w:World}{W W2 W3:World}{v v':Value}{ss:List jL}(hx:W.heap[w.heap.size]?=some (.cells #[v] 165 (0,0)))(hg:W.grownBy W2 none)(hg3:W2.grownBy W3 v.ownBlock)
 (hr:W.ownsRow w.heap.size 224 5 v ss.length (wR ss)):∀(j:Nat) (o:Obj),W.heap[j]?=some o->(∀cur x,o≠Obj.cells cur 224 x)->(∀cur x,o≠Obj.cells cur 165 x)->(W3.setCell ⟨w.heap.size,0,none⟩ v').heap[j]?=some o:=by
 intro j o h1 h2 h3;have hjl:=(ac0.1 h1).1;have hj5:j≠w.heap.size:=λe=>by
  subst e;rw[hx]at h1;cases h1;exact h3 _ _ rfl
 rw[ae3 _ _ _ _ hj5];refine(hg3.block j (ac8 hjl hg.size) (λe=>?_)).trans ((hg.block j hjl (by simp)).trans h1);rcases hr.2 with⟨rfl,_⟩|⟨g,cap,cur,rfl,hb,hgb,_⟩
 ·cases e
 ·simp only[Value.ownBlock,ai0]at e;subst e;rw[h1]at hgb;cases hgb;exact h2 _ _ rfl
theorem Aj.mid{w:World}{ss:List jL}{W W2 W3:World}{v:Value}(hx:W.heap[w.heap.size]?=some (.cells #[v] 165 (0,0)))(hg:W.grownBy W2 none)(hg3:W2.grownBy W3 v.ownBlock)
 (hr:W.ownsRow w.heap.size 224 5 v ss.length (wR ss)):W3.heap[w.heap.size]?=some (.cells #[v] 165 (0,0)):=by
 have hjl:=(ac0.1 hx).1;refine(hg3.block _ (ac8 hjl hg.size) (λe=>?_)).trans ((hg.block _ hjl (by simp)).trans hx);rcases hr.2 with⟨rfl,_⟩|⟨g,cap,cur,rfl,hb,hgb,_⟩
 ·cases e
 ·simp only[Value.ownBlock,ai0]at e;rw[<-e,hx]at hgb;simp at hgb
theorem Aj.app{w:World}{G X6 U:Nat}{jS:Array Value}{ss:List jL}{W W2 W3:World}{v v':Value}{s:jL}(h:Aj w G X6 U jS ss W)(hx:W.heap[w.heap.size]?=some (.cells #[v] 165 (0,0)))(hg:W.grownBy W2 none)(hg3:W2.grownBy W3 v.ownBlock)
 (hr:W.ownsRow w.heap.size 224 5 v ss.length (wR ss))(hr3:W3.ownsRow w.heap.size 224 5 v' (ss.length+1) (wR ss++Df s))(hn:v'≠.slice none 0 0):Aj w G X6 U jS (ss++[s]) (W3.setCell ⟨w.heap.size,0,none⟩ v'):=by
 have keep:=Aj.keeps (v':=v') hx hg hg3 hr;have k5:=Aj.mid hx hg hg3 hr;refine⟨⟨v',by rw[heap_setCell_same k5];rfl,?_,?_⟩,keep _ _ h.x6 (λcur x e=>by simp at e) (λcur x e=>by simp at e),keep _ _ h.g (λcur x e=>by simp at e) (λcur x e=>by simp at e),?_⟩
 ·rw[ae9,Oc];refine hr3.kept (grownBy_setCell' W3 w.heap.size _) ?_;rcases hr3.2 with⟨e,_⟩|⟨g,cap,cur,rfl,hb,hgb,_⟩
  ·exact absurd e hn
  ·refine Or.inr (λe=>?_);simp only[Value.ownBlock,ai0]at e;rw[show g=w.heap.size by omega,k5]at hgb;simp at hgb
 ·constructor
  ·intro e;exact absurd e hn
  ·intro e;simp at e
 ·refine((h.below.grown hg h.below.size (λk e=>by cases e)).grown hg3 (by have:=h.below.size;have:=hg.size;omega) (λk e=>(hr.lt k e).1)).setCell (ac2 _) _
theorem KI{τ:List Tr}{U:Nat}(hn:(τ.map (·.1)).Nodup)(hlt:∀q∈τ,q.1<U)(hall:∀x,x<U->lG τ x=true):WZ (λx _=>(x:Int)) τ (List.range U):=by
 refine⟨?_,λi j hi hj hij=>?_⟩
 ·rw[List.perm_ext_iff_of_nodup List.nodup_range hn];intro x;rw[ai5];constructor
  ·intro hx;have:=hall x hx;refine ag1 λhm=>?_;unfold lG at this;rw[jF.2 hm]at this;cases this
  ·intro hx;obtain⟨q,hq,rfl⟩:=ae8.1 hx;exact hlt q hq
 ·simp only[List.getElem_range];omega
theorem vW{W:World}{base:Nat}{v:Value}{ss:List jL}(h:W.ownsRow base 224 5 v ss.length (wR ss)):gy W v ss:=by
 rcases h.2 with⟨rfl,e0⟩|⟨g,cap,cur,rfl,hb,hgb,h1,h2,h3,h4⟩
 ·refine⟨none,0,by rw[e0],by omega,λhne=>?_⟩;have:ss=[]:=ag9 e0;exact absurd this hne
 ·refine⟨_,cap,rfl,by omega,λhne=>⟨g,0,cur,(0,0),rfl,hgb,λi hi j hj=>?_⟩⟩;have h5:(cur.toList.take (ss.length*5))[i*5+j]?=(wR ss)[i*5+j]?:=by rw[h4]
  rw[am2,ae2 (by omega)]at h5;rw[show cur[0+i*5+j]?=cur.toList[i*5+j]? by simp,h5];exact flat_get (k:=5) (λ_=>rfl) (by decide) ss i hi j hj
theorem yA(w:World)(x:Nat)(i:Bool)(c:Int)(a b:Nat)(t:TypeId)(n:Nat)(hn:w.heap.size=n):∀j u,(Df (x,i,c,a,b))[j]?=some u->(w.alloc (.cells #[.int .i64 x,.bool i,.int .u8 c,.int .i64 a,.int .i64 b] t)).cell? ((⟨n,0,none⟩:Addr).add j)=some u:=by
 subst hn;intro j u hj
 match j,hj with
 |0,hj=>simp[Df]at hj;subst hj;simp[go_sem,Addr.add]
 |1,hj=>simp[Df]at hj;subst hj;simp[go_sem,Addr.add]
 |2,hj=>simp[Df]at hj;subst hj;simp[go_sem,Addr.add]
 |3,hj=>simp[Df]at hj;subst hj;simp[go_sem,Addr.add]
 |4,hj=>simp[Df]at hj;subst hj;simp[go_sem,Addr.add]
 |j+5,hj=>simp[Df]at hj
theorem Tc(s:jL):∀v∈Df s,v.oneCell'=true:=by
 intro v hv;simp[Df]at hv;rcases hv with rfl|rfl|rfl|rfl|rfl<;>rfl
structure WY(w:World)(G X6 M m:Nat)(Us:List Key)(jS:Array Value)(τ:List Tr)(k:Nat)(W:World):Prop where
 g:Aj w G X6 Us.length jS (rJ Us τ k) W
 mb:W.heap[M]?=some (.cells #[.map (some m)] 159 (0,0))
theorem WY.fin{w:World}{G X6 M m:Nat}{Us:List Key}{jS:Array Value}{τ:List Tr}{k:Nat}{W W':World}{B0:Nat}{a:Act}(hI:WY w G X6 M m Us jS τ k W)
 (hsz:W.heap.size<=W'.heap.size)(hR:∀(j:Nat) (o:Obj),W.heap[j]?=some o->(∀cur x,o≠Obj.cells cur 224 x)->(∀cur x,o≠Obj.cells cur 165 x)->W'.heap[j]?=some o)
 (hG:Aj w G X6 Us.length jS (rJ Us τ (k+1)) W')(hm:m<w.heap.size) :
  iG B0 (Rw B0 M m) (WY w G X6 M m Us jS τ (k+1)) W .normal a W':=by
 have hMb:W'.heap[M]?=some (.cells #[.map (some m)] 159 (0,0)):=hR M _ hI.mb (λcur x e=>by simp at e) (λcur x e=>by simp at e);refine⟨⟨hsz,λj o hj ho hc=>hR j o ho (λcur x e=>by rw[e]at hc;cases hc) (λcur x e=>by rw[e]at hc;cases hc)⟩,⟨λj cur x hj hx=>hR j _ hx (λcur x e=>by simp at e) (λcur x e=>by simp at e),hMb.trans hI.mb.symm,?_⟩,⟨hG,hMb⟩⟩;exact(hG.below.block m hm).trans (hI.g.below.block m hm).symm
theorem pJ(w:World)(lb BU m:Nat)(ms:Option Nat)(rv:Value)(Us:List Key)(τ:List Tr)(hL:oJ w lb (some BU) ms rv)(hM:aH w 93 BU aS Us)(hnd:Us.Nodup)(hU:Us.length<=500)(hv:∀x∈Us,∃l,keyOf prog 93 (aS x)=some l)
 (hB:lq w m τ)(hlt:∀q∈τ,q.1<Us.length)(hall:∀x,x<Us.length->lG τ x=true) :
  Calls prog 91 #[.pointer (some ⟨lb,0,none⟩),.map (some m)] w λe w'=>∃v,e=.returned v/\gy w' v (fA Us τ)/\Below w.heap.size w w':=by
 refine(af9 (n:=8)).1 ?_;obtain⟨i0,hin,hz0,hz1,hz2⟩:=ak1 Cc;obtain⟨c0,_,_⟩:=hL.cells;have hlb:=hL.lt;have hrk:=KI hB.nodup hlt hall;have hτl:τ.length<=500:=by
  have:=hrk.perm.length_eq;simp at this;omega
 have hls:=AV BU Us (w.alloc (.cells #[.slice none 0 0] 165)) (by omega) hnd (hM.kept (ad4 _ _ _ hM.lt)) hv;have HB:=aj hB;have gX:=aj hall;have HLT:=aj hlt;clear hL hM hB hall hlt hnd;refine ai3 func91 rfl trivial ?_ rfl;simp only[ntmps91,ad3,ac9,ae1,Nat.reduceAdd,Nat.reduceSub,ac7,ac6,ad5,af0,ad9,ad8]
 gi_wp2
 refine⟨trivial,(af9.2 hls).mono ?_⟩;rintro e w1 ⟨G,rfl,hG,hb1,hrow⟩;have hlB:=(ah HB).lt;obtain⟨jS,hcG,hcell⟩:∃jS:Array Value,w1.heap[G]?=some (.cells jS 93 (0,0))/\∀i (hi:i<Us.length) j,j<3->jS[i*3+j]?=(je Us[i])[j]?:=by
  rcases hrow.2 with⟨h0,_⟩|⟨g,cap,cur,hv0,hb0,hgb,h1,h2,h3,h4⟩
  ·cases h0
  ·cases hv0;refine⟨cur,hgb,λi hi j hj=>?_⟩;have h5:(cur.toList.take (Us.length*3))[i*3+j]?=(Us.flatMap je)[i*3+j]?:=(by rw[h4]);rw[am2,ae2 (by omega)]at h5;rw[show cur[i*3+j]?=cur.toList[i*3+j]? by simp,h5];exact flat_get (k:=3) (λ_=>rfl) (by decide) Us i hi j hj
 have hx5:w1.heap[w.heap.size]?=some (.cells #[.slice none 0 0] 165 (0,0)):=by
  rw[hb1.block _ (by simp),ad7]
 have yQ:Below w.heap.size w w1:=((af5 _ w).alloc (ac2 _) _).trans (hb1.mono (by simp));have hs1:w.heap.size+1<=w1.heap.size:=by have:=hb1.size;simpa using this
 have RJ:=aj hcell;clear hls hrow hcell
 gi_wp2
 obtain⟨wr,hwr⟩:∃wr,w1.alloc (.cells #[.slice (some ⟨G,0,none⟩) Us.length Us.length] 52)=wr:=⟨_,rfl⟩;have hgr:w1.grownBy wr none:=by rw[<-hwr];exact ac1 _ _ none
 have hsr:w1.heap.size+1<=wr.heap.size:=by rw[<-hwr];simp
 have hG0:Aj w G w1.heap.size Us.length jS [] wr:=by
  refine⟨⟨.slice none 0 0,(hgr.block _ (by omega) (by simp)).trans hx5,al9 _ _ _ _,by simp⟩,by rw[<-hwr,ad7],(hgr.block _ (ac0.1 hcG).1 (by simp)).trans hcG,yQ.grown hgr yQ.size (λk e=>by cases e)⟩
 rw[hwr];clear hwr hx5 hcG hgr yQ hb1;refine⟨trivial,(af9.2 (yh 143 m wr)).mono ?_⟩;rintro e w3 ⟨rfl,t3,rfl⟩
 gi_wp2
 obtain⟨w2,hw2⟩:∃w2,(wr.alloc (.cells #[.map (some m)] 159)).alloc (.cells #[.func (.func 143) #[] #[]] t3)=w2:=⟨_,rfl⟩;have hg2:wr.grownBy w2 none:=by rw[<-hw2];exact(ac1 _ _ none).trans (ac1 _ _ none)
 have hs2:wr.heap.size+2<=w2.heap.size:=by rw[<-hw2];simp
 have hM2:w2.heap[wr.heap.size]?=some (.cells #[.map (some m)] 159 (0,0)):=by rw[<-hw2,ad4 _ _ _ (by simp),ad7]
 have hR2:w2.cell? ⟨wr.heap.size+1,0,none⟩=some (.func (.func 143) #[] #[]):=by rw[<-hw2];simp[go_sem]
 have hG2:Aj w G w1.heap.size Us.length jS [] w2:=hG0.grow hg2 (λr e=>by cases e);have hBM:lq w2 m τ:=(ah HB).kept (hG2.below.block m hlB);have hseq:=AZ 143 _ BI (aq2 func143 (by kernel_rfl) rfl) τ (by omega) 7 (by omega) wr.heap.size (wr.heap.size+1) m w2.heap.size _ w2 (ac2 _) hrk (by rw[cell_of hM2];rfl) hR2 hBM;rw[hw2];have hI0:WY w G w1.heap.size wr.heap.size m Us jS τ 0 w2:=⟨hG2,hM2⟩;have hwr2:w.heap.size+2<=wr.heap.size:=by omega
 have hown:OwnFrom w2.heap.size (WY w G w1.heap.size wr.heap.size m Us jS τ):=by
  intro k W W' row hI hg hr;refine⟨hI.g.grow hg (λr e=>⟨by have:=(hr r e).1;omega,(hr r e).2⟩),(hg.block _ (ac0.1 hI.mb).1 (λe=>by have:=(hr _ e.symm).1;omega)).trans hI.mb⟩
 clear hw2 hG2 hM2 hR2 hBM hg2 hG0;have hx6:∃x6,x6=w1.heap.size:=⟨_,rfl⟩;obtain⟨x6,hx6⟩:=hx6;rw[<-hx6]at hI0 hown ⊢;have acf:x6<w2.heap.size:=by omega
 clear hx6;refine dA rfl (by omega) rfl trivial (λ_ _=>by simp[go_sem]) hseq Rw.trans ?_ (af5 _ _) ?_ (WY w G x6 wr.heap.size m Us jS τ) hown hI0
  (λk a' W=>∃(hk:k<Us.length) (p:Nat) (q:Tr×Nat),mX τ k=some q/\W.heap[p]?=some (.cells #[.bool q.1.2.1,.int .i64 q.2,q.1.2.2.1] 229 (0,0))/\
   a'={tmps:=#[.pointer (some ⟨lb,0,none⟩),.map (some m),undef,undef,.slice none 0 0,.pointer (some ⟨w.heap.size,0,none⟩),.pointer (some ⟨x6,0,none⟩),.int .i64 k,.pointer (some ⟨p,0,none⟩),.pointer (some ⟨lb,0,none⟩),.pointer (some ⟨lb,0,none⟩),.pointer (some ⟨lb,0,none⟩),.map (some BU),.slice (some ⟨G,0,none⟩) Us.length Us.length,.map (some m),.func (.func 181) #[] #[.pointer (some ⟨wr.heap.size,0,none⟩),.pointer (some ⟨wr.heap.size+1,0,none⟩)],.int .i64 k,oV q.1 q.2,undef,undef,undef,undef,undef,undef,undef,undef,undef,undef,undef,undef,undef,undef,undef,undef,undef,undef,undef,undef,undef,undef],defers:=[]}) ?own ?assign ?body ?done
 ·intro W l o o' hlw ho hc hwk;refine⟨λj cur x hj hx=>(ae6 (λe=>?_)).trans hx,ae6 (by omega),ae6 (by omega)⟩;subst e;rw[ho]at hx;cases hx;cases hc
 ·intro k hk;simp
 case own=>
  rintro k a' ⟨⟩ W W' row ⟨hk,p,q,hq,hp,e⟩ hg hr;refine⟨hk,p,q,hq,(hg.block p (ac0.1 hp).1 (λe2=>?_)).trans hp,e⟩;obtain⟨o,ho,hc⟩:=(hr p e2.symm).2;rw[hp]at ho;cases ho;cases hc
 case assign=>
  intro l k hk W K hI hK;have hk':k<Us.length:=by simpa using hk
  obtain⟨q,hq⟩:∃q,mX τ k=some q:=Option.isSome_iff_exists.1 (ah gX k hk');have e1:((List.range Us.length).map λx=>#[kR x,uH τ x])[k]'hk=#[kR k,oV q.1 q.2]:=by
   simp only[ak9,List.getElem_range]
   congr 2
   unfold uH;rw[hq]
  rw[e1];obtain⟨qp,ql,qc,hqs⟩:=(ah HB).shape q.1 (by
   obtain⟨_,hkl,h2⟩:=dI (q:=q.1) (k:=q.2) hq;rw[<-h2];exact ac4 _)
  have hK2:=λa' W' h1 h2 h3 p h4=>hK a' W' h1 h2 h3 ⟨hk',p,q,hq,h4⟩;have hmb:=(ac0.1 hI.mb).1;have hml:m<W.heap.size:=by have:=hI.g.below.size;omega
  have hIa:=(hown.alloc (.cells #[.bool q.1.2.1,.int .i64 q.2,q.1.2.2.1] 229) hI);clear hK;simp only[oV]at hK2 ⊢;obtain⟨⟨qx,qi,qv,qr⟩,t⟩:=q;simp only at hqs hK2 hIa ⊢;subst hqs;simp only[kR]at hK2 ⊢
  gi_wp2
  exact hK2 _ _ ((an4 _ _).from _) ⟨λj cur x hj hx=>(ad4 _ _ _ (ac0.1 hx).1).trans hx,ad4 _ _ _ hmb,ad4 _ _ _ hml⟩ hIa W.heap.size ⟨ad7 _ _,rfl⟩
 case body=>
  rintro l k a' W hk hlw hI ⟨hk',p,q,hq,hp,rfl⟩;have hmem:q.1∈τ:=by
   obtain⟨_,hkl,h2⟩:=dI (q:=q.1) (k:=q.2) hq;rw[<-h2];exact ac4 _
  obtain⟨qp,ql,qc,hqs⟩:=(ah HB).shape q.1 hmem;have YT:IX τ k=q.1.2.1:=by unfold IX;rw[hq]
  have G9:W.cell? ⟨x6,0,none⟩=some (.slice (some ⟨G,0,none⟩) Us.length Us.length):=by rw[cell_of hI.g.x6];rfl
  have g0:W.cell? ⟨G,k*3,none⟩=some (.int .u8 Us[k].1):=by rw[cell_of hI.g.g];exact(ah RJ k hk' 0 (by omega)).trans rfl
  have g1:W.cell? ⟨G,k*3+1,none⟩=some (.int .i64 Us[k].2.1):=by rw[cell_of hI.g.g];exact(ah RJ k hk' 1 (by omega)).trans rfl
  have g2:W.cell? ⟨G,k*3+2,none⟩=some (.int .i64 Us[k].2.2):=by rw[cell_of hI.g.g];exact(ah RJ k hk' 2 (by omega)).trans rfl
  have p0:W.cell? ⟨p,0,none⟩=some (.bool q.1.2.1):=by rw[cell_of hp];rfl
  have hpl:p<W.heap.size:=(ac0.1 hp).1;have hsl:=pK Us τ k;have hfin:Hid (∀(a:Act) (W':World),W.heap.size<=W'.heap.size->(∀(j:Nat) (o:Obj),W.heap[j]?=some o->(∀cur x,o≠Obj.cells cur 224 x)->(∀cur x,o≠Obj.cells cur 165 x)->W'.heap[j]?=some o)->Aj w G x6 Us.length jS (rJ Us τ k++wS Us τ k) W'->iG w2.heap.size (Rw w2.heap.size wr.heap.size m) (WY w G x6 wr.heap.size m Us jS τ (k+1)) W .normal a W'):=λa W' h1 h2 h3=>hI.fin h1 h2 (by rw[uM];exact h3) hlB;have hso:wS Us τ k=if isAtom Us[k].1=true then [(k,q.1.2.1,Us[k])]else []:=by
   unfold wS;rw[aG hk',YT]
  rw[hso]at hfin;have hG:=hI.g;have hbd:(k:Int)<(Us.length:Int):=by omega
  simp only[oV];have HP:=aj hp;clear hI hI0 hown hseq hp hso YT hmem hq;generalize Us[k]=u at hfin g0 g1 g2;generalize rJ Us τ k=ss at hfin hG hsl;obtain⟨⟨qx,qi,qv,qr⟩,t⟩:=q;obtain⟨uc,ux,uy⟩:=u;simp only at hqs hfin p0 HP g0 g1 g2 ⊢;subst hqs;have dh:=aj hfin;have HG:=aj hG;clear hfin;by_cases ha:uc=61\/uc=80\/uc=81
  ·have hat:isAtom uc=true:=(by simpa[isAtom]using ha);rw[hat]at dh;simp only[aj0]at dh;obtain⟨v5,hx5,hrow,hnil⟩:=hG.x5;have hc5:W.cell? ⟨w.heap.size,0,none⟩=some v5:=(by rw[cell_of hx5];rfl);have hf5:W.frozen? ⟨w.heap.size,0,none⟩=false:=(by simp[World.frozen?,hx5]);have HX5:=aj hx5;have fK:=aj hrow;have hgD:W.grownBy W.drew none:=⟨rfl,rfl,rfl,ac2 _,λj hj _=>rfl⟩;clear hG hx5 hrow hnil hat;have hl5:w.heap.size<W.heap.size:=(ac0.1 (ah HX5)).1;have hl6:x6<W.heap.size:=(ac0.1 (ah HG).x6).1;have hlG:G<W.heap.size:=(ac0.1 (ah HG).g).1;have Qn:Hid (∀W2 W3,W.grownBy W2 none->W2.grownBy W3 v5.ownBlock->W3.heap[w.heap.size]?=W.heap[w.heap.size]?/\W3.heap[p]?=W.heap[p]?/\W3.heap[x6]?=W.heap[x6]?/\W3.heap[G]?=W.heap[G]?):=λW2 W3 hg hg3=>by
    have hk:∀(j:Nat) (cur:Array Value) (t:TypeId) (x:Nat×Nat),W.heap[j]?=some (.cells cur t x)->t≠224->W3.heap[j]?=W.heap[j]?:=λj cur t x h1 h2=>by
     have hjl:=(ac0.1 h1).1;refine(hg3.block j (ac8 hjl hg.size) (λe=>?_)).trans (hg.block j hjl (by simp));rcases(ah fK).2 with⟨rfl,_⟩|⟨g,cap,cur',rfl,hb,hgb,_⟩
     ·cases e
     ·simp only[Value.ownBlock,ai0]at e;subst e;rw[h1]at hgb;cases hgb;exact h2 rfl
    exact⟨hk _ _ _ _ (ah HX5) (by decide),hk _ _ _ _ (ah HP) (by decide),hk _ _ _ _ (ah HG).x6 (by decide),hk _ _ _ _ (ah HG).g (by decide)⟩
   rcases ha with rfl|rfl|rfl
   ·gi_wp2
    refine jV ?_;have hS0:W.drew.heap[w.heap.size]?=W.heap[w.heap.size]?/\W.drew.heap[p]?=W.heap[p]?/\W.drew.heap[x6]?=W.heap[x6]?/\W.drew.heap[G]?=W.heap[G]?:=⟨rfl,rfl,rfl,rfl⟩;refine pR (λW'=>W'.heap[w.heap.size]?=W.heap[w.heap.size]?/\W'.heap[p]?=W.heap[p]?/\W'.heap[x6]?=W.heap[x6]?/\W'.heap[G]?=W.heap[G]?) 12 13 #[false,false,false,false,false,false,false,false,false,false,false,false,false] (by kernel_rfl) rfl rfl (by kernel_rfl) (by rintro⟨_,_,h,_⟩;cases h) ?_;refine tL 0 (v5) (λw' hS=>?_) hS0 ?_
    ·obtain⟨s1,s2,s3,s4⟩:=hS;have e1:=(ae0 s1).trans hc5
     go_simp
    simp only[aC];refine tL 1 (.int .i64 k) (λw' hS=>?_) hS0 ?_
    ·go_simp
    simp only[aC];refine tL 2 (.pointer (some ⟨p,0,none⟩)) (λw' hS=>?_) hS0 ?_
    ·go_simp
    simp only[aC];refine tL 3 (.bool qi) (λw' hS=>?_) hS0 ?_
    ·obtain⟨s1,s2,s3,s4⟩:=hS;have e1:=(ae0 s2).trans p0
     go_simp
    simp only[aC];refine tL 4 (.agg #[.int .i64 k,.bool qi]) (λw' hS=>?_) hS0 ?_
    ·go_simp
    simp only[aC];refine tL 5 (.slice (some ⟨G,0,none⟩) Us.length Us.length) (λw' hS=>?_) hS0 ?_
    ·obtain⟨s1,s2,s3,s4⟩:=hS;have e1:=(ae0 s3).trans G9
     go_simp
    simp only[aC];refine tL 6 (.int .i64 k) (λw' hS=>?_) hS0 ?_
    ·go_simp
    simp only[aC];refine tL 7 (.pointer (some ⟨G,k*3,none⟩)) (λw' hS=>?_) hS0 ?_
    ·go_simp
    simp only[aC];refine tL 8 (.agg #[.int .u8 61,.int .i64 ux,.int .i64 uy]) (λw' hS=>?_) hS0 ?_
    ·obtain⟨s1,s2,s3,s4⟩:=hS;have e1:=(ae0 s4).trans g0;have e2:=(ae0 s4).trans g1;have e3:=(ae0 s4).trans g2
     go_simp
    simp only[aC];refine tL 9 (.agg #[.int .i64 k,.bool qi,.int .u8 61,.int .i64 ux,.int .i64 uy]) (λw' hS=>?_) hS0 ?_
    ·go_simp
    simp only[aC];have hgA:W.drew.grownBy (W.drew.alloc (.cells #[.int .i64 k,.bool qi,.int .u8 61,.int .i64 ux,.int .i64 uy] 224)) none:=ac1 _ _ none;have hgB:W.grownBy (W.drew.alloc (.cells #[.int .i64 k,.bool qi,.int .u8 61,.int .i64 ux,.int .i64 uy] 224)) none:=hgD.trans hgA;refine oL 10 (λK hK=>?_);go_simp;replace hS0:=And.intro (hgB.block _ hl5 (by simp)) (And.intro (hgB.block _ hpl (by simp)) (And.intro (hgB.block _ hl6 (by simp)) (hgB.block _ hlG (by simp))));refine hK.out _ _ (λ_=>hS0) ?_;clear hK K;refine oL 11 (λK hK=>?_);refine lC (.tmp 27) (.tmp 37) 165 rfl w.heap.size 224 i0 _ 5 40 underlying165 hin hz0 hz1 hz2 rfl (by decide) v5 ss.length (wR ss) rfl (by exact ap2 (by exact ah fK) _) ⟨W.heap.size,0,none⟩ 1 1 (Df (k,qi,61,ux,uy)) rfl rfl (yA _ _ _ _ _ _ _ _ rfl) (Tc _) (by unfold maxLen;omega) (by omega) (by simp[World.drew];omega) ?_;intro v' w3 hown' hg3;obtain⟨g',cap',hv'⟩:=dM hown' (ak4 _);subst hv';replace hS0:=ah Qn _ _ hgB hg3;refine hK.out _ _ (λ_=>hS0) ?_;clear hK K;have hx3:=Aj.mid (ah HX5) hgB hg3 (ah fK);have hc3:w3.cell? ⟨w.heap.size,0,none⟩=some v5:=(by rw[cell_of hx3];rfl);have hf3:w3.frozen? ⟨w.heap.size,0,none⟩=false:=(by simp[World.frozen?,hx3]);refine oL 12 (λK hK=>?_);go_simp;refine hK.out _ _ (λh=>absurd rfl h) (jC (by kernel_rfl) ?_ _);clear hK K;have hsz:W.heap.size<=(w3.setCell ⟨w.heap.size,0,none⟩ (.slice (some ⟨g',0,none⟩) (ss.length+1) cap')).heap.size:=by
     have h2:W.heap.size<=w3.heap.size:=ae4 hgB.size hg3.size;simp only[World.setCell,Array.size_modify];exact h2
    exact⟨rfl,ah (ah dh) ⟨#[],[]⟩ _ hsz (Aj.keeps (ah HX5) hgB hg3 (ah fK)) ((ah HG).app (s:=(k,qi,61,ux,uy)) (ah HX5) hgB hg3 (ah fK) hown' (by simp))⟩
   ·gi_wp2
    refine jV ?_;have hS0:W.drew.heap[w.heap.size]?=W.heap[w.heap.size]?/\W.drew.heap[p]?=W.heap[p]?/\W.drew.heap[x6]?=W.heap[x6]?/\W.drew.heap[G]?=W.heap[G]?:=⟨rfl,rfl,rfl,rfl⟩;refine pR (λW'=>W'.heap[w.heap.size]?=W.heap[w.heap.size]?/\W'.heap[p]?=W.heap[p]?/\W'.heap[x6]?=W.heap[x6]?/\W'.heap[G]?=W.heap[G]?) 12 13 #[false,false,false,false,false,false,false,false,false,false,false,false,false] (by kernel_rfl) rfl rfl (by kernel_rfl) (by rintro⟨_,_,h,_⟩;cases h) ?_;refine tL 0 (v5) (λw' hS=>?_) hS0 ?_
    ·obtain⟨s1,s2,s3,s4⟩:=hS;have e1:=(ae0 s1).trans hc5
     go_simp
    simp only[aC];refine tL 1 (.int .i64 k) (λw' hS=>?_) hS0 ?_
    ·go_simp
    simp only[aC];refine tL 2 (.pointer (some ⟨p,0,none⟩)) (λw' hS=>?_) hS0 ?_
    ·go_simp
    simp only[aC];refine tL 3 (.bool qi) (λw' hS=>?_) hS0 ?_
    ·obtain⟨s1,s2,s3,s4⟩:=hS;have e1:=(ae0 s2).trans p0
     go_simp
    simp only[aC];refine tL 4 (.agg #[.int .i64 k,.bool qi]) (λw' hS=>?_) hS0 ?_
    ·go_simp
    simp only[aC];refine tL 5 (.slice (some ⟨G,0,none⟩) Us.length Us.length) (λw' hS=>?_) hS0 ?_
    ·obtain⟨s1,s2,s3,s4⟩:=hS;have e1:=(ae0 s3).trans G9
     go_simp
    simp only[aC];refine tL 6 (.int .i64 k) (λw' hS=>?_) hS0 ?_
    ·go_simp
    simp only[aC];refine tL 7 (.pointer (some ⟨G,k*3,none⟩)) (λw' hS=>?_) hS0 ?_
    ·go_simp
    simp only[aC];refine tL 8 (.agg #[.int .u8 80,.int .i64 ux,.int .i64 uy]) (λw' hS=>?_) hS0 ?_
    ·obtain⟨s1,s2,s3,s4⟩:=hS;have e1:=(ae0 s4).trans g0;have e2:=(ae0 s4).trans g1;have e3:=(ae0 s4).trans g2
     go_simp
    simp only[aC];refine tL 9 (.agg #[.int .i64 k,.bool qi,.int .u8 80,.int .i64 ux,.int .i64 uy]) (λw' hS=>?_) hS0 ?_
    ·go_simp
    simp only[aC];have hgA:W.drew.grownBy (W.drew.alloc (.cells #[.int .i64 k,.bool qi,.int .u8 80,.int .i64 ux,.int .i64 uy] 224)) none:=ac1 _ _ none;have hgB:W.grownBy (W.drew.alloc (.cells #[.int .i64 k,.bool qi,.int .u8 80,.int .i64 ux,.int .i64 uy] 224)) none:=hgD.trans hgA;refine oL 10 (λK hK=>?_);go_simp;replace hS0:=And.intro (hgB.block _ hl5 (by simp)) (And.intro (hgB.block _ hpl (by simp)) (And.intro (hgB.block _ hl6 (by simp)) (hgB.block _ hlG (by simp))));refine hK.out _ _ (λ_=>hS0) ?_;clear hK K;refine oL 11 (λK hK=>?_);refine lC (.tmp 27) (.tmp 37) 165 rfl w.heap.size 224 i0 _ 5 40 underlying165 hin hz0 hz1 hz2 rfl (by decide) v5 ss.length (wR ss) rfl (by exact ap2 (by exact ah fK) _) ⟨W.heap.size,0,none⟩ 1 1 (Df (k,qi,80,ux,uy)) rfl rfl (yA _ _ _ _ _ _ _ _ rfl) (Tc _) (by unfold maxLen;omega) (by omega) (by simp[World.drew];omega) ?_;intro v' w3 hown' hg3;obtain⟨g',cap',hv'⟩:=dM hown' (ak4 _);subst hv';replace hS0:=ah Qn _ _ hgB hg3;refine hK.out _ _ (λ_=>hS0) ?_;clear hK K;have hx3:=Aj.mid (ah HX5) hgB hg3 (ah fK);have hc3:w3.cell? ⟨w.heap.size,0,none⟩=some v5:=(by rw[cell_of hx3];rfl);have hf3:w3.frozen? ⟨w.heap.size,0,none⟩=false:=(by simp[World.frozen?,hx3]);refine oL 12 (λK hK=>?_);go_simp;refine hK.out _ _ (λh=>absurd rfl h) (jC (by kernel_rfl) ?_ _);clear hK K;have hsz:W.heap.size<=(w3.setCell ⟨w.heap.size,0,none⟩ (.slice (some ⟨g',0,none⟩) (ss.length+1) cap')).heap.size:=by
     have h2:W.heap.size<=w3.heap.size:=ae4 hgB.size hg3.size;simp only[World.setCell,Array.size_modify];exact h2
    exact⟨rfl,ah (ah dh) ⟨#[],[]⟩ _ hsz (Aj.keeps (ah HX5) hgB hg3 (ah fK)) ((ah HG).app (s:=(k,qi,80,ux,uy)) (ah HX5) hgB hg3 (ah fK) hown' (by simp))⟩
   ·gi_wp2
    refine jV ?_;have hS0:W.drew.heap[w.heap.size]?=W.heap[w.heap.size]?/\W.drew.heap[p]?=W.heap[p]?/\W.drew.heap[x6]?=W.heap[x6]?/\W.drew.heap[G]?=W.heap[G]?:=⟨rfl,rfl,rfl,rfl⟩;refine pR (λW'=>W'.heap[w.heap.size]?=W.heap[w.heap.size]?/\W'.heap[p]?=W.heap[p]?/\W'.heap[x6]?=W.heap[x6]?/\W'.heap[G]?=W.heap[G]?) 12 13 #[false,false,false,false,false,false,false,false,false,false,false,false,false] (by kernel_rfl) rfl rfl (by kernel_rfl) (by rintro⟨_,_,h,_⟩;cases h) ?_;refine tL 0 (v5) (λw' hS=>?_) hS0 ?_
    ·obtain⟨s1,s2,s3,s4⟩:=hS;have e1:=(ae0 s1).trans hc5
     go_simp
    simp only[aC];refine tL 1 (.int .i64 k) (λw' hS=>?_) hS0 ?_
    ·go_simp
    simp only[aC];refine tL 2 (.pointer (some ⟨p,0,none⟩)) (λw' hS=>?_) hS0 ?_
    ·go_simp
    simp only[aC];refine tL 3 (.bool qi) (λw' hS=>?_) hS0 ?_
    ·obtain⟨s1,s2,s3,s4⟩:=hS;have e1:=(ae0 s2).trans p0
     go_simp
    simp only[aC];refine tL 4 (.agg #[.int .i64 k,.bool qi]) (λw' hS=>?_) hS0 ?_
    ·go_simp
    simp only[aC];refine tL 5 (.slice (some ⟨G,0,none⟩) Us.length Us.length) (λw' hS=>?_) hS0 ?_
    ·obtain⟨s1,s2,s3,s4⟩:=hS;have e1:=(ae0 s3).trans G9
     go_simp
    simp only[aC];refine tL 6 (.int .i64 k) (λw' hS=>?_) hS0 ?_
    ·go_simp
    simp only[aC];refine tL 7 (.pointer (some ⟨G,k*3,none⟩)) (λw' hS=>?_) hS0 ?_
    ·go_simp
    simp only[aC];refine tL 8 (.agg #[.int .u8 81,.int .i64 ux,.int .i64 uy]) (λw' hS=>?_) hS0 ?_
    ·obtain⟨s1,s2,s3,s4⟩:=hS;have e1:=(ae0 s4).trans g0;have e2:=(ae0 s4).trans g1;have e3:=(ae0 s4).trans g2
     go_simp
    simp only[aC];refine tL 9 (.agg #[.int .i64 k,.bool qi,.int .u8 81,.int .i64 ux,.int .i64 uy]) (λw' hS=>?_) hS0 ?_
    ·go_simp
    simp only[aC];have hgA:W.drew.grownBy (W.drew.alloc (.cells #[.int .i64 k,.bool qi,.int .u8 81,.int .i64 ux,.int .i64 uy] 224)) none:=ac1 _ _ none;have hgB:W.grownBy (W.drew.alloc (.cells #[.int .i64 k,.bool qi,.int .u8 81,.int .i64 ux,.int .i64 uy] 224)) none:=hgD.trans hgA;refine oL 10 (λK hK=>?_);go_simp;replace hS0:=And.intro (hgB.block _ hl5 (by simp)) (And.intro (hgB.block _ hpl (by simp)) (And.intro (hgB.block _ hl6 (by simp)) (hgB.block _ hlG (by simp))));refine hK.out _ _ (λ_=>hS0) ?_;clear hK K;refine oL 11 (λK hK=>?_);refine lC (.tmp 27) (.tmp 37) 165 rfl w.heap.size 224 i0 _ 5 40 underlying165 hin hz0 hz1 hz2 rfl (by decide) v5 ss.length (wR ss) rfl (by exact ap2 (by exact ah fK) _) ⟨W.heap.size,0,none⟩ 1 1 (Df (k,qi,81,ux,uy)) rfl rfl (yA _ _ _ _ _ _ _ _ rfl) (Tc _) (by unfold maxLen;omega) (by omega) (by simp[World.drew];omega) ?_;intro v' w3 hown' hg3;obtain⟨g',cap',hv'⟩:=dM hown' (ak4 _);subst hv';replace hS0:=ah Qn _ _ hgB hg3;refine hK.out _ _ (λ_=>hS0) ?_;clear hK K;have hx3:=Aj.mid (ah HX5) hgB hg3 (ah fK);have hc3:w3.cell? ⟨w.heap.size,0,none⟩=some v5:=(by rw[cell_of hx3];rfl);have hf3:w3.frozen? ⟨w.heap.size,0,none⟩=false:=(by simp[World.frozen?,hx3]);refine oL 12 (λK hK=>?_);go_simp;refine hK.out _ _ (λh=>absurd rfl h) (jC (by kernel_rfl) ?_ _);clear hK K;have hsz:W.heap.size<=(w3.setCell ⟨w.heap.size,0,none⟩ (.slice (some ⟨g',0,none⟩) (ss.length+1) cap')).heap.size:=by
     have h2:W.heap.size<=w3.heap.size:=ae4 hgB.size hg3.size;simp only[World.setCell,Array.size_modify];exact h2
    exact⟨rfl,ah (ah dh) ⟨#[],[]⟩ _ hsz (Aj.keeps (ah HX5) hgB hg3 (ah fK)) ((ah HG).app (s:=(k,qi,81,ux,uy)) (ah HX5) hgB hg3 (ah fK) hown' (by simp))⟩
  ·have hat:isAtom uc=false:=(by simpa[isAtom]using ha);rw[hat]at dh;simp only[am4,am7,ak5]at dh;have h1:¬uc=61:=λe=>ha (Or.inl e);have h2:¬uc=80:=λe=>ha (Or.inr (Or.inl e));have h3:¬uc=81:=λe=>ha (Or.inr (Or.inr e));clear hG ha hat
   gi_wp2
   exact ah (ah dh) _ _ (ac2 _) (λ_ _ h _ _=>h) (ah HG)
 case done=>
  intro D W hD hI hdef;have hI2:=hown.putObj (.deferred none) hI hD hdef rfl;have hln:((List.range Us.length).map λx=>#[kR x,uH τ x]).length=Us.length:=by simp
  rw[hln]at hI hI2;obtain⟨v5,hx5,ET,Yf⟩:=hI.g.x5;have hc5:W.cell? ⟨w.heap.size,0,none⟩=some v5:=by rw[cell_of hx5];rfl
  gi_wp2
  refine⟨by simp,.inl ⟨_,_,rfl,ai9 hdef,?_⟩⟩;refine⟨_,an2 rfl _ _ _,v5,rfl,?_,hI2.g.below⟩;obtain⟨v6,G9,tZ,JE⟩:=hI2.g.x5;have e56:v6=v5:=by
   have hne:D≠w.heap.size:=(by have:=(ac0.1 hx5).1;omega);have:(W.putObj D (.deferred none)).heap[w.heap.size]?=W.heap[w.heap.size]?:=ae6 (λe=>hne e.symm);rw[this,hx5]at G9;simpa using G9.symm
  subst e56;exact vW tZ
end Go.Proofs.YthcppbmkacbbiaaGreat
