import Derived.Test.YthcppbmkacbbiabGreatWBK
set_option linter.unusedSimpArgs false
set_option maxHeartbeats 4000000
set_option maxRecDepth 100000
namespace Go.Proofs.YthcppbmkacbbiabGreat
open Go.Proofs.Tryz
open Go.RowKit Go.Maps Go.WideMaps
open Sat (View Rule jk bG)
open aB (Key put isAtom)
attribute [local go_sem] Oper.semAt_some
def wQ(ss:List jH):List Value:=ss.flatMap Dv
theorem OC(ss:List jH)(s:jH):wQ (ss++[s])=wQ ss++Dv s:=by simp[wQ]
theorem CZ:(prog.info? 210).map (λi=>(i.zero,i.size,i.bytes))=some (some (.agg #[.int .i64 0,.bool false,.int .u8 0,.int .i64 0,.int .i64 0]),5,40):=by kernel_rfl
structure Aw(w:World)(G X6 U:Nat)(jO:Array Value)(ss:List jH)(W:World):Prop where
 x5:∃v,W.heap[w.heap.size]?=some (.cells #[v] 133 (0,0))/\W.ownsRow w.heap.size 210 5 v ss.length (wQ ss)/\(v=.slice none 0 0↔ss=[])
 x6:W.heap[X6]?=some (.cells #[.slice (some ⟨G,0,none⟩) U U] 44 (0,0))
 g:W.heap[G]?=some (.cells jO 82 (0,0))
 below:Below w.heap.size w W
theorem Aw.grow{w:World}{G X6 U:Nat}{jO:Array Value}{ss:List jH}{W W':World}{row:Option Nat}(h:Aw w G X6 U jO ss W)(hg:W.grownBy W' row)(hr:∀r,row=some r->w.heap.size<=r/\∃o:Obj,W.heap[r]?=some o/\o.isCells=false):Aw w G X6 U jO ss W':=by
 obtain⟨v,h1,h2,h3⟩:=h.x5;have hr':∀r,row=some r->∃o:Obj,W.heap[r]?=some o/\o.isCells=false:=λr e=>(hr r e).2;have keep:∀(j:Nat) (cur:Array Value) (t:TypeId) (x:Nat×Nat),W.heap[j]?=some (.cells cur t x)->W'.heap[j]?=some (.cells cur t x):=λj cur t x hj=>by
  refine(hg.block j (ad3.1 hj).1 (λe=>?_)).trans hj;obtain⟨o,ho,hc⟩:=hr' j e.symm;rw[hj]at ho;cases ho;cases hc
 exact⟨⟨v,keep _ _ _ _ h1,jm h2 hg hr',h3⟩,keep _ _ _ _ h.x6,keep _ _ _ _ h.g,h.below.grown hg h.below.size (λk e=>(hr k e).1)⟩
theorem Aw.keeps{w:World}{W W2 W3:World}{v v':Value}{ss:List jH}(hx:W.heap[w.heap.size]?=some (.cells #[v] 133 (0,0)))(hg:W.grownBy W2 none)(hg3:W2.grownBy W3 v.ownBlock)
 (hr:W.ownsRow w.heap.size 210 5 v ss.length (wQ ss)):∀(j:Nat) (o:Obj),W.heap[j]?=some o->(∀cur x,o≠Obj.cells cur 210 x)->(∀cur x,o≠Obj.cells cur 133 x)->(W3.setCell ⟨w.heap.size,0,none⟩ v').heap[j]?=some o:=by
 intro j o h1 h2 h3;have hjl:=(ad3.1 h1).1;have hj5:j≠w.heap.size:=λe=>by
  subst e;rw[hx]at h1;cases h1;exact h3 _ _ rfl
 rw[af4 _ _ _ _ hj5];refine(hg3.block j (af5 hjl hg.size) (λe=>?_)).trans ((hg.block j hjl (by simp)).trans h1);rcases hr.2 with⟨rfl,_⟩|⟨g,cap,cur,rfl,hb,hgb,_⟩
 ·cases e
 ·simp only[Value.ownBlock,ai4]at e;subst e;rw[h1]at hgb;cases hgb;exact h2 _ _ rfl
theorem Aw.mid{w:World}{ss:List jH}{W W2 W3:World}{v:Value}(hx:W.heap[w.heap.size]?=some (.cells #[v] 133 (0,0)))(hg:W.grownBy W2 none)(hg3:W2.grownBy W3 v.ownBlock)
 (hr:W.ownsRow w.heap.size 210 5 v ss.length (wQ ss)):W3.heap[w.heap.size]?=some (.cells #[v] 133 (0,0)):=by
 have hjl:=(ad3.1 hx).1;refine(hg3.block _ (af5 hjl hg.size) (λe=>?_)).trans ((hg.block _ hjl (by simp)).trans hx);rcases hr.2 with⟨rfl,_⟩|⟨g,cap,cur,rfl,hb,hgb,_⟩
 ·cases e
 ·simp only[Value.ownBlock,ai4]at e;rw[<-e,hx]at hgb;simp at hgb
theorem Aw.app{w:World}{G X6 U:Nat}{jO:Array Value}{ss:List jH}{W W2 W3:World}{v v':Value}{s:jH}(h:Aw w G X6 U jO ss W)(hx:W.heap[w.heap.size]?=some (.cells #[v] 133 (0,0)))(hg:W.grownBy W2 none)(hg3:W2.grownBy W3 v.ownBlock)
 (hr:W.ownsRow w.heap.size 210 5 v ss.length (wQ ss))(hr3:W3.ownsRow w.heap.size 210 5 v' (ss.length+1) (wQ ss++Dv s))(hn:v'≠.slice none 0 0):Aw w G X6 U jO (ss++[s]) (W3.setCell ⟨w.heap.size,0,none⟩ v'):=by
 have keep:=Aw.keeps (v':=v') hx hg hg3 hr;have k5:=Aw.mid hx hg hg3 hr;refine⟨⟨v',by rw[heap_setCell_same k5];rfl,?_,?_⟩,keep _ _ h.x6 (λcur x e=>by simp at e) (λcur x e=>by simp at e),keep _ _ h.g (λcur x e=>by simp at e) (λcur x e=>by simp at e),?_⟩
 ·rw[af8,OC];refine hr3.kept (grownBy_setCell' W3 w.heap.size _) ?_;rcases hr3.2 with⟨e,_⟩|⟨g,cap,cur,rfl,hb,hgb,_⟩
  ·exact absurd e hn
  ·refine Or.inr (λe=>?_);simp only[Value.ownBlock,ai4]at e;rw[show g=w.heap.size by omega,k5]at hgb;simp at hgb
 ·constructor
  ·intro e;exact absurd e hn
  ·intro e;simp at e
 ·refine((h.below.grown hg h.below.size (λk e=>by cases e)).grown hg3 (by have:=h.below.size;have:=hg.size;omega) (λk e=>(hr.lt k e).1)).setCell (ad5 _) _
theorem Lh{τ:List Tr}{U:Nat}(hn:(τ.map (·.1)).Nodup)(hlt:∀q∈τ,q.1<U)(hall:∀x,x<U->kX τ x=true):XO (λx _=>(x:Int)) τ (List.range U):=by
 refine⟨?_,λi j hi hj hij=>?_⟩
 ·rw[List.perm_ext_iff_of_nodup List.nodup_range hn];intro x;rw[aj2];constructor
  ·intro hx;have:=hall x hx;refine ah3 λhm=>?_;unfold kX at this;rw[jA.2 hm]at this;cases this
  ·intro hx;obtain⟨q,hq,rfl⟩:=af9.1 hx;exact hlt q hq
 ·simp only[List.getElem_range];omega
theorem vY{W:World}{base:Nat}{v:Value}{ss:List jH}(h:W.ownsRow base 210 5 v ss.length (wQ ss)):fV W v ss:=by
 rcases h.2 with⟨rfl,e0⟩|⟨g,cap,cur,rfl,hb,hgb,h1,h2,h3,h4⟩
 ·refine⟨none,0,by rw[e0],by omega,λhne=>?_⟩;have:ss=[]:=ah4 e0;exact absurd this hne
 ·refine⟨_,cap,rfl,by omega,λhne=>⟨g,0,cur,(0,0),rfl,hgb,λi hi j hj=>?_⟩⟩;have h5:(cur.toList.take (ss.length*5))[i*5+j]?=(wQ ss)[i*5+j]?:=by rw[h4]
  rw[an2,af6 (by omega)]at h5;rw[show cur[0+i*5+j]?=cur.toList[i*5+j]? by simp,h5];exact flat_get (k:=5) (λ_=>rfl) (by decide) ss i hi j hj
theorem yG(w:World)(x:Nat)(i:Bool)(c:Int)(a b:Nat)(t:TypeId)(n:Nat)(hn:w.heap.size=n):∀j u,(Dv (x,i,c,a,b))[j]?=some u->(w.alloc (.cells #[.int .i64 x,.bool i,.int .u8 c,.int .i64 a,.int .i64 b] t)).cell? ((⟨n,0,none⟩:Addr).add j)=some u:=by
 subst hn;intro j u hj
 match j,hj with
 |0,hj=>simp[Dv]at hj;subst hj;simp[go_sem,Addr.add]
 |1,hj=>simp[Dv]at hj;subst hj;simp[go_sem,Addr.add]
 |2,hj=>simp[Dv]at hj;subst hj;simp[go_sem,Addr.add]
 |3,hj=>simp[Dv]at hj;subst hj;simp[go_sem,Addr.add]
 |4,hj=>simp[Dv]at hj;subst hj;simp[go_sem,Addr.add]
 |j+5,hj=>simp[Dv]at hj
theorem Ua(s:jH):∀v∈Dv s,v.oneCell'=true:=by
 intro v hv;simp[Dv]at hv;rcases hv with rfl|rfl|rfl|rfl|rfl<;>rfl
structure XM(w:World)(G X6 M m:Nat)(Us:List Key)(jO:Array Value)(τ:List Tr)(k:Nat)(W:World):Prop where
 g:Aw w G X6 Us.length jO (rC Us τ k) W
 mb:W.heap[M]?=some (.cells #[.map (some m)] 128 (0,0))
theorem XM.fin{w:World}{G X6 M m:Nat}{Us:List Key}{jO:Array Value}{τ:List Tr}{k:Nat}{W W':World}{B0:Nat}{a:Act}(hI:XM w G X6 M m Us jO τ k W)
 (hsz:W.heap.size<=W'.heap.size)(hR:∀(j:Nat) (o:Obj),W.heap[j]?=some o->(∀cur x,o≠Obj.cells cur 210 x)->(∀cur x,o≠Obj.cells cur 133 x)->W'.heap[j]?=some o)
 (hG:Aw w G X6 Us.length jO (rC Us τ (k+1)) W')(hm:m<w.heap.size) :
  fP B0 (SB B0 M m) (XM w G X6 M m Us jO τ (k+1)) W .normal a W':=by
 have hMb:W'.heap[M]?=some (.cells #[.map (some m)] 128 (0,0)):=hR M _ hI.mb (λcur x e=>by simp at e) (λcur x e=>by simp at e);refine⟨⟨hsz,λj o hj ho hc=>hR j o ho (λcur x e=>by rw[e]at hc;cases hc) (λcur x e=>by rw[e]at hc;cases hc)⟩,⟨λj cur x hj hx=>hR j _ hx (λcur x e=>by simp at e) (λcur x e=>by simp at e),hMb.trans hI.mb.symm,?_⟩,⟨hG,hMb⟩⟩;exact(hG.below.block m hm).trans (hI.g.below.block m hm).symm
theorem oV(w:World)(lb BU m:Nat)(ms:Option Nat)(rv:Value)(Us:List Key)(τ:List Tr)(hL:nY w lb (some BU) ms rv)(hM:aH w 82 BU aS Us)(hnd:Us.Nodup)(hU:Us.length<=500)(hv:∀x∈Us,∃l,keyOf prog 82 (aS x)=some l)
 (hB:kU w m τ)(hlt:∀q∈τ,q.1<Us.length)(hall:∀x,x<Us.length->kX τ x=true) :
  Calls prog 63 #[.pointer (some ⟨lb,0,none⟩),.map (some m)] w λe w'=>∃v,e=.returned v/\fV w' v (fA Us τ)/\Below w.heap.size w w':=by
 refine(ag4 (n:=8)).1 ?_;obtain⟨i0,hin,hz0,hz1,hz2⟩:=ak7 CZ;obtain⟨c0,_,_⟩:=hL.cells;have hlb:=hL.lt;have hrk:=Lh hB.nodup hlt hall;have hτl:τ.length<=500:=by
  have:=hrk.perm.length_eq;simp at this;omega
 have hls:=Bh BU Us (w.alloc (.cells #[.slice none 0 0] 133)) (by omega) hnd (hM.kept (ae3 _ _ _ hM.lt)) hv;have HB:=aj hB;have gB:=aj hall;have HLT:=aj hlt;clear hL hM hB hall hlt hnd;refine ai6 func63 rfl trivial ?_ rfl;simp only[ntmps63,ae2,ae1,ae8,Nat.reduceAdd,Nat.reduceSub,ae0,ad9,ae4,ag1,ae7,ae6]
 gi_wp2
 refine⟨trivial,(ag4.2 hls).mono ?_⟩;rintro e w1 ⟨G,rfl,hG,hb1,hrow⟩;have hlB:=(ah HB).lt;obtain⟨jO,hcG,hcell⟩:∃jO:Array Value,w1.heap[G]?=some (.cells jO 82 (0,0))/\∀i (hi:i<Us.length) j,j<3->jO[i*3+j]?=(iR Us[i])[j]?:=by
  rcases hrow.2 with⟨h0,_⟩|⟨g,cap,cur,hv0,hb0,hgb,h1,h2,h3,h4⟩
  ·cases h0
  ·cases hv0;refine⟨cur,hgb,λi hi j hj=>?_⟩;have h5:(cur.toList.take (Us.length*3))[i*3+j]?=(Us.flatMap iR)[i*3+j]?:=(by rw[h4]);rw[an2,af6 (by omega)]at h5;rw[show cur[i*3+j]?=cur.toList[i*3+j]? by simp,h5];exact flat_get (k:=3) (λ_=>rfl) (by decide) Us i hi j hj
 have hx5:w1.heap[w.heap.size]?=some (.cells #[.slice none 0 0] 133 (0,0)):=by
  rw[hb1.block _ (by simp),ae9]
 have yY:Below w.heap.size w w1:=((ag6 _ w).alloc (ad5 _) _).trans (hb1.mono (by simp));have hs1:w.heap.size+1<=w1.heap.size:=by have:=hb1.size;simpa using this
 have SL:=aj hcell;clear hls hrow hcell
 gi_wp2
 obtain⟨wr,hwr⟩:∃wr,w1.alloc (.cells #[.slice (some ⟨G,0,none⟩) Us.length Us.length] 44)=wr:=⟨_,rfl⟩;have hgr:w1.grownBy wr none:=by rw[<-hwr];exact ad4 _ _ none
 have hsr:w1.heap.size+1<=wr.heap.size:=by rw[<-hwr];simp
 have hG0:Aw w G w1.heap.size Us.length jO [] wr:=by
  refine⟨⟨.slice none 0 0,(hgr.block _ (by omega) (by simp)).trans hx5,am9 _ _ _ _,by simp⟩,by rw[<-hwr,ae9],(hgr.block _ (ad3.1 hcG).1 (by simp)).trans hcG,yY.grown hgr yY.size (λk e=>by cases e)⟩
 rw[hwr];clear hwr hx5 hcG hgr yY hb1;refine⟨trivial,(ag4.2 (yx 122 m wr)).mono ?_⟩;rintro e w3 ⟨rfl,t3,rfl⟩
 gi_wp2
 obtain⟨w2,hw2⟩:∃w2,(wr.alloc (.cells #[.map (some m)] 128)).alloc (.cells #[.func (.func 122) #[] #[]] t3)=w2:=⟨_,rfl⟩;have hg2:wr.grownBy w2 none:=by rw[<-hw2];exact(ad4 _ _ none).trans (ad4 _ _ none)
 have hs2:wr.heap.size+2<=w2.heap.size:=by rw[<-hw2];simp
 have hM2:w2.heap[wr.heap.size]?=some (.cells #[.map (some m)] 128 (0,0)):=by rw[<-hw2,ae3 _ _ _ (by simp),ae9]
 have hR2:w2.cell? ⟨wr.heap.size+1,0,none⟩=some (.func (.func 122) #[] #[]):=by rw[<-hw2];simp[go_sem]
 have hG2:Aw w G w1.heap.size Us.length jO [] w2:=hG0.grow hg2 (λr e=>by cases e);have hBM:kU w2 m τ:=(ah HB).kept (hG2.below.block m hlB);have hseq:=Bo 122 _ Cb (ar6 func122 (by kernel_rfl) rfl) τ (by omega) 7 (by omega) wr.heap.size (wr.heap.size+1) m w2.heap.size _ w2 (ad5 _) hrk (by rw[cell_of hM2];rfl) hR2 hBM;rw[hw2];have hI0:XM w G w1.heap.size wr.heap.size m Us jO τ 0 w2:=⟨hG2,hM2⟩;have hwr2:w.heap.size+2<=wr.heap.size:=by omega
 have hown:OwnFrom w2.heap.size (XM w G w1.heap.size wr.heap.size m Us jO τ):=by
  intro k W W' row hI hg hr;refine⟨hI.g.grow hg (λr e=>⟨by have:=(hr r e).1;omega,(hr r e).2⟩),(hg.block _ (ad3.1 hI.mb).1 (λe=>by have:=(hr _ e.symm).1;omega)).trans hI.mb⟩
 clear hw2 hG2 hM2 hR2 hBM hg2 hG0;have hx6:∃x6,x6=w1.heap.size:=⟨_,rfl⟩;obtain⟨x6,hx6⟩:=hx6;rw[<-hx6]at hI0 hown ⊢;have ac2:x6<w2.heap.size:=by omega
 clear hx6;refine bK rfl (by omega) rfl trivial (λ_ _=>by simp[go_sem]) hseq SB.trans ?_ (ag6 _ _) ?_ (XM w G x6 wr.heap.size m Us jO τ) hown hI0
  (λk a' W=>∃(hk:k<Us.length) (p:Nat) (q:Tr×Nat),mD τ k=some q/\W.heap[p]?=some (.cells #[.bool q.1.2.1,.int .i64 q.2,q.1.2.2.1] 215 (0,0))/\
   a'={tmps:=#[.pointer (some ⟨lb,0,none⟩),.map (some m),undef,undef,.slice none 0 0,.pointer (some ⟨w.heap.size,0,none⟩),.pointer (some ⟨x6,0,none⟩),.int .i64 k,.pointer (some ⟨p,0,none⟩),.pointer (some ⟨lb,0,none⟩),.pointer (some ⟨lb,0,none⟩),.pointer (some ⟨lb,0,none⟩),.map (some BU),.slice (some ⟨G,0,none⟩) Us.length Us.length,.map (some m),.func (.func 160) #[] #[.pointer (some ⟨wr.heap.size,0,none⟩),.pointer (some ⟨wr.heap.size+1,0,none⟩)],.int .i64 k,oC q.1 q.2,undef,undef,undef,undef,undef,undef,undef,undef,undef,undef,undef,undef,undef,undef,undef,undef,undef,undef,undef,undef,undef,undef],defers:=[]}) ?own ?assign ?body ?done
 ·intro W l o o' hlw ho hc hwk;refine⟨λj cur x hj hx=>(af0 (λe=>?_)).trans hx,af0 (by omega),af0 (by omega)⟩;subst e;rw[ho]at hx;cases hx;cases hc
 ·intro k hk;simp
 case own=>
  rintro k a' ⟨⟩ W W' row ⟨hk,p,q,hq,hp,e⟩ hg hr;refine⟨hk,p,q,hq,(hg.block p (ad3.1 hp).1 (λe2=>?_)).trans hp,e⟩;obtain⟨o,ho,hc⟩:=(hr p e2.symm).2;rw[hp]at ho;cases ho;cases hc
 case assign=>
  intro l k hk W K hI hK;have hk':k<Us.length:=by simpa using hk
  obtain⟨q,hq⟩:∃q,mD τ k=some q:=Option.isSome_iff_exists.1 (ah gB k hk');have e1:((List.range Us.length).map λx=>#[gV x,uN τ x])[k]'hk=#[gV k,oC q.1 q.2]:=by
   simp only[ak0,List.getElem_range]
   congr 2
   unfold uN;rw[hq]
  rw[e1];obtain⟨qp,ql,qc,hqs⟩:=(ah HB).shape q.1 (by
   obtain⟨_,hkl,h2⟩:=dG (q:=q.1) (k:=q.2) hq;rw[<-h2];exact ad8 _)
  have hK2:=λa' W' h1 h2 h3 p h4=>hK a' W' h1 h2 h3 ⟨hk',p,q,hq,h4⟩;have hmb:=(ad3.1 hI.mb).1;have hml:m<W.heap.size:=by have:=hI.g.below.size;omega
  have hIa:=(hown.alloc (.cells #[.bool q.1.2.1,.int .i64 q.2,q.1.2.2.1] 215) hI);clear hK;simp only[oC]at hK2 ⊢;obtain⟨⟨qx,qi,qv,qr⟩,t⟩:=q;simp only at hqs hK2 hIa ⊢;subst hqs;simp only[gV]at hK2 ⊢
  gi_wp2
  exact hK2 _ _ ((ao3 _ _).from _) ⟨λj cur x hj hx=>(ae3 _ _ _ (ad3.1 hx).1).trans hx,ae3 _ _ _ hmb,ae3 _ _ _ hml⟩ hIa W.heap.size ⟨ae9 _ _,rfl⟩
 case body=>
  rintro l k a' W hk hlw hI ⟨hk',p,q,hq,hp,rfl⟩;have hmem:q.1∈τ:=by
   obtain⟨_,hkl,h2⟩:=dG (q:=q.1) (k:=q.2) hq;rw[<-h2];exact ad8 _
  obtain⟨qp,ql,qc,hqs⟩:=(ah HB).shape q.1 hmem;have Zu:Jq τ k=q.1.2.1:=by unfold Jq;rw[hq]
  have Ij:W.cell? ⟨x6,0,none⟩=some (.slice (some ⟨G,0,none⟩) Us.length Us.length):=by rw[cell_of hI.g.x6];rfl
  have g0:W.cell? ⟨G,k*3,none⟩=some (.int .u8 Us[k].1):=by rw[cell_of hI.g.g];exact(ah SL k hk' 0 (by omega)).trans rfl
  have g1:W.cell? ⟨G,k*3+1,none⟩=some (.int .i64 Us[k].2.1):=by rw[cell_of hI.g.g];exact(ah SL k hk' 1 (by omega)).trans rfl
  have g2:W.cell? ⟨G,k*3+2,none⟩=some (.int .i64 Us[k].2.2):=by rw[cell_of hI.g.g];exact(ah SL k hk' 2 (by omega)).trans rfl
  have p0:W.cell? ⟨p,0,none⟩=some (.bool q.1.2.1):=by rw[cell_of hp];rfl
  have hpl:p<W.heap.size:=(ad3.1 hp).1;have hsl:=oW Us τ k;have hfin:Hid (∀(a:Act) (W':World),W.heap.size<=W'.heap.size->(∀(j:Nat) (o:Obj),W.heap[j]?=some o->(∀cur x,o≠Obj.cells cur 210 x)->(∀cur x,o≠Obj.cells cur 133 x)->W'.heap[j]?=some o)->Aw w G x6 Us.length jO (rC Us τ k++wR Us τ k) W'->fP w2.heap.size (SB w2.heap.size wr.heap.size m) (XM w G x6 wr.heap.size m Us jO τ (k+1)) W .normal a W'):=λa W' h1 h2 h3=>hI.fin h1 h2 (by rw[uS];exact h3) hlB;have hso:wR Us τ k=if isAtom Us[k].1=true then [(k,q.1.2.1,Us[k])]else []:=by
   unfold wR;rw[aG hk',Zu]
  rw[hso]at hfin;have hG:=hI.g;have hbd:(k:Int)<(Us.length:Int):=by omega
  simp only[oC];have HP:=aj hp;clear hI hI0 hown hseq hp hso Zu hmem hq;generalize Us[k]=u at hfin g0 g1 g2;generalize rC Us τ k=ss at hfin hG hsl;obtain⟨⟨qx,qi,qv,qr⟩,t⟩:=q;obtain⟨uc,ux,uy⟩:=u;simp only at hqs hfin p0 HP g0 g1 g2 ⊢;subst hqs;have cO:=aj hfin;have HG:=aj hG;clear hfin;by_cases ha:uc=61\/uc=80\/uc=81
  ·have hat:isAtom uc=true:=(by simpa[isAtom]using ha);rw[hat]at cO;simp only[al0]at cO;obtain⟨v5,hx5,hrow,hnil⟩:=hG.x5;have hc5:W.cell? ⟨w.heap.size,0,none⟩=some v5:=(by rw[cell_of hx5];rfl);have hf5:W.frozen? ⟨w.heap.size,0,none⟩=false:=(by simp[World.frozen?,hx5]);have HX5:=aj hx5;have eX:=aj hrow;have hgD:W.grownBy W.drew none:=⟨rfl,rfl,rfl,ad5 _,λj hj _=>rfl⟩;clear hG hx5 hrow hnil hat;have hl5:w.heap.size<W.heap.size:=(ad3.1 (ah HX5)).1;have hl6:x6<W.heap.size:=(ad3.1 (ah HG).x6).1;have hlG:G<W.heap.size:=(ad3.1 (ah HG).g).1;have QI:Hid (∀W2 W3,W.grownBy W2 none->W2.grownBy W3 v5.ownBlock->W3.heap[w.heap.size]?=W.heap[w.heap.size]?/\W3.heap[p]?=W.heap[p]?/\W3.heap[x6]?=W.heap[x6]?/\W3.heap[G]?=W.heap[G]?):=λW2 W3 hg hg3=>by
    have hk:∀(j:Nat) (cur:Array Value) (t:TypeId) (x:Nat×Nat),W.heap[j]?=some (.cells cur t x)->t≠210->W3.heap[j]?=W.heap[j]?:=λj cur t x h1 h2=>by
     have hjl:=(ad3.1 h1).1;refine(hg3.block j (af5 hjl hg.size) (λe=>?_)).trans (hg.block j hjl (by simp));rcases(ah eX).2 with⟨rfl,_⟩|⟨g,cap,cur',rfl,hb,hgb,_⟩
     ·cases e
     ·simp only[Value.ownBlock,ai4]at e;subst e;rw[h1]at hgb;cases hgb;exact h2 rfl
    exact⟨hk _ _ _ _ (ah HX5) (by decide),hk _ _ _ _ (ah HP) (by decide),hk _ _ _ _ (ah HG).x6 (by decide),hk _ _ _ _ (ah HG).g (by decide)⟩
   rcases ha with rfl|rfl|rfl
   ·gi_wp2
    refine jS ?_;have hS0:W.drew.heap[w.heap.size]?=W.heap[w.heap.size]?/\W.drew.heap[p]?=W.heap[p]?/\W.drew.heap[x6]?=W.heap[x6]?/\W.drew.heap[G]?=W.heap[G]?:=⟨rfl,rfl,rfl,rfl⟩;refine oZ (λW'=>W'.heap[w.heap.size]?=W.heap[w.heap.size]?/\W'.heap[p]?=W.heap[p]?/\W'.heap[x6]?=W.heap[x6]?/\W'.heap[G]?=W.heap[G]?) 12 13 #[false,false,false,false,false,false,false,false,false,false,false,false,false] (by kernel_rfl) rfl rfl (by kernel_rfl) (by rintro⟨_,_,h,_⟩;cases h) ?_;refine tL 0 (v5) (λw' hS=>?_) hS0 ?_
    ·obtain⟨s1,s2,s3,s4⟩:=hS;have e1:=(ae5 s1).trans hc5
     go_simp
    simp only[aC];refine tL 1 (.int .i64 k) (λw' hS=>?_) hS0 ?_
    ·go_simp
    simp only[aC];refine tL 2 (.pointer (some ⟨p,0,none⟩)) (λw' hS=>?_) hS0 ?_
    ·go_simp
    simp only[aC];refine tL 3 (.bool qi) (λw' hS=>?_) hS0 ?_
    ·obtain⟨s1,s2,s3,s4⟩:=hS;have e1:=(ae5 s2).trans p0
     go_simp
    simp only[aC];refine tL 4 (.agg #[.int .i64 k,.bool qi]) (λw' hS=>?_) hS0 ?_
    ·go_simp
    simp only[aC];refine tL 5 (.slice (some ⟨G,0,none⟩) Us.length Us.length) (λw' hS=>?_) hS0 ?_
    ·obtain⟨s1,s2,s3,s4⟩:=hS;have e1:=(ae5 s3).trans Ij
     go_simp
    simp only[aC];refine tL 6 (.int .i64 k) (λw' hS=>?_) hS0 ?_
    ·go_simp
    simp only[aC];refine tL 7 (.pointer (some ⟨G,k*3,none⟩)) (λw' hS=>?_) hS0 ?_
    ·go_simp
    simp only[aC];refine tL 8 (.agg #[.int .u8 61,.int .i64 ux,.int .i64 uy]) (λw' hS=>?_) hS0 ?_
    ·obtain⟨s1,s2,s3,s4⟩:=hS;have e1:=(ae5 s4).trans g0;have e2:=(ae5 s4).trans g1;have e3:=(ae5 s4).trans g2
     go_simp
    simp only[aC];refine tL 9 (.agg #[.int .i64 k,.bool qi,.int .u8 61,.int .i64 ux,.int .i64 uy]) (λw' hS=>?_) hS0 ?_
    ·go_simp
    simp only[aC];have hgA:W.drew.grownBy (W.drew.alloc (.cells #[.int .i64 k,.bool qi,.int .u8 61,.int .i64 ux,.int .i64 uy] 210)) none:=ad4 _ _ none;have hgB:W.grownBy (W.drew.alloc (.cells #[.int .i64 k,.bool qi,.int .u8 61,.int .i64 ux,.int .i64 uy] 210)) none:=hgD.trans hgA;refine oL 10 (λK hK=>?_);go_simp;replace hS0:=And.intro (hgB.block _ hl5 (by simp)) (And.intro (hgB.block _ hpl (by simp)) (And.intro (hgB.block _ hl6 (by simp)) (hgB.block _ hlG (by simp))));refine hK.out _ _ (λ_=>hS0) ?_;clear hK K;refine oL 11 (λK hK=>?_);refine kV (.tmp 27) (.tmp 37) 133 rfl w.heap.size 210 i0 _ 5 40 underlying133 hin hz0 hz1 hz2 rfl (by decide) v5 ss.length (wQ ss) rfl (by exact aq3 (by exact ah eX) _) ⟨W.heap.size,0,none⟩ 1 1 (Dv (k,qi,61,ux,uy)) rfl rfl (yG _ _ _ _ _ _ _ _ rfl) (Ua _) (by unfold maxLen;omega) (by omega) (by simp[World.drew];omega) ?_;intro v' w3 hown' hg3;obtain⟨g',cap',hv'⟩:=dL hown' (al7 _);subst hv';replace hS0:=ah QI _ _ hgB hg3;refine hK.out _ _ (λ_=>hS0) ?_;clear hK K;have hx3:=Aw.mid (ah HX5) hgB hg3 (ah eX);have hc3:w3.cell? ⟨w.heap.size,0,none⟩=some v5:=(by rw[cell_of hx3];rfl);have hf3:w3.frozen? ⟨w.heap.size,0,none⟩=false:=(by simp[World.frozen?,hx3]);refine oL 12 (λK hK=>?_);go_simp;refine hK.out _ _ (λh=>absurd rfl h) (jq (by kernel_rfl) ?_ _);clear hK K;have hsz:W.heap.size<=(w3.setCell ⟨w.heap.size,0,none⟩ (.slice (some ⟨g',0,none⟩) (ss.length+1) cap')).heap.size:=by
     have h2:W.heap.size<=w3.heap.size:=af7 hgB.size hg3.size;simp only[World.setCell,Array.size_modify];exact h2
    exact⟨rfl,ah (ah cO) ⟨#[],[]⟩ _ hsz (Aw.keeps (ah HX5) hgB hg3 (ah eX)) ((ah HG).app (s:=(k,qi,61,ux,uy)) (ah HX5) hgB hg3 (ah eX) hown' (by simp))⟩
   ·gi_wp2
    refine jS ?_;have hS0:W.drew.heap[w.heap.size]?=W.heap[w.heap.size]?/\W.drew.heap[p]?=W.heap[p]?/\W.drew.heap[x6]?=W.heap[x6]?/\W.drew.heap[G]?=W.heap[G]?:=⟨rfl,rfl,rfl,rfl⟩;refine oZ (λW'=>W'.heap[w.heap.size]?=W.heap[w.heap.size]?/\W'.heap[p]?=W.heap[p]?/\W'.heap[x6]?=W.heap[x6]?/\W'.heap[G]?=W.heap[G]?) 12 13 #[false,false,false,false,false,false,false,false,false,false,false,false,false] (by kernel_rfl) rfl rfl (by kernel_rfl) (by rintro⟨_,_,h,_⟩;cases h) ?_;refine tL 0 (v5) (λw' hS=>?_) hS0 ?_
    ·obtain⟨s1,s2,s3,s4⟩:=hS;have e1:=(ae5 s1).trans hc5
     go_simp
    simp only[aC];refine tL 1 (.int .i64 k) (λw' hS=>?_) hS0 ?_
    ·go_simp
    simp only[aC];refine tL 2 (.pointer (some ⟨p,0,none⟩)) (λw' hS=>?_) hS0 ?_
    ·go_simp
    simp only[aC];refine tL 3 (.bool qi) (λw' hS=>?_) hS0 ?_
    ·obtain⟨s1,s2,s3,s4⟩:=hS;have e1:=(ae5 s2).trans p0
     go_simp
    simp only[aC];refine tL 4 (.agg #[.int .i64 k,.bool qi]) (λw' hS=>?_) hS0 ?_
    ·go_simp
    simp only[aC];refine tL 5 (.slice (some ⟨G,0,none⟩) Us.length Us.length) (λw' hS=>?_) hS0 ?_
    ·obtain⟨s1,s2,s3,s4⟩:=hS;have e1:=(ae5 s3).trans Ij
     go_simp
    simp only[aC];refine tL 6 (.int .i64 k) (λw' hS=>?_) hS0 ?_
    ·go_simp
    simp only[aC];refine tL 7 (.pointer (some ⟨G,k*3,none⟩)) (λw' hS=>?_) hS0 ?_
    ·go_simp
    simp only[aC];refine tL 8 (.agg #[.int .u8 80,.int .i64 ux,.int .i64 uy]) (λw' hS=>?_) hS0 ?_
    ·obtain⟨s1,s2,s3,s4⟩:=hS;have e1:=(ae5 s4).trans g0;have e2:=(ae5 s4).trans g1;have e3:=(ae5 s4).trans g2
     go_simp
    simp only[aC];refine tL 9 (.agg #[.int .i64 k,.bool qi,.int .u8 80,.int .i64 ux,.int .i64 uy]) (λw' hS=>?_) hS0 ?_
    ·go_simp
    simp only[aC];have hgA:W.drew.grownBy (W.drew.alloc (.cells #[.int .i64 k,.bool qi,.int .u8 80,.int .i64 ux,.int .i64 uy] 210)) none:=ad4 _ _ none;have hgB:W.grownBy (W.drew.alloc (.cells #[.int .i64 k,.bool qi,.int .u8 80,.int .i64 ux,.int .i64 uy] 210)) none:=hgD.trans hgA;refine oL 10 (λK hK=>?_);go_simp;replace hS0:=And.intro (hgB.block _ hl5 (by simp)) (And.intro (hgB.block _ hpl (by simp)) (And.intro (hgB.block _ hl6 (by simp)) (hgB.block _ hlG (by simp))));refine hK.out _ _ (λ_=>hS0) ?_;clear hK K;refine oL 11 (λK hK=>?_);refine kV (.tmp 27) (.tmp 37) 133 rfl w.heap.size 210 i0 _ 5 40 underlying133 hin hz0 hz1 hz2 rfl (by decide) v5 ss.length (wQ ss) rfl (by exact aq3 (by exact ah eX) _) ⟨W.heap.size,0,none⟩ 1 1 (Dv (k,qi,80,ux,uy)) rfl rfl (yG _ _ _ _ _ _ _ _ rfl) (Ua _) (by unfold maxLen;omega) (by omega) (by simp[World.drew];omega) ?_;intro v' w3 hown' hg3;obtain⟨g',cap',hv'⟩:=dL hown' (al7 _);subst hv';replace hS0:=ah QI _ _ hgB hg3;refine hK.out _ _ (λ_=>hS0) ?_;clear hK K;have hx3:=Aw.mid (ah HX5) hgB hg3 (ah eX);have hc3:w3.cell? ⟨w.heap.size,0,none⟩=some v5:=(by rw[cell_of hx3];rfl);have hf3:w3.frozen? ⟨w.heap.size,0,none⟩=false:=(by simp[World.frozen?,hx3]);refine oL 12 (λK hK=>?_);go_simp;refine hK.out _ _ (λh=>absurd rfl h) (jq (by kernel_rfl) ?_ _);clear hK K;have hsz:W.heap.size<=(w3.setCell ⟨w.heap.size,0,none⟩ (.slice (some ⟨g',0,none⟩) (ss.length+1) cap')).heap.size:=by
     have h2:W.heap.size<=w3.heap.size:=af7 hgB.size hg3.size;simp only[World.setCell,Array.size_modify];exact h2
    exact⟨rfl,ah (ah cO) ⟨#[],[]⟩ _ hsz (Aw.keeps (ah HX5) hgB hg3 (ah eX)) ((ah HG).app (s:=(k,qi,80,ux,uy)) (ah HX5) hgB hg3 (ah eX) hown' (by simp))⟩
   ·gi_wp2
    refine jS ?_;have hS0:W.drew.heap[w.heap.size]?=W.heap[w.heap.size]?/\W.drew.heap[p]?=W.heap[p]?/\W.drew.heap[x6]?=W.heap[x6]?/\W.drew.heap[G]?=W.heap[G]?:=⟨rfl,rfl,rfl,rfl⟩;refine oZ (λW'=>W'.heap[w.heap.size]?=W.heap[w.heap.size]?/\W'.heap[p]?=W.heap[p]?/\W'.heap[x6]?=W.heap[x6]?/\W'.heap[G]?=W.heap[G]?) 12 13 #[false,false,false,false,false,false,false,false,false,false,false,false,false] (by kernel_rfl) rfl rfl (by kernel_rfl) (by rintro⟨_,_,h,_⟩;cases h) ?_;refine tL 0 (v5) (λw' hS=>?_) hS0 ?_
    ·obtain⟨s1,s2,s3,s4⟩:=hS;have e1:=(ae5 s1).trans hc5
     go_simp
    simp only[aC];refine tL 1 (.int .i64 k) (λw' hS=>?_) hS0 ?_
    ·go_simp
    simp only[aC];refine tL 2 (.pointer (some ⟨p,0,none⟩)) (λw' hS=>?_) hS0 ?_
    ·go_simp
    simp only[aC];refine tL 3 (.bool qi) (λw' hS=>?_) hS0 ?_
    ·obtain⟨s1,s2,s3,s4⟩:=hS;have e1:=(ae5 s2).trans p0
     go_simp
    simp only[aC];refine tL 4 (.agg #[.int .i64 k,.bool qi]) (λw' hS=>?_) hS0 ?_
    ·go_simp
    simp only[aC];refine tL 5 (.slice (some ⟨G,0,none⟩) Us.length Us.length) (λw' hS=>?_) hS0 ?_
    ·obtain⟨s1,s2,s3,s4⟩:=hS;have e1:=(ae5 s3).trans Ij
     go_simp
    simp only[aC];refine tL 6 (.int .i64 k) (λw' hS=>?_) hS0 ?_
    ·go_simp
    simp only[aC];refine tL 7 (.pointer (some ⟨G,k*3,none⟩)) (λw' hS=>?_) hS0 ?_
    ·go_simp
    simp only[aC];refine tL 8 (.agg #[.int .u8 81,.int .i64 ux,.int .i64 uy]) (λw' hS=>?_) hS0 ?_
    ·obtain⟨s1,s2,s3,s4⟩:=hS;have e1:=(ae5 s4).trans g0;have e2:=(ae5 s4).trans g1;have e3:=(ae5 s4).trans g2
     go_simp
    simp only[aC];refine tL 9 (.agg #[.int .i64 k,.bool qi,.int .u8 81,.int .i64 ux,.int .i64 uy]) (λw' hS=>?_) hS0 ?_
    ·go_simp
    simp only[aC];have hgA:W.drew.grownBy (W.drew.alloc (.cells #[.int .i64 k,.bool qi,.int .u8 81,.int .i64 ux,.int .i64 uy] 210)) none:=ad4 _ _ none;have hgB:W.grownBy (W.drew.alloc (.cells #[.int .i64 k,.bool qi,.int .u8 81,.int .i64 ux,.int .i64 uy] 210)) none:=hgD.trans hgA;refine oL 10 (λK hK=>?_);go_simp;replace hS0:=And.intro (hgB.block _ hl5 (by simp)) (And.intro (hgB.block _ hpl (by simp)) (And.intro (hgB.block _ hl6 (by simp)) (hgB.block _ hlG (by simp))));refine hK.out _ _ (λ_=>hS0) ?_;clear hK K;refine oL 11 (λK hK=>?_);refine kV (.tmp 27) (.tmp 37) 133 rfl w.heap.size 210 i0 _ 5 40 underlying133 hin hz0 hz1 hz2 rfl (by decide) v5 ss.length (wQ ss) rfl (by exact aq3 (by exact ah eX) _) ⟨W.heap.size,0,none⟩ 1 1 (Dv (k,qi,81,ux,uy)) rfl rfl (yG _ _ _ _ _ _ _ _ rfl) (Ua _) (by unfold maxLen;omega) (by omega) (by simp[World.drew];omega) ?_;intro v' w3 hown' hg3;obtain⟨g',cap',hv'⟩:=dL hown' (al7 _);subst hv';replace hS0:=ah QI _ _ hgB hg3;refine hK.out _ _ (λ_=>hS0) ?_;clear hK K;have hx3:=Aw.mid (ah HX5) hgB hg3 (ah eX);have hc3:w3.cell? ⟨w.heap.size,0,none⟩=some v5:=(by rw[cell_of hx3];rfl);have hf3:w3.frozen? ⟨w.heap.size,0,none⟩=false:=(by simp[World.frozen?,hx3]);refine oL 12 (λK hK=>?_);go_simp;refine hK.out _ _ (λh=>absurd rfl h) (jq (by kernel_rfl) ?_ _);clear hK K;have hsz:W.heap.size<=(w3.setCell ⟨w.heap.size,0,none⟩ (.slice (some ⟨g',0,none⟩) (ss.length+1) cap')).heap.size:=by
     have h2:W.heap.size<=w3.heap.size:=af7 hgB.size hg3.size;simp only[World.setCell,Array.size_modify];exact h2
    exact⟨rfl,ah (ah cO) ⟨#[],[]⟩ _ hsz (Aw.keeps (ah HX5) hgB hg3 (ah eX)) ((ah HG).app (s:=(k,qi,81,ux,uy)) (ah HX5) hgB hg3 (ah eX) hown' (by simp))⟩
  ·have hat:isAtom uc=false:=(by simpa[isAtom]using ha);rw[hat]at cO;simp only[an4,an6,ak9]at cO;have h1:¬uc=61:=λe=>ha (Or.inl e);have h2:¬uc=80:=λe=>ha (Or.inr (Or.inl e));have h3:¬uc=81:=λe=>ha (Or.inr (Or.inr e));clear hG ha hat
   gi_wp2
   exact ah (ah cO) _ _ (ad5 _) (λ_ _ h _ _=>h) (ah HG)
 case done=>
  intro D W hD hI hdef;have hI2:=hown.putObj (.deferred none) hI hD hdef rfl;have hln:((List.range Us.length).map λx=>#[gV x,uN τ x]).length=Us.length:=by simp
  rw[hln]at hI hI2;obtain⟨v5,hx5,FD,YQ⟩:=hI.g.x5;have hc5:W.cell? ⟨w.heap.size,0,none⟩=some v5:=by rw[cell_of hx5];rfl
  gi_wp2
  refine⟨by simp,.inl ⟨_,_,rfl,aj6 hdef,?_⟩⟩;refine⟨_,am8 rfl _ _ _,v5,rfl,?_,hI2.g.below⟩;obtain⟨v6,Ij,ug,J7⟩:=hI2.g.x5;have e56:v6=v5:=by
   have hne:D≠w.heap.size:=(by have:=(ad3.1 hx5).1;omega);have:(W.putObj D (.deferred none)).heap[w.heap.size]?=W.heap[w.heap.size]?:=af0 (λe=>hne e.symm);rw[this,hx5]at Ij;simpa using Ij.symm
  subst e56;exact vY ug
end Go.Proofs.YthcppbmkacbbiabGreat
