import Derived.Test.YthcppbmkacbbiaaGreatYBQ
import Derived.Test.YthcppbmkacbbiaaGreatYBS
import Derived.Lib.AppendZerosOnto
set_option linter.unusedSimpArgs false
set_option maxHeartbeats 2000000
set_option maxRecDepth 100000
namespace Go.Proofs.YthcppbmkacbbiaaGreat
open Go.Proofs.Tryz
open Go.RowKit Go.Maps Go.WideMaps
open aB (Key put)
attribute [local go_sem] Oper.semAt_some
theorem MH(n:Nat)(w:World)(hn:n<=1000) :
  Calls prog 188 #[.slice none 0 0,.int .i64 n] w λe w'=>∃v,e=.returned v/\w'.ownsRow w.heap.size 224 5 v 0 []/\w.grownBy w' none:=by
 obtain⟨i0,hin,hz0,hz1,hz2⟩:=ai1 Cc;have hneg:¬((n:Int)<0):=by omega
 rcases ah9 n with h0|h0
 ·subst h0
  go_enter func188,ntmps188
  go_wp2_with fail
  go_ret
  exact⟨_,rfl,ak3 _ _ _ _,af2 _ _⟩
 ·have hpos:(n:Int)>0:=by omega
  have hrz:∀ty,(Builtin.append_ #[165,3] ty #[.slice none 0 0,.int .i64 n]).run prog w =
    .ok (.slice (some ⟨w.heap.size,0,none⟩) n (grownCap w n 0 224)) (w.drew.alloc (.cells (#[]++Builtin.zeroCells (Value.agg #[.int .i64 0,.bool false,.int .u8 0,.int .i64 0,.int .i64 0]).cells n++Builtin.zeroCells (Value.agg #[.int .i64 0,.bool false,.int .u8 0,.int .i64 0,.int .i64 0]).cells (grownCap w n 0 224-n)) 224)):=λty=>by
   have h:=Lib.run_append_grow_zeros w 165 3 ty 224 i0 _ .i64 .i64 underlying165 underlying3 hin hz0 none 0 0 [] (run_firstCells_none w.drew i0.size 0 0 0) n h0 (by rw[hz1];decide) (by omega) (by omega) (by rw[hz2];omega) (by rw[aj9];exact growslice_fits (by omega) (by rw[hz2];omega));rw[aj9]at h;exact h
  have hGn:n<=grownCap w n 0 224:=grownCap_ge w _ _ _;have hGm:=grownCap_le_maxLen w n 0 224 (by unfold maxLen;omega);obtain⟨G,hG⟩:∃G,G=grownCap w n 0 224:=⟨_,rfl⟩;rw[<-hG]at hrz hGn hGm;have hG63:G<=9223372036854775807:=by unfold maxLen at hGm;omega
  clear hG
  go_enter func188,ntmps188
  go_wp2_with (at_builtin;refine Lib.wpList_append_run _ rfl _ _ _ _ rfl _ _ rfl rfl _ _ (hrz _) ?_)
  go_ret
  refine⟨_,rfl,⟨rfl,Or.inr ⟨w.heap.size,G,Builtin.zeroCells #[.int .i64 0,.bool false,.int .u8 0,.int .i64 0,.int .i64 0] n++Builtin.zeroCells #[.int .i64 0,.bool false,.int .u8 0,.int .i64 0,.int .i64 0] (G-n),rfl,SH _,?_,ae7 _,hGm,?_,by simp⟩⟩,?_⟩
  ·exact ac3 w.drew _
  ·rw[Array.size_append,size_zeroCells,size_zeroCells];simp;omega
  ·exact(⟨rfl,rfl,rfl,SH _,λ_ _ _=>rfl⟩:w.grownBy w.drew none).trans (JD _ _ none)
theorem lS{W:World}{base e size n:Nat}{v:Value}{xs:List Value}(h:W.ownsRow base e size v n xs):∃p cap,v=.slice p n cap:=by
 rcases h.2 with⟨rfl,h0⟩|⟨g,cap,cur,rfl,_⟩
 ·subst h0;exact⟨_,_,rfl⟩
 ·exact⟨_,_,rfl⟩
theorem Iz(w:World)(B m1 c1 m2 c2:Nat)(ad1 ad2:Addr)(n1 n2:List Value)(hB:w.heap[B]?=some (.cells #[.slice (some ad1) m1 c1,.slice (some ad2) m2 c2] 165 (0,0)))(h1:m1<=100)(h2:m2<=100)
 (hl1:n1.length=m1*5)(hl2:n2.length=m2*5)(hc1:∀j u,n1[j]?=some u->w.cell? (ad1.add j)=some u)(hc2:∀j u,n2[j]?=some u->w.cell? (ad2.add j)=some u)(ho1:∀u∈n1,u.oneCell'=true)(ho2:∀u∈n2,u.oneCell'=true) :
  Calls prog 147 #[.slice (some ⟨B,0,none⟩) 2 2] w λe w'=>∃v,e=.returned v/\w'.ownsRow w.heap.size 224 5 v (m1+m2) (n1++n2)/\Below w.heap.size w w':=by
 obtain⟨i0,hin,hz0,hz1,hz2⟩:=ai1 Cc;have b0:w.cell? ⟨B,0,none⟩=some (.slice (some ad1) m1 c1):=by rw[cell_of hB];rfl
 have b1:w.cell? ⟨B,1,none⟩=some (.slice (some ad2) m2 c2):=by rw[cell_of hB];rfl
 have hBl:=(Js.1 hB).1;have hn1:¬((m1:Int)<0):=by omega
 have hn2:¬((m1:Int)+(m2:Int)<0):=by omega
 have hgr:=MH (m1+m2) w (by omega);rw[Int.natCast_add]at hgr;have HC1:Hid (∀W,Below w.heap.size w W->∀j u,n1[j]?=some u->W.cell? (ad1.add j)=some u):=λW hW j u hj=>by
  have:=hc1 j u hj;exact(hW.cell (p:=ad1.add j) (ab1 w _ this)).trans this
 have HC2:Hid (∀W,Below w.heap.size w W->∀j u,n2[j]?=some u->W.cell? (ad2.add j)=some u):=λW hW j u hj=>by
  have:=hc2 j u hj;exact(hW.cell (p:=ad2.add j) (ab1 w _ this)).trans this
 have HL1:=aj hl1;have HL2:=aj hl2;clear hc1 hc2 hl1 hl2 hB
 go_enter func147,ntmps147
 go_wp2_with fail
 refine wp_loop_rounds 3 ?_;rw[al5]
 go_wp2_with fail
 rw[al5]
 go_wp2_with fail
 rw[al5]
 go_wp2_with fail
 refine hgr.mono ?_;rintro e w1 ⟨v0,rfl,hrow0,hg1⟩;obtain⟨p0,cap0,rfl⟩:=lS hrow0;have hb1:Below w.heap.size w w1:=(ae1 _ w).grown hg1 (SH _) (λk e=>by cases e);have q0:w1.cell? ⟨B,0,none⟩=some (.slice (some ad1) m1 c1):=hg1.cell b0 (by simp);have q1:w1.cell? ⟨B,1,none⟩=some (.slice (some ad2) m2 c2):=hg1.cell b1 (by simp);have HB1:=aj hb1;have hs1:=hb1.size;clear hgr hb1 hg1
 go_wp2_with fail
 refine wp_loop_rounds 3 ?_;rw[al5]
 go_wp2_with (at_builtin;refine aj3 _ rfl _ _ 165 rfl w.heap.size 224 i0 _ 5 40 underlying165 hin hz0 hz1 hz2 rfl (by decide) (.slice p0 0 cap0) 0 [] rfl hrow0 ad1 m1 c1 n1 rfl (ah HL1) (ah HC1 _ (ah HB1)) ho1 (by unfold maxLen;omega) (by omega) hs1 ?_;intro v1 w2 hown1 hg2 hnil2 aag;obtain⟨p1,cap1,hv1⟩:=lS hown1;subst hv1)
 have hb2:Below w.heap.size w w2:=(ah HB1).grown hg2 (ah HB1).size (λk e=>(hrow0.lt k e).1);have r1:w2.cell? ⟨B,1,none⟩=some (.slice (some ad2) m2 c2):=(hb2.cell (p:=⟨B,1,none⟩) hBl).trans b1;have HB2:=aj hb2;have hs2:=hb2.size;rw[aj9,ac1]at hown1;clear hb2 hg2 hnil2 aag;rw[al5]
 go_wp2_with (at_builtin;refine aj3 _ rfl _ _ 165 rfl w.heap.size 224 i0 _ 5 40 underlying165 hin hz0 hz1 hz2 rfl (by decide) (.slice p1 m1 cap1) m1 n1 rfl hown1 ad2 m2 c2 n2 rfl (ah HL2) (ah HC2 _ (ah HB2)) ho2 (by unfold maxLen;omega) (by omega) hs2 ?_;intro v2 w3 hown2 hg3 hnil3 Td;obtain⟨p2,cap2,hv2⟩:=lS hown2;subst hv2)
 have hb3:Below w.heap.size w w3:=(ah HB2).grown hg3 (ah HB2).size (λk e=>(hown1.lt k e).1);have HB3:=aj hb3;have HO2:=aj hown2;clear hb3 hg3 hnil3 Td hown2;rw[al5]
 go_wp2_with fail
 go_ret
 exact⟨_,rfl,ah HO2,ah HB3⟩
theorem IK(n:Nat)(X:Nat)(w:World)(hX:w.cell? ⟨X,0,none⟩=some (.slice none 0 0)) :
  lG Fence.wide n prog 171 #[.pointer (some ⟨X,0,none⟩)] [] (λ_ _=>True) w:=by
 intro l J Jx W hW hJ hJx hY h0;have hXW:W.cell? ⟨X,0,none⟩=some (.slice none 0 0):=(hW.cell (p:=⟨X,0,none⟩) (ab1 w _ hX)).trans hX;have hmm:=λz=>dD (P:=prog) underlying77 .i64 z W;have hJ1:J 0 (W.alloc (.map #[] 0)):=hJ 0 W _ none h0 (JD _ _ none) (λr e=>by cases e);have hX1:(W.alloc (.map #[] 0)).cell? ⟨X,0,none⟩=some (.slice none 0 0):=(JD _ _ none).cell hXW (by simp);refine ag9 func171 rfl trivial ?_ rfl;simp only[ntmps171,ab7,ab5,ac2,Nat.reduceAdd,Nat.reduceSub,ab4,ab3,ab8,ad6,ac1,ac0]
 gi_wp2
 obtain⟨W1,hW1⟩:∃W1,W.alloc (.map #[] 0)=W1:=⟨_,rfl⟩;rw[hW1]at hJ1 hX1 ⊢;clear hmm hW1
 gi_wp2
 gi_loopw [13] (λi wr=>i=.int .i64 0/\J 0 wr) (λ_ _=>0)
 case atStart=>exact⟨rfl,hJ1⟩
 case round=>
  obtain⟨rfl,hJr⟩:=hrel
  gi_wp2
  go_end0
  exact⟨⟨_,rfl⟩,Or.inl hJr⟩
theorem Nh(w:World):Calls prog 83 #[.slice none 0 0,.slice none 0 0] w λe w'=>e=.returned (.bool true)/\Below w.heap.size w w':=by
 refine(ad9 (n:=5)).1 ?_;refine ag3 func83 rfl trivial ?_ rfl;simp only[ntmps83,ab7,ab5,ac2,Nat.reduceAdd,Nat.reduceSub,ab4,ab3,ab8,ad6,ac1,ac0]
 gi_wp2
 obtain⟨wr,hwr⟩:∃wr,(w.alloc (.cells #[.slice none 0 0] 103)).alloc (.cells #[.bool false] 4)=wr:=⟨_,rfl⟩;have hgr:w.grownBy wr none:=by rw[<-hwr];exact(JD _ _ none).trans (JD _ _ none)
 have hbr:Below w.heap.size w wr:=⟨hgr.os,hgr.tape,hgr.output,hgr.size,λj hj=>hgr.block j hj (by simp)⟩;have hx2:wr.cell? ⟨w.heap.size+1,0,none⟩=some (.bool false):=by rw[<-hwr];simp[go_sem]
 have hf2:wr.frozen? ⟨w.heap.size+1,0,none⟩=false:=by rw[<-hwr];simp[go_sem]
 have hsr:w.heap.size+2<=wr.heap.size:=by rw[<-hwr];simp
 rw[hwr];clear hwr hgr;refine⟨trivial,(ad9.2 (zD none 0 0 wr)).mono ?_⟩;rintro e w2 ⟨rfl,rfl⟩
 gi_wp2
 obtain⟨w2,hw2⟩:∃w2,wr.alloc (.cells #[.slice none 0 0] 51)=w2:=⟨_,rfl⟩;have hg2:wr.grownBy w2 none:=by rw[<-hw2];exact JD _ _ none
 have hX2:w2.cell? ⟨wr.heap.size,0,none⟩=some (.slice none 0 0):=by rw[<-hw2];simp[go_sem]
 have hseq:=IK 4 wr.heap.size w2 hX2;have hI0:w2.cell? ⟨w.heap.size+1,0,none⟩=some (.bool false)/\w2.frozen? ⟨w.heap.size+1,0,none⟩=false/\Below w.heap.size w w2:=⟨hg2.cell hx2 (by simp),(af8 (hg2.block (w.heap.size+1) (by omega) (by simp))).trans hf2,hbr.grown hg2 hbr.size (λk e=>by cases e)⟩;have hbw2:w.heap.size+2<=w2.heap.size:=ac9 hsr hg2.size;rw[hw2];clear hw2 hX2 hg2 hx2 hf2 hbr;have hown:OwnFrom w2.heap.size (fun(_:Nat) W=>W.cell? ⟨w.heap.size+1,0,none⟩=some (.bool false)/\W.frozen? ⟨w.heap.size+1,0,none⟩=false/\Below w.heap.size w W):=λk W W' row h hg hr=>by
  have hr':∀r,row=some r->∃o:Obj,W.heap[r]?=some o/\o.isCells=false:=λr e=>(hr r e).2;exact⟨bg h.1 hg hr',(kU h.1 hg hr').trans h.2.1,h.2.2.grown hg h.2.2.size (λk e=>by have:=(hr k e).1;omega)⟩
 have qO:OwnFrom w2.heap.size (fun(_:Unit) (_:World)=>False):=λk W W' row h hg hr=>h;refine dZ rfl (by omega) rfl trivial (λ_ _=>by simp[go_sem]) hseq (λ_ _=>trivial) (λ_ _ _ _ _ _ _ _=>trivial) (ae1 _ _) ?_ _ (λ_=>False) hown qO hI0 (λ_ _ _=>False) ?own ?assign ?body ?done ?stop
 ·intro k hk;simp at hk
 case own=>exact λk a' u W W' row h _ _=>h
 case assign=>intro l k hk;simp at hk
 case body=>intro l k a' W hk;simp at hk
 case done=>
  rintro D W hD ⟨hx2,hf2,hb⟩ hdef
  gi_wp2
  have yN:(W.setCell ⟨w.heap.size+1,0,none⟩ (.bool true)).heap[D]?=some (.deferred (some [])):=(ac6 _ _ _ _ (by show D≠w.heap.size+1;omega)).trans hdef;have hxs:(W.setCell ⟨w.heap.size+1,0,none⟩ (.bool true)).cell? ⟨w.heap.size+1,0,none⟩=some (.bool true):=dG _ hx2;have hgp:=ah8 (W.setCell ⟨w.heap.size+1,0,none⟩ (.bool true)) D (.deferred none);have hx3:=hgp.cell hxs (by simp;omega);refine⟨by simp,.inl ⟨_,_,rfl,ah0 yN,?_⟩⟩;refine⟨.bool true,by simp[results,results83,go_sem,hx3],rfl,?_⟩;exact(hb.setCell (p:=⟨w.heap.size+1,0,none⟩) (by show w.heap.size<=w.heap.size+1;omega) _).grown hgp (hb.setCell (p:=⟨w.heap.size+1,0,none⟩) (by show w.heap.size<=w.heap.size+1;omega) _).size (λk e=>by cases e;omega)
 case stop=>exact λD W hD hI hdef=>hI.elim
def wG(f':Nat->Nat)(cs:List (Int×Nat))(ss:List jO):List (Int×Nat):=(ss.filter λs=>decide (s.2.2.1≠61)).map λs=>(s.2.2.1,f' (cs.getD s.2.2.2.1 (0,0)).2)
def xF(ss:List jO):List Bool:=(ss.filter λs=>decide (s.2.2.1≠61)).map λs=>s.2.1
theorem QA{f':Nat->Nat}{cs:List (Int×Nat)}{ss:List jO}{k:Nat}(hk:k<ss.length):wG f' cs (ss.take (k+1))=wG f' cs (ss.take k)++if ss[k].2.2.1=61 then []else [(ss[k].2.2.1,f' (cs.getD ss[k].2.2.2.1 (0,0)).2)]:=by
 unfold wG;rw[ae6,SI hk,ak8,ah6]
 congr 1
 show([ss[k]].filter _).map _=_
 rw[List.filter_cons];by_cases e:ss[k].2.2.1=61<;>simp[e]
theorem Qz{ss:List jO}{k:Nat}(hk:k<ss.length):xF (ss.take (k+1))=xF (ss.take k)++if ss[k].2.2.1=61 then []else [ss[k].2.1]:=by
 unfold xF;rw[ae6,SI hk,ak8,ah6]
 congr 1
 show([ss[k]].filter _).map _=_
 rw[List.filter_cons];by_cases e:ss[k].2.2.1=61<;>simp[e]
theorem TR(f':Nat->Nat)(cs:List (Int×Nat))(ss:List jO):(wG f' cs ss).length<=ss.length:=by
 unfold wG;rw[ah7];exact List.length_filter_le _ _
theorem TQ(f':Nat->Nat)(cs:List (Int×Nat))(ss:List jO):(xF ss).length=(wG f' cs ss).length:=by
 unfold wG xF;simp
theorem Qy{f':Nat->Nat}{cs:List (Int×Nat)}{ss:List jO}:cb f' cs (ss.map dH)↔(∀s∈ss,s.2.2.1=61->s.2.1=false->f' s.2.2.2.1≠f' s.2.2.2.2)/\(∀p∈aO (wG f' cs ss) (wG f' cs ss).length,(xF ss).getD p.1 false=(xF ss).getD p.2 false):=by
 have hA:=BL (wG f' cs ss) (λi j=>(xF ss).getD i false=(xF ss).getD j false) (λ_=>rfl) (λ_ _ e=>e.symm) (λ_ _ _ e1 e2=>e1.trans e2);rw[hA];unfold cb;refine and_congr ?_ ?_
 ·constructor
  ·intro h s hs h1 h2;exact h (dH s) (ad5.2 ⟨s,hs,rfl⟩) h1 h2
  ·intro h l hl h1 h2;obtain⟨s,hs,rfl⟩:=ad5.1 hl;exact h s hs h1 h2
 ·unfold wG xF;obtain⟨L,hL⟩:∃L,L=ss.filter λs=>decide (s.2.2.1≠61):=⟨_,rfl⟩;have hm:∀s,s∈L↔s∈ss/\s.2.2.1≠61:=λs=>by rw[hL,ag0];simp
  rw[<-hL];constructor
  ·intro h i j hi hj e;simp only[ah7]at hi hj;simp only[ah1,SI hi,SI hj,an3,ag1,ap0]at e;have h1:=(hm L[i]).1 (ab2 hi);have h2:=(hm L[j]).1 (ab2 hj);have:=h (dH L[i]) (ad5.2 ⟨_,h1.1,rfl⟩) (dH L[j]) (ad5.2 ⟨_,h2.1,rfl⟩) h1.2 h2.2 e.1 e.2;rw[aG (by simpa using hi),aG (by simpa using hj)];simpa[dH]using this
  ·intro h l hl m hm' h61 H8 hlet e;obtain⟨s,hs,rfl⟩:=ad5.1 hl;obtain⟨t,ht,rfl⟩:=ad5.1 hm';obtain⟨i,hi,e1⟩:=af7 ((hm s).2 ⟨hs,h61⟩);obtain⟨j,hj,e2⟩:=af7 ((hm t).2 ⟨ht,H8⟩);have:=h i j (by simpa using hi) (by simpa using hj) (by
    simp only[ah1,SI hi,SI hj,an3,e1,e2]
    congr 1
    exact Prod.ext hlet e)
   rw[aG (by simpa using hi),aG (by simpa using hj)]at this;simpa[e1,e2,dH]using this
structure QZ(w:World)(b n:Nat)(f':Nat->Nat)(fo:Array Value)(C:List (Int×Nat))(H:List Bool)(v6 v7:Value)(W:World):Prop where
 j:∃c,gK W b f' n c
 lo:w.heap.size<=b
 x0:W.heap[w.heap.size]?=some (.cells fo 54 (0,0))
 rc:W.ownsRow w.heap.size 90 2 v6 C.length (C.flatMap lJ)
 rh:W.ownsRow w.heap.size 4 1 v7 H.length (H.map Value.bool)
 nc:v6=.slice none 0 0↔C=[]
 nh:v7=.slice none 0 0↔H=[]
 below:Below w.heap.size w W
theorem lX{W:World}{base e size n:Nat}{v:Value}{xs:List Value}(h:W.ownsRow base e size v n xs):∀k,v.ownBlock=some k->base<=k/\∃cur:Array Value,W.heap[k]?=some (.cells cur e (0,0)):=by
 intro k hk;rcases h.2 with⟨rfl,_⟩|⟨g,cap,cur,rfl,hb,hgb,_⟩
 ·cases hk
 ·cases hk;exact⟨hb,cur,hgb⟩
theorem QZ.grow{w:World}{b n:Nat}{f':Nat->Nat}{fo:Array Value}{C:List (Int×Nat)}{H:List Bool}{v6 v7:Value}{W W':World}(h:QZ w b n f' fo C H v6 v7 W)(hg:W.grownBy W' none):QZ w b n f' fo C H v6 v7 W':=by
 obtain⟨c,h1⟩:=h.j;exact⟨⟨c,h1.kept (hg.block b h1.lt (by simp))⟩,h.lo,(hg.block _ (Js.1 h.x0).1 (by simp)).trans h.x0,h.rc.kept hg (Classical.em _),h.rh.kept hg (Classical.em _),h.nc,h.nh,h.below.grown hg h.below.size (λk e=>by cases e)⟩
theorem QZ.aaR{w:World}{b n:Nat}{f':Nat->Nat}{fo:Array Value}{C:List (Int×Nat)}{H:List Bool}{v6 v6' v7:Value}{W W':World}{x:Int×Nat}(h:QZ w b n f' fo C H v6 v7 W)(hg:W.grownBy W' v6.ownBlock)(hr:W'.ownsRow w.heap.size 90 2 v6' (C.length+1) (C.flatMap lJ++lJ x))(hn:v6'≠.slice none 0 0):QZ w b n f' fo (C++[x]) H v6' v7 W':=by
 obtain⟨c,h1⟩:=h.j;have hb:=lX h.rc;have keep:∀(j:Nat) (o:Obj),W.heap[j]?=some o->(∀cur x,o≠Obj.cells cur 90 x)->W'.heap[j]?=some o:=λj o hj hc=>(hg.block j (Js.1 hj).1 (λe=>by
  obtain⟨_,cur,hcur⟩:=hb j e.symm;rw[hj]at hcur;cases hcur;exact hc _ _ rfl)).trans hj
 obtain⟨o,ho,hoc⟩:=h1.Xn;refine⟨⟨c,h1.kept ((keep b o ho (λcur x e=>hoc _ _ _ e)).trans ho.symm)⟩,h.lo,keep _ _ h.x0 (λcur x e=>by simp at e),?_,h.rh.kept hg ?_,?_,h.nh,h.below.grown hg h.below.size (λk e=>(hb k e).1)⟩
 ·rw[ad3,List.flatMap_append];simpa using hr
 ·by_cases e:v7.ownBlock=none
  ·exact Or.inl e
  ·refine Or.inr (λe2=>?_);cases e3:v7.ownBlock with
   |none=>exact e e3
   |some k=>
    obtain⟨_,cur,h2⟩:=lX h.rh k e3;obtain⟨_,cur',h3⟩:=hb k (by rw[<-e2,e3]);rw[h2]at h3;simp at h3
 ·constructor
  ·intro e;exact absurd e hn
  ·intro e;simp at e
theorem QZ.appH{w:World}{b n:Nat}{f':Nat->Nat}{fo:Array Value}{C:List (Int×Nat)}{H:List Bool}{v6 v7 v7':Value}{W W':World}{x:Bool}(h:QZ w b n f' fo C H v6 v7 W)(hg:W.grownBy W' v7.ownBlock)(hr:W'.ownsRow w.heap.size 4 1 v7' (H.length+1) (H.map Value.bool++[Value.bool x]))(hn:v7'≠.slice none 0 0):QZ w b n f' fo C (H++[x]) v6 v7' W':=by
 obtain⟨c,h1⟩:=h.j;have hb:=lX h.rh;have keep:∀(j:Nat) (o:Obj),W.heap[j]?=some o->(∀cur x,o≠Obj.cells cur 4 x)->W'.heap[j]?=some o:=λj o hj hc=>(hg.block j (Js.1 hj).1 (λe=>by
  obtain⟨_,cur,hcur⟩:=hb j e.symm;rw[hj]at hcur;cases hcur;exact hc _ _ rfl)).trans hj
 obtain⟨o,ho,hoc⟩:=h1.Xn;refine⟨⟨c,h1.kept ((keep b o ho (λcur x e=>hoc _ _ _ e)).trans ho.symm)⟩,h.lo,keep _ _ h.x0 (λcur x e=>by simp at e),h.rc.kept hg ?_,?_,h.nc,?_,h.below.grown hg h.below.size (λk e=>(hb k e).1)⟩
 ·by_cases e:v6.ownBlock=none
  ·exact Or.inl e
  ·refine Or.inr (λe2=>?_);cases e3:v6.ownBlock with
   |none=>exact e e3
   |some k=>
    obtain⟨_,cur,h2⟩:=lX h.rc k e3;obtain⟨_,cur',h3⟩:=hb k (by rw[<-e2,e3]);rw[h2]at h3;simp at h3
 ·rw[ad3,ah6];simpa using hr
 ·constructor
  ·intro e;exact absurd e hn
  ·intro e;simp at e
end Go.Proofs.YthcppbmkacbbiaaGreat
