import Derived.Test.YthcppbmkacbbiaaGreatZBH
import Derived.Test.YthcppbmkacbbiaaGreatZBL
set_option linter.unusedSimpArgs false
set_option maxHeartbeats 2000000
set_option maxRecDepth 100000
namespace Go.Proofs.YthcppbmkacbbiaaGreat
open Go.Proofs.Tryz
section
open au (Key Inv iZ texts iG)
open Nx
def wG(row:List Nat):List Int:=row.map fun(d:Nat)=>(d:Int)
theorem Fh(row:List Nat):∀i j,i<row.length->j<row.length->(fi row i=fi row j↔(wG row).getD i 0=(wG row).getD j 0):=by
 intro i j hi hj;rw[xX hi hj];unfold wG;rw[ag8,ag8,ak7,ak7,af2 hi,af2 hj];simp only[aq2,Option.getD_some];omega
def XK(f:Nat->Nat)(cs:List (Int×Nat))(ps:List Key)(cl:List Int)(hl:List Bool):Bool:=
 decide (∀p∈dJ (OO f cs) cs.length,hl.getD p.1 false=hl.getD p.2 false)&&(iG cl hl ps).getD (ps.length-1) false
def Vs(ts:List Key)(cs:List (Int×Nat))(ps:List Key)(row:List Nat):Nat:=
 if (∀p∈dJ (mkd (fi row) ts) ts.length,fi row p.1=fi row p.2)then(List.range (2 ^ cs.length)).countP (λk=>XK (fi row) cs ps (wG row) (tv cs.length k))else 0
def sG(s:ByteArray)(T C:List (List UInt8))(row:List Nat):Nat:=(mO C.length).countP λhl=>snd T C (wG row) hl&&Eb s (wG row) hl
theorem YP(s:ByteArray)(ts:List Key)(cs:List (Int×Nat))(ps:List Key)(hR:au.jq (pk s) (s.size+1) 0 0 [] [] []=.ok (s.size,ts,cs,ps,ps.length-1))(h4:cs.length<=4)(hi:Inv ts)(hic:iZ ts cs)(row:List Nat)(hrow:row.length=ts.length) :
  sG s (texts ts) (ctx ts cs) row=Vs ts cs ps row:=by
 have Vb:(ctx ts cs).length=cs.length:=by simp[ctx]
 have hcl:∀i j,i<ts.length->j<ts.length->(fi row i=fi row j↔(wG row).getD i 0=(wG row).getD j 0):=λi j h1 h2=>Fh row i j (by omega) (by omega);have e:(λhl=>snd (texts ts) (ctx ts cs) (wG row) hl&&Eb s (wG row) hl)=λhl=>(decide (∀p∈dJ (mkd (fi row) ts) ts.length,fi row p.1=fi row p.2)&&XK (fi row) cs ps (wG row) hl):=by
  funext hl;rw[Gj hi hic hcl,FZ s (wG row) hl ts cs ps _ hR,Bool.and_assoc];rfl
 unfold sG Vs;rw[e,Vb,QV h4];by_cases h:∀p∈dJ (mkd (fi row) ts) ts.length,fi row p.1=fi row p.2
 ·rw[af9 h];simp only[ar7 h,Bool.true_and]
 ·rw[af6 h];simp only[aq1 h,at1];exact List.countP_eq_zero.2 (λ_ _ h=>by cases h)
theorem YD{L:List (List Nat)}{g g':List Nat->Nat}(h:∀r∈L,g r=g' r)(k:Nat):sumTo L g k=sumTo L g' k:=by
 unfold sumTo;rw[au3 (λx hx=>h x (ao1 hx))]
def Vt(ts:List Key)(cs:List (Int×Nat))(ps:List Key):Nat:=sumTo (rws 0 ts.length) (Vs ts cs ps) (rws 0 ts.length).length
def Qc(s:ByteArray)(T C:List (List UInt8)):Nat:=sumTo (rws 0 T.length) (sG s T C) (rws 0 T.length).length
theorem all_eq(s:ByteArray)(ts:List Key)(cs:List (Int×Nat))(ps:List Key)(hR:au.jq (pk s) (s.size+1) 0 0 [] [] []=.ok (s.size,ts,cs,ps,ps.length-1))(h4:cs.length<=4)(hi:Inv ts)(hic:iZ ts cs) :
  Qc s (texts ts) (ctx ts cs)=Vt ts cs ps:=by
 unfold Qc Vt;rw[au.aW];exact YD (λr hr=>YP s ts cs ps hR h4 hi hic r (uH _ _ r hr)) _
theorem XE(s:ByteArray)(T C:List (List UInt8))(h4:C.length<=4)(row:List Nat):sG s T C row<=16:=by
 unfold sG;refine ah2 List.countP_le_length ?_;rw[lX];have h':C.length=0\/C.length=1\/C.length=2\/C.length=3\/C.length=4:=by omega
 rcases h' with h|h|h|h|h<;>rw[h]<;>decide
end
section
open Go.RowKit Go.Maps Go.WideMaps
open au (Key put iG bI)
open Nx
attribute [local go_sem] Oper.semAt_some
structure CW(w:World)(GT GC GP nt nc np:Nat)(n:Nat)(W:World):Prop where
 f0:W.cell? ⟨w.heap.size,0,none⟩=some (.slice (some ⟨GT,0,none⟩) nt nt)
 f1:W.cell? ⟨w.heap.size,1,none⟩=some (.slice (some ⟨GC,0,none⟩) nc nc)
 f2:W.cell? ⟨w.heap.size,2,none⟩=some (.slice (some ⟨GP,0,none⟩) np np)
 c:W.cell? ⟨w.heap.size+1,0,none⟩=some (.int .i64 n)
 fr:W.frozen? ⟨w.heap.size+1,0,none⟩=false
 below:Below w.heap.size w W
 sz:w.heap.size+2<=W.heap.size
theorem CW.count{w:World}{GT GC GP nt nc np n:Nat}{W:World}(h:CW w GT GC GP nt nc np n W)(v:Nat):CW w GT GC GP nt nc np v (W.setCell ⟨w.heap.size+1,0,none⟩ (.int .i64 v)):=
 ⟨(ag2 (ag6 _ _ _ _ (by show w.heap.size≠w.heap.size+1;omega))).trans h.f0,(ag2 (ag6 _ _ _ _ (by show w.heap.size≠w.heap.size+1;omega))).trans h.f1,(ag2 (ag6 _ _ _ _ (by show w.heap.size≠w.heap.size+1;omega))).trans h.f2,
  bQ _ h.c,by rw[an9];exact h.fr,h.below.setCell (by show w.heap.size<=w.heap.size+1;omega) _,by simpa[World.setCell]using h.sz⟩
def KB(C:Nat)(W0 W:World):Prop:=W0.heap.size<=W.heap.size/\∀j,j<W0.heap.size->j≠C->W.heap[j]?=W0.heap[j]?
theorem KB.ka{C m0 X:Nat}{W0 W:World}(h:KB C W0 W)(hC:C<m0)(hX:X≠C)(hl:X<W0.heap.size):KA m0 X X W0 W:=
 ⟨λk o hk ho _=>(h.2 k (ae8.1 ho).1 (by omega)).trans ho,h.2 X hl hX,h.2 X hl hX⟩
end
section
open Go.RowKit
open Nx
attribute [local go_sem] Oper.semAt_some
structure NX(w:World)(G1 G2 nt nc:Nat)(row:List Nat)(hl:List Bool)(W:World):Prop where
 x0:W.cell? ⟨w.heap.size,0,none⟩=some (.slice (some ⟨G1,0,none⟩) nt nt)
 x1:W.cell? ⟨w.heap.size,1,none⟩=some (.slice (some ⟨G2,0,none⟩) nc nc)
 r1:W.ownsRow 0 3 1 (.slice (some ⟨G1,0,none⟩) nt nt) nt (row.map kL)
 r2:W.ownsRow 0 4 1 (.slice (some ⟨G2,0,none⟩) nc nc) nc (hl.map Value.bool)
 os:W.os=w.os
 tape:W.tape=w.tape
 output:W.output=w.output
 size:w.heap.size<W.heap.size
 block:∀j,j<w.heap.size->j≠G1->j≠G2->W.heap[j]?=w.heap[j]?
theorem NX.drew{w:World}{G1 G2 nt nc:Nat}{row:List Nat}{hl:List Bool}{W:World}(h:NX w G1 G2 nt nc row hl W):NX w G1 G2 nt nc row hl W.drew:=⟨h.x0,h.x1,h.r1,h.r2,h.os,h.tape,h.output,h.size,h.block⟩
theorem NX.set2{w:World}{G1 G2 nt nc:Nat}{row:List Nat}{hl:List Bool}{W:World}(h:NX w G1 G2 nt nc row hl W)(hne:G1≠G2)(h2:G2<w.heap.size)(p:Nat)(b:Bool)(hl':List Bool)(he:hl'=hl.set p b):NX w G1 G2 nt nc row hl' (W.setCell ⟨G2,p,none⟩ (.bool b)):=by
 obtain⟨q1,q2⟩:=h.r2.stored p (.bool b);refine⟨q2.cell h.x0 (by simp;omega),q2.cell h.x1 (by simp;omega),h.r1.kept q2 (Or.inr (by simpa[Value.ownBlock]using hne)),?_,q2.os.trans h.os,q2.tape.trans h.tape,q2.output.trans h.output,ah4 h.size q2.size,λj hj n1 n2=>(q2.block j (Nat.lt_trans hj h.size) (by simpa using n2)).trans (h.block j hj n1 n2)⟩;rw[he,List.map_set];exact q1
theorem NX.set1{w:World}{G1 G2 nt nc:Nat}{row:List Nat}{hl:List Bool}{W:World}(h:NX w G1 G2 nt nc row hl W)(hne:G1≠G2)(h2:G1<w.heap.size)(p d:Nat)(row':List Nat)(he:row'=row.set p d):NX w G1 G2 nt nc row' hl (W.setCell ⟨G1,p,none⟩ (.int .i64 d)):=by
 obtain⟨q1,q2⟩:=h.r1.stored p (.int .i64 d);refine⟨q2.cell h.x0 (by simp;omega),q2.cell h.x1 (by simp;omega),?_,h.r2.kept q2 (Or.inr (by simpa[Value.ownBlock]using λe=>hne e.symm)),q2.os.trans h.os,q2.tape.trans h.tape,q2.output.trans h.output,ah4 h.size q2.size,λj hj n1 n2=>(q2.block j (Nat.lt_trans hj h.size) (by simpa using n1)).trans (h.block j hj n1 n2)⟩;rw[he,List.map_set];exact q1
def NP(w:World)(G1 G2:Nat)(row:List Nat)(hl:List Bool)(e:Ending)(w':World):Prop:=
 match nb hl with
 |some hl'=>e=.returned (.bool true)/\NX w G1 G2 row.length hl.length row hl' w'
 |none=>match wP 0 row with
  |some row'=>e=.returned (.bool true)/\NX w G1 G2 row.length hl.length row' (List.replicate hl.length false) w'
  |none=>e=.returned (.bool false)/\∃row' hl',NX w G1 G2 row.length hl.length row' hl' w'
theorem Qy(w:World)(G1 G2:Nat)(row:List Nat)(hl:List Bool)(h0:0<row.length)(h7:row.length<=7)(h4:hl.length<=4)(hv:∀x∈row,x<=100)(hne:G1≠G2)(hl1:G1<w.heap.size)(hl2:G2<w.heap.size)
 (h1:w.ownsRow 0 3 1 (.slice (some ⟨G1,0,none⟩) row.length row.length) row.length (row.map kL))(h2:w.ownsRow 0 4 1 (.slice (some ⟨G2,0,none⟩) hl.length hl.length) hl.length (hl.map Value.bool)) :
  Calls prog 62 #[.agg #[.slice (some ⟨G1,0,none⟩) row.length row.length,.slice (some ⟨G2,0,none⟩) hl.length hl.length]] w (NP w G1 G2 row hl):=by
 obtain⟨w0,hw0⟩:∃w0,w.alloc (.cells #[.slice (some ⟨G1,0,none⟩) row.length row.length,.slice (some ⟨G2,0,none⟩) hl.length hl.length] 118)=w0:=⟨_,rfl⟩;have hN0:NX w G1 G2 row.length hl.length row hl w0:=by
  rw[<-hw0];exact⟨by simp[go_sem],by simp[go_sem],h1.alloc _,h2.alloc _,rfl,rfl,rfl,by simp,λj hj _ _=>ag1 _ _ _ hj⟩
 obtain⟨nt,hnt⟩:∃nt,row.length=nt:=⟨_,rfl⟩;obtain⟨nc,hnc⟩:∃nc,hl.length=nc:=⟨_,rfl⟩;rw[hnt]at hN0 hw0 h0 h7 ⊢;rw[hnc]at hN0 hw0 h4 ⊢;have HNT:=aj hnt;have HNC:=aj hnc;have HV:=aj hv;have HW0:=aj hw0;clear h1 h2 hnt hnc hv hw0
 go_enter func62,ntmps62
 go_wp2_with fail
 rw[ah HW0]
 go_loopw [3] (λi wr=>∃k:Nat,k<=nc/\i=.int .i64 ((k:Int)-1)/\NX w G1 G2 nt nc row (hl.take k++List.replicate (nc-k) false) wr/\Hid (nb (hl.drop k)=none)) (λi _=>(intOf i+1).toNat)
 case atStart=>
  refine⟨nc,af0 _,rfl,?_,?_⟩
  ·rw[ai2 (by rw[ah HNC];exact af0 _),Nat.sub_self];simpa using hN0
  ·rw[as8 (by rw[ah HNC];exact af0 _)];exact aj rfl
 case round=>
  obtain⟨k,hk,rfl,hN,hno⟩:=hrel;by_cases hk0:0<k
  ·obtain⟨p,rfl⟩:∃p,k=p+1:=⟨k-1,by omega⟩;have hcast:(((p+1:Nat):Int)-1)=(p:Int):=(by omega);rw[hcast];clear hcast;have hpl:p<hl.length:=(by rw[ah HNC];omega);have hb0:(0:Int)<=(p:Int):=(by omega);have hpb:(p:Int)<(nc:Int):=(by omega);have htk:hl.take (p+1)=hl.take p++[hl[p]]:=(by rw[ai4,af2 hpl];rfl);have hst:=WY hpl (ah hno);have hA:(hl.take p).length=p:=(by rw[al0];omega);have hcp:wr.cell? ⟨G2,p,none⟩=some (.bool hl[p]):=by
    rw[hN.r2.cellAt p (by omega),htk,ak6,al7,ap8 (by rw[am3,hA];exact af0 _),am3,hA,Nat.sub_self];rfl
   have hset:∀b:Bool,(hl.take (p+1)++List.replicate (nc-(p+1)) false).set p b=hl.take p++b::List.replicate (nc-(p+1)) false:=λb=>by
    rw[htk,ak6];exact set_mid _ _ _ _ hA
   have hfz:wr.frozen? ⟨G2,p,none⟩=false:=hN.r2.frozenAt p;rw[ah HNC]at hst;have HST:=aj hst;have VO:=aj hset;clear hst hset htk hno hA;generalize hl[p]=b at hcp HST;have hx0:=hN.x0;have hx1:=hN.x1;have HN:=aj hN;clear hN
   go_wp2_with fail
   have hS0:wr.drew.cell? ⟨w.heap.size,1,none⟩=some (.slice (some ⟨G2,0,none⟩) nc nc)/\wr.drew.cell? ⟨G2,p,none⟩=some (.bool b):=⟨hx1,hcp⟩;refine wp_region_any rfl (eY (S:=λW'=>W'.cell? ⟨w.heap.size,1,none⟩=some (.slice (some ⟨G2,0,none⟩) nc nc)/\W'.cell? ⟨G2,p,none⟩=some (.bool b)) (z:=10) _ _ _ _ ?_);simp only[ag3,ag0,ah0,Nat.reduceAdd,af8,af7,ag5,ag9,ag7];change wpAnyL prog .any _ _ _ _ _ _ _ wr.drew;refine tL 0 (.pointer (some ⟨w.heap.size,1,none⟩)) (λw' hS=>?_) hS0 ?_
   ·obtain⟨s1,s2⟩:=hS;go_simp
   simp only[aG];refine tL 1 (.slice (some ⟨G2,0,none⟩) nc nc) (λw' hS=>?_) hS0 ?_
   ·obtain⟨s1,s2⟩:=hS;go_simp
   simp only[aG];refine tL 2 (.int .i64 p) (λw' hS=>?_) hS0 ?_
   ·obtain⟨s1,s2⟩:=hS;go_simp
   simp only[aG];refine tL 3 (.pointer (some ⟨w.heap.size,1,none⟩)) (λw' hS=>?_) hS0 ?_
   ·obtain⟨s1,s2⟩:=hS;go_simp
   simp only[aG];refine tL 4 (.slice (some ⟨G2,0,none⟩) nc nc) (λw' hS=>?_) hS0 ?_
   ·obtain⟨s1,s2⟩:=hS;go_simp
   simp only[aG];refine tL 5 (.int .i64 p) (λw' hS=>?_) hS0 ?_
   ·obtain⟨s1,s2⟩:=hS;go_simp
   simp only[aG];refine tL 6 (.pointer (some ⟨G2,p,none⟩)) (λw' hS=>?_) hS0 ?_
   ·obtain⟨s1,s2⟩:=hS;go_simp
   simp only[aG];refine tL 7 (.bool b) (λw' hS=>?_) hS0 ?_
   ·obtain⟨s1,s2⟩:=hS;go_simp
   simp only[aG];refine tL 8 (.bool (!b)) (λw' hS=>?_) hS0 ?_
   ·obtain⟨s1,s2⟩:=hS;go_simp
   simp only[aG];refine tL 9 (.pointer (some ⟨G2,p,none⟩)) (λw' hS=>?_) hS0 ?_
   ·obtain⟨s1,s2⟩:=hS;go_simp
   simp only[aG];have ae2:wr.drew.frozen? ⟨G2,p,none⟩=false:=hfz;refine oL 10 (λK hK=>?_);go_simp;refine hK.out _ _ (λh=>absurd rfl h) (fM (by kernel_rfl) ?_ _);clear hK K;cases b
   ·have hN3:=((ah HN).set2 hne hl2 p true _ (ah VO true).symm).drew;have y1:=hN3.x1;have yc:(wr.setCell ⟨G2,p,none⟩ (.bool true)).drew.cell? ⟨G2,p,none⟩=some (.bool true):=bQ _ hcp;have HN3:=aj hN3;have hnb:=(ah HST).1 rfl;have HNB:=aj hnb;clear hN3 hnb
    go_wp2_with fail
    refine ah7 (v:=.bool true) (by simp[results,results62,go_sem]) rfl ?_;unfold NP;rw[ah HNB,ah HNT,ah HNC];exact⟨rfl,ah HN3⟩
   ·have hN3:=((ah HN).set2 hne hl2 p false _ (ah VO false).symm).drew;have y1:=hN3.x1;have yc:(wr.setCell ⟨G2,p,none⟩ (.bool false)).drew.cell? ⟨G2,p,none⟩=some (.bool false):=bQ _ hcp;have HN3:=aj hN3;clear hN3
    go_wp2_with fail
    refine⟨⟨p,by omega,rfl,?_,(ah HST).2 rfl⟩,by simp[intOf]⟩;have e:hl.take p++List.replicate (nc-p) false=hl.take p++false::List.replicate (nc-(p+1)) false:=by
     rw[show nc-p=nc-(p+1)+1 by omega,List.replicate_succ]
    rw[e];exact ah HN3
  ·have hkk:k=0:=(by omega);subst hkk;have hnb:nb hl=none:=(by simpa using ah hno);have HNB:=aj hnb;have hN2:NX w G1 G2 nt nc row (List.replicate nc false) wr:=(by simpa using hN);have hx0:=hN2.x0;have hx1:=hN2.x1;have HN:=aj hN2;clear hN hno hnb hN2
   go_wp2_with fail
   go_loopw [4] (λi wr=>∃k:Nat,1<=k/\k<=nt/\i=.int .i64 ((k:Int)-1)/\NX w G1 G2 nt nc (row.take k++List.replicate (nt-k) 0) (List.replicate nc false) wr/\Hid (wP (cm 0 (row.take k)) (row.drop k)=none)) (λi _=>(intOf i).toNat)
   case atStart=>
    refine⟨nt,by omega,af0 _,rfl,?_,?_⟩
    ·rw[ai2 (by rw[ah HNT];exact af0 _),Nat.sub_self];simpa using ah HN
    ·rw[as8 (by rw[ah HNT];exact af0 _)];exact aj rfl
   case round=>
    clear HN hx0 hx1;obtain⟨k,hk1,hk,rfl,hN,hno⟩:=hrel;obtain⟨p,rfl⟩:∃p,k=p+1:=⟨k-1,by omega⟩;have hcast:(((p+1:Nat):Int)-1)=(p:Int):=(by omega);rw[hcast];clear hcast;have hpl:p<row.length:=(by rw[ah HNT];omega);by_cases hp0:0<p
    ·have hb0:(0:Int)<(p:Int):=(by omega);have hpb:(p:Int)<(nt:Int):=(by omega);have htk:row.take (p+1)=row.take p++[row[p]]:=(by rw[ai4,af2 hpl];rfl);have hst:=SC hpl (ah hno);have hA:(row.take p).length=p:=(by rw[al0];omega);have hgd:∀i (hi:i<row.length),row.getD i 0=row[i]:=λi hi=>by rw[ag8,af2 hi];rfl
     have hcc:∀i,i<p+1->wr.cell? ⟨G1,i,none⟩=some (.int .i64 (row.getD i 0)):=λi hi=>by
      rw[hN.r1.cellAt i (by omega),al7,ak3 (by simp;omega),ak7,List.getElem?_take_of_lt hi,af2 (by omega),hgd i (by omega)];rfl
     have hvv:∀i,i<p+1->row.getD i 0<=100:=λi hi=>by rw[hgd i (by omega)];exact ah HV _ (af4 _)
     have htm:∀i,i<p+1->cm 0 (row.take (i+1))=max (cm 0 (row.take i)) (row.getD i 0+1):=λi hi=>by rw[hgd i (by omega)];exact XG (by omega) 0
     rw[<-hgd p hpl]at hst;have hset:∀d:Nat,(row.take (p+1)++List.replicate (nt-(p+1)) 0).set p d=row.take p++d::List.replicate (nt-(p+1)) 0:=λd=>by
      rw[htk,ak6];exact set_mid _ _ _ _ hA
     have hfz:wr.frozen? ⟨G1,p,none⟩=false:=hN.r1.frozenAt p;rw[ah HNT]at hst;have HST:=aj hst;have VO:=aj hset;have hx0:=hN.x0;have hx1:=hN.x1;have HCC:=aj hcc;have HVV:=aj hvv;have HTM:=aj htm;have HN:=aj hN;clear hst hset htk hno hA hN hcc hvv htm hgd
     go_wp2_with fail
     go_loop [5,6] (λm j=>∃q:Nat,q<=p/\j=.int .i64 q/\m=.int .i64 ((cm 0 (row.take q):Int)-1)) (λ_ j=>p-(intOf j).toNat)
     case atStart=>exact⟨0,ah9 _,rfl,by simp[cm]⟩
     case round=>
      obtain⟨q,hq,rfl,rfl⟩:=hrel;by_cases hqp:q<p
      ·have hbq:(q:Int)<(p:Int):=(by omega);have hqn:(q:Int)<(nt:Int):=(by omega);have hcq:=ah HCC q (by omega);have hvq:=ah HVV q (by omega);have hcm:=ah HTM q (by omega);have hmb:=Yv (vs:=row.take q) (λx hx=>ah HV x (ao1 hx)) 0 (by omega);have HCM:=aj hcm;clear hcm;generalize row.getD q 0=d at hcq hvq HCM;generalize cm 0 (row.take q)=m at HCM hmb;by_cases hdm:(m:Int)-1<(d:Int)
       ·go_wp2_with fail
        refine⟨⟨q+1,hqp,by go_num,?_⟩,by simp[intOf];omega⟩;rw[ah HCM]
        congr 1;omega
       ·go_wp2_with fail
        refine⟨⟨q+1,hqp,by go_num,?_⟩,by simp[intOf];omega⟩;rw[ah HCM]
        congr 1;omega
      ·have hqq:q=p:=(by omega);subst hqq;have hbq:¬(q:Int)<(q:Int):=(by omega);have hcq:=ah HCC q (by omega);have hvq:=ah HVV q (by omega);have hmb:=Yv (vs:=row.take q) (λx hx=>ah HV x (ao1 hx)) 0 (by omega);generalize row.getD q 0=d at hcq hvq HST;generalize hm:cm 0 (row.take q)=m at HST hmb;have HM:=aj hm;clear hm;by_cases hdm:d<m
       ·have hle:(d:Int)<=(m:Int)-1:=(by omega);have hnx:=(ah HST).1 hdm;have HNX:=aj hnx;have hN3:=(ah HN).set1 hne hl1 q (d+1) _ (ah VO (d+1)).symm;have HN3:=aj hN3;clear hnx hN3
        go_wp2_with fail
        refine ah7 (v:=.bool true) (by simp[results,results62,go_sem]) rfl ?_;unfold NP;rw[ah HNB,ah HNX,ah HNT,ah HNC];exact⟨rfl,ah HN3⟩
       ·have hle:¬(d:Int)<=(m:Int)-1:=(by omega);have hN3:=(ah HN).set1 hne hl1 q 0 _ (ah VO 0).symm;have HN3:=aj hN3;clear hN3
        go_wp2_with fail
        refine⟨⟨q,hp0,by omega,rfl,?_,?_⟩,by simp[intOf];omega⟩
        ·have e:row.take q++List.replicate (nt-q) 0=row.take q++0::List.replicate (nt-(q+1)) 0:=by
          rw[show nt-q=nt-(q+1)+1 by omega,List.replicate_succ]
         rw[e];exact ah HN3
        ·rw[ah HM];exact(ah HST).2 hdm
    ·have hpp:p=0:=(by omega);subst hpp;have hnn:wP 0 row=none:=SB (ah hno);have HNN:=aj hnn;have HN:=aj hN;clear hnn hN hno
     go_wp2_with fail
     refine ah7 (v:=.bool false) (by simp[results,results62,go_sem]) rfl ?_;unfold NP;rw[ah HNB,ah HNN,ah HNT,ah HNC];exact⟨rfl,_,_,ah HN⟩
end
section
open Go.RowKit
open au (St put cut)
open Nx
attribute [local go_sem] Oper.semAt_some
theorem LV(w:World)(s:ByteArray)(hm:s.size<=maxLen)(hE:(zF s).1≠0) :
  Calls prog 40 #[.string s] w λe w'=>e=.returned (.tuple #[.int .i64 0,.int .i64 (zF s).1])/\Below w.heap.size w w':=by
 have HR:=aj (λw=>D7 w s hm);generalize zF s=c at HR hE;have hb:(c.1 != 0)=true:=by simpa using hE
 go_enter func40,ntmps40
 go_wp2_with fail
 refine((ah HR) _).mono ?_;rintro e w1 ⟨rfl,h1⟩
 go_wp2_with fail
 go_ret2
 exact⟨rfl,h1⟩
structure oP(w0:World)(nt nc:Nat)(o3 o6 o8:Option Nat)(W:World):Prop where
 below:Below w0.heap.size w0 W
 i3:∀G,o3=some G->w0.heap.size<=G/\W.heap[G]?=some (.cells (madeCells #[.int .i64 0] nt) 3)
 i6:∀H,o6=some H->w0.heap.size<=H/\W.heap[H]?=some (.cells (madeCells #[.bool false] nc) 4)
 i8:∀X,o8=some X->w0.heap.size<=X/\W.heap[X]?=some (.cells #[.slice none 0 0,.slice none 0 0] 118)
theorem oP.grow{w0:World}{nt nc:Nat}{o3 o6 o8:Option Nat}{W W':World}(h:oP w0 nt nc o3 o6 o8 W)(hb:Below W.heap.size W W'):oP w0 nt nc o3 o6 o8 W' where
 below:=h.below.trans (hb.mono h.below.size)
 i3:=λH e=>⟨(h.i3 H e).1,(hb.block H (ae8.1 (h.i3 H e).2).1).trans (h.i3 H e).2⟩
 i6:=λH e=>⟨(h.i6 H e).1,(hb.block H (ae8.1 (h.i6 H e).2).1).trans (h.i6 H e).2⟩
 i8:=λX e=>⟨(h.i8 X e).1,(hb.block X (ae8.1 (h.i8 X e).2).1).trans (h.i8 X e).2⟩
theorem oP.s3{w0:World}{nt nc:Nat}{o6 o8:Option Nat}{W:World}(h:oP w0 nt nc none o6 o8 W):oP w0 nt nc (some W.heap.size) o6 o8 (W.alloc (.cells (madeCells #[.int .i64 0] nt) 3)):=by
 have h2:=h.grow (kN W (.cells (madeCells #[.int .i64 0] nt) 3));exact⟨h2.below,λX e=>(by cases e;exact⟨h.below.size,ag4 _ _⟩),h2.i6,h2.i8⟩
theorem oP.s6{w0:World}{nt nc:Nat}{o3 o8:Option Nat}{W:World}(h:oP w0 nt nc o3 none o8 W):oP w0 nt nc o3 (some W.heap.size) o8 (W.alloc (.cells (madeCells #[.bool false] nc) 4)):=by
 have h2:=h.grow (kN W (.cells (madeCells #[.bool false] nc) 4));exact⟨h2.below,h2.i3,λX e=>(by cases e;exact⟨h.below.size,ag4 _ _⟩),h2.i8⟩
theorem oP.s8{w0:World}{nt nc:Nat}{o3 o6:Option Nat}{W:World}(h:oP w0 nt nc o3 o6 none W):oP w0 nt nc o3 o6 (some W.heap.size) (W.alloc (.cells #[.slice none 0 0,.slice none 0 0] 118)):=by
 have h2:=h.grow (kN W (.cells #[.slice none 0 0,.slice none 0 0] 118));exact⟨h2.below,h2.i3,h2.i6,λX e=>(by cases e;exact⟨h.below.size,ag4 _ _⟩)⟩
theorem oP.seen{w0:World}{nt nc B:Nat}{o3 o6 o8:Option Nat}{W:World}{v4 v5:Value}(h:oP w0 nt nc o3 o6 o8 W)(c4:w0.cell? ⟨B,4,none⟩=some v4)(c5:w0.cell? ⟨B,5,none⟩=some v5):W.cell? ⟨B,4,none⟩=some v4/\W.cell? ⟨B,5,none⟩=some v5:=
 ⟨(h.below.cell (p:=⟨B,4,none⟩) (af5 w0 _ c4)).trans c4,(h.below.cell (p:=⟨B,5,none⟩) (af5 w0 _ c5)).trans c5⟩
theorem oP.xI{w0:World}{nt nc B X:Nat}{o3 o6:Option Nat}{W:World}{v4 v5 u v:Value}(h:oP w0 nt nc o3 o6 (some X) W)(c4:w0.cell? ⟨B,4,none⟩=some v4)(c5:w0.cell? ⟨B,5,none⟩=some v5) :
  ((W.setCell ⟨X,0,none⟩ u).setCell ⟨X,1,none⟩ v).cell? ⟨B,4,none⟩=some v4/\((W.setCell ⟨X,0,none⟩ u).setCell ⟨X,1,none⟩ v).cell? ⟨B,5,none⟩=some v5:=by
 have hB:=af5 w0 _ c4;have hX:=(h.i8 X rfl).1;have hne:B≠X:=λe=>by subst e;exact absurd hB (by show ¬B<_;omega)
 have hk:((W.setCell ⟨X,0,none⟩ u).setCell ⟨X,1,none⟩ v).heap[B]?=W.heap[B]?:=(ag6 _ _ _ _ hne).trans (ag6 _ _ _ _ hne);obtain⟨h4,h5⟩:=h.seen c4 c5;exact⟨(ag2 hk).trans h4,(ag2 hk).trans h5⟩
structure Yx(w0:World)(nt nc G H X:Nat)(W:World):Prop where
 below:Below w0.heap.size w0 W
 lg:w0.heap.size<=G
 lh:w0.heap.size<=H
 lx:w0.heap.size<=X
 g:W.heap[G]?=some (.cells (madeCells #[.int .i64 0] nt) 3)
 h:W.heap[H]?=some (.cells (madeCells #[.bool false] nc) 4)
 x:W.heap[X]?=some (.cells #[.slice (some ⟨G,0,none⟩) nt nt,.slice (some ⟨H,0,none⟩) nc nc] 118)
theorem qP{W:World}{a b t u:Nat}{p q:Array Value}(ha:W.heap[a]?=some (.cells p t))(hb:W.heap[b]?=some (.cells q u))(h:t≠u):a≠b:=λe=>by
 subst e;rw[ha]at hb;have h1:=am2 hb;injection h1 with _ h2 _
 exact h h2
theorem oP.fin{w0:World}{nt nc G H X:Nat}{W:World}(h:oP w0 nt nc (some G) (some H) (some X) W):Yx w0 nt nc G H X ((W.setCell ⟨X,0,none⟩ (.slice (some ⟨G,0,none⟩) nt nt)).setCell ⟨X,1,none⟩ (.slice (some ⟨H,0,none⟩) nc nc)):=by
 obtain⟨lx,hx⟩:=h.i8 X rfl;obtain⟨lh,hh⟩:=h.i6 H rfl;obtain⟨lg,hg⟩:=h.i3 G rfl;have n1:H≠X:=qP hh hx (by decide);have n2:G≠X:=qP hg hx (by decide);have hk:∀j,j≠X->((W.setCell ⟨X,0,none⟩ (.slice (some ⟨G,0,none⟩) nt nt)).setCell ⟨X,1,none⟩ (.slice (some ⟨H,0,none⟩) nc nc)).heap[j]?=W.heap[j]?:=λj hj=>(ag6 _ _ _ _ hj).trans (ag6 _ _ _ _ hj);exact⟨(h.below.setCell (p:=⟨X,0,none⟩) lx _).setCell (p:=⟨X,1,none⟩) lx _,lg,lh,lx,(hk G n2).trans hg,(hk H n1).trans hh,Wj hx⟩
structure YW(w1:World)(G H X nt nc:Nat)(row:List Nat)(hl:List Bool)(W:World):Prop where
 x0:W.cell? ⟨X,0,none⟩=some (.slice (some ⟨G,0,none⟩) nt nt)
 x1:W.cell? ⟨X,1,none⟩=some (.slice (some ⟨H,0,none⟩) nc nc)
 r1:W.ownsRow 0 3 1 (.slice (some ⟨G,0,none⟩) nt nt) nt (row.map kL)
 r2:W.ownsRow 0 4 1 (.slice (some ⟨H,0,none⟩) nc nc) nc (hl.map Value.bool)
 below:Below w1.heap.size w1 W
theorem YW.step{w1:World}{G H X nt nc:Nat}{row:List Nat}{hl:List Bool}{W W':World}(h:YW w1 G H X nt nc row hl W)(hb:Below W.heap.size W W'):YW w1 G H X nt nc row hl W':=by
 have hg:W.grownBy W' none:=⟨hb.os,hb.tape,hb.output,hb.size,λk hk _=>hb.block k hk⟩;exact⟨hg.cell h.x0 (by simp),hg.cell h.x1 (by simp),h.r1.kept hg (Or.inr (by simp[Value.ownBlock])),h.r2.kept hg (Or.inr (by simp[Value.ownBlock])),h.below.trans (hb.mono h.below.size)⟩
theorem YW.next{w1:World}{G H X nt nc:Nat}{row row':List Nat}{hl hl':List Bool}{W W':World}(h:YW w1 G H X nt nc row hl W)(hg:X≠G)(hh:X≠H)(lg:w1.heap.size<=G)(lh:w1.heap.size<=H)(hn:NX W G H nt nc row' hl' W'):YW w1 G H X nt nc row' hl' W':=by
 have hX:=af5 W _ h.x0;have hb:W'.heap[X]?=W.heap[X]?:=hn.block X hX hg hh;have hs:=h.below.size;exact⟨(ag2 hb).trans h.x0,(ag2 hb).trans h.x1,hn.r1,hn.r2,⟨hn.os.trans h.below.os,hn.tape.trans h.below.tape,hn.output.trans h.below.output,ah2 hs (au6 hn.size),λj hj=>(hn.block j (by omega) (by omega) (by omega)).trans (h.below.block j hj)⟩⟩
theorem y8(row:List Nat):(wG row).length=row.length:=by simp[wG]
theorem YW.cs{w1:World}{G H X nt nc:Nat}{row:List Nat}{hl:List Bool}{W:World}(h:YW w1 G H X nt nc row hl W)(h1:row.length=nt)(h2:hl.length=nc):CS W W.heap.size (.slice (some ⟨G,0,none⟩) nt nt) (.slice (some ⟨H,0,none⟩) nc nc) (wG row) hl:=by
 refine⟨⟨_,_,by rw[y8,h1],λ_=>⟨G,rfl,(h.r1.lt G rfl).2,λj hj=>?_⟩⟩,⟨_,_,by rw[h2],λ_=>⟨H,rfl,(h.r2.lt H rfl).2,λj hj=>?_⟩⟩⟩
 ·have hj':j<row.length:=by rw[y8]at hj;exact hj
  rw[h.r1.cellAt j (by omega)];simp[wG,kL,hj']
 ·rw[h.r2.cellAt j (by omega)];simp[hj]
def YI(w1:World)(s:ByteArray)(T C:List (List UInt8))(nt nc G H X r:Nat)(v:Value)(wr:World):Prop:=
 ∃k row j hl,(rws 0 nt)[k]?=some row/\(mO nc)[j]?=some hl/\r=((rws 0 nt).length-k)*20-j/\v=.int .i64 ((sumTo (rws 0 nt) (sG s T C) k+((mO nc).take j).countP (λhl=>snd T C (wG row) hl&&Eb s (wG row) hl):Nat))/\YW w1 G H X nt nc row hl wr
theorem Gs{W:World}{G n e:Nat}{z:Value}(h:W.heap[G]?=some (.cells (madeCells #[z] n) e))(hn:n<=100):W.ownsRow 0 e 1 (.slice (some ⟨G,0,none⟩) n n) n (List.replicate n z):=by
 have e1:(madeCells #[z] n).toList=List.replicate n z:=toList_madeCells_one _ _;refine⟨by simp,.inr ⟨G,n,madeCells #[z] n,rfl,ah9 _,h,af0 _,by unfold maxLen;omega,?_,?_⟩⟩
 ·have:=ap7 List.length e1;simpa using this
 ·rw[e1,Nat.mul_one,ai2 (by simp)]
theorem QA(w:World)(s:ByteArray)(hs:s.size<=100)(τ:St)(HT:Hid (gQ s=τ))(hE:τ.E=0)(hlt:¬τ.a<s.size)(h0:0<τ.T.length)(h7:τ.T.length<=7)(h4:τ.C.length<=4)(hG:NI τ.T τ.C) :
  Calls prog 40 #[.string s] w λe w'=>e=.returned (.tuple #[.int .i64 (Qc s τ.T τ.C),.int .i64 0])/\Below w.heap.size w w':=by
 have HR:=aj (BX w s hs τ HT hE hlt h7 h4);have HS:=aj (fun(w1:World) (cl:List Int) (hl:List Bool) (k1 k2 v4 v5:Value) h1 h2 h=>zn w1 w.heap.size τ.T τ.C cl hl k1 k2 v4 v5 hG h7 h4 h1 h2 h);have HV:=aj (fun(w1:World) (cl:List Int) (hl:List Bool) (k1 k2:Value) h1 h2 h=>FY w1 s k1 k2 cl hl hs (by rw[ah HT];exact hE) (by rw[ah HT];exact h1) (by rw[ah HT];exact h2) h);have hdl:=XE s τ.T τ.C h4;have HDL:=aj hdl;obtain⟨N,hN⟩:∃N,Qc s τ.T τ.C=N:=⟨_,rfl⟩;rw[hN];have HN:=aj hN;clear hN hdl;obtain⟨nt,hnt⟩:∃nt,τ.T.length=nt:=⟨_,rfl⟩;obtain⟨nc,hnc⟩:∃nc,τ.C.length=nc:=⟨_,rfl⟩;rw[hnt]at h0 h7;rw[hnc]at h4;have HNT:=aj hnt;have HNC:=aj hnc;have HMI:Hid (∀W:World,(Instr.makeSlice 58 (.int .i64 (nt:Int)) (.int .i64 (nt:Int))).run prog W=.ok (.slice (some ⟨W.heap.size,0,none⟩) nt nt) (W.alloc (.cells (madeCells #[.int .i64 0] nt) 3))):=λW=>
  run_make_row' (P:=prog) 58 3 (.int .i64 0) 8 underlying58 Nh rfl .i64 .i64 nt (by omega) (by omega) W
 have HMK:Hid (∀W:World,(Instr.makeSlice 103 (.int .i64 (nc:Int)) (.int .i64 (nc:Int))).run prog W=.ok (.slice (some ⟨W.heap.size,0,none⟩) nc nc) (W.alloc (.cells (madeCells #[.bool false] nc) 4))):=λW=>
  run_make_row' (P:=prog) 103 4 (.bool false) 1 underlying103 Nc rfl .i64 .i64 nc (by omega) (by omega) W
 clear hnt hnc
 go_enter func40,ntmps40
 go_wp2_with fail
 refine(ah HR).mono ?_;rintro e w1 ⟨rfl,h1,hI⟩;obtain⟨v4,v5,c4,c5,r4,r5,_⟩:=hI.rows;have hlt1:=hI.lt;obtain⟨a4,p4,rfl⟩:=aV r4;obtain⟨a5,p5,rfl⟩:=aV r5;have R4:=aj (fE r4 (ah9 _));have R5:=aj (fE r5 (ah9 _));clear hI HR r4 r5;rw[ah HNT]at c4;rw[ah HNC]at c5;have hI:oP w1 nt nc none none none w1:=⟨ai7 _ _,λ_ e=>(by cases e),λ_ e=>(by cases e),λ_ e=>(by cases e)⟩
 go_wp2_with fail
 refine Code.wp_mono (Q:=λe a W'=>e=.normal/\∃(G H X:Nat),a={tmps:=#[.string s,undef,.int .i64 0,.int .i64 0,.pointer (some ⟨w.heap.size,0,none⟩),.int .i64 0,.int .i64 0,.pointer (some ⟨X,0,none⟩),undef,undef,undef,undef,.tuple #[.pointer (some ⟨w.heap.size,0,none⟩),.int .i64 0,.int .i64 0],.string s,.tuple #[.pointer (some ⟨w.heap.size,0,none⟩),.int .i64 0,.int .i64 0],.pointer (some ⟨w.heap.size,0,none⟩),.int .i64 0,.int .i64 0,.int .i64 0,.bool false,undef,.pointer (some ⟨w.heap.size,0,none⟩),.pointer (some ⟨w.heap.size,0,none⟩),.pointer (some ⟨w.heap.size,4,none⟩),.slice a4 nt p4,.int .i64 nt,.slice (some ⟨G,0,none⟩) nt nt,.pointer (some ⟨w.heap.size,0,none⟩),.pointer (some ⟨w.heap.size,0,none⟩),.pointer (some ⟨w.heap.size,5,none⟩),.slice a5 nc p5,.int .i64 nc,.slice (some ⟨H,0,none⟩) nc nc,.agg #[.slice (some ⟨G,0,none⟩) nt nt,.slice (some ⟨H,0,none⟩) nc nc],undef,undef,undef,undef,undef,undef,undef,undef,undef,undef,undef,undef,undef,undef,undef],defers:=[]}/\Yx w1 nt nc G H X W') ?_ ?_
 rotate_left
 ·refine aj0 (S:=λW'=>W'.cell? ⟨w.heap.size,4,none⟩=some (.slice a4 nt p4)/\W'.cell? ⟨w.heap.size,5,none⟩=some (.slice a5 nc p5)) rfl ?_;simp only[ag3,ag0,ah0,Nat.reduceAdd,af8,af7,ag5,ag9,ag7];have hI:=hI.grow ((ai7 _ w1).drew);change wpAnyH prog .any _ _ _ _ _ _ w1.drew;generalize w1.drew=W at hI ⊢;have hS0:=hI.seen c4 c5;refine tH 0 (.pointer (some ⟨w.heap.size,0,none⟩)) (λw' hS=>?_) hS0 ?_
  ·obtain⟨s1,s2⟩:=hS;go_simp
  simp only[aG];refine tH 1 (.pointer (some ⟨w.heap.size,0,none⟩)) (λw' hS=>?_) hS0 ?_
  ·obtain⟨s1,s2⟩:=hS;go_simp
  simp only[aG];refine tH 2 (.pointer (some ⟨w.heap.size,4,none⟩)) (λw' hS=>?_) hS0 ?_
  ·obtain⟨s1,s2⟩:=hS;go_simp
  simp only[aG];refine tH 3 (.slice a4 nt p4) (λw' hS=>?_) hS0 ?_
  ·obtain⟨s1,s2⟩:=hS;go_simp
  simp only[aG];refine tH 4 (.int .i64 nt) (λw' hS=>?_) hS0 ?_
  ·obtain⟨s1,s2⟩:=hS;go_simp
  simp only[aG];refine tH 6 (.pointer (some ⟨w.heap.size,0,none⟩)) (λw' hS=>?_) hS0 ?_
  ·obtain⟨s1,s2⟩:=hS;go_simp
  simp only[aG];refine tH 7 (.pointer (some ⟨w.heap.size,0,none⟩)) (λw' hS=>?_) hS0 ?_
  ·obtain⟨s1,s2⟩:=hS;go_simp
  simp only[aG];refine tH 8 (.pointer (some ⟨w.heap.size,5,none⟩)) (λw' hS=>?_) hS0 ?_
  ·obtain⟨s1,s2⟩:=hS;go_simp
  simp only[aG];refine tH 9 (.slice a5 nc p5) (λw' hS=>?_) hS0 ?_
  ·obtain⟨s1,s2⟩:=hS;go_simp
  simp only[aG];refine tH 10 (.int .i64 nc) (λw' hS=>?_) hS0 ?_
  ·obtain⟨s1,s2⟩:=hS;go_simp
  simp only[aG];clear hS0;refine a3 5 11 13 ?_ ?_ ?_
  ·refine oO (λK hK=>?_);have hI2:=hI.s3;have hmk:=ah HMI W;go_simp;refine hK.out _ _ ⟨hI2.seen c4 c5,?_⟩;clear hK K;generalize W.alloc (.cells (madeCells #[.int .i64 0] nt) 3)=W2 at hI2 ⊢;clear hmk;generalize W.heap.size=G at hI2 ⊢;clear hI W
   rename World=>W
   have hI:=hI2;clear hI2;refine a2 11 13 ?_ ?_
   ·refine oO (λK hK=>?_);have hI2:=hI.s6;have hmk:=ah HMK W;go_simp;refine hK.out _ _ ⟨hI2.seen c4 c5,?_⟩;clear hK K;generalize W.alloc (.cells (madeCells #[.bool false] nc) 4)=W2 at hI2 ⊢;clear hmk;generalize W.heap.size=H at hI2 ⊢;clear hI W
    rename World=>W
    have hI:=hI2;clear hI2;refine a2 12 13 ?_ ?_
    ·refine oO (λK hK=>?_);go_simp;refine hK.out _ _ ⟨hI.seen c4 c5,?_⟩;clear hK K;refine a1 13 ?_;refine oO (λK hK=>?_);have hI2:=hI.s8;go_simp;refine hK.out _ _ ⟨hI2.seen c4 c5,?_⟩;clear hK K;generalize W.alloc (.cells #[.slice none 0 0,.slice none 0 0] 118)=W2 at hI2 ⊢;generalize W.heap.size=X at hI2 ⊢;clear hI W
     rename World=>W
     have hI:=hI2;clear hI2;refine a1 14 ?_;have cx:=(hI.i8 X rfl).2;have cx0:W.cell? ⟨X,0,none⟩=some (.slice none 0 0):=(by rw[Lib.cell_of_heap cx];rfl);have cx1:W.cell? ⟨X,1,none⟩=some (.slice none 0 0):=(by rw[Lib.cell_of_heap cx];rfl);have fx0:W.frozen? ⟨X,0,none⟩=false:=al3 cx 0;have fx1:W.frozen? ⟨X,1,none⟩=false:=al3 cx 1;refine oO (λK hK=>?_);go_simp;refine hK.out _ _ ⟨hI.xI c4 c5,ai8 (by kernel_rfl) ⟨rfl,G,H,X,rfl,hI.fin⟩ _⟩
    ·refine oO (λK hK=>?_);have hI2:=hI.s8;go_simp;refine hK.out _ _ ⟨hI2.seen c4 c5,?_⟩;clear hK K;generalize W.alloc (.cells #[.slice none 0 0,.slice none 0 0] 118)=W2 at hI2 ⊢;generalize W.heap.size=X at hI2 ⊢;clear hI W
     rename World=>W
     have hI:=hI2;clear hI2;refine a1 12 ?_;refine oO (λK hK=>?_);go_simp;refine hK.out _ _ ⟨hI.seen c4 c5,?_⟩;clear hK K;refine a1 14 ?_;have cx:=(hI.i8 X rfl).2;have cx0:W.cell? ⟨X,0,none⟩=some (.slice none 0 0):=(by rw[Lib.cell_of_heap cx];rfl);have cx1:W.cell? ⟨X,1,none⟩=some (.slice none 0 0):=(by rw[Lib.cell_of_heap cx];rfl);have fx0:W.frozen? ⟨X,0,none⟩=false:=al3 cx 0;have fx1:W.frozen? ⟨X,1,none⟩=false:=al3 cx 1;refine oO (λK hK=>?_);go_simp;refine hK.out _ _ ⟨hI.xI c4 c5,ai8 (by kernel_rfl) ⟨rfl,G,H,X,rfl,hI.fin⟩ _⟩
   ·refine oO (λK hK=>?_);have hI2:=hI.s8;go_simp;refine hK.out _ _ ⟨hI2.seen c4 c5,?_⟩;clear hK K;generalize W.alloc (.cells #[.slice none 0 0,.slice none 0 0] 118)=W2 at hI2 ⊢;generalize W.heap.size=X at hI2 ⊢;clear hI W
    rename World=>W
    have hI:=hI2;clear hI2;refine a1 11 ?_;refine oO (λK hK=>?_);have hI2:=hI.s6;have hmk:=ah HMK W;go_simp;refine hK.out _ _ ⟨hI2.seen c4 c5,?_⟩;clear hK K;generalize W.alloc (.cells (madeCells #[.bool false] nc) 4)=W2 at hI2 ⊢;clear hmk;generalize W.heap.size=H at hI2 ⊢;clear hI W
    rename World=>W
    have hI:=hI2;clear hI2;refine a1 12 ?_;refine oO (λK hK=>?_);go_simp;refine hK.out _ _ ⟨hI.seen c4 c5,?_⟩;clear hK K;refine a1 14 ?_;have cx:=(hI.i8 X rfl).2;have cx0:W.cell? ⟨X,0,none⟩=some (.slice none 0 0):=(by rw[Lib.cell_of_heap cx];rfl);have cx1:W.cell? ⟨X,1,none⟩=some (.slice none 0 0):=(by rw[Lib.cell_of_heap cx];rfl);have fx0:W.frozen? ⟨X,0,none⟩=false:=al3 cx 0;have fx1:W.frozen? ⟨X,1,none⟩=false:=al3 cx 1;refine oO (λK hK=>?_);go_simp;refine hK.out _ _ ⟨hI.xI c4 c5,ai8 (by kernel_rfl) ⟨rfl,G,H,X,rfl,hI.fin⟩ _⟩
  ·refine oO (λK hK=>?_);have hI2:=hI.s6;have hmk:=ah HMK W;go_simp;refine hK.out _ _ ⟨hI2.seen c4 c5,?_⟩;clear hK K;generalize W.alloc (.cells (madeCells #[.bool false] nc) 4)=W2 at hI2 ⊢;clear hmk;generalize W.heap.size=H at hI2 ⊢;clear hI W
   rename World=>W
   have hI:=hI2;clear hI2;refine a2 5 13 ?_ ?_
   ·refine oO (λK hK=>?_);have hI2:=hI.s3;have hmk:=ah HMI W;go_simp;refine hK.out _ _ ⟨hI2.seen c4 c5,?_⟩;clear hK K;generalize W.alloc (.cells (madeCells #[.int .i64 0] nt) 3)=W2 at hI2 ⊢;clear hmk;generalize W.heap.size=G at hI2 ⊢;clear hI W
    rename World=>W
    have hI:=hI2;clear hI2;refine a2 12 13 ?_ ?_
    ·refine oO (λK hK=>?_);go_simp;refine hK.out _ _ ⟨hI.seen c4 c5,?_⟩;clear hK K;refine a1 13 ?_;refine oO (λK hK=>?_);have hI2:=hI.s8;go_simp;refine hK.out _ _ ⟨hI2.seen c4 c5,?_⟩;clear hK K;generalize W.alloc (.cells #[.slice none 0 0,.slice none 0 0] 118)=W2 at hI2 ⊢;generalize W.heap.size=X at hI2 ⊢;clear hI W
     rename World=>W
     have hI:=hI2;clear hI2;refine a1 14 ?_;have cx:=(hI.i8 X rfl).2;have cx0:W.cell? ⟨X,0,none⟩=some (.slice none 0 0):=(by rw[Lib.cell_of_heap cx];rfl);have cx1:W.cell? ⟨X,1,none⟩=some (.slice none 0 0):=(by rw[Lib.cell_of_heap cx];rfl);have fx0:W.frozen? ⟨X,0,none⟩=false:=al3 cx 0;have fx1:W.frozen? ⟨X,1,none⟩=false:=al3 cx 1;refine oO (λK hK=>?_);go_simp;refine hK.out _ _ ⟨hI.xI c4 c5,ai8 (by kernel_rfl) ⟨rfl,G,H,X,rfl,hI.fin⟩ _⟩
    ·refine oO (λK hK=>?_);have hI2:=hI.s8;go_simp;refine hK.out _ _ ⟨hI2.seen c4 c5,?_⟩;clear hK K;generalize W.alloc (.cells #[.slice none 0 0,.slice none 0 0] 118)=W2 at hI2 ⊢;generalize W.heap.size=X at hI2 ⊢;clear hI W
     rename World=>W
     have hI:=hI2;clear hI2;refine a1 12 ?_;refine oO (λK hK=>?_);go_simp;refine hK.out _ _ ⟨hI.seen c4 c5,?_⟩;clear hK K;refine a1 14 ?_;have cx:=(hI.i8 X rfl).2;have cx0:W.cell? ⟨X,0,none⟩=some (.slice none 0 0):=(by rw[Lib.cell_of_heap cx];rfl);have cx1:W.cell? ⟨X,1,none⟩=some (.slice none 0 0):=(by rw[Lib.cell_of_heap cx];rfl);have fx0:W.frozen? ⟨X,0,none⟩=false:=al3 cx 0;have fx1:W.frozen? ⟨X,1,none⟩=false:=al3 cx 1;refine oO (λK hK=>?_);go_simp;refine hK.out _ _ ⟨hI.xI c4 c5,ai8 (by kernel_rfl) ⟨rfl,G,H,X,rfl,hI.fin⟩ _⟩
   ·refine oO (λK hK=>?_);have hI2:=hI.s8;go_simp;refine hK.out _ _ ⟨hI2.seen c4 c5,?_⟩;clear hK K;generalize W.alloc (.cells #[.slice none 0 0,.slice none 0 0] 118)=W2 at hI2 ⊢;generalize W.heap.size=X at hI2 ⊢;clear hI W
    rename World=>W
    have hI:=hI2;clear hI2;refine a1 5 ?_;refine oO (λK hK=>?_);have hI2:=hI.s3;have hmk:=ah HMI W;go_simp;refine hK.out _ _ ⟨hI2.seen c4 c5,?_⟩;clear hK K;generalize W.alloc (.cells (madeCells #[.int .i64 0] nt) 3)=W2 at hI2 ⊢;clear hmk;generalize W.heap.size=G at hI2 ⊢;clear hI W
    rename World=>W
    have hI:=hI2;clear hI2;refine a1 12 ?_;refine oO (λK hK=>?_);go_simp;refine hK.out _ _ ⟨hI.seen c4 c5,?_⟩;clear hK K;refine a1 14 ?_;have cx:=(hI.i8 X rfl).2;have cx0:W.cell? ⟨X,0,none⟩=some (.slice none 0 0):=(by rw[Lib.cell_of_heap cx];rfl);have cx1:W.cell? ⟨X,1,none⟩=some (.slice none 0 0):=(by rw[Lib.cell_of_heap cx];rfl);have fx0:W.frozen? ⟨X,0,none⟩=false:=al3 cx 0;have fx1:W.frozen? ⟨X,1,none⟩=false:=al3 cx 1;refine oO (λK hK=>?_);go_simp;refine hK.out _ _ ⟨hI.xI c4 c5,ai8 (by kernel_rfl) ⟨rfl,G,H,X,rfl,hI.fin⟩ _⟩
  ·refine oO (λK hK=>?_);have hI2:=hI.s8;go_simp;refine hK.out _ _ ⟨hI2.seen c4 c5,?_⟩;clear hK K;generalize W.alloc (.cells #[.slice none 0 0,.slice none 0 0] 118)=W2 at hI2 ⊢;generalize W.heap.size=X at hI2 ⊢;clear hI W
   rename World=>W
   have hI:=hI2;clear hI2;refine a2 5 11 ?_ ?_
   ·refine oO (λK hK=>?_);have hI2:=hI.s3;have hmk:=ah HMI W;go_simp;refine hK.out _ _ ⟨hI2.seen c4 c5,?_⟩;clear hK K;generalize W.alloc (.cells (madeCells #[.int .i64 0] nt) 3)=W2 at hI2 ⊢;clear hmk;generalize W.heap.size=G at hI2 ⊢;clear hI W
    rename World=>W
    have hI:=hI2;clear hI2;refine a1 11 ?_;refine oO (λK hK=>?_);have hI2:=hI.s6;have hmk:=ah HMK W;go_simp;refine hK.out _ _ ⟨hI2.seen c4 c5,?_⟩;clear hK K;generalize W.alloc (.cells (madeCells #[.bool false] nc) 4)=W2 at hI2 ⊢;clear hmk;generalize W.heap.size=H at hI2 ⊢;clear hI W
    rename World=>W
    have hI:=hI2;clear hI2;refine a1 12 ?_;refine oO (λK hK=>?_);go_simp;refine hK.out _ _ ⟨hI.seen c4 c5,?_⟩;clear hK K;refine a1 14 ?_;have cx:=(hI.i8 X rfl).2;have cx0:W.cell? ⟨X,0,none⟩=some (.slice none 0 0):=(by rw[Lib.cell_of_heap cx];rfl);have cx1:W.cell? ⟨X,1,none⟩=some (.slice none 0 0):=(by rw[Lib.cell_of_heap cx];rfl);have fx0:W.frozen? ⟨X,0,none⟩=false:=al3 cx 0;have fx1:W.frozen? ⟨X,1,none⟩=false:=al3 cx 1;refine oO (λK hK=>?_);go_simp;refine hK.out _ _ ⟨hI.xI c4 c5,ai8 (by kernel_rfl) ⟨rfl,G,H,X,rfl,hI.fin⟩ _⟩
   ·refine oO (λK hK=>?_);have hI2:=hI.s6;have hmk:=ah HMK W;go_simp;refine hK.out _ _ ⟨hI2.seen c4 c5,?_⟩;clear hK K;generalize W.alloc (.cells (madeCells #[.bool false] nc) 4)=W2 at hI2 ⊢;clear hmk;generalize W.heap.size=H at hI2 ⊢;clear hI W
    rename World=>W
    have hI:=hI2;clear hI2;refine a1 5 ?_;refine oO (λK hK=>?_);have hI2:=hI.s3;have hmk:=ah HMI W;go_simp;refine hK.out _ _ ⟨hI2.seen c4 c5,?_⟩;clear hK K;generalize W.alloc (.cells (madeCells #[.int .i64 0] nt) 3)=W2 at hI2 ⊢;clear hmk;generalize W.heap.size=G at hI2 ⊢;clear hI W
    rename World=>W
    have hI:=hI2;clear hI2;refine a1 12 ?_;refine oO (λK hK=>?_);go_simp;refine hK.out _ _ ⟨hI.seen c4 c5,?_⟩;clear hK K;refine a1 14 ?_;have cx:=(hI.i8 X rfl).2;have cx0:W.cell? ⟨X,0,none⟩=some (.slice none 0 0):=(by rw[Lib.cell_of_heap cx];rfl);have cx1:W.cell? ⟨X,1,none⟩=some (.slice none 0 0):=(by rw[Lib.cell_of_heap cx];rfl);have fx0:W.frozen? ⟨X,0,none⟩=false:=al3 cx 0;have fx1:W.frozen? ⟨X,1,none⟩=false:=al3 cx 1;refine oO (λK hK=>?_);go_simp;refine hK.out _ _ ⟨hI.xI c4 c5,ai8 (by kernel_rfl) ⟨rfl,G,H,X,rfl,hI.fin⟩ _⟩
 ·rintro e a W ⟨rfl,G,H,X,rfl,hL⟩;dsimp only;have hxg:X≠G:=qP hL.x hL.g (by decide);have hxh:X≠H:=qP hL.x hL.h (by decide);have hgh:G≠H:=qP hL.g hL.h (by decide);have lg:=hL.lg;have lh:=hL.lh;have lx:=hL.lx;have hx0:W.cell? ⟨X,0,none⟩=some (.slice (some ⟨G,0,none⟩) nt nt):=by rw[Lib.cell_of_heap hL.x];rfl
  have hx1:W.cell? ⟨X,1,none⟩=some (.slice (some ⟨H,0,none⟩) nc nc):=by rw[Lib.cell_of_heap hL.x];rfl
  have hY0:YW w1 G H X nt nc (List.replicate nt 0) (List.replicate nc false) W:=⟨hx0,hx1,by rw[List.map_replicate];exact Gs hL.g (by omega),by rw[List.map_replicate];exact Gs hL.h (by omega),hL.below⟩;have hI0:YI w1 s τ.T τ.C nt nc G H X ((rws 0 nt).length*20) (.int .i64 0) W:=⟨0,_,0,_,uG _ _,wB _,by simp,by simp[Je],hY0⟩;clear hL hx0 hx1 hY0 hI HMI HMK
  go_wp2_with fail
  go_loopw [8] (λv wr=>∃r,YI w1 s τ.T τ.C nt nc G H X r v wr) (λv wr=>Classical.epsilon λr=>YI w1 s τ.T τ.C nt nc G H X r v wr/\∀m,YI w1 s τ.T τ.C nt nc G H X m v wr->r<=m)
  case atStart=>exact⟨_,hI0⟩
  case round=>
   clear hI0;have hsp:=UQ hrel;obtain⟨k,row,j,hl,hrow,hhl,hr,rfl,hY⟩:=hsp;have hkl:k<(rws 0 nt).length:=(ao6.1 hrow).1;have hjl:j<(mO nc).length:=(ao6.1 hhl).1;have hgk:(rws 0 nt)[k]=row:=(ao6.1 hrow).2;have hgj:(mO nc)[j]=hl:=(ao6.1 hhl).2;have hrl:row.length=nt:=uH _ _ row (List.mem_of_getElem? hrow);have Zd:hl.length=nc:=Fv _ hl (List.mem_of_getElem? hhl);have hle:∀x∈row,x<=100:=λx hx=>by have:=Rq _ _ row (List.mem_of_getElem? hrow) x hx;omega
   have ho1:=MJ nt 0 k hkl;have ho2:=ND nc j hjl;rw[hgk]at ho1;rw[hgj]at ho2;have hb16:(mO nc).length<=16:=by
    rw[lX];have h':nc=0\/nc=1\/nc=2\/nc=3\/nc=4:=(by omega);rcases h' with h|h|h|h|h<;>rw[h]<;>decide
   have hsum:=zk (rws 0 nt) (sG s τ.T τ.C) hkl;rw[hgk]at hsum;have acU:=sumTo_le (rws 0 nt) (sG s τ.T τ.C) (ah HDL) k;have hfew:=Wp h7;obtain⟨gg,hgg⟩:∃gg:List Bool->Bool,(λhl=>snd τ.T τ.C (wG row) hl&&Eb s (wG row) hl)=gg:=⟨_,rfl⟩;have hd1:sG s τ.T τ.C row=(mO nc).countP gg:=(by unfold sG;rw[hgg,ah HNC]);have hct:((mO nc).take (j+1)).countP gg=((mO nc).take j).countP gg+if gg hl=true then 1 else 0:=by
    rw[ai4,hhl,List.countP_append];simp[ar9]
   have ade:((mO nc).take j).countP gg<=16:=ah2 List.countP_le_length (by rw[al0];omega);have hgq:gg hl=(snd τ.T τ.C (wG row) hl&&Eb s (wG row) hl):=(by rw[<-hgg]);have hfin:Hid (∀(W3 W4:World) (e:Ending),YW w1 G H X nt nc row hl W3->NP W3 G H row hl e W4->
     (e=.returned (.bool true)/\∃r',r'<(Classical.epsilon λr=>YI w1 s τ.T τ.C nt nc G H X r (.int .i64 ((sumTo (rws 0 nt) (sG s τ.T τ.C) k+((mO nc).take j).countP gg:Nat))) wr/\∀m,YI w1 s τ.T τ.C nt nc G H X m (.int .i64 ((sumTo (rws 0 nt) (sG s τ.T τ.C) k+((mO nc).take j).countP gg:Nat))) wr->r<=m)/\YI w1 s τ.T τ.C nt nc G H X r' (.int .i64 ((sumTo (rws 0 nt) (sG s τ.T τ.C) k+((mO nc).take j).countP gg+if gg hl=true then 1 else 0:Nat))) W4)\/
     (e=.returned (.bool false)/\N=sumTo (rws 0 nt) (sG s τ.T τ.C) k+((mO nc).take j).countP gg+(if gg hl=true then 1 else 0)/\Below w1.heap.size w1 W4)):=by
    intro W3 W4 e hy hn;rw[hgg]at hr;unfold NP at hn;rw[ho2,ho1,hrl,Zd]at hn;by_cases hjn:j+1<(mO nc).length
    ·rw[af9 hjn,af2 hjn]at hn;obtain⟨rfl,hn⟩:=hn;refine Or.inl ⟨rfl,((rws 0 nt).length-k)*20-(j+1),by rw[hr];omega,k,row,j+1,_,hrow,af2 hjn,rfl,?_,hy.next hxg hxh lg lh hn⟩;rw[hgg,hct,Nat.add_assoc]
    ·rw[af6 hjn]at hn;have hall:(mO nc).countP gg=((mO nc).take (j+1)).countP gg:=(by rw[ai2 (by omega)]);by_cases hkn:k+1<(rws 0 nt).length
     ·rw[af9 hkn,af2 hkn]at hn;obtain⟨rfl,hn⟩:=hn;refine Or.inl ⟨rfl,((rws 0 nt).length-(k+1))*20,by rw[hr];omega,k+1,_,0,_,af2 hkn,wB _,by simp,?_,hy.next hxg hxh lg lh hn⟩;rw[hsum,hd1,hall,hct];simp[Nat.add_assoc]
     ·rw[af6 hkn]at hn;obtain⟨rfl,row',hl',hn⟩:=hn;refine Or.inr ⟨rfl,?_,(hy.next hxg hxh lg lh hn).below⟩;rw[<-ah HN];unfold Qc;rw[ah HNT,show(rws 0 nt).length=k+1 by omega,hsum,hd1,hall,hct,Nat.add_assoc]
   have hmv:=hY.x0;have hmw:=hY.x1;have HY:=aj hY;have HGQ:=aj hgq;have HRL:=aj hrl;have HHL:=aj Zd;have HLE:=aj hle;rw[hgg];have hm1:sumTo (rws 0 nt) (sG s τ.T τ.C) k+((mO nc).take j).countP gg<=40000:=(by omega);clear hr hrel hrow hhl hgk hgj ho1 ho2 hsum hd1 hct hgq hY hrl Zd hle hgg acU ade;generalize sumTo (rws 0 nt) (sG s τ.T τ.C) k+((mO nc).take j).countP gg=m0 at hfin hm1 ⊢;have hsn:nO (wr.alloc (.cells #[.slice (some ⟨G,0,none⟩) nt nt,.slice (some ⟨H,0,none⟩) nc nc] 118)) w.heap.size wr.heap.size τ.T τ.C (wG row) hl (.slice (some ⟨G,0,none⟩) nt nt) (.slice (some ⟨H,0,none⟩) nc nc) (.slice a4 τ.T.length p4) (.slice a5 τ.C.length p5):=by
    have hb:=(ah HY).below;have hb2:Below w1.heap.size w1 (wr.alloc (.cells #[.slice (some ⟨G,0,none⟩) nt nt,.slice (some ⟨H,0,none⟩) nc nc] 118)):=hb.alloc hb.size _;have hg:w1.grownBy (wr.alloc (.cells #[.slice (some ⟨G,0,none⟩) nt nt,.slice (some ⟨H,0,none⟩) nc nc] 118)) none:=⟨hb2.os,hb2.tape,hb2.output,hb2.size,λk hk _=>hb2.block k hk⟩;refine⟨?_,?_,by simp[go_sem],by simp[go_sem],(ah R4).kept hg (as9 _),(ah R5).kept hg (as9 _),((ah HY).cs (ah HRL) (ah HHL)).below ((ai7 _ _).alloc (af0 _) _)⟩
    ·rw[ah HNT];exact hg.cell c4 (by simp)
    ·rw[ah HNC];exact hg.cell c5 (by simp)
   have hS:=ah HS wr (wG row) hl (.slice (some ⟨G,0,none⟩) nt nt) (.slice (some ⟨H,0,none⟩) nc nc) (.slice a4 τ.T.length p4) (.slice a5 τ.C.length p5) (by rw[y8,ah HRL,ah HNT];exact af0 _) (by rw[ah HHL,ah HNC];exact af0 _) hsn;have hVV:Hid (∀W2:World,YW w1 G H X nt nc row hl W2->Calls prog 61 #[.string s,.agg #[.slice (some ⟨G,0,none⟩) nt nt,.slice (some ⟨H,0,none⟩) nc nc]] W2 λe w'=>e=.returned (.bool (Eb s (wG row) hl))/\Below W2.heap.size W2 w'):=λW2 hy=>
    ah HV W2 (wG row) hl (.slice (some ⟨G,0,none⟩) nt nt) (.slice (some ⟨H,0,none⟩) nc nc) (by rw[y8,ah HRL,ah HNT];exact af0 _) (by rw[ah HHL,ah HNC];exact af0 _) (hy.cs (ah HRL) (ah HHL))
   have hNN:Hid (∀W2:World,YW w1 G H X nt nc row hl W2->Calls prog 62 #[.agg #[.slice (some ⟨G,0,none⟩) nt nt,.slice (some ⟨H,0,none⟩) nc nc]] W2 (NP W2 G H row hl)):=λW2 hy=>by
    have q:=Qy W2 G H row hl (by rw[ah HRL];exact h0) (by rw[ah HRL];exact h7) (by rw[ah HHL];exact h4) (ah HLE) hgh (hy.r1.lt G rfl).2 (hy.r2.lt H rfl).2 (by rw[ah HRL];exact hy.r1) (by rw[ah HHL];exact hy.r2);rw[ah HRL,ah HHL]at q;exact q
   generalize snd τ.T τ.C (wG row) hl=q1 at hS HGQ;generalize Eb s (wG row) hl=q2 at hVV HGQ;generalize gg hl=gh at hfin HGQ;clear hsn HS HV HRL HHL HLE
   go_wp2_with fail
   refine hS.mono ?_;rintro e w2 ⟨rfl,hb2⟩;have hY2:=(ah HY).step hb2;clear hS;cases q1
   ·have hgf:gh=false:=(by rw[ah HGQ];rfl);subst hgf;have y0:=hY2.x0;have y1:=hY2.x1;have HY2:=aj hY2;clear hY2
    go_wp2_with fail
    refine(ah hNN w2 (ah HY2)).mono ?_;rintro e w4 hnp;rcases ah hfin w2 w4 e (ah HY2) hnp with⟨rfl,r',hr',hyi⟩|⟨rfl,hNe,hbe⟩
    ·go_wp2_with fail
     exact⟨⟨r',by simpa using hyi⟩,KO (by simpa using hyi) hr'⟩
    ·have HNE:=aj hNe;clear hNe hnp
     go_wp2_with fail
     refine ah7 (v:=.tuple #[.int .i64 (m0:Nat),.int .i64 0]) (by simp[results,results40,go_sem]) rfl ⟨?_,h1.trans (hbe.mono h1.size)⟩;have:=ah HNE;rw[show N=m0 by simpa using this]
   ·have y0:=hY2.x0;have y1:=hY2.x1;have HY2:=aj hY2;clear hY2
    go_wp2_with fail
    refine(ah hVV w2 (ah HY2)).mono ?_;rintro e w3 ⟨rfl,hb3⟩;have hY3:=(ah HY2).step hb3;have y0:=hY3.x0;have y1:=hY3.x1;have HY3:=aj hY3;clear hY3;cases q2
    ·have hgf:gh=false:=(by rw[ah HGQ];rfl);subst hgf
     go_wp2_with fail
     refine(ah hNN w3 (ah HY3)).mono ?_;rintro e w4 hnp;rcases ah hfin w3 w4 e (ah HY3) hnp with⟨rfl,r',hr',hyi⟩|⟨rfl,hNe,hbe⟩
     ·go_wp2_with fail
      exact⟨⟨r',by simpa using hyi⟩,KO (by simpa using hyi) hr'⟩
     ·have HNE:=aj hNe;clear hNe hnp
      go_wp2_with fail
      refine ah7 (v:=.tuple #[.int .i64 (m0:Nat),.int .i64 0]) (by simp[results,results40,go_sem]) rfl ⟨?_,h1.trans (hbe.mono h1.size)⟩;have:=ah HNE;rw[show N=m0 by simpa using this]
    ·have hgf:gh=true:=(by rw[ah HGQ];rfl);subst hgf
     go_wp2_with fail
     refine(ah hNN w3 (ah HY3)).mono ?_;rintro e w4 hnp;rcases ah hfin w3 w4 e (ah HY3) hnp with⟨rfl,r',hr',hyi⟩|⟨rfl,hNe,hbe⟩
     ·go_wp2_with fail
      have aaI:YI w1 s τ.T τ.C nt nc G H X r' (.int .i64 ((m0:Int)+1)) w4:=(by simpa using hyi);exact⟨⟨r',aaI⟩,KO aaI hr'⟩
     ·have HNE:=aj hNe;clear hNe hnp
      go_wp2_with fail
      refine ah7 (v:=.tuple #[.int .i64 ((m0:Int)+1),.int .i64 0]) (by simp[results,results40,go_sem]) rfl ⟨?_,h1.trans (hbe.mono h1.size)⟩;have hq:=ah HNE;rw[show N=m0+1 by simpa using hq];simp
end
open Go.RowKit
open au (St put Key)
def sQ(s:ByteArray):Int×Int:=if s.size<=100/\(chk s).1=0 then((Qc s (gQ s).T (gQ s).C:Nat),0)else(0,(chk s).1)
theorem LW(w:World)(s:ByteArray)(hm:s.size<=maxLen) :
  Calls prog 40 #[.string s] w λe w'=>e=.returned (.tuple #[.int .i64 (sQ s).1,.int .i64 (sQ s).2])/\Below w.heap.size w w':=by
 unfold sQ;by_cases h:s.size<=100/\(chk s).1=0
 ·rw[af9 h];obtain⟨ts,cs,ps,h1,h2,h3,h4,h5,h6,h7,h8,h9,h10,h11,h12⟩:=l9 s h.1 h.2;have hT:(gQ s).T=au.texts ts:=by rw[h6]
  have hC:(gQ s).C=ctx ts cs:=by rw[h6]
  have h0:0<ts.length:=Di h5 h10 h11;exact QA w s h.1 (gQ s) (aj rfl) (by rw[h6]) (by rw[h6];simp) (by rw[hT,au.aW];exact h0) (by rw[hT,au.aW];exact h2) (by rw[hC,show(ctx ts cs).length=cs.length by simp[ctx]];exact h3) (by rw[hT,hC];exact AQ h4 h5 h7 h8)
 ·rw[af6 h];have g:=LV w s hm (by rw[uJ];exact Bo h);rw[uJ]at g;exact g
end Go.Proofs.YthcppbmkacbbiaaGreat
