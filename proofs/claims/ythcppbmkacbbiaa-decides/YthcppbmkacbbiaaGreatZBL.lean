import Derived.Test.YthcppbmkacbbiaaGreatZBA
import Derived.Test.YthcppbmkacbbiaaGreatZAY
import Derived.Laws.StructEq
import Derived.Lib.SliceRun
import Derived.BigFrame
set_option linter.unusedSimpArgs false
set_option maxHeartbeats 8000000
set_option maxRecDepth 100000
namespace Go.Proofs.YthcppbmkacbbiaaGreat
open Go.Proofs.Tryz
section
open Go.RowKit Go.Maps Go.WideMaps
open au (Key put)
theorem uh{P:Program}{md:Region.Mode}{ops:Array Oper}{Q:Exit->Act->World->Prop}{S:World->Prop}{fuel:Nat}{listed:Array Bool}{a:Act}{w:World}(h:∀(ops':Array Oper) (Q':Exit->Act->World->Prop),ops'=ops->Q'=Q->wpAnyH P md ops' Q' S fuel listed a w):wpAnyH P md ops Q S fuel listed a w:=h _ _ rfl rfl
theorem iE.put{w:World}{b c:Nat}{f:Key->Key}{dom:Key->Prop}(h:iE w b f dom c)(hc:c<=500){k1 k2:Key}(hne:k1≠k2)(b2:(0<=k2.1/\k2.1<=255)/\k2.2.1<=1000/\k2.2.2<=1000) :
  ∃w',(Instr.mapUpdate 208 (.map (some b)) (bD k2) (bD k1)).run prog w=.ok () w'/\iE w' b (λq=>if q=k2 then k1 else f q) dom (c+1)/\w.grownBy w' (some b):=by
 obtain⟨D,nn,h0,hown,hall⟩:=h;obtain⟨l,hkey⟩:=O7 k2 b2.1 b2.2.1 b2.2.2;obtain⟨w',hrun,hown',hg⟩:=hown.update pF underlying208 (by unfold maxLen;omega) hkey (d:=.held (bD k1)) (ps:=[]) rfl;have jH:=hown.tidy pF;refine⟨w',hrun,⟨_,nn+1,by omega,hown',λq m hq hm=>?_⟩,hg⟩;by_cases e:m=l
 ·subst e;have:q=k2:=rG (pF.inj hm hkey);subst this;simp only[am9];refine⟨?_,λ_ z=>?_⟩
  ·rw[has_put_same jH.isMap (pF.key hkey)];simp[hne]
  ·rw[atKey_put_same jH.isMap (pF.key hkey)]
 ·have hqe:q≠k2:=λe'=>e (by subst e';rw[hm]at hkey;exact am2 hkey);simp only[af6 hqe];obtain⟨q1,q2⟩:=hall q m hq hm;refine⟨by rw[has_put_other e];exact q1,λh z=>?_⟩;rw[atKey_put_other e];exact q2 h z
theorem eqP(a1 a2:Int)(x1 y1 x2 y2:Nat)(W:World):(Op.equalIn 10000 93 (.agg #[.int .u8 a1,.int .i64 x1,.int .i64 y1]) (.agg #[.int .u8 a2,.int .i64 x2,.int .i64 y2])).run prog W=.ok (decide ((a1,x1,y1)=(a2,x2,y2))) W:=by
 have u3:=underlying3;have a3:=isAgg3;have z3:=sizeOf3;have u4:=underlying5;have a4:=isAgg5;have z4:=sizeOf5;have hS:prog.underlying 93=some (.struct (prog.fieldsOf 93)):=by kernel_rfl
 have hp:prog.stoodInHeld 93=false:=by kernel_rfl
 rw[show(10000:Nat)=9999+1 from rfl,run_equalIn_agg W 9999 93 _ _ hS hp];simp only[Program.fieldsOf,underlying93];go_simp;by_cases h1:a1=a2<;>by_cases h2:x1=x2<;>by_cases h3:y1=y2<;>simp[h1,h2,h3]<;>omega
theorem iD{w W:World}{row:Option Nat}(h:w.grownBy W row){p:Addr}(hp:w.heap.size<=p.block)(v:Value):w.grownBy (W.setCell p v) row:=
 ⟨h.os,h.tape,h.output,ah2 h.size (by simp[World.setCell]),λk hk hn=>by rw[ag6 _ _ _ _ (by omega)];exact h.block k hk hn⟩
theorem ZA:prog.eqGuardType prog.depth 93=false:=by kernel_rfl
theorem DJ(w:World)(BS c:Nat)(f:Key->Key)(dom:Key->Prop)(k1 k2:Key)(hM:iE w BS f dom c)(hc:c<=500)(d1:dom k1)(d2:dom k2)(f1:f k1=k1)(f2:f k2=k2)
 (b1:(0<=k1.1/\k1.1<=255)/\k1.2.1<=1000/\k1.2.2<=1000)(b2:(0<=k2.1/\k2.1<=255)/\k2.2.1<=1000/\k2.2.2<=1000) :
  Calls prog 172 #[.map (some BS),bD k1,bD k2] w λe w'=>(∃z,e=.returned z)/\w.grownBy w' (some BS)/\iE w' BS (λq=>if q=k2 then k1 else f q) dom (c+1):=by
 have hlt:=hM.lt;obtain⟨W0,hW0⟩:∃W0,(w.alloc (.cells #[.int .u8 k1.1,.int .i64 k1.2.1,.int .i64 k1.2.2] 93)).alloc (.cells #[.int .u8 k2.1,.int .i64 k2.2.1,.int .i64 k2.2.2] 93)=W0:=⟨_,rfl⟩;have hg0:w.grownBy W0 none:=by rw[<-hW0];exact(ae9 _ _ none).trans (ae9 _ _ none)
 have c4:W0.heap[w.heap.size]?=some (.cells #[.int .u8 k1.1,.int .i64 k1.2.1,.int .i64 k1.2.2] 93 (0,0)):=by
  rw[<-hW0,ag1 _ _ _ (by simp),ag4]
 have c5:W0.heap[w.heap.size+1]?=some (.cells #[.int .u8 k2.1,.int .i64 k2.2.1,.int .i64 k2.2.2] 93 (0,0)):=by
  have e:w.heap.size+1=(w.alloc (.cells #[.int .u8 k1.1,.int .i64 k1.2.1,.int .i64 k1.2.2] 93)).heap.size:=by simp
  rw[<-hW0,e,ag4]
 obtain⟨V,hVd⟩:∃V,W0.drew=V:=⟨_,rfl⟩;have kD:W0.grownBy V none:=by rw[<-hVd];exact⟨rfl,rfl,rfl,af0 _,λ_ _ _=>rfl⟩
 have hwV:=hg0.trans kD;have PK:Hid (∀W,V.grownBy W none->Calls prog 198 #[.map (some BS),bD k1] W λe w'=>e=.returned (bD k1)/\W.grownBy w' none):=λW hg=>by
  have h:=En W BS c f dom k1 (hM.kept ((hwV.trans hg).block BS hlt (by simp))) d1 (by rw[f1];exact d1) (by rw[f1,f1]) b1 (by rw[f1];exact b1);rw[f1]at h;exact h
 have tu:Hid (∀W,V.grownBy W none->Calls prog 198 #[.map (some BS),bD k2] W λe w'=>e=.returned (bD k2)/\W.grownBy w' none):=λW hg=>by
  have h:=En W BS c f dom k2 (hM.kept ((hwV.trans hg).block BS hlt (by simp))) d2 (by rw[f2];exact d2) (by rw[f2,f2]) b2 (by rw[f2];exact b2);rw[f2]at h;exact h
 have c4V:=(kD.block _ (ae8.1 c4).1 (by simp)).trans c4;have c5V:=(kD.block _ (ae8.1 c5).1 (by simp)).trans c5;have Xc:w.heap.size+2<=V.heap.size:=by have:=(ae8.1 c5V).1;omega
 have HM:=aj hM;have HWV:=aj hwV;have HK:Hid (k1=k2\/k1≠k2):=as9 _;have HF:=aj (And.intro f1 f2);have HD:=aj (And.intro d1 d2);clear hM c4 c5 hwV d1 d2 f1 f2;obtain⟨a1,x1,y1⟩:=k1;obtain⟨a2,x2,y2⟩:=k2;simp only[bD]at PK tu ⊢;simp only at c4V c5V b1 b2 hW0
 go_enter func172,ntmps172
 go_wp2_with fail
 clear hW0;refine Code.wp_mono (Q:=λe a W=>e=Exit.normal/\∃b6 b7,b6≠b7/\w.heap.size+2<=b6/\w.heap.size+2<=b7/\W.heap[b6]?=some (.cells #[.int .u8 a1,.int .i64 x1,.int .i64 y1] 93 (0,0))/\W.heap[b7]?=some (.cells #[.int .u8 a2,.int .i64 x2,.int .i64 y2] 93 (0,0))/\V.grownBy W none/\
  a={tmps:=#[.map (some BS),.agg #[.int .u8 a1,.int .i64 x1,.int .i64 y1],.agg #[.int .u8 a2,.int .i64 x2,.int .i64 y2],undef,.pointer (some ⟨w.heap.size,0,none⟩),.pointer (some ⟨w.heap.size+1,0,none⟩),.pointer (some ⟨b6,0,none⟩),.pointer (some ⟨b7,0,none⟩),.map (some BS),.agg #[.int .u8 a1,.int .i64 x1,.int .i64 y1],.agg #[.int .u8 a1,.int .i64 x1,.int .i64 y1],.map (some BS),.agg #[.int .u8 a2,.int .i64 x2,.int .i64 y2],.agg #[.int .u8 a2,.int .i64 x2,.int .i64 y2],undef,undef,undef,undef,undef,undef],defers:=[]}) ?post ?region
 case post=>
  rintro e a W ⟨rfl,b6,b7,hne,l6,l7,z6,z7,hgW,rfl⟩;have r60:W.cell? ⟨b6,0,none⟩=some (.int .u8 a1):=by rw[cell_of z6];rfl
  have r61:W.cell? ⟨b6,1,none⟩=some (.int .i64 x1):=by rw[cell_of z6];rfl
  have r62:W.cell? ⟨b6,2,none⟩=some (.int .i64 y1):=by rw[cell_of z6];rfl
  have r70:W.cell? ⟨b7,0,none⟩=some (.int .u8 a2):=by rw[cell_of z7];rfl
  have r71:W.cell? ⟨b7,1,none⟩=some (.int .i64 x2):=by rw[cell_of z7];rfl
  have r72:W.cell? ⟨b7,2,none⟩=some (.int .i64 y2):=by rw[cell_of z7];rfl
  have hgp:=ZA;have hwW:=(ah HWV).trans hgW;have hMW:=(ah HM).kept (hwW.block BS hlt (by simp));have hq0:=eqP a1 a2 x1 y1 x2 y2 W;rcases ah HK with e|e
  ·obtain⟨rfl,rfl,rfl⟩:a1=a2/\x1=x2/\y1=y2:=by
    have:=e;simp only[as4]at this;exact this
   have Q1:=aj hMW;have Q2:=aj hwW;clear hMW hwW hgW z6 z7 hq0
   go_wp2_with fail
   go_end0
   refine⟨⟨_,rfl⟩,(ah Q2).but (some BS),?_⟩;have h:=(ah Q1).congr (g:=λq=>if q=(a1,x1,y1)then(a1,x1,y1)else f q) (λk _=>by
    by_cases ek:k=(a1,x1,y1)
    ·subst ek;simp[(ah HF).1]
    ·simp[ek])
   obtain⟨D,nn,h0,h1,h2⟩:=h;exact⟨D,nn,by omega,h1,h2⟩
  ·by_cases h1:a1=a2
   ·subst h1;by_cases h2:x1=x2
    ·subst h2;have h3:¬(y1:Int)=(y2:Int):=λh=>e (by
        have:y1=y2:=by omega
        rw[this])
     obtain⟨w2,hrun,hP2,hg2⟩:=hMW.put hc e b2;simp only[bD]at hrun;have Q1:=aj hP2;have Q2:=aj ((hwW.but (some BS)).trans hg2);clear hMW hwW hgW z6 z7 hP2 hg2 e hq0
     go_wp2_with fail
     go_end0
     exact⟨⟨_,rfl⟩,ah Q2,ah Q1⟩
    ·have h3:¬(x1:Int)=(x2:Int):=(by omega);obtain⟨w2,hrun,hP2,hg2⟩:=hMW.put hc e b2;simp only[bD]at hrun;have Q1:=aj hP2;have Q2:=aj ((hwW.but (some BS)).trans hg2);clear hMW hwW hgW z6 z7 hP2 hg2 e hq0
     go_wp2_with fail
     go_end0
     exact⟨⟨_,rfl⟩,ah Q2,ah Q1⟩
   ·skip;obtain⟨w2,hrun,hP2,hg2⟩:=hMW.put hc e b2;simp only[bD]at hrun;have Q1:=aj hP2;have Q2:=aj ((hwW.but (some BS)).trans hg2);clear hMW hwW hgW z6 z7 hP2 hg2 e hq0
    go_wp2_with fail
    go_end0
    exact⟨⟨_,rfl⟩,ah Q2,ah Q1⟩
 refine aj0 (S:=λW'=>V.grownBy W' none) rfl ?_;have hS0:V.grownBy V none:=aj7 _ _;simp only[ag3,ag0,ah0,Nat.reduceAdd,af8,af7,ag5,ag9,ag7];change wpAnyH prog .any _ _ _ _ _ _ W0.drew;rw[hVd];clear hVd;refine tH 0 (.map (some BS)) (λw' hS=>?_) hS0 ?_
 ·go_simp
 simp only[aG];refine tH 1 (.agg #[.int .u8 a1,.int .i64 x1,.int .i64 y1]) (λw' hS=>?_) hS0 ?_
 ·have q:=(hS.block _ (ae8.1 c4V).1 (by simp)).trans c4V;have q0:=(cell_of q 0);have q1:=(cell_of q 1);have q2:=(cell_of q 2)
  go_simp
 simp only[aG];refine tH 3 (.map (some BS)) (λw' hS=>?_) hS0 ?_
 ·go_simp
 simp only[aG];refine tH 4 (.agg #[.int .u8 a2,.int .i64 x2,.int .i64 y2]) (λw' hS=>?_) hS0 ?_
 ·have q:=(hS.block _ (ae8.1 c5V).1 (by simp)).trans c5V;have q0:=(cell_of q 0);have q1:=(cell_of q 1);have q2:=(cell_of q 2)
  go_simp
 simp only[aG];refine uh (λops Q1 hops hQ1=>?_);have fin:∀(W:World) (b6 b7:Nat),V.grownBy W none->W.heap[b6]?=some (Obj.cells #[.int .u8 0,.int .i64 0,.int .i64 0] 93 (0,0))->W.heap[b7]?=some (Obj.cells #[.int .u8 0,.int .i64 0,.int .i64 0] 93 (0,0))->b6≠b7->V.heap.size<=b6->V.heap.size<=b7->
   wpAnyH prog .any ops Q1 (λW'=>V.grownBy W' none) 2 #[true,true,true,true,true,true,true,true,false,false] {tmps:=#[.map (some BS),.agg #[.int .u8 a1,.int .i64 x1,.int .i64 y1],.agg #[.int .u8 a2,.int .i64 x2,.int .i64 y2],undef,.pointer (some ⟨w.heap.size,0,none⟩),.pointer (some ⟨w.heap.size+1,0,none⟩),.pointer (some ⟨b6,0,none⟩),.pointer (some ⟨b7,0,none⟩),.map (some BS),.agg #[.int .u8 a1,.int .i64 x1,.int .i64 y1],.agg #[.int .u8 a1,.int .i64 x1,.int .i64 y1],.map (some BS),.agg #[.int .u8 a2,.int .i64 x2,.int .i64 y2],.agg #[.int .u8 a2,.int .i64 x2,.int .i64 y2],undef,undef,undef,undef,undef,undef],defers:=[]} W:=by
  intro W b6 b7 hgW z6 z7 hne l6 l7;subst hops;subst hQ1;have lt6:=(ae8.1 z6).1;have lt7:=(ae8.1 z7).1;have s60:W.cell? ⟨b6,0,none⟩=some (.int .u8 0):=by rw[cell_of z6];rfl
  have s61:W.cell? ⟨b6,1,none⟩=some (.int .i64 0):=by rw[cell_of z6];rfl
  have s62:W.cell? ⟨b6,2,none⟩=some (.int .i64 0):=by rw[cell_of z6];rfl
  have f60:W.frozen? ⟨b6,0,none⟩=false:=by simp[World.frozen?,z6]
  have f61:W.frozen? ⟨b6,1,none⟩=false:=by simp[World.frozen?,z6]
  have f62:W.frozen? ⟨b6,2,none⟩=false:=by simp[World.frozen?,z6]
  obtain⟨W1,hW1⟩:∃W1,((W.setCell ⟨b6,0,none⟩ (.int .u8 a1)).setCell ⟨b6,1,none⟩ (.int .i64 x1)).setCell ⟨b6,2,none⟩ (.int .i64 y1)=W1:=⟨_,rfl⟩;have z61:W1.heap[b6]?=some (Obj.cells #[.int .u8 a1,.int .i64 x1,.int .i64 y1] 93 (0,0)):=by
   rw[<-hW1,hsQ (hsQ (hsQ z6))]
   congr 2
  have z71:W1.heap[b7]?=some (Obj.cells #[.int .u8 0,.int .i64 0,.int .i64 0] 93 (0,0)):=by
   rw[<-hW1,ag6 _ _ _ _ (by show b7≠b6;omega),ag6 _ _ _ _ (by show b7≠b6;omega),ag6 _ _ _ _ (by show b7≠b6;omega)];exact z7
  have hg1:V.grownBy W1 none:=by rw[<-hW1];exact iD (iD (iD hgW l6 _) l6 _) l6 _
  refine oH 8 (λK hK=>?_);go_simp;refine hK.out _ _ hg1 ?_;clear hK K hW1;have s70:W1.cell? ⟨b7,0,none⟩=some (.int .u8 0):=by rw[cell_of z71];rfl
  have s71:W1.cell? ⟨b7,1,none⟩=some (.int .i64 0):=by rw[cell_of z71];rfl
  have s72:W1.cell? ⟨b7,2,none⟩=some (.int .i64 0):=by rw[cell_of z71];rfl
  have f70:W1.frozen? ⟨b7,0,none⟩=false:=by simp[World.frozen?,z71]
  have f71:W1.frozen? ⟨b7,1,none⟩=false:=by simp[World.frozen?,z71]
  have f72:W1.frozen? ⟨b7,2,none⟩=false:=by simp[World.frozen?,z71]
  have lt71:=(ae8.1 z71).1;clear s60 s61 s62 f60 f61 f62;obtain⟨W2,hW2⟩:∃W2,((W1.setCell ⟨b7,0,none⟩ (.int .u8 a2)).setCell ⟨b7,1,none⟩ (.int .i64 x2)).setCell ⟨b7,2,none⟩ (.int .i64 y2)=W2:=⟨_,rfl⟩;have z72:W2.heap[b7]?=some (Obj.cells #[.int .u8 a2,.int .i64 x2,.int .i64 y2] 93 (0,0)):=by
   rw[<-hW2,hsQ (hsQ (hsQ z71))]
   congr 2
  have z62:W2.heap[b6]?=some (Obj.cells #[.int .u8 a1,.int .i64 x1,.int .i64 y1] 93 (0,0)):=by
   rw[<-hW2,ag6 _ _ _ _ (by show b6≠b7;omega),ag6 _ _ _ _ (by show b6≠b7;omega),ag6 _ _ _ _ (by show b6≠b7;omega)];exact z61
  have hg2:V.grownBy W2 none:=by rw[<-hW2];exact iD (iD (iD hg1 l7 _) l7 _) l7 _
  refine oH 9 (λK hK=>?_);go_simp;refine hK.out _ _ hg2 (ai8 (by kernel_rfl) ?_ _);exact⟨rfl,b6,b7,hne,by omega,by omega,z62,z72,hg2,rfl⟩
 subst hops;have hG0:=hS0;refine Go.Proofs.YthcppbmkacbbiaaGreat.a3 2 6 7 ?_ ?_ ?_
 ·refine oO (λK hK=>?_);go_simp;refine(ah PK V hG0).mono ?_;rintro e W1 ⟨rfl,hg1⟩;have hG1:=hG0.trans hg1;have hsz1:=hg1.size;refine hK.out _ _ ⟨hG1,?_⟩;clear hK K;refine Go.Proofs.YthcppbmkacbbiaaGreat.a3 5 6 7 ?_ ?_ ?_
  ·refine oO (λK hK=>?_);go_simp;refine(ah tu W1 hG1).mono ?_;rintro e W2 ⟨rfl,hg2⟩;have hG2:=hG1.trans hg2;have hsz2:=hg2.size;refine hK.out _ _ ⟨hG2,?_⟩;clear hK K;refine Go.Proofs.YthcppbmkacbbiaaGreat.a2 6 7 ?_ ?_
   ·refine oO (λK hK=>?_);have hg3:W2.grownBy (W2.alloc (.cells #[.int .u8 0,.int .i64 0,.int .i64 0] 93)) none:=ae9 _ _ none;have hN3:(W2.alloc (.cells #[.int .u8 0,.int .i64 0,.int .i64 0] 93)).heap[W2.heap.size]?=some (.cells #[.int .u8 0,.int .i64 0,.int .i64 0] 93 (0,0)):=ag4 _ _;have hlo3:=hG2.size;go_simp;refine hK.out _ _ ⟨hG2.trans hg3,?_⟩;clear hK K;obtain⟨B3,hB3⟩:∃B,W2.heap.size=B:=⟨_,rfl⟩;obtain⟨W3,hW3⟩:∃V',W2.alloc (.cells #[.int .u8 0,.int .i64 0,.int .i64 0] 93)=V':=⟨_,rfl⟩;rw[hW3]at hg3 hN3 ⊢;rw[hB3]at hN3 hlo3 ⊢;have hG3:=hG2.trans hg3;have hlt3:B3<W3.heap.size:=(ae8.1 hN3).1;refine Go.Proofs.YthcppbmkacbbiaaGreat.a1 7 ?_;refine oO (λK hK=>?_);have hg4:W3.grownBy (W3.alloc (.cells #[.int .u8 0,.int .i64 0,.int .i64 0] 93)) none:=ae9 _ _ none;have hN4:(W3.alloc (.cells #[.int .u8 0,.int .i64 0,.int .i64 0] 93)).heap[W3.heap.size]?=some (.cells #[.int .u8 0,.int .i64 0,.int .i64 0] 93 (0,0)):=ag4 _ _;have ac6:=hG3.size;go_simp;refine hK.out _ _ ⟨hG3.trans hg4,?_⟩;clear hK K;obtain⟨B4,hB4⟩:∃B,W3.heap.size=B:=⟨_,rfl⟩;obtain⟨W4,hW4⟩:∃V',W3.alloc (.cells #[.int .u8 0,.int .i64 0,.int .i64 0] 93)=V':=⟨_,rfl⟩;rw[hW4]at hg4 hN4 ⊢;rw[hB4]at hN4 ac6 ⊢;have hG4:=hG3.trans hg4;have hlt4:B4<W4.heap.size:=(ae8.1 hN4).1;have l64:=(ae8.1 hN3).1;have z64:=(hg4.block _ l64 (by simp)).trans hN3;exact fin W4 B3 B4 hG4 z64 hN4 (by omega) (by omega) (by omega)
   ·refine oO (λK hK=>?_);have hg5:W2.grownBy (W2.alloc (.cells #[.int .u8 0,.int .i64 0,.int .i64 0] 93)) none:=ae9 _ _ none;have hN5:(W2.alloc (.cells #[.int .u8 0,.int .i64 0,.int .i64 0] 93)).heap[W2.heap.size]?=some (.cells #[.int .u8 0,.int .i64 0,.int .i64 0] 93 (0,0)):=ag4 _ _;have ac5:=hG2.size;go_simp;refine hK.out _ _ ⟨hG2.trans hg5,?_⟩;clear hK K;obtain⟨B5,hB5⟩:∃B,W2.heap.size=B:=⟨_,rfl⟩;obtain⟨W5,hW5⟩:∃V',W2.alloc (.cells #[.int .u8 0,.int .i64 0,.int .i64 0] 93)=V':=⟨_,rfl⟩;rw[hW5]at hg5 hN5 ⊢;rw[hB5]at hN5 ac5 ⊢;have hG5:=hG2.trans hg5;have aeY:B5<W5.heap.size:=(ae8.1 hN5).1;refine Go.Proofs.YthcppbmkacbbiaaGreat.a1 6 ?_;refine oO (λK hK=>?_);have hg6:W5.grownBy (W5.alloc (.cells #[.int .u8 0,.int .i64 0,.int .i64 0] 93)) none:=ae9 _ _ none;have hN6:(W5.alloc (.cells #[.int .u8 0,.int .i64 0,.int .i64 0] 93)).heap[W5.heap.size]?=some (.cells #[.int .u8 0,.int .i64 0,.int .i64 0] 93 (0,0)):=ag4 _ _;have ac4:=hG5.size;go_simp;refine hK.out _ _ ⟨hG5.trans hg6,?_⟩;clear hK K;obtain⟨B6,hB6⟩:∃B,W5.heap.size=B:=⟨_,rfl⟩;obtain⟨W6,hW6⟩:∃V',W5.alloc (.cells #[.int .u8 0,.int .i64 0,.int .i64 0] 93)=V':=⟨_,rfl⟩;rw[hW6]at hg6 hN6 ⊢;rw[hB6]at hN6 ac4 ⊢;have hG6:=hG5.trans hg6;have aeX:B6<W6.heap.size:=(ae8.1 hN6).1;have l76:=(ae8.1 hN5).1;have z76:=(hg6.block _ l76 (by simp)).trans hN5;exact fin W6 B6 B5 hG6 hN6 z76 (by omega) (by omega) (by omega)
  ·refine oO (λK hK=>?_);have hg7:W1.grownBy (W1.alloc (.cells #[.int .u8 0,.int .i64 0,.int .i64 0] 93)) none:=ae9 _ _ none;have hN7:(W1.alloc (.cells #[.int .u8 0,.int .i64 0,.int .i64 0] 93)).heap[W1.heap.size]?=some (.cells #[.int .u8 0,.int .i64 0,.int .i64 0] 93 (0,0)):=ag4 _ _;have ac3:=hG1.size;go_simp;refine hK.out _ _ ⟨hG1.trans hg7,?_⟩;clear hK K;obtain⟨B7,hB7⟩:∃B,W1.heap.size=B:=⟨_,rfl⟩;obtain⟨W7,hW7⟩:∃V',W1.alloc (.cells #[.int .u8 0,.int .i64 0,.int .i64 0] 93)=V':=⟨_,rfl⟩;rw[hW7]at hg7 hN7 ⊢;rw[hB7]at hN7 ac3 ⊢;have hG7:=hG1.trans hg7;have aeW:B7<W7.heap.size:=(ae8.1 hN7).1;refine Go.Proofs.YthcppbmkacbbiaaGreat.a2 5 7 ?_ ?_
   ·refine oO (λK hK=>?_);go_simp;refine(ah tu W7 hG7).mono ?_;rintro e W8 ⟨rfl,hg8⟩;have hG8:=hG7.trans hg8;have aeR:=hg8.size;have z68:=(hg8.block _ (ae8.1 hN7).1 (by simp)).trans hN7;refine hK.out _ _ ⟨hG8,?_⟩;clear hK K;refine Go.Proofs.YthcppbmkacbbiaaGreat.a1 7 ?_;refine oO (λK hK=>?_);have hg9:W8.grownBy (W8.alloc (.cells #[.int .u8 0,.int .i64 0,.int .i64 0] 93)) none:=ae9 _ _ none;have hN9:(W8.alloc (.cells #[.int .u8 0,.int .i64 0,.int .i64 0] 93)).heap[W8.heap.size]?=some (.cells #[.int .u8 0,.int .i64 0,.int .i64 0] 93 (0,0)):=ag4 _ _;have ac2:=hG8.size;go_simp;refine hK.out _ _ ⟨hG8.trans hg9,?_⟩;clear hK K;obtain⟨B9,hB9⟩:∃B,W8.heap.size=B:=⟨_,rfl⟩;obtain⟨W9,hW9⟩:∃V',W8.alloc (.cells #[.int .u8 0,.int .i64 0,.int .i64 0] 93)=V':=⟨_,rfl⟩;rw[hW9]at hg9 hN9 ⊢;rw[hB9]at hN9 ac2 ⊢;have hG9:=hG8.trans hg9;have aeV:B9<W9.heap.size:=(ae8.1 hN9).1;have l69:=(ae8.1 z68).1;have z69:=(hg9.block _ l69 (by simp)).trans z68;exact fin W9 B7 B9 hG9 z69 hN9 (by omega) (by omega) (by omega)
   ·refine oO (λK hK=>?_);have hg10:W7.grownBy (W7.alloc (.cells #[.int .u8 0,.int .i64 0,.int .i64 0] 93)) none:=ae9 _ _ none;have Uu:(W7.alloc (.cells #[.int .u8 0,.int .i64 0,.int .i64 0] 93)).heap[W7.heap.size]?=some (.cells #[.int .u8 0,.int .i64 0,.int .i64 0] 93 (0,0)):=ag4 _ _;have abg:=hG7.size;go_simp;refine hK.out _ _ ⟨hG7.trans hg10,?_⟩;clear hK K;obtain⟨B10,AO⟩:∃B,W7.heap.size=B:=⟨_,rfl⟩;obtain⟨W10,adx⟩:∃V',W7.alloc (.cells #[.int .u8 0,.int .i64 0,.int .i64 0] 93)=V':=⟨_,rfl⟩;rw[adx]at hg10 Uu ⊢;rw[AO]at Uu abg ⊢;have abY:=hG7.trans hg10;have aeM:B10<W10.heap.size:=(ae8.1 Uu).1;have l610:=(ae8.1 hN7).1;have z610:=(hg10.block _ l610 (by simp)).trans hN7;refine Go.Proofs.YthcppbmkacbbiaaGreat.a1 5 ?_;refine oO (λK hK=>?_);go_simp;refine(ah tu W10 abY).mono ?_;rintro e W11 ⟨rfl,hg11⟩;have abX:=abY.trans hg11;have aeB:=hg11.size;have z611:=(hg11.block _ (ae8.1 z610).1 (by simp)).trans z610;have z711:=(hg11.block _ (ae8.1 Uu).1 (by simp)).trans Uu;refine hK.out _ _ ⟨abX,?_⟩;clear hK K;exact fin W11 B7 B10 abX z611 z711 (by omega) (by omega) (by omega)
  ·refine oO (λK hK=>?_);have hg12:W1.grownBy (W1.alloc (.cells #[.int .u8 0,.int .i64 0,.int .i64 0] 93)) none:=ae9 _ _ none;have Kv:(W1.alloc (.cells #[.int .u8 0,.int .i64 0,.int .i64 0] 93)).heap[W1.heap.size]?=some (.cells #[.int .u8 0,.int .i64 0,.int .i64 0] 93 (0,0)):=ag4 _ _;have abf:=hG1.size;go_simp;refine hK.out _ _ ⟨hG1.trans hg12,?_⟩;clear hK K;obtain⟨B12,adR⟩:∃B,W1.heap.size=B:=⟨_,rfl⟩;obtain⟨W12,adw⟩:∃V',W1.alloc (.cells #[.int .u8 0,.int .i64 0,.int .i64 0] 93)=V':=⟨_,rfl⟩;rw[adw]at hg12 Kv ⊢;rw[adR]at Kv abf ⊢;have UF:=hG1.trans hg12;have aeL:B12<W12.heap.size:=(ae8.1 Kv).1;refine Go.Proofs.YthcppbmkacbbiaaGreat.a2 5 6 ?_ ?_
   ·refine oO (λK hK=>?_);go_simp;refine(ah tu W12 UF).mono ?_;rintro e W13 ⟨rfl,hg13⟩;have Xr:=UF.trans hg13;have aeA:=hg13.size;have z713:=(hg13.block _ (ae8.1 Kv).1 (by simp)).trans Kv;refine hK.out _ _ ⟨Xr,?_⟩;clear hK K;refine Go.Proofs.YthcppbmkacbbiaaGreat.a1 6 ?_;refine oO (λK hK=>?_);have hg14:W13.grownBy (W13.alloc (.cells #[.int .u8 0,.int .i64 0,.int .i64 0] 93)) none:=ae9 _ _ none;have Xn:(W13.alloc (.cells #[.int .u8 0,.int .i64 0,.int .i64 0] 93)).heap[W13.heap.size]?=some (.cells #[.int .u8 0,.int .i64 0,.int .i64 0] 93 (0,0)):=ag4 _ _;have abe:=Xr.size;go_simp;refine hK.out _ _ ⟨Xr.trans hg14,?_⟩;clear hK K;obtain⟨B14,adQ⟩:∃B,W13.heap.size=B:=⟨_,rfl⟩;obtain⟨W14,adv⟩:∃V',W13.alloc (.cells #[.int .u8 0,.int .i64 0,.int .i64 0] 93)=V':=⟨_,rfl⟩;rw[adv]at hg14 Xn ⊢;rw[adQ]at Xn abe ⊢;have adE:=Xr.trans hg14;have aeK:B14<W14.heap.size:=(ae8.1 Xn).1;have l714:=(ae8.1 z713).1;have z714:=(hg14.block _ l714 (by simp)).trans z713;exact fin W14 B14 B12 adE Xn z714 (by omega) (by omega) (by omega)
   ·refine oO (λK hK=>?_);have hg15:W12.grownBy (W12.alloc (.cells #[.int .u8 0,.int .i64 0,.int .i64 0] 93)) none:=ae9 _ _ none;have Ut:(W12.alloc (.cells #[.int .u8 0,.int .i64 0,.int .i64 0] 93)).heap[W12.heap.size]?=some (.cells #[.int .u8 0,.int .i64 0,.int .i64 0] 93 (0,0)):=ag4 _ _;have abd:=UF.size;go_simp;refine hK.out _ _ ⟨UF.trans hg15,?_⟩;clear hK K;obtain⟨B15,adP⟩:∃B,W12.heap.size=B:=⟨_,rfl⟩;obtain⟨W15,adu⟩:∃V',W12.alloc (.cells #[.int .u8 0,.int .i64 0,.int .i64 0] 93)=V':=⟨_,rfl⟩;rw[adu]at hg15 Ut ⊢;rw[adP]at Ut abd ⊢;have abW:=UF.trans hg15;have aeJ:B15<W15.heap.size:=(ae8.1 Ut).1;have l715:=(ae8.1 Kv).1;have z715:=(hg15.block _ l715 (by simp)).trans Kv;refine Go.Proofs.YthcppbmkacbbiaaGreat.a1 5 ?_;refine oO (λK hK=>?_);go_simp;refine(ah tu W15 abW).mono ?_;rintro e W16 ⟨rfl,hg16⟩;have abV:=abW.trans hg16;have aez:=hg16.size;have z616:=(hg16.block _ (ae8.1 Ut).1 (by simp)).trans Ut;have z716:=(hg16.block _ (ae8.1 z715).1 (by simp)).trans z715;refine hK.out _ _ ⟨abV,?_⟩;clear hK K;exact fin W16 B15 B12 abV z616 z716 (by omega) (by omega) (by omega)
 ·refine oO (λK hK=>?_);have hg17:V.grownBy (V.alloc (.cells #[.int .u8 0,.int .i64 0,.int .i64 0] 93)) none:=ae9 _ _ none;have Ku:(V.alloc (.cells #[.int .u8 0,.int .i64 0,.int .i64 0] 93)).heap[V.heap.size]?=some (.cells #[.int .u8 0,.int .i64 0,.int .i64 0] 93 (0,0)):=ag4 _ _;have abb:=hG0.size;go_simp;refine hK.out _ _ ⟨hG0.trans hg17,?_⟩;clear hK K;obtain⟨B17,adO⟩:∃B,V.heap.size=B:=⟨_,rfl⟩;obtain⟨W17,adt⟩:∃V',V.alloc (.cells #[.int .u8 0,.int .i64 0,.int .i64 0] 93)=V':=⟨_,rfl⟩;rw[adt]at hg17 Ku ⊢;rw[adO]at Ku abb ⊢;have UE:=hG0.trans hg17;have aeI:B17<W17.heap.size:=(ae8.1 Ku).1;refine Go.Proofs.YthcppbmkacbbiaaGreat.a2 2 7 ?_ ?_
  ·refine oO (λK hK=>?_);go_simp;refine(ah PK W17 UE).mono ?_;rintro e W18 ⟨rfl,hg18⟩;have PZ:=UE.trans hg18;have aey:=hg18.size;have z618:=(hg18.block _ (ae8.1 Ku).1 (by simp)).trans Ku;refine hK.out _ _ ⟨PZ,?_⟩;clear hK K;refine Go.Proofs.YthcppbmkacbbiaaGreat.a2 5 7 ?_ ?_
   ·refine oO (λK hK=>?_);go_simp;refine(ah tu W18 PZ).mono ?_;rintro e W19 ⟨rfl,hg19⟩;have Xq:=PZ.trans hg19;have aex:=hg19.size;have z619:=(hg19.block _ (ae8.1 z618).1 (by simp)).trans z618;refine hK.out _ _ ⟨Xq,?_⟩;clear hK K;refine Go.Proofs.YthcppbmkacbbiaaGreat.a1 7 ?_;refine oO (λK hK=>?_);have hg20:W19.grownBy (W19.alloc (.cells #[.int .u8 0,.int .i64 0,.int .i64 0] 93)) none:=ae9 _ _ none;have Xm:(W19.alloc (.cells #[.int .u8 0,.int .i64 0,.int .i64 0] 93)).heap[W19.heap.size]?=some (.cells #[.int .u8 0,.int .i64 0,.int .i64 0] 93 (0,0)):=ag4 _ _;have aa9:=Xq.size;go_simp;refine hK.out _ _ ⟨Xq.trans hg20,?_⟩;clear hK K;obtain⟨B20,adN⟩:∃B,W19.heap.size=B:=⟨_,rfl⟩;obtain⟨W20,ads⟩:∃V',W19.alloc (.cells #[.int .u8 0,.int .i64 0,.int .i64 0] 93)=V':=⟨_,rfl⟩;rw[ads]at hg20 Xm ⊢;rw[adN]at Xm aa9 ⊢;have adD:=Xq.trans hg20;have aeH:B20<W20.heap.size:=(ae8.1 Xm).1;have l620:=(ae8.1 z619).1;have z620:=(hg20.block _ l620 (by simp)).trans z619;exact fin W20 B17 B20 adD z620 Xm (by omega) (by omega) (by omega)
   ·refine oO (λK hK=>?_);have hg21:W18.grownBy (W18.alloc (.cells #[.int .u8 0,.int .i64 0,.int .i64 0] 93)) none:=ae9 _ _ none;have Ur:(W18.alloc (.cells #[.int .u8 0,.int .i64 0,.int .i64 0] 93)).heap[W18.heap.size]?=some (.cells #[.int .u8 0,.int .i64 0,.int .i64 0] 93 (0,0)):=ag4 _ _;have aa8:=PZ.size;go_simp;refine hK.out _ _ ⟨PZ.trans hg21,?_⟩;clear hK K;obtain⟨B21,adM⟩:∃B,W18.heap.size=B:=⟨_,rfl⟩;obtain⟨W21,adr⟩:∃V',W18.alloc (.cells #[.int .u8 0,.int .i64 0,.int .i64 0] 93)=V':=⟨_,rfl⟩;rw[adr]at hg21 Ur ⊢;rw[adM]at Ur aa8 ⊢;have abU:=PZ.trans hg21;have aeG:B21<W21.heap.size:=(ae8.1 Ur).1;have l621:=(ae8.1 z618).1;have z621:=(hg21.block _ l621 (by simp)).trans z618;refine Go.Proofs.YthcppbmkacbbiaaGreat.a1 5 ?_;refine oO (λK hK=>?_);go_simp;refine(ah tu W21 abU).mono ?_;rintro e W22 ⟨rfl,hg22⟩;have abT:=abU.trans hg22;have aev:=hg22.size;have z622:=(hg22.block _ (ae8.1 z621).1 (by simp)).trans z621;have z722:=(hg22.block _ (ae8.1 Ur).1 (by simp)).trans Ur;refine hK.out _ _ ⟨abT,?_⟩;clear hK K;exact fin W22 B17 B21 abT z622 z722 (by omega) (by omega) (by omega)
  ·refine oO (λK hK=>?_);have hg23:W17.grownBy (W17.alloc (.cells #[.int .u8 0,.int .i64 0,.int .i64 0] 93)) none:=ae9 _ _ none;have Uo:(W17.alloc (.cells #[.int .u8 0,.int .i64 0,.int .i64 0] 93)).heap[W17.heap.size]?=some (.cells #[.int .u8 0,.int .i64 0,.int .i64 0] 93 (0,0)):=ag4 _ _;have aa7:=UE.size;go_simp;refine hK.out _ _ ⟨UE.trans hg23,?_⟩;clear hK K;obtain⟨B23,adL⟩:∃B,W17.heap.size=B:=⟨_,rfl⟩;obtain⟨W23,adq⟩:∃V',W17.alloc (.cells #[.int .u8 0,.int .i64 0,.int .i64 0] 93)=V':=⟨_,rfl⟩;rw[adq]at hg23 Uo ⊢;rw[adL]at Uo aa7 ⊢;have abS:=UE.trans hg23;have aeF:B23<W23.heap.size:=(ae8.1 Uo).1;have l623:=(ae8.1 Ku).1;have z623:=(hg23.block _ l623 (by simp)).trans Ku;refine Go.Proofs.YthcppbmkacbbiaaGreat.a1 2 ?_;refine oO (λK hK=>?_);go_simp;refine(ah PK W23 abS).mono ?_;rintro e W24 ⟨rfl,hg24⟩;have Zx:=abS.trans hg24;have aeu:=hg24.size;have z624:=(hg24.block _ (ae8.1 z623).1 (by simp)).trans z623;have z724:=(hg24.block _ (ae8.1 Uo).1 (by simp)).trans Uo;refine hK.out _ _ ⟨Zx,?_⟩;clear hK K;refine Go.Proofs.YthcppbmkacbbiaaGreat.a1 5 ?_;refine oO (λK hK=>?_);go_simp;refine(ah tu W24 Zx).mono ?_;rintro e W25 ⟨rfl,hg25⟩;have abR:=Zx.trans hg25;have aes:=hg25.size;have z625:=(hg25.block _ (ae8.1 z624).1 (by simp)).trans z624;have z725:=(hg25.block _ (ae8.1 z724).1 (by simp)).trans z724;refine hK.out _ _ ⟨abR,?_⟩;clear hK K;exact fin W25 B17 B23 abR z625 z725 (by omega) (by omega) (by omega)
 ·refine oO (λK hK=>?_);have hg26:V.grownBy (V.alloc (.cells #[.int .u8 0,.int .i64 0,.int .i64 0] 93)) none:=ae9 _ _ none;have Kt:(V.alloc (.cells #[.int .u8 0,.int .i64 0,.int .i64 0] 93)).heap[V.heap.size]?=some (.cells #[.int .u8 0,.int .i64 0,.int .i64 0] 93 (0,0)):=ag4 _ _;have aa6:=hG0.size;go_simp;refine hK.out _ _ ⟨hG0.trans hg26,?_⟩;clear hK K;obtain⟨B26,adK⟩:∃B,V.heap.size=B:=⟨_,rfl⟩;obtain⟨W26,adp⟩:∃V',V.alloc (.cells #[.int .u8 0,.int .i64 0,.int .i64 0] 93)=V':=⟨_,rfl⟩;rw[adp]at hg26 Kt ⊢;rw[adK]at Kt aa6 ⊢;have UD:=hG0.trans hg26;have aeE:B26<W26.heap.size:=(ae8.1 Kt).1;refine Go.Proofs.YthcppbmkacbbiaaGreat.a2 2 6 ?_ ?_
  ·refine oO (λK hK=>?_);go_simp;refine(ah PK W26 UD).mono ?_;rintro e W27 ⟨rfl,hg27⟩;have PY:=UD.trans hg27;have aer:=hg27.size;have z727:=(hg27.block _ (ae8.1 Kt).1 (by simp)).trans Kt;refine hK.out _ _ ⟨PY,?_⟩;clear hK K;refine Go.Proofs.YthcppbmkacbbiaaGreat.a2 5 6 ?_ ?_
   ·refine oO (λK hK=>?_);go_simp;refine(ah tu W27 PY).mono ?_;rintro e W28 ⟨rfl,hg28⟩;have Xp:=PY.trans hg28;have aep:=hg28.size;have z728:=(hg28.block _ (ae8.1 z727).1 (by simp)).trans z727;refine hK.out _ _ ⟨Xp,?_⟩;clear hK K;refine Go.Proofs.YthcppbmkacbbiaaGreat.a1 6 ?_;refine oO (λK hK=>?_);have hg29:W28.grownBy (W28.alloc (.cells #[.int .u8 0,.int .i64 0,.int .i64 0] 93)) none:=ae9 _ _ none;have Xl:(W28.alloc (.cells #[.int .u8 0,.int .i64 0,.int .i64 0] 93)).heap[W28.heap.size]?=some (.cells #[.int .u8 0,.int .i64 0,.int .i64 0] 93 (0,0)):=ag4 _ _;have aa5:=Xp.size;go_simp;refine hK.out _ _ ⟨Xp.trans hg29,?_⟩;clear hK K;obtain⟨B29,adJ⟩:∃B,W28.heap.size=B:=⟨_,rfl⟩;obtain⟨W29,ado⟩:∃V',W28.alloc (.cells #[.int .u8 0,.int .i64 0,.int .i64 0] 93)=V':=⟨_,rfl⟩;rw[ado]at hg29 Xl ⊢;rw[adJ]at Xl aa5 ⊢;have adC:=Xp.trans hg29;have aeD:B29<W29.heap.size:=(ae8.1 Xl).1;have l729:=(ae8.1 z728).1;have z729:=(hg29.block _ l729 (by simp)).trans z728;exact fin W29 B29 B26 adC Xl z729 (by omega) (by omega) (by omega)
   ·refine oO (λK hK=>?_);have hg30:W27.grownBy (W27.alloc (.cells #[.int .u8 0,.int .i64 0,.int .i64 0] 93)) none:=ae9 _ _ none;have Un:(W27.alloc (.cells #[.int .u8 0,.int .i64 0,.int .i64 0] 93)).heap[W27.heap.size]?=some (.cells #[.int .u8 0,.int .i64 0,.int .i64 0] 93 (0,0)):=ag4 _ _;have aa4:=PY.size;go_simp;refine hK.out _ _ ⟨PY.trans hg30,?_⟩;clear hK K;obtain⟨B30,adI⟩:∃B,W27.heap.size=B:=⟨_,rfl⟩;obtain⟨W30,adn⟩:∃V',W27.alloc (.cells #[.int .u8 0,.int .i64 0,.int .i64 0] 93)=V':=⟨_,rfl⟩;rw[adn]at hg30 Un ⊢;rw[adI]at Un aa4 ⊢;have abQ:=PY.trans hg30;have aeC:B30<W30.heap.size:=(ae8.1 Un).1;have l730:=(ae8.1 z727).1;have z730:=(hg30.block _ l730 (by simp)).trans z727;refine Go.Proofs.YthcppbmkacbbiaaGreat.a1 5 ?_;refine oO (λK hK=>?_);go_simp;refine(ah tu W30 abQ).mono ?_;rintro e W31 ⟨rfl,hg31⟩;have abP:=abQ.trans hg31;have aeo:=hg31.size;have z631:=(hg31.block _ (ae8.1 Un).1 (by simp)).trans Un;have z731:=(hg31.block _ (ae8.1 z730).1 (by simp)).trans z730;refine hK.out _ _ ⟨abP,?_⟩;clear hK K;exact fin W31 B30 B26 abP z631 z731 (by omega) (by omega) (by omega)
  ·refine oO (λK hK=>?_);have hg32:W26.grownBy (W26.alloc (.cells #[.int .u8 0,.int .i64 0,.int .i64 0] 93)) none:=ae9 _ _ none;have Um:(W26.alloc (.cells #[.int .u8 0,.int .i64 0,.int .i64 0] 93)).heap[W26.heap.size]?=some (.cells #[.int .u8 0,.int .i64 0,.int .i64 0] 93 (0,0)):=ag4 _ _;have aa3:=UD.size;go_simp;refine hK.out _ _ ⟨UD.trans hg32,?_⟩;clear hK K;obtain⟨B32,adH⟩:∃B,W26.heap.size=B:=⟨_,rfl⟩;obtain⟨W32,adl⟩:∃V',W26.alloc (.cells #[.int .u8 0,.int .i64 0,.int .i64 0] 93)=V':=⟨_,rfl⟩;rw[adl]at hg32 Um ⊢;rw[adH]at Um aa3 ⊢;have abO:=UD.trans hg32;have hlt32:B32<W32.heap.size:=(ae8.1 Um).1;have l732:=(ae8.1 Kt).1;have z732:=(hg32.block _ l732 (by simp)).trans Kt;refine Go.Proofs.YthcppbmkacbbiaaGreat.a1 2 ?_;refine oO (λK hK=>?_);go_simp;refine(ah PK W32 abO).mono ?_;rintro e W33 ⟨rfl,hg33⟩;have Zw:=abO.trans hg33;have aen:=hg33.size;have z633:=(hg33.block _ (ae8.1 Um).1 (by simp)).trans Um;have z733:=(hg33.block _ (ae8.1 z732).1 (by simp)).trans z732;refine hK.out _ _ ⟨Zw,?_⟩;clear hK K;refine Go.Proofs.YthcppbmkacbbiaaGreat.a1 5 ?_;refine oO (λK hK=>?_);go_simp;refine(ah tu W33 Zw).mono ?_;rintro e W34 ⟨rfl,hg34⟩;have abN:=Zw.trans hg34;have aem:=hg34.size;have z634:=(hg34.block _ (ae8.1 z633).1 (by simp)).trans z633;have z734:=(hg34.block _ (ae8.1 z733).1 (by simp)).trans z733;refine hK.out _ _ ⟨abN,?_⟩;clear hK K;exact fin W34 B32 B26 abN z634 z734 (by omega) (by omega) (by omega)
end
namespace Nx
def cm(m:Nat)(p:List Nat):Nat:=p.foldl (λm d=>max m (d+1)) m
def wP:Nat->List Nat->Option (List Nat)
 |_,[]=>none
 |m,d::l=>match wP (max m (d+1)) l with
  |some l'=>some (d::l')
  |none=>if d<m then some ((d+1)::List.replicate l.length 0)else none
theorem qA(m d:Nat)(l:List Nat):wP m (d::l)=match wP (max m (d+1)) l with
  |some l'=>some (d::l')
  |none=>if d<m then some ((d+1)::List.replicate l.length 0)else none:=rfl
def rws:Nat->Nat->List (List Nat)
 |_,0=>[[]]
 |m,n+1=>(List.range' 0 (m+1)).flatMap λd=>(rws (max m (d+1)) n).map (d::·)
def Yw{α:Type}(nx:α->Option α)(L:List α)(t:Option α):Prop:=∀k (hk:k<L.length),nx L[k]=if k+1<L.length then L[k+1]? else t
theorem zI{α:Type}{nx:α->Option α}{L1 L2:List α}{t:Option α}(h1:Yw nx L1 L2[0]?)(h2:Yw nx L2 t)(hne:0<L2.length):Yw nx (L1++L2) t:=by
 intro k hk;rw[ah1]at hk;by_cases h:k<L1.length
 ·rw[al5 h,h1 k h];by_cases h3:k+1<L1.length
  ·rw[af9 h3,af9 (by rw[ah1];omega),ak3 h3]
  ·rw[af6 h3,af9 (by rw[ah1];omega),ap8 (by omega)]
   congr 1;omega
 ·rw[as2 (by omega),h2 (k-L1.length) (by omega)];by_cases h3:k+1<L1.length+L2.length
  ·rw[af9 (by omega),af9 (by rw[ah1];omega),ap8 (by omega)]
   congr 1;omega
  ·rw[af6 (by omega),af6 (by rw[ah1];omega)]
theorem uG:∀n m,(rws m n)[0]?=some (List.replicate n 0)
 |0,m=>by simp[rws]
 |n+1,m=>by
  have h:=uG n (max m 1);have h2:0<(rws (max m 1) n).length:=by
   rcases am0 (rws (max m 1) n).length with h3|h3
   ·rw[ai6 h3]at h;cases h
   ·exact h3
  unfold rws;rw[show List.range' 0 (m+1)=0::List.range' 1 m from rfl,ao5,ak3 (by simpa using h2),ak7];simp only[ap0];rw[h];rfl
theorem Wn(n m:Nat):0<(rws m n).length:=by
 rcases am0 (rws m n).length with h3|h3
 ·have h:=uG n m;rw[ai6 h3]at h;cases h
 ·exact h3
theorem uH:∀(n m:Nat),∀r∈rws m n,r.length=n
 |0,m,r,h=>by simp[rws]at h;simp[h]
 |n+1,m,r,h=>by
  unfold rws at h;obtain⟨d,hd,hr⟩:=an4.1 h;obtain⟨r',hr',rfl⟩:=ah3.1 hr;simp[uH n _ r' hr']
theorem Rq:∀(n m:Nat),∀r∈rws m n,∀x∈r,x<=m+n
 |0,m,r,h=>by simp[rws]at h;simp[h]
 |n+1,m,r,h=>by
  unfold rws at h;obtain⟨d,hd,hr⟩:=an4.1 h;obtain⟨r',hr',rfl⟩:=ah3.1 hr;have hd':d<m+1:=by simpa using hd
  intro x hx;rcases aj8.1 hx with rfl|hx
  ·omega
  ·have:=Rq n _ r' hr' x hx;omega
theorem MJ:∀n m,Yw (wP m) (rws m n) none
 |0,m=>by
  intro k hk;have h0:k=0:=by simp[rws]at hk;omega
  subst h0;simp[rws,wP]
 |n+1,m=>by
  have key:∀c j,j+c=m->Yw (wP m) ((List.range' j (c+1)).flatMap λd=>(rws (max m (d+1)) n).map (d::·)) none:=by
   have blk:∀d t,(if d<m then some ((d+1)::List.replicate n 0)else none)=t->Yw (wP m) ((rws (max m (d+1)) n).map (d::·)) t:=by
    intro d t ht k hk;have hk':k<(rws (max m (d+1)) n).length:=(by simpa using hk);have ho:=MJ n (max m (d+1)) k hk';have hlen:=uH n _ _ (af4 hk');rw[am8];rw[qA,ho];by_cases h3:k+1<(rws (max m (d+1)) n).length
    ·rw[af9 h3,af9 (c:=k+1<((rws (max m (d+1)) n).map (d::·)).length) (by simpa using h3),ak7,af2 h3];rfl
    ·rw[af6 h3,af6 (c:=k+1<((rws (max m (d+1)) n).map (d::·)).length) (by simpa using h3)];simp only;rw[hlen];exact ht
   intro c
   induction c with
   |zero=>
    intro j hj;rw[show List.range' j (0+1)=[j]from rfl,ao5,List.flatMap_nil,an2];exact blk j none (af6 (by omega))
   |succ c ih=>
    intro j hj;rw[show List.range' j (c+1+1)=j::List.range' (j+1) (c+1)from rfl,ao5];have e0:((List.range' (j+1) (c+1)).flatMap λd=>(rws (max m (d+1)) n).map (d::·))[0]?=some ((j+1)::List.replicate n 0):=by
     rw[show List.range' (j+1) (c+1)=(j+1)::List.range' (j+1+1) c from rfl,ao5,ak3 (by simpa using Wn n _),ak7,uG];rfl
    refine zI ?_ (ih (j+1) (by omega)) ?_
    ·rw[e0];exact blk j _ (af9 (by omega))
    ·rcases am0 ((List.range' (j+1) (c+1)).flatMap λd=>(rws (max m (d+1)) n).map (d::·)).length with h3|h3
     ·rw[ai6 h3]at e0;cases e0
     ·exact h3
  unfold rws;exact key m 0 (by omega)
theorem zK:∀(p q:List Nat) (m:Nat),wP m (p++q)=match wP (cm m p) q with
  |some q'=>some (p++q')
  |none=>(wP m p).map (·++List.replicate q.length 0)
 |[],q,m=>by
  show wP m q=match wP m q with|some q'=>some q'|none=>_
  cases wP m q<;>rfl
 |d::p,q,m=>by
  have ih:=zK p q (max m (d+1))
  show wP m (d::(p++q))=match wP (cm (max m (d+1)) p) q with|some q'=>some (d::p++q')|none=>_
  rw[qA m d (p++q),qA m d p,ih];cases wP (cm (max m (d+1)) p) q with
  |some q'=>rfl
  |none=>
   simp only;cases wP (max m (d+1)) p with
   |some p'=>rfl
   |none=>
    simp only[Option.map_none];by_cases h:d<m
    ·rw[af9 h,af9 h];simp[List.replicate_append_replicate]
    ·rw[af6 h,af6 h];rfl
theorem Ny(p:List Nat)(d m:Nat):cm m (p++[d])=max (cm m p) (d+1):=by simp[cm]
theorem SC{l:List Nat}{i:Nat}(hi:i<l.length)(h:wP (cm 0 (l.take (i+1))) (l.drop (i+1))=none) :
  (l[i]<cm 0 (l.take i)->wP 0 l=some (l.take i++(l[i]+1)::List.replicate (l.length-(i+1)) 0))/\(¬l[i]<cm 0 (l.take i)->wP (cm 0 (l.take i)) (l.drop i)=none):=by
 have e1:l.drop i=l[i]::l.drop (i+1):=an6 hi;have e2:l.take (i+1)=l.take i++[l[i]]:=by rw[ai4,af2 hi];rfl
 rw[e2,Ny]at h;have e3:wP (cm 0 (l.take i)) (l.drop i)=if l[i]<cm 0 (l.take i)then some ((l[i]+1)::List.replicate (l.length-(i+1)) 0)else none:=by
  rw[e1,qA,h];simp only[aq9]
 refine⟨λhd=>?_,λhd=>by rw[e3,af6 hd]⟩;have:=zK (l.take i) (l.drop i) 0;rw[ar2,e3,af9 hd]at this;exact this
theorem SB{l:List Nat}(h:wP (cm 0 (l.take 1)) (l.drop 1)=none):wP 0 l=none:=by
 cases l with
 |nil=>rfl
 |cons d l=>
  have h':wP (max 0 (d+1)) l=none:=h;rw[qA,h'];simp
def nb:List Bool->Option (List Bool)
 |[]=>none
 |b::l=>match nb l with
  |some l'=>some (b::l')
  |none=>if b=false then some (true::List.replicate l.length false)else none
theorem yO(b:Bool)(l:List Bool):nb (b::l)=match nb l with
  |some l'=>some (b::l')
  |none=>if b=false then some (true::List.replicate l.length false)else none:=rfl
def mO:Nat->List (List Bool)
 |0=>[[]]
 |n+1=>(mO n).map (false::·)++(mO n).map (true::·)
theorem Fv:∀(n:Nat),∀r∈mO n,r.length=n
 |0,r,h=>by simp[mO]at h;simp[h]
 |n+1,r,h=>by
  unfold mO at h;rcases ai3.1 h with h|h<;>obtain⟨r',hr',rfl⟩:=ah3.1 h<;>simp[Fv n r' hr']
theorem lX:∀n,(mO n).length=2 ^ n
 |0=>rfl
 |n+1=>by simp[mO,lX n];omega
theorem wB:∀n,(mO n)[0]?=some (List.replicate n false)
 |0=>rfl
 |n+1=>by
  have h2:0<(mO n).length:=by rw[lX];exact Nat.pos_of_ne_zero (by simp)
  unfold mO;rw[ak3 (by simpa using h2),ak7,wB n];rfl
theorem ND:∀n,Yw nb (mO n) none
 |0=>by
  intro k hk;have h0:k=0:=by simp[mO]at hk;omega
  subst h0;simp[mO,nb]
 |n+1=>by
  have h2:0<(mO n).length:=by rw[lX];exact Nat.pos_of_ne_zero (by simp)
  have blk:∀(b:Bool) t,(if b=false then some (true::List.replicate n false)else none)=t->Yw nb ((mO n).map (b::·)) t:=by
   intro b t ht k hk;have hk':k<(mO n).length:=(by simpa using hk);have ho:=ND n k hk';have hlen:=Fv n _ (af4 hk');rw[am8];rw[yO,ho];by_cases h3:k+1<(mO n).length
   ·rw[af9 h3,af9 (c:=k+1<((mO n).map (b::·)).length) (by simpa using h3),ak7,af2 h3];rfl
   ·rw[af6 h3,af6 (c:=k+1<((mO n).map (b::·)).length) (by simpa using h3)];simp only;rw[hlen];exact ht
  unfold mO;refine zI ?_ (blk true none (by simp)) (by simpa using h2);rw[ak7,wB];exact blk false _ (by simp)
theorem Dz:∀(p q:List Bool),nb (p++q)=match nb q with
  |some q'=>some (p++q')
  |none=>(nb p).map (·++List.replicate q.length false)
 |[],q=>by
  show nb q=match nb q with|some q'=>some q'|none=>_
  cases nb q<;>rfl
 |d::p,q=>by
  have ih:=Dz p q
  show nb (d::(p++q))=match nb q with|some q'=>some (d::p++q')|none=>_
  rw[yO d (p++q),yO d p,ih];cases nb q with
  |some q'=>rfl
  |none=>
   simp only;cases nb p with
   |some p'=>rfl
   |none=>
    simp only[Option.map_none];by_cases h:d=false
    ·rw[af9 h,af9 h];simp[List.replicate_append_replicate]
    ·rw[af6 h,af6 h];rfl
theorem WY{l:List Bool}{i:Nat}(hi:i<l.length)(h:nb (l.drop (i+1))=none) :
  (l[i]=false->nb l=some (l.take i++true::List.replicate (l.length-(i+1)) false))/\(l[i]=true->nb (l.drop i)=none):=by
 have e1:l.drop i=l[i]::l.drop (i+1):=an6 hi;have e3:nb (l.drop i)=if l[i]=false then some (true::List.replicate (l.length-(i+1)) false)else none:=by
  rw[e1,yO,h];simp only[aq9]
 refine⟨λhd=>?_,λhd=>by rw[e3,af6 (by rw[hd];simp)]⟩;have:=Dz (l.take i) (l.drop i);rw[ar2,e3,af9 hd]at this;exact this
def tv(n k:Nat):List Bool:=(List.range n).map λi=>decide (k/2 ^ i%2=1)
theorem N7(n k:Nat):(tv n k).length=n:=by simp[tv]
theorem MB{n:Nat}(h:n<=4):(mO n).Perm ((List.range (2 ^ n)).map (tv n)):=by
 have h':n=0\/n=1\/n=2\/n=3\/n=4:=by omega
 rcases h' with rfl|rfl|rfl|rfl|rfl<;>decide +kernel
theorem QV{n:Nat}(h:n<=4)(g:List Bool->Bool):(mO n).countP g=(List.range (2 ^ n)).countP (λk=>g (tv n k)):=by
 rw[(MB h).countP_eq,List.countP_map];rfl
theorem Wp{n:Nat}(h:n<=7):(rws 0 n).length<=1000:=by
 have h':n=0\/n=1\/n=2\/n=3\/n=4\/n=5\/n=6\/n=7:=by omega
 rcases h' with rfl|rfl|rfl|rfl|rfl|rfl|rfl|rfl<;>decide +kernel
def sumTo{α:Type}(L:List α)(g:α->Nat)(k:Nat):Nat:=((L.take k).map g).sum
theorem Je{α:Type}(L:List α)(g:α->Nat):sumTo L g 0=0:=by simp[sumTo]
theorem zk{α:Type}(L:List α)(g:α->Nat){k:Nat}(h:k<L.length):sumTo L g (k+1)=sumTo L g k+g L[k]:=by
 unfold sumTo;rw[ai4,af2 h,al7,List.sum_append];rfl
theorem sumTo_le{α:Type}(L:List α)(g:α->Nat){c:Nat}(h:∀x,g x<=c):∀k,sumTo L g k<=k*c:=by
 intro k
 induction k with
 |zero=>simp[sumTo]
 |succ k ih=>
  by_cases hk:k<L.length
  ·rw[zk L g hk,Nat.succ_mul];have:=h L[k];omega
  ·have e:sumTo L g (k+1)=sumTo L g k:=by
    unfold sumTo;rw[ai2 (by omega),ai2 (by omega)]
   rw[e,Nat.succ_mul];omega
end Nx
theorem G5{P:Nat->Prop}(h:∃n,P n):∃n,P n/\∀m,P m->n<=m:=by
 obtain⟨n,hn⟩:=h
 induction n using Nat.strongRecOn with
 |ind n ih=>
  by_cases h2:∃m,m<n/\P m
  ·obtain⟨m,hm,hp⟩:=h2;exact ih m hm hp
  ·exact⟨n,hn,λm hm=>Nat.le_of_not_lt λhl=>h2 ⟨m,hl,hm⟩⟩
theorem UQ{P:Nat->Prop}(h:∃n,P n):P (Classical.epsilon λn=>P n/\∀m,P m->n<=m):=
 (Classical.epsilon_spec (G5 h)).1
theorem KO{P:Nat->Prop}{r r':Nat}(h:P r')(hr:r'<r):(Classical.epsilon λn=>P n/\∀m,P m->n<=m)<r:=
 Nat.lt_of_le_of_lt ((Classical.epsilon_spec (G5 ⟨r',h⟩)).2 r' h) hr
section
open Go.RowKit
open Nx
attribute [local go_sem] Oper.semAt_some
theorem XG{vs:List Nat}{k:Nat}(h:k<vs.length)(m:Nat):cm m (vs.take (k+1))=max (cm m (vs.take k)) (vs[k]+1):=by
 rw[ai4,af2 h];exact Ny _ _ _
theorem Yv{vs:List Nat}(h:∀x∈vs,x<=100):∀m,m<=101->cm m vs<=101:=by
 induction vs with
 |nil=>intro m hm;exact hm
 |cons d p ih=>
  intro m hm;have:=h d (by simp);exact ih (λx hx=>h x (by simp[hx])) _ (by show max m (d+1)<=101;omega)
end
open Go.RowKit Go.Maps Go.WideMaps
open Nx
theorem set_mid{α:Type}(A B:List α)(x y:α){k:Nat}(h:A.length=k):(A++x::B).set k y=A++y::B:=by subst h;simp
end Go.Proofs.YthcppbmkacbbiaaGreat
