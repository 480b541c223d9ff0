import Derived.Test.YthcppbmkacbbiaaGreatYBF
set_option linter.unusedSimpArgs false
set_option maxHeartbeats 8000000
set_option maxRecDepth 100000
namespace Go.Proofs.YthcppbmkacbbiaaGreat
open Go.Proofs.Tryz
open Go.RowKit Go.Maps Go.WideMaps
open Sat (View Rule jw bI)
open aB (Key put dH au aP)
theorem vU(n0:Nat)(w:World)(lb BU BS:Nat)(f:Key->Key)(dom:Key->Prop)(X:Nat->Prop)(aO Us:List Key)(ak:List Rule)(L':List (List aV))(a b:Nat)(hA:Ask f dom aO (61,a,b))(h:LG n0 w lb BU BS f dom Us ak X)(hP:kC Us ak L')(hc:∀q∈Us,q∈aO)(h9:aO.length<=900)(hn:n0<=w.heap.size) :
  Calls prog 174 #[.pointer (some ⟨lb,0,none⟩),.agg #[.int .u8 61,.int .i64 a,.int .i64 b]] w λe w'=>e=.returned (.agg #[.int .i64 ((put Us (f (61,a,b))).idxOf (f (61,a,b))),.bool true])/\LG n0 w' lb BU BS f dom (put Us (f (61,a,b))) ak X/\kC (put Us (f (61,a,b))) ak L'/\(∀q∈put Us (f (61,a,b)),q∈aO)/\Below n0 w w'/\VK w w':=
 Gh n0 w lb BU BS f dom X aO Us ak L' (61,a,b) hA h hP hc h9 hn
structure EI(w:World)(n0 lb BU BS:Nat)(f:Key->Key)(dom:Key->Prop)(X:Nat->Prop)(aO:List Key)(L':List (List aV))(W:World):Prop where
 ls:LS n0 lb BU BS f dom X aO L' W
 below:Below n0 w W
 keep:VK w W
 size:w.heap.size<=W.heap.size
theorem EI.grow{w:World}{n0 lb BU BS:Nat}{f:Key->Key}{dom:Key->Prop}{X:Nat->Prop}{aO:List Key}{L':List (List aV)}{W W':World}(h:EI w n0 lb BU BS f dom X aO L' W)(hn:n0<=w.heap.size)(hg:W.grownBy W' none):EI w n0 lb BU BS f dom X aO L' W':=by
 obtain⟨Us,ak,h1,h2,h3⟩:=h.ls;exact⟨⟨Us,ak,h1.grow hg,h2,h3⟩,h.below.trans ((But.aA hg).below (ae4 hn h.size) (λk _ e=>by cases e)),h.keep.trans (VK.grown hg),ae4 h.size hg.size⟩
theorem Uj(X:Nat->Prop)(n0:Nat)(w:World)(lb BU BS:Nat)(f:Key->Key)(dom:Key->Prop)(aO:List Key)(L:List (List aV))(nt:Nat)(hLS:LS n0 lb BU BS f dom X aO L w)(hX:∀k,X k->k<w.heap.size)(h9:aO.length<=900)(hsm:Uy f dom nt)(hc:∀a b,a<nt->b<nt->f (61,a,b)∈aO)(h0:0<nt)(hnt:nt<=7)(hn:n0<=w.heap.size)(hL:L.length<=2000) :
  Calls prog 130 #[.pointer (some ⟨lb,0,none⟩),.int .i64 nt] w λe w'=>(∃z,e=.returned z)/\EI w n0 lb BU BS f dom X aO (L++Qz f nt) w':=by
 have hask:Hid (∀a b,a<nt->b<nt->Ask f dom aO (61,a,b)):=λa b ha hb=>hsm.ask hc (by omega) ha hb;have hlen:Hid (∀a b c,a<=nt->b<=nt->c<=a->((L++[[(f (bJ 0 0),true)]])++((List.range a).flatMap λa=>(List.range nt).flatMap λb=>(List.range a).map λc=>[(f (bJ a b),false),(f (bJ b c),false),(f (bJ a c),true)])++((List.range b).flatMap λb=>(List.range a).map λc=>[(f (bJ a b),false),(f (bJ b c),false),(f (bJ a c),true)])++((List.range c).map λc=>[(f (bJ a b),false),(f (bJ b c),false),(f (bJ a c),true)])).length<=5000):=λa b c ha hb hc=>by
  have e1:∀k x,(((List.range k).flatMap λb=>(List.range x).map λc=>[(f (bJ x b),false),(f (bJ b c),false),(f (bJ x c),true)]:List (List aV))).length=k*x:=λk x=>by
   induction k with
   |zero=>simp
   |succ k ih=>rw[dQ,ae9,ih];simp;rw[am0];omega
  have e2:∀k,k<=nt->(((List.range k).flatMap λa=>(List.range nt).flatMap λb=>(List.range a).map λc=>[(f (bJ a b),false),(f (bJ b c),false),(f (bJ a c),true)]:List (List aV))).length<=k*49:=λk=>by
   induction k with
   |zero=>intro _;simp
   |succ k ih=>
    intro hk;rw[dQ,ae9,e1];have:=ih (by omega);have h3:nt*k<=7*7:=Nat.mul_le_mul (by omega) (by omega);omega
  have h1:=e2 a ha;have h2:=e1 b a;have h3:b*a<=7*7:=Nat.mul_le_mul (by omega) (by omega);have h4:a*49<=7*49:=Nat.mul_le_mul_right _ (by omega);simp only[ae9,aj7,ar1,an9]at *;omega
 obtain⟨Us,ak,iZ,lH,hUC⟩:=hLS;have a00:=ah hask 0 0 h0 h0;clear hsm hc
 go_enter func130,ntmps130
 have VT:=ig 0 0 w;simp only[Int.natCast_zero]at VT
 go_wp2_with fail
 refine VT.mono ?_;rintro e w1 ⟨rfl,hg1⟩;have VF:=vU n0 w1 lb BU BS f dom X aO Us ak L 0 0 a00 (iZ.grow hg1) lH hUC h9 (ae4 hn hg1.size);simp only[Int.natCast_zero]at VF
 go_wp2_with fail
 refine VF.mono ?_;rintro e w2 ⟨rfl,iM,oU,CJ,hB2,hK2⟩;have hs2:=hB2.size;have hs1:=hg1.size;have hdm:=dD X n0 (w2.alloc (.cells #[.int .i64 ((put Us (f (61,0,0))).idxOf (f (61,0,0))),.bool true] 214)) lb BU BS f dom _ ak L _ [(f (61,0,0),true)] (iM.grow (ac1 _ _ none)) (λq e=>by have:=hX q e;simp;omega) oU (Rf w2 (vw (put Us (f (61,0,0))) (f (61,0,0),true))) (by simp) (by simp) (by simpa using aU Us (f (61,0,0))) (by simp;omega) (by rw[oU.len];omega);have hgb:w2.grownBy (w2.alloc (.cells #[.int .i64 ((put Us (f (61,0,0))).idxOf (f (61,0,0))),.bool true] 214)) none:=ac1 _ _ none;generalize (put Us (f (61,0,0))).idxOf (f (61,0,0))=ix at hdm hgb;clear VT VF
 go_wp2_with fail
 refine hdm.mono ?_;rintro e w3 ⟨⟨z3,rfl⟩,dS,iF,iE,hB3,hK3⟩;have hE0:EI w n0 lb BU BS f dom X aO (L++[[(f (bJ 0 0),true)]]) w3:=by
  refine⟨⟨_,dS,iF,iE,CJ⟩,?_,?_,?_⟩
  ·exact((((But.aA hg1).below hn (λk _ e=>by cases e)).trans hB2).trans ((But.aA hgb).below (by omega) (λk _ e=>by cases e))).trans hB3
  ·exact(((VK.grown hg1).trans hK2).trans (VK.grown hgb)).trans hK3
  ·have:=hB3.size;simp at this;omega
 clear hdm iF iE hB3 hK3 iM oU hB2 hK2 CJ iZ lH hUC hg1 hgb hs1 hs2 a00;have HE0:=aj hE0;clear hE0
 go_wp2_with fail
 go_loopw [14] (λi wr=>∃a:Nat,a<=nt/\i=.int .i64 a/\EI w n0 lb BU BS f dom X aO ((L++[[(f (bJ 0 0),true)]])++((List.range a).flatMap λa=>(List.range nt).flatMap λb=>(List.range a).map λc=>[(f (bJ a b),false),(f (bJ b c),false),(f (bJ a c),true)])) wr) (λi _=>nt-(intOf i).toNat)
 case atStart=>exact⟨0,ag3 _,rfl,by simpa using ah HE0⟩
 case round=>
  obtain⟨a,ha,rfl,hE⟩:=hrel;by_cases hlt:a<nt
  ·have hbd:(a:Int)<(nt:Int):=(by omega);have HE:=aj hE;clear hE
   go_wp2_with fail
   go_loopw [18] (λi wr=>∃b:Nat,b<=nt/\i=.int .i64 b/\EI w n0 lb BU BS f dom X aO ((L++[[(f (bJ 0 0),true)]])++((List.range a).flatMap λa=>(List.range nt).flatMap λb=>(List.range a).map λc=>[(f (bJ a b),false),(f (bJ b c),false),(f (bJ a c),true)])++((List.range b).flatMap λb=>(List.range a).map λc=>[(f (bJ a b),false),(f (bJ b c),false),(f (bJ a c),true)])) wr) (λi _=>nt-(intOf i).toNat)
   case atStart=>exact⟨0,ag3 _,rfl,by simpa using ah HE⟩
   case round=>
    obtain⟨b,hb,rfl,hE⟩:=hrel;by_cases hlb:b<nt
    ·have hbd2:(b:Int)<(nt:Int):=(by omega);have HE2:=aj hE;clear hE
     go_wp2_with fail
     go_loopw [22] (λi wr=>∃c:Nat,c<=a/\i=.int .i64 c/\EI w n0 lb BU BS f dom X aO ((L++[[(f (bJ 0 0),true)]])++((List.range a).flatMap λa=>(List.range nt).flatMap λb=>(List.range a).map λc=>[(f (bJ a b),false),(f (bJ b c),false),(f (bJ a c),true)])++((List.range b).flatMap λb=>(List.range a).map λc=>[(f (bJ a b),false),(f (bJ b c),false),(f (bJ a c),true)])++((List.range c).map λc=>[(f (bJ a b),false),(f (bJ b c),false),(f (bJ a c),true)])) wr) (λi _=>a-(intOf i).toNat)
     case atStart=>exact⟨0,ag3 _,rfl,by simpa using ah HE2⟩
     case round=>
      obtain⟨c,hc,rfl,hE⟩:=hrel;by_cases hlc:c<a
      ·have YR:(c:Int)<(a:Int):=(by omega);have hll:=ah hlen a b c (by omega) (by omega) (by omega);have hnx:=Ll (λc=>[(f (bJ a b),false),(f (bJ b c),false),(f (bJ a c),true)]) c;have HNX:=aj hnx;clear hnx;have dh:Hid (∀W',EI w n0 lb BU BS f dom X aO (((L++[[(f (bJ 0 0),true)]])++((List.range a).flatMap λa=>(List.range nt).flatMap λb=>(List.range a).map λc=>[(f (bJ a b),false),(f (bJ b c),false),(f (bJ a c),true)])++((List.range b).flatMap λb=>(List.range a).map λc=>[(f (bJ a b),false),(f (bJ b c),false),(f (bJ a c),true)]))++((List.range c).map λc=>[(f (bJ a b),false),(f (bJ b c),false),(f (bJ a c),true)])++[[(f (61,a,b),false),(f (61,b,c),false),(f (61,a,c),true)]]) W'->EI w n0 lb BU BS f dom X aO (((L++[[(f (bJ 0 0),true)]])++((List.range a).flatMap λa=>(List.range nt).flatMap λb=>(List.range a).map λc=>[(f (bJ a b),false),(f (bJ b c),false),(f (bJ a c),true)])++((List.range b).flatMap λb=>(List.range a).map λc=>[(f (bJ a b),false),(f (bJ b c),false),(f (bJ a c),true)]))++((List.range (c+1)).map λc=>[(f (bJ a b),false),(f (bJ b c),false),(f (bJ a c),true)])) W'):=λW' h=>by
        rw[ah HNX,<-ai7];exact h
       obtain⟨M,hM⟩:∃M,((L++[[(f (bJ 0 0),true)]])++((List.range a).flatMap λa=>(List.range nt).flatMap λb=>(List.range a).map λc=>[(f (bJ a b),false),(f (bJ b c),false),(f (bJ a c),true)])++((List.range b).flatMap λb=>(List.range a).map λc=>[(f (bJ a b),false),(f (bJ b c),false),(f (bJ a c),true)]))++((List.range c).map λc=>[(f (bJ a b),false),(f (bJ b c),false),(f (bJ a c),true)])=M:=⟨_,rfl⟩;rw[hM]at hE hll dh;clear hM HNX;obtain⟨Us,ak,iZ,lH,hUC⟩:=hE.ls;have hbs:=hE.below.size;have HE3:=aj hE;have hsw:=hE.size;clear hE;have A1:=ah hask a b (by omega) (by omega);have A2:=ah hask b c (by omega) (by omega);have A3:=ah hask a c (by omega) (by omega);have hq1:=ig a b wr
       go_wp2_with fail
       refine hq1.mono ?_;rintro e w1 ⟨rfl,hg1⟩;have hs1:=hg1.size;have ho1:=vU n0 w1 lb BU BS f dom X aO Us ak M a b A1 (iZ.grow hg1) lH hUC h9 (by omega);have HK1:=aj (VK.grown hg1);have HB1:Hid (Below n0 wr w1):=(But.aA hg1).below (by omega) (λk _ e=>by cases e);clear hg1 hq1 iZ lH hUC
       go_wp2_with fail
       refine ho1.mono ?_;rintro e w2 ⟨rfl,iM,oU,CJ,hB2,hK2⟩;have hm1:f (61,a,b)∈put Us (f (61,a,b)):=aU _ _;generalize hU1:put Us (f (61,a,b))=U1 at iM oU CJ hm1;clear hU1 ho1;generalize hx1:U1.idxOf (f (61,a,b))=x1;have hn1:=fM x1 true w2;have hs2:=hB2.size;have HB2:=aj hB2;have HK2:=aj hK2;clear hB2 hK2;have HX1:=aj hx1;clear hx1
       go_wp2_with fail
       refine hn1.mono ?_;rintro e w3 ⟨rfl,hg3⟩;have hs3:=hg3.size;have hq2:=ig b c w3;have iF:=iM.grow hg3;have HK3:=aj (VK.grown hg3);have HB3:Hid (Below n0 w2 w3):=(But.aA hg3).below (by omega) (λk _ e=>by cases e);clear hg3 hn1 iM
       go_wp2_with fail
       refine hq2.mono ?_;rintro e w4 ⟨rfl,hg4⟩;have hs4:=hg4.size;have ho2:=vU n0 w4 lb BU BS f dom X aO U1 ak M b c A2 (iF.grow hg4) oU CJ h9 (by omega);have HK4:=aj (VK.grown hg4);have HB4:Hid (Below n0 w3 w4):=(But.aA hg4).below (by omega) (λk _ e=>by cases e);clear hg4 hq2 iF oU CJ
       go_wp2_with fail
       refine ho2.mono ?_;rintro e w5 ⟨rfl,Ig,Ib,MV,hB5,hK5⟩;have hm2:f (61,b,c)∈put U1 (f (61,b,c)):=aU _ _;have hp12:=aN U1 (f (61,b,c));generalize hU2:put U1 (f (61,b,c))=U2 at Ig Ib MV hm2 hp12;clear hU2 ho2;generalize hx2:U2.idxOf (f (61,b,c))=x2;have hn2:=fM x2 true w5;have hs5:=hB5.size;have HB5:=aj hB5;have HK5:=aj hK5;clear hB5 hK5;have HX2:=aj hx2;clear hx2
       go_wp2_with fail
       refine hn2.mono ?_;rintro e w6 ⟨rfl,hg6⟩;have hs6:=hg6.size;have hq3:=ig a c w6;have Y0:=Ig.grow hg6;have HK6:=aj (VK.grown hg6);have HB6:Hid (Below n0 w5 w6):=(But.aA hg6).below (by omega) (λk _ e=>by cases e);clear hg6 hn2 Ig
       go_wp2_with fail
       refine hq3.mono ?_;rintro e w7 ⟨rfl,hg7⟩;have hs7:=hg7.size;have ho3:=vU n0 w7 lb BU BS f dom X aO U2 ak M a c A3 (Y0.grow hg7) Ib MV h9 (by omega);have HK7:=aj (VK.grown hg7);have HB7:Hid (Below n0 w6 w7):=(But.aA hg7).below (by omega) (λk _ e=>by cases e);clear hg7 hq3 Y0 Ib MV
       go_wp2_with fail
       refine ho3.mono ?_;rintro e w8 ⟨rfl,zZ,uZ,MS,hB8,hK8⟩;have hm3:f (61,a,c)∈put U2 (f (61,a,c)):=aU _ _;have hp23:=aN U2 (f (61,a,c));generalize hU3:put U2 (f (61,a,c))=U3 at zZ uZ MS hm3 hp23;clear hU3 ho3;generalize hx3:U3.idxOf (f (61,a,c))=x3;have hs8:=hB8.size;have HB8:=aj hB8;have HK8:=aj hK8;clear hB8 hK8;have e1:vw U3 (f (61,a,b),false)=(x1,false):=(by unfold vw;rw[gI (hp12.trans hp23) hm1,ah HX1]);have e2:vw U3 (f (61,b,c),false)=(x2,false):=(by unfold vw;rw[gI hp23 hm2,ah HX2]);have e3:vw U3 (f (61,a,c),true)=(x3,true):=(by unfold vw;rw[hx3]);have hbt:=nY w8 (x1,false) (x2,false) (x3,true);have hmap:[(f (61,a,b),false),(f (61,b,c),false),(f (61,a,c),true)].map (vw U3)=[(x1,false),(x2,false),(x3,true)]:=(by simp only[ar4,List.map_nil,e1,e2,e3]);rw[<-hmap]at hbt;simp only at hbt;have hgb:w8.grownBy (w8.alloc (.cells #[.int .i64 x1,.bool false,.int .i64 x2,.bool false,.int .i64 x3,.bool true] 214)) none:=ac1 _ _ none;have hdm:=dD X n0 _ lb BU BS f dom U3 ak M _ [(f (61,a,b),false),(f (61,b,c),false),(f (61,a,c),true)] (zZ.grow hgb) (λq e=>by have:=hX q e;simp;omega) uZ hbt (by simp) (by simp) (by
        intro l hl;simp only[ah0,aj8,ao3]at hl;rcases hl with rfl|rfl|rfl
        ·exact(hp12.trans hp23).mem hm1
        ·exact hp23.mem hm2
        ·exact hm3) (by simp;omega) (by rw[uZ.len];omega)
       have HKb:=aj (VK.grown hgb);have HBb:Hid (Below n0 w8 _):=(But.aA hgb).below (by omega) (λk _ e=>by cases e);have HUC:=aj MS;clear hgb hbt zZ uZ MS hx3 e1 e2 e3 hmap hm1 hm2 hm3 hp12 hp23 A1 A2 A3
       go_wp2_with fail
       refine hdm.mono ?_;rintro e w9 ⟨⟨z9,rfl⟩,xY,Fb,CO,hB9,hK9⟩;have hs9:=hB9.size;have hsb:=(ah HBb).size;have hEF:=ah dh w9 ⟨⟨U3,xY,Fb,CO,ah HUC⟩,((ah HE3).below.trans (ah HB1)).trans ((((((((ah HB2).trans (ah HB3)).trans (ah HB4)).trans (ah HB5)).trans (ah HB6)).trans (ah HB7)).trans (ah HB8)).trans ((ah HBb).trans hB9)),((ah HE3).keep.trans (ah HK1)).trans ((((((((ah HK2).trans (ah HK3)).trans (ah HK4)).trans (ah HK5)).trans (ah HK6)).trans (ah HK7)).trans (ah HK8)).trans ((ah HKb).trans hK9)),by omega⟩;have HEF:=aj hEF;clear hEF hdm Fb CO hB9 hK9
       go_wp2_with fail
       exact⟨⟨c+1,hlc,by go_num,ah HEF⟩,by simp[intOf];omega⟩
      ·have hcc:c=a:=(by omega);subst hcc;have YR:¬(c:Int)<(c:Int):=(by omega);have HN:=aj (dQ (λb=>(List.range c).map λc'=>[(f (bJ c b),false),(f (bJ b c'),false),(f (bJ c c'),true)]) b);have HE3:=aj hE;clear hE
       go_wp2_with fail
       refine⟨⟨b+1,hlb,by go_num,?_⟩,by simp[intOf];omega⟩;rw[ah HN,<-ai7];exact ah HE3
    ·have hbb:b=nt:=(by omega);subst hbb;have hbd2:¬(b:Int)<(b:Int):=(by omega);have HN:=aj (dQ (λa=>(List.range b).flatMap λb'=>(List.range a).map λc=>[(f (bJ a b'),false),(f (bJ b' c),false),(f (bJ a c),true)]) a);have HE3:=aj hE;clear hE
     go_wp2_with fail
     refine⟨⟨a+1,hlt,by go_num,?_⟩,by simp[intOf];omega⟩;rw[ah HN,<-ai7];exact ah HE3
  ·have haa:a=nt:=(by omega);subst haa;have hbd:¬(a:Int)<(a:Int):=(by omega);have HE3:=aj hE;clear hE
   go_wp2_with fail
   go_end0
   refine⟨⟨_,rfl⟩,?_⟩;have h:=ah HE3;rw[ai7]at h;exact h
def xJ(f:Key->Key)(ts:List Key)(a b:Nat):List (List aV):=
 if (ts.getD a (0,0,0)).1=(ts.getD b (0,0,0)).1 then [[(f (bJ (ts.getD a (0,0,0)).2.1 (ts.getD b (0,0,0)).2.1),false),(f (bJ (ts.getD a (0,0,0)).2.2 (ts.getD b (0,0,0)).2.2),false),(f (bJ a b),true)]]else []
theorem Qv(f:Key->Key)(ts:List Key):U4 f ts=(List.range ts.length).flatMap λa=>(List.range a).flatMap λb=>xJ f ts a b:=rfl
theorem CW(f:Key->Key)(ts:List Key)(a b:Nat):(xJ f ts a b).length<=1:=by unfold xJ;split<;>simp
theorem jZ{α:Type}(g:Nat->List α)(c:Nat)(h:∀i,(g i).length<=c):∀k,((List.range k).flatMap g).length<=k*c:=by
 intro k
 induction k with
 |zero=>simp
 |succ k ih=>rw[dQ,ae9,am0];have:=h k;omega
theorem QI(X:Nat->Prop)(n0:Nat)(w:World)(lb BU BS:Nat)(f:Key->Key)(dom:Key->Prop)(aO:List Key)(L:List (List aV))(GT:Nat)(ts:List Key)(hLS:LS n0 lb BU BS f dom X aO L w)(hX:∀k,X k->k<w.heap.size)(h9:aO.length<=900)(hsm:Uy f dom ts.length)(hc:∀a b,a<ts.length->b<ts.length->f (61,a,b)∈aO)(hnt:ts.length<=7)(hn:n0<=w.heap.size)(hL:L.length<=5000)
 (hrt:cO w GT ts)(hG:GT<n0)(ht:∀i (hi:i<ts.length),ts[i].2.1<ts.length/\ts[i].2.2<ts.length) :
  Calls prog 131 #[.pointer (some ⟨lb,0,none⟩),.slice (some ⟨GT,0,none⟩) ts.length ts.length] w λe w'=>(∃z,e=.returned z)/\EI w n0 lb BU BS f dom X aO (L++U4 f ts) w':=by
 have hask:Hid (∀a b,a<ts.length->b<ts.length->Ask f dom aO (61,a,b)):=λa b ha hb=>hsm.ask hc (by omega) ha hb;have hlen:Hid (∀a b,a<=ts.length->b<=a->((L++((List.range a).flatMap λa=>(List.range a).flatMap λb=>xJ f ts a b))++((List.range b).flatMap λb=>xJ f ts a b)).length<=6000):=λa b ha hb=>by
  have h1:((List.range a).flatMap λa=>(List.range a).flatMap λb=>xJ f ts a b).length<=a*7:=by
   have key:∀k,k<=7->((List.range k).flatMap λa=>(List.range a).flatMap λb=>xJ f ts a b).length<=k*7:=λk=>by
    induction k with
    |zero=>intro _;simp
    |succ k ih=>
     intro hk;rw[dQ,ae9,am0];have h1:=ih (by omega);have h2:=jZ (λb=>xJ f ts k b) 1 (CW f ts k) k;omega
   exact key a (by omega)
  have h2:=jZ (λb=>xJ f ts a b) 1 (CW f ts a) b;simp only[ae9];omega
 have hE0:EI w n0 lb BU BS f dom X aO L w:=⟨hLS,af5 _ _,VK.refl _,ac2 _⟩;have HE0:=aj hE0;have HRT:=aj hrt;have HT:=aj ht;rw[Qv];clear hsm hc hLS hE0 hrt ht
 go_enter func131,ntmps131
 go_wp2_with fail
 go_loopw [10] (λi wr=>∃a:Nat,a<=ts.length/\i=.int .i64 a/\EI w n0 lb BU BS f dom X aO (L++((List.range a).flatMap λa=>(List.range a).flatMap λb=>xJ f ts a b)) wr) (λi _=>ts.length-(intOf i).toNat)
 case atStart=>exact⟨0,ag3 _,rfl,by simpa using ah HE0⟩
 case round=>
  obtain⟨a,ha,rfl,hE⟩:=hrel;by_cases hlt:a<ts.length
  ·have hbd:(a:Int)<(ts.length:Int):=(by omega);obtain⟨c0,c1,c2⟩:=((ah HRT).below hE.below hG).2 a hlt;obtain⟨ta1,ta2⟩:=ah HT a hlt;have hga:ts.getD a (0,0,0)=ts[a]:=aG hlt _;have hsz:=hE.size;have HGA:=aj hga;have HE:=aj hE;clear hE hga;generalize ts[a]=ka at c0 c1 c2 ta1 ta2 HGA;obtain⟨al,ax,ay⟩:=ka;simp only at c0 c1 c2 ta1 ta2;have hgA:wr.grownBy (wr.alloc (.cells #[.int .u8 al,.int .i64 ax,.int .i64 ay] 87)) none:=ac1 _ _ none;have hE1:=(ah HE).grow hn hgA;have b5:(wr.alloc (.cells #[.int .u8 al,.int .i64 ax,.int .i64 ay] 87)).heap[wr.heap.size]?=some (.cells #[.int .u8 al,.int .i64 ax,.int .i64 ay] 87 (0,0)):=ad7 _ _;have HE1:=aj hE1;have B5:=aj b5;obtain⟨B,hB⟩:∃B,wr.heap.size=B:=⟨_,rfl⟩;clear hE1 b5 hgA
   go_wp2_with fail
   rw[hB]at B5;have HB:=aj hB;clear hB
   go_loopw [19] (λi wq=>∃b:Nat,b<=a/\i=.int .i64 b/\EI w n0 lb BU BS f dom X aO ((L++((List.range a).flatMap λa=>(List.range a).flatMap λb=>xJ f ts a b))++((List.range b).flatMap λb=>xJ f ts a b)) wq/\wq.heap[B]?=some (.cells #[.int .u8 al,.int .i64 ax,.int .i64 ay] 87 (0,0))) (λi _=>a-(intOf i).toNat)
   case atStart=>exact⟨0,ag3 _,rfl,by simpa using ah HE1,ah B5⟩
   case round=>
    clear HE1 B5 c0 c1 c2;obtain⟨b,hb,rfl,hE,b5⟩:=hrel;by_cases hlb:b<a
    ·have hbd2:(b:Int)<(a:Int):=(by omega);obtain⟨c0,c1,c2⟩:=((ah HRT).below hE.below hG).2 b (by omega);obtain⟨tb1,tb2⟩:=ah HT b (by omega);have hgb:ts.getD b (0,0,0)=ts[b]:=aG (by omega) _;have hll:=ah hlen a b (by omega) (by omega);have aae:=hE.size;have hfb:xJ f ts a b=if al=ts[b].1 then [[(f (61,ax,ts[b].2.1),false),(f (61,ay,ts[b].2.2),false),(f (61,a,b),true)]]else []:=by
      unfold xJ bJ;rw[ah HGA,hgb]
     have dh:Hid (∀W',EI w n0 lb BU BS f dom X aO (((L++((List.range a).flatMap λa=>(List.range a).flatMap λb=>xJ f ts a b))++((List.range b).flatMap λb=>xJ f ts a b))++xJ f ts a b) W'->EI w n0 lb BU BS f dom X aO ((L++((List.range a).flatMap λa=>(List.range a).flatMap λb=>xJ f ts a b))++((List.range (b+1)).flatMap λb=>xJ f ts a b)) W'):=λW' h=>by
      rw[dQ,<-ai7];exact h
     rw[hfb]at dh;clear hfb hgb;generalize ts[b]=kb at c0 c1 c2 tb1 tb2 dh;obtain⟨bl,bx,by'⟩:=kb;simp only at c0 c1 c2 tb1 tb2 dh;have hgA:wr.grownBy (wr.alloc (.cells #[.int .u8 bl,.int .i64 bx,.int .i64 by'] 87)) none:=ac1 _ _ none;obtain⟨W1,hW1⟩:∃W1,wr.alloc (.cells #[.int .u8 bl,.int .i64 bx,.int .i64 by'] 87)=W1:=⟨_,rfl⟩;have b7:W1.heap[wr.heap.size]?=some (.cells #[.int .u8 bl,.int .i64 bx,.int .i64 by'] 87 (0,0)):=(by rw[<-hW1];exact ad7 _ _);rw[hW1]at hgA;have b51:=aI (VK.grown hgA) b5;have hE1:=hE.grow hn hgA;have k50:W1.cell? ⟨B,0,none⟩=some (.int .u8 al):=(by rw[cell_of b51];rfl);have k70:W1.cell? ⟨wr.heap.size,0,none⟩=some (.int .u8 bl):=(by rw[cell_of b7];rfl);obtain⟨C,hC⟩:∃C,wr.heap.size=C:=⟨_,rfl⟩;have HE1:=aj hE1;have B51:=aj b51;have B7:=aj b7;rw[hC]at B7 k70;obtain⟨M,hM⟩:∃M,(L++((List.range a).flatMap λa=>(List.range a).flatMap λb=>xJ f ts a b))++((List.range b).flatMap λb=>xJ f ts a b)=M:=⟨_,rfl⟩;rw[hM]at hll dh HE1;have hsW:=hE1.size;have HM:=aj hM;clear hE hE1 b51 b7 b5 hgA hM;by_cases hlet:al=bl
     ·subst hlet;rw[ae2 rfl]at dh
      go_wp2_with fail
      clear hW1 hC;obtain⟨V,hVd⟩:∃V,W1.drew=V:=⟨_,rfl⟩;have jD:W1.grownBy V none:=(by rw[<-hVd];exact⟨rfl,rfl,rfl,ac2 _,λ_ _ _=>rfl⟩);refine ag0 (S:=λW'=>VK V W') rfl ?_;have hS0:VK V V:=VK.refl _;simp only[ad3,ac9,ae1,Nat.reduceAdd,ac7,ac6,ad5,ad9,ad8];change wpAnyH prog .any _ _ _ _ _ _ W1.drew;rw[hVd];clear hVd;have bA:=aI (VK.grown jD) (ah B51);have bB:=aI (VK.grown jD) (ah B7);have hEV:=(ah HE1).grow hn jD;have hsV:=hEV.size;obtain⟨Us,ak,iZ,lH,hUC⟩:=hEV.ls;have A1:=ah hask ax bx ta1 tb1;have A2:=ah hask ay by' ta2 tb2;have A3:=ah hask a b (by omega) (by omega);refine tH 0 (.pointer (some ⟨lb,0,none⟩)) (λw' hS=>?_) hS0 ?_
      ·go_simp
      simp only[aC];refine tH 1 (.pointer (some ⟨lb,0,none⟩)) (λw' hS=>?_) hS0 ?_
      ·go_simp
      simp only[aC];refine tH 2 (.pointer (some ⟨B,1,none⟩)) (λw' hS=>?_) hS0 ?_
      ·go_simp
      simp only[aC];refine tH 3 (.int .i64 ax) (λw' hS=>?_) hS0 ?_
      ·have q:=aI hS bA;have q0:=(cell_of q 1)
       go_simp
      simp only[aC];refine tH 4 (.pointer (some ⟨C,1,none⟩)) (λw' hS=>?_) hS0 ?_
      ·go_simp
      simp only[aC];refine tH 5 (.int .i64 bx) (λw' hS=>?_) hS0 ?_
      ·have q:=aI hS bB;have q0:=(cell_of q 1)
       go_simp
      simp only[aC];refine tH 9 (.pointer (some ⟨lb,0,none⟩)) (λw' hS=>?_) hS0 ?_
      ·go_simp
      simp only[aC];refine tH 10 (.pointer (some ⟨B,2,none⟩)) (λw' hS=>?_) hS0 ?_
      ·go_simp
      simp only[aC];refine tH 11 (.int .i64 ay) (λw' hS=>?_) hS0 ?_
      ·have q:=aI hS bA;have q0:=(cell_of q 2)
       go_simp
      simp only[aC];refine tH 12 (.pointer (some ⟨C,2,none⟩)) (λw' hS=>?_) hS0 ?_
      ·go_simp
      simp only[aC];refine tH 13 (.int .i64 by') (λw' hS=>?_) hS0 ?_
      ·have q:=aI hS bB;have q0:=(cell_of q 2)
       go_simp
      simp only[aC];refine tH 17 (.pointer (some ⟨lb,0,none⟩)) (λw' hS=>?_) hS0 ?_
      ·go_simp
      simp only[aC];refine tH 18 (.int .i64 a) (λw' hS=>?_) hS0 ?_
      ·go_simp
      simp only[aC];refine tH 19 (.int .i64 b) (λw' hS=>?_) hS0 ?_
      ·go_simp
      simp only[aC];refine oH 6 (λK hK=>?_);go_simp;refine(ig ax bx V).mono ?_;rintro e w1 ⟨rfl,hg1⟩;replace hS0:=hS0.trans (VK.grown hg1);refine hK.out _ _ hS0 ?_;clear hK K;have hs1:=hg1.size;have hB1:Below n0 V w1:=(But.aA hg1).below (by omega) (λk _ e=>by cases e);refine oH 7 (λK hK=>?_);go_simp;refine(vU n0 w1 lb BU BS f dom X aO Us ak M ax bx A1 (iZ.grow hg1) lH hUC h9 (by omega)).mono ?_;rintro e w2 ⟨rfl,iM,oU,CJ,hB2,hK2⟩;replace hS0:=hS0.trans hK2;refine hK.out _ _ hS0 ?_;clear hK K;have hm1:f (61,ax,bx)∈put Us (f (61,ax,bx)):=aU _ _;generalize hU1:put Us (f (61,ax,bx))=U1 at iM oU CJ hm1 ⊢;clear hU1;generalize hx1:U1.idxOf (f (61,ax,bx))=x1;have hs2:=hB2.size;refine oH 8 (λK hK=>?_);go_simp;refine(fM x1 true w2).mono ?_;rintro e w3 ⟨rfl,hg3⟩;replace hS0:=hS0.trans (VK.grown hg3);refine hK.out _ _ hS0 ?_;clear hK K;have hs3:=hg3.size;have hB3:Below n0 w2 w3:=(But.aA hg3).below (by omega) (λk _ e=>by cases e);refine oH 14 (λK hK=>?_);go_simp;refine(ig ay by' w3).mono ?_;rintro e w4 ⟨rfl,hg4⟩;replace hS0:=hS0.trans (VK.grown hg4);refine hK.out _ _ hS0 ?_;clear hK K;have hs4:=hg4.size;have hB4:Below n0 w3 w4:=(But.aA hg4).below (by omega) (λk _ e=>by cases e);refine oH 15 (λK hK=>?_);go_simp;refine(vU n0 w4 lb BU BS f dom X aO U1 ak M ay by' A2 ((iM.grow hg3).grow hg4) oU CJ h9 (by omega)).mono ?_;rintro e w5 ⟨rfl,Ig,Ib,MV,hB5,hK5⟩;replace hS0:=hS0.trans hK5;refine hK.out _ _ hS0 ?_;clear hK K;have hm2:f (61,ay,by')∈put U1 (f (61,ay,by')):=aU _ _;have hp12:=aN U1 (f (61,ay,by'));generalize hU2:put U1 (f (61,ay,by'))=U2 at Ig Ib MV hm2 hp12 ⊢;clear hU2;generalize hx2:U2.idxOf (f (61,ay,by'))=x2;have hs5:=hB5.size;refine oH 16 (λK hK=>?_);go_simp;refine(fM x2 true w5).mono ?_;rintro e w6 ⟨rfl,hg6⟩;replace hS0:=hS0.trans (VK.grown hg6);refine hK.out _ _ hS0 ?_;clear hK K;have hs6:=hg6.size;have hB6:Below n0 w5 w6:=(But.aA hg6).below (by omega) (λk _ e=>by cases e);refine oH 20 (λK hK=>?_);go_simp;refine(ig a b w6).mono ?_;rintro e w7 ⟨rfl,hg7⟩;replace hS0:=hS0.trans (VK.grown hg7);refine hK.out _ _ hS0 ?_;clear hK K;have hs7:=hg7.size;have hB7:Below n0 w6 w7:=(But.aA hg7).below (by omega) (λk _ e=>by cases e);refine oH 21 (λK hK=>?_);go_simp;refine(vU n0 w7 lb BU BS f dom X aO U2 ak M a b A3 ((Ig.grow hg6).grow hg7) Ib MV h9 (by omega)).mono ?_;rintro e w8 ⟨rfl,zZ,uZ,MS,hB8,hK8⟩;replace hS0:=hS0.trans hK8;refine hK.out _ _ hS0 ?_;clear hK K;have hm3:f (61,a,b)∈put U2 (f (61,a,b)):=aU _ _;have hp23:=aN U2 (f (61,a,b));generalize hU3:put U2 (f (61,a,b))=U3 at zZ uZ MS hm3 hp23 ⊢;clear hU3;generalize hx3:U3.idxOf (f (61,a,b))=x3;have hs8:=hB8.size;have e1:vw U3 (f (61,ax,bx),false)=(x1,false):=(by unfold vw;rw[gI (hp12.trans hp23) hm1,hx1]);have e2:vw U3 (f (61,ay,by'),false)=(x2,false):=(by unfold vw;rw[gI hp23 hm2,hx2]);have e3:vw U3 (f (61,a,b),true)=(x3,true):=(by unfold vw;rw[hx3]);have hbt:=nY w8 (x1,false) (x2,false) (x3,true);have hmap:[(f (61,ax,bx),false),(f (61,ay,by'),false),(f (61,a,b),true)].map (vw U3)=[(x1,false),(x2,false),(x3,true)]:=(by simp only[ar4,List.map_nil,e1,e2,e3]);rw[<-hmap]at hbt;simp only at hbt;have hgb:w8.grownBy (w8.alloc (.cells #[.int .i64 x1,.bool false,.int .i64 x2,.bool false,.int .i64 x3,.bool true] 214)) none:=ac1 _ _ none;refine oH 22 (λK hK=>?_);go_simp;replace hS0:=hS0.trans (VK.grown hgb);refine hK.out _ _ hS0 ?_;clear hK K;have hdm:=dD X n0 _ lb BU BS f dom U3 ak M _ [(f (61,ax,bx),false),(f (61,ay,by'),false),(f (61,a,b),true)] (zZ.grow hgb) (λq e=>by have:=hX q e;simp;omega) uZ hbt (by simp) (by simp) (by
       intro l hl;simp only[ah0,aj8,ao3]at hl;rcases hl with rfl|rfl|rfl
       ·exact(hp12.trans hp23).mem hm1
       ·exact hp23.mem hm2
       ·exact hm3) (by simp;omega) (by rw[uZ.len];omega)
      refine oH 23 (λK hK=>?_);go_simp;refine(hdm).mono ?_;rintro e w9 ⟨⟨z9,rfl⟩,xY,Fb,CO,hB9,hK9⟩;refine hK.out _ _ (hS0.trans hK9) (af4 (by kernel_rfl) ?_ _);clear hK K;have hBb:Below n0 w8 _:=(But.aA hgb).below (by omega) (λk _ e=>by cases e);have hs9:=hB9.size;have hsb:=hgb.size;have hEF:=ah dh w9 ⟨⟨U3,xY,Fb,CO,MS⟩,hEV.below.trans (((((((((hB1.trans hB2).trans hB3).trans hB4).trans hB5).trans hB6).trans hB7).trans hB8).trans hBb).trans hB9),hEV.keep.trans (hS0.trans hK9),by omega⟩;have b59:=aI (hS0.trans hK9) bA;have HEF:=aj hEF;have B59:=aj b59;clear hEF b59 hdm Fb CO hB9 hK9 hS0 hEV iZ lH iM oU Ig Ib zZ uZ
      go_wp2_with fail
      exact⟨⟨b+1,hlb,by go_num,ah HEF,ah B59⟩,by simp[intOf];omega⟩
     ·rw[ad6 hlet,ak5]at dh
      go_wp2_with fail
      exact⟨⟨b+1,hlb,by go_num,ah dh _ (ah HE1),ah B51⟩,by simp[intOf];omega⟩
    ·have hbb:b=a:=(by omega);subst hbb;have hbd2:¬(b:Int)<(b:Int):=(by omega);have HN:=aj (dQ (λa=>(List.range a).flatMap λb=>xJ f ts a b) b);have HE3:=aj hE;clear hE
     go_wp2_with fail
     refine⟨⟨b+1,hlt,by go_num,?_⟩,by simp[intOf];omega⟩;rw[ah HN,<-ai7];exact ah HE3
  ·have haa:a=ts.length:=(by omega);subst haa;have hbd:¬(ts.length:Int)<(ts.length:Int):=(by omega);have HE3:=aj hE;clear hE
   go_wp2_with fail
   go_end0
   exact⟨⟨_,rfl⟩,ah HE3⟩
end Go.Proofs.YthcppbmkacbbiaaGreat
