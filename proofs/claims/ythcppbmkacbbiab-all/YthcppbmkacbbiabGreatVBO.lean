import Derived.Test.YthcppbmkacbbiabGreatVBM
import Derived.Lib.AppendZerosOnto
set_option linter.unusedSimpArgs false
set_option maxHeartbeats 2000000
set_option maxRecDepth 100000
namespace Go.Proofs.YthcppbmkacbbiabGreat
open Go.Proofs.Tryz
section
open Go.RowKit Go.Maps Go.WideMaps
open au (Key put)
attribute [local go_sem] Oper.semAt_some
theorem aaR(n:Nat)(w:World)(hn:n<=1000) :
  Calls prog 167 #[.slice none 0 0,A n] w λe w'=>∃v,e=.returned v/\w'.ownsRow w.heap.size 210 5 v 0 []/\w.grownBy w' none:=by
 obtain⟨i0,gK,jR,ig,jy⟩:=au5 OT;have amR:¬((n:Int)<0):=O
 obtain h0|h0:=av1 n
 ·subst h0
  go_in
  go_wp2_with fail
  go_ret
  exact⟨_,rfl,aw9 _ _ _ _,as8 _ _⟩
 ·have yL:(n:Int)>0:=O
  have hrz:∀ty,(Builtin.append_ #[133,3] ty #[.slice none 0 0,A n]).run prog w =
    .ok (Ac w.heap.size 0 n (grownCap w n 0 210)) (w.drew.alloc (.cells (#[]++Builtin.zeroCells (Value.agg #[A 0,.bool false,Ae 0,A 0,A 0]).cells n++Builtin.zeroCells (Value.agg #[A 0,.bool false,Ae 0,A 0,A 0]).cells (grownCap w n 0 210-n)) 210)):=λty=>by
   have h:=Lib.run_append_grow_zeros w 133 3 ty 210 i0 _ .i64 .i64 underlying133 underlying3 gK jR none 0 0 [] (run_firstCells_none w.drew i0.size 0 0 0) n h0 (by rw[ig];decide) O O (by rw[jy];omega) (by rw[aw8];exact growslice_fits O (by rw[jy];omega));rw[aw8]at h;exact h
  have hGn:n<=grownCap w n 0 210:=grownCap_ge w _ _ _;have hGm:=grownCap_le_maxLen w n 0 210 (by unfold maxLen;omega);obtain⟨G,hG⟩:∃G,G=grownCap w n 0 210:=⟨_,rfl⟩;rw[<-hG]at hrz hGn hGm;have am9:G<=9223372036854775807:=by unfold maxLen at hGm;omega
  clear hG
  go_in
  go_wp2_with (at_builtin;refine Lib.wpList_append_run _ rfl _ _ _ _ rfl _ _ rfl rfl _ _ (hrz _) ?_)
  go_ret
  refine⟨_,rfl,⟨rfl,Or.inr ⟨w.heap.size,G,Builtin.zeroCells #[A 0,.bool false,Ae 0,A 0,A 0] n++Builtin.zeroCells #[A 0,.bool false,Ae 0,A 0,A 0] (G-n),rfl,an2 _,?_,ap7 _,hGm,?_,R⟩⟩,?_⟩
  ·exact ap5 w.drew _
  ·rw[Array.size_append,size_zeroCells,size_zeroCells];simp;omega
  ·exact(⟨rfl,rfl,rfl,an2 _,λ_ _ _=>rfl⟩:w.grownBy w.drew none).trans (an1 _ _ none)
theorem uf{W:World}{base e size n:Nat}{v:Value}{xs:List Value}(h:W.ownsRow base e size v n xs):∃p cap,v=.slice p n cap:=by
 obtain⟨rfl,h0⟩|⟨g,cap,cur,rfl,_⟩:=h.2
 ·subst h0;exact⟨_,_,rfl⟩
 ·exact⟨_,_,rfl⟩
theorem Xe(w:World)(B m1 c1 m2 c2:Nat)(ad1 ad2:Addr)(n1 n2:List Value)(hB:w.heap[B]?=some (.cells #[.slice (some ad1) m1 c1,.slice (some ad2) m2 c2] 133 (0,0)))(I:m1<=100)(M:m2<=100)
 (zM:n1.length=m1*5)(lH:n2.length=m2*5)(Gn:∀j u,n1[j]?=some u->w.cell? (ad1.add j)=some u)(Fh:∀j u,n2[j]?=some u->w.cell? (ad2.add j)=some u)(ho1:∀u∈n1,u.oneCell'=true)(ho2:∀u∈n2,u.oneCell'=true) :
  Calls prog 126 #[Ac B 0 2 2] w λe w'=>∃v,e=.returned v/\w'.ownsRow w.heap.size 210 5 v (m1+m2) (n1++n2)/\Ag w w':=by
 obtain⟨i0,gK,jR,ig,jy⟩:=au5 OT;have b0:w.cell? (J B 0)=some (.slice (some ad1) m1 c1):=by rw[cell_of hB];rfl
 have b1:w.cell? (J B 1)=some (.slice (some ad2) m2 c2):=by rw[cell_of hB];rfl
 have YH:=(an0.1 hB).1;have hn1:¬((m1:Int)<0):=O
 have EC:¬((m1:Int)+(m2:Int)<0):=O
 have jS:=aaR (m1+m2) w O;rw[Int.natCast_add]at jS;have HC1:Hid (∀W,Below w.heap.size w W->∀j u,n1[j]?=some u->W.cell? (ad1.add j)=some u):=λW hW j u hj=>by
  have:=Gn j u hj;exact(hW.cell (p:=ad1.add j) (an4 w _ this)).trans this
 have IC:Hid (∀W,Below w.heap.size w W->∀j u,n2[j]?=some u->W.cell? (ad2.add j)=some u):=λW hW j u hj=>by
  have:=Fh j u hj;exact(hW.cell (p:=ad2.add j) (an4 w _ this)).trans this
 have HL1:=F zM;have HL2:=F lH
 go_in
 go_wp2_with fail
 refine wp_loop_rounds 3 ?_;rw[az3]
 go_wp2_with fail
 rw[az3]
 go_wp2_with fail
 rw[az3]
 go_wp2_with fail
 refine jS.mono ?_;rintro e w1 ⟨v0,rfl,rD,bG⟩;obtain⟨p0,akz,rfl⟩:=uf rD;have iD:Below w.heap.size w w1:=(aq1 _ w).grown bG (an2 _) (λk e=>by cases e);have q0:w1.cell? (J B 0)=some (.slice (some ad1) m1 c1):=bG.cell b0 R;have q1:w1.cell? (J B 1)=some (.slice (some ad2) m2 c2):=bG.cell b1 R;have HB1:=F iD;have oI:=iD.size
 go_wp2_with fail
 refine wp_loop_rounds 3 ?_;rw[az3]
 go_wp2_with (at_builtin;refine av6 _ rfl _ _ 133 rfl w.heap.size 210 i0 _ 5 40 underlying133 gK jR ig jy rfl ane (.slice p0 0 akz) 0 [] rfl rD ad1 m1 c1 n1 rfl (Z HL1) (Z HC1 _ (Z HB1)) ho1 anj O oI ?_;intro v1 w2 lU dh amC am6;obtain⟨p1,aky,hv1⟩:=uf lU;subst hv1)
 have fF:Below w.heap.size w w2:=(Z HB1).grown dh (Z HB1).size (λk e=>(rD.lt k e).1);have r1:w2.cell? (J B 1)=some (.slice (some ad2) m2 c2):=(fF.cell (p:=(J B 1)) YH).trans b1;have Lu:=F fF;have su:=fF.size;rw[aw8,ao8]at lU;rw[az3]
 go_wp2_with (at_builtin;refine av6 _ rfl _ _ 133 rfl w.heap.size 210 i0 _ 5 40 underlying133 gK jR ig jy rfl ane (.slice p1 m1 aky) m1 n1 rfl lU ad2 m2 c2 n2 rfl (Z HL2) (Z IC _ (Z Lu)) ho2 anj O su ?_;intro v2 w3 lT dY uJ ahz;obtain⟨p2,xO,BD⟩:=uf lT;subst BD)
 have iR:Below w.heap.size w w3:=(Z Lu).grown dY (Z Lu).size (λk e=>(lU.lt k e).1);have Ak:=F iR;have HO2:=F lT;rw[az3]
 go_wp2_with fail
 go_ret
 exact⟨_,rfl,Z HO2,Z Ak⟩
end
section
open Go.RowKit
def PS(c:Int×Int)(h:Bool×Int)(way:Int)(bad sat:Bool)(model:ByteArray)(errno:Int):Bool:=
 let e1:=if c.2=0/\(way<0\/1<way)then 5 else c.2
 let e2:=if e1=0/\bad=true then 7 else e1
 if e2≠0\/errno≠0 then decide (errno=e2)&&!sat&&decide (model.size=0)
 else if c.1=0 then !sat&&decide (model.size=0)
 else sat&&h.1&&decide (h.2=0)
theorem empty_of{m:ByteArray}(h:m.size=0):m=⟨#[]⟩:=by
 apply ByteArray.ext;have:m.data.size=0:=h;exact Array.eq_empty_of_size_eq_zero this
theorem Iw{n E way errno e2:Int}{h:Bool×Int}{bad sat:Bool}{m:ByteArray}(hd:PS (n,E) h way bad sat m errno=true)(h0:e2≠0)(he:(if (if E=0/\(way<0\/1<way)then(5:Int)else E)=0/\bad=true then 7 else(if E=0/\(way<0\/1<way)then 5 else E))=e2):errno=e2/\sat=false/\m=⟨#[]⟩:=by
 unfold PS at hd;simp only at hd;rw[he,ao4 (Or.inl h0)]at hd;simp only[ax0,as7,Bool.not_eq_true']at hd;exact⟨hd.1.1,hd.1.2,empty_of hd.2⟩
theorem adU{n E way errno:Int}{h:Bool×Int}{bad sat:Bool}{m:ByteArray}(hd:PS (n,E) h way bad sat m errno=true)(he:(if (if E=0/\(way<0\/1<way)then(5:Int)else E)=0/\bad=true then 7 else(if E=0/\(way<0\/1<way)then 5 else E))=0) :
  errno=0/\(if n=0 then !sat&&decide (m.size=0)else sat&&h.1&&decide (h.2=0))=true:=by
 unfold PS at hd;simp only at hd;rw[he]at hd;by_cases q:errno=0
 ·rw[an8 (show ¬((0:Int)≠0\/errno≠0) by rintro(h|h);exact h rfl;exact h q)]at hd;exact⟨q,hd⟩
 ·rw[ao4 (show((0:Int)≠0\/errno≠0)from Or.inr q)]at hd;simp[q]at hd
theorem YT{way:Int}(hw:¬(way<0\/1<way)):(if (if (0:Int)=0/\(way<0\/1<way)then(5:Int)else 0)=0/\false=true then(7:Int)else(if (0:Int)=0/\(way<0\/1<way)then 5 else 0))=0:=by
 have e:(if (0:Int)=0/\(way<0\/1<way)then(5:Int)else 0)=0:=an8 (λh=>hw h.2);rw[e];rfl
theorem al5{E way:Int}{bad:Bool}(h0:E≠0):(if (if E=0/\(way<0\/1<way)then(5:Int)else E)=0/\bad=true then(7:Int)else(if E=0/\(way<0\/1<way)then 5 else E))=E:=by
 have e:(if E=0/\(way<0\/1<way)then(5:Int)else E)=E:=an8 (λh=>h0 h.1);rw[e];exact an8 (λh=>h0 h.1)
theorem YU{way:Int}{bad:Bool}(hw:way<0\/1<way):(if (if (0:Int)=0/\(way<0\/1<way)then(5:Int)else 0)=0/\bad=true then(7:Int)else(if (0:Int)=0/\(way<0\/1<way)then 5 else 0))=5:=by
 have e:(if (0:Int)=0/\(way<0\/1<way)then(5:Int)else 0)=5:=ao4 ⟨rfl,hw⟩;rw[e];exact an8 (λh=>absurd h.1 ane)
theorem adO{way:Int}{bad:Bool}(hw:¬(way<0\/1<way))(hb:bad=true):(if (if (0:Int)=0/\(way<0\/1<way)then(5:Int)else 0)=0/\bad=true then(7:Int)else(if (0:Int)=0/\(way<0\/1<way)then 5 else 0))=7:=by
 have e:(if (0:Int)=0/\(way<0\/1<way)then(5:Int)else 0)=0:=an8 (λh=>hw h.2);rw[e];exact ao4 ⟨rfl,hb⟩
theorem adV{n way errno:Int}{h:Bool×Int}{sat:Bool}{m:ByteArray}(hd:PS (n,0) h way false sat m errno=true)(hn:n=0)(hw:¬(way<0\/1<way)):errno=0/\sat=false/\m=⟨#[]⟩:=by
 obtain⟨q,hd⟩:=adU hd (YT hw);rw[ao4 hn]at hd;simp only[ax0,as7,Bool.not_eq_true']at hd;exact⟨q,hd.1,empty_of hd.2⟩
theorem adT{n way errno:Int}{hb:Bool}{hE:Int}{sat:Bool}{m:ByteArray}(hd:PS (n,0) (hb,hE) way false sat m errno=true)(hn:n≠0)(hw:¬(way<0\/1<way)):errno=0/\sat=true/\hb=true/\hE=0:=by
 obtain⟨q,hd⟩:=adU hd (YT hw);rw[an8 hn]at hd;simp only[ax0,as7]at hd;exact⟨q,hd.1.1,hd.1.2,hd.2⟩
theorem Qe(w:World)(s t m:ByteArray)(way errno:Int)(sat:Bool)(hm:s.size<=maxLen)(ht:t.size<=maxLen)(Ii:m.size<=maxLen)(hd:PS (sV s) (uD s m) way (fU t) sat m errno=true) :
  Calls prog 43 #[.string s,A way,.string t,.bool sat,.string m,A errno] w λe w'=>e=.returned (.bool true)/\Ag w w':=by
 have H1:=F (λw=>KW w s hm);have H2:=F (λw=>KU w s m hm Ii);generalize sV s=c at H1 hd;generalize uD s m=hq at H2 hd;obtain⟨n,E⟩:=c;obtain⟨hb,hE⟩:=hq;simp only at H1 H2;have HD:=F hd;have ht':t.size<=9223372036854775807:=by unfold maxLen at ht;omega
 go_in
 go_wp2_with fail
 refine(Z H1 _).mono ?_;rintro e w1 ⟨rfl,b1⟩;have ajU:E≠0\/(E=0/\(way<0\/1<way))\/(E=0/\¬(way<0\/1<way)):=by
  by_cases q:E=0
  ·by_cases q2:way<0\/1<way
   ·exact Or.inr (Or.inl ⟨q,q2⟩)
   ·exact Or.inr (Or.inr ⟨q,q2⟩)
  ·exact Or.inl q
 obtain Bf|⟨rfl,VP⟩|⟨rfl,VP⟩:=ajU
 ·have x1:(E==0)=false:=by simpa using Bf
  have x2:(E != 0)=true:=by simpa using Bf
  go_wp2_with fail
  go_loop [15,16] (λbv iv=>∃k:Nat,k<=t.size/\iv=A k/\bv=.bool (decide (60<t.size)||(t.data.toList.take k).any gI)) (λ_ iv=>t.size-(intOf iv).toNat)
  case atStart=>exact⟨0,ap7 _,rfl,anf⟩
  case round=>
   obtain⟨k,hk,rfl,rfl⟩:=hrel;generalize qK:(decide (60<t.size)||(t.data.toList.take k).any gI)=bb;by_cases L9:k<t.size/\bb=false
   ·obtain⟨hlt,rfl⟩:=L9;have hbk:(k:Int)<(t.size:Int):=O;have oP:(decide (60<t.size)||(t.data.toList.take (k+1)).any gI)=gI t[k]:=by
     rw[zi hlt,<-Bool.or_assoc,qK,Bool.false_or]
    have kR:=F oP;have iL:gI t[k]=(decide ((t[k].toNat:Int)<48)||decide ((57:Int)<(t[k].toNat:Int))):=rfl;have MX:=F iL;generalize gI t[k]=nd at kR MX;by_cases Qr:(t[k].toNat:Int)<48
    ·go_wp2_with fail
     refine⟨⟨k+1,hlt,by go_num,?_⟩,by simp[intOf];omega⟩;rw[Z kR,Z MX];simp[Qr]
    ·go_wp2_with fail
     refine⟨⟨k+1,hlt,by go_num,?_⟩,by simp[intOf];omega⟩;rw[Z kR,Z MX];simp[Qr]
   ·have Bc:fU t=bb:=by
     cases bb with
     |true=>exact any_true qK
     |false=>
      have gW:k=t.size:=by
       refine aq4 λh=>L9 ⟨O,rfl⟩
      rw[gW,aq5 R]at qK;exact qK
    have Au:(decide ((k:Int)<(t.size:Int))&&!bb)=false:=by
     by_cases I:k<t.size
     ·cases bb
      ·exact absurd ⟨I,rfl⟩ L9
      ·simp
     ·simp only[show decide ((k:Int)<(t.size:Int))=false by simp;omega,Bool.false_and]
    obtain⟨I,M,h3⟩:=Iw (e2:=E) (Z HD) Bf (al5 Bf);subst I;subst M;subst h3;cases bb
    ·by_cases Yx:(k:Int)<(t.size:Int)
     ·simp[Yx]at Au
     ·clear Au
      go_wp2_with fail
      go_ret
      exact⟨R,b1⟩
    ·clear Au;by_cases Yx:(k:Int)<(t.size:Int)
     ·go_wp2_with fail
      go_ret
      exact⟨R,b1⟩
     ·go_wp2_with fail
      go_ret
      exact⟨R,b1⟩
 ·obtain hw|hw:=VP
  ·skip
   go_wp2_with fail
   go_loop [15,16] (λbv iv=>∃k:Nat,k<=t.size/\iv=A k/\bv=.bool (decide (60<t.size)||(t.data.toList.take k).any gI)) (λ_ iv=>t.size-(intOf iv).toNat)
   case atStart=>exact⟨0,ap7 _,rfl,anf⟩
   case round=>
    obtain⟨k,hk,rfl,rfl⟩:=hrel;generalize qK:(decide (60<t.size)||(t.data.toList.take k).any gI)=bb;by_cases L9:k<t.size/\bb=false
    ·obtain⟨hlt,rfl⟩:=L9;have hbk:(k:Int)<(t.size:Int):=O;have oP:(decide (60<t.size)||(t.data.toList.take (k+1)).any gI)=gI t[k]:=by
      rw[zi hlt,<-Bool.or_assoc,qK,Bool.false_or]
     have kR:=F oP;have iL:gI t[k]=(decide ((t[k].toNat:Int)<48)||decide ((57:Int)<(t[k].toNat:Int))):=rfl;have MX:=F iL;generalize gI t[k]=nd at kR MX;by_cases Qr:(t[k].toNat:Int)<48
     ·go_wp2_with fail
      refine⟨⟨k+1,hlt,by go_num,?_⟩,by simp[intOf];omega⟩;rw[Z kR,Z MX];simp[Qr]
     ·go_wp2_with fail
      refine⟨⟨k+1,hlt,by go_num,?_⟩,by simp[intOf];omega⟩;rw[Z kR,Z MX];simp[Qr]
    ·have Bc:fU t=bb:=by
      cases bb with
      |true=>exact any_true qK
      |false=>
       have gW:k=t.size:=by
        refine aq4 λh=>L9 ⟨O,rfl⟩
       rw[gW,aq5 R]at qK;exact qK
     have Au:(decide ((k:Int)<(t.size:Int))&&!bb)=false:=by
      by_cases I:k<t.size
      ·cases bb
       ·exact absurd ⟨I,rfl⟩ L9
       ·simp
      ·simp only[show decide ((k:Int)<(t.size:Int))=false by simp;omega,Bool.false_and]
     obtain⟨I,M,h3⟩:=Iw (e2:=5) (Z HD) ane (YU (Or.inl hw));subst I;subst M;subst h3;cases bb
     ·by_cases Yx:(k:Int)<(t.size:Int)
      ·simp[Yx]at Au
      ·clear Au
       go_wp2_with fail
       go_ret
       exact⟨R,b1⟩
     ·clear Au;by_cases Yx:(k:Int)<(t.size:Int)
      ·go_wp2_with fail
       go_ret
       exact⟨R,b1⟩
      ·go_wp2_with fail
       go_ret
       exact⟨R,b1⟩
  ·have eu:¬way<0:=O
   go_wp2_with fail
   go_loop [15,16] (λbv iv=>∃k:Nat,k<=t.size/\iv=A k/\bv=.bool (decide (60<t.size)||(t.data.toList.take k).any gI)) (λ_ iv=>t.size-(intOf iv).toNat)
   case atStart=>exact⟨0,ap7 _,rfl,anf⟩
   case round=>
    obtain⟨k,hk,rfl,rfl⟩:=hrel;generalize qK:(decide (60<t.size)||(t.data.toList.take k).any gI)=bb;by_cases L9:k<t.size/\bb=false
    ·obtain⟨hlt,rfl⟩:=L9;have hbk:(k:Int)<(t.size:Int):=O;have oP:(decide (60<t.size)||(t.data.toList.take (k+1)).any gI)=gI t[k]:=by
      rw[zi hlt,<-Bool.or_assoc,qK,Bool.false_or]
     have kR:=F oP;have iL:gI t[k]=(decide ((t[k].toNat:Int)<48)||decide ((57:Int)<(t[k].toNat:Int))):=rfl;have MX:=F iL;generalize gI t[k]=nd at kR MX;by_cases Qr:(t[k].toNat:Int)<48
     ·go_wp2_with fail
      refine⟨⟨k+1,hlt,by go_num,?_⟩,by simp[intOf];omega⟩;rw[Z kR,Z MX];simp[Qr]
     ·go_wp2_with fail
      refine⟨⟨k+1,hlt,by go_num,?_⟩,by simp[intOf];omega⟩;rw[Z kR,Z MX];simp[Qr]
    ·have Bc:fU t=bb:=by
      cases bb with
      |true=>exact any_true qK
      |false=>
       have gW:k=t.size:=by
        refine aq4 λh=>L9 ⟨O,rfl⟩
       rw[gW,aq5 R]at qK;exact qK
     have Au:(decide ((k:Int)<(t.size:Int))&&!bb)=false:=by
      by_cases I:k<t.size
      ·cases bb
       ·exact absurd ⟨I,rfl⟩ L9
       ·simp
      ·simp only[show decide ((k:Int)<(t.size:Int))=false by simp;omega,Bool.false_and]
     obtain⟨I,M,h3⟩:=Iw (e2:=5) (Z HD) ane (YU (Or.inr hw));subst I;subst M;subst h3;cases bb
     ·by_cases Yx:(k:Int)<(t.size:Int)
      ·simp[Yx]at Au
      ·clear Au
       go_wp2_with fail
       go_ret
       exact⟨R,b1⟩
     ·clear Au;by_cases Yx:(k:Int)<(t.size:Int)
      ·go_wp2_with fail
       go_ret
       exact⟨R,b1⟩
      ·go_wp2_with fail
       go_ret
       exact⟨R,b1⟩
 ·have uH:¬way<0:=λh=>VP (Or.inl h);have eu:¬1<way:=λh=>VP (Or.inr h)
  go_wp2_with fail
  go_loop [15,16] (λbv iv=>∃k:Nat,k<=t.size/\iv=A k/\bv=.bool (decide (60<t.size)||(t.data.toList.take k).any gI)) (λ_ iv=>t.size-(intOf iv).toNat)
  case atStart=>exact⟨0,ap7 _,rfl,anf⟩
  case round=>
   obtain⟨k,hk,rfl,rfl⟩:=hrel;generalize qK:(decide (60<t.size)||(t.data.toList.take k).any gI)=bb;by_cases L9:k<t.size/\bb=false
   ·obtain⟨hlt,rfl⟩:=L9;have hbk:(k:Int)<(t.size:Int):=O;have oP:(decide (60<t.size)||(t.data.toList.take (k+1)).any gI)=gI t[k]:=by
     rw[zi hlt,<-Bool.or_assoc,qK,Bool.false_or]
    have kR:=F oP;have iL:gI t[k]=(decide ((t[k].toNat:Int)<48)||decide ((57:Int)<(t[k].toNat:Int))):=rfl;have MX:=F iL;generalize gI t[k]=nd at kR MX;by_cases Qr:(t[k].toNat:Int)<48
    ·go_wp2_with fail
     refine⟨⟨k+1,hlt,by go_num,?_⟩,by simp[intOf];omega⟩;rw[Z kR,Z MX];simp[Qr]
    ·go_wp2_with fail
     refine⟨⟨k+1,hlt,by go_num,?_⟩,by simp[intOf];omega⟩;rw[Z kR,Z MX];simp[Qr]
   ·have Bc:fU t=bb:=by
     cases bb with
     |true=>exact any_true qK
     |false=>
      have gW:k=t.size:=by
       refine aq4 λh=>L9 ⟨O,rfl⟩
      rw[gW,aq5 R]at qK;exact qK
    have Au:(decide ((k:Int)<(t.size:Int))&&!bb)=false:=by
     by_cases I:k<t.size
     ·cases bb
      ·exact absurd ⟨I,rfl⟩ L9
      ·simp
     ·simp only[show decide ((k:Int)<(t.size:Int))=false by simp;omega,Bool.false_and]
    cases bb
    ·rw[Bc]at HD;by_cases hn0:n=0
     ·obtain⟨I,M,h3⟩:=adV (Z HD) hn0 VP;subst hn0;subst I;subst M;subst h3;by_cases Yx:(k:Int)<(t.size:Int)
      ·simp[Yx]at Au
      ·clear Au
       go_wp2_with fail
       go_ret
       exact⟨R,b1⟩
     ·obtain⟨I,M,h3,h4⟩:=adT (Z HD) hn0 VP;subst I;subst M;subst h3;subst h4;have GU:(n==0)=false:=(by simpa using hn0);by_cases Yx:(k:Int)<(t.size:Int)
      ·simp[Yx]at Au
      ·clear Au
       go_wp2_with fail
       refine(Z H2 _).mono ?_;rintro e w2 ⟨rfl,b2⟩
       go_wp2_with fail
       go_ret
       exact⟨R,b1.trans (b2.mono b1.size)⟩
    ·obtain⟨I,M,h3⟩:=Iw (e2:=7) (Z HD) ane (adO VP Bc);subst I;subst M;subst h3;by_cases Yx:(k:Int)<(t.size:Int)
     ·go_wp2_with fail
      go_ret
      exact⟨R,b1⟩
     ·go_wp2_with fail
      go_ret
      exact⟨R,b1⟩
end
section
open Go.RowKit Go.Maps Go.WideMaps
open au (Key put St)
theorem ZH(w:World)(s:ByteArray)(hm:s.size<=maxLen)(hE:(chk s).1≠0) :
  Calls prog 39 #[.string s] w λe w'=>e=.returned (.tuple #[.string ⟨#[]⟩,A (chk s).1])/\Ag w w':=by
 have HR:=F (λw=>yx w s hm);generalize chk s=c at HR hE;have hb:(c.1 != 0)=true:=by simpa using hE
 go_in
 go_wp2_with fail
 refine((Z HR) _).mono ?_;rintro e w1 ⟨⟨p0,n0,c0,p1,n1,c1,p2,n2,c2,rfl⟩,I⟩
 go_wp2_with fail
 go_ret2
 exact⟨rfl,I.alloc I.size _⟩
theorem acj(w:World)(s:ByteArray)(hs:s.size<=100)(Y:Ai)(cs:Ah)(ps:Ai)(m:Nat)(HR:au.lG (pk s) (s.size+1) 0 0 [] [] []=.ok (s.size,Y,cs,ps,m))(h7:Y.length<=7)(h4:cs.length<=4)(hi:au.Inv Y)(Bd:au.kD Y cs)
 (hT:∀t∈au.texts Y,t.length<=100)(hC:∀t∈ctx Y cs,t.length<=100)(iL:cs.Nodup)(qj:au.bJ Y.length cs.length ps)(hp:ps.length<=100) :
  Calls prog 39 #[.string s] w λe w'=>e=.returned (.tuple #[str (wW (au.texts Y)++47::wW (ctx Y cs)),A 0])/\Ag w w':=by
 have HO:=F (qR w s hs Y cs ps m HR h7 h4 hi Bd iL qj hp);have pR:∀i,((au.texts Y).getD i []).length<=100:=λi=>by
  by_cases hlt:i<(au.texts Y).length
  ·exact hT _ (au.getD_mem hlt)
  ·rw[ao0,List.getElem?_eq_none O];simp
 have HX:Hid (∀(GT GC GP:Nat) (w2:World),dS w2 GT Y->gZ w2 GC cs->Calls prog 81 #[fv GT GC GP Y.length cs.length ps.length] w2 λe w'=>e=.returned (str (wW (au.texts Y)++47::wW (ctx Y cs)))/\Ag w2 w'):=λGT GC GP w2 r1 r2=>
  abH GT GC GP ps.length Y cs w2 h7 r1 r2 hi pR h4 Bd hC
 unfold str at HX ⊢;generalize wW (au.texts Y)++47::wW (ctx Y cs)=x at HX;unfold fv at HO HX
 go_in
 go_wp2_with fail
 refine(Z HO).mono ?_;rintro e w1 ⟨GT,GC,GP,rfl,I,NW⟩;have hT1:=vS NW.t;have hC1:=Hw NW.c;have M1:=F hT1;have M2:=F hC1
 go_wp2_with fail
 have Gq:=(aq1 w1.heap.size w1).alloc (an2 _) (.cells #[Ac GT 0 Y.length Y.length,Ac GC 0 cs.length cs.length,Ac GP 0 ps.length ps.length] 46);refine(Z HX GT GC GP _ ((Z M1).below Gq (Z M1).1) ((Z M2).below Gq (Z M2).1)).mono ?_;rintro e w3 ⟨rfl,h3⟩
 go_wp2_with fail
 go_ret2
 refine⟨rfl,?_⟩;have eH:=I.size;exact(I.trans (Gq.mono eH)).trans (h3.mono anf)
end
open Go.RowKit
open au (St put)
def I4(s:ByteArray):ByteArray×Int:=if s.size<=100/\(chk s).1=0 then(⟨(pts (iV s)).toArray⟩,0)else(⟨#[]⟩,(chk s).1)
theorem ZI(w:World)(s:ByteArray)(hm:s.size<=maxLen) :
  Calls prog 39 #[.string s] w λe w'=>e=.returned (.tuple #[.string (I4 s).1,A (I4 s).2])/\Ag w w':=by
 unfold I4;by_cases h:s.size<=100/\(chk s).1=0
 ·rw[ao4 h];obtain⟨Y,cs,ps,I,M,h3,h4,h5,h6,h7,h8,h9,YK,_,h12⟩:=ji s h.1 h.2;have g:=acj w s h.1 Y cs ps _ I M h3 h4 h5 h7 h8 h9 YK h12;rw[h6];exact g
 ·rw[an8 h];refine ZH w s hm (λh0=>h ⟨?_,h0⟩);unfold chk at h0;by_cases I:100<s.size
  ·rw[ao4 I]at h0;simp at h0
  ·omega
theorem Xz(w:World)(s:ByteArray)(hm:s.size<=maxLen) :
  Calls prog 40 #[.string s] w λe w'=>e=.returned (.tuple #[.string (I4 s).1,A (I4 s).2])/\Ag w w':=by
 unfold I4;by_cases h:s.size<=100/\(chk s).1=0
 ·rw[ao4 h];obtain⟨Y,cs,ps,I,M,h3,h4,h5,h6,h7,h8,h9,YK,_,h12⟩:=ji s h.1 h.2;have hT:(iV s).T=au.texts Y:=by rw[h6]
  have hC:(iV s).C=ctx Y cs:=by rw[h6]
  exact abl w s h.1 (iV s) (F rfl) (by rw[h6]) (by rw[h6];simp) (by rw[hT,au.aO];exact M) (by rw[hC,jZ];exact h3) (by rw[hT];exact h7) (by rw[hC];exact h8)
 ·rw[an8 h];have g:=Xy w s hm (by
   rw[qU];refine λh0=>h ⟨?_,h0⟩;unfold chk at h0;by_cases I:100<s.size
   ·rw[ao4 I]at h0;simp at h0
   ·omega)
  rw[qU]at g;exact g
theorem Rh(w:World)(n:Int)(s t:ByteArray)(hm:s.size<=maxLen) :
  Calls prog 22 #[.agg #[A 2,A n,.string s,.string t]] w λe w'=>e=.returned (.bool true)/\Ag w w':=by
 have H1:=F (λw=>ZI w s hm);have H2:=F (λw=>Xz w s hm);generalize I4 s=c at H1 H2;obtain⟨x,E⟩:=c
 go_in
 go_wp2_with fail
 refine((Z H1) _).mono ?_;rintro e w1 ⟨rfl,b1⟩;have hlt:w.heap.size<(w.alloc (.cells #[A 2,A n,.string s,.string t] 61)).heap.size:=R
 have x0:w1.cell? (J w.heap.size 2)=some (.string s):=by rw[b1.cell hlt];exact az4 _ _ _ _ rfl
 go_wp2_with fail
 refine((Z H2) _).mono ?_;rintro e w2 ⟨rfl,b2⟩
 go_wp2_with fail
 refine(Dt _ _).mono ?_;rintro e w3 ⟨rfl,rfl⟩
 go_wp2_with fail
 go_ret
 refine⟨rfl,?_⟩;have eH:=b1.size;exact(((aq1 w.heap.size w).alloc (an2 _) _).trans (b1.mono R)).trans (b2.mono (by simp at eH;omega))
end Go.Proofs.YthcppbmkacbbiabGreat
