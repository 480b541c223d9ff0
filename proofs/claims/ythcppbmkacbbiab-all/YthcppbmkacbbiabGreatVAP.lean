import Derived.Test.YthcppbmkacbbiabGreatVAN
set_option linter.unusedSimpArgs false
set_option maxHeartbeats 4000000
set_option maxRecDepth 100000
namespace Go.Proofs.YthcppbmkacbbiabGreat
open Go.Proofs.Tryz
section
open Go.RowKit
open au (St put cut)
structure uX(w:World)(B X:Nat)(T C:List (List UInt8))(cl:List Int)(hl:List Bool)(k1 k2 v4 v5:Value):Prop where
 c4:w.cell? (J B 4)=some v4
 c5:w.cell? (J B 5)=some v5
 x0:w.cell? (J X 0)=some k1
 x1:w.cell? (J X 1)=some k2
 r4:w.ownsRow 0 9 1 v4 T.length (T.map str)
 r5:w.ownsRow 0 9 1 v5 C.length (C.map str)
 cs:CS w X k1 k2 cl hl
section
variable {w w':World} {B X:Nat} {T C:List (List UInt8)} {cl:List Int} {hl:List Bool} {k1 k2 v4 v5:Value}
theorem uX.below(h:uX w B X T C cl hl k1 k2 v4 v5)(b:Below w.heap.size w w'):uX w' B X T C cl hl k1 k2 v4 v5:=by
 have hg:w.grownBy w' none:=⟨b.os,b.tape,b.output,b.size,λk hk _=>b.block k hk⟩;have hX:=World.block_lt_of_cell? w _ h.x0;have kp:∀{v:Value} {n:Nat} {xs:List Value},w.ownsRow 0 9 1 v n xs->w'.ownsRow 0 9 1 v n xs:=fun {v n xs} hr=>by
  by_cases hv:v.ownBlock=none
  ·exact hr.kept hg (Or.inl hv)
  ·exact hr.kept hg (Or.inr hv)
 exact⟨hg.cell h.c4 R,hg.cell h.c5 R,hg.cell h.x0 R,hg.cell h.x1 R,kp h.r4,kp h.r5,h.cs.below ⟨b.os,b.tape,b.output,b.size,λk hk=>b.block k (Nat.lt_trans hk hX)⟩⟩
end
theorem CS.akA{w:World}{B:Nat}{k1 k2:Value}{cl:List Int}{hl:List Bool}(h:CS w B k1 k2 cl hl){i j:Nat}(hi:i<hl.length)(hj:j<hl.length):∃g c,k2=Ac g 0 hl.length c/\w.cell? (J g i)=some (.bool (hl.getD i false))/\w.cell? (J g j)=some (.bool (hl.getD j false)):=by
 obtain⟨a,c,e,f⟩:=h.r2;obtain⟨g,I,M,h3⟩:=f O;subst I;exact⟨g,c,e,by rw[h3 i hi];simp[ao0,hi],by rw[h3 j hj];simp[ao0,hj]⟩
theorem pY{f:Nat->Bool}{m:Nat}(h:∀k,k<m->f k=false)(I:f m=false):Hid (∀k,k<m+1->f k=false):=λk hk=>by
 by_cases e:k=m
 ·rw[e];exact I
 ·exact h k O
theorem IQ(w:World)(B:Nat)(T C:List (List UInt8))(cl:List Int)(hl:List Bool)(k1 k2 v4 v5:Value)(hG:Y6 T C)(hT:T.length<=7)(hC:C.length<=4)(hTc:T.length<=cl.length)(hCc:C.length<=hl.length)
 (h:uX (w.alloc (.cells #[k1,k2] 166)) B w.heap.size T C cl hl k1 k2 v4 v5) :
  Calls prog 84 #[Aa B 0,.agg #[k1,k2]] w λe w'=>e=.returned (.bool (snd T C cl hl))/\Ag w w':=by
 obtain⟨a4,p4,e4⟩:=bD h.r4;obtain⟨a5,p5,e5⟩:=bD h.r5;obtain⟨q1,p1,e1,_⟩:=h.cs.r1;obtain⟨q2,p2,e2,_⟩:=h.cs.r2;subst e4;subst e5;subst e1;subst e2;have H:=F h;have HG:=F hG;clear h hG
 go_in
 go_wp2_with fail
 go_loopw [5] (λi wr=>∃n:Nat,n<=T.length/\i=A n/\Hid (uX wr B w.heap.size T C cl hl (.slice q1 cl.length p1) (.slice q2 hl.length p2) (.slice a4 T.length p4) (.slice a5 C.length p5))/\Ag w wr/\Hid (∀i k,i<n->k<T.length->Hf T cl i k=false)) (λi _=>T.length-(intOf i).toNat)
 case atStart=>exact⟨0,ap7 _,rfl,H,(Below.refl _ w).alloc (an2 _) _,λi k hi=>absurd hi (Nat.not_lt_zero _)⟩
 case round=>
  obtain⟨n,hn,rfl,hS,hb,ny⟩:=hrel;have c4:=(Z hS).c4;by_cases hlt:n<T.length
  ·have iF:decide ((n:Int)<(T.length:Int))=true:=anf;obtain⟨g4,cp4,e4,Tz⟩:=ug (Z hS).r4 (show 0<T.length by omega);obtain⟨e4a,-,e4b⟩:=Value.slice.inj e4;subst e4a;clear e4 e4b Tz
   go_wp2_with fail
   go_loopw [6] (λk wr2=>∃m:Nat,m<=T.length/\k=A m/\Hid (uX wr2 B w.heap.size T C cl hl (.slice q1 cl.length p1) (.slice q2 hl.length p2) (Ac g4 0 T.length p4) (.slice a5 C.length p5))/\Ag w wr2/\Hid (∀k,k<m->Hf T cl n k=false)) (λk _=>T.length-(intOf k).toNat)
   case atStart=>exact⟨0,ap7 _,rfl,hS,hb,λk hk=>absurd hk (Nat.not_lt_zero _)⟩
   case round=>
    clear c4 hS hb;obtain⟨m,hm,rfl,hS,hb,GR⟩:=hrel;have c4:=(Z hS).c4;by_cases O0:m<T.length
    ·have hbm:decide ((m:Int)<(T.length:Int))=true:=anf;have x0:=(Z hS).x0;obtain⟨g4',cp4,e4,Tz⟩:=ug (Z hS).r4 (show 0<T.length by omega);obtain⟨e4a,-,e4b⟩:=Value.slice.inj e4;obtain rfl:g4=g4':=(by injection e4a with e;injection e);clear e4 e4b e4a;have hcn:=Tz n hlt;have xg:=Tz m O0;clear Tz;obtain⟨g,cp,O4,hgn,hgm⟩:=(Z hS).cs.aek (show n<cl.length by omega) (show m<cl.length by omega);obtain⟨e1a,-,e1b⟩:=Value.slice.inj O4;subst e1a;clear O4 e1b;have gK:(n:Int)<(T.length:Int):=O;have him:(m:Int)<(T.length:Int):=O;have alE:(n:Int)<(cl.length:Int):=O;have alG:(m:Int)<(cl.length:Int):=O;have etn:T.getD n []=T[n]:=(by simp[ao0,hlt]);have etm:T.getD m []=T[m]:=(by simp[ao0,O0]);have mn:=an5 hlt;have mm:=an5 O0;have L1:=(Z HG).len _ mn;have L2:=(Z HG).len _ mm;have N1:=(Z HG).ne _ mn;have N2:=(Z HG).ne _ mm;have nZ:Hid (Hf T cl n m=(decide (1<T[n].length)&&decide (1<T[m].length)&&decide (T[n].headD 0=T[m].headD 0)&&decide (cl.getD n 0≠cl.getD m 0) &&
      Qs T cl (au.inn T[n]).1 (au.inn T[m]).1&&Qs T cl (au.inn T[n]).2 (au.inn T[m]).2)):=by unfold Hf;rw[etn,etm];exact F rfl
     have I1:=F ((Z HG).in1 _ mn);have I2:=F ((Z HG).in1 _ mm);have J1:=F ((Z HG).in2 _ mn);have J2:=F ((Z HG).in2 _ mm);have G1:=F ((Z HG).long _ mn);have G2:=F ((Z HG).long _ mm);unfold str at hcn xg;clear etn etm mn mm;generalize cl.getD n 0=yn at hgn nZ;generalize cl.getD m 0=ym at hgm nZ;generalize T[n]=tn at *;generalize T[m]=tm at *;by_cases I:1<tn.length
     ·have iD:decide ((1:Int)<(tn.length:Int))=true:=anf;by_cases M:1<tm.length
      ·have fF:decide ((1:Int)<(tm.length:Int))=true:=anf;have Ig:(0:Int)<(tn.length:Int):=O;have uZ:(0:Int)<(tm.length:Int):=O;have Qk:0<tn.length:=O;have OX:0<tm.length:=O;have eh1:tn.headD 0=tn[0]:=(by cases tn;simp at Qk;rfl);have eh2:tm.headD 0=tm[0]:=(by cases tm;simp at OX;rfl);have ig:0<(⟨tn.toArray⟩:ByteArray).size:=(by simpa[ByteArray.size]using Qk);have jy:0<(⟨tm.toArray⟩:ByteArray).size:=(by simpa[ByteArray.size]using OX);have ez1:Hid ((⟨tn.toArray⟩:ByteArray)[0]'ig=tn[0]):=F (by simp[ar4]);have ez2:Hid ((⟨tm.toArray⟩:ByteArray)[0]'jy=tm[0]):=F (by simp[ar4]);by_cases h3:tn[0]=tm[0]
       ·have iR:((((⟨tn.toArray⟩:ByteArray)[0]'ig).toNat:Int)==(((⟨tm.toArray⟩:ByteArray)[0]'jy).toNat:Int))=true:=(by rw[Z ez1,Z ez2,h3];simp);by_cases h4:yn=ym
        ·have sD:(yn != ym)=false:=(by simpa using h4);have HW:Hid (decide (yn≠ym)=false):=F (by simpa using h4);clear h3 h4 eh1 eh2
         go_wp2_with fail
         go_quiet (fail)
         go_wp2_with fail
         go_round
         case rel=>exact⟨m+1,O,by go_num,(Z hS).below (below_drewN _ _ _),hb.trans (below_drewN _ _ _),pY (Z GR) (by rw[Z nZ];rw[Z HW];simp)⟩
         case measure=>simp[intOf];omega
        ·have sD:(yn != ym)=true:=(by simpa using h4);have HW:Hid ((decide (1<tn.length)&&decide (1<tm.length)&&decide (tn.headD 0=tm.headD 0)&&decide (yn≠ym))=true):=F (by rw[eh1,eh2,h3];simp[I,M,h4]);clear h3 h4 eh1 eh2;have C1:Hid (∀w':World,Calls prog 136 #[.string ⟨tn.toArray⟩] w' λe w2=>e=.returned (.tuple #[str (au.inn tn).1,str (au.inn tn).2])/\Ag w' w2):=λw'=>zK w' tn (Z G1 I) L1;have C2:Hid (∀w':World,Calls prog 136 #[.string ⟨tm.toArray⟩] w' λe w2=>e=.returned (.tuple #[str (au.inn tm).1,str (au.inn tm).2])/\Ag w' w2):=λw'=>zK w' tm (Z G2 M) L2;have i1:=Z I1 I;have i2:=Z I2 M;have j1:=Z J1 I;have j2:=Z J2 M;generalize au.inn tn=pn at C1 nZ i1 j1;generalize au.inn tm=pm at C2 nZ i2 j2;obtain⟨an,bn⟩:=pn;obtain⟨am,bm⟩:=pm;simp only at i1 i2 j1 j2 C1 C2 nZ;have E1:Hid (∀w':World,uX w' B w.heap.size T C cl hl (Ac g 0 cl.length p1) (.slice q2 hl.length p2) (Ac g4 0 T.length p4) (.slice a5 C.length p5)->Calls prog 137 #[Aa B 0,.agg #[Ac g 0 cl.length p1,.slice q2 hl.length p2],str an,str am] w' λe w2=>e=.returned (.bool (Qs T cl an am))/\Ag w' w2):=λw' h=>Fz w' B _ _ _ T 0 cl hl an am i1 i2 hT hTc h.c4 h.r4 (h.cs.up (Nat.le_of_lt (World.block_lt_of_cell? w' _ h.x0)));have E2:Hid (∀w':World,uX w' B w.heap.size T C cl hl (Ac g 0 cl.length p1) (.slice q2 hl.length p2) (Ac g4 0 T.length p4) (.slice a5 C.length p5)->Calls prog 137 #[Aa B 0,.agg #[Ac g 0 cl.length p1,.slice q2 hl.length p2],str bn,str bm] w' λe w2=>e=.returned (.bool (Qs T cl bn bm))/\Ag w' w2):=λw' h=>Fz w' B _ _ _ T 0 cl hl bn bm j1 j2 hT hTc h.c4 h.r4 (h.cs.up (Nat.le_of_lt (World.block_lt_of_cell? w' _ h.x0)));generalize Qs T cl an am=y1 at E1 nZ;generalize Qs T cl bn bm=y2 at E2 nZ;rw[Z HW]at nZ;clear i1 i2 j1 j2 I1 I2 J1 J2 G1 G2 HW;unfold str at C1 C2 E1 E2
         go_wp2_with fail
         go_quiet (fail)
         go_wp2_with fail
         refine(Z C1 _).mono ?_;rintro e w3 ⟨rfl,b3⟩;have S2:=(Z hS).below (below_drewN _ _ nq);have fF:=hb.trans (below_drewN _ _ nq);have S3:=S2.below b3;have ads:=fF.trans (b3.mono fF.size);have HS3:=F S3;have Ak:=F ads;clear S2 fF S3 ads b3 hS hb
         go_wp2_with fail
         refine(Z C2 _).mono ?_;rintro e w4 ⟨rfl,b4⟩;have XF:=F ((Z HS3).below b4);have UC:=F ((Z Ak).trans (b4.mono (Z Ak).size));clear b4 HS3 Ak;have x0':=(Z XF).x0;have x1':=(Z XF).x1
         go_wp2_with fail
         refine(Z E1 _ (Z XF)).mono ?_;rintro e w5 ⟨rfl,b5⟩;have XE:=F ((Z XF).below b5);have Qh:=F ((Z UC).trans (b5.mono (Z UC).size));clear b5 XF UC x0' x1';have x0':=(Z XE).x0;have x1':=(Z XE).x1
         go_wp2_with fail
         refine(Z E2 _ (Z XE)).mono ?_;rintro e w6 ⟨rfl,b6⟩;have HS6:=F ((Z XE).below b6);have HB6:=F ((Z Qh).trans (b6.mono (Z Qh).size));clear b6 XE Qh x0' x1';cases y1
         ·go_wp2_with fail
          go_round
          case rel=>exact⟨m+1,O,by go_num,HS6,Z HB6,pY (Z GR) (by rw[Z nZ];rfl)⟩
          case measure=>simp[intOf];omega
         ·cases y2
          ·go_wp2_with fail
           go_round
           case rel=>exact⟨m+1,O,by go_num,HS6,Z HB6,pY (Z GR) (by rw[Z nZ];rfl)⟩
           case measure=>simp[intOf];omega
          ·go_wp2_with fail
           go_ret
           exact⟨oN (abM hlt O0 (by rw[Z nZ];rfl)).symm,Z HB6⟩
       ·have iR:((((⟨tn.toArray⟩:ByteArray)[0]'ig).toNat:Int)==(((⟨tm.toArray⟩:ByteArray)[0]'jy).toNat:Int))=false:=(by rw[Z ez1,Z ez2];exact zY h3);have HW:Hid (decide (tn.headD 0=tm.headD 0)=false):=F (by rw[eh1,eh2];simpa using h3);clear h3 eh1 eh2
        go_wp2_with fail
        go_quiet (fail)
        go_wp2_with fail
        go_round
        case rel=>exact⟨m+1,O,by go_num,(Z hS).below (below_drewN _ _ _),hb.trans (below_drewN _ _ _),pY (Z GR) (by rw[Z nZ];rw[Z HW];simp)⟩
        case measure=>simp[intOf];omega
      ·have fF:decide ((1:Int)<(tm.length:Int))=false:=anf
       go_wp2_with fail
       go_quiet (fail)
       go_wp2_with fail
       go_round
       case rel=>exact⟨m+1,O,by go_num,(Z hS).below (below_drewN _ _ _),hb.trans (below_drewN _ _ _),pY (Z GR) (by rw[Z nZ];simp[M])⟩
       case measure=>simp[intOf];omega
     ·have iD:decide ((1:Int)<(tn.length:Int))=false:=anf
      go_wp2_with fail
      go_quiet (fail)
      go_wp2_with fail
      go_round
      case rel=>exact⟨m+1,O,by go_num,(Z hS).below (below_drewN _ _ _),hb.trans (below_drewN _ _ _),pY (Z GR) (by rw[Z nZ];simp[I])⟩
      case measure=>simp[intOf];omega
    ·have hbm:decide ((m:Int)<(T.length:Int))=false:=anf
     go_wp2_with fail
     go_round
     case rel=>
      refine⟨n+1,O,by go_num,hS,hb,λi k hi hk=>?_⟩;by_cases e:i=n
      ·subst e;exact Z GR k O
      ·exact Z ny i k O hk
     case measure=>simp[intOf];omega
  ·have iF:decide ((n:Int)<(T.length:Int))=false:=anf;have jQ:Hid (∀i k,i<T.length->k<T.length->Hf T cl i k=false):=λi k hi hk=>Z ny i k O hk
   go_wp2_with fail
   go_loopw [15] (λi wr2=>∃n2:Nat,n2<=C.length/\i=A n2/\Hid (uX wr2 B w.heap.size T C cl hl (.slice q1 cl.length p1) (.slice q2 hl.length p2) (.slice a4 T.length p4) (.slice a5 C.length p5))/\Ag w wr2/\Hid (∀i k,i<n2->k<C.length->KD T C cl hl i k=false)) (λi _=>C.length-(intOf i).toNat)
   case atStart=>exact⟨0,ap7 _,rfl,hS,hb,λi k hi=>absurd hi (Nat.not_lt_zero _)⟩
   case round=>
    clear c4 hS hb ny;obtain⟨n2,EC,rfl,hS,hb,ny⟩:=hrel;have c5:=(Z hS).c5;by_cases sG:n2<C.length
    ·have JR:decide ((n2:Int)<(C.length:Int))=true:=anf;obtain⟨g5,cp5,e5,hc5⟩:=ug (Z hS).r5 (show 0<C.length by omega);obtain⟨e5a,-,e5b⟩:=Value.slice.inj e5;subst e5a;clear e5 e5b hc5
     go_wp2_with fail
     go_loopw [16] (λk wr2=>∃m:Nat,m<=C.length/\k=A m/\Hid (uX wr2 B w.heap.size T C cl hl (.slice q1 cl.length p1) (.slice q2 hl.length p2) (.slice a4 T.length p4) (Ac g5 0 C.length p5))/\Ag w wr2/\Hid (∀k,k<m->KD T C cl hl n2 k=false)) (λk _=>C.length-(intOf k).toNat)
     case atStart=>exact⟨0,ap7 _,rfl,hS,hb,λk hk=>absurd hk (Nat.not_lt_zero _)⟩
     case round=>
      clear c5 hS hb;obtain⟨m,hm,rfl,hS,hb,GR⟩:=hrel;have c5:=(Z hS).c5;by_cases O0:m<C.length
      ·have hbm:decide ((m:Int)<(C.length:Int))=true:=anf;have x1:=(Z hS).x1;obtain⟨g5',cp5,e5,hc5⟩:=ug (Z hS).r5 (show 0<C.length by omega);obtain⟨e5a,-,e5b⟩:=Value.slice.inj e5;obtain rfl:g5=g5':=(by injection e5a with e;injection e);clear e5 e5b e5a;have hcn:=hc5 n2 sG;have xg:=hc5 m O0;clear hc5;obtain⟨g,cp,sH,hgn,hgm⟩:=(Z hS).cs.akA (show n2<hl.length by omega) (show m<hl.length by omega);obtain⟨e1a,-,e1b⟩:=Value.slice.inj sH;subst e1a;clear sH e1b;have gK:(n2:Int)<(C.length:Int):=O;have him:(m:Int)<(C.length:Int):=O;have alE:(n2:Int)<(hl.length:Int):=O;have alG:(m:Int)<(hl.length:Int):=O;have etn:C.getD n2 []=C[n2]:=(by simp[ao0,sG]);have etm:C.getD m []=C[m]:=(by simp[ao0,O0]);have mn:=an5 sG;have mm:=an5 O0;have L1:=(Z HG).akx _ mn;have L2:=(Z HG).akx _ mm;have nZ:Hid (KD T C cl hl n2 m=(decide (C[n2].headD 0=C[m].headD 0)&&decide (hl.getD n2 false≠hl.getD m false)&&Qs T cl (au.inn C[n2]).1 (au.inn C[m]).1)):=(by unfold KD;rw[etn,etm];exact F rfl);have i1:=F ((Z HG).cin _ mn);have i2:=F ((Z HG).cin _ mm);unfold str at hcn xg;clear etn etm mn mm;generalize hl.getD n2 false=yn at hgn nZ;generalize hl.getD m false=ym at hgm nZ;generalize C[n2]=tn at *;generalize C[m]=tm at *;have Ig:(0:Int)<(tn.length:Int):=O;have uZ:(0:Int)<(tm.length:Int):=O;have Qk:0<tn.length:=O;have OX:0<tm.length:=O;have eh1:tn.headD 0=tn[0]:=(by cases tn;simp at Qk;rfl);have eh2:tm.headD 0=tm[0]:=(by cases tm;simp at OX;rfl);have ig:0<(⟨tn.toArray⟩:ByteArray).size:=(by simpa[ByteArray.size]using Qk);have jy:0<(⟨tm.toArray⟩:ByteArray).size:=(by simpa[ByteArray.size]using OX);have ez1:Hid ((⟨tn.toArray⟩:ByteArray)[0]'ig=tn[0]):=F (by simp[ar4]);have ez2:Hid ((⟨tm.toArray⟩:ByteArray)[0]'jy=tm[0]):=F (by simp[ar4]);by_cases h3:tn[0]=tm[0]
       ·have iR:((((⟨tn.toArray⟩:ByteArray)[0]'ig).toNat:Int)==(((⟨tm.toArray⟩:ByteArray)[0]'jy).toNat:Int))=true:=(by rw[Z ez1,Z ez2,h3];simp);by_cases h4:yn=ym
        ·subst h4;have HW:Hid (decide (yn≠yn)=false):=F R;clear h3 eh1 eh2;cases yn
         all_goals
          go_wp2_with fail
          go_quiet (fail)
          go_wp2_with fail
          go_round
          case rel=>exact⟨m+1,O,by go_num,(Z hS).below (below_drewN _ _ _),hb.trans (below_drewN _ _ _),pY (Z GR) (by rw[Z nZ];rw[Z HW];simp)⟩
          case measure=>simp[intOf];omega
        ·obtain⟨zm,hzm⟩:∃zm,ym=zm:=⟨_,rfl⟩;obtain rfl:ym=!yn:=(by cases yn<;>cases ym<;>simp at h4 ⊢);have HW:Hid ((decide (tn.headD 0=tm.headD 0)&&decide (yn≠!yn))=true):=F (by rw[eh1,eh2,h3];cases yn<;>simp);clear h3 h4 eh1 eh2 hzm zm;have C1:Hid (∀w':World,Calls prog 136 #[.string ⟨tn.toArray⟩] w' λe w2=>e=.returned (.tuple #[str (au.inn tn).1,str (au.inn tn).2])/\Ag w' w2):=λw'=>zK w' tn L1.1 L1.2;have C2:Hid (∀w':World,Calls prog 136 #[.string ⟨tm.toArray⟩] w' λe w2=>e=.returned (.tuple #[str (au.inn tm).1,str (au.inn tm).2])/\Ag w' w2):=λw'=>zK w' tm L2.1 L2.2;generalize au.inn tn=pn at C1 nZ i1;generalize au.inn tm=pm at C2 nZ i2;obtain⟨an,bn⟩:=pn;obtain⟨am,bm⟩:=pm;simp only at i1 i2 C1 C2 nZ;have E1:Hid (∀w':World,uX w' B w.heap.size T C cl hl (.slice q1 cl.length p1) (Ac g 0 hl.length p2) (.slice a4 T.length p4) (Ac g5 0 C.length p5)->Calls prog 137 #[Aa B 0,.agg #[.slice q1 cl.length p1,Ac g 0 hl.length p2],str an,str am] w' λe w2=>e=.returned (.bool (Qs T cl an am))/\Ag w' w2):=λw' h=>Fz w' B _ _ _ T 0 cl hl an am (Z i1) (Z i2) hT hTc h.c4 h.r4 (h.cs.up (Nat.le_of_lt (World.block_lt_of_cell? w' _ h.x0)));generalize Qs T cl an am=y1 at E1 nZ;rw[Z HW]at nZ;clear i1 i2 HW;unfold str at C1 C2 E1;cases yn
         all_goals
          go_wp2_with fail
          go_quiet (fail)
          go_wp2_with fail
          refine(Z C1 _).mono ?_;rintro e w3 ⟨rfl,b3⟩;have S2:=(Z hS).below (below_drewN _ _ nq);have fF:=hb.trans (below_drewN _ _ nq);have S3:=S2.below b3;have ads:=fF.trans (b3.mono fF.size);have HS3:=F S3;have Ak:=F ads;clear S2 fF S3 ads b3 hS hb
          go_wp2_with fail
          refine(Z C2 _).mono ?_;rintro e w4 ⟨rfl,b4⟩;have XF:=F ((Z HS3).below b4);have UC:=F ((Z Ak).trans (b4.mono (Z Ak).size));clear b4 HS3 Ak;have x0':=(Z XF).x0;have x1':=(Z XF).x1
          go_wp2_with fail
          refine(Z E1 _ (Z XF)).mono ?_;rintro e w5 ⟨rfl,b5⟩;have XE:=F ((Z XF).below b5);have Qh:=F ((Z UC).trans (b5.mono (Z UC).size));clear b5 XF UC x0' x1';cases y1
          ·go_wp2_with fail
           go_round
           case rel=>exact⟨m+1,O,by go_num,XE,Z Qh,pY (Z GR) (by rw[Z nZ];rfl)⟩
           case measure=>simp[intOf];omega
          ·go_wp2_with fail
           go_ret
           exact⟨oN (abN sG O0 (by rw[Z nZ];rfl)).symm,Z Qh⟩
       ·have iR:((((⟨tn.toArray⟩:ByteArray)[0]'ig).toNat:Int)==(((⟨tm.toArray⟩:ByteArray)[0]'jy).toNat:Int))=false:=(by rw[Z ez1,Z ez2];exact zY h3);have HW:Hid (decide (tn.headD 0=tm.headD 0)=false):=F (by rw[eh1,eh2];simpa using h3);clear h3 eh1 eh2
        go_wp2_with fail
        go_quiet (fail)
        go_wp2_with fail
        go_round
        case rel=>exact⟨m+1,O,by go_num,(Z hS).below (below_drewN _ _ _),hb.trans (below_drewN _ _ _),pY (Z GR) (by rw[Z nZ];rw[Z HW];simp)⟩
        case measure=>simp[intOf];omega
      ·have hbm:decide ((m:Int)<(C.length:Int))=false:=anf
       go_wp2_with fail
       go_round
       case rel=>
        refine⟨n2+1,O,by go_num,hS,hb,λi k hi hk=>?_⟩;by_cases e:i=n2
        ·subst e;exact Z GR k O
        ·exact Z ny i k O hk
       case measure=>simp[intOf];omega
    ·have JR:decide ((n2:Int)<(C.length:Int))=false:=anf
     go_wp2_with fail
     go_ret
     exact⟨oN (abL (Z jQ) (λi k hi hk=>Z ny i k O hk)).symm,hb⟩
end
namespace au
structure jD(cs:Ah)(ps:Ai):Prop where
 letter:∀q∈ps,q.1=80\/q.1=81->∃h:q.2.1<cs.length,cs[q.2.1].1=q.1
 has:∀c (h:c<cs.length),(cs[c].1,c,0)∈ps
def isAtom(c:Int):Bool:=decide (c=61\/c=80\/c=81)
def cnt(p:Int->Bool)(ps:Ai):Nat:=ps.countP λq=>p q.1
theorem Ku(p:Int->Bool)(ps:Ai)(q:Key):cnt p (put ps q)<=cnt p ps+(if p q.1 then 1 else 0):=by
 unfold cnt put;split
 ·omega
 ·rw[List.countP_append];simp only[az7,List.countP_nil,aw8];exact an2 _
def QT(a:Nat)(cs:Ah)(ps:Ai):RP->Prop
 |.error _=>True
 |.ok (a1,_,dQ,ps1,_)=>a<a1/\6*cnt aB ps1+3+a<=6*cnt aB ps+a1/\3*(cnt aB ps1+cnt isAtom ps1)+a<=3*(cnt aB ps+cnt isAtom ps)+a1/\(jD cs ps->jD dQ ps1)
theorem jD.ET{cs:Ah}{ps:Ai}(h:jD cs ps){q:Key}(hq:¬(q.1=80\/q.1=81)):jD cs (put ps q):=by
 refine⟨λp hp hc=>?_,λc hc=>?_⟩
 ·unfold put at hp;split at hp
  ·exact h.letter p hp hc
  ·obtain hp|hp:=aq7.1 hp
   ·exact h.letter p hp hc
   ·rw[ap8.1 hp]at hc;exact absurd hc hq
 ·unfold put;split
  ·exact h.has c hc
  ·exact as9 _ (h.has c hc)
theorem jD.ZE{cs:Ah}{ps:Ai}(h:jD cs ps)(k:Int×Nat):jD (put cs k) (put ps (k.1,cs.idxOf k,0)):=by
 have Ar:∀c (hc:c<cs.length),∃h':c<(put cs k).length,(put cs k)[c]=cs[c]:=λc hc=>by
  unfold put;split
  ·exact⟨hc,rfl⟩
  ·exact⟨anf,au6 hc⟩
 have aaH:∃h':cs.idxOf k<(put cs k).length,(put cs k)[cs.idxOf k]=k:=by
  unfold put;split
  ·rename_i hc;have hm:k∈cs:=(by simpa using hc);exact⟨av2.2 hm,ar8 _⟩
  ·rename_i hc;have hm:k∉cs:=(by simpa using hc);have e:=as3 hm;refine⟨by rw[e];simp,?_⟩;simp[e]
 have SE:∀p,p∈put ps (k.1,cs.idxOf k,0)↔p∈ps\/p=(k.1,cs.idxOf k,0):=λp=>by
  unfold put;split
  ·rename_i hc;constructor
   ·exact Or.inl
   ·rintro(I|rfl)
    ·exact I
    ·simpa using hc
  ·simp
 refine⟨λq hq hc=>?_,λc hc=>?_⟩
 ·obtain hq|rfl:=(SE q).1 hq
  ·obtain⟨I,M⟩:=h.letter q hq hc;obtain⟨h3,h4⟩:=Ar _ I;exact⟨h3,by rw[h4];exact M⟩
  ·obtain⟨I,M⟩:=aaH;exact⟨I,by simp only;rw[M]⟩
 ·by_cases hlt:c<cs.length
  ·obtain⟨h3,h4⟩:=Ar c hlt;rw[h4];exact(SE _).2 (Or.inl (h.has c hlt))
  ·have hn:¬cs.contains k=true:=by
    intro Fh;unfold put at hc;rw[ao4 Fh]at hc;exact hlt hc
   have hm:k∉cs:=(by simpa using hn);have hle:c=cs.length:=by
    unfold put at hc;rw[an8 hn]at hc;simp at hc;omega
   have e:=as3 hm;obtain⟨I,M⟩:=aaH;have e2:c=cs.idxOf k:=O;subst e2;refine(SE _).2 (Or.inr ?_);rw[M]
section
variable {pk:Nat->Int} {N:Nat}
theorem Dh{a a1:Nat}{cs dQ:Ah}{ps ps1 aP:Ai}{q:Key}(I:a<a1)
 (hj:6*(cnt aB ps1+(if aB q.1 then 1 else 0))+3+a<=6*cnt aB ps+a1)
 (hs:3*(cnt aB ps1+(if aB q.1 then 1 else 0)+(cnt isAtom ps1+(if isAtom q.1 then 1 else 0)))+a<=3*(cnt aB ps+cnt isAtom ps)+a1)
 (hk:jD cs ps->jD dQ (put ps1 q)):QT a cs ps (AY (.ok (a1,aP,dQ,ps1,q))):=by
 have e1:=Ku aB ps1 q;have e2:=Ku isAtom ps1 q;exact⟨I,O,O,hk⟩
theorem abU(bY:∀a,pk a≠0->a<N):∀(n a d:Nat) (Y:Ai) (cs:Ah) (ps:Ai),a<=N->QT a cs ps (lG pk n a d Y cs ps):=by
 intro n
 induction n with
 |zero=>intro a d Y cs ps _;trivial
 |succ n ih=>
  intro a d Y cs ps ha;unfold lG;split
  ·rename_i e;have hl:=bY a O;have h:=ih (a+1) d Y cs ps O;rcases hR:lG pk n (a+1) d Y cs ps with e|⟨a1,aP,dQ,ps1,m⟩
   ·trivial
   ·rw[hR]at h;obtain⟨I,M,h3,h4⟩:=h;refine Dh O (by simp[aB];omega) (by simp[aB,isAtom];omega) (λhk=>(h4 hk).ET R)
  ·split
   ·rename_i e;have hl:=bY a O;unfold ZA;split
    ·trivial
    ·have h:=ih (a+1) (d+1) Y cs ps O;have hF:=vW bY n (a+1) (d+1) Y cs O;rw[<-qZ pk n (a+1) (d+1) Y cs ps]at hF;rcases hR:lG pk n (a+1) (d+1) Y cs ps with e|⟨a1,aP,dQ,ps1,m1⟩
     ·trivial
     ·rw[hR]at h hF;obtain⟨I,M,h3,h4⟩:=h;obtain⟨g1,g2,_⟩:=hF
      show QT a cs ps (AY (if aB (pk a1)=true then _ else _))
      split
      ·rename_i hj;have zM:=bY a1 (λe=>by rw[e]at hj;simp[aB]at hj);have h':=ih (a1+1) (d+1) aP dQ ps1 O;rcases mX:lG pk n (a1+1) (d+1) aP dQ ps1 with e|⟨a2,ts2,Ce,ps2,m2⟩
       ·trivial
       ·rw[mX]at h';obtain⟨k1,k2,k3,k4⟩:=h'
        show QT a cs ps (AY (if pk a2=41 then _ else _))
        split
        ·have hna:isAtom (pk a1)=false:=by
          simp[aB]at hj;simp[isAtom];omega
         have hn8:¬(pk a1=80\/pk a1=81):=by
          simp[aB]at hj;omega
         exact Dh O (by simp only[hj,av8];omega) (by simp only[hj,hna,av8];simp;omega) (λhk=>(k4 (h4 hk)).ET hn8)
        ·trivial
      ·trivial
   ·split
    ·rename_i e8;have hl:=bY a O;have h':=lN bY (rec:=iU pk (n+1)) (a:=a+1) (d:=d) (Y:=Y) O (λiC=>eX bY _ _ _ _ (by have:=bY (a+1) O;omega));have h4:∀a1 aP m,arg1 pk (iU pk (n+1)) (a+1) d Y=.ok (a1,aP,m)->a+4<=a1:=by
      intro a1 aP m hA;unfold arg1 at hA;split at hA
      ·rename_i iC;have lH:=bY (a+1) O;have h5:=eX bY (n+1) (a+1+1) (d+1) Y O;split at hA
       ·cases hA
       ·rcases hR3:iU pk (n+1) (a+1+1) (d+1) Y with e|⟨b1,us1,m3⟩
        ·rw[hR3]at hA;cases hA
        ·rw[hR3]at hA h5;obtain⟨p1,_⟩:=h5;simp only at hA;split at hA
         ·cases hA;omega
         ·cases hA
      ·cases hA
     unfold rdC;rcases hR:arg1 pk (iU pk (n+1)) (a+1) d Y with e|⟨a1,aP,m⟩
     ·trivial
     ·have h5:=h4 _ _ _ hR;have hnj:aB (pk a)=false:=by
       obtain e|e:=e8<;>(rw[e];decide)
      have gU:isAtom (pk a)=true:=by
       obtain e|e:=e8<;>(rw[e];decide)
      exact Dh O (by simp only[hnj];simp;omega) (by simp only[hnj,gU,av8];simp;omega) (λhk=>hk.ZE _)
    ·have h:=eX bY (n+1) a d Y ha;unfold OC;rcases hR:iU pk (n+1) a d Y with e|⟨a1,aP,m1⟩
     ·trivial
     ·rw[hR]at h;obtain⟨p1,p2,p3,p4,p5⟩:=h
      show QT a cs ps (AY (if pk a1=61 then _ else _))
      split
      ·rename_i jP;have zM:=bY a1 O;have M:=eX bY (n+1) (a1+1) d aP O;rcases mX:iU pk (n+1) (a1+1) d aP with e|⟨a2,ts2,m2⟩
       ·trivial
       ·rw[mX]at M;obtain⟨q1,q2,q3,q4,q5⟩:=M;exact Dh O (by simp[aB];omega) (by simp[aB,isAtom];omega) (λhk=>hk.ET R)
      ·trivial
end
end au
end Go.Proofs.YthcppbmkacbbiabGreat
