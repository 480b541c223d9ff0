import Derived.Test.YthcppbmkacbbiaaGreatZAS
set_option linter.unusedSimpArgs false
set_option maxHeartbeats 4000000
set_option maxRecDepth 100000
namespace Go.Proofs.YthcppbmkacbbiaaGreat
open Go.Proofs.Tryz
open Go.RowKit
open au (St put cut)
structure nO(w:World)(B X:Nat)(T C:List (List UInt8))(cl:List Int)(hl:List Bool)(k1 k2 v4 v5:Value):Prop where
 c4:w.cell? ⟨B,4,none⟩=some v4
 c5:w.cell? ⟨B,5,none⟩=some v5
 x0:w.cell? ⟨X,0,none⟩=some k1
 x1:w.cell? ⟨X,1,none⟩=some k2
 r4:w.ownsRow 0 9 1 v4 T.length (T.map str)
 r5:w.ownsRow 0 9 1 v5 C.length (C.map str)
 cs:CS w X k1 k2 cl hl
section
variable {w w':World} {B X:Nat} {T C:List (List UInt8)} {cl:List Int} {hl:List Bool} {k1 k2 v4 v5:Value}
theorem nO.below(h:nO w B X T C cl hl k1 k2 v4 v5)(b:Below w.heap.size w w'):nO w' B X T C cl hl k1 k2 v4 v5:=by
 have hg:w.grownBy w' none:=⟨b.os,b.tape,b.output,b.size,λk hk _=>b.block k hk⟩;have hX:=World.block_lt_of_cell? w _ h.x0;have kp:∀{v:Value} {n:Nat} {xs:List Value},w.ownsRow 0 9 1 v n xs->w'.ownsRow 0 9 1 v n xs:=fun {v n xs} hr=>by
  by_cases hv:v.ownBlock=none
  ·exact hr.kept hg (Or.inl hv)
  ·exact hr.kept hg (Or.inr hv)
 exact⟨hg.cell h.c4 (by simp),hg.cell h.c5 (by simp),hg.cell h.x0 (by simp),hg.cell h.x1 (by simp),kp h.r4,kp h.r5,h.cs.below ⟨b.os,b.tape,b.output,b.size,λk hk=>b.block k (Nat.lt_trans hk hX)⟩⟩
end
theorem CS.acj{w:World}{B:Nat}{k1 k2:Value}{cl:List Int}{hl:List Bool}(h:CS w B k1 k2 cl hl){i j:Nat}(hi:i<hl.length)(hj:j<hl.length):∃g c,k2=.slice (some ⟨g,0,none⟩) hl.length c/\w.cell? ⟨g,i,none⟩=some (.bool (hl.getD i false))/\w.cell? ⟨g,j,none⟩=some (.bool (hl.getD j false)):=by
 obtain⟨a,c,e,f⟩:=h.r2;obtain⟨g,h1,h2,h3⟩:=f (by omega);subst h1;exact⟨g,c,e,by rw[h3 i hi];simp[ag8,hi],by rw[h3 j hj];simp[ag8,hj]⟩
theorem kS{f:Nat->Bool}{m:Nat}(h:∀k,k<m->f k=false)(h1:f m=false):Hid (∀k,k<m+1->f k=false):=λk hk=>by
 by_cases e:k=m
 ·rw[e];exact h1
 ·exact h k (by omega)
theorem zn(w:World)(B:Nat)(T C:List (List UInt8))(cl:List Int)(hl:List Bool)(k1 k2 v4 v5:Value)(hG:NI T C)(hT:T.length<=7)(hC:C.length<=4)(hTc:T.length<=cl.length)(hCc:C.length<=hl.length)
 (h:nO (w.alloc (.cells #[k1,k2] 118)) B w.heap.size T C cl hl k1 k2 v4 v5) :
  Calls prog 60 #[.pointer (some ⟨B,0,none⟩),.agg #[k1,k2]] w λe w'=>e=.returned (.bool (snd T C cl hl))/\Below w.heap.size w w':=by
 obtain⟨a4,p4,e4⟩:=aV h.r4;obtain⟨a5,p5,e5⟩:=aV h.r5;obtain⟨q1,p1,e1,_⟩:=h.cs.r1;obtain⟨q2,p2,e2,_⟩:=h.cs.r2;subst e4;subst e5;subst e1;subst e2;have H:=aj h;have HG:=aj hG;clear h hG
 go_enter func60,ntmps60
 go_wp2_with fail
 go_loopw [5] (λi wr=>∃n:Nat,n<=T.length/\i=.int .i64 n/\Hid (nO wr B w.heap.size T C cl hl (.slice q1 cl.length p1) (.slice q2 hl.length p2) (.slice a4 T.length p4) (.slice a5 C.length p5))/\Below w.heap.size w wr/\Hid (∀i k,i<n->k<T.length->yF T cl i k=false)) (λi _=>T.length-(intOf i).toNat)
 case atStart=>exact⟨0,ah9 _,rfl,H,(Below.refl _ w).alloc (af0 _) _,λi k hi=>absurd hi (Nat.not_lt_zero _)⟩
 case round=>
  obtain⟨n,hn,rfl,hS,hb,hno⟩:=hrel;have c4:=(ah hS).c4;by_cases hlt:n<T.length
  ·have hbd:decide ((n:Int)<(T.length:Int))=true:=(by simp;omega);obtain⟨g4,cp4,e4,hc4⟩:=qm (ah hS).r4 (show 0<T.length by omega);obtain⟨e4a,-,e4b⟩:=Value.slice.inj e4;subst e4a;clear e4 e4b hc4
   go_wp2_with fail
   go_loopw [6] (λk wr2=>∃m:Nat,m<=T.length/\k=.int .i64 m/\Hid (nO wr2 B w.heap.size T C cl hl (.slice q1 cl.length p1) (.slice q2 hl.length p2) (.slice (some ⟨g4,0,none⟩) T.length p4) (.slice a5 C.length p5))/\Below w.heap.size w wr2/\Hid (∀k,k<m->yF T cl n k=false)) (λk _=>T.length-(intOf k).toNat)
   case atStart=>exact⟨0,ah9 _,rfl,hS,hb,λk hk=>absurd hk (Nat.not_lt_zero _)⟩
   case round=>
    clear c4 hS hb;obtain⟨m,hm,rfl,hS,hb,yx⟩:=hrel;have c4:=(ah hS).c4;by_cases Ey:m<T.length
    ·have hbm:decide ((m:Int)<(T.length:Int))=true:=(by simp;omega);have x0:=(ah hS).x0;obtain⟨g4',cp4,e4,hc4⟩:=qm (ah hS).r4 (show 0<T.length by omega);obtain⟨e4a,-,e4b⟩:=Value.slice.inj e4;obtain rfl:g4=g4':=(by injection e4a with e;injection e);clear e4 e4b e4a;have hcn:=hc4 n hlt;have hcm:=hc4 m Ey;clear hc4;obtain⟨g,cp,hk1,hgn,hgm⟩:=(ah hS).cs.Vy (show n<cl.length by omega) (show m<cl.length by omega);obtain⟨e1a,-,e1b⟩:=Value.slice.inj hk1;subst e1a;clear hk1 e1b;have hin:(n:Int)<(T.length:Int):=(by omega);have him:(m:Int)<(T.length:Int):=(by omega);have hcn':(n:Int)<(cl.length:Int):=(by omega);have hcm':(m:Int)<(cl.length:Int):=(by omega);have etn:T.getD n []=T[n]:=(by simp[ag8,hlt]);have etm:T.getD m []=T[m]:=(by simp[ag8,Ey]);have mn:=af4 hlt;have mm:=af4 Ey;have L1:=(ah HG).len _ mn;have L2:=(ah HG).len _ mm;have N1:=(ah HG).ne _ mn;have N2:=(ah HG).ne _ mm;have HBAD:Hid (yF T cl n m=(decide (1<T[n].length)&&decide (1<T[m].length)&&decide (T[n].headD 0=T[m].headD 0)&&decide (cl.getD n 0≠cl.getD m 0) &&
      FM T cl (au.inn T[n]).1 (au.inn T[m]).1&&FM T cl (au.inn T[n]).2 (au.inn T[m]).2)):=by unfold yF;rw[etn,etm];exact aj rfl
     have I1:=aj ((ah HG).in1 _ mn);have I2:=aj ((ah HG).in1 _ mm);have J1:=aj ((ah HG).in2 _ mn);have J2:=aj ((ah HG).in2 _ mm);have G1:=aj ((ah HG).long _ mn);have G2:=aj ((ah HG).long _ mm);unfold str at hcn hcm;clear etn etm mn mm;generalize cl.getD n 0=yn at hgn HBAD;generalize cl.getD m 0=ym at hgm HBAD;generalize T[n]=tn at *;generalize T[m]=tm at *;by_cases h1:1<tn.length
     ·have hb1:decide ((1:Int)<(tn.length:Int))=true:=(by simp;omega);by_cases h2:1<tm.length
      ·have hb2:decide ((1:Int)<(tm.length:Int))=true:=(by simp;omega);have hp1:(0:Int)<(tn.length:Int):=(by omega);have hp2:(0:Int)<(tm.length:Int):=(by omega);have hq1:0<tn.length:=(by omega);have hq2:0<tm.length:=(by omega);have eh1:tn.headD 0=tn[0]:=(by cases tn;simp at hq1;rfl);have eh2:tm.headD 0=tm[0]:=(by cases tm;simp at hq2;rfl);have hz1:0<(⟨tn.toArray⟩:ByteArray).size:=(by simpa[ByteArray.size]using hq1);have hz2:0<(⟨tm.toArray⟩:ByteArray).size:=(by simpa[ByteArray.size]using hq2);have ez1:Hid ((⟨tn.toArray⟩:ByteArray)[0]'hz1=tn[0]):=aj (by simp[aj1]);have ez2:Hid ((⟨tm.toArray⟩:ByteArray)[0]'hz2=tm[0]):=aj (by simp[aj1]);by_cases h3:tn[0]=tm[0]
       ·have hb3:((((⟨tn.toArray⟩:ByteArray)[0]'hz1).toNat:Int)==(((⟨tm.toArray⟩:ByteArray)[0]'hz2).toNat:Int))=true:=(by rw[ah ez1,ah ez2,h3];simp);by_cases h4:yn=ym
        ·have hb4:(yn != ym)=false:=(by simpa using h4);have HW:Hid (decide (yn≠ym)=false):=aj (by simpa using h4);clear h3 h4 eh1 eh2
         go_wp2_with fail
         go_quiet (fail)
         go_wp2_with fail
         go_round
         case rel=>exact⟨m+1,by omega,by go_num,(ah hS).below (below_drewN _ _ _),hb.trans (below_drewN _ _ _),kS (ah yx) (by rw[ah HBAD];rw[ah HW];simp)⟩
         case measure=>simp[intOf];omega
        ·have hb4:(yn != ym)=true:=(by simpa using h4);have HW:Hid ((decide (1<tn.length)&&decide (1<tm.length)&&decide (tn.headD 0=tm.headD 0)&&decide (yn≠ym))=true):=aj (by rw[eh1,eh2,h3];simp[h1,h2,h4]);clear h3 h4 eh1 eh2;have C1:Hid (∀w':World,Calls prog 102 #[.string ⟨tn.toArray⟩] w' λe w2=>e=.returned (.tuple #[str (au.inn tn).1,str (au.inn tn).2])/\Below w'.heap.size w' w2):=λw'=>rM w' tn (ah G1 h1) L1;have C2:Hid (∀w':World,Calls prog 102 #[.string ⟨tm.toArray⟩] w' λe w2=>e=.returned (.tuple #[str (au.inn tm).1,str (au.inn tm).2])/\Below w'.heap.size w' w2):=λw'=>rM w' tm (ah G2 h2) L2;have i1:=ah I1 h1;have i2:=ah I2 h2;have j1:=ah J1 h1;have j2:=ah J2 h2;generalize au.inn tn=pn at C1 HBAD i1 j1;generalize au.inn tm=pm at C2 HBAD i2 j2;obtain⟨an,bn⟩:=pn;obtain⟨am,bm⟩:=pm;simp only at i1 i2 j1 j2 C1 C2 HBAD;have E1:Hid (∀w':World,nO w' B w.heap.size T C cl hl (.slice (some ⟨g,0,none⟩) cl.length p1) (.slice q2 hl.length p2) (.slice (some ⟨g4,0,none⟩) T.length p4) (.slice a5 C.length p5)->Calls prog 103 #[.pointer (some ⟨B,0,none⟩),.agg #[.slice (some ⟨g,0,none⟩) cl.length p1,.slice q2 hl.length p2],str an,str am] w' λe w2=>e=.returned (.bool (FM T cl an am))/\Below w'.heap.size w' w2):=λw' h=>xg w' B _ _ _ T 0 cl hl an am i1 i2 hT hTc h.c4 h.r4 (h.cs.up (au6 (World.block_lt_of_cell? w' _ h.x0)));have E2:Hid (∀w':World,nO w' B w.heap.size T C cl hl (.slice (some ⟨g,0,none⟩) cl.length p1) (.slice q2 hl.length p2) (.slice (some ⟨g4,0,none⟩) T.length p4) (.slice a5 C.length p5)->Calls prog 103 #[.pointer (some ⟨B,0,none⟩),.agg #[.slice (some ⟨g,0,none⟩) cl.length p1,.slice q2 hl.length p2],str bn,str bm] w' λe w2=>e=.returned (.bool (FM T cl bn bm))/\Below w'.heap.size w' w2):=λw' h=>xg w' B _ _ _ T 0 cl hl bn bm j1 j2 hT hTc h.c4 h.r4 (h.cs.up (au6 (World.block_lt_of_cell? w' _ h.x0)));generalize FM T cl an am=y1 at E1 HBAD;generalize FM T cl bn bm=y2 at E2 HBAD;rw[ah HW]at HBAD;clear i1 i2 j1 j2 I1 I2 J1 J2 G1 G2 HW;unfold str at C1 C2 E1 E2
         go_wp2_with fail
         go_quiet (fail)
         go_wp2_with fail
         refine(ah C1 _).mono ?_;rintro e w3 ⟨rfl,b3⟩;have S2:=(ah hS).below (below_drewN _ _ nq);have hb2:=hb.trans (below_drewN _ _ nq);have S3:=S2.below b3;have Uh:=hb2.trans (b3.mono hb2.size);have HS3:=aj S3;have HB3:=aj Uh;clear S2 hb2 S3 Uh b3 hS hb
         go_wp2_with fail
         refine(ah C2 _).mono ?_;rintro e w4 ⟨rfl,b4⟩;have HS4:=aj ((ah HS3).below b4);have HB4:=aj ((ah HB3).trans (b4.mono (ah HB3).size));clear b4 HS3 HB3;have x0':=(ah HS4).x0;have x1':=(ah HS4).x1
         go_wp2_with fail
         refine(ah E1 _ (ah HS4)).mono ?_;rintro e w5 ⟨rfl,b5⟩;have HS5:=aj ((ah HS4).below b5);have HB5:=aj ((ah HB4).trans (b5.mono (ah HB4).size));clear b5 HS4 HB4 x0' x1';have x0':=(ah HS5).x0;have x1':=(ah HS5).x1
         go_wp2_with fail
         refine(ah E2 _ (ah HS5)).mono ?_;rintro e w6 ⟨rfl,b6⟩;have HS6:=aj ((ah HS5).below b6);have HB6:=aj ((ah HB5).trans (b6.mono (ah HB5).size));clear b6 HS5 HB5 x0' x1';cases y1
         ·go_wp2_with fail
          go_round
          case rel=>exact⟨m+1,by omega,by go_num,HS6,ah HB6,kS (ah yx) (by rw[ah HBAD];rfl)⟩
          case measure=>simp[intOf];omega
         ·cases y2
          ·go_wp2_with fail
           go_round
           case rel=>exact⟨m+1,by omega,by go_num,HS6,ah HB6,kS (ah yx) (by rw[ah HBAD];rfl)⟩
           case measure=>simp[intOf];omega
          ·go_wp2_with fail
           go_ret
           exact⟨kC (Q7 hlt Ey (by rw[ah HBAD];rfl)).symm,ah HB6⟩
       ·have hb3:((((⟨tn.toArray⟩:ByteArray)[0]'hz1).toNat:Int)==(((⟨tm.toArray⟩:ByteArray)[0]'hz2).toNat:Int))=false:=(by rw[ah ez1,ah ez2];exact rV h3);have HW:Hid (decide (tn.headD 0=tm.headD 0)=false):=aj (by rw[eh1,eh2];simpa using h3);clear h3 eh1 eh2
        go_wp2_with fail
        go_quiet (fail)
        go_wp2_with fail
        go_round
        case rel=>exact⟨m+1,by omega,by go_num,(ah hS).below (below_drewN _ _ _),hb.trans (below_drewN _ _ _),kS (ah yx) (by rw[ah HBAD];rw[ah HW];simp)⟩
        case measure=>simp[intOf];omega
      ·have hb2:decide ((1:Int)<(tm.length:Int))=false:=by simp;omega
       go_wp2_with fail
       go_quiet (fail)
       go_wp2_with fail
       go_round
       case rel=>exact⟨m+1,by omega,by go_num,(ah hS).below (below_drewN _ _ _),hb.trans (below_drewN _ _ _),kS (ah yx) (by rw[ah HBAD];simp[h2])⟩
       case measure=>simp[intOf];omega
     ·have hb1:decide ((1:Int)<(tn.length:Int))=false:=by simp;omega
      go_wp2_with fail
      go_quiet (fail)
      go_wp2_with fail
      go_round
      case rel=>exact⟨m+1,by omega,by go_num,(ah hS).below (below_drewN _ _ _),hb.trans (below_drewN _ _ _),kS (ah yx) (by rw[ah HBAD];simp[h1])⟩
      case measure=>simp[intOf];omega
    ·have hbm:decide ((m:Int)<(T.length:Int))=false:=by simp;omega
     go_wp2_with fail
     go_round
     case rel=>
      refine⟨n+1,by omega,by go_num,hS,hb,λi k hi hk=>?_⟩;by_cases e:i=n
      ·subst e;exact ah yx k (by omega)
      ·exact ah hno i k (by omega) hk
     case measure=>simp[intOf];omega
  ·have hbd:decide ((n:Int)<(T.length:Int))=false:=(by simp;omega);have jo:Hid (∀i k,i<T.length->k<T.length->yF T cl i k=false):=λi k hi hk=>ah hno i k (by omega) hk
   go_wp2_with fail
   go_loopw [15] (λi wr2=>∃n2:Nat,n2<=C.length/\i=.int .i64 n2/\Hid (nO wr2 B w.heap.size T C cl hl (.slice q1 cl.length p1) (.slice q2 hl.length p2) (.slice a4 T.length p4) (.slice a5 C.length p5))/\Below w.heap.size w wr2/\Hid (∀i k,i<n2->k<C.length->BF T C cl hl i k=false)) (λi _=>C.length-(intOf i).toNat)
   case atStart=>exact⟨0,ah9 _,rfl,hS,hb,λi k hi=>absurd hi (Nat.not_lt_zero _)⟩
   case round=>
    clear c4 hS hb hno;obtain⟨n2,hn2,rfl,hS,hb,hno⟩:=hrel;have c5:=(ah hS).c5;by_cases hlt2:n2<C.length
    ·have hbd2:decide ((n2:Int)<(C.length:Int))=true:=(by simp;omega);obtain⟨g5,cp5,e5,hc5⟩:=qm (ah hS).r5 (show 0<C.length by omega);obtain⟨e5a,-,e5b⟩:=Value.slice.inj e5;subst e5a;clear e5 e5b hc5
     go_wp2_with fail
     go_loopw [16] (λk wr2=>∃m:Nat,m<=C.length/\k=.int .i64 m/\Hid (nO wr2 B w.heap.size T C cl hl (.slice q1 cl.length p1) (.slice q2 hl.length p2) (.slice a4 T.length p4) (.slice (some ⟨g5,0,none⟩) C.length p5))/\Below w.heap.size w wr2/\Hid (∀k,k<m->BF T C cl hl n2 k=false)) (λk _=>C.length-(intOf k).toNat)
     case atStart=>exact⟨0,ah9 _,rfl,hS,hb,λk hk=>absurd hk (Nat.not_lt_zero _)⟩
     case round=>
      clear c5 hS hb;obtain⟨m,hm,rfl,hS,hb,yx⟩:=hrel;have c5:=(ah hS).c5;by_cases Ey:m<C.length
      ·have hbm:decide ((m:Int)<(C.length:Int))=true:=(by simp;omega);have x1:=(ah hS).x1;obtain⟨g5',cp5,e5,hc5⟩:=qm (ah hS).r5 (show 0<C.length by omega);obtain⟨e5a,-,e5b⟩:=Value.slice.inj e5;obtain rfl:g5=g5':=(by injection e5a with e;injection e);clear e5 e5b e5a;have hcn:=hc5 n2 hlt2;have hcm:=hc5 m Ey;clear hc5;obtain⟨g,cp,hk2,hgn,hgm⟩:=(ah hS).cs.acj (show n2<hl.length by omega) (show m<hl.length by omega);obtain⟨e1a,-,e1b⟩:=Value.slice.inj hk2;subst e1a;clear hk2 e1b;have hin:(n2:Int)<(C.length:Int):=(by omega);have him:(m:Int)<(C.length:Int):=(by omega);have hcn':(n2:Int)<(hl.length:Int):=(by omega);have hcm':(m:Int)<(hl.length:Int):=(by omega);have etn:C.getD n2 []=C[n2]:=(by simp[ag8,hlt2]);have etm:C.getD m []=C[m]:=(by simp[ag8,Ey]);have mn:=af4 hlt2;have mm:=af4 Ey;have L1:=(ah HG).aci _ mn;have L2:=(ah HG).aci _ mm;have HBAD:Hid (BF T C cl hl n2 m=(decide (C[n2].headD 0=C[m].headD 0)&&decide (hl.getD n2 false≠hl.getD m false)&&FM T cl (au.inn C[n2]).1 (au.inn C[m]).1)):=(by unfold BF;rw[etn,etm];exact aj rfl);have i1:=aj ((ah HG).cin _ mn);have i2:=aj ((ah HG).cin _ mm);unfold str at hcn hcm;clear etn etm mn mm;generalize hl.getD n2 false=yn at hgn HBAD;generalize hl.getD m false=ym at hgm HBAD;generalize C[n2]=tn at *;generalize C[m]=tm at *;have hp1:(0:Int)<(tn.length:Int):=(by omega);have hp2:(0:Int)<(tm.length:Int):=(by omega);have hq1:0<tn.length:=(by omega);have hq2:0<tm.length:=(by omega);have eh1:tn.headD 0=tn[0]:=(by cases tn;simp at hq1;rfl);have eh2:tm.headD 0=tm[0]:=(by cases tm;simp at hq2;rfl);have hz1:0<(⟨tn.toArray⟩:ByteArray).size:=(by simpa[ByteArray.size]using hq1);have hz2:0<(⟨tm.toArray⟩:ByteArray).size:=(by simpa[ByteArray.size]using hq2);have ez1:Hid ((⟨tn.toArray⟩:ByteArray)[0]'hz1=tn[0]):=aj (by simp[aj1]);have ez2:Hid ((⟨tm.toArray⟩:ByteArray)[0]'hz2=tm[0]):=aj (by simp[aj1]);by_cases h3:tn[0]=tm[0]
       ·have hb3:((((⟨tn.toArray⟩:ByteArray)[0]'hz1).toNat:Int)==(((⟨tm.toArray⟩:ByteArray)[0]'hz2).toNat:Int))=true:=(by rw[ah ez1,ah ez2,h3];simp);by_cases h4:yn=ym
        ·subst h4;have HW:Hid (decide (yn≠yn)=false):=aj (by simp);clear h3 eh1 eh2;cases yn
         all_goals
          go_wp2_with fail
          go_quiet (fail)
          go_wp2_with fail
          go_round
          case rel=>exact⟨m+1,by omega,by go_num,(ah hS).below (below_drewN _ _ _),hb.trans (below_drewN _ _ _),kS (ah yx) (by rw[ah HBAD];rw[ah HW];simp)⟩
          case measure=>simp[intOf];omega
        ·obtain⟨zm,hzm⟩:∃zm,ym=zm:=⟨_,rfl⟩;obtain rfl:ym=!yn:=(by cases yn<;>cases ym<;>simp at h4 ⊢);have HW:Hid ((decide (tn.headD 0=tm.headD 0)&&decide (yn≠!yn))=true):=aj (by rw[eh1,eh2,h3];cases yn<;>simp);clear h3 h4 eh1 eh2 hzm zm;have C1:Hid (∀w':World,Calls prog 102 #[.string ⟨tn.toArray⟩] w' λe w2=>e=.returned (.tuple #[str (au.inn tn).1,str (au.inn tn).2])/\Below w'.heap.size w' w2):=λw'=>rM w' tn L1.1 L1.2;have C2:Hid (∀w':World,Calls prog 102 #[.string ⟨tm.toArray⟩] w' λe w2=>e=.returned (.tuple #[str (au.inn tm).1,str (au.inn tm).2])/\Below w'.heap.size w' w2):=λw'=>rM w' tm L2.1 L2.2;generalize au.inn tn=pn at C1 HBAD i1;generalize au.inn tm=pm at C2 HBAD i2;obtain⟨an,bn⟩:=pn;obtain⟨am,bm⟩:=pm;simp only at i1 i2 C1 C2 HBAD;have E1:Hid (∀w':World,nO w' B w.heap.size T C cl hl (.slice q1 cl.length p1) (.slice (some ⟨g,0,none⟩) hl.length p2) (.slice a4 T.length p4) (.slice (some ⟨g5,0,none⟩) C.length p5)->Calls prog 103 #[.pointer (some ⟨B,0,none⟩),.agg #[.slice q1 cl.length p1,.slice (some ⟨g,0,none⟩) hl.length p2],str an,str am] w' λe w2=>e=.returned (.bool (FM T cl an am))/\Below w'.heap.size w' w2):=λw' h=>xg w' B _ _ _ T 0 cl hl an am (ah i1) (ah i2) hT hTc h.c4 h.r4 (h.cs.up (au6 (World.block_lt_of_cell? w' _ h.x0)));generalize FM T cl an am=y1 at E1 HBAD;rw[ah HW]at HBAD;clear i1 i2 HW;unfold str at C1 C2 E1;cases yn
         all_goals
          go_wp2_with fail
          go_quiet (fail)
          go_wp2_with fail
          refine(ah C1 _).mono ?_;rintro e w3 ⟨rfl,b3⟩;have S2:=(ah hS).below (below_drewN _ _ nq);have hb2:=hb.trans (below_drewN _ _ nq);have S3:=S2.below b3;have Uh:=hb2.trans (b3.mono hb2.size);have HS3:=aj S3;have HB3:=aj Uh;clear S2 hb2 S3 Uh b3 hS hb
          go_wp2_with fail
          refine(ah C2 _).mono ?_;rintro e w4 ⟨rfl,b4⟩;have HS4:=aj ((ah HS3).below b4);have HB4:=aj ((ah HB3).trans (b4.mono (ah HB3).size));clear b4 HS3 HB3;have x0':=(ah HS4).x0;have x1':=(ah HS4).x1
          go_wp2_with fail
          refine(ah E1 _ (ah HS4)).mono ?_;rintro e w5 ⟨rfl,b5⟩;have HS5:=aj ((ah HS4).below b5);have HB5:=aj ((ah HB4).trans (b5.mono (ah HB4).size));clear b5 HS4 HB4 x0' x1';cases y1
          ·go_wp2_with fail
           go_round
           case rel=>exact⟨m+1,by omega,by go_num,HS5,ah HB5,kS (ah yx) (by rw[ah HBAD];rfl)⟩
           case measure=>simp[intOf];omega
          ·go_wp2_with fail
           go_ret
           exact⟨kC (Q8 hlt2 Ey (by rw[ah HBAD];rfl)).symm,ah HB5⟩
       ·have hb3:((((⟨tn.toArray⟩:ByteArray)[0]'hz1).toNat:Int)==(((⟨tm.toArray⟩:ByteArray)[0]'hz2).toNat:Int))=false:=(by rw[ah ez1,ah ez2];exact rV h3);have HW:Hid (decide (tn.headD 0=tm.headD 0)=false):=aj (by rw[eh1,eh2];simpa using h3);clear h3 eh1 eh2
        go_wp2_with fail
        go_quiet (fail)
        go_wp2_with fail
        go_round
        case rel=>exact⟨m+1,by omega,by go_num,(ah hS).below (below_drewN _ _ _),hb.trans (below_drewN _ _ _),kS (ah yx) (by rw[ah HBAD];rw[ah HW];simp)⟩
        case measure=>simp[intOf];omega
      ·have hbm:decide ((m:Int)<(C.length:Int))=false:=by simp;omega
       go_wp2_with fail
       go_round
       case rel=>
        refine⟨n2+1,by omega,by go_num,hS,hb,λi k hi hk=>?_⟩;by_cases e:i=n2
        ·subst e;exact ah yx k (by omega)
        ·exact ah hno i k (by omega) hk
       case measure=>simp[intOf];omega
    ·have hbd2:decide ((n2:Int)<(C.length:Int))=false:=by simp;omega
     go_wp2_with fail
     go_ret
     exact⟨kC (QZ (ah jo) (λi k hi hk=>ah hno i k (by omega) hk)).symm,hb⟩
end Go.Proofs.YthcppbmkacbbiaaGreat
