import Derived.Test.YthcppbmkacbbiabGreatVAQ
import Derived.Test.YthcppbmkacbbiabGreatVAO
import Derived.Test.YthcppbmkacbbiabGreatVAN
set_option linter.unusedSimpArgs false
set_option maxHeartbeats 2000000
set_option maxRecDepth 100000
namespace Go.Proofs.YthcppbmkacbbiabGreat
open Go.Proofs.Tryz
section
open Go.RowKit Go.Maps Go.WideMaps
open au (Key put)
theorem acC(w:World)(x:List UInt8)(t:TypeId):∀j u,[str x][j]?=some u->(w.alloc (.cells #[str x] t)).cell? (((J w.heap.size 0):Addr).add j)=some u:=by
 intro j u hj;cases j with
 |zero=>simp at hj;subst hj;simp[Addr.add]
 |succ j=>simp at hj
theorem sQ(w:World)(x:List UInt8)(t:TypeId)(n:Nat)(hn:w.heap.size=n):∀j u,[str x][j]?=some u->(w.alloc (.cells #[str x] t)).cell? (((J n 0):Addr).add j)=some u:=by
 subst hn;exact acC w x t
theorem sO(x:List UInt8):∀u∈[str x],u.oneCell'=true:=by intro u hu;simp at hu;subst hu;rfl
theorem Yc{i n sz j:Nat}(hi:i<n)(hj:j<sz):i*sz+j<n*sz:=by
 have I:(i+1)*sz<=n*sz:=Nat.mul_le_mul_right sz hi;rw[ay2]at I;omega
theorem vS{w:World}{base e G:Nat}{Y:Ai}(h:w.ownsRow base e 3 (Ac G 0 Y.length Y.length) Y.length (Y.flatMap mY)):dS w G Y:=by
 refine⟨(h.lt G rfl).2,λi hi=>?_⟩;have hc:∀c,c<3->w.cell? ⟨G,i*3+c,none⟩=(mY Y[i])[c]?:=λc hc=>by
  rw[h.cellAt (i*3+c) (Yc hi hc)];exact flat_get (k:=3) (λ_=>rfl) ane Y i hi c hc
 exact⟨hc 0 ane,hc 1 ane,hc 2 ane⟩
theorem Hw{w:World}{base e G:Nat}{cs:Ah}(h:w.ownsRow base e 2 (Ac G 0 cs.length cs.length) cs.length (cs.flatMap tK)):gZ w G cs:=by
 refine⟨(h.lt G rfl).2,λi hi=>?_⟩;have hc:∀c,c<2->w.cell? ⟨G,i*2+c,none⟩=(tK cs[i])[c]?:=λc hc=>by
  rw[h.cellAt (i*2+c) (Yc hi hc)];exact flat_get (k:=2) (λ_=>rfl) ane cs i hi c hc
 exact⟨hc 0 ane,hc 1 ane⟩
theorem oM{w wr W2 w4:World}{G:Nat}(hb:Below w.heap.size w wr)(hg:wr.grownBy W2 none)(r2:W2.grownBy w4 (some G))(hG:w.heap.size<=G):Below w.heap.size w w4:=
 (hb.grown hg hb.size (λk e=>by cases e)).grown r2 (ap3 hb.size hg.size) (λk e=>by cases e;exact hG)
theorem LM(GT GC GP nc np:Nat)(Y:Ai)(w:World)(hl:Y.length<=7)(kE:dS w GT Y)(hi:au.Inv Y)(pR:∀i,((au.texts Y).getD i []).length<=100) :
  Calls prog 133 #[fv GT GC GP Y.length nc np] w λe w'=>∃G,e=.returned (Ac G 0 Y.length Y.length)/\w.heap.size<=G/\G<w'.heap.size/\Ag w w'/\
   ∀j,j<Y.length->w'.cell? (J G j)=some (str ((au.texts Y).getD j [])):=by
 unfold fv;obtain⟨wb,kP⟩:∃wb,wb=w.alloc (.cells #[Ac GT 0 Y.length Y.length,Ac GC 0 nc nc,Ac GP 0 np np] 46):=⟨_,rfl⟩;obtain⟨i0,gK,jR,ig,jy⟩:=au5 DR;obtain⟨w1,wC,aS,bG⟩:=aA9 (P:=prog) wb wb.heap.size 163 9 i0 (.string ⟨#[]⟩) 1 underlying163 gK jR ig .i64 .i64 Y.length (by rw[jy];omega) anj (an2 _);have Jy:wb.heap.size=w.heap.size+1:=by rw[kP];simp
 have jL:w.heap.size+1<w1.heap.size:=by have h:=(aS.lt wb.heap.size rfl).2;rw[Jy]at h;exact h
 have Gn:w1.cell? (J w.heap.size 0)=some (Ac GT 0 Y.length Y.length):=bG.cell (by rw[kP];simp[go_sem]) R;have iD:Below w.heap.size w w1:=by
  have I:Below w.heap.size w wb:=by rw[kP];exact(aq1 _ w).alloc (an2 _) _
  exact I.trans ⟨bG.os,bG.tape,bG.output,bG.size,λj hj=>bG.block j O R⟩
 have AL:=kE.1;rw[Jy]at aS;rw[kP]at wC;have HI:=F hi;have Eu:=F kE;have HWB:=F Jy;clear kP hi kE bG Jy
 go_in
 go_wp2_with fail
 have rD:w1.ownsRow 0 9 1 (Ac (w.heap.size+1) 0 0 Y.length) 0 []:=fO aS (ap7 _);clear wC aS
 go_loopw [3,13] (λt i wr=>∃k:Nat,k<=Y.length/\i=A k/\t=Ac (w.heap.size+1) 0 k Y.length/\wr.ownsRow 0 9 1 (Ac (w.heap.size+1) 0 k Y.length) k (((au.texts Y).take k).map str)/\Ag w wr) (λ_ i _=>Y.length-(intOf i).toNat)
 case atStart=>exact⟨0,ap7 _,rfl,rfl,rD,iD⟩
 case round=>
  obtain⟨k,hk,rfl,rfl,Az,hb⟩:=hrel;by_cases hlt:k<Y.length
  ·have iF:(k:Int)<(Y.length:Int):=O;obtain⟨c0,c1,c2⟩:=((Z Eu).below hb AL).2 k hlt;have gX:k+1<=Y.length:=hlt;have aV:au.lQ k Y[k]:=(Z HI).key k hlt;have htx:(au.texts Y).getD k []=au.rend (au.texts Y) Y[k]:=(Z HI).get k hlt;have VR:((au.texts Y).take (k+1)).map str=((au.texts Y).take k).map str++[str ((au.texts Y).getD k [])]:=by
    have iQ:k<(au.texts Y).length:=(by rw[au.aO];exact hlt);rw[aq3,an3 iQ,au0,ao0,an3 iQ];rfl
   have GH:=F htx;have Y5:=F VR;have MF:Hid (∀W2:World,wr.grownBy W2 none->W2.ownsRow 0 9 1 (Ac (w.heap.size+1) 0 k Y.length) k (((au.texts Y).take k).map str)):=λW2 h=>Az.kept h (Or.inr (by simp[Value.ownBlock]));have EK:w.heap.size+1<wr.heap.size:=(Az.lt (w.heap.size+1) rfl).2;clear htx VR;generalize Y[k]=key at c0 c1 c2 aV GH;obtain⟨kl,kf,ks⟩:=key;simp only at c0 c1 c2;obtain⟨g1,g2,g3,g4⟩|⟨g1,g2,g3⟩|⟨g1,g2,g3⟩:=aV
   ·simp only at g1 g2 g3 g4;have u1:Utf8.encode 97=⟨#[97]⟩:=(by kernel_rfl);have u2:Utf8.encode 98=⟨#[98]⟩:=(by kernel_rfl);have u3:Utf8.encode 99=⟨#[99]⟩:=(by kernel_rfl);have u4:Utf8.encode 100=⟨#[100]⟩:=(by kernel_rfl);have u5:Utf8.encode 101=⟨#[101]⟩:=(by kernel_rfl);have ajO:kl=97\/kl=98\/kl=99\/kl=100\/kl=101:=O;clear g1 g2 g3 g4;obtain rfl|rfl|rfl|rfl|rfl:=ajO
    ·have rC:au.rend (au.texts Y) (97,kf,ks)=[97]:=rfl;rw[rC]at GH;clear rC
     go_wp2_with (refine wpList_append_fits _ rfl (.tmp 19) (.tmp 24) 163 rfl 0 9 i0 1 underlying163 gK ig _ _ _ _ rfl (Z MF _ ((an1 _ _ none).trans (an1 _ _ none))) _ 1 1 [str [97]] rfl rfl (sQ _ _ _ _ R) (sO _) gX ?_;intro w4 r1 r2)
     exact⟨⟨k+1,gX,by go_num,rfl,by rw[Z Y5,Z GH];exact r1,oM hb (((an1 _ _ none)).trans (an1 _ _ none)) r2 O⟩,by simp[intOf];omega⟩
    ·have rC:au.rend (au.texts Y) (98,kf,ks)=[98]:=rfl;rw[rC]at GH;clear rC
     go_wp2_with (refine wpList_append_fits _ rfl (.tmp 19) (.tmp 24) 163 rfl 0 9 i0 1 underlying163 gK ig _ _ _ _ rfl (Z MF _ ((an1 _ _ none).trans (an1 _ _ none))) _ 1 1 [str [98]] rfl rfl (sQ _ _ _ _ R) (sO _) gX ?_;intro w4 r1 r2)
     exact⟨⟨k+1,gX,by go_num,rfl,by rw[Z Y5,Z GH];exact r1,oM hb (((an1 _ _ none)).trans (an1 _ _ none)) r2 O⟩,by simp[intOf];omega⟩
    ·have rC:au.rend (au.texts Y) (99,kf,ks)=[99]:=rfl;rw[rC]at GH;clear rC
     go_wp2_with (refine wpList_append_fits _ rfl (.tmp 19) (.tmp 24) 163 rfl 0 9 i0 1 underlying163 gK ig _ _ _ _ rfl (Z MF _ ((an1 _ _ none).trans (an1 _ _ none))) _ 1 1 [str [99]] rfl rfl (sQ _ _ _ _ R) (sO _) gX ?_;intro w4 r1 r2)
     exact⟨⟨k+1,gX,by go_num,rfl,by rw[Z Y5,Z GH];exact r1,oM hb (((an1 _ _ none)).trans (an1 _ _ none)) r2 O⟩,by simp[intOf];omega⟩
    ·have rC:au.rend (au.texts Y) (100,kf,ks)=[100]:=rfl;rw[rC]at GH;clear rC
     go_wp2_with (refine wpList_append_fits _ rfl (.tmp 19) (.tmp 24) 163 rfl 0 9 i0 1 underlying163 gK ig _ _ _ _ rfl (Z MF _ ((an1 _ _ none).trans (an1 _ _ none))) _ 1 1 [str [100]] rfl rfl (sQ _ _ _ _ R) (sO _) gX ?_;intro w4 r1 r2)
     exact⟨⟨k+1,gX,by go_num,rfl,by rw[Z Y5,Z GH];exact r1,oM hb (((an1 _ _ none)).trans (an1 _ _ none)) r2 O⟩,by simp[intOf];omega⟩
    ·have rC:au.rend (au.texts Y) (101,kf,ks)=[101]:=rfl;rw[rC]at GH;clear rC
     go_wp2_with (refine wpList_append_fits _ rfl (.tmp 19) (.tmp 24) 163 rfl 0 9 i0 1 underlying163 gK ig _ _ _ _ rfl (Z MF _ ((an1 _ _ none).trans (an1 _ _ none))) _ 1 1 [str [101]] rfl rfl (sQ _ _ _ _ R) (sO _) gX ?_;intro w4 r1 r2)
     exact⟨⟨k+1,gX,by go_num,rfl,by rw[Z Y5,Z GH];exact r1,oM hb (((an1 _ _ none)).trans (an1 _ _ none)) r2 O⟩,by simp[intOf];omega⟩
   ·simp only at g1 g2 g3;subst g1;have g4:((kf:Nat):Int)<(k:Int):=O;have rC:au.rend (au.texts Y) (102,kf,ks)=Em 102 [(au.texts Y).getD kf []]:=(by simp[Em,au.rend,Lib.join_one]);rw[rC]at GH;clear rC;have cG:wr.cell? (J (w.heap.size+1) kf)=some (str ((au.texts Y).getD kf [])):=by
     rw[Az.cellAt kf O];simp[ao0,au.aO,av5,g2,Nat.lt_trans g2 hlt]
    have jL:((au.texts Y).getD kf []).length<=100:=pR kf;generalize (au.texts Y).getD kf []=t1 at GH cG jL;unfold str at cG;have HAP:Hid (∀(W:World) (n:Nat),W.heap.size=n->Calls prog 134 #[Ae 102,Ac n 0 1 1] (W.alloc (.cells #[.string ⟨t1.toArray⟩] 9)) λe w'=>e=.returned (str (Em 102 [t1]))/\W.grownBy w' none):=λW n hn=>by
     subst hn;have h:=zf 102 ane [t1] W.heap.size 1 (W.alloc (.cells #[.string ⟨t1.toArray⟩] 9)) R R (by rw[Lib.join_one];omega) R (λj hj=>by
      obtain rfl:j=0:=(by simp at hj;omega);simp[go_sem,str])
     exact h.mono λe w' ⟨I,M⟩=>⟨I,⟨M.os,M.tape,M.output,ap3 R M.size,λq hq _=>(M.block q anf).trans (ao3 W _ q hq)⟩⟩
    generalize Em 102 [t1]=tn at GH HAP
    go_wp2_with fail
    refine(Z HAP _ _ R).mono ?_;rintro e w3 ⟨rfl,dY⟩;have mP:wr.grownBy w3 none:=(an1 _ _ none).trans dY;clear HAP;unfold str
    go_wp2_with (refine wpList_append_fits _ rfl (.tmp 28) (.tmp 36) 163 rfl 0 9 i0 1 underlying163 gK ig _ _ _ _ rfl (Z MF _ (mP.trans (an1 _ _ none))) _ 1 1 [str tn] rfl rfl (sQ _ _ _ _ rfl) (sO _) gX ?_;intro w4 r1 r2)
    exact⟨⟨k+1,gX,by go_num,rfl,by rw[Z Y5,Z GH];exact r1,oM hb (mP.trans (an1 _ _ none)) r2 O⟩,by simp[intOf];omega⟩
   ·simp only at g1 g2 g3;subst g1;have g4:((kf:Nat):Int)<(k:Int):=O;have g5:((ks:Nat):Int)<(k:Int):=O;have rC:au.rend (au.texts Y) (103,kf,ks)=Em 103 [(au.texts Y).getD kf [],(au.texts Y).getD ks []]:=(by simp[Em,au.rend,Lib.join_cons,Lib.joinTail]);rw[rC]at GH;clear rC;have cG:wr.cell? (J (w.heap.size+1) kf)=some (str ((au.texts Y).getD kf [])):=by
     rw[Az.cellAt kf O];simp[ao0,au.aO,av5,g2,Nat.lt_trans g2 hlt]
    have cH:wr.cell? (J (w.heap.size+1) ks)=some (str ((au.texts Y).getD ks [])):=by
     rw[Az.cellAt ks O];simp[ao0,au.aO,av5,g3,Nat.lt_trans g3 hlt]
    have jL:((au.texts Y).getD kf []).length<=100:=pR kf;have sG:((au.texts Y).getD ks []).length<=100:=pR ks;obtain⟨t1,e1⟩:∃t1,(au.texts Y).getD kf []=t1:=⟨_,rfl⟩;obtain⟨t2,e2⟩:∃t2,(au.texts Y).getD ks []=t2:=⟨_,rfl⟩;rw[e1]at GH cG jL;rw[e2]at GH cH sG;clear e1 e2;unfold str at cG cH;have HAP:Hid (∀(W:World) (n:Nat),W.heap.size=n->Calls prog 134 #[Ae 103,Ac n 0 2 2] (W.alloc (.cells #[.string ⟨t1.toArray⟩,.string ⟨t2.toArray⟩] 9)) λe w'=>e=.returned (str (Em 103 [t1,t2]))/\W.grownBy w' none):=λW n hn=>by
     subst hn;have h:=zf 103 ane [t1,t2] W.heap.size 2 (W.alloc (.cells #[.string ⟨t1.toArray⟩,.string ⟨t2.toArray⟩] 9)) R R (by simp[Lib.join_cons,Lib.joinTail];omega) R (λj hj=>by
      obtain rfl|rfl:j=0\/j=1:=by simp at hj;omega
      ·simp[go_sem,str]
      ·simp[go_sem,str])
     exact h.mono λe w' ⟨I,M⟩=>⟨I,⟨M.os,M.tape,M.output,ap3 R M.size,λq hq _=>(M.block q anf).trans (ao3 W _ q hq)⟩⟩
    generalize Em 103 [t1,t2]=tn at GH HAP
    go_wp2_with fail
    have fK:wr.grownBy (wr.alloc (.cells #[Ae 103,A kf,A ks] 76)) none:=an1 _ _ none;refine aq8 (S:=λW'=>W'.cell? (J wr.heap.size 1)=some (A kf)/\W'.cell? (J wr.heap.size 2)=some (A ks)/\W'.cell? (J (w.heap.size+1) kf)=some (.string ⟨t1.toArray⟩)/\W'.cell? (J (w.heap.size+1) ks)=some (.string ⟨t2.toArray⟩)) rfl ?_;obtain⟨W1,dO⟩:∃W1,wr.alloc (.cells #[Ae 103,A kf,A ks] 76)=W1:=⟨_,rfl⟩;have aA:W1.drew.cell? (J wr.heap.size 1)=some (A kf)/\W1.drew.cell? (J wr.heap.size 2)=some (A ks)/\W1.drew.cell? (J (w.heap.size+1) kf)=some (.string ⟨t1.toArray⟩)/\W1.drew.cell? (J (w.heap.size+1) ks)=some (.string ⟨t2.toArray⟩):=by
     rw[<-dO];exact⟨by simp[go_sem],by simp[go_sem],fK.cell cG R,fK.cell cH R⟩
    have vZ:W1.heap.size=wr.heap.size+1:=(by rw[<-dO];simp);have bG:wr.grownBy W1.drew none:=(by rw[<-dO];exact⟨rfl,rfl,rfl,R,λj hj _=>ao3 _ _ _ hj⟩);rw[dO]at fK ⊢;have MW:=F vZ;clear dO vZ;change wpAnyH prog .any _ _ _ 16 #[false,false,false,false,false,false,false,false,false,false,false,false,false,false,false,false] _ W1.drew;refine tH 0 (Ac (w.heap.size+1) 0 k Y.length) (λw' hS=>?_) aA ?_
    ·obtain⟨s1,s2,s3,s4⟩:=hS;go_simp
    simp only[aF];refine tH 1 (Ac (w.heap.size+1) 0 k Y.length) (λw' hS=>?_) aA ?_
    ·obtain⟨s1,s2,s3,s4⟩:=hS;go_simp
    simp only[aF];refine tH 2 (Aa wr.heap.size 1) (λw' hS=>?_) aA ?_
    ·obtain⟨s1,s2,s3,s4⟩:=hS;go_simp
    simp only[aF];refine tH 3 (A kf) (λw' hS=>?_) aA ?_
    ·obtain⟨s1,s2,s3,s4⟩:=hS;go_simp
    simp only[aF];refine tH 4 (Aa (w.heap.size+1) kf) (λw' hS=>?_) aA ?_
    ·obtain⟨s1,s2,s3,s4⟩:=hS;go_simp
    simp only[aF];refine tH 5 (.string ⟨t1.toArray⟩) (λw' hS=>?_) aA ?_
    ·obtain⟨s1,s2,s3,s4⟩:=hS;go_simp
    simp only[aF];refine tH 6 (Ac (w.heap.size+1) 0 k Y.length) (λw' hS=>?_) aA ?_
    ·obtain⟨s1,s2,s3,s4⟩:=hS;go_simp
    simp only[aF];refine tH 7 (Aa wr.heap.size 2) (λw' hS=>?_) aA ?_
    ·obtain⟨s1,s2,s3,s4⟩:=hS;go_simp
    simp only[aF];refine tH 8 (A ks) (λw' hS=>?_) aA ?_
    ·obtain⟨s1,s2,s3,s4⟩:=hS;go_simp
    simp only[aF];refine tH 9 (Aa (w.heap.size+1) ks) (λw' hS=>?_) aA ?_
    ·obtain⟨s1,s2,s3,s4⟩:=hS;go_simp
    simp only[aF];refine tH 10 (.string ⟨t2.toArray⟩) (λw' hS=>?_) aA ?_
    ·obtain⟨s1,s2,s3,s4⟩:=hS;go_simp
    simp only[aF];have wK:Hid (∀W':World,W1.drew.grownBy W' none->W'.cell? (J wr.heap.size 1)=some (A kf)/\W'.cell? (J wr.heap.size 2)=some (A ks)/\W'.cell? (J (w.heap.size+1) kf)=some (.string ⟨t1.toArray⟩)/\W'.cell? (J (w.heap.size+1) ks)=some (.string ⟨t2.toArray⟩)):=λW' hg=>⟨hg.cell aA.1 R,hg.cell aA.2.1 R,hg.cell aA.2.2.1 R,hg.cell aA.2.2.2 R⟩;refine oH 11 (λK hK=>?_);go_simp;refine hK.out _ _ (Z wK _ (an1 W1.drew (.cells #[.string ⟨t1.toArray⟩,.string ⟨t2.toArray⟩] 9) none)) ?_;clear hK K;refine oH 12 (λK hK=>?_);go_simp;refine(Z HAP W1.drew _ rfl).mono ?_;rintro e w3 ⟨rfl,dY⟩;refine hK.out _ _ (Z wK _ dY) ?_;clear hK K HAP;unfold str;refine oH 13 (λK hK=>?_);go_simp;have mP:W1.drew.grownBy (w3.alloc (.cells #[.string ⟨tn.toArray⟩] 9)) none:=dY.trans (an1 _ _ none);refine hK.out _ _ (Z wK _ mP) ?_;clear hK K;have AO:wr.grownBy (w3.alloc (.cells #[.string ⟨tn.toArray⟩] 9)) none:=bG.trans mP;refine oH 14 (λK hK=>?_);refine zq (.tmp 40) (.tmp 53) 163 rfl 0 9 i0 1 underlying163 gK ig _ _ _ _ rfl (Z MF _ AO) _ 1 1 [str tn] rfl rfl (sQ _ _ _ _ rfl) (sO _) gX ?_;intro w4 r1 r2;have q0:=Z wK _ mP;have bg:wr.heap.size≠w.heap.size+1:=O;have rc:∀j,j<k->w4.cell? (J (w.heap.size+1) j)=(w3.alloc (.cells #[.string ⟨tn.toArray⟩] 9)).cell? (J (w.heap.size+1) j):=λj hj=>by
     have e1:=(Z MF _ AO).cellAt j O;rw[r1.cellAt j O,e1,as5];rw[au3,ar1,au.aO];omega
    have hS4:w4.cell? (J wr.heap.size 1)=some (A kf)/\w4.cell? (J wr.heap.size 2)=some (A ks)/\w4.cell? (J (w.heap.size+1) kf)=some (.string ⟨t1.toArray⟩)/\w4.cell? (J (w.heap.size+1) ks)=some (.string ⟨t2.toArray⟩):=
     ⟨r2.cell q0.1 (by simpa using bg),r2.cell q0.2.1 (by simpa using bg),(rc kf g2).trans q0.2.2.1,(rc ks g3).trans q0.2.2.2⟩
    refine hK.out _ _ hS4 ?_;clear hK K;refine oH 15 (λK hK=>?_);go_simp;refine hK.out _ _ hS4 (ar2 (by kernel_rfl) ?_ _);clear hK K
    go_wp2_with fail
    exact⟨⟨k+1,gX,by go_num,rfl,by rw[Z Y5,Z GH];exact r1,oM hb AO r2 O⟩,by simp[intOf];omega⟩
  ·have gW:k=Y.length:=O;have Lr:=F gW;clear gW;have iF:¬(k:Int)<(Y.length:Int):=O
   go_wp2_with fail
   go_ret
   have gW:=Z Lr;subst gW;refine⟨w.heap.size+1,rfl,O,(Az.lt (w.heap.size+1) rfl).2,hb,λj hj=>?_⟩;rw[Az.cellAt j O];simp[ao0,au.aO,hj]
end
namespace au
def tV(cl:List Int)(hl:List Bool)(acc:List Bool)(q:Key):Bool:=
 if q.1=61 then decide (cl.getD q.2.1 0=cl.getD q.2.2 0)
 else if q.1=80\/q.1=81 then hl.getD q.2.1 false
 else if q.1=33 then !(acc.getD q.2.1 false)
 else jn q.1 (acc.getD q.2.1 false) (acc.getD q.2.2 false)
def gV(cl:List Int)(hl:List Bool)(ps:Ai):List Bool:=ps.foldl (λacc q=>acc++[tV cl hl acc q]) []
section
variable {cl:List Int} {hl:List Bool}
theorem qV(ps:Ai)(q:Key):gV cl hl (ps++[q])=gV cl hl ps++[tV cl hl (gV cl hl ps) q]:=by
 unfold gV;rw[az2];rfl
theorem Vj(ps:Ai):∀qs:Ai,gV cl hl ps <+: gV cl hl (ps++qs):=by
 intro qs
 induction qs generalizing ps with
 |nil=>simp
 |cons q qs ih=>
  have h:=ih (ps++[q]);rw[qV]at h;have e:ps++q::qs=(ps++[q])++qs:=R
  rw[e];exact(aB0 _ _).trans h
theorem vT{ps ps1:Ai}(h:ps <+: ps1):gV cl hl ps <+: gV cl hl ps1:=by
 obtain⟨qs,rfl⟩:=h;exact Vj ps qs
theorem jW(ps:Ai):(gV cl hl ps).length=ps.length:=by
 have h:∀qs:Ai,∀ps:Ai,(gV cl hl ps).length=ps.length->(gV cl hl (ps++qs)).length=(ps++qs).length:=by
  intro qs
  induction qs with
  |nil=>intro ps h;simpa using h
  |cons q qs ih=>
   intro ps h;have e:ps++q::qs=(ps++[q])++qs:=R;rw[e];exact ih _ (by rw[qV];simp[h])
 simpa using h ps [] rfl
theorem rV{L L1:List Bool}(h:L <+: L1){i:Nat}(hi:i<L.length):L1.getD i false=L.getD i false:=by
 obtain⟨anc,rfl⟩:=h;simp[ao0,as5 hi]
theorem X4{L L1:List Bool}{nt nc:Nat}{q:Key}(h:L <+: L1)(hq:fQ nt nc L.length q):tV cl hl L1 q=tV cl hl L q:=by
 unfold tV;obtain⟨a,b,_⟩|⟨a,b,c⟩|⟨a,_,_⟩|⟨a,_,_⟩:=hq
 ·rw[rV h b,a];simp
 ·rw[rV h b,rV h c]
 ·have I:q.1≠61:=O
  rw[an8 I,an8 I,ao4 a,ao4 a]
 ·rw[ao4 a,ao4 a]
theorem X3{nt nc:Nat}{ps:Ai}(h:bJ nt nc ps){j:Nat}(hj:j<ps.length):(gV cl hl ps).getD j false=tV cl hl (gV cl hl ps) ps[j]:=by
 have e:ps.take (j+1)=ps.take j++[ps[j]]:=by rw[aq3,an3 hj];rfl
 have hp:gV cl hl (ps.take (j+1)) <+: gV cl hl ps:=vT (List.take_prefix _ _);have hp0:gV cl hl (ps.take j) <+: gV cl hl ps:=vT (List.take_prefix _ _);have NS:(gV cl hl (ps.take j)).length=j:=by rw[jW,ar1];omega
 rw[e,qV]at hp;rw[rV hp (by simp[NS]),X4 hp0 (by rw[NS];exact h.ok j hj)];simp[ao0,NS]
theorem aeQ{nt nc:Nat}{ps:Ai}(h:bJ nt nc ps){q:Key}(_hq:fQ nt nc ps.length q):(gV cl hl (put ps q)).getD (ps.idxOf q) false=tV cl hl (gV cl hl ps) q:=by
 by_cases hm:q∈ps
 ·have e:put ps q=ps:=by unfold au.put;rw[ao4 (by simpa using hm)]
  have hlt:=ar0 hm;rw[e,X3 h hlt,ar8 hlt]
 ·have e:put ps q=ps++[q]:=by unfold au.put;rw[an8 (by simpa using hm)]
  rw[e,qV,as3 hm];simp[ao0,jW]
end
theorem akY{Y:Ai}(h:Inv Y){cs:Ah}(hcs:kD Y cs){c:Int×Nat}(hc:okC Y.length c):(cs.map (dH (texts Y))).idxOf (dH (texts Y) c)=cs.idxOf c:=by
 induction cs with
 |nil=>rfl
 |cons x r ih=>
  have hr:kD Y r:=λy hy=>hcs y (List.mem_cons_of_mem _ hy);rw[ay3,List.idxOf_cons,List.idxOf_cons,ih hr];by_cases e:x=c
  ·subst e;simp
  ·have e1:dH (texts Y) x≠dH (texts Y) c:=λe'=>e (Nk h (hcs x (List.mem_cons_self ..)) hc e');have e2:(dH (texts Y) x==dH (texts Y) c)=false:=(by simpa using e1);have e3:(x==c)=false:=(by simpa using e);rw[e2,e3]
section
variable {l:List UInt8} {cl:List Int} {hl:List Bool}
def aeu(cl:List Int)(hl:List Bool)(r:RP)(b:Bool):Prop:=
 match r with
 |.ok (_,_,_,ps1,m)=>b=(gV cl hl ps1).getD m false
 |.error _=>True
theorem Dk{ps1:Ai}{a1:Nat}{aP:Ai}{dQ:Ah}{q:Key}{b:Bool}(h:bJ aP.length dQ.length ps1)(hq:fQ aP.length dQ.length ps1.length q)(hb:b=tV cl hl (gV cl hl ps1) q) :
  aeu cl hl (AY (.ok (a1,aP,dQ,ps1,q))) b:=by
 show b=(gV cl hl (put ps1 q)).getD (ps1.idxOf q) false
 rw[aeQ h hq];exact hb
theorem QA:∀(n a d:Nat) (Y:Ai) (cs:Ah) (ps:Ai),a<=l.length->l.length<a+n->Inv Y->kD Y cs->bJ Y.length cs.length ps->
  aeu cl hl (lG (bK l) n a d Y cs ps) (vF l (bK l) cl hl n ⟨a,d,0,texts Y,cs.map (dH (texts Y))⟩):=by
 intro n
 induction n with
 |zero=>intro a d Y cs ps ha hn;omega
 |succ n ih=>
  intro a d Y cs ps ha hn hi hcs oQ;unfold lG vF;simp only[XW];by_cases mV:bK l a=33
  ·have hlt:=fP (l:=l) (a:=a) O;rw[ao4 mV,ao4 (show decide (bK l a=33)=true by simpa using mV)];have h:=ih (a+1) d Y cs ps O O hi hcs oQ;have hf:=rX (pk:=bK l) (N:=l.length) (λa h=>fP h) n (a+1) d Y cs ps O oQ;rcases hR:lG (bK l) n (a+1) d Y cs ps with e|⟨a1,aP,dQ,ps1,m⟩
   ·trivial
   ·rw[hR]at h hf;obtain⟨f1,f2,_⟩:=hf;refine Dk f1 (Or.inl ⟨rfl,f2,rfl⟩) ?_;have h':vF l (bK l) cl hl n ⟨a+1,d,0,texts Y,cs.map (dH (texts Y))⟩=(gV cl hl ps1).getD m false:=h;rw[h'];simp[tV]
  ·rw[an8 mV,an8 (show ¬(decide (bK l a=33)=true) by simpa using mV)];by_cases iC:bK l a=40
   ·have hlt:=fP (l:=l) (a:=a) O;rw[ao4 iC,an8 (show ¬((decide (bK l a=80)||decide (bK l a=81))=true) by simp;omega),ao4 (show decide (bK l a=40)=true by simpa using iC)];unfold ZA;by_cases h8:d=8
    ·rw[ao4 h8];trivial
    ·rw[an8 h8,fE iC h8];have h:=ih (a+1) (d+1) Y cs ps O O hi hcs oQ;have hs:=Dj (l:=l) n (a+1) (d+1) Y cs O O hi hcs;have iq:=vW (pk:=bK l) (N:=l.length) (λa h=>fP h) n (a+1) (d+1) Y cs O;have hf:=rX (pk:=bK l) (N:=l.length) (λa h=>fP h) n (a+1) (d+1) Y cs ps O oQ;rw[<-qZ (bK l) n (a+1) (d+1) Y cs ps]at hs iq;rcases hR:lG (bK l) n (a+1) (d+1) Y cs ps with e|⟨a1,aP,dQ,ps1,m1⟩
     ·trivial
     ·rw[hR]at h hs iq hf;obtain⟨s1,s2,s3⟩:=hs;obtain⟨o1,o2,_⟩:=iq;obtain⟨f1,f2,f3,f4,f5⟩:=hf;have h':vF l (bK l) cl hl n ⟨a+1,d+1,0,texts Y,cs.map (dH (texts Y))⟩=(gV cl hl ps1).getD m1 false:=h;rw[s1,h']
      show aeu cl hl (AY (if aB (bK l a1)=true then _ else _)) _
      by_cases hj:aB (bK l a1)=true
      ·have jL:=fP (l:=l) (a:=a1) (λe=>by rw[e]at hj;simp[aB]at hj);rw[ao4 hj];have NU:List.contains [38,124,62,45] (bK l a1)=true:=(by simpa[aB,or_assoc]using hj);rw[pX NU];have g:=ih (a1+1) (d+1) aP dQ ps1 O O s2 s3 f1;have gf:=rX (pk:=bK l) (N:=l.length) (λa h=>fP h) n (a1+1) (d+1) aP dQ ps1 O f1;rcases mX:lG (bK l) n (a1+1) (d+1) aP dQ ps1 with e|⟨a2,ts2,Ce,ps2,m2⟩
       ·trivial
       ·rw[mX]at g gf;obtain⟨g1,g2,g3,g4,g5⟩:=gf;have g':vF l (bK l) cl hl n ⟨a1+1,d+1,0,texts aP,dQ.map (dH (texts aP))⟩=(gV cl hl ps2).getD m2 false:=g;rw[g']
        show aeu cl hl (AY (if bK l a2=41 then _ else _)) _
        by_cases rU:bK l a2=41
        ·rw[ao4 rU];have hle:=g5.length_le;refine Dk g1 (Or.inr (Or.inl ⟨hj,by show m1<ps2.length;omega,g2⟩)) ?_;have e1:(gV cl hl ps2).getD m1 false=(gV cl hl ps1).getD m1 false:=rV (vT g5) (by rw[jW];exact f2);have n1:bK l a1≠61:=λe=>by rw[e]at hj;simp[aB]at hj
         have n2:¬(bK l a1=80\/bK l a1=81):=λe=>by obtain e|e:=e<;>(rw[e]at hj;simp[aB]at hj)
         have n3:bK l a1≠33:=λe=>by rw[e]at hj;simp[aB]at hj
         unfold tV;rw[an8 n1,an8 n2,an8 n3];simp only;rw[e1]
        ·rw[an8 rU];trivial
      ·rw[an8 hj];trivial
   ·rw[an8 iC];by_cases h8:bK l a=80\/bK l a=81
    ·have hlt:=fP (l:=l) (a:=a) O;rw[ao4 h8,ao4 (show(decide (bK l a=80)||decide (bK l a=81))=true by simpa using h8)];have h:=ER (l:=l) (C:=cs.map (dH (texts Y))) (n:=n+1) (d:=d) (qG _) (a:=a+1) O O hi;have iq:=lN (pk:=bK l) (N:=l.length) (λa h=>fP h) (rec:=iU (bK l) (n+1)) (a:=a+1) (d:=d) (Y:=Y) O (λiC=>eX (λa h=>fP h) _ _ _ _ (by have:=fP (l:=l) (a:=a+1) O;omega));unfold rdC;rcases hR:arg1 (bK l) (iU (bK l) (n+1)) (a+1) d Y with e|⟨a1,aP,m⟩
     ·trivial
     ·rw[hR]at h iq;obtain⟨I,M,h3,h4,h5,h6⟩:=h;obtain⟨p1,p2,p3,p4,p5⟩:=iq;rw[I];have hc:okC aP.length (bK l a,m):=⟨h8,h4⟩;have aho:cut l a a1=dH (texts aP) (bK l a,m):=by
       have hg:=oz (l:=l) (a:=a) (c:=UInt8.ofNat (bK l a).toNat) anf (λe=>by have:=ax1 UInt8.toNat e;simp at this;omega);rw[oK l (show a<=a+1 by omega) (show a+1<=a1 by omega),oJ hg,h5];rfl
      have q:=gu cs (bK l a,m);refine Dk (oQ.more p3 q.1) (Or.inr (Or.inr (Or.inl ⟨h8,lC _ _,rfl⟩))) ?_;unfold tV;rw[an8 (show(bK l a,cs.idxOf (bK l a,m),0).1≠(61:Int) by show bK l a≠61;omega),ao4 h8];simp only[aho];rw[<-yY h3 hcs,akY M (hcs.more h3) hc]
    ·rw[an8 h8,an8 (show ¬((decide (bK l a=80)||decide (bK l a=81))=true) by simpa using h8),an8 (show ¬(decide (bK l a=40)=true) by simpa using iC)];unfold OC;have h:=qG (l:=l) (C:=cs.map (dH (texts Y))) (n+1) a d Y ha O hi;have iq:=eX (pk:=bK l) (N:=l.length) (λa h=>fP h) (n+1) a d Y ha;rcases hR:iU (bK l) (n+1) a d Y with e|⟨a1,aP,m1⟩
     ·trivial
     ·rw[hR]at h iq;obtain⟨I,M,h3,h4,h5,h6⟩:=h;obtain⟨p1,p2,p3,p4,p5⟩:=iq
      show aeu cl hl (AY (if bK l a1=61 then _ else _)) _
      rw[I];by_cases jP:bK l a1=61
      ·rw[ao4 jP];have hlt:=fP (l:=l) (a:=a1) O;simp only;rw[pX (by simpa using jP)];have g:=qG (l:=l) (C:=cs.map (dH (texts Y))) (n+1) (a1+1) d aP O O M;have gok:=eX (pk:=bK l) (N:=l.length) (λa h=>fP h) (n+1) (a1+1) d aP O;rcases mX:iU (bK l) (n+1) (a1+1) d aP with e|⟨a2,ts2,m2⟩
       ·trivial
       ·rw[mX]at g gok;obtain⟨g1,g2,g3,g4,g5,g6⟩:=g;obtain⟨q1,q2,q3,q4,q5⟩:=gok;rw[g1];refine Dk (oQ.more O (an2 _)) (Or.inr (Or.inr (Or.inr ⟨rfl,by show m1<ts2.length;omega,q5⟩))) ?_;simp[tV]
      ·rw[an8 jP];trivial
end
end au
section
open Go.RowKit Go.Maps Go.WideMaps
open au (Key put fQ tV jn aB)
attribute [local go_sem] Oper.semAt_some
def pv(q:Key):Value:=.agg #[Ae q.1,A q.2.1,A q.2.2]
theorem eY(w:World)(o p:Obj):Below w.heap.size w ((w.alloc o).alloc p):=by
 have h:w.grownBy ((w.alloc o).alloc p) none:=(an1 _ _ none).trans (an1 _ _ none);exact⟨h.os,h.tape,h.output,h.size,λj hj=>h.block j hj R⟩
theorem ZM(b H x y cap B:Nat)(hl acc:List Bool)(w:World)(hx:x<acc.length)(hB:eP w B acc) :
  Calls prog 79 #[pv (33,x,y),sv b H hl.length,Ac B 0 acc.length cap] w λe w'=>e=.returned (.bool (!(acc.getD x false)))/\Ag w w':=by
 unfold pv sv;simp only;have hc:=hB.at hx;have NR:=hB.1;generalize acc.getD x false=bx at hc ⊢;have hxi:(x:Int)<(acc.length:Int):=O
 go_in
 go_wp2_with fail
 go_ret
 exact⟨rfl,eY _ _ _⟩
theorem aeU(b H x y cap B:Nat)(hl acc:List Bool)(w:World)(hx:x<hl.length)(hH:eP w H hl) :
  Calls prog 79 #[pv (80,x,y),sv b H hl.length,Ac B 0 acc.length cap] w λe w'=>e=.returned (.bool (hl.getD x false))/\Ag w w':=by
 unfold pv sv;simp only;have hc:=hH.at hx;have NR:=hH.1;generalize hl.getD x false=bx at hc ⊢;have hxi:(x:Int)<(hl.length:Int):=O
 go_in
 go_wp2_with fail
 go_ret
 exact⟨rfl,eY _ _ _⟩
theorem aeT(b H x y cap B:Nat)(hl acc:List Bool)(w:World)(hx:x<hl.length)(hH:eP w H hl) :
  Calls prog 79 #[pv (81,x,y),sv b H hl.length,Ac B 0 acc.length cap] w λe w'=>e=.returned (.bool (hl.getD x false))/\Ag w w':=by
 unfold pv sv;simp only;have hc:=hH.at hx;have NR:=hH.1;generalize hl.getD x false=bx at hc ⊢;have hxi:(x:Int)<(hl.length:Int):=O
 go_in
 go_wp2_with fail
 go_ret
 exact⟨rfl,eY _ _ _⟩
theorem ZQ(b H x y cap B:Nat)(hl acc:List Bool)(w:World)(hx:x<acc.length)(hy:y<acc.length)(hB:eP w B acc) :
  Calls prog 79 #[pv (38,x,y),sv b H hl.length,Ac B 0 acc.length cap] w λe w'=>e=.returned (.bool (acc.getD x false&&acc.getD y false))/\Ag w w':=by
 unfold pv sv;simp only;have hc:=hB.at hx;have NR:=hB.1;generalize acc.getD x false=bx at hc ⊢;have hxi:(x:Int)<(acc.length:Int):=O
 have Fh:=hB.at hy;generalize acc.getD y false=by' at Fh ⊢;have hyi:(y:Int)<(acc.length:Int):=O
 go_in
 cases bx
 ·go_wp2_with fail
  go_ret
  exact⟨R,eY _ _ _⟩
 ·go_wp2_with fail
  go_ret
  exact⟨R,eY _ _ _⟩
theorem acn(b H x y cap B:Nat)(hl acc:List Bool)(w:World)(hx:x<acc.length)(hy:y<acc.length)(hB:eP w B acc) :
  Calls prog 79 #[pv (124,x,y),sv b H hl.length,Ac B 0 acc.length cap] w λe w'=>e=.returned (.bool (acc.getD x false||acc.getD y false))/\Ag w w':=by
 unfold pv sv;simp only;have hc:=hB.at hx;have NR:=hB.1;generalize acc.getD x false=bx at hc ⊢;have hxi:(x:Int)<(acc.length:Int):=O
 have Fh:=hB.at hy;generalize acc.getD y false=by' at Fh ⊢;have hyi:(y:Int)<(acc.length:Int):=O
 go_in
 cases bx
 ·go_wp2_with fail
  go_ret
  exact⟨R,eY _ _ _⟩
 ·go_wp2_with fail
  go_ret
  exact⟨R,eY _ _ _⟩
theorem ZN(b H x y cap B:Nat)(hl acc:List Bool)(w:World)(hx:x<acc.length)(hy:y<acc.length)(hB:eP w B acc) :
  Calls prog 79 #[pv (62,x,y),sv b H hl.length,Ac B 0 acc.length cap] w λe w'=>e=.returned (.bool (!(acc.getD x false)||acc.getD y false))/\Ag w w':=by
 unfold pv sv;simp only;have hc:=hB.at hx;have NR:=hB.1;generalize acc.getD x false=bx at hc ⊢;have hxi:(x:Int)<(acc.length:Int):=O
 have Fh:=hB.at hy;generalize acc.getD y false=by' at Fh ⊢;have hyi:(y:Int)<(acc.length:Int):=O
 go_in
 cases bx
 ·go_wp2_with fail
  go_ret
  exact⟨R,eY _ _ _⟩
 ·go_wp2_with fail
  go_ret
  exact⟨R,eY _ _ _⟩
theorem aco(b H x y cap B:Nat)(hl acc:List Bool)(w:World)(n c:Nat)(f:Nat->Nat)(hx:x<n)(hy:y<n)(hn:n<=1000)(hle:∀i,i<n->f i<=i/\f (f i)=f i)(hM:gY w b f n c) :
  Calls prog 79 #[pv (61,x,y),sv b H hl.length,Ac B 0 acc.length cap] w λe w'=>e=.returned (.bool (decide (f x=f y)))/\Ag w w':=by
 unfold pv sv;simp only;have NR:=hM.lt;have HM:=F hM;have HL:=F hle
 go_in
 go_wp2_with fail
 have fF:=eY w (.cells #[Ae 61,A x,A y] 82) (.cells #[.map (some b),Ac H 0 hl.length hl.length] 56);refine(abX _ b n c f x y ((Z HM).kept (fF.block b NR)) hx hy hn (Z HL)).mono ?_;rintro e w2 ⟨rfl,rfl⟩
 go_wp2_with fail
 go_ret
 exact⟨rfl,fF⟩
theorem ZO(b H x y cap B:Nat)(hl acc:List Bool)(w:World)(hx:x<acc.length)(hy:y<acc.length)(hB:eP w B acc) :
  Calls prog 79 #[pv (45,x,y),sv b H hl.length,Ac B 0 acc.length cap] w λe w'=>e=.returned (.bool (acc.getD x false==acc.getD y false))/\Ag w w':=by
 unfold pv sv;simp only;have hc:=hB.at hx;have NR:=hB.1;generalize acc.getD x false=bx at hc ⊢;have hxi:(x:Int)<(acc.length:Int):=O
 have Fh:=hB.at hy;generalize acc.getD y false=by' at Fh ⊢;have hyi:(y:Int)<(acc.length:Int):=O
 go_in
 go_wp2_with fail
 have fF:=eY w (.cells #[Ae 45,A x,A y] 82) (.cells #[.map (some b),Ac H 0 hl.length hl.length] 56);have O4:((w.alloc (.cells #[Ae 45,A x,A y] 82)).alloc (.cells #[.map (some b),Ac H 0 hl.length hl.length] 56)).cell? (J w.heap.size 1)=some (A x):=by simp[go_sem]
 have sH:((w.alloc (.cells #[Ae 45,A x,A y] 82)).alloc (.cells #[.map (some b),Ac H 0 hl.length hl.length] 56)).cell? (J w.heap.size 2)=some (A y):=by simp[go_sem]
 generalize ((w.alloc (.cells #[Ae 45,A x,A y] 82)).alloc (.cells #[.map (some b),Ac H 0 hl.length hl.length] 56))=W at *;have aA:W.drew.cell? (J w.heap.size 1)=some (A x)/\W.drew.cell? (J w.heap.size 2)=some (A y)/\W.drew.cell? (J B x)=some (.bool bx)/\W.drew.cell? (J B y)=some (.bool by'):=⟨O4,sH,(an9 (fF.block B NR)).trans hc,(an9 (fF.block B NR)).trans Fh⟩;refine aq8 (S:=λW'=>W'.cell? (J w.heap.size 1)=some (A x)/\W'.cell? (J w.heap.size 2)=some (A y)/\W'.cell? (J B x)=some (.bool bx)/\W'.cell? (J B y)=some (.bool by')) rfl ?_;simp only[ao5,ao1,ap0,Nat.reduceAdd,an7,an6,ao6,ao8,ao7];refine tH 0 (Ac B 0 acc.length cap) (λw' hS=>?_) aA ?_
 ·obtain⟨s1,s2,s3,s4⟩:=hS;go_simp
 simp only[aF];refine tH 1 (Aa w.heap.size 1) (λw' hS=>?_) aA ?_
 ·obtain⟨s1,s2,s3,s4⟩:=hS;go_simp
 simp only[aF];refine tH 2 (A x) (λw' hS=>?_) aA ?_
 ·obtain⟨s1,s2,s3,s4⟩:=hS;go_simp
 simp only[aF];refine tH 3 (Aa B x) (λw' hS=>?_) aA ?_
 ·obtain⟨s1,s2,s3,s4⟩:=hS;go_simp
 simp only[aF];refine tH 4 (.bool bx) (λw' hS=>?_) aA ?_
 ·obtain⟨s1,s2,s3,s4⟩:=hS;go_simp
 simp only[aF];refine tH 5 (Ac B 0 acc.length cap) (λw' hS=>?_) aA ?_
 ·obtain⟨s1,s2,s3,s4⟩:=hS;go_simp
 simp only[aF];refine tH 6 (Aa w.heap.size 2) (λw' hS=>?_) aA ?_
 ·obtain⟨s1,s2,s3,s4⟩:=hS;go_simp
 simp only[aF];refine tH 7 (A y) (λw' hS=>?_) aA ?_
 ·obtain⟨s1,s2,s3,s4⟩:=hS;go_simp
 simp only[aF];refine tH 8 (Aa B y) (λw' hS=>?_) aA ?_
 ·obtain⟨s1,s2,s3,s4⟩:=hS;go_simp
 simp only[aF];refine tH 9 (.bool by') (λw' hS=>?_) aA ?_
 ·obtain⟨s1,s2,s3,s4⟩:=hS;go_simp
 simp only[aF];refine tH 10 (.bool (bx==by')) (λw' hS=>?_) aA ?_
 ·obtain⟨s1,s2,s3,s4⟩:=hS;cases bx<;>cases by'<;>go_simp
 simp only[aF];refine oH 11 (λK hK=>?_);go_simp;refine hK.out _ _ aA (ar2 (by kernel_rfl) ?_ _)
 go_wp2_with fail
 go_ret
 exact⟨rfl,⟨fF.os,fF.tape,fF.output,fF.size,fF.block⟩⟩
theorem ZP(b H cap B nt c:Nat)(q:Key)(cl:List Int)(hl acc:List Bool)(f:Nat->Nat)(w:World)(hq:fQ nt hl.length acc.length q)(hn:nt<=1000)(hle:∀i,i<nt->f i<=i/\f (f i)=f i)(iy:∀i j,i<nt->j<nt->(f i=f j↔cl.getD i 0=cl.getD j 0))(hM:gY w b f nt c)(hH:eP w H hl)(hB:eP w B acc) :
  Calls prog 79 #[pv q,sv b H hl.length,Ac B 0 acc.length cap] w λe w'=>e=.returned (.bool (tV cl hl acc q))/\Ag w w':=by
 obtain⟨s,x,y⟩:=q;unfold tV;obtain⟨a,I,M⟩|⟨a,I,M⟩|⟨a,I,M⟩|⟨a,I,M⟩:=hq
 ·simp only at a I M ⊢;subst a;exact ZM b H x y cap B hl acc w I hB
 ·simp only at a I M ⊢;have a':s=38\/s=124\/s=62\/s=45:=by simpa[aB,or_assoc]using a
  obtain rfl|rfl|rfl|rfl:=a'
  ·exact ZQ b H x y cap B hl acc w I M hB
  ·exact acn b H x y cap B hl acc w I M hB
  ·exact ZN b H x y cap B hl acc w I M hB
  ·exact ZO b H x y cap B hl acc w I M hB
 ·simp only at a I M ⊢;obtain rfl|rfl:=a
  ·exact aeU b H x y cap B hl acc w I hH
  ·exact aeT b H x y cap B hl acc w I hH
 ·simp only at a I M ⊢;subst a;have h:=aco b H x y cap B hl acc w nt c f I M hn hle hM;rw[aB7.2 (iy x y I M)]at h;exact h
end
section
open Go.RowKit Go.Maps Go.WideMaps
open au (Key put fQ tV jn aB gV bJ)
attribute [local go_sem] Oper.semAt_some
theorem Jw:(prog.info? 4).map (λi=>(i.zero,i.size,i.bytes))=some (some (.bool false),1,1):=by kernel_rfl
theorem Dx(w:World)(x:Bool)(t:TypeId)(n:Nat)(hn:w.heap.size=n):∀j u,[Value.bool x][j]?=some u->(w.alloc (.cells #[.bool x] t)).cell? (((J n 0):Addr).add j)=some u:=by
 subst hn;intro j u hj;cases j with
 |zero=>simp at hj;subst hj;simp[Addr.add]
 |succ j=>simp at hj
theorem ae0(x:Bool):∀u∈[Value.bool x],u.oneCell'=true:=by intro u hu;simp at hu;subst hu;rfl
theorem ace{cl:List Int}{hl:List Bool}{nt nc:Nat}{ps:Ai}(h:bJ nt nc ps){k:Nat}(hk:k<ps.length):((gV cl hl ps).take (k+1))=(gV cl hl ps).take k++[tV cl hl ((gV cl hl ps).take k) ps[k]]:=by
 have iQ:k<(gV cl hl ps).length:=by rw[au.jW];exact hk
 have e1:=au.X3 (cl:=cl) (hl:=hl) h hk;have e2:tV cl hl (gV cl hl ps) ps[k]=tV cl hl ((gV cl hl ps).take k) ps[k]:=au.X4 (nt:=nt) (nc:=nc) (List.take_prefix _ _) (by rw[ar1,Nat.min_eq_left (Nat.le_of_lt iQ)];exact h.ok k hk);rw[aq3,an3 iQ,<-e2,<-e1,ao0,an3 iQ];rfl
theorem Jv(GT GC GP nt nc b c H:Nat)(f:Nat->Nat)(ps:Ai)(cl:List Int)(hl:List Bool)(w:World)(I:0<ps.length)(adG:ps.length<=100)(Bc:nt<=7)(kE:dS w GP ps)(hi:bJ nt hl.length ps)(hf:∀i,i<nt->f i<=i/\f (f i)=f i)(iy:∀i j,i<nt->j<nt->(f i=f j↔cl.getD i 0=cl.getD j 0))(hM:gY w b f nt c)(hH:eP w H hl) :
  Calls prog 35 #[fv GT GC GP nt nc ps.length,sv b H hl.length] w λe w'=>e=.returned (.bool ((gV cl hl ps).getD (ps.length-1) false))/\Ag w w':=by
 unfold fv sv;obtain⟨wb,kP⟩:∃wb,wb=(w.alloc (.cells #[Ac GT 0 nt nt,Ac GC 0 nc nc,Ac GP 0 ps.length ps.length] 46)).alloc (.cells #[.map (some b),Ac H 0 hl.length hl.length] 56):=⟨_,rfl⟩;obtain⟨i0,gK,jR,ig,jy⟩:=au5 Jw;obtain⟨w1,wC,aS,bG⟩:=aA9 (P:=prog) wb wb.heap.size 54 4 i0 (.bool false) 1 underlying54 gK jR ig .i64 .i64 ps.length (by rw[jy];omega) anj (an2 _);have Jy:wb.heap.size=w.heap.size+2:=by rw[kP];simp
 have jL:w.heap.size+2<w1.heap.size:=by have h:=(aS.lt wb.heap.size rfl).2;rw[Jy]at h;exact h
 have Gn:w1.cell? (J w.heap.size 2)=some (Ac GP 0 ps.length ps.length):=bG.cell (by rw[kP];simp[go_sem]) R;have oI:w1.cell? (J (w.heap.size+1) 0)=some (.map (some b)):=bG.cell (by rw[kP];simp[go_sem]) R;have su:w1.cell? (J (w.heap.size+1) 1)=some (Ac H 0 hl.length hl.length):=bG.cell (by rw[kP];simp[go_sem]) R;have iD:Below w.heap.size w w1:=by
  have I:Below w.heap.size w wb:=by rw[kP];exact eY _ _ _
  exact I.trans ⟨bG.os,bG.tape,bG.output,bG.size,λj hj=>bG.block j O R⟩
 have AL:=kE.1;have hlM:=hM.lt;have hlH:=hH.1;rw[Jy]at aS;rw[kP]at wC;have HI:=F hi;have Eu:=F kE;have HWB:=F Jy;have HF:=F hf;have HCL:=F iy;have HM:=F hM;have HH:=F hH
 go_in
 go_wp2_with fail
 have rD:w1.ownsRow 0 4 1 (Ac (w.heap.size+2) 0 0 ps.length) 0 []:=fO aS (ap7 _)
 go_loopw [5,15] (λt i wr=>∃k:Nat,k<=ps.length/\i=A k/\t=Ac (w.heap.size+2) 0 k ps.length/\wr.ownsRow 0 4 1 (Ac (w.heap.size+2) 0 k ps.length) k (((gV cl hl ps).take k).map Value.bool)/\Ag w wr/\wr.cell? (J (w.heap.size+1) 0)=some (.map (some b))/\wr.cell? (J (w.heap.size+1) 1)=some (Ac H 0 hl.length hl.length)) (λ_ i _=>ps.length-(intOf i).toNat)
 case atStart=>exact⟨0,ap7 _,rfl,rfl,rD,iD,oI,su⟩
 case round=>
  obtain⟨k,hk,rfl,rfl,Az,hb,nN,mM⟩:=hrel;by_cases hlt:k<ps.length
  ·have iF:(k:Int)<(ps.length:Int):=O;obtain⟨c0,c1,c2⟩:=((Z Eu).below hb AL).2 k hlt;have gX:k+1<=ps.length:=hlt;have EK:w.heap.size+2<wr.heap.size:=(Az.lt (w.heap.size+2) rfl).2;have TK:((gV cl hl ps).take k).length=k:=(by rw[ar1,au.jW];omega);have iq:fQ nt hl.length ((gV cl hl ps).take k).length ps[k]:=(by rw[TK];exact(Z HI).ok k hlt);have hpt:Hid (∀W2:World,wr.grownBy W2 none->Calls prog 79 #[pv ps[k],sv b H hl.length,Ac (w.heap.size+2) 0 k ps.length] W2 λe w'=>e=.returned (.bool (tV cl hl ((gV cl hl ps).take k) ps[k]))/\W2.grownBy w' none):=λW2 h=>by
    have hB:eP W2 (w.heap.size+2) ((gV cl hl ps).take k):=by
     refine⟨ap2 EK h.size,λi hi=>?_⟩;have pI:i<k:=O;have e:=(Az.kept h (Or.inr (by simp[Value.ownBlock]))).cellAt i O;rw[e];rw[as1,an3 hi];rfl
    have rQ:Below w.heap.size w W2:=hb.grown h hb.size (λk e=>by cases e);have hc:=ZP b H ps.length (w.heap.size+2) nt c ps[k] cl hl ((gV cl hl ps).take k) f W2 iq O (Z HF) (Z HCL) ((Z HM).kept (rQ.block b hlM)) ((Z HH).same (rQ.block H hlH)) hB;rw[TK]at hc;exact hc.mono λe w' ⟨I,M⟩=>⟨I,⟨M.os,M.tape,M.output,M.size,λq hq _=>M.block q hq⟩⟩
   have VR:((gV cl hl ps).take (k+1)).map Value.bool=((gV cl hl ps).take k).map Value.bool++[.bool (tV cl hl ((gV cl hl ps).take k) ps[k])]:=(by rw[ace (Z HI) hlt,au0];rfl);have Y5:=F VR;have MF:Hid (∀W2:World,wr.grownBy W2 none->W2.ownsRow 0 4 1 (Ac (w.heap.size+2) 0 k ps.length) k (((gV cl hl ps).take k).map Value.bool)):=λW2 h=>Az.kept h (Or.inr (by simp[Value.ownBlock]));generalize tV cl hl ((gV cl hl ps).take k) ps[k]=bn at Y5 hpt;generalize ps[k]=key at c0 c1 c2 hpt;obtain⟨kl,kf,ks⟩:=key;simp only at c0 c1 c2;unfold pv sv at hpt;simp only at hpt;have hy1:(wr.alloc (.cells #[Ae kl,A kf,A ks] 82)).cell? (J (w.heap.size+1) 0)=some (.map (some b)):=(an1 _ _ none).cell nN R;have hy2:(wr.alloc (.cells #[Ae kl,A kf,A ks] 82)).cell? (J (w.heap.size+1) 1)=some (Ac H 0 hl.length hl.length):=(an1 _ _ none).cell mM R;have fK:wr.grownBy (wr.alloc (.cells #[Ae kl,A kf,A ks] 82)) none:=an1 _ _ none
   go_wp2_with fail
   refine(Z hpt _ fK).mono ?_;rintro e w3 ⟨rfl,dY⟩;have mP:wr.grownBy w3 none:=fK.trans dY
   go_wp2_with (refine wpList_append_fits _ rfl (.tmp 19) (.tmp 24) 54 rfl 0 4 i0 1 underlying54 gK ig _ _ _ _ rfl (Z MF _ (mP.trans (an1 _ _ none))) _ 1 1 [.bool bn] rfl rfl (Dx _ _ _ _ rfl) (ae0 _) gX ?_;intro w4 r1 r2)
   have AO:=mP.trans (an1 w3 (.cells #[.bool bn] 4) none);exact⟨⟨k+1,gX,by go_num,rfl,by rw[Z Y5];exact r1,oM hb AO r2 O,r2.cell (AO.cell nN R) R,r2.cell (AO.cell mM R) R⟩,by simp[intOf];omega⟩
  ·have gW:k=ps.length:=O;subst gW;have iF:¬(ps.length:Int)<(ps.length:Int):=O;have hcn:wr.cell? ⟨w.heap.size+2,ps.length-1,none⟩=some (.bool ((gV cl hl ps).getD (ps.length-1) false)):=by
    rw[Az.cellAt (ps.length-1) O];have:ps.length-1<(gV cl hl ps).length:=(by rw[au.jW];omega);rw[aq5 (by rw[au.jW];exact an2 _),as1,ao0,an3 this];rfl
   have hdi:((ps.length:Int)-1)=((ps.length-1:Nat):Int):=O;have aha:((ps.length-1:Nat):Int)<(ps.length:Int):=O;obtain⟨bn,Gq⟩:∃bn,(gV cl hl ps).getD (ps.length-1) false=bn:=⟨_,rfl⟩;rw[Gq]at hcn;have HBN:=F Gq
   go_wp2_with fail
   go_ret
   refine⟨?_,hb⟩;have Gq:=Z HBN;rw[ao0]at Gq;simp[Gq]
end
section
open Go.RowKit Go.Maps Go.WideMaps
open au (Key put fQ tV jn aB gV bJ)
def isM(f:Nat->Nat)(Y:Ai)(cs:Ah)(ps:Ai)(cl:List Int)(hl:List Bool):Bool:=
 decide (∀p∈bI (mkd f Y) Y.length,f p.1=f p.2)&&decide (∀p∈bI (BA f cs) cs.length,hl.getD p.1 false=hl.getD p.2 false)&&(gV cl hl ps).getD (ps.length-1) false
def aew(GT GC GP nt nc np b H nh n:Nat)(W:World):Prop:=
 W.cell? (J n 0)=some (Ac GT 0 nt nt)/\W.cell? (J n 1)=some (Ac GC 0 nc nc)/\W.cell? (J n 2)=some (Ac GP 0 np np)/\W.cell? (J (n+1) 0)=some (.map (some b))/\W.cell? (J (n+1) 1)=some (Ac H 0 nh nh)
theorem aew.step{GT GC GP nt nc np b H nh n:Nat}{W W':World}(k:aew GT GC GP nt nc np b H nh n W)(hs:n+1<W.heap.size)(h:Below W.heap.size W W'):aew GT GC GP nt nc np b H nh n W':=
 ⟨(h.cell (p:=(J n 0)) (by show n<_;omega)).trans k.1,(h.cell (p:=(J n 1)) (by show n<_;omega)).trans k.2.1,(h.cell (p:=(J n 2)) (by show n<_;omega)).trans k.2.2.1,(h.cell (p:=(J (n+1) 0)) hs).trans k.2.2.2.1,(h.cell (p:=(J (n+1) 1)) hs).trans k.2.2.2.2⟩
theorem Sl(GT GC GP b c H:Nat)(f:Nat->Nat)(Y:Ai)(cs:Ah)(ps:Ai)(cl:List Int)(hl:List Bool)(w:World)(h7:Y.length<=7)(h4:cs.length<=4)(I:0<ps.length)(adG:ps.length<=100)(hlh:hl.length=cs.length)
 (kE:dS w GT Y)(AA:gZ w GC cs)(Qj:dS w GP ps)(NV:au.Inv Y)(Bd:∀x∈cs,(x.1=80\/x.1=81)/\x.2<Y.length)(qj:bJ Y.length cs.length ps)(hf:∀i,i<Y.length->f i<=i/\f (f i)=f i)(iy:∀i j,i<Y.length->j<Y.length->(f i=f j↔cl.getD i 0=cl.getD j 0))(hM:gY w b f Y.length c)(hH:eP w H hl) :
  Calls prog 21 #[fv GT GC GP Y.length cs.length ps.length,sv b H hl.length] w λe w'=>e=.returned (.bool (isM f Y cs ps cl hl))/\Ag w w':=by
 have hA:Hid (∀W:World,Below w.heap.size w W->Calls prog 33 #[fv GT GC GP Y.length cs.length ps.length,.map (some b)] W λe w'=>e=.returned (.bool (decide (∀p∈bI (mkd f Y) Y.length,f p.1=f p.2)))/\Ag W w'):=λW h=>
  tN GT GC GP cs.length ps.length b c f Y W h7 (kE.below h kE.1) NV (λi h=>Nat.lt_of_le_of_lt (hf i h).1 h) (kM.of (hM.kept (h.block b hM.lt)) hf)
 have hB:Hid (∀W:World,Below w.heap.size w W->Calls prog 34 #[fv GT GC GP Y.length cs.length ps.length,sv b H hl.length] W λe w'=>e=.returned (.bool (decide (∀p∈bI (BA f cs) cs.length,hl.getD p.1 false=hl.getD p.2 false)))/\Ag W w'):=λW h=>
  KL GT GC GP Y.length ps.length b c H f cs hl W h4 h7 hlh (AA.below h AA.1) Bd hf (hM.kept (h.block b hM.lt)) (hH.same (h.block H hH.1))
 have hC:Hid (∀W:World,Below w.heap.size w W->Calls prog 35 #[fv GT GC GP Y.length cs.length ps.length,sv b H hl.length] W λe w'=>e=.returned (.bool ((gV cl hl ps).getD (ps.length-1) false))/\Ag W w'):=λW h=>
  Jv GT GC GP Y.length cs.length b c H f ps cl hl W I adG h7 (Qj.below h Qj.1) (by rw[hlh];exact qj) hf iy (hM.kept (h.block b hM.lt)) (hH.same (h.block H hH.1))
 unfold isM;generalize decide (∀p∈bI (mkd f Y) Y.length,f p.1=f p.2)=b1 at hA ⊢;generalize decide (∀p∈bI (BA f cs) cs.length,hl.getD p.1 false=hl.getD p.2 false)=b2 at hB ⊢;generalize (gV cl hl ps).getD (ps.length-1) false=b3 at hC ⊢;generalize Y.length=nt at *;generalize cs.length=nc at *;generalize ps.length=np at *;generalize hl.length=nh at *;clear kE AA Qj NV Bd qj hf iy hM hH;unfold fv sv at *;have HLH:=F hlh;clear hlh;have hAl:∃wa,(w.alloc (.cells #[Ac GT 0 nt nt,Ac GC 0 nc nc,Ac GP 0 np np] 46)).alloc (.cells #[.map (some b),Ac H 0 nh nh] 56)=wa:=⟨_,rfl⟩;obtain⟨wa,hwa⟩:=hAl;have hba:Below w.heap.size w wa:=by rw[<-hwa];exact eY _ _ _
 have hsa:wa.heap.size=w.heap.size+2:=by rw[<-hwa];simp
 have ka:aew GT GC GP nt nc np b H nh w.heap.size wa:=by
  rw[<-hwa];exact⟨by simp[go_sem],by simp[go_sem],by simp[go_sem],by simp[go_sem],by simp[go_sem]⟩
 have eH:w.heap.size+1<wa.heap.size:=O
 have HWA:=F hwa;have KA':=F ka;have HSA:=F hsa;have xF:=F eH;clear eH hsa hwa ka
 go_in
 go_wp2_with fail
 rw[Z HWA];refine(Z hA _ hba).mono ?_;rintro e w1 ⟨rfl,iD⟩;have k1:=(Z KA').step (Z xF) iD;have oI:wa.heap.size<=w1.heap.size:=iD.size;have ahw:Below w.heap.size w w1:=hba.trans ⟨iD.os,iD.tape,iD.output,iD.size,λj hj=>iD.block j (by have:=Z HSA;omega)⟩;obtain⟨p1,p2,p3,p4,p5⟩:=k1;cases b1
 ·go_wp2_with fail
  go_ret
  exact⟨R,ahw⟩
 go_wp2_with fail
 refine(Z hB _ ahw).mono ?_;rintro e w2 ⟨rfl,fF⟩;have k2:=aew.step (W:=w1) ⟨p1,p2,p3,p4,p5⟩ (ap2 (Z xF) oI) fF;have su:wa.heap.size<=w2.heap.size:=ap3 oI fF.size;have ahv:Below w.heap.size w w2:=ahw.trans ⟨fF.os,fF.tape,fF.output,fF.size,λj hj=>fF.block j (by have:=Z HSA;omega)⟩;obtain⟨r1,r2,r3,r4,r5⟩:=k2;cases b2
 ·go_wp2_with fail
  go_ret
  exact⟨R,ahv⟩
 go_wp2_with fail
 refine(Z hC _ ahv).mono ?_;rintro e w3 ⟨rfl,iR⟩;have alO:Below w.heap.size w w3:=ahv.trans ⟨iR.os,iR.tape,iR.output,iR.size,λj hj=>iR.block j (by have:=Z HSA;omega)⟩
 go_wp2_with fail
 go_ret
 exact⟨R,alO⟩
end
open au (Key Inv kD texts rend dH lQ Bal inn qg zL)
theorem QE{Y:Ai}(h:Inv Y){x:Nat}(hx:x<Y.length):(texts Y).getD x []≠[]:=by
 rw[h.get x hx];obtain⟨c,e,_⟩|⟨_,_,e⟩|⟨_,_,_,e⟩:=au.nG (T:=texts Y) (h.key x hx)<;>rw[e]<;>simp
theorem MZ{Y:Ai}(h:Inv Y){x:Nat}(hx:x<Y.length):(texts Y).idxOf ((texts Y).getD x [])=x:=by
 have hx':x<(texts Y).length:=by rw[au.aO];exact hx
 have e:(texts Y).getD x []=(texts Y)[x]:=by rw[ao0,an3 hx'];rfl
 rw[e];have hm:(texts Y)[x]∈texts Y:=an5 hx';have hlt:(texts Y).idxOf (texts Y)[x]<(texts Y).length:=ar0 hm;have he:(texts Y)[(texts Y).idxOf (texts Y)[x]]=(texts Y)[x]:=ar8 hlt;have hp:=av4.1 h.nd;obtain I|I|I:=Nat.lt_trichotomy ((texts Y).idxOf (texts Y)[x]) x
 ·exact absurd he (hp _ _ hlt hx' I)
 ·exact I
 ·exact absurd he.symm (hp _ _ hx' hlt I)
theorem PE{Y:Ai}(h:Inv Y)(cl:List Int){x y:Nat}(hx:x<Y.length)(hy:y<Y.length):Qs (texts Y) cl ((texts Y).getD x []) ((texts Y).getD y [])=decide (cl.getD x 0=cl.getD y 0):=by
 unfold Qs;rw[an8 (by intro e;obtain e|e:=e;exact QE h hx e;exact QE h hy e),MZ h hx,MZ h hy]
theorem afv(T:List (List UInt8))(cl:List Int):Qs T cl [] []=true:=by unfold Qs;simp
theorem Um{Y:Ai}(h:Inv Y){cl:List Int}{f:Nat->Nat}(iy:∀i j,i<Y.length->j<Y.length->(f i=f j↔cl.getD i 0=cl.getD j 0)){i k:Nat}(hi:i<Y.length)(hk:k<Y.length) :
  Hf (texts Y) cl i k=true↔(Y[i].1=Y[k].1/\f Y[i].2.1=f Y[k].2.1/\f Y[i].2.2=f Y[k].2.2)/\f i≠f k:=by
 unfold Hf;rw[h.get i hi,h.get k hk];have k1:=h.key i hi;have k2:=h.key k hk;have b:∀x,x<Y.length->Bal ((texts Y).getD x []):=λx hx=>h.bal (x+1) x O hx;have bg:f i≠f k↔cl.getD i 0≠cl.getD k 0:=not_congr (iy i k hi hk);obtain⟨a1,a2,a3,a4⟩|⟨a1,a2,a3⟩|⟨a1,a2,a3⟩:=k1
 ·have e1:rend (texts Y) Y[i]=[UInt8.ofNat Y[i].1.toNat]:=by unfold rend;rw[an8 O,an8 O]
  rw[e1];constructor
  ·intro e;simp at e
  ·rintro⟨⟨q1,_,_⟩,q4⟩;exfalso;obtain⟨c1,c2,c3,c4⟩|⟨c1,c2,c3⟩|⟨c1,c2,c3⟩:=k2
   ·apply q4;have he:Y[i]=Y[k]:=Prod.ext q1 (Prod.ext O O);have hp:=av4.1 h.nodup;obtain I|I|I:=Nat.lt_trichotomy i k
    ·exact absurd he (hp _ _ hi hk I)
    ·rw[I]
    ·exact absurd he.symm (hp _ _ hk hi I)
   ·omega
   ·omega
 ·have e1:rend (texts Y) Y[i]=102::40::((texts Y).getD Y[i].2.1 []++[41]):=by unfold rend;rw[ao4 a1]
  rw[e1];obtain⟨c1,c2,c3,c4⟩|⟨c1,c2,c3⟩|⟨c1,c2,c3⟩:=k2
  ·have e2:rend (texts Y) Y[k]=[UInt8.ofNat Y[k].1.toNat]:=(by unfold rend;rw[an8 O,an8 O]);rw[e2];constructor
   ·intro e;simp at e
   ·rintro⟨⟨q1,_,_⟩,_⟩;omega
  ·have e2:rend (texts Y) Y[k]=102::40::((texts Y).getD Y[k].2.1 []++[41]):=(by unfold rend;rw[ao4 c1]);rw[e2,qg (b _ O),qg (b _ O),afv,PE h cl O O,bg,iy _ _ O O,a1,c1,a3,c3];simp[and_comm]
  ·have e2:rend (texts Y) Y[k]=103::40::((texts Y).getD Y[k].2.1 []++44::((texts Y).getD Y[k].2.2 []++[41])):=(by unfold rend;rw[an8 O,ao4 c1]);rw[e2];constructor
   ·intro e;simp at e
   ·rintro⟨⟨q1,_,_⟩,_⟩;omega
 ·have e1:rend (texts Y) Y[i]=103::40::((texts Y).getD Y[i].2.1 []++44::((texts Y).getD Y[i].2.2 []++[41])):=by unfold rend;rw[an8 O,ao4 a1]
  rw[e1];obtain⟨c1,c2,c3,c4⟩|⟨c1,c2,c3⟩|⟨c1,c2,c3⟩:=k2
  ·have e2:rend (texts Y) Y[k]=[UInt8.ofNat Y[k].1.toNat]:=(by unfold rend;rw[an8 O,an8 O]);rw[e2];constructor
   ·intro e;simp at e
   ·rintro⟨⟨q1,_,_⟩,_⟩;omega
  ·have e2:rend (texts Y) Y[k]=102::40::((texts Y).getD Y[k].2.1 []++[41]):=(by unfold rend;rw[ao4 c1]);rw[e2];constructor
   ·intro e;simp at e
   ·rintro⟨⟨q1,_,_⟩,_⟩;omega
  ·have e2:rend (texts Y) Y[k]=103::40::((texts Y).getD Y[k].2.1 []++44::((texts Y).getD Y[k].2.2 []++[41])):=(by unfold rend;rw[an8 O,ao4 c1]);rw[e2,zL (b _ O),zL (b _ O),PE h cl O O,PE h cl O O,bg,iy _ _ O O,iy _ _ O O,a1,c1];simp[and_comm,and_assoc]
end Go.Proofs.YthcppbmkacbbiabGreat
