import Derived.Test.YthcppbmkacbbiabGreatVAG
import Derived.Test.YthcppbmkacbbiabGreatVAJ
import Derived.Test.YthcppbmkacbbiabGreatVAL
import Derived.Test.YthcppbmkacbbiabGreatVAM
import Derived.Test.YthcppbmkacbbiabGreatVAD
set_option linter.unusedSimpArgs false
set_option maxHeartbeats 2000000
set_option maxRecDepth 100000
namespace Go.Proofs.YthcppbmkacbbiabGreat
open Go.Proofs.Tryz
open Go.RowKit Go.Maps Go.WideMaps
section
open au (Key put RT Lp RF RP RQ)
def start(w:World)(s:ByteArray):World:=
 ((((w.alloc (.cells #[.slice none 0 0,.slice none 0 0,.slice none 0 0] 46)).alloc (.map #[] 0)).alloc (.map #[] 0)).alloc (.map #[] 0)).alloc (.cells #[.string s,A 0,A 0,A 0,.map (some (w.heap.size+1)),.map (some (w.heap.size+1+1)),.map (some (w.heap.size+1+1+1))] 71)
theorem vK(w:World)(s:ByteArray):(start w s).heap.size=w.heap.size+5:=by simp[start]
theorem lF(w:World)(s:ByteArray)(i:Nat):(start w s).cell? (J (w.heap.size+1+1+1+1) i)=#[Value.string s,A 0,A 0,A 0,.map (some (w.heap.size+1)),.map (some (w.heap.size+1+1)),.map (some (w.heap.size+1+1+1))][i]?:=
 az4 _ _ _ _ R
theorem vM(w:World)(s:ByteArray)(i:Nat):(start w s).frozen? (J (w.heap.size+1+1+1+1) i)=false:=
 World.frozen?_alloc_at _ _ _ _ R
theorem CY(w:World)(s:ByteArray):CI (start w s) (w.heap.size+1+1+1+1) (w.heap.size+1) (w.heap.size+1+1) (w.heap.size+1+1+1) s 0 0 [] [] [] where
 c0:=lF w s 0
 c1:=lF w s 1
 c2:=lF w s 2
 c3:=lF w s 3
 c4:=lF w s 4
 c5:=lF w s 5
 c6:=lF w s 6
 f1:=vM w s 1
 f2:=vM w s 2
 f3:=vM w s 3
 mt:=by
  have h:=nK (w.alloc (.cells #[.slice none 0 0,.slice none 0 0,.slice none 0 0] 46)) 76 bZ;have e:(w.alloc (.cells #[.slice none 0 0,.slice none 0 0,.slice none 0 0] 46)).heap.size=w.heap.size+1:=R
  rw[e]at h;exact h.kept (by unfold start;rw[ao3 _ _ _ R,ao3 _ _ _ R,ao3 _ _ _ R])
 mc:=by
  have h:=nK ((w.alloc (.cells #[.slice none 0 0,.slice none 0 0,.slice none 0 0] 46)).alloc (.map #[] 0)) 79 mZ;have e:((w.alloc (.cells #[.slice none 0 0,.slice none 0 0,.slice none 0 0] 46)).alloc (.map #[] 0)).heap.size=w.heap.size+1+1:=R
  rw[e]at h;exact h.kept (by unfold start;rw[ao3 _ _ _ R,ao3 _ _ _ R])
 mp:=by
  have h:=nK (((w.alloc (.cells #[.slice none 0 0,.slice none 0 0,.slice none 0 0] 46)).alloc (.map #[] 0)).alloc (.map #[] 0)) 82 bZ;have e:(((w.alloc (.cells #[.slice none 0 0,.slice none 0 0,.slice none 0 0] 46)).alloc (.map #[] 0)).alloc (.map #[] 0)).heap.size=w.heap.size+1+1+1:=R
  rw[e]at h;exact h.kept (by unfold start;rw[ao3 _ _ _ R])
 nT:=O
 nC:=O
 nn:=O
 nP:=O
 nTP:=O
 nCP:=O
theorem QH(w:World)(s:ByteArray):Below w.heap.size w (start w s):=
 (((((aq1 _ _).alloc (an2 _) _).alloc R _).alloc anf _).alloc anf _).alloc anf _
theorem Zn(w:World)(s:ByteArray)(i:Nat):(start w s).cell? (J w.heap.size i)=#[Value.slice none 0 0,.slice none 0 0,.slice none 0 0][i]?:=by
 unfold start;rw[World.cell?_alloc_past _ _ _ anf,World.cell?_alloc_past _ _ _ anf,World.cell?_alloc_past _ _ _ anf,World.cell?_alloc_past _ _ _ R];exact az4 _ _ _ _ rfl
theorem U7(w:World)(s:ByteArray)(i:Nat):(start w s).frozen? (J w.heap.size i)=false:=by
 unfold start;rw[World.frozen?_alloc_past _ _ _ anf,World.frozen?_alloc_past _ _ _ anf,World.frozen?_alloc_past _ _ _ anf,World.frozen?_alloc_past _ _ _ R];exact World.frozen?_alloc_at _ _ _ _ rfl
abbrev KpS(w:World)(a b:World):Prop:=Kp (w.heap.size+1+1+1+1) (w.heap.size+1) (w.heap.size+1+1) (w.heap.size+1+1+1) a b
theorem jv{w w1:World}{s:ByteArray}(k:KpS w (start w s) w1)(i:Nat):w1.cell? (J w.heap.size i)=#[Value.slice none 0 0,.slice none 0 0,.slice none 0 0][i]?:=by
 rw[k.cell (by rw[vK];omega) O O O O];exact Zn w s i
theorem gq{w w1:World}{s:ByteArray}(k:KpS w (start w s) w1)(i:Nat):w1.frozen? (J w.heap.size i)=false:=by
 rw[k.frozen (by rw[vK];omega) O O O O];exact U7 w s i
theorem uj{w w1:World}{s:ByteArray}(k:KpS w (start w s) w1):Below w.heap.size w w1:=
 (QH w s).trans (k.below (by rw[vK];omega) O O O O)
structure FR(w:World)(base GT GC GP:Nat)(Y:Ai)(cs:Ah)(ps:Ai):Prop where
 t:w.ownsRow base 76 3 (Ac GT 0 Y.length Y.length) Y.length (Y.flatMap mY)
 c:w.ownsRow base 79 2 (Ac GC 0 cs.length cs.length) cs.length (cs.flatMap tK)
 p:w.ownsRow base 82 3 (Ac GP 0 ps.length ps.length) ps.length (ps.flatMap mY)
def fv(GT GC GP nt nc np:Nat):Value:=.agg #[Ac GT 0 nt nt,Ac GC 0 nc nc,Ac GP 0 np np]
section
variable (w:World) (s:ByteArray)
theorem Zz(hs:100<s.size)(hm:s.size<=maxLen) :
  Calls prog 17 #[.string s] w λe w'=>e=.returned (.tuple #[.agg #[.slice none 0 0,.slice none 0 0,.slice none 0 0],A 1,A 0])/\Ag w w':=by
 unfold maxLen at hm
 go_in
 go_wp2_with fail
 exact aq0 (v:=.tuple #[.agg #[.slice none 0 0,.slice none 0 0,.slice none 0 0],A 1,A 0]) (by simp[results,results17,go_sem]) rfl ⟨rfl,(aq1 _ _).alloc (an2 _) _⟩
theorem ab5(hs:s.size<=100)(E:Int)(p:Nat)(HR:Hid (au.lG (pk s) (s.size+1) 0 0 [] [] []=.error (E,p))) :
  Calls prog 17 #[.string s] w λe w'=>e=.returned (.tuple #[.agg #[.slice none 0 0,.slice none 0 0,.slice none 0 0],A E,A p])/\Ag w w':=by
 have Ii:=@aC9 prog;have hb:decide ((100:Int)<(s.size:Int))=false:=anf
 go_in
 go_wp2_with fail
 refine(oV _ _ _ _ s hs (s.size+1) (start w s) 0 0 [] [] [] O O R R R O (CY w s)).mono ?_;rw[Z HR];rintro e w1 ⟨k1,⟨z,rfl⟩,I⟩;have r0:=jv k1 0;have r1:=jv k1 1;have r2:=jv k1 2;have q0:=gq k1 0;have q1:=gq k1 1;have q2:=gq k1 2;simp at r0 r1 r2;have c1:=I.c1;have c3:=I.c3
 go_wp2_with fail
 go_region
 all_goals
  go_wp2_with fail
  refine aq0 (v:=.tuple #[.agg #[.slice none 0 0,.slice none 0 0,.slice none 0 0],A E,A p]) (by simp[results,results17,go_sem,r0,r1,r2]) rfl ⟨rfl,?_⟩;exact((((uj k1).setCell (an2 _) _).setCell (an2 _) _).setCell (an2 _) _).drew
theorem ab4(hs:s.size<=100)(a1:Nat)(Y:Ai)(cs:Ah)(ps:Ai)(m:Nat)(HR:Hid (au.lG (pk s) (s.size+1) 0 0 [] [] []=.ok (a1,Y,cs,ps,m)))(hlt:a1<s.size) :
  Calls prog 17 #[.string s] w λe w'=>e=.returned (.tuple #[.agg #[.slice none 0 0,.slice none 0 0,.slice none 0 0],A 2,A a1])/\Ag w w':=by
 have Ii:=@aC9 prog;have hb:decide ((100:Int)<(s.size:Int))=false:=anf
 go_in
 go_wp2_with fail
 refine(oV _ _ _ _ s hs (s.size+1) (start w s) 0 0 [] [] [] O O R R R O (CY w s)).mono ?_;rw[Z HR];rintro e w1 ⟨k1,rfl,I⟩
 go_wp2_with fail
 refine(ahU w1 _ _ _ _ s a1 0 Y cs ps hlt I).mono ?_;rintro e w2 ⟨rfl,M,k2⟩;have k3:=k1.trans k2;have r0:=jv k3 0;have r1:=jv k3 1;have r2:=jv k3 2;have q0:=gq k3 0;have q1:=gq k3 1;have q2:=gq k3 2;simp at r0 r1 r2;have c1:=M.c1;have c3:=M.c3
 go_wp2_with fail
 go_region
 all_goals
  go_wp2_with fail
  refine aq0 (v:=.tuple #[.agg #[.slice none 0 0,.slice none 0 0,.slice none 0 0],A 2,A a1]) (by simp[results,results17,go_sem,r0,r1,r2]) rfl ⟨rfl,?_⟩;exact((((uj k3).setCell (an2 _) _).setCell (an2 _) _).setCell (an2 _) _).drew
theorem Zy(hs:s.size<=100)(a1:Nat)(Y:Ai)(cs:Ah)(ps:Ai)(m:Nat)(HR:Hid (au.lG (pk s) (s.size+1) 0 0 [] [] []=.ok (a1,Y,cs,ps,m)))(heq:a1=s.size)(af7:7<Y.length\/4<cs.length) :
  Calls prog 17 #[.string s] w λe w'=>e=.returned (.tuple #[.agg #[.slice none 0 0,.slice none 0 0,.slice none 0 0],A 4,A 0])/\Ag w w':=by
 have Ii:=@aC9 prog;have hb:decide ((100:Int)<(s.size:Int))=false:=anf
 go_in
 go_wp2_with fail
 refine(oV _ _ _ _ s hs (s.size+1) (start w s) 0 0 [] [] [] O O R R R O (CY w s)).mono ?_;rw[Z HR];rintro e w1 ⟨k1,rfl,I⟩
 go_wp2_with fail
 refine(YS w1 _ _ _ _ s a1 0 Y cs ps heq I).mono ?_;rintro e w2 ⟨rfl,M,k2⟩;have k3:=k1.trans k2;have r0:=jv k3 0;have r1:=jv k3 1;have r2:=jv k3 2;have q0:=gq k3 0;have q1:=gq k3 1;have q2:=gq k3 2;simp at r0 r1 r2;have c4:=M.c4;have c5:=M.c5;obtain⟨D,aH,eH,aX,_⟩:=M.mt;obtain⟨D2,lT,E5,aj1,_⟩:=M.mc;have xF:=F eH;have aic:=F E5;by_cases h7:7<Y.length
 ·have hb7:decide ((7:Int)<(Maps.size D:Int))=true:=by rw[Z xF];simp;omega
  have lH:=λty=>lT.len underlying67 ty
  go_wp2_with (at_len;refine wpList_len_own _ rfl (.tmp 33) 65 rfl 76 3 underlying65 _ _ Y.length D rfl aH ?_)
  refine aq0 (v:=.tuple #[.agg #[.slice none 0 0,.slice none 0 0,.slice none 0 0],A 4,A 0]) (by simp[results,results17,go_sem,r0,r1,r2]) rfl ⟨rfl,?_⟩;exact(((uj k3).setCell (an2 _) _).setCell (an2 _) _).setCell (an2 _) _
 ·have hb7:decide ((7:Int)<(Maps.size D:Int))=false:=by rw[Z xF];simp;omega
  have sD:decide ((4:Int)<(Maps.size D2:Int))=true:=by rw[Z aic];simp;omega
  have lH:=λty=>lT.len underlying67 ty
  go_wp2_with (at_len;refine wpList_len_own _ rfl (.tmp 33) 65 rfl 76 3 underlying65 _ _ Y.length D rfl aH ?_)
  refine aq0 (v:=.tuple #[.agg #[.slice none 0 0,.slice none 0 0,.slice none 0 0],A 4,A 0]) (by simp[results,results17,go_sem,r0,r1,r2]) rfl ⟨rfl,?_⟩;exact(((uj k3).setCell (an2 _) _).setCell (an2 _) _).setCell (an2 _) _
end
end
open au (Key put)
attribute [local go_sem] Oper.semAt_some
def mkd(f:Nat->Nat)(Y:Ai):Ai:=Y.map λk=>(k.1,f k.2.1,f k.2.2)
theorem bM(f:Nat->Nat)(Y:Ai):(mkd f Y).length=Y.length:=by simp[mkd]
theorem acD(w:World)(a:Int)(b c:Nat)(t:TypeId)(n:Nat)(hn:w.heap.size=n):∀j u,(mY (a,b,c))[j]?=some u->(w.alloc (.cells #[Ae a,A b,A c] t)).cell? (((J n 0):Addr).add j)=some u:=by
 subst hn;exact Rx w a b c t
structure MG(w:World)(b:Nat)(f:Nat->Nat)(n c:Nat)(W:World):Prop where
 m:kM W b f n c
 below:Below w.heap.size w W
theorem MG.grow{w:World}{b n c:Nat}{f:Nat->Nat}{W W':World}{row:Option Nat}(h:MG w b f n c W)(hg:W.grownBy W' row)(hr:∀r,row=some r->r≠b/\w.heap.size<=r):MG w b f n c W':=
 ⟨h.m.kept (hg.block b h.m.lt (λe=>(hr b e.symm).1 rfl)),h.below.grown hg h.below.size (λk e=>(hr k e).2)⟩
theorem Rz(GT GC GP nc np b c:Nat)(f:Nat->Nat)(Y:Ai)(w:World)(hl:Y.length<=7)(kE:dS w GT Y)(hi:au.Inv Y)(hf:∀i,i<Y.length->f i<Y.length)(hM:kM w b f Y.length c) :
  Calls prog 76 #[fv GT GC GP Y.length nc np,.map (some b)] w λe w'=>∃G,e=.returned (Ac G 0 Y.length Y.length)/\w.heap.size<=G/\dS w' G (mkd f Y)/\Ag w w':=by
 refine(aq2 (n:=5)).1 ?_;unfold fv;obtain⟨wb,kP⟩:∃wb,w.alloc (.cells #[Ac GT 0 Y.length Y.length,Ac GC 0 nc nc,Ac GP 0 np np] 46)=wb:=⟨_,rfl⟩;have SA:wb.heap.size=w.heap.size+1:=by rw[<-kP];simp
 have fD:w.grownBy wb none:=by rw[<-kP];exact an1 _ _ none
 have qK:Below w.heap.size w wb:=⟨fD.os,fD.tape,fD.output,fD.size,λj hj=>fD.block j hj R⟩;have zO:wb.cell? (J w.heap.size 0)=some (Ac GT 0 Y.length Y.length):=by rw[<-kP];simp[go_sem]
 obtain⟨i0,gK,jR,ig,jy⟩:=au5 ac1;obtain⟨w1,wC,aS,bG⟩:=aA9 (P:=prog) wb wb.heap.size 42 76 i0 _ 3 underlying42 gK jR ig .i64 .i64 Y.length (by rw[jy];omega) anj (an2 _);have iD:Below w.heap.size w w1:=qK.trans ⟨bG.os,bG.tape,bG.output,bG.size,λj hj=>bG.block j O R⟩;have aaF:=hM.lt;have AL:=kE.1;have ahK:MG w b f Y.length c w1:=⟨(hM.kept (fD.block b aaF R)).kept (bG.block b O R),iD⟩;have kJ:w1.cell? (J w.heap.size 0)=some (Ac GT 0 Y.length Y.length):=bG.cell zO R;have jL:w.heap.size+1<w1.heap.size:=by have h:=(aS.lt wb.heap.size rfl).2;omega
 have HSB:=F SA;rw[SA]at aS;have ag7:Hid _:=wC;have HI:=F hi;have Eu:=F kE;have HF:=F hf;have HWB:=F kP;rw[<-kP]at wC;have ac5:(w.alloc (.cells #[Ac GT 0 Y.length Y.length,Ac GC 0 nc nc,Ac GP 0 np np] 46)).heap.size=w.heap.size+1:=R
 rw[ac5]at wC;clear ag7 kP hi kE hf SA ac5 fD zO bG hM;refine at6 func76 rfl trivial ?_ rfl;simp only[ntmps76,ao5,ao1,ap0,Nat.reduceAdd,Nat.reduceSub,an7,an6,ao6,ap9,ao8,ao7]
 gi_wp2
 have rD:w1.ownsRow 0 76 3 (Ac (w.heap.size+1) 0 0 Y.length) 0 []:=fO aS (ap7 _);clear wC aS kJ
 gi_loopw [5,15] (λt i wr=>∃k:Nat,k<=Y.length/\i=A k/\t=Ac (w.heap.size+1) 0 k Y.length/\wr.ownsRow 0 76 3 (Ac (w.heap.size+1) 0 k Y.length) k (((mkd f Y).flatMap mY).take (k*3))/\MG w b f Y.length c wr) (λ_ i _=>Y.length-(intOf i).toNat)
 case atStart=>exact⟨0,ap7 _,rfl,rfl,by rw[aB4,az5];exact rD,ahK⟩
 case round=>
  obtain⟨k,hk,rfl,rfl,Az,zN⟩:=hrel;by_cases hlt:k<Y.length
  ·have iF:(k:Int)<(Y.length:Int):=O;obtain⟨c0,c1,c2⟩:=((Z Eu).below zN.below AL).2 k hlt;have gX:k+1<=Y.length:=hlt;have aV:=(Z HI).key k hlt;have TD:Y[k].2.1<Y.length/\Y[k].2.2<Y.length:=by
    obtain⟨_,_,h3,h4⟩|⟨_,M,h3⟩|⟨_,M,h3⟩:=aV<;>omega
   have kT:=qF zU (mkd f Y) k (by rw[bM];exact hlt);have wC:(mkd f Y)[k]'(by rw[bM];exact hlt)=(Y[k].1,f Y[k].2.1,f Y[k].2.2):=(by simp[mkd]);rw[wC]at kT;have MF:Hid (∀W2:World,wr.grownBy W2 none->W2.ownsRow 0 76 3 (Ac (w.heap.size+1) 0 k Y.length) k (((mkd f Y).flatMap mY).take (k*3))):=λW2 h=>Az.kept h (Or.inr (by simp[Value.ownBlock]));have EK:w.heap.size+1<wr.heap.size:=(Az.lt (w.heap.size+1) rfl).2;have je:=F kT;have yP:=F zN;clear kT wC aV Az;generalize Y[k]=key at c0 c1 c2 TD je;obtain⟨tl,tf,tsd⟩:=key;simp only at c0 c1 c2 TD je;obtain⟨iD,fF⟩:=TD;have HF1:=F ((Z HF) tf iD);have HF2:=F ((Z HF) tsd fF);have VX:∀W2:World,wr.grownBy W2 none->Calls prog 73 #[.map (some b),A tf] W2 λe w'=>e=.returned (A (f tf))/\w'=W2:=λW2 h=>yB W2 b Y.length c f tf ((Z yP).m.kept (h.block b (Z yP).m.lt R)) iD O;have ade:∀W2:World,wr.grownBy W2 none->Calls prog 73 #[.map (some b),A tsd] W2 λe w'=>e=.returned (A (f tsd))/\w'=W2:=λW2 h=>yB W2 b Y.length c f tsd ((Z yP).m.kept (h.block b (Z yP).m.lt R)) fF O;have HO1:=F VX;have HO2:=F ade;clear VX ade zN;generalize f tf=x1 at HO1 je;generalize f tsd=x2 at HO2 je
   gi_wp2
   ·refine qE ?_;have fK:wr.grownBy (wr.alloc (.cells #[Ae tl,A tf,A tsd] 76)) none:=an1 _ _ none;obtain⟨W1,dO⟩:∃W1,wr.alloc (.cells #[Ae tl,A tf,A tsd] 76)=W1:=⟨_,rfl⟩;have aA:W1.drew.cell? (J wr.heap.size 0)=some (Ae tl)/\W1.drew.cell? (J wr.heap.size 1)=some (A tf)/\W1.drew.cell? (J wr.heap.size 2)=some (A tsd):=by
     rw[<-dO];exact⟨by simp[go_sem],by simp[go_sem],by simp[go_sem]⟩
    have bG:wr.grownBy W1.drew none:=(by rw[<-dO];exact⟨rfl,rfl,rfl,R,λj hj _=>ao3 _ _ _ hj⟩);rw[dO]at fK ⊢;clear dO;refine F5 (λW'=>W'.cell? (J wr.heap.size 0)=some (Ae tl)/\W'.cell? (J wr.heap.size 1)=some (A tf)/\W'.cell? (J wr.heap.size 2)=some (A tsd)) 15 #[false,false,false,false,false,false,false,false,false,false,false,false,false,false,false] (by kernel_rfl) rfl rfl ?_;refine tH 0 (Ac (w.heap.size+1) 0 k Y.length) (λw' hS=>?_) aA ?_
    ·obtain⟨s1,s2,s3⟩:=hS;go_simp
    simp only[aF];refine tH 1 (Aa wr.heap.size 0) (λw' hS=>?_) aA ?_
    ·obtain⟨s1,s2,s3⟩:=hS;go_simp
    simp only[aF];refine tH 2 (Ae tl) (λw' hS=>?_) aA ?_
    ·obtain⟨s1,s2,s3⟩:=hS;go_simp
    simp only[aF];refine tH 3 (.map (some b)) (λw' hS=>?_) aA ?_
    ·obtain⟨s1,s2,s3⟩:=hS;go_simp
    simp only[aF];refine tH 4 (Aa wr.heap.size 1) (λw' hS=>?_) aA ?_
    ·obtain⟨s1,s2,s3⟩:=hS;go_simp
    simp only[aF];refine tH 5 (A tf) (λw' hS=>?_) aA ?_
    ·obtain⟨s1,s2,s3⟩:=hS;go_simp
    simp only[aF];refine tH 7 (.map (some b)) (λw' hS=>?_) aA ?_
    ·obtain⟨s1,s2,s3⟩:=hS;go_simp
    simp only[aF];refine tH 8 (Aa wr.heap.size 2) (λw' hS=>?_) aA ?_
    ·obtain⟨s1,s2,s3⟩:=hS;go_simp
    simp only[aF];refine tH 9 (A tsd) (λw' hS=>?_) aA ?_
    ·obtain⟨s1,s2,s3⟩:=hS;go_simp
    simp only[aF];have wK:Hid (∀W':World,W1.drew.grownBy W' none->W'.cell? (J wr.heap.size 0)=some (Ae tl)/\W'.cell? (J wr.heap.size 1)=some (A tf)/\W'.cell? (J wr.heap.size 2)=some (A tsd)):=λW' hg=>⟨hg.cell aA.1 R,hg.cell aA.2.1 R,hg.cell aA.2.2 R⟩;refine oH 6 (λK hK=>?_);go_simp;refine(Z HO1 _ bG).mono ?_;rintro e w2 ⟨rfl,rfl⟩;refine hK.out _ _ aA ?_;clear hK K;refine oH 10 (λK hK=>?_);go_simp;refine(Z HO2 _ bG).mono ?_;rintro e w2 ⟨rfl,rfl⟩;refine hK.out _ _ aA ?_;clear hK K;refine oH 11 (λK hK=>?_);go_simp;refine hK.out _ _ aA ?_;clear hK K;refine oH 12 (λK hK=>?_);go_simp;have mP:W1.drew.grownBy (W1.drew.alloc (.cells #[Ae tl,A x1,A x2] 76)) none:=an1 _ _ none;refine hK.out _ _ (Z wK _ mP) ?_;clear hK K;have AO:=bG.trans mP;refine oH 13 (λK hK=>?_);refine zq (.tmp 19) (.tmp 31) 42 rfl 0 76 i0 3 underlying42 gK ig _ _ _ _ rfl (Z MF _ AO) _ 1 1 (mY (tl,x1,x2)) rfl rfl (acD _ _ _ _ _ _ rfl) (Vw _) gX ?_;intro w4 r1 r2;have q0:=Z wK _ mP;have bg:wr.heap.size≠w.heap.size+1:=O;have hS4:w4.cell? (J wr.heap.size 0)=some (Ae tl)/\w4.cell? (J wr.heap.size 1)=some (A tf)/\w4.cell? (J wr.heap.size 2)=some (A tsd):=⟨r2.cell q0.1 (by simpa using bg),r2.cell q0.2.1 (by simpa using bg),r2.cell q0.2.2 (by simpa using bg)⟩;refine hK.out _ _ hS4 ?_;clear hK K;refine oH 14 (λK hK=>?_);go_simp;refine hK.out _ _ hS4 (ar2 (by kernel_rfl) ⟨rfl,?_⟩ _);clear hK K
    gi_wp2
    exact⟨⟨k+1,gX,by go_num,rfl,by rw[Z je];exact r1,((Z yP).grow AO (λr e=>by cases e)).grow r2 (λr e=>by cases e;exact⟨O,O⟩)⟩,by simp[intOf];omega⟩
  ·have gW:k=Y.length:=O;have iF:¬(k:Int)<(Y.length:Int):=O;subst gW;have hfl:((mkd f Y).flatMap mY).take (Y.length*3)=(mkd f Y).flatMap mY:=aq5 (by rw[uT zU,bM];exact an2 _);rw[hfl]at Az;have SB:dS wr (w.heap.size+1) (mkd f Y):=by
    refine⟨(Az.lt (w.heap.size+1) rfl).2,λi hi=>?_⟩;have pI:i<Y.length:=(by rw[bM]at hi;exact hi);have Gm:∀c,c<3->wr.cell? ⟨w.heap.size+1,i*3+c,none⟩=(mY (mkd f Y)[i])[c]?:=λc hc=>by
     rw[Az.cellAt (i*3+c) O];exact flat_get (k:=3) (λ_=>rfl) ane (mkd f Y) i hi c hc
    exact⟨Gm 0 ane,Gm 1 ane,Gm 2 ane⟩
   have JQ:=zN.below;clear hfl Az zN
   gi_wp2
   refine⟨_,ay0 rfl _ _ _,w.heap.size+1,rfl,O,SB,JQ⟩
structure CG(w:World)(X1 X2 b:Nat)(f:Nat->Nat)(n c:Nat)(v:Bool)(W:World):Prop where
 x1:W.cell? (J X1 0)=some (.map (some b))
 x2:W.cell? (J X2 0)=some (.bool v)
 f2:W.frozen? (J X2 0)=false
 m:kM W b f n c
 below:Below w.heap.size w W
theorem CG.keep{w:World}{X1 X2 b n c:Nat}{f:Nat->Nat}{v:Bool}{W W':World}{row:Option Nat}{B:Nat}(h:CG w X1 X2 b f n c v W)(hg:W.grownBy W' row)(hb:b<B)(hw:w.heap.size<=B)
 (hr:∀r,row=some r->B<=r/\∃o:Obj,W.heap[r]?=some o/\o.isCells=false):CG w X1 X2 b f n c v W':=by
 have ng:∀r,row=some r->∃o:Obj,W.heap[r]?=some o/\o.isCells=false:=λr e=>(hr r e).2;exact⟨dB h.x1 hg ng,dB h.x2 hg ng,(rW h.x2 hg ng).trans h.f2,h.m.kept (hg.block _ h.m.lt (λe=>by have:=(hr b e.symm).1;omega)),ownFrom_below (β:=Unit) (an2 _) hw () W W' row h.below hg hr⟩
theorem CG.grow{w:World}{X1 X2 b n c:Nat}{f:Nat->Nat}{v:Bool}{W W':World}{row:Option Nat}(h:CG w X1 X2 b f n c v W)(hg:W.grownBy W' row)(hr:∀r,row=some r->r≠X1/\r≠X2/\r≠b/\w.heap.size<=r):CG w X1 X2 b f n c v W':=
 ⟨hg.cell h.x1 (λe=>(hr X1 e.symm).1 rfl),hg.cell h.x2 (λe=>(hr X2 e.symm).2.1 rfl),(ar5 (hg.block X2 (an4 W _ h.x2) (λe=>(hr X2 e.symm).2.1 rfl))).trans h.f2,
  h.m.kept (hg.block b h.m.lt (λe=>(hr b e.symm).2.2.1 rfl)),h.below.grown hg h.below.size (λk e=>(hr k e).2.2.2)⟩
theorem CG.set{w:World}{X1 X2 b n c:Nat}{f:Nat->Nat}{v:Bool}{W:World}(h:CG w X1 X2 b f n c v W)(v':Bool)(I:X1≠X2)(M:b≠X2)(h3:w.heap.size<=X2):CG w X1 X2 b f n c v' (W.setCell (J X2 0) (.bool v')):=
 ⟨(an9 (ao9 _ _ _ _ I)).trans h.x1,bH _ h.x2,by rw[aw2];exact h.f2,h.m.kept (ao9 _ _ _ _ M),h.below.setCell h3 _⟩
theorem tN(GT GC GP nc np b c:Nat)(f:Nat->Nat)(Y:Ai)(w:World)(hl:Y.length<=7)(kE:dS w GT Y)(hi:au.Inv Y)(hf:∀i,i<Y.length->f i<Y.length)(hM:kM w b f Y.length c) :
  Calls prog 33 #[fv GT GC GP Y.length nc np,.map (some b)] w λe w'=>e=.returned (.bool (decide (∀p∈bI (mkd f Y) Y.length,f p.1=f p.2)))/\Ag w w':=by
 refine(aq2 (n:=5)).1 ?_;have HMD:Hid (∀W:World,Below w.heap.size w W->Calls prog 76 #[fv GT GC GP Y.length nc np,.map (some b)] W λe w'=>∃G,e=.returned (Ac G 0 Y.length Y.length)/\W.heap.size<=G/\dS w' G (mkd f Y)/\Ag W w'):=λW h=>
  Rz GT GC GP nc np b c f Y W hl (kE.below h kE.1) hi hf (hM.kept (h.block b hM.lt))
 unfold fv at HMD ⊢;refine at6 func33 rfl trivial ?_ rfl;simp only[ntmps33,ao5,ao1,ap0,Nat.reduceAdd,Nat.reduceSub,an7,an6,ao6,ap9,ao8,ao7]
 gi_wp2
 obtain⟨wb,kP⟩:∃wb,((w.alloc (.cells #[Ac GT 0 Y.length Y.length,Ac GC 0 nc nc,Ac GP 0 np np] 46)).alloc (.cells #[.map (some b)] 53)).alloc (.cells #[.bool false] 4)=wb:=⟨_,rfl⟩;have SA:wb.heap.size=w.heap.size+3:=by rw[<-kP];simp
 have fD:w.grownBy wb none:=by rw[<-kP];exact((an1 _ _ none).trans (an1 _ _ none)).trans (an1 _ _ none)
 have qK:Below w.heap.size w wb:=⟨fD.os,fD.tape,fD.output,fD.size,λj hj=>fD.block j hj R⟩;have Gn:wb.cell? (J (w.heap.size+1) 0)=some (.map (some b)):=by rw[<-kP];simp[go_sem]
 have Fh:wb.cell? (J (w.heap.size+1+1) 0)=some (.bool false):=by rw[<-kP];simp[go_sem]
 have tX:wb.frozen? (J (w.heap.size+1+1) 0)=false:=by rw[<-kP];simp[go_sem]
 have aaF:=hM.lt;have alK:CG w (w.heap.size+1) (w.heap.size+1+1) b f Y.length c false wb:=⟨Gn,Fh,tX,hM.kept (fD.block b aaF R),qK⟩;rw[kP];have ak9:w.heap.size+3<=wb.heap.size:=O
 have HI:=F hi;have HF:=F hf;refine⟨trivial,(aq2.2 (Z HMD wb qK)).mono ?_⟩;rintro e wr ⟨G,rfl,alY,SB,iD⟩;have jS:wb.grownBy wr none:=⟨iD.os,iD.tape,iD.output,iD.size,λj hj _=>iD.block j hj⟩;have zN:=alK.grow jS (λr e=>by cases e);have uG:wb.heap.size<=wr.heap.size:=iD.size;have Bl:=F SB;have yP:=F zN;have hbe:=F qK
 gi_wp2
 refine⟨trivial,(aq2.2 (KI (some (J G 0)) Y.length Y.length wr)).mono ?_⟩;rintro e w2 ⟨rfl,rfl⟩
 gi_wp2
 obtain⟨w2,eu⟩:∃w2,wr.alloc (.cells #[Ac G 0 Y.length Y.length] 42)=w2:=⟨_,rfl⟩;have dh:wr.grownBy w2 none:=by rw[<-eu];exact an1 _ _ none
 have su:w2.heap.size=wr.heap.size+1:=by rw[<-eu];simp
 have pJ:w2.cell? (J wr.heap.size 0)=some (Ac G 0 Y.length Y.length):=by rw[<-eu];simp[go_sem]
 have adp:=(Z yP).grow dh (λr e=>by cases e);have hvm:∀x∈mkd f Y,∃l,keyOf prog 76 (bZ x)=some l:=by
  intro x hx;obtain⟨q,hq,rfl⟩:=ap6.1 hx;obtain⟨i,hi,rfl⟩:=ar6 hq;have aV:=(Z HI).key i hi;have TF:Y[i].2.1<Y.length/\Y[i].2.2<Y.length/\0<=Y[i].1/\Y[i].1<=255:=by
   obtain⟨_,_,h3,h4⟩|⟨_,M,h3⟩|⟨_,M,h3⟩:=aV<;>omega
  have e1:=(Z HF _ TF.1);have e2:=(Z HF _ TF.2.1);exact aai _ anf anf anf
 have aaA:dS w2 (G) (mkd f Y):=(Z Bl).same (dh.block _ (Z Bl).1 R);have ajz:G<wr.heap.size:=(Z Bl).1;have dK:=KH 4 O wr.heap.size (G) Y.length w2.heap.size (mkd f Y) w2 (an2 _) (by rw[bM];omega) (by rw[bM];exact pJ) aaA hvm;rw[bM]at dK;rw[eu];have aay:wr.heap.size+1<=w2.heap.size:=O
 have Me:w.heap.size<=w2.heap.size:=adp.below.size;have HP:Hid (∀p∈(bI (mkd f Y) Y.length),p.1<Y.length/\p.2<Y.length):=λp hp=>by
  have h:=(lq (mkd f Y) Y.length (by rw[bM];exact an2 _) p).1 hp;exact⟨O,h.1⟩
 have kU:CG w (w.heap.size+1) (w.heap.size+1+1) b f Y.length c false w2/\Hid (∀p∈(bI (mkd f Y) Y.length).take 0,f p.1=f p.2):=⟨adp,λp hp=>by simp at hp⟩;have aH:OwnFrom w2.heap.size (fun(k:Nat) W=>CG w (w.heap.size+1) (w.heap.size+1+1) b f Y.length c false W/\Hid (∀p∈(bI (mkd f Y) Y.length).take k,f p.1=f p.2)):=λk W W' row h hg hr=>⟨h.1.keep hg (B:=w2.heap.size) O Me hr,h.2⟩;have Gi:OwnFrom w2.heap.size (fun(_:Unit) W=>CG w (w.heap.size+1) (w.heap.size+1+1) b f Y.length c false W/\Hid (∃p∈(bI (mkd f Y) Y.length),f p.1≠f p.2)):=λk W W' row h hg hr=>⟨h.1.keep hg (B:=w2.heap.size) O Me hr,h.2⟩;refine iP rfl O rfl trivial (λ_ _=>by simp[go_sem]) dK KA.trans ?_ (aq1 _ _) ?_ _ (λW=>CG w (w.heap.size+1) (w.heap.size+1+1) b f Y.length c false W/\Hid (∃p∈(bI (mkd f Y) Y.length),f p.1≠f p.2)) aH Gi kU
  (λk a' W=>∃hk:k<(bI (mkd f Y) Y.length).length,a'={tmps:=#[.agg #[Ac GT 0 Y.length Y.length,Ac GC 0 nc nc,Ac GP 0 np np],.map (some b),Aa w.heap.size 0,Aa (w.heap.size+1) 0,Aa (w.heap.size+1+1) 0,
   .int .i64 ((bI (mkd f Y) Y.length)[k]).1,.int .i64 ((bI (mkd f Y) Y.length)[k]).2,.agg #[Ac GT 0 Y.length Y.length,Ac GC 0 nc nc,Ac GP 0 np np],.map (some b),Ac G 0 Y.length Y.length,.func (.func 130) #[] #[Aa wr.heap.size 0],.int .i64 ((bI (mkd f Y) Y.length)[k]).1,.int .i64 ((bI (mkd f Y) Y.length)[k]).2,undef,undef,undef,undef,undef],defers:=[]}) ?own ?assign ?body ?done ?stop
 ·intro W l o o' Yv ho hc EY;refine⟨λj x hj hx La=>(ap1 (λe=>?_)).trans hx,ap1 O,ap1 O⟩;subst e;rw[ho]at hx;cases hx;obtain h|h:=La
  ·rw[hc]at h;cases h
  ·rw[EY]at h;cases h
 ·intro k hk;simp
 case own=>
  rintro k a' ⟨⟩ W W' row h hg hr;exact h
 case assign=>
  intro l k hk W K hI hK;have iQ:k<(bI (mkd f Y) Y.length).length:=by simpa using hk
  have e1:((bI (mkd f Y) Y.length).map λp:Nat×Nat=>#[Value.int .i64 p.1,Value.int .i64 p.2])[k]'hk=#[.int .i64 ((bI (mkd f Y) Y.length)[k]).1,.int .i64 ((bI (mkd f Y) Y.length)[k]).2]:=R
  rw[e1];have oU:=hK _ W ((aB1 _).from _) ⟨λj o hj ho hc=>ho,rfl,rfl⟩ hI ⟨iQ,rfl⟩;generalize (bI (mkd f Y) Y.length)[k]=pr at oU ⊢
  gi_wp2
  exact oU
 case body=>
  rintro l k a' W hk Ij hI ⟨iQ,rfl⟩;have GX:=hI.1.x1;have mM:=hI.1.x2;have tX:=hI.1.f2;have SE:=Z HP _ (an5 iQ);have BF:=QV W b Y.length c f ((bI (mkd f Y) Y.length)[k]).1 ((bI (mkd f Y) Y.length)[k]).2 hI.1.m SE.1 SE.2 O;have fZ:=F (an5 iQ);have kT:(bI (mkd f Y) Y.length).take (k+1)=(bI (mkd f Y) Y.length).take k++[(bI (mkd f Y) Y.length)[k]]:=by rw[aq3,an3 iQ];rfl
  have je:=F kT;have hIb:=F hI;generalize (bI (mkd f Y) Y.length)[k]=pr at BF fZ je ⊢;obtain⟨x,y⟩:=pr;simp only at BF ⊢;by_cases he:f x=f y
  ·have HE:=F he;rw[ay5 he]at BF
   gi_wp2
   refine⟨trivial,aw1 l (aq2.2 (BF.mono ?_))⟩;rintro e w3 ⟨rfl,rfl⟩
   gi_wp2
   refine⟨(aB1 _).from _,⟨λj o hj ho hc=>ho,rfl,rfl⟩,(Z hIb).1,?_⟩;intro p hp;rw[Z je]at hp;obtain h|h:=aq7.1 hp
   ·exact Z (Z hIb).2 p h
   ·rw[ap8.1 h];exact Z HE
  ·have HE:=F he;rw[ax4 he]at BF
   gi_wp2
   refine⟨trivial,aw1 l (aq2.2 (BF.mono ?_))⟩;rintro e w3 ⟨rfl,rfl⟩
   gi_wp2
   refine⟨⟨by simp[World.setCell],λj o hj ho hc=>(ao9 _ _ _ _ (by show j≠w.heap.size+1+1;omega)).trans ho⟩,(Z hIb).1.set false O O O,?_⟩;exact⟨_,Z fZ,Z HE⟩
 case done=>
  intro D W hD hI eU;have mM:=hI.1.x2;have tX:=hI.1.f2
  gi_wp2
  have hcs:=hI.1.set true O O O;have JO:(W.setCell (J (w.heap.size+1+1) 0) (.bool true)).heap[D]?=some (.deferred (some [])):=(ao9 _ _ _ _ (by show D≠w.heap.size+1+1;omega)).trans eU;have UL:=hcs.keep (au9 _ D (.deferred none)) (B:=w2.heap.size) O Me (λr e=>by cases e;exact⟨hD,_,JO,rfl⟩);have qh:=UL.x2;refine⟨R,.inl ⟨_,_,rfl,au4 JO,?_⟩⟩;refine⟨.bool true,by simp[results,results33,go_sem,qh],?_,UL.below⟩;have aX:=Z hI.2;rw[aq5 R]at aX;rw[ay5 aX]
 case stop=>
  intro D W hD hI eU;have mM:=hI.1.x2
  gi_wp2
  have UL:=hI.1.keep (au9 _ D (.deferred none)) (B:=w2.heap.size) O Me (λr e=>by cases e;exact⟨hD,_,eU,rfl⟩);have qh:=UL.x2;refine⟨R,.inl ⟨_,_,rfl,au4 eU,?_⟩⟩;refine⟨.bool false,by simp[results,results33,go_sem,qh],?_,UL.below⟩;obtain⟨p,hp,bg⟩:=Z hI.2;rw[ax4 (λh=>bg (h p hp))]
def BA(f:Nat->Nat)(cs:Ah):Ah:=cs.map λk=>(k.1,f k.2)
theorem jm(f:Nat->Nat)(cs:Ah):(BA f cs).length=cs.length:=by simp[BA]
theorem Ry(w:World)(a:Int)(b:Nat)(t:TypeId)(n:Nat)(hn:w.heap.size=n):∀j u,(tK (a,b))[j]?=some u->(w.alloc (.cells #[Ae a,A b] t)).cell? (((J n 0):Addr).add j)=some u:=by
 subst hn;exact acE w a b t
def eP(w:World)(H:Nat)(hl:List Bool):Prop:=H<w.heap.size/\∀i (hi:i<hl.length),w.cell? (J H i)=some (.bool hl[i])
theorem eP.same{w w':World}{H:Nat}{hl:List Bool}(h:eP w H hl)(hb:w'.heap[H]?=w.heap[H]?):eP w' H hl:=
 ⟨by have I:=h.1;rw[aq6 I]at hb;exact(an0.1 hb).1,λi hi=>(an9 hb).trans (h.2 i hi)⟩
theorem eP.at{w:World}{H:Nat}{hl:List Bool}(h:eP w H hl){i:Nat}(hi:i<hl.length):w.cell? (J H i)=some (.bool (hl.getD i false)):=by
 rw[h.2 i hi];simp[List.getD,hi]
def sv(b H n:Nat):Value:=.agg #[.map (some b),Ac H 0 n n]
structure AE(w:World)(X1 X2 H cp:Nat)(hl:List Bool)(v:Bool)(W:World):Prop where
 xh:W.cell? (J X1 0)=some (Ac H 0 hl.length cp)
 x2:W.cell? (J X2 0)=some (.bool v)
 f2:W.frozen? (J X2 0)=false
 h:eP W H hl
 below:Below w.heap.size w W
theorem AE.keep{w:World}{X1 X2 H cp:Nat}{hl:List Bool}{v:Bool}{W W':World}{row:Option Nat}{B:Nat}(h:AE w X1 X2 H cp hl v W)(hg:W.grownBy W' row)(hH:H<B)(hw:w.heap.size<=B)
 (hr:∀r,row=some r->B<=r/\∃o:Obj,W.heap[r]?=some o/\o.isCells=false):AE w X1 X2 H cp hl v W':=by
 have ng:∀r,row=some r->∃o:Obj,W.heap[r]?=some o/\o.isCells=false:=λr e=>(hr r e).2;exact⟨dB h.xh hg ng,dB h.x2 hg ng,(rW h.x2 hg ng).trans h.f2,h.h.same (hg.block _ h.h.1 (λe=>by have:=(hr H e.symm).1;omega)),ownFrom_below (β:=Unit) (an2 _) hw () W W' row h.below hg hr⟩
theorem AE.grow{w:World}{X1 X2 H cp:Nat}{hl:List Bool}{v:Bool}{W W':World}{row:Option Nat}(h:AE w X1 X2 H cp hl v W)(hg:W.grownBy W' row)(hr:∀r,row=some r->r≠X1/\r≠X2/\r≠H/\w.heap.size<=r):AE w X1 X2 H cp hl v W':=
 ⟨hg.cell h.xh (λe=>(hr X1 e.symm).1 rfl),hg.cell h.x2 (λe=>(hr X2 e.symm).2.1 rfl),(ar5 (hg.block X2 (an4 W _ h.x2) (λe=>(hr X2 e.symm).2.1 rfl))).trans h.f2,
  h.h.same (hg.block H h.h.1 (λe=>(hr H e.symm).2.2.1 rfl)),h.below.grown hg h.below.size (λk e=>(hr k e).2.2.2)⟩
theorem AE.set{w:World}{X1 X2 H cp:Nat}{hl:List Bool}{v:Bool}{W:World}(h:AE w X1 X2 H cp hl v W)(v':Bool)(I:X1≠X2)(h4:H≠X2)(h3:w.heap.size<=X2):AE w X1 X2 H cp hl v' (W.setCell (J X2 0) (.bool v')):=
 ⟨(an9 (ao9 _ _ _ _ I)).trans h.xh,bH _ h.x2,by rw[aw2];exact h.f2,h.h.same (ao9 _ _ _ _ h4),h.below.setCell h3 _⟩
theorem Ol(G cap H cp:Nat)(cs:Ah)(hl:List Bool)(w:World)(hn:cs.length<=100)(hlh:hl.length=cs.length)(kE:gZ w G cs)(hv:∀x∈cs,∃l,keyOf prog 79 (mZ x)=some l)(hH:eP w H hl) :
  Calls prog 78 #[Ac G 0 cs.length cap,Ac H 0 hl.length cp] w λe w'=>e=.returned (.bool (decide (∀p∈bI cs cs.length,hl.getD p.1 false=hl.getD p.2 false)))/\Ag w w':=by
 refine(aq2 (n:=5)).1 ?_;have HLH:=F hlh;clear hlh;refine at6 func78 rfl trivial ?_ rfl;simp only[ntmps78,ao5,ao1,ap0,Nat.reduceAdd,Nat.reduceSub,an7,an6,ao6,ap9,ao8,ao7]
 gi_wp2
 obtain⟨wr,uG⟩:∃wr,(w.alloc (.cells #[Ac H 0 hl.length cp] 54)).alloc (.cells #[.bool false] 4)=wr:=⟨_,rfl⟩;have hsr:wr.heap.size=w.heap.size+2:=by rw[<-uG];simp
 have jS:w.grownBy wr none:=by rw[<-uG];exact(an1 _ _ none).trans (an1 _ _ none)
 have Gp:Below w.heap.size w wr:=⟨jS.os,jS.tape,jS.output,jS.size,λj hj=>jS.block j hj R⟩;have hlH:=hH.1;have zN:AE w w.heap.size (w.heap.size+1) H cp hl false wr:=⟨by rw[<-uG];simp[go_sem],by rw[<-uG];simp[go_sem],by rw[<-uG];simp[go_sem],hH.same (jS.block H hlH R),Gp⟩;have Bl:Hid (gZ wr G cs):=kE.below Gp kE.1;have HV:=F hv;have amL:w.heap.size+2<=wr.heap.size:=O
 rw[uG];have yP:=F zN;clear uG hsr jS Gp hH kE hv zN;refine⟨trivial,(aq2.2 (KJ (some (J G 0)) cs.length cap wr)).mono ?_⟩;rintro e w2 ⟨rfl,rfl⟩
 gi_wp2
 obtain⟨w2,eu⟩:∃w2,wr.alloc (.cells #[Ac G 0 cs.length cap] 43)=w2:=⟨_,rfl⟩;have dh:wr.grownBy w2 none:=by rw[<-eu];exact an1 _ _ none
 have su:w2.heap.size=wr.heap.size+1:=by rw[<-eu];simp
 have pJ:w2.cell? (J wr.heap.size 0)=some (Ac G 0 cs.length cap):=by rw[<-eu];simp[go_sem]
 have adp:=(Z yP).grow dh (λr e=>by cases e);have aaA:gZ w2 G cs:=(Z Bl).same (dh.block _ (Z Bl).1 R);have ajz:G<wr.heap.size:=(Z Bl).1;have dK:=Xq 4 O wr.heap.size G cap w2.heap.size cs w2 (an2 _) O pJ aaA (Z HV);rw[eu];have aay:wr.heap.size+1<=w2.heap.size:=O
 clear eu pJ aaA su Bl;have Me:w.heap.size<=w2.heap.size:=adp.below.size;have HP:Hid (∀p∈(bI cs cs.length),p.1<cs.length/\p.2<cs.length):=λp hp=>by
  have h:=(lq cs cs.length (an2 _) p).1 hp;exact⟨O,h.1⟩
 have kU:AE w w.heap.size (w.heap.size+1) H cp hl false w2/\Hid (∀p∈(bI cs cs.length).take 0,hl.getD p.1 false=hl.getD p.2 false):=⟨adp,λp hp=>by simp at hp⟩;have aH:OwnFrom w2.heap.size (fun(k:Nat) W=>AE w w.heap.size (w.heap.size+1) H cp hl false W/\Hid (∀p∈(bI cs cs.length).take k,hl.getD p.1 false=hl.getD p.2 false)):=λk W W' row h hg hr=>⟨h.1.keep hg (B:=w2.heap.size) O Me hr,h.2⟩;have Gi:OwnFrom w2.heap.size (fun(_:Unit) W=>AE w w.heap.size (w.heap.size+1) H cp hl false W/\Hid (∃p∈(bI cs cs.length),hl.getD p.1 false≠hl.getD p.2 false)):=λk W W' row h hg hr=>⟨h.1.keep hg (B:=w2.heap.size) O Me hr,h.2⟩;refine iP rfl O rfl trivial (λ_ _=>by simp[go_sem]) dK KA.trans ?_ (aq1 _ _) ?_ _ (λW=>AE w w.heap.size (w.heap.size+1) H cp hl false W/\Hid (∃p∈(bI cs cs.length),hl.getD p.1 false≠hl.getD p.2 false)) aH Gi kU
  (λk a' W=>∃hk:k<(bI cs cs.length).length,a'={tmps:=#[Ac G 0 cs.length cap,Ac H 0 hl.length cp,undef,Aa w.heap.size 0,Aa (w.heap.size+1) 0,
   .int .i64 ((bI cs cs.length)[k]).1,.int .i64 ((bI cs cs.length)[k]).2,Ac G 0 cs.length cap,.func (.func 169) #[] #[Aa wr.heap.size 0],.int .i64 ((bI cs cs.length)[k]).1,.int .i64 ((bI cs cs.length)[k]).2,undef,undef,undef,undef,undef,undef,undef,undef,undef],defers:=[]}) ?own ?assign ?body ?done ?stop
 ·intro W l o o' Yv ho hc EY;refine⟨λj x hj hx La=>(ap1 (λe=>?_)).trans hx,ap1 O,ap1 O⟩;subst e;rw[ho]at hx;cases hx;obtain h|h:=La
  ·rw[hc]at h;cases h
  ·rw[EY]at h;cases h
 ·intro k hk;simp
 case own=>
  rintro k a' ⟨⟩ W W' row h hg hr;exact h
 case assign=>
  intro l k hk W K hI hK;have iQ:k<(bI cs cs.length).length:=by simpa using hk
  have e1:((bI cs cs.length).map λp:Nat×Nat=>#[Value.int .i64 p.1,Value.int .i64 p.2])[k]'hk=#[.int .i64 ((bI cs cs.length)[k]).1,.int .i64 ((bI cs cs.length)[k]).2]:=R
  rw[e1];have oU:=hK _ W ((aB1 _).from _) ⟨λj o hj ho hc=>ho,rfl,rfl⟩ hI ⟨iQ,rfl⟩;clear hK;generalize (bI cs cs.length)[k]=pr at oU ⊢
  gi_wp2
  exact oU
 case body=>
  rintro l k a' W hk Ij hI ⟨iQ,rfl⟩;have mM:=hI.1.x2;have tX:=hI.1.f2;have SE:=Z HP _ (an5 iQ);have hxl:((bI cs cs.length)[k]).1<hl.length:=by rw[Z HLH];exact SE.1
  have hyl:((bI cs cs.length)[k]).2<hl.length:=by rw[Z HLH];exact SE.2
  have hcx:=hI.1.h.at hxl;have hcy:=hI.1.h.at hyl;have hxh:=hI.1.xh;have fZ:=F (an5 iQ);have kT:(bI cs cs.length).take (k+1)=(bI cs cs.length).take k++[(bI cs cs.length)[k]]:=by rw[aq3,an3 iQ];rfl
  have je:=F kT;have hIb:=F hI;clear hI kT SE kU aH Gi dK;generalize (bI cs cs.length)[k]=pr at hxl hyl hcx hcy fZ je ⊢;obtain⟨x,y⟩:=pr;simp only at hxl hyl hcx hcy ⊢;generalize hbx:hl.getD x false=bx at hcx;generalize hby:hl.getD y false=by' at hcy;have HX:=F hbx;have HY:=F hby
  have hxi:(x:Int)<(hl.length:Int):=O
  have hyi:(y:Int)<(hl.length:Int):=O
  clear hbx hby hxl hyl
  gi_wp2
  refine qE ?_;have aA:W.drew.cell? (J w.heap.size 0)=some (Ac H 0 hl.length cp)/\W.drew.cell? (J H x)=some (.bool bx)/\W.drew.cell? (J H y)=some (.bool by'):=⟨hxh,hcx,hcy⟩;refine LU (λW'=>W'.cell? (J w.heap.size 0)=some (Ac H 0 hl.length cp)/\W'.cell? (J H x)=some (.bool bx)/\W'.cell? (J H y)=some (.bool by')) 9 #[false,false,false,false,false,false,false,false,false] (by kernel_rfl) rfl rfl (by kernel_rfl) (by rintro⟨_,_,h,_⟩;cases h) ?_;refine tH 0 (Ac H 0 hl.length cp) (λw' hS=>?_) aA ?_
  ·obtain⟨s1,s2,s3⟩:=hS;go_simp
  simp only[aF];refine tH 1 (.int .i64 x) (λw' hS=>?_) aA ?_
  ·obtain⟨s1,s2,s3⟩:=hS;go_simp
  simp only[aF];refine tH 2 (Aa H x) (λw' hS=>?_) aA ?_
  ·obtain⟨s1,s2,s3⟩:=hS;go_simp
  simp only[aF];refine tH 3 (.bool bx) (λw' hS=>?_) aA ?_
  ·obtain⟨s1,s2,s3⟩:=hS;go_simp
  simp only[aF];refine tH 4 (Ac H 0 hl.length cp) (λw' hS=>?_) aA ?_
  ·obtain⟨s1,s2,s3⟩:=hS;go_simp
  simp only[aF];refine tH 5 (.int .i64 y) (λw' hS=>?_) aA ?_
  ·obtain⟨s1,s2,s3⟩:=hS;go_simp
  simp only[aF];refine tH 6 (Aa H y) (λw' hS=>?_) aA ?_
  ·obtain⟨s1,s2,s3⟩:=hS;go_simp
  simp only[aF];refine tH 7 (.bool by') (λw' hS=>?_) aA ?_
  ·obtain⟨s1,s2,s3⟩:=hS;go_simp
  simp only[aF];refine tH 8 (.bool (bx != by')) (λw' hS=>?_) aA ?_
  ·obtain⟨s1,s2,s3⟩:=hS;cases bx<;>cases by'<;>go_simp
  simp only[aF];refine ar2 (by kernel_rfl) ⟨rfl,?_⟩ _;have Lj:W.grownBy W.drew none:=⟨rfl,rfl,rfl,an2 _,λj hj _=>rfl⟩;have hId:AE w w.heap.size (w.heap.size+1) H cp hl false W.drew:=(Z hIb).1.grow Lj (λr e=>by cases e);have mM:W.drew.cell? (J (w.heap.size+1) 0)=some (.bool false):=hId.x2;have tX:W.drew.frozen? (J (w.heap.size+1) 0)=false:=hId.f2;have HID:=F hId;clear hId Lj aA hcx hcy hxh;generalize hvb:(bx != by')=vb;have HVB:=F hvb;clear hvb;cases vb
  ·gi_wp2
   refine⟨⟨R,λj o hj ho hc=>ho⟩,⟨λj o hj ho hc=>ho,rfl,rfl⟩,Z HID,?_⟩;intro p hp;rw[Z je]at hp;obtain h|h:=aq7.1 hp
   ·exact Z (Z hIb).2 p h
   ·rw[ap8.1 h]
    show hl.getD x false=hl.getD y false
    rw[Z HX,Z HY];have:=Z HVB;revert this;cases bx<;>cases by'<;>simp
  ·gi_wp2
   refine⟨⟨by simp[World.setCell],λj o hj ho hc=>(ao9 _ _ _ _ (by show j≠w.heap.size+1;omega)).trans ho⟩,(Z HID).set false O O O,?_⟩;refine⟨_,Z fZ,?_⟩
   show ¬hl.getD x false=hl.getD y false
   rw[Z HX,Z HY];have:=Z HVB;revert this;cases bx<;>cases by'<;>simp
 case done=>
  intro D W hD hI eU;have mM:=hI.1.x2;have tX:=hI.1.f2
  gi_wp2
  have hcs:=hI.1.set true O O O;have JO:(W.setCell (J (w.heap.size+1) 0) (.bool true)).heap[D]?=some (.deferred (some [])):=(ao9 _ _ _ _ (by show D≠w.heap.size+1;omega)).trans eU;have UL:=hcs.keep (au9 _ D (.deferred none)) (B:=w2.heap.size) O Me (λr e=>by cases e;exact⟨hD,_,JO,rfl⟩);have qh:=UL.x2;refine⟨R,.inl ⟨_,_,rfl,au4 JO,?_⟩⟩;refine⟨.bool true,by simp[results,results78,go_sem,qh],?_,UL.below⟩;have aX:=Z hI.2;rw[aq5 R]at aX;rw[ay5 aX]
 case stop=>
  intro D W hD hI eU;have mM:=hI.1.x2
  gi_wp2
  have UL:=hI.1.keep (au9 _ D (.deferred none)) (B:=w2.heap.size) O Me (λr e=>by cases e;exact⟨hD,_,eU,rfl⟩);have qh:=UL.x2;refine⟨R,.inl ⟨_,_,rfl,au4 eU,?_⟩⟩;refine⟨.bool false,by simp[results,results78,go_sem,qh],?_,UL.below⟩;obtain⟨p,hp,bg⟩:=Z hI.2;rw[ax4 (λh=>bg (h p hp))]
structure AM(w:World)(X1 b H:Nat)(f:Nat->Nat)(n c:Nat)(hl:List Bool)(W:World):Prop where
 x1:W.cell? (J X1 0)=some (.map (some b))
 xh:W.cell? (J X1 1)=some (Ac H 0 hl.length hl.length)
 m:gY W b f n c
 h:eP W H hl
 below:Below w.heap.size w W
theorem AM.grow{w:World}{X1 b H n c:Nat}{f:Nat->Nat}{hl:List Bool}{W W':World}{row:Option Nat}(h:AM w X1 b H f n c hl W)(hg:W.grownBy W' row)(hr:∀r,row=some r->r≠X1/\r≠b/\r≠H/\w.heap.size<=r):AM w X1 b H f n c hl W':=
 ⟨hg.cell h.x1 (λe=>(hr X1 e.symm).1 rfl),hg.cell h.xh (λe=>(hr X1 e.symm).1 rfl),h.m.kept (hg.block b h.m.lt (λe=>(hr b e.symm).2.1 rfl)),h.h.same (hg.block H h.h.1 (λe=>(hr H e.symm).2.2.1 rfl)),h.below.grown hg h.below.size (λk e=>(hr k e).2.2.2)⟩
theorem KL(GT GC GP nt np b c H:Nat)(f:Nat->Nat)(cs:Ah)(hl:List Bool)(w:World)(h4:cs.length<=4)(Bc:nt<=7)(hlh:hl.length=cs.length)(kE:gZ w GC cs)(hi:∀x∈cs,(x.1=80\/x.1=81)/\x.2<nt)(hf:∀i,i<nt->f i<=i/\f (f i)=f i)(hM:gY w b f nt c)(hH:eP w H hl) :
  Calls prog 34 #[fv GT GC GP nt cs.length np,sv b H hl.length] w λe w'=>e=.returned (.bool (decide (∀p∈bI (BA f cs) cs.length,hl.getD p.1 false=hl.getD p.2 false)))/\Ag w w':=by
 refine(aq2 (n:=5)).1 ?_;unfold fv sv;have HLH:=F hlh;clear hlh;obtain⟨wb,kP⟩:∃wb,(w.alloc (.cells #[Ac GT 0 nt nt,Ac GC 0 cs.length cs.length,Ac GP 0 np np] 46)).alloc (.cells #[.map (some b),Ac H 0 hl.length hl.length] 56)=wb:=⟨_,rfl⟩;have SA:wb.heap.size=w.heap.size+2:=by rw[<-kP];simp
 have fD:w.grownBy wb none:=by rw[<-kP];exact(an1 _ _ none).trans (an1 _ _ none)
 have qK:Below w.heap.size w wb:=⟨fD.os,fD.tape,fD.output,fD.size,λj hj=>fD.block j hj R⟩;have Qn:wb.cell? (J (w.heap.size+1) 1)=some (Ac H 0 hl.length hl.length):=by rw[<-kP];simp[go_sem]
 have zO:wb.cell? (J w.heap.size 1)=some (Ac GC 0 cs.length cs.length):=by rw[<-kP];simp[go_sem]
 have Gn:wb.cell? (J (w.heap.size+1) 0)=some (.map (some b)):=by rw[<-kP];simp[go_sem]
 obtain⟨i0,gK,jR,ig,jy⟩:=au5 Yk;obtain⟨w1,wC,aS,bG⟩:=aA9 (P:=prog) wb wb.heap.size 43 79 i0 _ 2 underlying43 gK jR ig .i64 .i64 cs.length (by rw[jy];omega) anj (an2 _);have iD:Below w.heap.size w w1:=qK.trans ⟨bG.os,bG.tape,bG.output,bG.size,λj hj=>bG.block j O R⟩;have aaF:=hM.lt;have AL:=kE.1;have hlH:=hH.1;have ahK:AM w (w.heap.size+1) b H f nt c hl w1:=
  ⟨bG.cell Gn R,bG.cell Qn R,(hM.kept (fD.block b aaF R)).kept (bG.block b O R),(hH.same (fD.block H hlH R)).same (bG.block H O R),iD⟩
 have kJ:w1.cell? (J w.heap.size 1)=some (Ac GC 0 cs.length cs.length):=bG.cell zO R;have jL:w.heap.size+2<w1.heap.size:=by have h:=(aS.lt wb.heap.size rfl).2;omega
 have HSB:=F SA;rw[SA]at aS;have ag7:Hid _:=wC;have HI:=F hi;have Eu:=F kE;have HF:=F hf;have HWB:=F kP;rw[<-kP]at wC;have ac5:((w.alloc (.cells #[Ac GT 0 nt nt,Ac GC 0 cs.length cs.length,Ac GP 0 np np] 46)).alloc (.cells #[.map (some b),Ac H 0 hl.length hl.length] 56)).heap.size=w.heap.size+2:=R
 rw[ac5]at wC;clear ag7 kP hi kE hf SA ac5 fD zO Gn Qn bG hM hH;refine at6 func34 rfl trivial ?_ rfl;simp only[ntmps34,ao5,ao1,ap0,Nat.reduceAdd,Nat.reduceSub,an7,an6,ao6,ap9,ao8,ao7]
 gi_wp2
 have rD:w1.ownsRow 0 79 2 (Ac (w.heap.size+2) 0 0 cs.length) 0 []:=fO aS (ap7 _);clear wC aS kJ
 gi_loopw [5,15] (λt i wr=>∃k:Nat,k<=cs.length/\i=.int .i64 k/\t=Ac (w.heap.size+2) 0 k cs.length/\wr.ownsRow 0 79 2 (Ac (w.heap.size+2) 0 k cs.length) k (((BA f cs).flatMap tK).take (k*2))/\AM w (w.heap.size+1) b H f nt c hl wr) (λ_ i _=>cs.length-(intOf i).toNat)
 case atStart=>exact⟨0,ap7 _,rfl,rfl,by rw[aB4,az5];exact rD,ahK⟩
 case round=>
  obtain⟨k,hk,rfl,rfl,Az,zN⟩:=hrel;by_cases hlt:k<cs.length
  ·have iF:(k:Int)<(cs.length:Int):=O;obtain⟨c0,c1⟩:=((Z Eu).below zN.below AL).2 k hlt;have gX:k+1<=cs.length:=hlt;have TD:cs[k].2<nt:=((Z HI) _ (an5 hlt)).2;have kT:=qF zV (BA f cs) k (by rw[jm];exact hlt);have wC:(BA f cs)[k]'(by rw[jm];exact hlt)=(cs[k].1,f cs[k].2):=(by simp[BA]);rw[wC]at kT;have MF:Hid (∀W2:World,wr.grownBy W2 none->W2.ownsRow 0 79 2 (Ac (w.heap.size+2) 0 k cs.length) k (((BA f cs).flatMap tK).take (k*2))):=λW2 h=>Az.kept h (Or.inr (by simp[Value.ownBlock]));have EK:w.heap.size+2<wr.heap.size:=(Az.lt (w.heap.size+2) rfl).2;have je:=F kT;have yP:=F zN;clear kT wC Az;generalize cs[k]=key at c0 c1 TD je;obtain⟨tl,tf⟩:=key;simp only at c0 c1 TD je;have HF1:=F ((Z HF) tf TD);have VX:∀W2:World,wr.grownBy W2 none->Calls prog 73 #[.map (some b),.int .i64 tf] W2 λe w'=>e=.returned (.int .i64 (f tf))/\w'=W2:=λW2 h=>Ja W2 b nt c f tf ((Z yP).m.kept (h.block b (Z yP).m.lt R)) TD O (Z HF1).1 (Z HF1).2;have HO1:=F VX;clear VX zN;generalize f tf=x1 at HO1 je
   gi_wp2
   ·refine qE ?_;have fK:wr.grownBy (wr.alloc (.cells #[.int .u8 tl,.int .i64 tf] 79)) none:=an1 _ _ none;obtain⟨W1,dO⟩:∃W1,wr.alloc (.cells #[.int .u8 tl,.int .i64 tf] 79)=W1:=⟨_,rfl⟩;have aA:W1.drew.cell? (J wr.heap.size 0)=some (.int .u8 tl)/\W1.drew.cell? (J wr.heap.size 1)=some (.int .i64 tf)/\W1.drew.cell? (J (w.heap.size+1) 0)=some (.map (some b)):=by
     rw[<-dO];exact⟨by simp[go_sem],by simp[go_sem],fK.cell (Z yP).x1 R⟩
    have bG:wr.grownBy W1.drew none:=(by rw[<-dO];exact⟨rfl,rfl,rfl,R,λj hj _=>ao3 _ _ _ hj⟩);rw[dO]at fK ⊢;clear dO;refine F5 (λW'=>W'.cell? (J wr.heap.size 0)=some (.int .u8 tl)/\W'.cell? (J wr.heap.size 1)=some (.int .i64 tf)/\W'.cell? (J (w.heap.size+1) 0)=some (.map (some b))) 12 #[false,false,false,false,false,false,false,false,false,false,false,false] (by kernel_rfl) rfl rfl ?_;refine tH 0 (Ac (w.heap.size+2) 0 k cs.length) (λw' hS=>?_) aA ?_
    ·obtain⟨s1,s2,s3⟩:=hS;go_simp
    simp only[aF];refine tH 1 (Aa wr.heap.size 0) (λw' hS=>?_) aA ?_
    ·obtain⟨s1,s2,s3⟩:=hS;go_simp
    simp only[aF];refine tH 2 (.int .u8 tl) (λw' hS=>?_) aA ?_
    ·obtain⟨s1,s2,s3⟩:=hS;go_simp
    simp only[aF];refine tH 3 (Aa (w.heap.size+1) 0) (λw' hS=>?_) aA ?_
    ·obtain⟨s1,s2,s3⟩:=hS;go_simp
    simp only[aF];refine tH 4 (.map (some b)) (λw' hS=>?_) aA ?_
    ·obtain⟨s1,s2,s3⟩:=hS;go_simp
    simp only[aF];refine tH 5 (Aa wr.heap.size 1) (λw' hS=>?_) aA ?_
    ·obtain⟨s1,s2,s3⟩:=hS;go_simp
    simp only[aF];refine tH 6 (.int .i64 tf) (λw' hS=>?_) aA ?_
    ·obtain⟨s1,s2,s3⟩:=hS;go_simp
    simp only[aF];have wK:Hid (∀W':World,W1.drew.grownBy W' none->W'.cell? (J wr.heap.size 0)=some (.int .u8 tl)/\W'.cell? (J wr.heap.size 1)=some (.int .i64 tf)/\W'.cell? (J (w.heap.size+1) 0)=some (.map (some b))):=λW' hg=>⟨hg.cell aA.1 R,hg.cell aA.2.1 R,hg.cell aA.2.2 R⟩;refine oH 7 (λK hK=>?_);go_simp;refine(Z HO1 _ bG).mono ?_;rintro e w2 ⟨rfl,rfl⟩;refine hK.out _ _ aA ?_;clear hK K;refine oH 8 (λK hK=>?_);go_simp;refine hK.out _ _ aA ?_;clear hK K;refine oH 9 (λK hK=>?_);go_simp;have mP:W1.drew.grownBy (W1.drew.alloc (.cells #[.int .u8 tl,.int .i64 x1] 79)) none:=an1 _ _ none;refine hK.out _ _ (Z wK _ mP) ?_;clear hK K;have AO:=bG.trans mP;refine oH 10 (λK hK=>?_);refine zq (.tmp 19) (.tmp 28) 43 rfl 0 79 i0 2 underlying43 gK ig _ _ _ _ rfl (Z MF _ AO) _ 1 1 (tK (tl,x1)) rfl rfl (Ry _ _ _ _ _ rfl) (acs _) gX ?_;intro w4 r1 r2;have q0:=Z wK _ mP;have bg:wr.heap.size≠w.heap.size+2:=O;have hS4:w4.cell? (J wr.heap.size 0)=some (.int .u8 tl)/\w4.cell? (J wr.heap.size 1)=some (.int .i64 tf)/\w4.cell? (J (w.heap.size+1) 0)=some (.map (some b)):=⟨r2.cell q0.1 (by simpa using bg),r2.cell q0.2.1 (by simpa using bg),r2.cell q0.2.2 R⟩;refine hK.out _ _ hS4 ?_;clear hK K;refine oH 11 (λK hK=>?_);go_simp;refine hK.out _ _ hS4 (ar2 (by kernel_rfl) ⟨rfl,?_⟩ _);clear hK K
    gi_wp2
    exact⟨⟨k+1,gX,by go_num,rfl,by rw[Z je];exact r1,((Z yP).grow AO (λr e=>by cases e)).grow r2 (λr e=>by cases e;exact⟨O,O,O,O⟩)⟩,by simp[intOf];omega⟩
  ·have gW:k=cs.length:=O;have iF:¬(k:Int)<(cs.length:Int):=O;subst gW;have hfl:((BA f cs).flatMap tK).take (cs.length*2)=(BA f cs).flatMap tK:=aq5 (by rw[uT zV,jm];exact an2 _);rw[hfl]at Az;have SB:gZ wr (w.heap.size+2) (BA f cs):=by
    refine⟨(Az.lt (w.heap.size+2) rfl).2,λi hi=>?_⟩;have pI:i<cs.length:=(by rw[jm]at hi;exact hi);have Gm:∀c,c<2->wr.cell? ⟨w.heap.size+2,i*2+c,none⟩=(tK (BA f cs)[i])[c]?:=λc hc=>by
     rw[Az.cellAt (i*2+c) O];exact flat_get (k:=2) (λ_=>rfl) ane (BA f cs) i hi c hc
    exact⟨Gm 0 ane,Gm 1 ane⟩
   have ajE:=zN.h;have hxh:=zN.xh;have JQ:=zN.below;have hkv:∀x∈BA f cs,∃l,keyOf prog 79 (mZ x)=some l:=by
    intro x hx;obtain⟨q,hq,rfl⟩:=ap6.1 hx;obtain⟨q1,q2⟩:=Z HI q hq;have e1:=(Z HF _ q2).1;exact afa _ anf anf
   have hag:=Ol (w.heap.size+2) cs.length H hl.length (BA f cs) hl wr (by rw[jm];omega) (by rw[jm];exact Z HLH) SB hkv ajE;rw[jm]at hag;clear hfl Az zN SB ajE hkv
   gi_wp2
   refine⟨trivial,(aq2.2 hag).mono ?_⟩;rintro e w5 ⟨rfl,AP⟩;have hb6:Below w.heap.size w w5:=JQ.trans ⟨AP.os,AP.tape,AP.output,AP.size,λj hj=>AP.block j (by have:=JQ.size;omega)⟩
   gi_wp2
   refine⟨_,ay0 rfl _ _ _,rfl,hb6⟩
end Go.Proofs.YthcppbmkacbbiabGreat
