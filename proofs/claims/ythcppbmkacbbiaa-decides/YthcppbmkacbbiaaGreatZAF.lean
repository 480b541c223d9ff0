import Derived.Test.YthcppbmkacbbiaaGreatZAB
set_option linter.unusedSimpArgs false
set_option maxHeartbeats 1000000
namespace Go.Proofs.YthcppbmkacbbiaaGreat
open Go.Proofs.Tryz
namespace au
structure St where
 a:Nat
 d:Nat
 E:Int
 T:List (List UInt8)
 C:List (List UInt8)
def aH(pk:Nat->Int)(σ:St)(c:Int):Bool:=decide (σ.E=0)&&decide (pk σ.a=c)
def aX(pk:Nat->Int)(l:List Int)(σ:St):St×Int:=
 if σ.E=0 then
  if l.contains (pk σ.a)then({σ with a:=σ.a+1},pk σ.a)else({σ with E:=2},0)
 else(σ,0)
def eF(pk:Nat->Int)(σ:St):St:=if aH pk σ 40=true/\σ.d=8 then {σ with E:=3}else σ
def YN(σ:St):St:={σ with d:=σ.d+1}
def RU(σ:St):St:={σ with d:=σ.d-1}
def aC(pk:Nat->Int)(σ:St):St:=YN (aX pk [40] (eF pk σ)).1
def bM(pk:Nat->Int)(σ:St):St:=RU (aX pk [41] σ).1
def cut(l:List UInt8)(x y:Nat):List UInt8:=(l.drop x).take (y-x)
def letters:List Int:=[97,98,99,100,101,102,103]
def fB(l:List UInt8)(x:Nat)(σ:St):St×Nat:=
 if σ.E=0 then({σ with T:=put σ.T (cut l x σ.a)},σ.T.idxOf (cut l x σ.a))else(σ,0)
def yM(pk:Nat->Int)(rec:St->St)(c:Int)(σ:St):St:=
 if c=102 then bM pk (rec (aC pk σ))
 else if c=103 then bM pk (rec (aX pk [44] (rec (aC pk σ))).1)
 else σ
def aJ(l:List UInt8)(pk:Nat->Int):Nat->St->St×Nat
 |0,σ=>(σ,0)
 |n+1,σ=>fB l σ.a (yM pk (λτ=>(aJ l pk n τ).1) (aX pk letters σ).2 (aX pk letters σ).1)
def fC(l:List UInt8)(x:Nat)(σ:St):St:=
 if σ.E=0 then {σ with C:=put σ.C (cut l x σ.a)}else σ
def aI(l:List UInt8)(pk:Nat->Int):Nat->St->St
 |0,σ=>σ
 |n+1,σ=>
  if aH pk σ 33=true then aI l pk n {σ with a:=σ.a+1}
  else if (aH pk σ 80||aH pk σ 81)=true then
   fC l σ.a (bM pk (aJ l pk (n+1) (aC pk {σ with a:=σ.a+1})).1)
  else if aH pk σ 40=true then
   bM pk (aI l pk n (aX pk [38,124,62,45] (aI l pk n (aC pk σ))).1)
  else(aJ l pk (n+1) (aX pk [61] (aJ l pk (n+1) σ).1).1).1
def need(N:Nat)(σ:St):Nat:=if σ.E=0 then N+1-σ.a else 1
end au
section
open Go.RowKit
open au (St put)
def str(l:List UInt8):Value:=.string ⟨l.toArray⟩
structure RI(w:World)(B:Nat)(s:ByteArray)(σ:St)(on:Bool)(k1 k2:Value):Prop where
 c0:w.cell? ⟨B,0,none⟩=some (.string s)
 c1:w.cell? ⟨B,1,none⟩=some (.int .i64 σ.a)
 c2:w.cell? ⟨B,2,none⟩=some (.int .i64 σ.d)
 c3:w.cell? ⟨B,3,none⟩=some (.int .i64 σ.E)
 c6:w.cell? ⟨B,6,none⟩=some (.bool on)
 c7:w.cell? ⟨B,7,none⟩=some k1
 c8:w.cell? ⟨B,8,none⟩=some k2
 fz:∀i,w.frozen? ⟨B,i,none⟩=false
 rows:∃v4 v5,w.cell? ⟨B,4,none⟩=some v4/\w.cell? ⟨B,5,none⟩=some v5/\w.ownsRow (B+1) 9 1 v4 σ.T.length (σ.T.map str)/\w.ownsRow (B+1) 9 1 v5 σ.C.length (σ.C.map str)/\
  (v4.ownBlock=none\/v5.ownBlock=none\/v4.ownBlock≠v5.ownBlock)
section
variable {w:World} {B:Nat} {s:ByteArray} {σ:St} {on:Bool} {k1 k2:Value}
theorem RI.lt(h:RI w B s σ on k1 k2):B<w.heap.size:=World.block_lt_of_cell? w _ h.c0
theorem RI.drewN(h:RI w B s σ on k1 k2)(n:Nat):RI (w.drewN n) B s σ on k1 k2:=
 ⟨h.c0,h.c1,h.c2,h.c3,h.c6,h.c7,h.c8,h.fz,h.rows⟩
theorem jU{w:World}{base:Nat}{v:Value}{n:Nat}{xs:List Value}(h:w.ownsRow base 9 1 v n xs){a:Addr}(ha:a.block<base)(u:Value):(w.setCell a u).ownsRow base 9 1 v n xs:=
 ownsRow_setCell_below h ha u
theorem RI.set1(h:RI w B s σ on k1 k2){v:Int}{a':Nat}(hv:v=a'):RI (w.setCell ⟨B,1,none⟩ (.int .i64 v)) B s {σ with a:=a'} on k1 k2:=by
 subst hv;obtain⟨v4,v5,r1,r2,r3,r4,r5⟩:=h.rows;refine⟨?_,bQ _ h.c1,?_,?_,?_,?_,?_,λi=>by rw[World.frozen?_setCell];exact h.fz i,v4,v5,?_,?_,jU r3 (ao0 _) _,jU r4 (ao0 _) _,r5⟩
 ·rw[aF _ _ _ (by omega)];exact h.c0
 ·rw[aF _ _ _ (by omega)];exact h.c2
 ·rw[aF _ _ _ (by omega)];exact h.c3
 ·rw[aF _ _ _ (by omega)];exact h.c6
 ·rw[aF _ _ _ (by omega)];exact h.c7
 ·rw[aF _ _ _ (by omega)];exact h.c8
 ·rw[aF _ _ _ (by omega)];exact r1
 ·rw[aF _ _ _ (by omega)];exact r2
theorem RI.set2(h:RI w B s σ on k1 k2){v:Int}{a':Nat}(hv:v=a'):RI (w.setCell ⟨B,2,none⟩ (.int .i64 v)) B s {σ with d:=a'} on k1 k2:=by
 subst hv;obtain⟨v4,v5,r1,r2,r3,r4,r5⟩:=h.rows;refine⟨?_,?_,bQ _ h.c2,?_,?_,?_,?_,λi=>by rw[World.frozen?_setCell];exact h.fz i,v4,v5,?_,?_,jU r3 (ao0 _) _,jU r4 (ao0 _) _,r5⟩
 ·rw[aF _ _ _ (by omega)];exact h.c0
 ·rw[aF _ _ _ (by omega)];exact h.c1
 ·rw[aF _ _ _ (by omega)];exact h.c3
 ·rw[aF _ _ _ (by omega)];exact h.c6
 ·rw[aF _ _ _ (by omega)];exact h.c7
 ·rw[aF _ _ _ (by omega)];exact h.c8
 ·rw[aF _ _ _ (by omega)];exact r1
 ·rw[aF _ _ _ (by omega)];exact r2
theorem RI.aap(h:RI w B s σ on k1 k2)(E:Int):RI (w.setCell ⟨B,3,none⟩ (.int .i64 E)) B s {σ with E:=E} on k1 k2:=by
 obtain⟨v4,v5,r1,r2,r3,r4,r5⟩:=h.rows;refine⟨?_,?_,?_,bQ _ h.c3,?_,?_,?_,λi=>by rw[World.frozen?_setCell];exact h.fz i,v4,v5,?_,?_,jU r3 (ao0 _) _,jU r4 (ao0 _) _,r5⟩
 ·rw[aF _ _ _ (by omega)];exact h.c0
 ·rw[aF _ _ _ (by omega)];exact h.c1
 ·rw[aF _ _ _ (by omega)];exact h.c2
 ·rw[aF _ _ _ (by omega)];exact h.c6
 ·rw[aF _ _ _ (by omega)];exact h.c7
 ·rw[aF _ _ _ (by omega)];exact h.c8
 ·rw[aF _ _ _ (by omega)];exact r1
 ·rw[aF _ _ _ (by omega)];exact r2
end
theorem kC{a b:Bool}(h:a=b):Ending.returned (.bool a)=.returned (.bool b):=by rw[h]
theorem below_drewN(B:Nat)(w:World)(n:Nat):Below B w (w.drewN n):=⟨rfl,rfl,rfl,af0 _,λ_ _=>rfl⟩
theorem bH(B:Nat)(w:World)(i:Nat)(v:Value):Below B w (w.setCell ⟨B,i,none⟩ v):=(Below.refl B w).setCell (p:=⟨B,i,none⟩) (af0 B) v
section
variable (w:World) (B:Nat) (s:ByteArray) (σ:St) (on:Bool) (k1 k2:Value)
theorem aO(c:Int)(hc:c≠0)(h:RI w B s σ on k1 k2) :
  Calls prog 150 #[.pointer (some ⟨B,0,none⟩),.int .u8 c] w λe w'=>e=.returned (.bool (au.aH (pk s) σ c))/\RI w' B s σ on k1 k2/\Below B w w':=by
 have c0:=h.c0;have c1:=h.c1;have c3:=h.c3;by_cases hE:σ.E=0
 ·rw[hE]at c3;by_cases hlt:σ.a<s.size
  ·have hl:decide ((σ.a:Int)<(s.size:Int))=true:=(by simp;omega);have hl':(σ.a:Int)<(s.size:Int):=(by omega);have HE:=aj hE;clear hE
   go_enter func150,ntmps150
   go_wp2_with fail
   go_quiet (fail)
   go_wp2_with fail
   go_ret
   refine⟨?_,h.drewN _,below_drewN _ _ _⟩;unfold au.aH;rw[ar7 (ah HE),Bool.true_and];refine kC ?_;have hp:pk s σ.a=(s[σ.a].toNat:Int):=(by unfold pk;rw[dif_pos hlt]);rw[hp,au2];simp
  ·have hl:decide ((σ.a:Int)<(s.size:Int))=false:=(by simp;omega);have hp:pk s σ.a=0:=(by unfold pk;rw[dif_neg hlt]);have HE:=aj hE;have HP:=aj hp;clear hE hp
   go_enter func150,ntmps150
   go_wp2_with fail
   go_quiet (fail)
   go_wp2_with fail
   go_ret
   refine⟨?_,h.drewN _,below_drewN _ _ _⟩;unfold au.aH;rw[ah HP,aq1 (ao9 hc),Bool.and_false];rfl
 ·have hb:(σ.E==0)=false:=by simpa using hE
  have HE:=aj hE;clear hE
  go_enter func150,ntmps150
  go_wp2_with fail
  go_quiet (fail)
  go_wp2_with fail
  go_ret
  refine⟨?_,h.drewN _,below_drewN _ _ _⟩;unfold au.aH;rw[aq1 (ah HE),at1];rfl
def ints(l:ByteArray):List Int:=l.data.toList.map (λb=>(b.toNat:Int))
theorem TK{l:ByteArray}{c:Int}(k:Nat)(hk:k<l.size)(h:(l[k].toNat:Int)=c):(ints l).contains c=true:=by
 have:c∈ints l:=by
  unfold ints;rw[ah3];exact⟨l[k],by simp[aj1],h⟩
 simpa using this
theorem TJ{l:ByteArray}{c:Int}(h:∀k (hk:k<l.size),(l[k].toNat:Int)≠c):(ints l).contains c=false:=by
 have:¬c∈ints l:=by
  unfold ints;rw[ah3];rintro⟨b,hb,e⟩;obtain⟨k,hk,rfl⟩:=aj2 hb;exact h k (by simpa using hk) (by simpa[aj1]using e)
 simpa using this
theorem WM(s:ByteArray)(σ:St)(l:ByteArray)(k:Nat)(hk:k<l.size)(h:au.aH (pk s) σ (l[k].toNat:Int)=true):au.aX (pk s) (ints l) σ=({σ with a:=σ.a+1},(l[k].toNat:Int)):=by
 unfold au.aH at h;simp at h;unfold au.aX;rw[af9 h.1,af9 (TK k hk h.2.symm),h.2]
theorem Sm(s:ByteArray)(σ:St)(l:ByteArray)(hE:σ.E=0)(h:∀j (hj:j<l.size),au.aH (pk s) σ (l[j].toNat:Int)=false):au.aX (pk s) (ints l) σ=({σ with E:=2},0):=by
 unfold au.aX;rw[af9 hE,TJ (λk hk e=>by have:=h k hk;unfold au.aH at this;rw[e,ar7 hE]at this;simp at this)];rfl
theorem one_any(l:ByteArray)(hl:l.size<=10)(h0:∀k (hk:k<l.size),(l[k].toNat:Int)≠0)(hs:s.size<=100)(ha:σ.a<=s.size)(h:RI w B s σ on k1 k2) :
  Calls prog 155 #[.pointer (some ⟨B,0,none⟩),.string l] w λe w'=>
   e=.returned (.int .u8 (au.aX (pk s) (ints l) σ).2)/\RI w' B s (au.aX (pk s) (ints l) σ).1 on k1 k2/\Below B w w':=by
 go_enter func155,ntmps155
 go_wp2_with fail
 go_loopw [5] (λi wr=>∃k:Nat,k<=l.size/\i=.int .i64 k/\RI wr B s σ on k1 k2/\Below B w wr/\∀j (hj:j<l.size),j<k->au.aH (pk s) σ (l[j].toNat:Int)=false)
  (λi _=>l.size-(intOf i).toNat)
 case atStart=>exact⟨0,ah9 _,rfl,h,Below.refl _ _,λj hj hk=>absurd hk (by omega)⟩
 case round=>
  obtain⟨k,hk,rfl,hI,hb,hno⟩:=hrel;have HNO:=aj hno;clear hno;by_cases hlt:k<l.size
  ·cases wU:au.aH (pk s) σ (l[k].toNat:Int)with
   |true=>
    have HS:=aj wU;clear wU
    go_wp2_with fail
    refine(aO wr B s σ on k1 k2 _ (h0 k hlt) hI).mono ?_;rw[ah HS];rintro e w1 ⟨rfl,h1,b1⟩;have c1:=h1.c1;have f1:=h1.fz 1
    go_wp2_with fail
    go_ret
    have hr:=WM s σ l k hlt (ah HS);rw[hr];exact⟨rfl,h1.set1 (by omega),(hb.trans b1).trans (bH _ _ _ _)⟩
   |false=>
    have HS:=aj wU;clear wU
    go_wp2_with fail
    refine(aO wr B s σ on k1 k2 _ (h0 k hlt) hI).mono ?_;rw[ah HS];rintro e w1 ⟨rfl,h1,b1⟩
    go_wp2_with fail
    go_roundw
    case rel=>
     refine⟨k+1,by omega,by go_num,h1,hb.trans b1,λj hj hjk=>?_⟩;by_cases e:j=k
     ·subst e;exact ah HS
     ·exact ah HNO j hj (by omega)
    case measure=>simp[intOf];omega
  ·have hall:∀j (hj:j<l.size),au.aH (pk s) σ (l[j].toNat:Int)=false:=λj hj=>ah HNO j hj (by omega);have c3:=hI.c3;by_cases hE:σ.E=0
   ·have hr:=Sm s σ l hE hall;have HR:=aj hr;have HA:=aj hall;rw[hE]at c3;have f3:=hI.fz 3;clear hr hall hE
    go_wp2_with fail
    go_ret
    rw[ah HR];exact⟨rfl,hI.aap 2,hb.trans (bH _ _ _ _)⟩
   ·have hr:au.aX (pk s) (ints l) σ=(σ,0):=(by unfold au.aX;rw[af6 hE]);have hbe:(σ.E==0)=false:=(by simpa using hE);have HR:=aj hr;clear hr hall hE
    go_wp2_with fail
    go_ret
    rw[ah HR];exact⟨rfl,hI,hb⟩
end
theorem JQ:ints ⟨#[40]⟩=[40]:=rfl
theorem YV:ints ⟨#[41]⟩=[41]:=rfl
theorem JO:ints ⟨#[44]⟩=[44]:=rfl
theorem TL:ints ⟨#[61]⟩=[61]:=rfl
theorem Yb:ints ⟨#[38,124,62,45]⟩=[38,124,62,45]:=rfl
theorem vH:ints ⟨#[97,98,99,100,101,102,103]⟩=au.letters:=rfl
theorem aaw{l:ByteArray}(h:(l.data.toList.all (λb=>b != 0))=true):∀k (hk:k<l.size),(l[k].toNat:Int)≠0:=by
 intro k hk e;have h1:=ao3.1 h l[k] (by simp[aj1]);have h2:l[k]≠0:=by simpa using h1
 apply h2;apply UInt8.toNat_inj.1;have:l[k].toNat=0:=by omega
 rw[this];rfl
theorem RJ(pk:Nat->Int)(l:List Int)(σ:St):(au.aX pk l σ).1.d=σ.d:=by
 unfold au.aX;split
 ·split<;>rfl
 ·rfl
theorem Wy(pk:Nat->Int)(σ:St):(au.eF pk σ).d=σ.d:=by unfold au.eF;split<;>rfl
section
variable (w:World) (B:Nat) (s:ByteArray) (σ:St) (on:Bool) (k1 k2:Value)
theorem dG(l:ByteArray)(L:List Int)(hL:ints l=L)(hl:l.size<=10)(h0:(l.data.toList.all (λb=>b != 0))=true)(hs:s.size<=100)(ha:σ.a<=s.size)(h:RI w B s σ on k1 k2) :
  Calls prog 155 #[.pointer (some ⟨B,0,none⟩),.string l] w λe w'=>
   e=.returned (.int .u8 (au.aX (pk s) L σ).2)/\RI w' B s (au.aX (pk s) L σ).1 on k1 k2/\Below B w w':=by
 subst hL;exact one_any w B s σ on k1 k2 l hl (aaw h0) hs ha h
theorem dB(hs:s.size<=100)(ha:σ.a<=s.size)(hd:σ.d<=8)(h:RI w B s σ on k1 k2) :
  Calls prog 151 #[.pointer (some ⟨B,0,none⟩)] w λe w'=>e=.returned (.tuple #[])/\RI w' B s (au.aC (pk s) σ) on k1 k2/\Below B w w':=by
 unfold au.aC;have hdd:=RJ (pk s) [40] (au.eF (pk s) σ);rw[Wy]at hdd;cases wU:au.aH (pk s) σ 40 with
 |true=>
  by_cases h8:σ.d=8
  ·have hr:au.eF (pk s) σ={σ with E:=3}:=(by unfold au.eF;rw[af9 ⟨wU,h8⟩]);rw[hr]at hdd ⊢;have HS:=aj wU;have HD:=aj hdd;have H8:=aj h8;clear wU hr hdd h8
   go_enter func151,ntmps151
   go_wp2_with fail
   refine(aO w B s σ on k1 k2 40 (by omega) h).mono ?_;rw[ah HS];rintro e w1 ⟨rfl,h1,b1⟩;have c2:=h1.c2;rw[ah H8]at c2;have c3:=h1.c3;have f3:=h1.fz 3
   go_wp2_with fail
   refine(dG _ B s _ on k1 k2 _ [40] JQ (by decide) (by decide) hs (by exact ha) (h1.aap 3)).mono ?_;generalize hτ:au.aX (pk s) [40] {σ with E:=3}=τ at HD;obtain⟨τ,c⟩:=τ;rintro e w2 ⟨rfl,h2,b2⟩;have c2':=h2.c2;have f2:=h2.fz 2;have hb8:τ.d<=8:=(by have:=ah HD;simp at this;omega);simp only at c2';have HT:=aj hτ;clear hτ
   go_wp2_with fail
   go_end0
   refine⟨rfl,?_,(b1.trans (bH _ _ _ _)).trans (b2.trans (bH _ _ _ _))⟩;rw[ah HT];exact h2.set2 (a':=τ.d+1) (by omega)
  ·have hr:au.eF (pk s) σ=σ:=(by unfold au.eF;rw[af6 (λe=>h8 e.2)]);rw[hr]at hdd ⊢;have ae4:((σ.d:Int)==8)=false:=beq_eq_false_iff_ne.2 (by omega);have HS:=aj wU;have HD:=aj hdd;clear wU hr hdd
   go_enter func151,ntmps151
   go_wp2_with fail
   refine(aO w B s σ on k1 k2 40 (by omega) h).mono ?_;rw[ah HS];rintro e w1 ⟨rfl,h1,b1⟩;have c2:=h1.c2
   go_wp2_with fail
   refine(dG _ B s _ on k1 k2 _ [40] JQ (by decide) (by decide) hs (by exact ha) h1).mono ?_;generalize hτ:au.aX (pk s) [40] σ=τ at HD;obtain⟨τ,c⟩:=τ;rintro e w2 ⟨rfl,h2,b2⟩;have c2':=h2.c2;have f2:=h2.fz 2;have hb8:τ.d<=8:=(by have:=ah HD;simp at this;omega);simp only at c2';have HT:=aj hτ;clear hτ
   go_wp2_with fail
   go_end0
   refine⟨rfl,?_,b1.trans (b2.trans (bH _ _ _ _))⟩;rw[ah HT];exact h2.set2 (a':=τ.d+1) (by omega)
 |false=>
  have hr:au.eF (pk s) σ=σ:=by unfold au.eF;rw[af6 (λe=>by rw[wU]at e;exact absurd e.1 (by simp))]
  rw[hr]at hdd ⊢;have HS:=aj wU;have HD:=aj hdd;clear wU hr hdd
  go_enter func151,ntmps151
  go_wp2_with fail
  refine(aO w B s σ on k1 k2 40 (by omega) h).mono ?_;rw[ah HS];rintro e w1 ⟨rfl,h1,b1⟩
  go_wp2_with fail
  refine(dG _ B s _ on k1 k2 _ [40] JQ (by decide) (by decide) hs (by exact ha) h1).mono ?_;generalize hτ:au.aX (pk s) [40] σ=τ at HD;obtain⟨τ,c⟩:=τ;rintro e w2 ⟨rfl,h2,b2⟩;have c2':=h2.c2;have f2:=h2.fz 2;have hb8:τ.d<=8:=by have:=ah HD;simp at this;omega
  simp only at c2';have HT:=aj hτ;clear hτ
  go_wp2_with fail
  go_end0
  refine⟨rfl,?_,b1.trans (b2.trans (bH _ _ _ _))⟩;rw[ah HT];exact h2.set2 (a':=τ.d+1) (by omega)
theorem dA(hs:s.size<=100)(ha:σ.a<=s.size)(hd:σ.d<=9)(hd1:1<=σ.d)(h:RI w B s σ on k1 k2) :
  Calls prog 153 #[.pointer (some ⟨B,0,none⟩)] w λe w'=>e=.returned (.tuple #[])/\RI w' B s (au.bM (pk s) σ) on k1 k2/\Below B w w':=by
 unfold au.bM;have hdd:=RJ (pk s) [41] σ;have HD:=aj hdd;clear hdd
 go_enter func153,ntmps153
 go_wp2_with fail
 refine(dG _ B s _ on k1 k2 _ [41] YV (by decide) (by decide) hs ha h).mono ?_;generalize hτ:au.aX (pk s) [41] σ=τ at HD;obtain⟨τ,c⟩:=τ;rintro e w2 ⟨rfl,h2,b2⟩;have c2':=h2.c2;have f2:=h2.fz 2;have hb8:τ.d<=9:=by have:=ah HD;simp at this;omega
 have hb1:1<=τ.d:=by have:=ah HD;simp at this;omega
 simp only at c2';have HT:=aj hτ;clear hτ
 go_wp2_with fail
 go_end0
 refine⟨rfl,?_,b2.trans (bH _ _ _ _)⟩;rw[ah HT];exact h2.set2 (a':=τ.d-1) (by omega)
theorem qm{w:World}{base:Nat}{v:Value}{T:List (List UInt8)}(h:w.ownsRow base 9 1 v T.length (T.map str))(h0:0<T.length) :
  ∃g cap,v=.slice (some ⟨g,0,none⟩) T.length cap/\∀j (hj:j<T.length),w.cell? ⟨g,j,none⟩=some (str T[j]):=by
 have h':=h;obtain⟨_,h2⟩:=h;rcases h2 with⟨_,e⟩|⟨g,cap,cur,hv,_⟩
 ·omega
 ·subst hv;exact⟨g,cap,rfl,λj hj=>by rw[h'.cellAt j (by omega)];simp[hj]⟩
def atIdx(T:List (List UInt8))(t:List UInt8):Int:=if T.contains t then(T.idxOf t:Int)else -1
theorem Qp{T:List (List UInt8)}{t:List UInt8}{k:Nat}(hk:k<T.length)(hno:∀j (hj:j<T.length),j<k->T[j]≠t)(h:T[k]=t):atIdx T t=k:=by
 have hm:t∈T:=by rw[<-h];exact af4 hk
 unfold atIdx;rw[af9 (by simpa using hm)];have h1:T.idxOf t<=k:=by
  by_cases hlt:T.idxOf t<=k
  ·exact hlt
  ·exfalso;have:=List.not_of_lt_findIdx (p:=(·==t)) (xs:=T) (i:=k) (by unfold List.idxOf at hlt;omega);simp[h]at this
 have h2:¬T.idxOf t<k:=λhlt=>hno _ (ai5 hm) hlt (aj6 _);omega
theorem Lr{T:List (List UInt8)}{t:List UInt8}(hno:∀j (hj:j<T.length),T[j]≠t):atIdx T t = -1:=by
 have hm:¬t∈T:=λh=>by
  obtain⟨j,hj,e⟩:=aj2 h;exact hno j hj e
 unfold atIdx;rw[af6 (by simpa using hm)]
theorem iI(t:List UInt8)(T:List (List UInt8))(v:Value)(base:Nat)(hT:T.length<=1000)(ho:w.ownsRow base 9 1 v T.length (T.map str)) :
  Calls prog 154 #[v,str t] w λe w'=>e=.returned (.int .i64 (atIdx T t))/\w'=w:=by
 by_cases h0:0<T.length
 ·obtain⟨g,cap,rfl,hc⟩:=qm ho h0;unfold str
  go_enter func154,ntmps154
  go_wp2_with fail
  go_loop [5] (λi=>∃k:Nat,k<=T.length/\i=.int .i64 k/\∀j (hj:j<T.length),j<k->T[j]≠t) (λi=>T.length-(intOf i).toNat)
  case atStart=>exact⟨0,ah9 _,rfl,λj hj hk=>absurd hk (by omega)⟩
  case round=>
   obtain⟨k,hk,rfl,hno⟩:=hrel;have HNO:=aj hno;clear hno;by_cases hlt:k<T.length
   ·have hck:=hc k hlt;unfold str at hck;clear hc;by_cases hq:T[k]=t
    ·have hb:(T[k]==t)=true:=(by simpa using hq);have HQ:=aj hq;clear hq
     go_wp2_with fail
     go_ret
     exact⟨gJ (Qp hlt (ah HNO) (ah HQ)).symm,rfl⟩
    ·have hb:(T[k]==t)=false:=(by simpa using hq);have HQ:=aj hq;clear hq
     go_wp2_with fail
     go_round
     case rel=>
      refine⟨k+1,by omega,by go_num,λj hj hjk=>?_⟩;by_cases e:j=k
      ·subst e;exact ah HQ
      ·exact ah HNO j hj (by omega)
     case measure=>simp[intOf];omega
   ·clear hc
    go_wp2_with fail
    go_ret
    exact⟨gJ (Lr (λj hj=>ah HNO j hj (by omega))).symm,rfl⟩
 ·have hnil:T=[]:=ai6 (by omega);subst hnil;have hv:∃ao cap,v=.slice ao 0 cap:=by
   obtain⟨_,h2⟩:=ho;rcases h2 with⟨e,_⟩|⟨g,cap,cur,e,_⟩
   ·exact⟨_,_,e⟩
   ·exact⟨_,_,e⟩
  obtain⟨ao,cap,rfl⟩:=hv;unfold str;have hm:atIdx [] t = -1:=rfl;rw[hm]
  go_enter func154,ntmps154
  go_wp2_with fail
  refine wp_loop_rounds 1 ?_;rw[rounds_succ]
  go_wp2_with fail
  go_ret
  exact⟨rfl,rfl⟩
end
end
namespace au
structure Fw(N:Nat)(σ τ:St):Prop where
 le:σ.a<=τ.a
 top:τ.a<=N
 t:τ.T.length+σ.a<=σ.T.length+τ.a
 c:τ.C.length+σ.a<=σ.C.length+τ.a
 dead:σ.E≠0->τ.E≠0
theorem Fw.refl{N:Nat}{σ:St}(h:σ.a<=N):Fw N σ σ:=⟨af0 _,h,af0 _,af0 _,id⟩
theorem Fw.trans{N:Nat}{σ τ ρ:St}(h:Fw N σ τ)(k:Fw N τ ρ):Fw N σ ρ:=
 ⟨ah2 h.le k.le,k.top,by have:=h.t;have:=k.t;have:=h.le;have:=k.le;omega,by have:=h.c;have:=k.c;have:=h.le;have:=k.le;omega,λe=>k.dead (h.dead e)⟩
section
variable {pk:Nat->Int} {N:Nat}
theorem iL(hpk:∀a,pk a≠0->a<N){l:List Int}(hl:l.contains 0=false){σ:St}(h:σ.a<=N):Fw N σ (aX pk l σ).1:=by
 unfold aX;split
 ·split
  ·rename_i h1;have:σ.a<N:=hpk _ (λe=>by rw[e,hl]at h1;cases h1);exact⟨by simp,by simp;omega,by simp,by simp,λe=>by simpa using e⟩
  ·exact⟨by simp,by simpa using h,by simp,by simp,λe=>by simp⟩
 ·exact Fw.refl h
theorem RV{σ:St}(h:σ.a<=N):Fw N σ (eF pk σ):=by
 unfold eF;split
 ·exact⟨by simp,by simpa using h,by simp,by simp,λe=>by simp⟩
 ·exact Fw.refl h
theorem YM{σ:St}(h:σ.a<=N):Fw N σ (YN σ):=⟨af0 _,h,af0 _,af0 _,id⟩
theorem RS{σ:St}(h:σ.a<=N):Fw N σ (RU σ):=⟨af0 _,h,af0 _,af0 _,id⟩
theorem gX(hpk:∀a,pk a≠0->a<N){σ:St}(h:σ.a<=N):Fw N σ (aC pk σ):=by
 have h1:=RV (pk:=pk) h;have h2:=iL hpk (l:=[40]) (by rfl) h1.top;exact(h1.trans h2).trans (YM h2.top)
theorem jw(hpk:∀a,pk a≠0->a<N){σ:St}(h:σ.a<=N):Fw N σ (bM pk σ):=by
 have h2:=iL hpk (l:=[41]) (by rfl) h;exact h2.trans (RS h2.top)
theorem oU(pk:Nat->Int)(l:List Int)(σ:St):(aX pk l σ).1.d=σ.d:=by
 unfold aX;split
 ·split<;>rfl
 ·rfl
theorem ZK(pk:Nat->Int)(σ:St):(eF pk σ).d=σ.d:=by unfold eF;split<;>rfl
theorem kK(pk:Nat->Int)(σ:St):(aC pk σ).d=σ.d+1:=by unfold aC;simp[YN,oU,ZK]
theorem Ec(pk:Nat->Int)(σ:St):(bM pk σ).d=σ.d-1:=by unfold bM;simp[RU,oU]
theorem jK(pk:Nat->Int)(σ:St)(h:(aC pk σ).E=0):σ.E=0/\σ.d≠8/\pk σ.a=40/\aC pk σ={σ with a:=σ.a+1,d:=σ.d+1}:=by
 unfold aC YN at h ⊢;simp only at h;by_cases hE:σ.E=0
 ·by_cases h40:pk σ.a=40
  ·have hs:aH pk σ 40=true:=(by simp[aH,hE,h40]);by_cases h8:σ.d=8
   ·have hd:eF pk σ={σ with E:=3}:=(by unfold eF;rw[af9 ⟨hs,h8⟩]);rw[hd]at h;simp[aX]at h
   ·have hd:eF pk σ=σ:=(by unfold eF;rw[af6 (λe=>h8 e.2)]);rw[hd];refine⟨hE,h8,h40,?_⟩;simp[aX,hE,h40]
  ·have hd:eF pk σ=σ:=(by unfold eF;rw[af6 (λe=>by simp[aH,h40]at e)]);rw[hd]at h;simp[aX,hE,h40]at h
 ·have hd:eF pk σ=σ:=by unfold eF;rw[af6 (λe=>by simp[aH,hE]at e)]
  rw[hd]at h;simp[aX,hE]at h
theorem uO(pk:Nat->Int)(l:List Int)(σ:St)(h:(aX pk l σ).1.E=0):σ.E=0/\l.contains (pk σ.a)=true/\aX pk l σ=({σ with a:=σ.a+1},pk σ.a):=by
 unfold aX at h ⊢;by_cases hE:σ.E=0
 ·rw[af9 hE]at h ⊢;by_cases hc:l.contains (pk σ.a)=true
  ·rw[af9 hc];exact⟨hE,hc,rfl⟩
  ·rw[af6 hc]at h;simp at h
 ·rw[af6 hE]at h;exact absurd h hE
theorem X9(pk:Nat->Int)(l:List Int)(σ:St)(h:(aX pk l σ).2≠0):(aX pk l σ).1.E=0/\(aX pk l σ).2=pk σ.a:=by
 unfold aX at h ⊢;by_cases hE:σ.E=0
 ·rw[af9 hE]at h ⊢;by_cases hc:l.contains (pk σ.a)=true
  ·rw[af9 hc];exact⟨hE,rfl⟩
  ·rw[af6 hc]at h;simp at h
 ·rw[af6 hE]at h;simp at h
structure iJ(N:Nat)(σ:St):Prop where
 top:σ.a<=N
 d9:σ.d<=9
 d8:σ.E=0->σ.d<=8
 t:σ.T.length<=σ.a
 c:σ.C.length<=σ.a
theorem iJ.fw{σ τ:St}(h:iJ N σ)(f:Fw N σ τ)(hd:τ.d=σ.d):iJ N τ:=
 ⟨f.top,by rw[hd];exact h.d9,λe=>by rw[hd];exact h.d8 (ak1 λhne=>f.dead hne e),by have:=h.t;have:=f.t;have:=f.le;omega,by have:=h.c;have:=f.c;have:=f.le;omega⟩
theorem iJ.open(hpk:∀a,pk a≠0->a<N){σ:St}(h:iJ N σ)(h8:σ.d<=8):iJ N (aC pk σ):=by
 have f:=gX hpk h.top;refine⟨f.top,by rw[kK];omega,λe=>?_,by have:=h.t;have:=f.t;have:=f.le;omega,by have:=h.c;have:=f.c;have:=f.le;omega⟩;have:=jK pk σ e;rw[kK];omega
theorem GY:letters.contains 0=false:=by decide
theorem gW(hpk:∀a,pk a≠0->a<N)(l:List UInt8):∀(n:Nat) (σ:St),σ.a<=N->Fw N σ (aJ l pk n σ).1/\(aJ l pk n σ).1.d=σ.d:=by
 intro n
 induction n with
 |zero=>intro σ h;exact⟨Fw.refl h,rfl⟩
 |succ n ih=>
  intro σ h;have f1:=iL hpk GY h;have key:Fw N (aX pk letters σ).1 (yM pk (λτ=>(aJ l pk n τ).1) (aX pk letters σ).2 (aX pk letters σ).1)/\(yM pk (λτ=>(aJ l pk n τ).1) (aX pk letters σ).2 (aX pk letters σ).1).d=(aX pk letters σ).1.d:=by
   unfold yM;split
   ·have g1:=gX hpk f1.top;have g2:=ih _ g1.top;have g3:=jw hpk g2.1.top;refine⟨(g1.trans g2.1).trans g3,?_⟩;rw[Ec];simp only[g2.2,kK];omega
   ·split
    ·have g1:=gX hpk f1.top;have g2:=ih _ g1.top;have g3:=iL hpk (l:=[44]) (by rfl) g2.1.top;have g4:=ih _ g3.top;have g5:=jw hpk g4.1.top;refine⟨(((g1.trans g2.1).trans g3).trans g4.1).trans g5,?_⟩;rw[Ec];simp only[g4.2,oU,g2.2,kK];omega
    ·exact⟨Fw.refl f1.top,rfl⟩
  unfold aJ;generalize hτ:yM pk (λτ=>(aJ l pk n τ).1) (aX pk letters σ).2 (aX pk letters σ).1=τ at key;obtain⟨k1,k2⟩:=key;unfold fB;by_cases hE:τ.E=0
  ·rw[af9 hE];have hl:(aX pk letters σ).1.E=0:=ak1 λhne=>k1.dead hne hE;obtain⟨q1,q2,q3⟩:=uO pk letters σ hl;rw[q3]at k1 k2;have:=dW τ.T (cut l σ.a τ.a);refine⟨⟨?_,?_,?_,?_,λe=>absurd q1 e⟩,by simpa using k2⟩
   ·have:=k1.le;simp at this ⊢;omega
   ·exact k1.top
   ·have a1:=k1.t;have a2:=k1.le;simp at a1 a2 ⊢;omega
   ·have a1:=k1.c;have a2:=k1.le;simp at a1 a2 ⊢;omega
  ·rw[af6 hE];exact⟨f1.trans k1,by rw[k2,oU]⟩
end
end au
end Go.Proofs.YthcppbmkacbbiaaGreat
