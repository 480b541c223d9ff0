import Derived.Test.YthcppbmkacbbiaaGreatZAN
set_option linter.unusedSimpArgs false
set_option maxHeartbeats 1000000
set_option maxRecDepth 100000
namespace Go.Proofs.YthcppbmkacbbiaaGreat
open Go.Proofs.Tryz
namespace au
def jn(c:Int)(a b:Bool):Bool:=if c=38 then a&&b else if c=124 then a||b else if c=62 then !a||b else a==b
def vF(l:List UInt8)(pk:Nat->Int)(cl:List Int)(hl:List Bool):Nat->St->Bool
 |0,_=>false
 |n+1,σ=>
  if aH pk σ 33=true then !(vF l pk cl hl n {σ with a:=σ.a+1})
  else if (aH pk σ 80||aH pk σ 81)=true then
   hl.getD ((bM pk (aJ l pk (n+1) (aC pk {σ with a:=σ.a+1})).1).C.idxOf (cut l σ.a (bM pk (aJ l pk (n+1) (aC pk {σ with a:=σ.a+1})).1).a)) false
  else if aH pk σ 40=true then
   jn (aX pk [38,124,62,45] (aI l pk n (aC pk σ))).2 (vF l pk cl hl n (aC pk σ)) (vF l pk cl hl n (aX pk [38,124,62,45] (aI l pk n (aC pk σ))).1)
  else decide (cl.getD (aJ l pk (n+1) σ).2 0=cl.getD (aJ l pk (n+1) (aX pk [61] (aJ l pk (n+1) σ).1).1).2 0)
end au
section
open Go.RowKit
open au (St put)
structure CS(w:World)(B:Nat)(k1 k2:Value)(cl:List Int)(hl:List Bool):Prop where
 r1:∃a c,k1=.slice a cl.length c/\(0<cl.length->∃g,a=some ⟨g,0,none⟩/\g<B/\∀j (hj:j<cl.length),w.cell? ⟨g,j,none⟩=some (.int .i64 cl[j]))
 r2:∃a c,k2=.slice a hl.length c/\(0<hl.length->∃g,a=some ⟨g,0,none⟩/\g<B/\∀j (hj:j<hl.length),w.cell? ⟨g,j,none⟩=some (.bool hl[j]))
theorem CS.below{w w':World}{B:Nat}{k1 k2:Value}{cl:List Int}{hl:List Bool}(h:CS w B k1 k2 cl hl)(b:Below B w w'):CS w' B k1 k2 cl hl:=by
 obtain⟨⟨a,c,e,f⟩,a',c',e',f'⟩:=h;refine⟨⟨a,c,e,λh0=>?_⟩,a',c',e',λh0=>?_⟩
 ·obtain⟨g,h1,h2,h3⟩:=f h0;exact⟨g,h1,h2,λj hj=>(b.cell (p:=⟨g,j,none⟩) h2).trans (h3 j hj)⟩
 ·obtain⟨g,h1,h2,h3⟩:=f' h0;exact⟨g,h1,h2,λj hj=>(b.cell (p:=⟨g,j,none⟩) h2).trans (h3 j hj)⟩
theorem CS.Vy{w:World}{B:Nat}{k1 k2:Value}{cl:List Int}{hl:List Bool}(h:CS w B k1 k2 cl hl){i j:Nat}(hi:i<cl.length)(hj:j<cl.length):∃g c,k1=.slice (some ⟨g,0,none⟩) cl.length c/\w.cell? ⟨g,i,none⟩=some (.int .i64 (cl.getD i 0))/\w.cell? ⟨g,j,none⟩=some (.int .i64 (cl.getD j 0)):=by
 obtain⟨a,c,e,f⟩:=h.r1;obtain⟨g,h1,h2,h3⟩:=f (by omega);subst h1;exact⟨g,c,e,by rw[h3 i hi];simp[ag8,hi],by rw[h3 j hj];simp[ag8,hj]⟩
theorem CS.at2{w:World}{B:Nat}{k1 k2:Value}{cl:List Int}{hl:List Bool}(h:CS w B k1 k2 cl hl){j:Nat}(hj:j<hl.length):∃g c,k2=.slice (some ⟨g,0,none⟩) hl.length c/\g<B/\w.cell? ⟨g,j,none⟩=some (.bool (hl.getD j false)):=by
 obtain⟨a,c,e,f⟩:=h.r2;obtain⟨g,h1,h2,h3⟩:=f (by omega);subst h1;exact⟨g,c,e,h2,by rw[h3 j hj];simp[ag8,hj]⟩
theorem NG{W w3:World}{o:Obj}{v:Value}{B n:Nat}{xs:List Value}(hg:(W.alloc o).grownBy w3 v.ownBlock)(hlt:B<W.heap.size)(r:W.ownsRow (B+1) 9 1 v n xs){g:Nat}(hgB:g<B)(i:Nat):w3.cell? ⟨g,i,none⟩=W.cell? ⟨g,i,none⟩:=
 World.cell?_of_block (((World.grownBy_alloc W o v.ownBlock).trans hg).block g (Nat.lt_trans hgB hlt) (λe=>by have:=(r.lt g e.symm).1;omega))
def BL(B:Nat)(s:ByteArray)(k1 k2:Value)(cl:List Int)(hl:List Bool)(n:Nat):Prop:=
 ∀(w:World) (σ:St),au.iJ s.size σ->au.need s.size σ<=n->RI w B s σ true k1 k2->CS w B k1 k2 cl hl->(au.aI s.data.toList (pk s) n σ).E=0->(au.aI s.data.toList (pk s) n σ).T.length<=cl.length->(au.aI s.data.toList (pk s) n σ).C.length<=hl.length->
  Calls prog 98 #[.pointer (some ⟨B,0,none⟩)] w λe w'=>e=.returned (.bool (au.vF s.data.toList (pk s) cl hl n σ))/\RI w' B s (au.aI s.data.toList (pk s) n σ) true k1 k2/\Below B w w'
section
variable (w:World) (B:Nat) (s:ByteArray) (σ:St) (k1 k2:Value) (cl:List Int) (hl:List Bool)
theorem ZV(hs:s.size<=100)(_hr:au.iJ s.size σ)(n:Nat)(H33:Hid (au.aH (pk s) σ 33=true))(hlt:σ.a<s.size)(hr1:au.iJ s.size {σ with a:=σ.a+1})(hn1:au.need s.size {σ with a:=σ.a+1}<=n)(hF:BL B s k1 k2 cl hl n)(x:Bool)(HX:Hid (au.vF s.data.toList (pk s) cl hl n {σ with a:=σ.a+1}=x))(HV:Hid ((au.aI s.data.toList (pk s) n {σ with a:=σ.a+1}).E=0/\(au.aI s.data.toList (pk s) n {σ with a:=σ.a+1}).T.length<=cl.length/\(au.aI s.data.toList (pk s) n {σ with a:=σ.a+1}).C.length<=hl.length))(HC:Hid (CS w B k1 k2 cl hl))(h:RI w B s σ true k1 k2) :
  Calls prog 98 #[.pointer (some ⟨B,0,none⟩)] w λe w'=>e=.returned (.bool (!x))/\RI w' B s (au.aI s.data.toList (pk s) n {σ with a:=σ.a+1}) true k1 k2/\Below B w w':=by
 have c1':=h.c1
 go_enter func98,ntmps98
 go_wp2_with fail
 refine(aO w B s σ true k1 k2 33 (by omega) h).mono ?_;rw[ah H33];rintro e w1 ⟨rfl,h1,b1⟩;have c1:=h1.c1;have f1:=h1.fz 1
 go_wp2_with fail
 refine(hF _ {σ with a:=σ.a+1} hr1 hn1 (h1.set1 (by omega)) ((ah HC).below (b1.trans (bH _ _ _ _))) (ah HV).1 (ah HV).2.1 (ah HV).2.2).mono ?_;rw[ah HX];rintro e w2 ⟨rfl,hI,hB⟩
 go_wp2_with fail
 go_ret
 exact⟨rfl,hI,(b1.trans (bH _ _ _ _)).trans hB⟩
theorem acu(hs:s.size<=100)(hr:au.iJ s.size σ)(n:Nat)(H33:Hid (au.aH (pk s) σ 33=false))(H80:Hid (au.aH (pk s) σ 80=false))(H81:Hid (au.aH (pk s) σ 81=false))(H40:Hid (au.aH (pk s) σ 40=false))(hn:au.need s.size σ<=n+1)(σ5:St)(H5:Hid ((au.aJ s.data.toList (pk s) (n+1) σ).1=σ5))(h5a:σ5.a<=s.size)(σ6:St)(c6':Int)(H6:Hid (au.aX (pk s) [61] σ5=(σ6,c6')))(hr6:au.iJ s.size σ6)(hn6:au.need s.size σ6<=n+1)(z5 z7:Nat)(y5 y7:Int)(HY5:Hid (cl.getD z5 0=y5))(HY7:Hid (cl.getD z7 0=y7))(H5z:Hid ((au.aJ s.data.toList (pk s) (n+1) σ).2=z5))(H7z:Hid ((au.aJ s.data.toList (pk s) (n+1) σ6).2=z7))(hz5:z5<cl.length)(hz7:z7<cl.length)(HE:Hid ((au.aJ s.data.toList (pk s) (n+1) σ6).1.E=0))(HC:Hid (CS w B k1 k2 cl hl))(h:RI w B s σ true k1 k2) :
  Calls prog 98 #[.pointer (some ⟨B,0,none⟩)] w λe w'=>e=.returned (.bool (decide (y5=y7)))/\RI w' B s ((au.aJ s.data.toList (pk s) (n+1) σ6).1) true k1 k2/\Below B w w':=by
 have c1':=h.c1
 go_enter func98,ntmps98
 go_wp2_with fail
 refine(aO w B s σ true k1 k2 33 (by omega) h).mono ?_;rw[ah H33];rintro e w1 ⟨rfl,h1,b1⟩
 go_wp2_with fail
 refine(aO w1 B s σ true k1 k2 80 (by omega) h1).mono ?_;rw[ah H80];rintro e w2 ⟨rfl,h2,b2⟩
 go_wp2_with fail
 refine(aO w2 B s σ true k1 k2 81 (by omega) h2).mono ?_;rw[ah H81];rintro e w3 ⟨rfl,h3,b3⟩
 go_wp2_with fail
 refine(aO w3 B s σ true k1 k2 40 (by omega) h3).mono ?_;rw[ah H40];rintro e w4 ⟨rfl,h4,b4⟩
 go_wp2_with fail
 refine(dO B s true k1 k2 hs (n+1) w4 σ hr hn h4).mono ?_;rw[ah H5,ah H5z];rintro e w5 ⟨rfl,h5,b5⟩
 go_wp2_with fail
 refine(dG w5 B s σ5 true k1 k2 _ [61] TL (by decide) (by decide) hs h5a h5).mono ?_;rw[ah H6];rintro e w6 ⟨rfl,h6,b6⟩;simp only at h6
 go_wp2_with fail
 refine(dO B s true k1 k2 hs (n+1) w6 σ6 hr6 hn6 h6).mono ?_;rw[ah H7z];rintro e w7 ⟨rfl,h7,b7⟩;have c6:=h7.c6;have hB:=(((((b1.trans b2).trans b3).trans b4).trans b5).trans b6).trans b7;have c3:=h7.c3;rw[ah HE]at c3;have c7:=h7.c7;obtain⟨g,cp,hk1,hg5,hg7⟩:=((ah HC).below hB).Vy hz5 hz7;subst hk1;rw[ah HY5]at hg5;rw[ah HY7]at hg7;have hi5:(z5:Int)<(cl.length:Int):=by omega
 have hi7:(z7:Int)<(cl.length:Int):=by omega
 clear b1 b2 b3 b4 b5 b6 b7 h1 h2 h3 h4 h5 h6
 go_wp2_with fail
 go_quiet (fail)
 go_wp2_with fail
 go_ret
 exact⟨kC (by rw[au2];simp),h7.drewN _,hB.trans (below_drewN _ _ _)⟩
end
section
variable (w:World) (B:Nat) (s:ByteArray) (σ:St) (k1 k2:Value) (cl:List Int) (hl:List Bool)
theorem acv(hs:s.size<=100)(hr:au.iJ s.size σ)(n:Nat)(H33:Hid (au.aH (pk s) σ 33=false))(H80:Hid (au.aH (pk s) σ 80=false))(H81:Hid (au.aH (pk s) σ 81=false))(H40:Hid (au.aH (pk s) σ 40=true))(hd8:σ.d<=8)(hr5:au.iJ s.size (au.aC (pk s) σ))(hn5:au.need s.size (au.aC (pk s) σ)<=n)(hF:BL B s k1 k2 cl hl n)(σ6:St)(H6:Hid (au.aI s.data.toList (pk s) n (au.aC (pk s) σ)=σ6))(h6a:σ6.a<=s.size)(σ7:St)(c7:Int)(H7:Hid (au.aX (pk s) [38,124,62,45] σ6=(σ7,c7)))(hr7:au.iJ s.size σ7)(hn7:au.need s.size σ7<=n)(σ8:St)(H8:Hid (au.aI s.data.toList (pk s) n σ7=σ8))(h8a:σ8.a<=s.size)(h8d:1<=σ8.d/\σ8.d<=9)(x6 x8:Bool)(HX6:Hid (au.vF s.data.toList (pk s) cl hl n (au.aC (pk s) σ)=x6))(HX8:Hid (au.vF s.data.toList (pk s) cl hl n σ7=x8))(hc7:c7=38\/c7=124\/c7=62\/c7=45)(HV6:Hid (σ6.E=0/\σ6.T.length<=cl.length/\σ6.C.length<=hl.length))(HV8:Hid (σ8.E=0/\σ8.T.length<=cl.length/\σ8.C.length<=hl.length))(HC:Hid (CS w B k1 k2 cl hl))(h:RI w B s σ true k1 k2) :
  Calls prog 98 #[.pointer (some ⟨B,0,none⟩)] w λe w'=>e=.returned (.bool (au.jn c7 x6 x8))/\RI w' B s (au.bM (pk s) σ8) true k1 k2/\Below B w w':=by
 have c1':=h.c1
 go_enter func98,ntmps98
 go_wp2_with fail
 refine(aO w B s σ true k1 k2 33 (by omega) h).mono ?_;rw[ah H33];rintro e w1 ⟨rfl,h1,b1⟩
 go_wp2_with fail
 refine(aO w1 B s σ true k1 k2 80 (by omega) h1).mono ?_;rw[ah H80];rintro e w2 ⟨rfl,h2,b2⟩
 go_wp2_with fail
 refine(aO w2 B s σ true k1 k2 81 (by omega) h2).mono ?_;rw[ah H81];rintro e w3 ⟨rfl,h3,b3⟩
 go_wp2_with fail
 refine(aO w3 B s σ true k1 k2 40 (by omega) h3).mono ?_;rw[ah H40];rintro e w4 ⟨rfl,h4,b4⟩
 go_wp2_with fail
 refine(dB w4 B s σ true k1 k2 hs hr.top hd8 h4).mono ?_;rintro e w5 ⟨rfl,h5,b5⟩
 go_wp2_with fail
 refine(hF w5 _ hr5 hn5 h5 ((ah HC).below ((((b1.trans b2).trans b3).trans b4).trans b5)) (by rw[ah H6];exact(ah HV6).1) (by rw[ah H6];exact(ah HV6).2.1) (by rw[ah H6];exact(ah HV6).2.2)).mono ?_;rw[ah H6,ah HX6];rintro e w6 ⟨rfl,h6,b6⟩
 go_wp2_with fail
 refine(dG w6 B s σ6 true k1 k2 _ [38,124,62,45] Yb (by decide) (by decide) hs h6a h6).mono ?_;rw[ah H7];rintro e w7 ⟨rfl,h7,b7⟩;simp only at h7
 go_wp2_with fail
 refine(hF w7 _ hr7 hn7 h7 ((ah HC).below ((((((b1.trans b2).trans b3).trans b4).trans b5).trans b6).trans b7)) (by rw[ah H8];exact(ah HV8).1) (by rw[ah H8];exact(ah HV8).2.1) (by rw[ah H8];exact(ah HV8).2.2)).mono ?_;rw[ah H8,ah HX8];rintro e w8 ⟨rfl,h8,b8⟩
 go_wp2_with fail
 refine(dA w8 B s σ8 true k1 k2 hs h8a h8d.2 h8d.1 h8).mono ?_;rintro e w9 ⟨rfl,h9,b9⟩;have hB:=(((((((b1.trans b2).trans b3).trans b4).trans b5).trans b6).trans b7).trans b8).trans b9;clear b1 b2 b3 b4 b5 b6 b7 b8 b9 h1 h2 h3 h4 h5 h6 h7 h8;rcases hc7 with rfl|rfl|rfl|rfl
 all_goals
  cases x6
  all_goals
   cases x8
   all_goals
    go_wp2_with fail
    go_ret
    exact⟨rfl,h9,hB⟩
end
section
variable (w:World) (B:Nat) (s:ByteArray) (σ:St) (k1 k2:Value) (cl:List Int) (hl:List Bool)
theorem QD(hs:s.size<=100)(_hr:au.iJ s.size σ)(n:Nat)(H33:Hid (au.aH (pk s) σ 33=false))(H80:Hid (au.aH (pk s) σ 80=true))(h1a:σ.a+1<=s.size)(hd8:σ.d<=8)(hr4:au.iJ s.size (au.aC (pk s) {σ with a:=σ.a+1}))(hn4:au.need s.size (au.aC (pk s) {σ with a:=σ.a+1})<=n+1)(σ5:St)(H5:Hid ((au.aJ s.data.toList (pk s) (n+1) (au.aC (pk s) {σ with a:=σ.a+1})).1=σ5))(h5a:σ5.a<=s.size)(h5d:1<=σ5.d/\σ5.d<=9)(τ:St)(HT:Hid (au.bM (pk s) σ5=τ))(HE:Hid (τ.E=0))(hle:σ.a<=τ.a)(hle2:τ.a<=s.size)(hTl:τ.C.length<=500)(tx:List UInt8)(HX:Hid (au.cut s.data.toList σ.a τ.a=tx))(HC:Hid (τ.C.contains tx=true))(hin:τ.C.idxOf tx<hl.length)(y:Bool)(HY:Hid (hl.getD (τ.C.idxOf tx) false=y))(HCS:Hid (CS w B k1 k2 cl hl))(h:RI w B s σ true k1 k2) :
  Calls prog 98 #[.pointer (some ⟨B,0,none⟩)] w λe w'=>e=.returned (.bool (y))/\RI w' B s (τ) true k1 k2/\Below B w w':=by
 have c1':=h.c1
 go_enter func98,ntmps98
 go_wp2_with fail
 refine(aO w B s σ true k1 k2 33 (by omega) h).mono ?_;rw[ah H33];rintro e w1 ⟨rfl,h1,b1⟩
 go_wp2_with fail
 refine(aO w1 B s σ true k1 k2 80 (by omega) h1).mono ?_;rw[ah H80];rintro e w2 ⟨rfl,h2,b2⟩;have c1:=h2.c1;have f1:=h2.fz 1
 go_wp2_with fail
 refine(dB _ B s {σ with a:=σ.a+1} true k1 k2 hs h1a hd8 (h2.set1 (by omega))).mono ?_;rintro e w4 ⟨rfl,h4,b4⟩
 go_wp2_with fail
 refine(dO B s true k1 k2 hs (n+1) w4 _ hr4 hn4 h4).mono ?_;rw[ah H5];generalize (au.aJ s.data.toList (pk s) (n+1) (au.aC (pk s) {σ with a:=σ.a+1})).2=z5;rintro e w5 ⟨rfl,h5,b5⟩
 go_wp2_with fail
 refine(dA w5 B s σ5 true k1 k2 hs h5a h5d.2 h5d.1 h5).mono ?_;rw[ah HT];rintro e w6 ⟨rfl,hI,b6⟩;have hB:=(((b1.trans b2).trans (bH _ _ _ _)).trans b4).trans (b5.trans b6);clear b1 b2 b4 b5 b6 h1 h2 h4 h5 c1 f1;have c0:=hI.c0;have c1:=hI.c1;have c3:=hI.c3;rw[ah HE]at c3;have c6:=hI.c6;have c8:=hI.c8;obtain⟨g,cp,hk2,hgB,hg⟩:=((ah HCS).below hB).at2 hin;subst hk2;rw[ah HY]at hg;have hi5:((τ.C.idxOf tx:Nat):Int)<(hl.length:Int):=by omega
 obtain⟨v4,v5,r1,r2,r3,r4,r5⟩:=hI.rows;have hx1:(σ.a:Int)<=(τ.a:Int):=by omega
 have hx2:(τ.a:Int)<=(s.size:Int):=by omega
 go_wp2_with fail
 go_quiet (fail)
 go_wp2_with fail
 rw[eX,ah HX];refine(iI _ tx τ.C v5 (B+1) (by omega) (by exact r4)).mono ?_;rw[jh (ah HC)];rintro e w2 ⟨rfl,hw2⟩;subst hw2;have hnn:decide (((τ.C.idxOf tx:Nat):Int)<0)=false:=by simp
 go_wp2_with fail
 go_ret
 exact⟨rfl,hI.drewN _,hB.trans (below_drewN _ _ _)⟩
theorem QE(hs:s.size<=100)(_hr:au.iJ s.size σ)(n:Nat)(H33:Hid (au.aH (pk s) σ 33=false))(H80:Hid (au.aH (pk s) σ 80=true))(h1a:σ.a+1<=s.size)(hd8:σ.d<=8)(hr4:au.iJ s.size (au.aC (pk s) {σ with a:=σ.a+1}))(hn4:au.need s.size (au.aC (pk s) {σ with a:=σ.a+1})<=n+1)(σ5:St)(H5:Hid ((au.aJ s.data.toList (pk s) (n+1) (au.aC (pk s) {σ with a:=σ.a+1})).1=σ5))(h5a:σ5.a<=s.size)(h5d:1<=σ5.d/\σ5.d<=9)(τ:St)(HT:Hid (au.bM (pk s) σ5=τ))(HE:Hid (τ.E=0))(hle:σ.a<=τ.a)(hle2:τ.a<=s.size)(hTl:τ.C.length<=500)(tx:List UInt8)(HX:Hid (au.cut s.data.toList σ.a τ.a=tx))(HC:Hid (τ.C.contains tx=false))(hin:τ.C.idxOf tx<hl.length)(y:Bool)(HY:Hid (hl.getD (τ.C.idxOf tx) false=y))(HCS:Hid (CS w B k1 k2 cl hl))(h:RI w B s σ true k1 k2) :
  Calls prog 98 #[.pointer (some ⟨B,0,none⟩)] w λe w'=>e=.returned (.bool (y))/\RI w' B s ({τ with C:=τ.C++[tx]}) true k1 k2/\Below B w w':=by
 have c1':=h.c1
 go_enter func98,ntmps98
 go_wp2_with fail
 refine(aO w B s σ true k1 k2 33 (by omega) h).mono ?_;rw[ah H33];rintro e w1 ⟨rfl,h1,b1⟩
 go_wp2_with fail
 refine(aO w1 B s σ true k1 k2 80 (by omega) h1).mono ?_;rw[ah H80];rintro e w2 ⟨rfl,h2,b2⟩;have c1:=h2.c1;have f1:=h2.fz 1
 go_wp2_with fail
 refine(dB _ B s {σ with a:=σ.a+1} true k1 k2 hs h1a hd8 (h2.set1 (by omega))).mono ?_;rintro e w4 ⟨rfl,h4,b4⟩
 go_wp2_with fail
 refine(dO B s true k1 k2 hs (n+1) w4 _ hr4 hn4 h4).mono ?_;rw[ah H5];generalize (au.aJ s.data.toList (pk s) (n+1) (au.aC (pk s) {σ with a:=σ.a+1})).2=z5;rintro e w5 ⟨rfl,h5,b5⟩
 go_wp2_with fail
 refine(dA w5 B s σ5 true k1 k2 hs h5a h5d.2 h5d.1 h5).mono ?_;rw[ah HT];rintro e w6 ⟨rfl,hI,b6⟩;have hB:=(((b1.trans b2).trans (bH _ _ _ _)).trans b4).trans (b5.trans b6);clear b1 b2 b4 b5 b6 h1 h2 h4 h5 c1 f1;have c0:=hI.c0;have c1:=hI.c1;have c3:=hI.c3;rw[ah HE]at c3;have c6:=hI.c6;have c8:=hI.c8;obtain⟨g,cp,hk2,hgB,hg⟩:=((ah HCS).below hB).at2 hin;subst hk2;rw[ah HY]at hg;have hi5:((τ.C.idxOf tx:Nat):Int)<(hl.length:Int):=by omega
 obtain⟨v4,v5,r1,r2,r3,r4,r5⟩:=hI.rows;have hx1:(σ.a:Int)<=(τ.a:Int):=by omega
 have hx2:(τ.a:Int)<=(s.size:Int):=by omega
 go_wp2_with fail
 go_quiet (fail)
 go_wp2_with fail
 rw[eX,ah HX];refine(iI _ tx τ.C v5 (B+1) (by omega) (by exact r4)).mono ?_;rw[jR (ah HC)];rintro e w2 ⟨rfl,hw2⟩;subst hw2;have hidx:τ.C.idxOf tx=τ.C.length:=ak0 (by simpa using ah HC);rw[hidx]at hg hi5;clear hidx;have abn:g≠B:=by omega
 have abm:B≠g:=by omega
 obtain⟨i0,hi,hz0,hz1,hz2⟩:=info_parts Ag;obtain⟨ao,cap,hv4⟩:=aV r4;subst hv4;have hlt:=hI.lt;have f4:=hI.fz 5;have hstr:str tx=.string ⟨tx.toArray⟩:=rfl;rw[hstr];clear hstr
 go_wp2_with (at_builtin;refine wpList_append_own_at _ rfl _ _ 116 rfl (B+1) 9 i0 (.string ⟨#[]⟩) 1 16 underlying116 hi hz0 hz1 hz2 rfl (by decide) (.slice ao τ.C.length cap) τ.C.length (τ.C.map str) rfl (by exact World.ownsRow.alloc (by exact r4) _) ⟨w6.heap.size,0,none⟩ 1 1 [str tx] rfl rfl (cell_one_new _ _ _) (nU tx) (by unfold maxLen;omega) (by omega) (by simp;omega) ?_;intro v' w3 hown hgrow hnil hloc;obtain⟨ao2,cap2,hv2⟩:=aV hown;subst hv2;have c4':=(fH hgrow (by exact hlt) (by exact r4) 5).trans (by exact r2);have f4':=(iY hgrow (by exact hlt) (by exact r4) 5).trans (by exact f4);have c6':=(fH hgrow (by exact hlt) (by exact r4) 6).trans (by exact c6);have c8':=(fH hgrow (by exact hlt) (by exact r4) 8).trans (by exact c8);have hgL:=(NG hgrow (by exact hlt) (by exact r4) hgB τ.C.length).trans (by exact hg);clear hnil)
 have P:=RI.XO (hI.drewN _) (by exact r1) (by exact r2) (by exact r3) (by exact r4) r5 hown hgrow hloc
 go_ret
 exact⟨rfl,P.1,hB.trans ((below_drewN _ _ _).trans P.2)⟩
end
section
variable (w:World) (B:Nat) (s:ByteArray) (σ:St) (k1 k2:Value) (cl:List Int) (hl:List Bool)
theorem QB(hs:s.size<=100)(_hr:au.iJ s.size σ)(n:Nat)(H33:Hid (au.aH (pk s) σ 33=false))(H80:Hid (au.aH (pk s) σ 80=false))(H81:Hid (au.aH (pk s) σ 81=true))(h1a:σ.a+1<=s.size)(hd8:σ.d<=8)(hr4:au.iJ s.size (au.aC (pk s) {σ with a:=σ.a+1}))(hn4:au.need s.size (au.aC (pk s) {σ with a:=σ.a+1})<=n+1)(σ5:St)(H5:Hid ((au.aJ s.data.toList (pk s) (n+1) (au.aC (pk s) {σ with a:=σ.a+1})).1=σ5))(h5a:σ5.a<=s.size)(h5d:1<=σ5.d/\σ5.d<=9)(τ:St)(HT:Hid (au.bM (pk s) σ5=τ))(HE:Hid (τ.E=0))(hle:σ.a<=τ.a)(hle2:τ.a<=s.size)(hTl:τ.C.length<=500)(tx:List UInt8)(HX:Hid (au.cut s.data.toList σ.a τ.a=tx))(HC:Hid (τ.C.contains tx=true))(hin:τ.C.idxOf tx<hl.length)(y:Bool)(HY:Hid (hl.getD (τ.C.idxOf tx) false=y))(HCS:Hid (CS w B k1 k2 cl hl))(h:RI w B s σ true k1 k2) :
  Calls prog 98 #[.pointer (some ⟨B,0,none⟩)] w λe w'=>e=.returned (.bool (y))/\RI w' B s (τ) true k1 k2/\Below B w w':=by
 have c1':=h.c1
 go_enter func98,ntmps98
 go_wp2_with fail
 refine(aO w B s σ true k1 k2 33 (by omega) h).mono ?_;rw[ah H33];rintro e w1 ⟨rfl,h1,b1⟩
 go_wp2_with fail
 refine(aO w1 B s σ true k1 k2 80 (by omega) h1).mono ?_;rw[ah H80];rintro e w2 ⟨rfl,h2,b2⟩
 go_wp2_with fail
 refine(aO w2 B s σ true k1 k2 81 (by omega) h2).mono ?_;rw[ah H81];rintro e w3 ⟨rfl,h3,b3⟩;have c1:=h3.c1;have f1:=h3.fz 1
 go_wp2_with fail
 refine(dB _ B s {σ with a:=σ.a+1} true k1 k2 hs h1a hd8 (h3.set1 (by omega))).mono ?_;rintro e w4 ⟨rfl,h4,b4⟩
 go_wp2_with fail
 refine(dO B s true k1 k2 hs (n+1) w4 _ hr4 hn4 h4).mono ?_;rw[ah H5];generalize (au.aJ s.data.toList (pk s) (n+1) (au.aC (pk s) {σ with a:=σ.a+1})).2=z5;rintro e w5 ⟨rfl,h5,b5⟩
 go_wp2_with fail
 refine(dA w5 B s σ5 true k1 k2 hs h5a h5d.2 h5d.1 h5).mono ?_;rw[ah HT];rintro e w6 ⟨rfl,hI,b6⟩;have hB:=((((b1.trans b2).trans b3).trans (bH _ _ _ _)).trans b4).trans (b5.trans b6);clear b1 b2 b4 b5 b6 h1 h2 h4 h5 c1 f1 b3 h3;have c0:=hI.c0;have c1:=hI.c1;have c3:=hI.c3;rw[ah HE]at c3;have c6:=hI.c6;have c8:=hI.c8;obtain⟨g,cp,hk2,hgB,hg⟩:=((ah HCS).below hB).at2 hin;subst hk2;rw[ah HY]at hg;have hi5:((τ.C.idxOf tx:Nat):Int)<(hl.length:Int):=by omega
 obtain⟨v4,v5,r1,r2,r3,r4,r5⟩:=hI.rows;have hx1:(σ.a:Int)<=(τ.a:Int):=by omega
 have hx2:(τ.a:Int)<=(s.size:Int):=by omega
 go_wp2_with fail
 go_quiet (fail)
 go_wp2_with fail
 rw[eX,ah HX];refine(iI _ tx τ.C v5 (B+1) (by omega) (by exact r4)).mono ?_;rw[jh (ah HC)];rintro e w2 ⟨rfl,hw2⟩;subst hw2;have hnn:decide (((τ.C.idxOf tx:Nat):Int)<0)=false:=by simp
 go_wp2_with fail
 go_ret
 exact⟨rfl,hI.drewN _,hB.trans (below_drewN _ _ _)⟩
theorem QC(hs:s.size<=100)(_hr:au.iJ s.size σ)(n:Nat)(H33:Hid (au.aH (pk s) σ 33=false))(H80:Hid (au.aH (pk s) σ 80=false))(H81:Hid (au.aH (pk s) σ 81=true))(h1a:σ.a+1<=s.size)(hd8:σ.d<=8)(hr4:au.iJ s.size (au.aC (pk s) {σ with a:=σ.a+1}))(hn4:au.need s.size (au.aC (pk s) {σ with a:=σ.a+1})<=n+1)(σ5:St)(H5:Hid ((au.aJ s.data.toList (pk s) (n+1) (au.aC (pk s) {σ with a:=σ.a+1})).1=σ5))(h5a:σ5.a<=s.size)(h5d:1<=σ5.d/\σ5.d<=9)(τ:St)(HT:Hid (au.bM (pk s) σ5=τ))(HE:Hid (τ.E=0))(hle:σ.a<=τ.a)(hle2:τ.a<=s.size)(hTl:τ.C.length<=500)(tx:List UInt8)(HX:Hid (au.cut s.data.toList σ.a τ.a=tx))(HC:Hid (τ.C.contains tx=false))(hin:τ.C.idxOf tx<hl.length)(y:Bool)(HY:Hid (hl.getD (τ.C.idxOf tx) false=y))(HCS:Hid (CS w B k1 k2 cl hl))(h:RI w B s σ true k1 k2) :
  Calls prog 98 #[.pointer (some ⟨B,0,none⟩)] w λe w'=>e=.returned (.bool (y))/\RI w' B s ({τ with C:=τ.C++[tx]}) true k1 k2/\Below B w w':=by
 have c1':=h.c1
 go_enter func98,ntmps98
 go_wp2_with fail
 refine(aO w B s σ true k1 k2 33 (by omega) h).mono ?_;rw[ah H33];rintro e w1 ⟨rfl,h1,b1⟩
 go_wp2_with fail
 refine(aO w1 B s σ true k1 k2 80 (by omega) h1).mono ?_;rw[ah H80];rintro e w2 ⟨rfl,h2,b2⟩
 go_wp2_with fail
 refine(aO w2 B s σ true k1 k2 81 (by omega) h2).mono ?_;rw[ah H81];rintro e w3 ⟨rfl,h3,b3⟩;have c1:=h3.c1;have f1:=h3.fz 1
 go_wp2_with fail
 refine(dB _ B s {σ with a:=σ.a+1} true k1 k2 hs h1a hd8 (h3.set1 (by omega))).mono ?_;rintro e w4 ⟨rfl,h4,b4⟩
 go_wp2_with fail
 refine(dO B s true k1 k2 hs (n+1) w4 _ hr4 hn4 h4).mono ?_;rw[ah H5];generalize (au.aJ s.data.toList (pk s) (n+1) (au.aC (pk s) {σ with a:=σ.a+1})).2=z5;rintro e w5 ⟨rfl,h5,b5⟩
 go_wp2_with fail
 refine(dA w5 B s σ5 true k1 k2 hs h5a h5d.2 h5d.1 h5).mono ?_;rw[ah HT];rintro e w6 ⟨rfl,hI,b6⟩;have hB:=((((b1.trans b2).trans b3).trans (bH _ _ _ _)).trans b4).trans (b5.trans b6);clear b1 b2 b4 b5 b6 h1 h2 h4 h5 c1 f1 b3 h3;have c0:=hI.c0;have c1:=hI.c1;have c3:=hI.c3;rw[ah HE]at c3;have c6:=hI.c6;have c8:=hI.c8;obtain⟨g,cp,hk2,hgB,hg⟩:=((ah HCS).below hB).at2 hin;subst hk2;rw[ah HY]at hg;have hi5:((τ.C.idxOf tx:Nat):Int)<(hl.length:Int):=by omega
 obtain⟨v4,v5,r1,r2,r3,r4,r5⟩:=hI.rows;have hx1:(σ.a:Int)<=(τ.a:Int):=by omega
 have hx2:(τ.a:Int)<=(s.size:Int):=by omega
 go_wp2_with fail
 go_quiet (fail)
 go_wp2_with fail
 rw[eX,ah HX];refine(iI _ tx τ.C v5 (B+1) (by omega) (by exact r4)).mono ?_;rw[jR (ah HC)];rintro e w2 ⟨rfl,hw2⟩;subst hw2;have hidx:τ.C.idxOf tx=τ.C.length:=ak0 (by simpa using ah HC);rw[hidx]at hg hi5;clear hidx;have abn:g≠B:=by omega
 have abm:B≠g:=by omega
 obtain⟨i0,hi,hz0,hz1,hz2⟩:=info_parts Ag;obtain⟨ao,cap,hv4⟩:=aV r4;subst hv4;have hlt:=hI.lt;have f4:=hI.fz 5;have hstr:str tx=.string ⟨tx.toArray⟩:=rfl;rw[hstr];clear hstr
 go_wp2_with (at_builtin;refine wpList_append_own_at _ rfl _ _ 116 rfl (B+1) 9 i0 (.string ⟨#[]⟩) 1 16 underlying116 hi hz0 hz1 hz2 rfl (by decide) (.slice ao τ.C.length cap) τ.C.length (τ.C.map str) rfl (by exact World.ownsRow.alloc (by exact r4) _) ⟨w6.heap.size,0,none⟩ 1 1 [str tx] rfl rfl (cell_one_new _ _ _) (nU tx) (by unfold maxLen;omega) (by omega) (by simp;omega) ?_;intro v' w3 hown hgrow hnil hloc;obtain⟨ao2,cap2,hv2⟩:=aV hown;subst hv2;have c4':=(fH hgrow (by exact hlt) (by exact r4) 5).trans (by exact r2);have f4':=(iY hgrow (by exact hlt) (by exact r4) 5).trans (by exact f4);have c6':=(fH hgrow (by exact hlt) (by exact r4) 6).trans (by exact c6);have c8':=(fH hgrow (by exact hlt) (by exact r4) 8).trans (by exact c8);have hgL:=(NG hgrow (by exact hlt) (by exact r4) hgB τ.C.length).trans (by exact hg);clear hnil)
 have P:=RI.XO (hI.drewN _) (by exact r1) (by exact r2) (by exact r3) (by exact r4) r5 hown hgrow hloc
 go_ret
 exact⟨rfl,P.1,hB.trans ((below_drewN _ _ _).trans P.2)⟩
end
end
namespace au
def Mn(σ τ:St):Prop:=σ.T.length<=τ.T.length/\σ.C.length<=τ.C.length
theorem Mn.refl(σ:St):Mn σ σ:=⟨af0 _,af0 _⟩
theorem Mn.trans{σ τ ρ:St}(h:Mn σ τ)(g:Mn τ ρ):Mn σ ρ:=⟨ah2 h.1 g.1,ah2 h.2 g.2⟩
section
variable {l:List UInt8} {pk:Nat->Int}
theorem qE(L:List Int)(σ:St):Mn σ (aX pk L σ).1:=by
 unfold aX;split
 ·split
  ·exact Mn.refl σ
  ·exact Mn.refl σ
 ·exact Mn.refl σ
theorem yQ(σ:St):Mn σ (aC pk σ):=by
 have h1:Mn σ (eF pk σ):=by unfold eF;split;exact Mn.refl σ;exact Mn.refl σ
 exact h1.trans (qE (pk:=pk) [40] _)
theorem uX(σ:St):Mn σ (bM pk σ):=qE (pk:=pk) [41] σ
theorem S9(x:Nat)(σ:St):Mn σ (fB l x σ).1:=by
 unfold fB;split
 ·exact⟨(dW _ _).1,af0 _⟩
 ·exact Mn.refl σ
theorem Tc(x:Nat)(σ:St):Mn σ (fC l x σ):=by
 unfold fC;split
 ·exact⟨af0 _,(dW _ _).1⟩
 ·exact Mn.refl σ
theorem yP:∀(n:Nat) (σ:St),Mn σ (aJ l pk n σ).1:=by
 intro n
 induction n with
 |zero=>intro σ;exact Mn.refl σ
 |succ n ih=>
  intro σ;unfold aJ;refine Mn.trans ?_ (S9 _ _);refine(qE (pk:=pk) letters σ).trans ?_;unfold yM;split
  ·exact((yQ _).trans (ih _)).trans (uX _)
  ·split
   ·exact((((yQ _).trans (ih _)).trans (qE _ _)).trans (ih _)).trans (uX _)
   ·exact Mn.refl _
theorem JH:∀(n:Nat) (σ:St),Mn σ (aI l pk n σ):=by
 intro n
 induction n with
 |zero=>intro σ;exact Mn.refl σ
 |succ n ih=>
  intro σ;unfold aI;split
  ·exact Mn.trans (⟨af0 _,af0 _⟩:Mn σ {σ with a:=σ.a+1}) (ih _)
  ·split
   ·refine Mn.trans ?_ (Tc _ _);exact Mn.trans (⟨af0 _,af0 _⟩:Mn σ {σ with a:=σ.a+1}) (((yQ _).trans (yP _ _)).trans (uX _))
   ·split
    ·exact((((yQ _).trans (ih _)).trans (qE _ _)).trans (ih _)).trans (uX _)
    ·exact((yP _ _).trans (qE _ _)).trans (yP _ _)
theorem F6(n:Nat)(σ:St)(h:(aJ l pk (n+1) σ).1.E=0):(aJ l pk (n+1) σ).2<(aJ l pk (n+1) σ).1.T.length:=by
 unfold aJ at h ⊢;generalize yM pk (λτ=>(aJ l pk n τ).1) (aX pk letters σ).2 (aX pk letters σ).1=τ at h ⊢;unfold fB at h ⊢;by_cases hE:τ.E=0
 ·rw[af9 hE];exact iM _ _
 ·rw[af6 hE]at h;exact absurd h hE
variable {σ:St} {n:Nat} {cl:List Int} {hl:List Bool}
theorem YO(h:aH pk σ 33=true):aI l pk (n+1) σ=aI l pk n {σ with a:=σ.a+1}:=by
 rw[aI,af9 h]
theorem RN(h:aH pk σ 33=false)(h8:(aH pk σ 80||aH pk σ 81)=true):aI l pk (n+1) σ=fC l σ.a (bM pk (aJ l pk (n+1) (aC pk {σ with a:=σ.a+1})).1):=by
 rw[aI,af6 (by simp[h]),af9 h8]
theorem aas(h:aH pk σ 33=false)(h8:(aH pk σ 80||aH pk σ 81)=false)(h4:aH pk σ 40=true):aI l pk (n+1) σ=bM pk (aI l pk n (aX pk [38,124,62,45] (aI l pk n (aC pk σ))).1):=by
 rw[aI,af6 (by simp[h]),af6 (by simp[h8]),af9 h4]
theorem aar(h:aH pk σ 33=false)(h8:(aH pk σ 80||aH pk σ 81)=false)(h4:aH pk σ 40=false):aI l pk (n+1) σ=(aJ l pk (n+1) (aX pk [61] (aJ l pk (n+1) σ).1).1).1:=by
 rw[aI,af6 (by simp[h]),af6 (by simp[h8]),af6 (by simp[h4])]
theorem YB(h:aH pk σ 33=true):vF l pk cl hl (n+1) σ=!(vF l pk cl hl n {σ with a:=σ.a+1}):=by
 rw[vF,af9 h]
theorem QS(h:aH pk σ 33=false)(h8:(aH pk σ 80||aH pk σ 81)=true):vF l pk cl hl (n+1) σ=hl.getD ((bM pk (aJ l pk (n+1) (aC pk {σ with a:=σ.a+1})).1).C.idxOf (cut l σ.a (bM pk (aJ l pk (n+1) (aC pk {σ with a:=σ.a+1})).1).a)) false:=by
 rw[vF,af6 (by simp[h]),af9 h8]
theorem aam(h:aH pk σ 33=false)(h8:(aH pk σ 80||aH pk σ 81)=false)(h4:aH pk σ 40=true):vF l pk cl hl (n+1) σ=jn (aX pk [38,124,62,45] (aI l pk n (aC pk σ))).2 (vF l pk cl hl n (aC pk σ)) (vF l pk cl hl n (aX pk [38,124,62,45] (aI l pk n (aC pk σ))).1):=by
 rw[vF,af6 (by simp[h]),af6 (by simp[h8]),af9 h4]
theorem aal(h:aH pk σ 33=false)(h8:(aH pk σ 80||aH pk σ 81)=false)(h4:aH pk σ 40=false):vF l pk cl hl (n+1) σ=decide (cl.getD (aJ l pk (n+1) σ).2 0=cl.getD (aJ l pk (n+1) (aX pk [61] (aJ l pk (n+1) σ).1).1).2 0):=by
 rw[vF,af6 (by simp[h]),af6 (by simp[h8]),af6 (by simp[h4])]
end
end au
open Go.RowKit
open au (St put)
theorem XY(B:Nat)(s:ByteArray)(k1 k2:Value)(cl:List Int)(hl:List Bool)(n:Nat)(hs:s.size<=100)(hF:BL B s k1 k2 cl hl n):BL B s k1 k2 cl hl (n+1):=by
 intro w σ hr hn h hC hE0 hT0 hC0;have hpk:=Ju s;cases h33:au.aH (pk s) σ 33 with
 |true=>
  rw[au.YO h33]at hE0 hT0 hC0 ⊢;rw[au.YB h33];obtain⟨hE,hp⟩:=au.gB h33;have f1:=au.oK hpk (by omega) h33;have hlt:=hpk σ.a (by omega);have hn':s.size+1-σ.a<=n+1:=by unfold au.need at hn;rw[af9 hE]at hn;exact hn
  exact ZV w B s σ k1 k2 cl hl hs hr n (aj h33) hlt (hr.fw f1 rfl) (iy (by omega) (λ_=>by simp;omega)) hF _ (aj rfl) (aj ⟨hE0,hT0,hC0⟩) (aj hC) h
 |false=>
  cases h8:(au.aH (pk s) σ 80||au.aH (pk s) σ 81)with
  |true=>
   rw[au.RN h33 h8]at hE0 hT0 hC0 ⊢;rw[au.QS h33 h8];have h8':au.aH (pk s) σ 80=true\/au.aH (pk s) σ 81=true:=(by simpa using h8);have hlive:σ.E=0/\pk s σ.a≠0:=by
    rcases h8' with e|e
    ·obtain⟨a1,a2⟩:=au.gB e;exact⟨a1,by omega⟩
    ·obtain⟨a1,a2⟩:=au.gB e;exact⟨a1,by omega⟩
   obtain⟨hE,hp⟩:=hlive;have f1:au.Fw s.size σ {σ with a:=σ.a+1}:=by
    rcases h8' with e|e
    ·exact au.oK hpk (by omega) e
    ·exact au.oK hpk (by omega) e
   have hlt:=hpk σ.a hp;have hd8:=hr.d8 hE;have hn':s.size+1-σ.a<=n+1:=(by unfold au.need at hn;rw[af9 hE]at hn;exact hn);have hr1:au.iJ s.size {σ with a:=σ.a+1}:=hr.fw f1 rfl;have hr4:=hr1.open hpk hd8;have f2:=au.gX hpk hr1.top;have hn4:au.need s.size (au.aC (pk s) {σ with a:=σ.a+1})<=n+1:=iy (by omega) (λ_=>by have:=f2.le;simp at this;omega);obtain⟨f3,d3⟩:=au.gW hpk s.data.toList (n+1) (au.aC (pk s) {σ with a:=σ.a+1}) f2.top;rw[au.kK]at d3;generalize h5:(au.aJ s.data.toList (pk s) (n+1) (au.aC (pk s) {σ with a:=σ.a+1})).1=σ5 at f3 d3 hE0 hT0 hC0 ⊢;have f4:=au.jw hpk f3.top;have ff:=((f1.trans f2).trans f3).trans f4;generalize ht:au.bM (pk s) σ5=τ at f4 ff hE0 hT0 hC0 ⊢;have hfit:τ.C.length<=500:=(by have:=ff.c;have:=ff.top;have:=hr.c;have:=ff.le;omega);have hd5:1<=σ5.d/\σ5.d<=9:=(by simp at d3;omega);have hE2:τ.E=0:=by
    by_cases hE2:τ.E=0
    ·exact hE2
    ·rw[wR hE2]at hE0;exact absurd hE0 hE2
   have hin:τ.C.idxOf (au.cut s.data.toList σ.a τ.a)<hl.length:=by
    refine ah4 (au.iM τ.C (au.cut s.data.toList σ.a τ.a)) ?_;have hk:(au.fC s.data.toList σ.a τ).C=put τ.C (au.cut s.data.toList σ.a τ.a):=(by unfold au.fC;rw[af9 hE2]);rw[<-hk];exact hC0
   cases h80:au.aH (pk s) σ 80 with
   |true=>
    cases hc:τ.C.contains (au.cut s.data.toList σ.a τ.a)with
    |true=>
     rw[rH hE2 hc];exact QD w B s σ k1 k2 cl hl hs hr n (aj h33) (aj h80) (by omega) hd8 hr4 hn4 σ5 (aj h5) f3.top hd5 τ (aj ht) (aj hE2) ff.le ff.top hfit _ (aj rfl) (aj hc) hin _ (aj rfl) (aj hC) h
    |false=>
     rw[rJ hE2 hc];exact QE w B s σ k1 k2 cl hl hs hr n (aj h33) (aj h80) (by omega) hd8 hr4 hn4 σ5 (aj h5) f3.top hd5 τ (aj ht) (aj hE2) ff.le ff.top hfit _ (aj rfl) (aj hc) hin _ (aj rfl) (aj hC) h
   |false=>
    have h81:au.aH (pk s) σ 81=true:=(by rw[h80]at h8';simpa using h8');cases hc:τ.C.contains (au.cut s.data.toList σ.a τ.a)with
    |true=>
     rw[rH hE2 hc];exact QB w B s σ k1 k2 cl hl hs hr n (aj h33) (aj h80) (aj h81) (by omega) hd8 hr4 hn4 σ5 (aj h5) f3.top hd5 τ (aj ht) (aj hE2) ff.le ff.top hfit _ (aj rfl) (aj hc) hin _ (aj rfl) (aj hC) h
    |false=>
     rw[rJ hE2 hc];exact QC w B s σ k1 k2 cl hl hs hr n (aj h33) (aj h80) (aj h81) (by omega) hd8 hr4 hn4 σ5 (aj h5) f3.top hd5 τ (aj ht) (aj hE2) ff.le ff.top hfit _ (aj rfl) (aj hc) hin _ (aj rfl) (aj hC) h
  |false=>
   have h8':au.aH (pk s) σ 80=false/\au.aH (pk s) σ 81=false:=(by simpa using h8);cases h40:au.aH (pk s) σ 40 with
   |true=>
    rw[au.aas h33 h8 h40]at hE0 hT0 hC0 ⊢;rw[au.aam h33 h8 h40];obtain⟨hE,hp⟩:=au.gB h40;have hlt:=hpk σ.a (by omega);have hd8:=hr.d8 hE;have hn':s.size+1-σ.a<=n+1:=(by unfold au.need at hn;rw[af9 hE]at hn;exact hn);have hr5:=hr.open hpk hd8;have f2:=au.gX hpk hr.top;have hn5:au.need s.size (au.aC (pk s) σ)<=n:=iy (by omega) (λe=>by
     have:=au.jK (pk s) σ e;rw[this.2.2.2];simp;omega)
    obtain⟨f3,d3⟩:=au.mg hpk s.data.toList n (au.aC (pk s) σ) f2.top;have hr6:=hr5.fw f3 d3;rw[au.kK]at d3;have hn6:1<=n:=(by omega);have Am:(au.aI s.data.toList (pk s) n (au.aC (pk s) σ)).E=0->σ.a+1<=(au.aI s.data.toList (pk s) n (au.aC (pk s) σ)).a:=λe=>by
     have ho:(au.aC (pk s) σ).E=0:=ak1 λhne=>f3.dead hne e;have:=au.jK (pk s) σ ho;have h1:=f3.le;rw[this.2.2.2]at h1 ⊢;simpa using h1
    generalize h6:au.aI s.data.toList (pk s) n (au.aC (pk s) σ)=σ6 at f3 d3 hr6 Am hE0 hT0 hC0 ⊢;have f4:=au.iL hpk (l:=[38,124,62,45]) (by rfl) f3.top;have d4:=au.oU (pk s) [38,124,62,45] σ6;have hr7:=hr6.fw f4 d4;have m7:=au.qE (pk:=pk s) [38,124,62,45] σ6;cases h7:au.aX (pk s) [38,124,62,45] σ6 with
    |mk σ7 c7=>
     rw[h7]at f4 d4 hr7 hE0 hT0 hC0 m7;simp only at f4 d4 hr7 hE0 hT0 hC0 m7 ⊢;have hn7:au.need s.size σ7<=n:=iy hn6 (λe=>by
      have ho:σ6.E=0:=ak1 λhne=>f4.dead hne e;have h1:=Am ho;have h2:=f4.le;omega)
     obtain⟨f5,d5⟩:=au.mg hpk s.data.toList n σ7 f4.top;have m8:=au.JH (l:=s.data.toList) (pk:=pk s) n σ7;generalize h8e:au.aI s.data.toList (pk s) n σ7=σ8 at f5 d5 hE0 hT0 hC0 m8 ⊢;have f6:=au.jw hpk f5.top;have m9:=au.uX (pk:=pk s) σ8;have hE8:σ8.E=0:=ak1 λhne=>f6.dead hne hE0;have hE7:σ7.E=0:=ak1 λhne=>f5.dead hne hE8;have hE6:σ6.E=0:=ak1 λhne=>f4.dead hne hE7;have hc7:c7=38\/c7=124\/c7=62\/c7=45:=by
      have hl7:=au.uO (pk s) [38,124,62,45] σ6 (by rw[h7];exact hE7);have e7:c7=pk s σ6.a:=(by have:=hl7.2.2;rw[h7]at this;exact(Prod.mk.inj this).2);have:=hl7.2.1;rw[<-e7]at this;simpa using this
     exact acv w B s σ k1 k2 cl hl hs hr n (aj h33) (aj h8'.1) (aj h8'.2) (aj h40) hd8 hr5 hn5 hF σ6 (aj h6) f3.top σ7 c7 (aj h7) hr7 hn7 σ8 (aj h8e) f5.top (by omega) _ _ (aj rfl) (aj rfl) hc7
      (aj ⟨hE6,by have:=m7.1;have:=m8.1;have:=m9.1;omega,by have:=m7.2;have:=m8.2;have:=m9.2;omega⟩) (aj ⟨hE8,by have:=m9.1;omega,by have:=m9.2;omega⟩) (aj hC) h
   |false=>
    rw[au.aar h33 h8 h40]at hE0 hT0 hC0 ⊢;rw[au.aal h33 h8 h40];obtain⟨f3,d3⟩:=au.gW hpk s.data.toList (n+1) σ hr.top;have hr5:=hr.fw f3 d3;have Ib:(au.aJ s.data.toList (pk s) (n+1) σ).1.E=0->σ.E=0:=λe=>ak1 λhne=>f3.dead hne e;have i5:=au.F6 (l:=s.data.toList) (pk:=pk s) n σ;generalize h5:(au.aJ s.data.toList (pk s) (n+1) σ).1=σ5 at f3 d3 hr5 Ib hE0 hT0 hC0 i5 ⊢;have f4:=au.iL hpk (l:=[61]) (by rfl) f3.top;have d4:=au.oU (pk s) [61] σ5;have hr6:=hr5.fw f4 d4;have m6:=au.qE (pk:=pk s) [61] σ5;cases h6:au.aX (pk s) [61] σ5 with
    |mk σ6 c6=>
     rw[h6]at f4 d4 hr6 hE0 hT0 hC0 m6;simp only at f4 d4 hr6 hE0 hT0 hC0 m6 ⊢;have hn6:au.need s.size σ6<=n+1:=iy (by omega) (λe=>by
      have ho:σ5.E=0:=ak1 λhne=>f4.dead hne e;have hE:=Ib ho;unfold au.need at hn;rw[af9 hE]at hn;have:=f4.le;have:=f3.le;omega)
     obtain⟨f5,_⟩:=au.gW hpk s.data.toList (n+1) σ6 f4.top;have m7:=au.yP (l:=s.data.toList) (pk:=pk s) (n+1) σ6;have i7:=au.F6 (l:=s.data.toList) (pk:=pk s) n σ6 hE0;have hE6:σ6.E=0:=ak1 λhne=>f5.dead hne hE0;have hE5:σ5.E=0:=ak1 λhne=>f4.dead hne hE6;have i5':=i5 hE5;exact acu w B s σ k1 k2 cl hl hs hr n (aj h33) (aj h8'.1) (aj h8'.2) (aj h40) hn σ5 (aj h5) f3.top σ6 c6 (aj h6) hr6 hn6 _ _ _ _ (aj rfl) (aj rfl) (aj rfl) (aj rfl) (by have:=m6.1;have:=m7.1;omega) (by omega) (aj hE0) (aj hC) h
theorem VI(B:Nat)(s:ByteArray)(k1 k2:Value)(cl:List Int)(hl:List Bool)(hs:s.size<=100):∀n,BL B s k1 k2 cl hl n
 |0=>λw σ hr hn h=>absurd hn (by have:=zS hr.top;omega)
 |n+1=>XY B s k1 k2 cl hl n hs (VI B s k1 k2 cl hl hs n)
def Ja(w:World)(s:ByteArray)(k1 k2:Value):World:=
 w.alloc (.cells #[.string s,.int .i64 0,.int .i64 0,.int .i64 0,.slice none 0 0,.slice none 0 0,.bool true,k1,k2] 120)
theorem NV(w:World)(s:ByteArray)(k1 k2:Value):RI (Ja w s k1 k2) w.heap.size s st0 true k1 k2 where
 c0:=World.cell?_alloc_at _ _ _ _ rfl
 c1:=World.cell?_alloc_at _ _ _ _ rfl
 c2:=World.cell?_alloc_at _ _ _ _ rfl
 c3:=World.cell?_alloc_at _ _ _ _ rfl
 c6:=World.cell?_alloc_at _ _ _ _ rfl
 c7:=World.cell?_alloc_at _ _ _ _ rfl
 c8:=World.cell?_alloc_at _ _ _ _ rfl
 fz:=λ_=>World.frozen?_alloc_at _ _ _ _ rfl
 rows:=⟨.slice none 0 0,.slice none 0 0,World.cell?_alloc_at _ _ _ _ rfl,World.cell?_alloc_at _ _ _ _ rfl,World.ownsRow_nil _ _ _ _,World.ownsRow_nil _ _ _ _,Or.inl rfl⟩
theorem D8(w:World)(s:ByteArray)(k1 k2:Value):Below w.heap.size w (Ja w s k1 k2):=(Below.refl _ _).alloc (af0 _) _
theorem CS.up{w:World}{B B':Nat}{k1 k2:Value}{cl:List Int}{hl:List Bool}(h:CS w B k1 k2 cl hl)(hB:B<=B'):CS w B' k1 k2 cl hl:=by
 obtain⟨⟨a,c,e,f⟩,a',c',e',f'⟩:=h;refine⟨⟨a,c,e,λh0=>?_⟩,a',c',e',λh0=>?_⟩
 ·obtain⟨g,h1,h2,h3⟩:=f h0;exact⟨g,h1,by omega,h3⟩
 ·obtain⟨g,h1,h2,h3⟩:=f' h0;exact⟨g,h1,by omega,h3⟩
def Eb(s:ByteArray)(cl:List Int)(hl:List Bool):Bool:=au.vF s.data.toList (pk s) cl hl (s.size+1) st0
theorem FY(w:World)(s:ByteArray)(k1 k2:Value)(cl:List Int)(hl:List Bool)(hs:s.size<=100)(hE:(gQ s).E=0)(hT:(gQ s).T.length<=cl.length)(hC:(gQ s).C.length<=hl.length)(h:CS w w.heap.size k1 k2 cl hl) :
  Calls prog 61 #[.string s,.agg #[k1,k2]] w λe w'=>e=.returned (.bool (Eb s cl hl))/\Below w.heap.size w w':=by
 have hsz:(w.alloc (.cells #[k1,k2] 118)).heap.size=w.heap.size+1:=by simp
 have hb:Below w.heap.size w (w.alloc (.cells #[k1,k2] 118)):=(Below.refl _ w).alloc (af0 _) _;have hRI:=NV (w.alloc (.cells #[k1,k2] 118)) s k1 k2;have hvb:=D8 (w.alloc (.cells #[k1,k2] 118)) s k1 k2;rw[hsz]at hRI hvb;have hCS:CS (w.alloc (.cells #[k1,k2] 118)) (w.heap.size+1) k1 k2 cl hl:=(h.below hb).up (au9 _);have H:=aj (VI (w.heap.size+1) s k1 k2 cl hl hs (s.size+1) (Ja (w.alloc (.cells #[k1,k2] 118)) s k1 k2) st0 (uq _) (pX _) hRI (hCS.below hvb) hE hT hC);have HB:=aj ((hb.trans (hvb.mono (au9 _))));obtain⟨a1,c1,e1,_⟩:=h.r1;obtain⟨a2,c2,e2,_⟩:=h.r2;subst e1;subst e2;unfold Eb;clear hsz hb hRI hvb hCS h
 go_enter func61,ntmps61
 go_wp2_with fail
 refine(ah H).mono ?_;rintro e w1 ⟨rfl,hI,hB⟩
 go_wp2_with fail
 go_ret
 exact⟨rfl,(ah HB).trans (hB.mono (au9 _))⟩
end Go.Proofs.YthcppbmkacbbiaaGreat
