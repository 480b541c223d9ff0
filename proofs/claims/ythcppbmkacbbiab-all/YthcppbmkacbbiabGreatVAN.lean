import Derived.Test.YthcppbmkacbbiabGreatVAJ
import Derived.Deep.RegionWith
set_option linter.unusedSimpArgs false
set_option maxHeartbeats 1000000
set_option maxRecDepth 100000
namespace Go.Proofs.YthcppbmkacbbiabGreat
open Go.Proofs.Tryz
namespace au
def jn(c:Int)(a b:Bool):Bool:=if c=38 then a&&b else if c=124 then a||b else if c=62 then !a||b else a==b
def vF(l:List UInt8)(pk:Nat->Int)(cl:List Int)(hl:List Bool):Nat->St->Bool
 |0,_=>false
 |n+1,σ=>
  if aJ pk σ 33=true then !(vF l pk cl hl n {σ with a:=σ.a+1})
  else if (aJ pk σ 80||aJ pk σ 81)=true then
   hl.getD ((dA pk (aN l pk (n+1) (aG pk {σ with a:=σ.a+1})).1).C.idxOf (cut l σ.a (dA pk (aN l pk (n+1) (aG pk {σ with a:=σ.a+1})).1).a)) false
  else if aJ pk σ 40=true then
   jn (bF pk [38,124,62,45] (aK l pk n (aG pk σ))).2 (vF l pk cl hl n (aG pk σ)) (vF l pk cl hl n (bF pk [38,124,62,45] (aK l pk n (aG pk σ))).1)
  else decide (cl.getD (aN l pk (n+1) σ).2 0=cl.getD (aN l pk (n+1) (bF pk [61] (aN l pk (n+1) σ).1).1).2 0)
end au
section
open Go.RowKit
open au (St put)
structure CS(w:World)(B:Nat)(k1 k2:Value)(cl:List Int)(hl:List Bool):Prop where
 r1:∃a c,k1=.slice a cl.length c/\(0<cl.length->∃g,a=some (J g 0)/\g<B/\∀j (hj:j<cl.length),w.cell? (J g j)=some (A cl[j]))
 r2:∃a c,k2=.slice a hl.length c/\(0<hl.length->∃g,a=some (J g 0)/\g<B/\∀j (hj:j<hl.length),w.cell? (J g j)=some (.bool hl[j]))
theorem CS.below{w w':World}{B:Nat}{k1 k2:Value}{cl:List Int}{hl:List Bool}(h:CS w B k1 k2 cl hl)(b:Below B w w'):CS w' B k1 k2 cl hl:=by
 obtain⟨⟨a,c,e,f⟩,a',c',e',f'⟩:=h;refine⟨⟨a,c,e,λh0=>?_⟩,a',c',e',λh0=>?_⟩
 ·obtain⟨g,I,M,h3⟩:=f h0;exact⟨g,I,M,λj hj=>(b.cell (p:=(J g j)) M).trans (h3 j hj)⟩
 ·obtain⟨g,I,M,h3⟩:=f' h0;exact⟨g,I,M,λj hj=>(b.cell (p:=(J g j)) M).trans (h3 j hj)⟩
theorem CS.aek{w:World}{B:Nat}{k1 k2:Value}{cl:List Int}{hl:List Bool}(h:CS w B k1 k2 cl hl){i j:Nat}(hi:i<cl.length)(hj:j<cl.length):∃g c,k1=Ac g 0 cl.length c/\w.cell? (J g i)=some (A (cl.getD i 0))/\w.cell? (J g j)=some (A (cl.getD j 0)):=by
 obtain⟨a,c,e,f⟩:=h.r1;obtain⟨g,I,M,h3⟩:=f O;subst I;exact⟨g,c,e,by rw[h3 i hi];simp[ao0,hi],by rw[h3 j hj];simp[ao0,hj]⟩
theorem CS.at2{w:World}{B:Nat}{k1 k2:Value}{cl:List Int}{hl:List Bool}(h:CS w B k1 k2 cl hl){j:Nat}(hj:j<hl.length):∃g c,k2=Ac g 0 hl.length c/\g<B/\w.cell? (J g j)=some (.bool (hl.getD j false)):=by
 obtain⟨a,c,e,f⟩:=h.r2;obtain⟨g,I,M,h3⟩:=f O;subst I;exact⟨g,c,e,M,by rw[h3 j hj];simp[ao0,hj]⟩
theorem Y2{W w3:World}{o:Obj}{v:Value}{B n:Nat}{xs:List Value}(hg:(W.alloc o).grownBy w3 v.ownBlock)(hlt:B<W.heap.size)(r:W.ownsRow (B+1) 9 1 v n xs){g:Nat}(vg:g<B)(i:Nat):w3.cell? (J g i)=W.cell? (J g i):=
 World.cell?_of_block (((World.grownBy_alloc W o v.ownBlock).trans hg).block g (Nat.lt_trans vg hlt) (λe=>by have:=(r.lt g e.symm).1;omega))
def KO(B:Nat)(s:ByteArray)(k1 k2:Value)(cl:List Int)(hl:List Bool)(n:Nat):Prop:=
 ∀(w:World) (σ:St),au.kV s.size σ->au.need s.size σ<=n->RI w B s σ true k1 k2->CS w B k1 k2 cl hl->(au.aK s.data.toList (pk s) n σ).E=0->(au.aK s.data.toList (pk s) n σ).T.length<=cl.length->(au.aK s.data.toList (pk s) n σ).C.length<=hl.length->
  Calls prog 132 #[Aa B 0] w λe w'=>e=.returned (.bool (au.vF s.data.toList (pk s) cl hl n σ))/\RI w' B s (au.aK s.data.toList (pk s) n σ) true k1 k2/\Below B w w'
section
variable (w:World) (B:Nat) (s:ByteArray) (σ:St) (k1 k2:Value) (cl:List Int) (hl:List Bool)
theorem ah5(hs:s.size<=100)(_hr:au.kV s.size σ)(n:Nat)(CB:Hid (au.aJ (pk s) σ 33=true))(hlt:σ.a<s.size)(DX:au.kV s.size {σ with a:=σ.a+1})(hn1:au.need s.size {σ with a:=σ.a+1}<=n)(hF:KO B s k1 k2 cl hl n)(x:Bool)(HX:Hid (au.vF s.data.toList (pk s) cl hl n {σ with a:=σ.a+1}=x))(HV:Hid ((au.aK s.data.toList (pk s) n {σ with a:=σ.a+1}).E=0/\(au.aK s.data.toList (pk s) n {σ with a:=σ.a+1}).T.length<=cl.length/\(au.aK s.data.toList (pk s) n {σ with a:=σ.a+1}).C.length<=hl.length))(HC:Hid (CS w B k1 k2 cl hl))(h:RI w B s σ true k1 k2) :
  Calls prog 132 #[Aa B 0] w λe w'=>e=.returned (.bool (!x))/\RI w' B s (au.aK s.data.toList (pk s) n {σ with a:=σ.a+1}) true k1 k2/\Below B w w':=by
 have FN:=h.c1
 go_in
 go_wp2_with fail
 refine(aQ w B s σ true k1 k2 33 O h).mono ?_;rw[Z CB];rintro e w1 ⟨rfl,I,b1⟩;have c1:=I.c1;have f1:=I.fz 1
 go_wp2_with fail
 refine(hF _ {σ with a:=σ.a+1} DX hn1 (I.set1 O) ((Z HC).below (b1.trans (bU _ _ _ _))) (Z HV).1 (Z HV).2.1 (Z HV).2.2).mono ?_;rw[Z HX];rintro e w2 ⟨rfl,hI,hB⟩
 go_wp2_with fail
 go_ret
 exact⟨rfl,hI,(b1.trans (bU _ _ _ _)).trans hB⟩
theorem akF(hs:s.size<=100)(hr:au.kV s.size σ)(n:Nat)(CB:Hid (au.aJ (pk s) σ 33=false))(FW:Hid (au.aJ (pk s) σ 80=false))(UD:Hid (au.aJ (pk s) σ 81=false))(H40:Hid (au.aJ (pk s) σ 40=false))(hn:au.need s.size σ<=n+1)(σ5:St)(H5:Hid ((au.aN s.data.toList (pk s) (n+1) σ).1=σ5))(D9:σ5.a<=s.size)(σ6:St)(c6':Int)(H6:Hid (au.bF (pk s) [61] σ5=(σ6,c6')))(NQ:au.kV s.size σ6)(hn6:au.need s.size σ6<=n+1)(z5 z7:Nat)(y5 y7:Int)(HY5:Hid (cl.getD z5 0=y5))(HY7:Hid (cl.getD z7 0=y7))(H5z:Hid ((au.aN s.data.toList (pk s) (n+1) σ).2=z5))(H7z:Hid ((au.aN s.data.toList (pk s) (n+1) σ6).2=z7))(hz5:z5<cl.length)(hz7:z7<cl.length)(HE:Hid ((au.aN s.data.toList (pk s) (n+1) σ6).1.E=0))(HC:Hid (CS w B k1 k2 cl hl))(h:RI w B s σ true k1 k2) :
  Calls prog 132 #[Aa B 0] w λe w'=>e=.returned (.bool (decide (y5=y7)))/\RI w' B s ((au.aN s.data.toList (pk s) (n+1) σ6).1) true k1 k2/\Below B w w':=by
 have FN:=h.c1
 go_in
 go_wp2_with fail
 refine(aQ w B s σ true k1 k2 33 O h).mono ?_;rw[Z CB];rintro e w1 ⟨rfl,I,b1⟩
 go_wp2_with fail
 refine(aQ w1 B s σ true k1 k2 80 O I).mono ?_;rw[Z FW];rintro e w2 ⟨rfl,M,b2⟩
 go_wp2_with fail
 refine(aQ w2 B s σ true k1 k2 81 O M).mono ?_;rw[Z UD];rintro e w3 ⟨rfl,h3,b3⟩
 go_wp2_with fail
 refine(aQ w3 B s σ true k1 k2 40 O h3).mono ?_;rw[Z H40];rintro e w4 ⟨rfl,h4,b4⟩
 go_wp2_with fail
 refine(fJ B s true k1 k2 hs (n+1) w4 σ hr hn h4).mono ?_;rw[Z H5,Z H5z];rintro e w5 ⟨rfl,h5,b5⟩
 go_wp2_with fail
 refine(eF w5 B s σ5 true k1 k2 _ [61] acY ane ane hs D9 h5).mono ?_;rw[Z H6];rintro e w6 ⟨rfl,h6,b6⟩;simp only at h6
 go_wp2_with fail
 refine(fJ B s true k1 k2 hs (n+1) w6 σ6 NQ hn6 h6).mono ?_;rw[Z H7z];rintro e w7 ⟨rfl,h7,b7⟩;have c6:=h7.c6;have hB:=(((((b1.trans b2).trans b3).trans b4).trans b5).trans b6).trans b7;have c3:=h7.c3;rw[Z HE]at c3;have c7:=h7.c7;obtain⟨g,cp,O4,AO,hg7⟩:=((Z HC).below hB).aek hz5 hz7;subst O4;rw[Z HY5]at AO;rw[Z HY7]at hg7;have hi5:(z5:Int)<(cl.length:Int):=O
 have hi7:(z7:Int)<(cl.length:Int):=O
 go_wp2_with fail
 go_quiet (fail)
 go_wp2_with fail
 go_ret
 exact⟨oN (by rw[Bool.eq_iff_iff];simp),h7.drewN _,hB.trans (below_drewN _ _ _)⟩
end
section
variable (w:World) (B:Nat) (s:ByteArray) (σ:St) (k1 k2:Value) (cl:List Int) (hl:List Bool)
theorem akG(hs:s.size<=100)(hr:au.kV s.size σ)(n:Nat)(CB:Hid (au.aJ (pk s) σ 33=false))(FW:Hid (au.aJ (pk s) σ 80=false))(UD:Hid (au.aJ (pk s) σ 81=false))(H40:Hid (au.aJ (pk s) σ 40=true))(tJ:σ.d<=8)(JD:au.kV s.size (au.aG (pk s) σ))(hn5:au.need s.size (au.aG (pk s) σ)<=n)(hF:KO B s k1 k2 cl hl n)(σ6:St)(H6:Hid (au.aK s.data.toList (pk s) n (au.aG (pk s) σ)=σ6))(h6a:σ6.a<=s.size)(σ7:St)(c7:Int)(H7:Hid (au.bF (pk s) [38,124,62,45] σ6=(σ7,c7)))(Yo:au.kV s.size σ7)(hn7:au.need s.size σ7<=n)(σ8:St)(H8:Hid (au.aK s.data.toList (pk s) n σ7=σ8))(h8a:σ8.a<=s.size)(h8d:1<=σ8.d/\σ8.d<=9)(x6 x8:Bool)(HX6:Hid (au.vF s.data.toList (pk s) cl hl n (au.aG (pk s) σ)=x6))(HX8:Hid (au.vF s.data.toList (pk s) cl hl n σ7=x8))(hc7:c7=38\/c7=124\/c7=62\/c7=45)(HV6:Hid (σ6.E=0/\σ6.T.length<=cl.length/\σ6.C.length<=hl.length))(HV8:Hid (σ8.E=0/\σ8.T.length<=cl.length/\σ8.C.length<=hl.length))(HC:Hid (CS w B k1 k2 cl hl))(h:RI w B s σ true k1 k2) :
  Calls prog 132 #[Aa B 0] w λe w'=>e=.returned (.bool (au.jn c7 x6 x8))/\RI w' B s (au.dA (pk s) σ8) true k1 k2/\Below B w w':=by
 have FN:=h.c1
 go_in
 go_wp2_with fail
 refine(aQ w B s σ true k1 k2 33 O h).mono ?_;rw[Z CB];rintro e w1 ⟨rfl,I,b1⟩
 go_wp2_with fail
 refine(aQ w1 B s σ true k1 k2 80 O I).mono ?_;rw[Z FW];rintro e w2 ⟨rfl,M,b2⟩
 go_wp2_with fail
 refine(aQ w2 B s σ true k1 k2 81 O M).mono ?_;rw[Z UD];rintro e w3 ⟨rfl,h3,b3⟩
 go_wp2_with fail
 refine(aQ w3 B s σ true k1 k2 40 O h3).mono ?_;rw[Z H40];rintro e w4 ⟨rfl,h4,b4⟩
 go_wp2_with fail
 refine(dV w4 B s σ true k1 k2 hs hr.top tJ h4).mono ?_;rintro e w5 ⟨rfl,h5,b5⟩
 go_wp2_with fail
 refine(hF w5 _ JD hn5 h5 ((Z HC).below ((((b1.trans b2).trans b3).trans b4).trans b5)) (by rw[Z H6];exact(Z HV6).1) (by rw[Z H6];exact(Z HV6).2.1) (by rw[Z H6];exact(Z HV6).2.2)).mono ?_;rw[Z H6,Z HX6];rintro e w6 ⟨rfl,h6,b6⟩
 go_wp2_with fail
 refine(eF w6 B s σ6 true k1 k2 _ [38,124,62,45] afY ane ane hs h6a h6).mono ?_;rw[Z H7];rintro e w7 ⟨rfl,h7,b7⟩;simp only at h7
 go_wp2_with fail
 refine(hF w7 _ Yo hn7 h7 ((Z HC).below ((((((b1.trans b2).trans b3).trans b4).trans b5).trans b6).trans b7)) (by rw[Z H8];exact(Z HV8).1) (by rw[Z H8];exact(Z HV8).2.1) (by rw[Z H8];exact(Z HV8).2.2)).mono ?_;rw[Z H8,Z HX8];rintro e w8 ⟨rfl,h8,b8⟩
 go_wp2_with fail
 refine(dU w8 B s σ8 true k1 k2 hs h8a h8d.2 h8d.1 h8).mono ?_;rintro e w9 ⟨rfl,h9,b9⟩;have hB:=(((((((b1.trans b2).trans b3).trans b4).trans b5).trans b6).trans b7).trans b8).trans b9;obtain rfl|rfl|rfl|rfl:=hc7
 all_goals
  cases x6
  all_goals
   cases x8
   all_goals
    go_wp2_with fail
    go_ret
    exact⟨rfl,h9,hB⟩
end
section
variable (w:World) (B:Nat) (s:ByteArray) (σ:St) (k1 k2:Value) (cl:List Int) (hl:List Bool)
theorem abr(hs:s.size<=100)(_hr:au.kV s.size σ)(n:Nat)(CB:Hid (au.aJ (pk s) σ 33=false))(FW:Hid (au.aJ (pk s) σ 80=true))(BX:σ.a+1<=s.size)(tJ:σ.d<=8)(rE:au.kV s.size (au.aG (pk s) {σ with a:=σ.a+1}))(uK:au.need s.size (au.aG (pk s) {σ with a:=σ.a+1})<=n+1)(σ5:St)(H5:Hid ((au.aN s.data.toList (pk s) (n+1) (au.aG (pk s) {σ with a:=σ.a+1})).1=σ5))(D9:σ5.a<=s.size)(xq:1<=σ5.d/\σ5.d<=9)(τ:St)(HT:Hid (au.dA (pk s) σ5=τ))(HE:Hid (τ.E=0))(hle:σ.a<=τ.a)(wE:τ.a<=s.size)(YB:τ.C.length<=500)(tx:List UInt8)(HX:Hid (au.cut s.data.toList σ.a τ.a=tx))(HC:Hid (τ.C.contains tx=true))(gK:τ.C.idxOf tx<hl.length)(y:Bool)(HY:Hid (hl.getD (τ.C.idxOf tx) false=y))(Hg:Hid (CS w B k1 k2 cl hl))(h:RI w B s σ true k1 k2) :
  Calls prog 132 #[Aa B 0] w λe w'=>e=.returned (.bool (y))/\RI w' B s (τ) true k1 k2/\Below B w w':=by
 have FN:=h.c1
 go_in
 go_wp2_with fail
 refine(aQ w B s σ true k1 k2 33 O h).mono ?_;rw[Z CB];rintro e w1 ⟨rfl,I,b1⟩
 go_wp2_with fail
 refine(aQ w1 B s σ true k1 k2 80 O I).mono ?_;rw[Z FW];rintro e w2 ⟨rfl,M,b2⟩;have c1:=M.c1;have f1:=M.fz 1
 go_wp2_with fail
 refine(dV _ B s {σ with a:=σ.a+1} true k1 k2 hs BX tJ (M.set1 O)).mono ?_;rintro e w4 ⟨rfl,h4,b4⟩
 go_wp2_with fail
 refine(fJ B s true k1 k2 hs (n+1) w4 _ rE uK h4).mono ?_;rw[Z H5];generalize (au.aN s.data.toList (pk s) (n+1) (au.aG (pk s) {σ with a:=σ.a+1})).2=z5;rintro e w5 ⟨rfl,h5,b5⟩
 go_wp2_with fail
 refine(dU w5 B s σ5 true k1 k2 hs D9 xq.2 xq.1 h5).mono ?_;rw[Z HT];rintro e w6 ⟨rfl,hI,b6⟩;have hB:=(((b1.trans b2).trans (bU _ _ _ _)).trans b4).trans (b5.trans b6);have c0:=hI.c0;have c1:=hI.c1;have c3:=hI.c3;rw[Z HE]at c3;have c6:=hI.c6;have c8:=hI.c8;obtain⟨g,cp,sH,vg,hg⟩:=((Z Hg).below hB).at2 gK;subst sH;rw[Z HY]at hg;have hi5:((τ.C.idxOf tx:Nat):Int)<(hl.length:Int):=O
 obtain⟨v4,v5,r1,r2,r3,r4,r5⟩:=hI.rows;have nN:(σ.a:Int)<=(τ.a:Int):=O
 have mM:(τ.a:Int)<=(s.size:Int):=O
 go_wp2_with fail
 go_quiet (fail)
 go_wp2_with fail
 rw[iH,Z HX];refine(kS _ tx τ.C v5 (B+1) O (by exact r4)).mono ?_;rw[lW (Z HC)];rintro e w2 ⟨rfl,eu⟩;subst eu;have Ih:decide (((τ.C.idxOf tx:Nat):Int)<0)=false:=R
 go_wp2_with fail
 go_ret
 exact⟨rfl,hI.drewN _,hB.trans (below_drewN _ _ _)⟩
theorem abt(hs:s.size<=100)(_hr:au.kV s.size σ)(n:Nat)(CB:Hid (au.aJ (pk s) σ 33=false))(FW:Hid (au.aJ (pk s) σ 80=true))(BX:σ.a+1<=s.size)(tJ:σ.d<=8)(rE:au.kV s.size (au.aG (pk s) {σ with a:=σ.a+1}))(uK:au.need s.size (au.aG (pk s) {σ with a:=σ.a+1})<=n+1)(σ5:St)(H5:Hid ((au.aN s.data.toList (pk s) (n+1) (au.aG (pk s) {σ with a:=σ.a+1})).1=σ5))(D9:σ5.a<=s.size)(xq:1<=σ5.d/\σ5.d<=9)(τ:St)(HT:Hid (au.dA (pk s) σ5=τ))(HE:Hid (τ.E=0))(hle:σ.a<=τ.a)(wE:τ.a<=s.size)(YB:τ.C.length<=500)(tx:List UInt8)(HX:Hid (au.cut s.data.toList σ.a τ.a=tx))(HC:Hid (τ.C.contains tx=false))(gK:τ.C.idxOf tx<hl.length)(y:Bool)(HY:Hid (hl.getD (τ.C.idxOf tx) false=y))(Hg:Hid (CS w B k1 k2 cl hl))(h:RI w B s σ true k1 k2) :
  Calls prog 132 #[Aa B 0] w λe w'=>e=.returned (.bool (y))/\RI w' B s ({τ with C:=τ.C++[tx]}) true k1 k2/\Below B w w':=by
 have FN:=h.c1
 go_in
 go_wp2_with fail
 refine(aQ w B s σ true k1 k2 33 O h).mono ?_;rw[Z CB];rintro e w1 ⟨rfl,I,b1⟩
 go_wp2_with fail
 refine(aQ w1 B s σ true k1 k2 80 O I).mono ?_;rw[Z FW];rintro e w2 ⟨rfl,M,b2⟩;have c1:=M.c1;have f1:=M.fz 1
 go_wp2_with fail
 refine(dV _ B s {σ with a:=σ.a+1} true k1 k2 hs BX tJ (M.set1 O)).mono ?_;rintro e w4 ⟨rfl,h4,b4⟩
 go_wp2_with fail
 refine(fJ B s true k1 k2 hs (n+1) w4 _ rE uK h4).mono ?_;rw[Z H5];generalize (au.aN s.data.toList (pk s) (n+1) (au.aG (pk s) {σ with a:=σ.a+1})).2=z5;rintro e w5 ⟨rfl,h5,b5⟩
 go_wp2_with fail
 refine(dU w5 B s σ5 true k1 k2 hs D9 xq.2 xq.1 h5).mono ?_;rw[Z HT];rintro e w6 ⟨rfl,hI,b6⟩;have hB:=(((b1.trans b2).trans (bU _ _ _ _)).trans b4).trans (b5.trans b6);have c0:=hI.c0;have c1:=hI.c1;have c3:=hI.c3;rw[Z HE]at c3;have c6:=hI.c6;have c8:=hI.c8;obtain⟨g,cp,sH,vg,hg⟩:=((Z Hg).below hB).at2 gK;subst sH;rw[Z HY]at hg;have hi5:((τ.C.idxOf tx:Nat):Int)<(hl.length:Int):=O
 obtain⟨v4,v5,r1,r2,r3,r4,r5⟩:=hI.rows;have nN:(σ.a:Int)<=(τ.a:Int):=O
 have mM:(τ.a:Int)<=(s.size:Int):=O
 go_wp2_with fail
 go_quiet (fail)
 go_wp2_with fail
 rw[iH,Z HX];refine(kS _ tx τ.C v5 (B+1) O (by exact r4)).mono ?_;rw[nX (Z HC)];rintro e w2 ⟨rfl,eu⟩;subst eu;have aaH:τ.C.idxOf tx=τ.C.length:=as3 (by simpa using Z HC);rw[aaH]at hg hi5;have ajL:g≠B:=O
 have ajK:B≠g:=O
 obtain⟨i0,hi,jR,ig,jy⟩:=info_parts DR;obtain⟨ao,cap,hv4⟩:=bD r4;subst hv4;have hlt:=hI.lt;have f4:=hI.fz 5;have E8:str tx=.string ⟨tx.toArray⟩:=rfl;rw[E8]
 go_wp2_with (at_builtin;refine wpList_append_own_at _ rfl _ _ 163 rfl (B+1) 9 i0 (.string ⟨#[]⟩) 1 16 underlying163 hi jR ig jy rfl ane (.slice ao τ.C.length cap) τ.C.length (τ.C.map str) rfl (by exact World.ownsRow.alloc (by exact r4) _) (J w6.heap.size 0) 1 1 [str tx] rfl rfl (cell_one_new _ _ _) (vJ tx) anj O anf ?_;intro v' w3 aH dG fC AB;obtain⟨ao2,xO,BD⟩:=bD aH;subst BD;have c4':=(iZ dG (by exact hlt) (by exact r4) 5).trans (by exact r2);have f4':=(lJ dG (by exact hlt) (by exact r4) 5).trans (by exact f4);have c6':=(iZ dG (by exact hlt) (by exact r4) 6).trans (by exact c6);have c8':=(iZ dG (by exact hlt) (by exact r4) 8).trans (by exact c8);have hgL:=(Y2 dG (by exact hlt) (by exact r4) vg τ.C.length).trans (by exact hg);clear fC)
 have P:=RI.afG (hI.drewN _) (by exact r1) (by exact r2) (by exact r3) (by exact r4) r5 aH dG AB
 go_ret
 exact⟨rfl,P.1,hB.trans ((below_drewN _ _ _).trans P.2)⟩
end
section
variable (w:World) (B:Nat) (s:ByteArray) (σ:St) (k1 k2:Value) (cl:List Int) (hl:List Bool)
theorem abp(hs:s.size<=100)(_hr:au.kV s.size σ)(n:Nat)(CB:Hid (au.aJ (pk s) σ 33=false))(FW:Hid (au.aJ (pk s) σ 80=false))(UD:Hid (au.aJ (pk s) σ 81=true))(BX:σ.a+1<=s.size)(tJ:σ.d<=8)(rE:au.kV s.size (au.aG (pk s) {σ with a:=σ.a+1}))(uK:au.need s.size (au.aG (pk s) {σ with a:=σ.a+1})<=n+1)(σ5:St)(H5:Hid ((au.aN s.data.toList (pk s) (n+1) (au.aG (pk s) {σ with a:=σ.a+1})).1=σ5))(D9:σ5.a<=s.size)(xq:1<=σ5.d/\σ5.d<=9)(τ:St)(HT:Hid (au.dA (pk s) σ5=τ))(HE:Hid (τ.E=0))(hle:σ.a<=τ.a)(wE:τ.a<=s.size)(YB:τ.C.length<=500)(tx:List UInt8)(HX:Hid (au.cut s.data.toList σ.a τ.a=tx))(HC:Hid (τ.C.contains tx=true))(gK:τ.C.idxOf tx<hl.length)(y:Bool)(HY:Hid (hl.getD (τ.C.idxOf tx) false=y))(Hg:Hid (CS w B k1 k2 cl hl))(h:RI w B s σ true k1 k2) :
  Calls prog 132 #[Aa B 0] w λe w'=>e=.returned (.bool (y))/\RI w' B s (τ) true k1 k2/\Below B w w':=by
 have FN:=h.c1
 go_in
 go_wp2_with fail
 refine(aQ w B s σ true k1 k2 33 O h).mono ?_;rw[Z CB];rintro e w1 ⟨rfl,I,b1⟩
 go_wp2_with fail
 refine(aQ w1 B s σ true k1 k2 80 O I).mono ?_;rw[Z FW];rintro e w2 ⟨rfl,M,b2⟩
 go_wp2_with fail
 refine(aQ w2 B s σ true k1 k2 81 O M).mono ?_;rw[Z UD];rintro e w3 ⟨rfl,h3,b3⟩;have c1:=h3.c1;have f1:=h3.fz 1
 go_wp2_with fail
 refine(dV _ B s {σ with a:=σ.a+1} true k1 k2 hs BX tJ (h3.set1 O)).mono ?_;rintro e w4 ⟨rfl,h4,b4⟩
 go_wp2_with fail
 refine(fJ B s true k1 k2 hs (n+1) w4 _ rE uK h4).mono ?_;rw[Z H5];generalize (au.aN s.data.toList (pk s) (n+1) (au.aG (pk s) {σ with a:=σ.a+1})).2=z5;rintro e w5 ⟨rfl,h5,b5⟩
 go_wp2_with fail
 refine(dU w5 B s σ5 true k1 k2 hs D9 xq.2 xq.1 h5).mono ?_;rw[Z HT];rintro e w6 ⟨rfl,hI,b6⟩;have hB:=((((b1.trans b2).trans b3).trans (bU _ _ _ _)).trans b4).trans (b5.trans b6);have c0:=hI.c0;have c1:=hI.c1;have c3:=hI.c3;rw[Z HE]at c3;have c6:=hI.c6;have c8:=hI.c8;obtain⟨g,cp,sH,vg,hg⟩:=((Z Hg).below hB).at2 gK;subst sH;rw[Z HY]at hg;have hi5:((τ.C.idxOf tx:Nat):Int)<(hl.length:Int):=O
 obtain⟨v4,v5,r1,r2,r3,r4,r5⟩:=hI.rows;have nN:(σ.a:Int)<=(τ.a:Int):=O
 have mM:(τ.a:Int)<=(s.size:Int):=O
 go_wp2_with fail
 go_quiet (fail)
 go_wp2_with fail
 rw[iH,Z HX];refine(kS _ tx τ.C v5 (B+1) O (by exact r4)).mono ?_;rw[lW (Z HC)];rintro e w2 ⟨rfl,eu⟩;subst eu;have Ih:decide (((τ.C.idxOf tx:Nat):Int)<0)=false:=R
 go_wp2_with fail
 go_ret
 exact⟨rfl,hI.drewN _,hB.trans (below_drewN _ _ _)⟩
theorem abq(hs:s.size<=100)(_hr:au.kV s.size σ)(n:Nat)(CB:Hid (au.aJ (pk s) σ 33=false))(FW:Hid (au.aJ (pk s) σ 80=false))(UD:Hid (au.aJ (pk s) σ 81=true))(BX:σ.a+1<=s.size)(tJ:σ.d<=8)(rE:au.kV s.size (au.aG (pk s) {σ with a:=σ.a+1}))(uK:au.need s.size (au.aG (pk s) {σ with a:=σ.a+1})<=n+1)(σ5:St)(H5:Hid ((au.aN s.data.toList (pk s) (n+1) (au.aG (pk s) {σ with a:=σ.a+1})).1=σ5))(D9:σ5.a<=s.size)(xq:1<=σ5.d/\σ5.d<=9)(τ:St)(HT:Hid (au.dA (pk s) σ5=τ))(HE:Hid (τ.E=0))(hle:σ.a<=τ.a)(wE:τ.a<=s.size)(YB:τ.C.length<=500)(tx:List UInt8)(HX:Hid (au.cut s.data.toList σ.a τ.a=tx))(HC:Hid (τ.C.contains tx=false))(gK:τ.C.idxOf tx<hl.length)(y:Bool)(HY:Hid (hl.getD (τ.C.idxOf tx) false=y))(Hg:Hid (CS w B k1 k2 cl hl))(h:RI w B s σ true k1 k2) :
  Calls prog 132 #[Aa B 0] w λe w'=>e=.returned (.bool (y))/\RI w' B s ({τ with C:=τ.C++[tx]}) true k1 k2/\Below B w w':=by
 have FN:=h.c1
 go_in
 go_wp2_with fail
 refine(aQ w B s σ true k1 k2 33 O h).mono ?_;rw[Z CB];rintro e w1 ⟨rfl,I,b1⟩
 go_wp2_with fail
 refine(aQ w1 B s σ true k1 k2 80 O I).mono ?_;rw[Z FW];rintro e w2 ⟨rfl,M,b2⟩
 go_wp2_with fail
 refine(aQ w2 B s σ true k1 k2 81 O M).mono ?_;rw[Z UD];rintro e w3 ⟨rfl,h3,b3⟩;have c1:=h3.c1;have f1:=h3.fz 1
 go_wp2_with fail
 refine(dV _ B s {σ with a:=σ.a+1} true k1 k2 hs BX tJ (h3.set1 O)).mono ?_;rintro e w4 ⟨rfl,h4,b4⟩
 go_wp2_with fail
 refine(fJ B s true k1 k2 hs (n+1) w4 _ rE uK h4).mono ?_;rw[Z H5];generalize (au.aN s.data.toList (pk s) (n+1) (au.aG (pk s) {σ with a:=σ.a+1})).2=z5;rintro e w5 ⟨rfl,h5,b5⟩
 go_wp2_with fail
 refine(dU w5 B s σ5 true k1 k2 hs D9 xq.2 xq.1 h5).mono ?_;rw[Z HT];rintro e w6 ⟨rfl,hI,b6⟩;have hB:=((((b1.trans b2).trans b3).trans (bU _ _ _ _)).trans b4).trans (b5.trans b6);have c0:=hI.c0;have c1:=hI.c1;have c3:=hI.c3;rw[Z HE]at c3;have c6:=hI.c6;have c8:=hI.c8;obtain⟨g,cp,sH,vg,hg⟩:=((Z Hg).below hB).at2 gK;subst sH;rw[Z HY]at hg;have hi5:((τ.C.idxOf tx:Nat):Int)<(hl.length:Int):=O
 obtain⟨v4,v5,r1,r2,r3,r4,r5⟩:=hI.rows;have nN:(σ.a:Int)<=(τ.a:Int):=O
 have mM:(τ.a:Int)<=(s.size:Int):=O
 go_wp2_with fail
 go_quiet (fail)
 go_wp2_with fail
 rw[iH,Z HX];refine(kS _ tx τ.C v5 (B+1) O (by exact r4)).mono ?_;rw[nX (Z HC)];rintro e w2 ⟨rfl,eu⟩;subst eu;have aaH:τ.C.idxOf tx=τ.C.length:=as3 (by simpa using Z HC);rw[aaH]at hg hi5;have ajL:g≠B:=O
 have ajK:B≠g:=O
 obtain⟨i0,hi,jR,ig,jy⟩:=info_parts DR;obtain⟨ao,cap,hv4⟩:=bD r4;subst hv4;have hlt:=hI.lt;have f4:=hI.fz 5;have E8:str tx=.string ⟨tx.toArray⟩:=rfl;rw[E8]
 go_wp2_with (at_builtin;refine wpList_append_own_at _ rfl _ _ 163 rfl (B+1) 9 i0 (.string ⟨#[]⟩) 1 16 underlying163 hi jR ig jy rfl ane (.slice ao τ.C.length cap) τ.C.length (τ.C.map str) rfl (by exact World.ownsRow.alloc (by exact r4) _) (J w6.heap.size 0) 1 1 [str tx] rfl rfl (cell_one_new _ _ _) (vJ tx) anj O anf ?_;intro v' w3 aH dG fC AB;obtain⟨ao2,xO,BD⟩:=bD aH;subst BD;have c4':=(iZ dG (by exact hlt) (by exact r4) 5).trans (by exact r2);have f4':=(lJ dG (by exact hlt) (by exact r4) 5).trans (by exact f4);have c6':=(iZ dG (by exact hlt) (by exact r4) 6).trans (by exact c6);have c8':=(iZ dG (by exact hlt) (by exact r4) 8).trans (by exact c8);have hgL:=(Y2 dG (by exact hlt) (by exact r4) vg τ.C.length).trans (by exact hg);clear fC)
 have P:=RI.afG (hI.drewN _) (by exact r1) (by exact r2) (by exact r3) (by exact r4) r5 aH dG AB
 go_ret
 exact⟨rfl,P.1,hB.trans ((below_drewN _ _ _).trans P.2)⟩
end
end
namespace au
def Mn(σ τ:St):Prop:=σ.T.length<=τ.T.length/\σ.C.length<=τ.C.length
theorem Mn.refl(σ:St):Mn σ σ:=⟨an2 _,an2 _⟩
theorem Mn.trans{σ τ ρ:St}(h:Mn σ τ)(g:Mn τ ρ):Mn σ ρ:=⟨ap3 h.1 g.1,ap3 h.2 g.2⟩
section
variable {l:List UInt8} {pk:Nat->Int}
theorem yF(L:List Int)(σ:St):Mn σ (bF pk L σ).1:=by
 unfold bF;split
 ·split
  ·exact Mn.refl σ
  ·exact Mn.refl σ
 ·exact Mn.refl σ
theorem Ic(σ:St):Mn σ (aG pk σ):=by
 have I:Mn σ (gJ pk σ):=by unfold gJ;split;exact Mn.refl σ;exact Mn.refl σ
 exact I.trans (yF (pk:=pk) [40] _)
theorem Dz(σ:St):Mn σ (dA pk σ):=yF (pk:=pk) [41] σ
theorem acG(x:Nat)(σ:St):Mn σ (iJ l x σ).1:=by
 unfold iJ;split
 ·exact⟨(gu _ _).1,an2 _⟩
 ·exact Mn.refl σ
theorem acH(x:Nat)(σ:St):Mn σ (iK l x σ):=by
 unfold iK;split
 ·exact⟨an2 _,(gu _ _).1⟩
 ·exact Mn.refl σ
theorem Ib:∀(n:Nat) (σ:St),Mn σ (aN l pk n σ).1:=by
 intro n
 induction n with
 |zero=>intro σ;exact Mn.refl σ
 |succ n ih=>
  intro σ;unfold aN;refine Mn.trans ?_ (acG _ _);refine(yF (pk:=pk) letters σ).trans ?_;unfold Hy;split
  ·exact((Ic _).trans (ih _)).trans (Dz _)
  ·split
   ·exact((((Ic _).trans (ih _)).trans (yF _ _)).trans (ih _)).trans (Dz _)
   ·exact Mn.refl _
theorem VB:∀(n:Nat) (σ:St),Mn σ (aK l pk n σ):=by
 intro n
 induction n with
 |zero=>intro σ;exact Mn.refl σ
 |succ n ih=>
  intro σ;unfold aK;split
  ·exact Mn.trans (⟨an2 _,an2 _⟩:Mn σ {σ with a:=σ.a+1}) (ih _)
  ·split
   ·refine Mn.trans ?_ (acH _ _);exact Mn.trans (⟨an2 _,an2 _⟩:Mn σ {σ with a:=σ.a+1}) (((Ic _).trans (Ib _ _)).trans (Dz _))
   ·split
    ·exact((((Ic _).trans (ih _)).trans (yF _ _)).trans (ih _)).trans (Dz _)
    ·exact((Ib _ _).trans (yF _ _)).trans (Ib _ _)
theorem QF(n:Nat)(σ:St)(h:(aN l pk (n+1) σ).1.E=0):(aN l pk (n+1) σ).2<(aN l pk (n+1) σ).1.T.length:=by
 unfold aN at h ⊢;generalize Hy pk (λτ=>(aN l pk n τ).1) (bF pk letters σ).2 (bF pk letters σ).1=τ at h ⊢;unfold iJ at h ⊢;by_cases hE:τ.E=0
 ·rw[ao4 hE];exact lC _ _
 ·rw[an8 hE]at h;exact absurd h hE
variable {σ:St} {n:Nat} {cl:List Int} {hl:List Bool}
theorem agH(h:aJ pk σ 33=true):aK l pk (n+1) σ=aK l pk n {σ with a:=σ.a+1}:=by
 rw[aK,ao4 h]
theorem ab7(h:aJ pk σ 33=false)(h8:(aJ pk σ 80||aJ pk σ 81)=true):aK l pk (n+1) σ=iK l σ.a (dA pk (aN l pk (n+1) (aG pk {σ with a:=σ.a+1})).1):=by
 rw[aK,an8 (by simp[h]),ao4 h8]
theorem aix(h:aJ pk σ 33=false)(h8:(aJ pk σ 80||aJ pk σ 81)=false)(h4:aJ pk σ 40=true):aK l pk (n+1) σ=dA pk (aK l pk n (bF pk [38,124,62,45] (aK l pk n (aG pk σ))).1):=by
 rw[aK,an8 (by simp[h]),an8 (by simp[h8]),ao4 h4]
theorem aiw(h:aJ pk σ 33=false)(h8:(aJ pk σ 80||aJ pk σ 81)=false)(h4:aJ pk σ 40=false):aK l pk (n+1) σ=(aN l pk (n+1) (bF pk [61] (aN l pk (n+1) σ).1).1).1:=by
 rw[aK,an8 (by simp[h]),an8 (by simp[h8]),an8 (by simp[h4])]
theorem agv(h:aJ pk σ 33=true):vF l pk cl hl (n+1) σ=!(vF l pk cl hl n {σ with a:=σ.a+1}):=by
 rw[vF,ao4 h]
theorem abC(h:aJ pk σ 33=false)(h8:(aJ pk σ 80||aJ pk σ 81)=true):vF l pk cl hl (n+1) σ=hl.getD ((dA pk (aN l pk (n+1) (aG pk {σ with a:=σ.a+1})).1).C.idxOf (cut l σ.a (dA pk (aN l pk (n+1) (aG pk {σ with a:=σ.a+1})).1).a)) false:=by
 rw[vF,an8 (by simp[h]),ao4 h8]
theorem air(h:aJ pk σ 33=false)(h8:(aJ pk σ 80||aJ pk σ 81)=false)(h4:aJ pk σ 40=true):vF l pk cl hl (n+1) σ=jn (bF pk [38,124,62,45] (aK l pk n (aG pk σ))).2 (vF l pk cl hl n (aG pk σ)) (vF l pk cl hl n (bF pk [38,124,62,45] (aK l pk n (aG pk σ))).1):=by
 rw[vF,an8 (by simp[h]),an8 (by simp[h8]),ao4 h4]
theorem aiq(h:aJ pk σ 33=false)(h8:(aJ pk σ 80||aJ pk σ 81)=false)(h4:aJ pk σ 40=false):vF l pk cl hl (n+1) σ=decide (cl.getD (aN l pk (n+1) σ).2 0=cl.getD (aN l pk (n+1) (bF pk [61] (aN l pk (n+1) σ).1).1).2 0):=by
 rw[vF,an8 (by simp[h]),an8 (by simp[h8]),an8 (by simp[h4])]
end
end au
section
open Go.RowKit
open au (St put)
theorem afN(B:Nat)(s:ByteArray)(k1 k2:Value)(cl:List Int)(hl:List Bool)(n:Nat)(hs:s.size<=100)(hF:KO B s k1 k2 cl hl n):KO B s k1 k2 cl hl (n+1):=by
 intro w σ hr hn h hC Bf YC AX;have bY:=Vp s;cases mV:au.aJ (pk s) σ 33 with
 |true=>
  rw[au.agH mV]at Bf YC AX ⊢;rw[au.agv mV];obtain⟨hE,hp⟩:=au.jE mV;have f1:=au.wS bY O mV;have hlt:=bY σ.a O;have hn':s.size+1-σ.a<=n+1:=by unfold au.need at hn;rw[ao4 hE]at hn;exact hn
  exact ah5 w B s σ k1 k2 cl hl hs hr n (F mV) hlt (hr.fw f1 rfl) (kH O (λ_=>anf)) hF _ (F rfl) (F ⟨Bf,YC,AX⟩) (F hC) h
 |false=>
  cases h8:(au.aJ (pk s) σ 80||au.aJ (pk s) σ 81)with
  |true=>
   rw[au.ab7 mV h8]at Bf YC AX ⊢;rw[au.abC mV h8];have Pn:au.aJ (pk s) σ 80=true\/au.aJ (pk s) σ 81=true:=(by simpa using h8);have adk:σ.E=0/\pk s σ.a≠0:=by
    obtain e|e:=Pn
    ·obtain⟨a1,a2⟩:=au.jE e;exact⟨a1,O⟩
    ·obtain⟨a1,a2⟩:=au.jE e;exact⟨a1,O⟩
   obtain⟨hE,hp⟩:=adk;have f1:au.Fw s.size σ {σ with a:=σ.a+1}:=by
    obtain e|e:=Pn
    ·exact au.wS bY O e
    ·exact au.wS bY O e
   have hlt:=bY σ.a hp;have tJ:=hr.d8 hE;have hn':s.size+1-σ.a<=n+1:=(by unfold au.need at hn;rw[ao4 hE]at hn;exact hn);have DX:au.kV s.size {σ with a:=σ.a+1}:=hr.fw f1 rfl;have rE:=DX.open bY tJ;have f2:=au.jV bY DX.top;have uK:au.need s.size (au.aG (pk s) {σ with a:=σ.a+1})<=n+1:=kH O (λ_=>by have:=f2.le;simp at this;omega);obtain⟨f3,d3⟩:=au.jU bY s.data.toList (n+1) (au.aG (pk s) {σ with a:=σ.a+1}) f2.top;rw[au.pF]at d3;generalize h5:(au.aN s.data.toList (pk s) (n+1) (au.aG (pk s) {σ with a:=σ.a+1})).1=σ5 at f3 d3 Bf YC AX ⊢;have f4:=au.mF bY f3.top;have ff:=((f1.trans f2).trans f3).trans f4;generalize ht:au.dA (pk s) σ5=τ at f4 ff Bf YC AX ⊢;have gX:τ.C.length<=500:=(by have:=ff.c;have:=ff.top;have:=hr.c;have:=ff.le;omega);have Wh:1<=σ5.d/\σ5.d<=9:=(by simp at d3;omega);have Fq:τ.E=0:=by
    by_cases Fq:τ.E=0
    ·exact Fq
    ·rw[EW Fq]at Bf;exact absurd Bf Fq
   have gK:τ.C.idxOf (au.cut s.data.toList σ.a τ.a)<hl.length:=by
    refine ap2 (au.lC τ.C (au.cut s.data.toList σ.a τ.a)) ?_;have hk:(au.iK s.data.toList σ.a τ).C=put τ.C (au.cut s.data.toList σ.a τ.a):=(by unfold au.iK;rw[ao4 Fq]);rw[<-hk];exact AX
   cases Qq:au.aJ (pk s) σ 80 with
   |true=>
    cases hc:τ.C.contains (au.cut s.data.toList σ.a τ.a)with
    |true=>
     rw[zI Fq hc];exact abr w B s σ k1 k2 cl hl hs hr n (F mV) (F Qq) O tJ rE uK σ5 (F h5) f3.top Wh τ (F ht) (F Fq) ff.le ff.top gX _ (F rfl) (F hc) gK _ (F rfl) (F hC) h
    |false=>
     rw[zJ Fq hc];exact abt w B s σ k1 k2 cl hl hs hr n (F mV) (F Qq) O tJ rE uK σ5 (F h5) f3.top Wh τ (F ht) (F Fq) ff.le ff.top gX _ (F rfl) (F hc) gK _ (F rfl) (F hC) h
   |false=>
    have h81:au.aJ (pk s) σ 81=true:=(by rw[Qq]at Pn;simpa using Pn);cases hc:τ.C.contains (au.cut s.data.toList σ.a τ.a)with
    |true=>
     rw[zI Fq hc];exact abp w B s σ k1 k2 cl hl hs hr n (F mV) (F Qq) (F h81) O tJ rE uK σ5 (F h5) f3.top Wh τ (F ht) (F Fq) ff.le ff.top gX _ (F rfl) (F hc) gK _ (F rfl) (F hC) h
    |false=>
     rw[zJ Fq hc];exact abq w B s σ k1 k2 cl hl hs hr n (F mV) (F Qq) (F h81) O tJ rE uK σ5 (F h5) f3.top Wh τ (F ht) (F Fq) ff.le ff.top gX _ (F rfl) (F hc) gK _ (F rfl) (F hC) h
  |false=>
   have Pn:au.aJ (pk s) σ 80=false/\au.aJ (pk s) σ 81=false:=(by simpa using h8);cases iC:au.aJ (pk s) σ 40 with
   |true=>
    rw[au.aix mV h8 iC]at Bf YC AX ⊢;rw[au.air mV h8 iC];obtain⟨hE,hp⟩:=au.jE iC;have hlt:=bY σ.a O;have tJ:=hr.d8 hE;have hn':s.size+1-σ.a<=n+1:=(by unfold au.need at hn;rw[ao4 hE]at hn;exact hn);have JD:=hr.open bY tJ;have f2:=au.jV bY hr.top;have hn5:au.need s.size (au.aG (pk s) σ)<=n:=kH O (λe=>by
     have:=au.nH (pk s) σ e;rw[this.2.2.2];simp;omega)
    obtain⟨f3,d3⟩:=au.sN bY s.data.toList n (au.aG (pk s) σ) f2.top;have NQ:=JD.fw f3 d3;rw[au.pF]at d3;have hn6:1<=n:=O;have JH:(au.aK s.data.toList (pk s) n (au.aG (pk s) σ)).E=0->σ.a+1<=(au.aK s.data.toList (pk s) n (au.aG (pk s) σ)).a:=λe=>by
     have ho:(au.aG (pk s) σ).E=0:=Decidable.byContradiction λbg=>f3.dead bg e;have:=au.nH (pk s) σ ho;have I:=f3.le;rw[this.2.2.2]at I ⊢;simpa using I
    generalize h6:au.aK s.data.toList (pk s) n (au.aG (pk s) σ)=σ6 at f3 d3 NQ JH Bf YC AX ⊢;have f4:=au.kZ bY (l:=[38,124,62,45]) (by rfl) f3.top;have d4:=au.wY (pk s) [38,124,62,45] σ6;have Yo:=NQ.fw f4 d4;have m7:=au.yF (pk:=pk s) [38,124,62,45] σ6;cases h7:au.bF (pk s) [38,124,62,45] σ6 with
    |mk σ7 c7=>
     rw[h7]at f4 d4 Yo Bf YC AX m7;simp only at f4 d4 Yo Bf YC AX m7 ⊢;have hn7:au.need s.size σ7<=n:=kH hn6 (λe=>by
      have ho:σ6.E=0:=Decidable.byContradiction λbg=>f4.dead bg e;have I:=JH ho;have M:=f4.le;omega)
     obtain⟨f5,d5⟩:=au.sN bY s.data.toList n σ7 f4.top;have m8:=au.VB (l:=s.data.toList) (pk:=pk s) n σ7;generalize h8e:au.aK s.data.toList (pk s) n σ7=σ8 at f5 d5 Bf YC AX m8 ⊢;have f6:=au.mF bY f5.top;have m9:=au.Dz (pk:=pk s) σ8;have hE8:σ8.E=0:=Decidable.byContradiction λbg=>f6.dead bg Bf;have hE7:σ7.E=0:=Decidable.byContradiction λbg=>f5.dead bg hE8;have hE6:σ6.E=0:=Decidable.byContradiction λbg=>f4.dead bg hE7;have hc7:c7=38\/c7=124\/c7=62\/c7=45:=by
      have hl7:=au.Dp (pk s) [38,124,62,45] σ6 (by rw[h7];exact hE7);have e7:c7=pk s σ6.a:=(by have:=hl7.2.2;rw[h7]at this;exact(Prod.mk.inj this).2);have:=hl7.2.1;rw[<-e7]at this;simpa using this
     exact akG w B s σ k1 k2 cl hl hs hr n (F mV) (F Pn.1) (F Pn.2) (F iC) tJ JD hn5 hF σ6 (F h6) f3.top σ7 c7 (F h7) Yo hn7 σ8 (F h8e) f5.top O _ _ (F rfl) (F rfl) hc7
      (F ⟨hE6,by have:=m7.1;have:=m8.1;have:=m9.1;omega,by have:=m7.2;have:=m8.2;have:=m9.2;omega⟩) (F ⟨hE8,by have:=m9.1;omega,by have:=m9.2;omega⟩) (F hC) h
   |false=>
    rw[au.aiw mV h8 iC]at Bf YC AX ⊢;rw[au.aiq mV h8 iC];obtain⟨f3,d3⟩:=au.jU bY s.data.toList (n+1) σ hr.top;have JD:=hr.fw f3 d3;have Tv:(au.aN s.data.toList (pk s) (n+1) σ).1.E=0->σ.E=0:=λe=>Decidable.byContradiction λbg=>f3.dead bg e;have i5:=au.QF (l:=s.data.toList) (pk:=pk s) n σ;generalize h5:(au.aN s.data.toList (pk s) (n+1) σ).1=σ5 at f3 d3 JD Tv Bf YC AX i5 ⊢;have f4:=au.kZ bY (l:=[61]) (by rfl) f3.top;have d4:=au.wY (pk s) [61] σ5;have NQ:=JD.fw f4 d4;have m6:=au.yF (pk:=pk s) [61] σ5;cases h6:au.bF (pk s) [61] σ5 with
    |mk σ6 c6=>
     rw[h6]at f4 d4 NQ Bf YC AX m6;simp only at f4 d4 NQ Bf YC AX m6 ⊢;have hn6:au.need s.size σ6<=n+1:=kH O (λe=>by
      have ho:σ5.E=0:=Decidable.byContradiction λbg=>f4.dead bg e;have hE:=Tv ho;unfold au.need at hn;rw[ao4 hE]at hn;have:=f4.le;have:=f3.le;omega)
     obtain⟨f5,_⟩:=au.jU bY s.data.toList (n+1) σ6 f4.top;have m7:=au.Ib (l:=s.data.toList) (pk:=pk s) (n+1) σ6;have i7:=au.QF (l:=s.data.toList) (pk:=pk s) n σ6 Bf;have hE6:σ6.E=0:=Decidable.byContradiction λbg=>f5.dead bg Bf;have hE5:σ5.E=0:=Decidable.byContradiction λbg=>f4.dead bg hE6;have i5':=i5 hE5;exact akF w B s σ k1 k2 cl hl hs hr n (F mV) (F Pn.1) (F Pn.2) (F iC) hn σ5 (F h5) f3.top σ6 c6 (F h6) NQ hn6 _ _ _ _ (F rfl) (F rfl) (F rfl) (F rfl) (by have:=m6.1;have:=m7.1;omega) O (F Bf) (F hC) h
theorem aev(B:Nat)(s:ByteArray)(k1 k2:Value)(cl:List Int)(hl:List Bool)(hs:s.size<=100):∀n,KO B s k1 k2 cl hl n
 |0=>λw σ hr hn h=>absurd hn (by have:=Jh hr.top;omega)
 |n+1=>afN B s k1 k2 cl hl n hs (aev B s k1 k2 cl hl hs n)
def UZ(w:World)(s:ByteArray)(k1 k2:Value):World:=
 w.alloc (.cells #[.string s,A 0,A 0,A 0,.slice none 0 0,.slice none 0 0,.bool true,k1,k2] 168)
theorem Ze(w:World)(s:ByteArray)(k1 k2:Value):RI (UZ w s k1 k2) w.heap.size s st0 true k1 k2 where
 c0:=World.cell?_alloc_at _ _ _ _ rfl
 c1:=World.cell?_alloc_at _ _ _ _ rfl
 c2:=World.cell?_alloc_at _ _ _ _ rfl
 c3:=World.cell?_alloc_at _ _ _ _ rfl
 c6:=World.cell?_alloc_at _ _ _ _ rfl
 c7:=World.cell?_alloc_at _ _ _ _ rfl
 c8:=World.cell?_alloc_at _ _ _ _ rfl
 fz:=λ_=>World.frozen?_alloc_at _ _ _ _ rfl
 rows:=⟨.slice none 0 0,.slice none 0 0,World.cell?_alloc_at _ _ _ _ rfl,World.cell?_alloc_at _ _ _ _ rfl,World.ownsRow_nil _ _ _ _,World.ownsRow_nil _ _ _ _,Or.inl rfl⟩
theorem Oo(w:World)(s:ByteArray)(k1 k2:Value):Below w.heap.size w (UZ w s k1 k2):=(Below.refl _ _).alloc (an2 _) _
theorem CS.up{w:World}{B B':Nat}{k1 k2:Value}{cl:List Int}{hl:List Bool}(h:CS w B k1 k2 cl hl)(hB:B<=B'):CS w B' k1 k2 cl hl:=by
 obtain⟨⟨a,c,e,f⟩,a',c',e',f'⟩:=h;refine⟨⟨a,c,e,λh0=>?_⟩,a',c',e',λh0=>?_⟩
 ·obtain⟨g,I,M,h3⟩:=f h0;exact⟨g,I,O,h3⟩
 ·obtain⟨g,I,M,h3⟩:=f' h0;exact⟨g,I,O,h3⟩
def Ou(s:ByteArray)(cl:List Int)(hl:List Bool):Bool:=au.vF s.data.toList (pk s) cl hl (s.size+1) st0
theorem QC(w:World)(s:ByteArray)(k1 k2:Value)(cl:List Int)(hl:List Bool)(hs:s.size<=100)(hE:(iV s).E=0)(hT:(iV s).T.length<=cl.length)(hC:(iV s).C.length<=hl.length)(h:CS w w.heap.size k1 k2 cl hl) :
  Calls prog 85 #[.string s,.agg #[k1,k2]] w λe w'=>e=.returned (.bool (Ou s cl hl))/\Ag w w':=by
 have eH:(w.alloc (.cells #[k1,k2] 166)).heap.size=w.heap.size+1:=R
 have hb:Below w.heap.size w (w.alloc (.cells #[k1,k2] 166)):=(Below.refl _ w).alloc (an2 _) _;have hRI:=Ze (w.alloc (.cells #[k1,k2] 166)) s k1 k2;have hvb:=Oo (w.alloc (.cells #[k1,k2] 166)) s k1 k2;rw[eH]at hRI hvb;have hCS:CS (w.alloc (.cells #[k1,k2] 166)) (w.heap.size+1) k1 k2 cl hl:=(h.below hb).up (Nat.le_succ _);have H:=F (aev (w.heap.size+1) s k1 k2 cl hl hs (s.size+1) (UZ (w.alloc (.cells #[k1,k2] 166)) s k1 k2) st0 (CZ _) (x9 _) hRI (hCS.below hvb) hE hT hC);have HB:=F ((hb.trans (hvb.mono (Nat.le_succ _))));obtain⟨a1,c1,e1,_⟩:=h.r1;obtain⟨a2,c2,e2,_⟩:=h.r2;subst e1;subst e2;unfold Ou
 go_in
 go_wp2_with fail
 refine(Z H).mono ?_;rintro e w1 ⟨rfl,hI,hB⟩
 go_wp2_with fail
 go_ret
 exact⟨rfl,(Z HB).trans (hB.mono (Nat.le_succ _))⟩
end
section
open Go.RowKit
open au (St put cut)
namespace au
def fc:List UInt8->Int->Option Nat
 |[],_=>none
 |c::r,d=>if c=40 then(fc r (d+1)).map (·+1)else if c=41 then(fc r (d-1)).map (·+1)else if c=44/\d=0 then some 0 else(fc r d).map (·+1)
def inn(l:List UInt8):List UInt8×List UInt8:=
 match fc (cut l 2 (l.length-1)) 0 with
 |some p=>(cut l 2 (2+p),cut l (3+p) (l.length-1))
 |none=>(cut l 2 (l.length-1),[])
section
variable {m:List UInt8} {k:Nat} {d:Int} {x:Option Nat}
theorem YQ(hk:k<m.length):fc (m.drop k) d=if m[k]=40 then(fc (m.drop (k+1)) (d+1)).map (·+1)else if m[k]=41 then(fc (m.drop (k+1)) (d-1)).map (·+1)else if m[k]=44/\d=0 then some 0 else(fc (m.drop (k+1)) d).map (·+1):=by
 rw[List.drop_eq_getElem_cons hk,fc]
theorem Jm(y:Option Nat)(k:Nat):(y.map (·+1)).map (·+k)=y.map (·+(k+1)):=by
 cases y<;>simp;omega
theorem afs(h:x=(fc (m.drop k) d).map (·+k))(hk:k<m.length)(hc:m[k]=40):x=(fc (m.drop (k+1)) (d+1)).map (·+(k+1)):=by
 rw[h,YQ hk,ao4 hc,Jm]
theorem afr(h:x=(fc (m.drop k) d).map (·+k))(hk:k<m.length)(hc:m[k]=41):x=(fc (m.drop (k+1)) (d-1)).map (·+(k+1)):=by
 rw[h,YQ hk,an8 (by rw[hc];decide),ao4 hc,Jm]
theorem YP(h:x=(fc (m.drop k) d).map (·+k))(hk:k<m.length)(I:m[k]≠40)(M:m[k]≠41)(h3:¬(m[k]=44/\d=0)):x=(fc (m.drop (k+1)) d).map (·+(k+1)):=by
 rw[h,YQ hk,an8 I,an8 M,an8 h3,Jm]
theorem adL(h:x=(fc (m.drop k) d).map (·+k))(hk:k<m.length)(hc:m[k]=44)(hd:d=0):x=some k:=by
 rw[h,YQ hk,an8 (by rw[hc];decide),an8 (by rw[hc];decide),ao4 ⟨hc,hd⟩];simp
end
end au
theorem zY{a c:UInt8}(h:a≠c):((a.toNat:Int)==(c.toNat:Int))=false:=by
 simp only[ay1,ne_eq];intro e;exact h (UInt8.toNat_inj.1 O)
theorem acZ{s:ByteArray}{m:List UInt8}{k:Nat}(hm:cut s.data.toList 2 (s.size-1)=m)(h:au.fc m 0=some k):au.inn s.data.toList=(cut s.data.toList 2 (k+2),cut s.data.toList (k+2+1) (s.size-1)):=by
 have hl:s.data.toList.length=s.size:=R
 unfold au.inn;rw[hl,hm,h];simp only[Nat.add_comm 2 k,show 3+k=k+2+1 by omega]
theorem ac0{s:ByteArray}{m:List UInt8}(hm:cut s.data.toList 2 (s.size-1)=m)(h:au.fc m 0=none):au.inn s.data.toList=(cut s.data.toList 2 (s.size-1),[]):=by
 have hl:s.data.toList.length=s.size:=R
 unfold au.inn;rw[hl,hm,h]
theorem aau(w:World)(s:ByteArray)(h3:3<=s.size)(hs:s.size<=100) :
  Calls prog 136 #[.string s] w λe w'=>e=.returned (.tuple #[str (au.inn s.data.toList).1,str (au.inn s.data.toList).2])/\Ag w w':=by
 obtain⟨m,hm⟩:∃m,cut s.data.toList 2 (s.size-1)=m:=⟨_,rfl⟩;have hml:m.length+3=s.size:=by rw[<-hm];unfold cut;simp;omega
 have ahg:∀k (hk:k<m.length),m[k]=s[k+2]'O:=by
  intro k hk;subst hm;simp[cut,ar4,Nat.add_comm]
 have HM:=F hm
 go_in
 go_wp2_with fail
 go_loop [4,5] (λx i=>∃(k:Nat) (d:Int),k<=m.length/\-(k:Int)<=d/\d<=k/\x=A d/\i=A ((k:Int)+2)/\au.fc m 0=(au.fc (m.drop k) d).map (·+k)) (λ_ i=>m.length+2-(intOf i).toNat)
 case atStart=>exact⟨0,0,ap7 _,O,O,rfl,rfl,R⟩
 case round=>
  obtain⟨k,d,hk,Wi,hd2,rfl,rfl,hfc⟩:=hrel;have HFC:=F hfc;by_cases hlt:k<m.length
  ·have iF:decide ((k:Int)+2<(s.size:Int)-1)=true:=anf;have hgk:=ahg k hlt;have GX:k+2<s.size:=O;have hn1:∀c:UInt8,m[k]=c->(((s[k+2]'GX).toNat:Int)==(c.toNat:Int))=true:=λc hc=>by rw[<-hgk,hc];simp
   have EC:∀c:UInt8,m[k]≠c->(((s[k+2]'GX).toNat:Int)==(c.toNat:Int))=false:=λc hc=>by rw[<-hgk];exact zY hc
   by_cases iC:m[k]=40
   ·have b1:(((s[k+2]'GX).toNat:Int)==40)=true:=hn1 40 iC;have HK:=F iC
    go_wp2_with fail
    go_round
    case rel=>exact⟨k+1,d+1,O,O,O,rfl,by go_num,au.afs (Z HFC) hlt (Z HK)⟩
    case measure=>simp[intOf];omega
   ·have b1:(((s[k+2]'GX).toNat:Int)==40)=false:=EC 40 iC;by_cases rU:m[k]=41
    ·have b2:(((s[k+2]'GX).toNat:Int)==41)=true:=hn1 41 rU;have HK:=F rU
     go_wp2_with fail
     go_round
     case rel=>exact⟨k+1,d-1,O,O,O,rfl,by go_num,au.afr (Z HFC) hlt (Z HK)⟩
     case measure=>simp[intOf];omega
    ·have b2:(((s[k+2]'GX).toNat:Int)==41)=false:=EC 41 rU;by_cases N7:m[k]=44
     ·have b3:(((s[k+2]'GX).toNat:Int)==44)=true:=hn1 44 N7;by_cases hd0:d=0
      ·have b4:(d==0)=true:=(by simpa using hd0);have HK:=F N7;have HD:=F hd0
       go_wp2_with fail
       go_quiet (fail)
       go_wp2_with fail
       go_ret2
       refine⟨?_,below_drewN _ _ _⟩
       show Ending.returned (.tuple #[.string (s.extract 2 (k+2)),.string (s.extract (k+2+1) (s.size-1))])=_
       rw[acZ (Z HM) (au.adL (Z HFC) hlt (Z HK) (Z HD)),iH,iH]
      ·have b4:(d==0)=false:=(by simpa using hd0);have HA:=F iC;have HB:=F rU;have HD:=F hd0
       go_wp2_with fail
       go_round
       case rel=>exact⟨k+1,d,O,O,O,rfl,by go_num,au.YP (Z HFC) hlt (Z HA) (Z HB) (λe=>Z HD e.2)⟩
       case measure=>simp[intOf];omega
     ·have b3:(((s[k+2]'GX).toNat:Int)==44)=false:=EC 44 N7;have HA:=F iC;have HB:=F rU;have HD:=F N7
      go_wp2_with fail
      go_round
      case rel=>exact⟨k+1,d,O,O,O,rfl,by go_num,au.YP (Z HFC) hlt (Z HA) (Z HB) (λe=>Z HD e.1)⟩
      case measure=>simp[intOf];omega
  ·have iF:decide ((k:Int)+2<(s.size:Int)-1)=false:=anf
   go_wp2_with fail
   go_ret2
   refine⟨?_,Below.refl _ _⟩
   show Ending.returned (.tuple #[.string (s.extract 2 (s.size-1)),.string ⟨#[]⟩])=_
   have hkm:k=m.length:=O;have hfn:au.fc m 0=none:=by
    have h:=Z HFC;rw[hkm,List.drop_length]at h;exact h
   rw[ac0 (Z HM) hfn,iH];rfl
def Qs(T:List (List UInt8))(cl:List Int)(x y:List UInt8):Bool:=if x=[]\/y=[]then decide (x=y)else decide (cl.getD (T.idxOf x) 0=cl.getD (T.idxOf y) 0)
theorem Oj{T:List (List UInt8)}{t:List UInt8}(h:t∈T):atIdx T t=(T.idxOf t:Nat):=lW (by simpa using h)
theorem TW(w:World)(r k1 k2:Value)(x y:List UInt8)(h:x=[]\/y=[]) :
  Calls prog 137 #[r,.agg #[k1,k2],str x,str y] w λe w'=>e=.returned (.bool (decide (x=y)))/\Ag w w':=by
 unfold str;by_cases hx:x=[]
 ·subst hx
  go_in
  go_wp2_with fail
  go_ret
  refine⟨oN ?_,(Below.refl _ w).alloc (an2 _) _⟩;cases y<;>rfl
 ·have hy:y=[]:=h.resolve_left hx;subst hy;have hq:(x==[])=false:=by simpa using hx
  go_in
  go_wp2_with fail
  go_ret
  refine⟨oN ?_,(Below.refl _ w).alloc (an2 _) _⟩;cases x<;>rfl
theorem adM(w:World)(B:Nat)(k1 k2 v4:Value)(T:List (List UInt8))(base:Nat)(cl:List Int)(hl:List Bool)(x y:List UInt8)(xI:x≠[])(hy0:y≠[])(hx:x∈T)(hy:y∈T)(hT:T.length<=7)(hTc:T.length<=cl.length)
 (c4:w.cell? (J B 4)=some v4)(ho:w.ownsRow base 9 1 v4 T.length (T.map str))(hC:CS w w.heap.size k1 k2 cl hl) :
  Calls prog 137 #[Aa B 0,.agg #[k1,k2],str x,str y] w λe w'=>e=.returned (.bool (decide (cl.getD (T.idxOf x) 0=cl.getD (T.idxOf y) 0)))/\Ag w w':=by
 have GX:=ar0 hx;have hiy:=ar0 hy;have ahM:B<w.heap.size:=World.block_lt_of_cell? w _ c4;obtain⟨g,cp,O4,AO,hg7⟩:=hC.aek (show T.idxOf x<cl.length by omega) (show T.idxOf y<cl.length by omega);obtain⟨a2,cp2,sH,_⟩:=hC.r2;subst O4;subst sH;have A1:=F (Oj hx);have A2:=F (Oj hy);have hi5:((T.idxOf x:Nat):Int)<(cl.length:Int):=O
 have hi7:((T.idxOf y:Nat):Int)<(cl.length:Int):=O
 have amT:g<w.heap.size:=World.block_lt_of_cell? w _ AO;have Qk:(x==[])=false:=by simpa using xI
 have OX:(y==[])=false:=by simpa using hy0
 have Q1:Hid (∀w':World,w'.ownsRow base 9 1 v4 T.length (T.map str)->Calls prog 174 #[v4,.string ⟨x.toArray⟩] w' λe w2=>e=.returned (A (T.idxOf x:Nat))/\w2=w'):=λw' h=>by
  have g:=kS w' x T v4 base O h;rw[Z A1]at g;exact g
 have Q2:Hid (∀w':World,w'.ownsRow base 9 1 v4 T.length (T.map str)->Calls prog 174 #[v4,.string ⟨y.toArray⟩] w' λe w2=>e=.returned (A (T.idxOf y:Nat))/\w2=w'):=λw' h=>by
  have g:=kS w' y T v4 base O h;rw[Z A2]at g;exact g
 have ho2:=ho.alloc (.cells #[Ac g 0 cl.length cp,.slice a2 hl.length cp2] 166);unfold str;generalize T.idxOf x=i at *;generalize T.idxOf y=j at *;generalize cl.getD i 0=p at *;generalize cl.getD j 0=q at *;have Pj:B≠w.heap.size:=O
 have ajL:g≠w.heap.size:=O
 go_in
 go_wp2_with fail
 go_quiet (first|(go_at_call_of 174 (Value.string ⟨x.toArray⟩);exact Calls.quiet_of_same ((Z Q1) _ (by exact ho2)))|(go_at_call_of 174 (Value.string ⟨y.toArray⟩);exact Calls.quiet_of_same ((Z Q2) _ (by exact ho2))))
 go_wp2_with fail
 go_ret
 refine⟨oN (by rw[Bool.eq_iff_iff];simp),((Below.refl _ w).alloc (an2 _) _).trans (below_drewN _ _ _)⟩
structure Y6(T C:List (List UInt8)):Prop where
 ne:∀t∈T,t≠[]
 len:∀t∈T,t.length<=100
 long:∀t∈T,1<t.length->3<=t.length
 in1:∀t∈T,1<t.length->(au.inn t).1=[]\/(au.inn t).1∈T
 in2:∀t∈T,1<t.length->(au.inn t).2=[]\/(au.inn t).2∈T
 akx:∀t∈C,3<=t.length/\t.length<=100
 cin:∀t∈C,(au.inn t).1=[]\/(au.inn t).1∈T
theorem Fz(w:World)(B:Nat)(k1 k2 v4:Value)(T:List (List UInt8))(base:Nat)(cl:List Int)(hl:List Bool)(x y:List UInt8)(hx:x=[]\/x∈T)(hy:y=[]\/y∈T)(hT:T.length<=7)(hTc:T.length<=cl.length)
 (c4:w.cell? (J B 4)=some v4)(ho:w.ownsRow base 9 1 v4 T.length (T.map str))(hC:CS w w.heap.size k1 k2 cl hl) :
  Calls prog 137 #[Aa B 0,.agg #[k1,k2],str x,str y] w λe w'=>e=.returned (.bool (Qs T cl x y))/\Ag w w':=by
 unfold Qs;by_cases h:x=[]\/y=[]
 ·rw[ao4 h];exact TW w _ k1 k2 x y h
 ·rw[an8 h];have I:x≠[]:=λe=>h (Or.inl e);have M:y≠[]:=λe=>h (Or.inr e);exact adM w B k1 k2 v4 T base cl hl x y I M (hx.resolve_left I) (hy.resolve_left M) hT hTc c4 ho hC
theorem zK(w:World)(t:List UInt8)(h3:3<=t.length)(hs:t.length<=100) :
  Calls prog 136 #[.string ⟨t.toArray⟩] w λe w'=>e=.returned (.tuple #[str (au.inn t).1,str (au.inn t).2])/\Ag w w':=by
 have h:=aau w ⟨t.toArray⟩ (by simpa[ByteArray.size]using h3) (by simpa[ByteArray.size]using hs);simpa using h
def Hf(T:List (List UInt8))(cl:List Int)(i k:Nat):Bool:=
 decide (1<(T.getD i []).length)&&decide (1<(T.getD k []).length)&&decide ((T.getD i []).headD 0=(T.getD k []).headD 0)&&decide (cl.getD i 0≠cl.getD k 0) &&
  Qs T cl (au.inn (T.getD i [])).1 (au.inn (T.getD k [])).1&&Qs T cl (au.inn (T.getD i [])).2 (au.inn (T.getD k [])).2
def KD(T C:List (List UInt8))(cl:List Int)(hl:List Bool)(i k:Nat):Bool:=
 decide ((C.getD i []).headD 0=(C.getD k []).headD 0)&&decide (hl.getD i false≠hl.getD k false)&&Qs T cl (au.inn (C.getD i [])).1 (au.inn (C.getD k [])).1
def snd(T C:List (List UInt8))(cl:List Int)(hl:List Bool):Bool:=
 ((List.range T.length).all λi=>(List.range T.length).all λk=>!Hf T cl i k)&&((List.range C.length).all λi=>(List.range C.length).all λk=>!KD T C cl hl i k)
theorem abM{T C:List (List UInt8)}{cl:List Int}{hl:List Bool}{i k:Nat}(hi:i<T.length)(hk:k<T.length)(h:Hf T cl i k=true):snd T C cl hl=false:=by
 unfold snd;rw[Bool.and_eq_false_iff];left;rw[List.all_eq_false];refine⟨i,by simpa using hi,?_⟩;rw[Bool.not_eq_true,List.all_eq_false];exact⟨k,by simpa using hk,by rw[h];decide⟩
theorem abN{T C:List (List UInt8)}{cl:List Int}{hl:List Bool}{i k:Nat}(hi:i<C.length)(hk:k<C.length)(h:KD T C cl hl i k=true):snd T C cl hl=false:=by
 unfold snd;rw[Bool.and_eq_false_iff];right;rw[List.all_eq_false];refine⟨i,by simpa using hi,?_⟩;rw[Bool.not_eq_true,List.all_eq_false];exact⟨k,by simpa using hk,by rw[h];decide⟩
theorem abL{T C:List (List UInt8)}{cl:List Int}{hl:List Bool}(I:∀i k,i<T.length->k<T.length->Hf T cl i k=false)(M:∀i k,i<C.length->k<C.length->KD T C cl hl i k=false):snd T C cl hl=true:=by
 unfold snd;rw[ax0,List.all_eq_true,List.all_eq_true];refine⟨λi hi=>?_,λi hi=>?_⟩
 ·rw[List.all_eq_true];exact λk hk=>by rw[I i k (by simpa using hi) (by simpa using hk)];rfl
 ·rw[List.all_eq_true];exact λk hk=>by rw[M i k (by simpa using hi) (by simpa using hk)];rfl
end
namespace au
def Bal(t:List UInt8):Prop:=∀(r:List UInt8) (d:Int),0<=d->fc (t++r) d=(fc r d).map (·+t.length)
theorem J8{c:UInt8}(I:c≠40)(M:c≠41)(h3:c≠44)(r:List UInt8)(d:Int):fc (c::r) d=(fc r d).map (·+1):=by
 rw[fc,an8 I,an8 M,an8 (λe=>h3 e.1)]
theorem agl(r:List UInt8)(d:Int):fc (40::r) d=(fc r (d+1)).map (·+1):=by rw[fc,ao4 rfl]
theorem agm(r:List UInt8)(d:Int):fc (41::r) d=(fc r (d-1)).map (·+1):=by rw[fc,an8 ane,ao4 rfl]
theorem akq(r:List UInt8){d:Int}(h:d≠0):fc (44::r) d=(fc r d).map (·+1):=by rw[fc,an8 ane,an8 ane,an8 (λe=>h e.2)]
theorem akr(r:List UInt8):fc (44::r) 0=some 0:=by rw[fc,an8 ane,an8 ane,ao4 ⟨rfl,rfl⟩]
theorem mm(x:Option Nat)(a b:Nat):(x.map (·+a)).map (·+b)=x.map (·+(a+b)):=by cases x<;>simp;omega
theorem aen{c:UInt8}(I:c≠40)(M:c≠41)(h3:c≠44):Bal [c]:=λr d _=>by
 show fc (c::r) d=_
 rw[J8 I M h3];rfl
theorem akC{c:UInt8}(I:c≠40)(M:c≠41)(h3:c≠44){t:List UInt8}(h:Bal t):Bal (c::40::(t++[41])):=λr d hd=>by
 have e:(c::40::(t++[41]))++r=c::40::(t++(41::r)):=R
 rw[e,J8 I M h3,agl,h _ _ O,agm,mm,mm,mm];have:d+1-1=d:=O
 rw[this]
 congr 2
 funext n;simp;omega
theorem akB{c:UInt8}(I:c≠40)(M:c≠41)(h3:c≠44){t u:List UInt8}(h:Bal t)(g:Bal u):Bal (c::40::(t++44::(u++[41]))):=λr d hd=>by
 have e:(c::40::(t++44::(u++[41])))++r=c::40::(t++(44::(u++(41::r)))):=R
 rw[e,J8 I M h3,agl,h _ _ O,akq _ O,g _ _ O,agm,mm,mm,mm,mm,mm];have:d+1-1=d:=O
 rw[this]
 congr 2
 funext n;simp;omega
theorem qg{c:UInt8}{t:List UInt8}(h:Bal t):inn (c::40::(t++[41]))=(t,[]):=by
 have hm:cut (c::40::(t++[41])) 2 ((c::40::(t++[41])).length-1)=t:=by simp[cut]
 have hf:fc t 0=none:=by have:=h [] 0 O;simpa[fc]using this
 unfold inn;rw[hm,hf]
theorem zL{c:UInt8}{t u:List UInt8}(h:Bal t):inn (c::40::(t++44::(u++[41])))=(t,u):=by
 have hx:∀x:List UInt8,cut (c::40::(x++[41])) 2 ((c::40::(x++[41])).length-1)=x:=λx=>by simp[cut]
 have el:c::40::(t++44::(u++[41]))=c::40::((t++44::u)++[41]):=R
 have hm:cut (c::40::(t++44::(u++[41]))) 2 ((c::40::(t++44::(u++[41]))).length-1)=t++44::u:=by rw[el];exact hx _
 have hf:fc (t++44::u) 0=some t.length:=by rw[h _ 0 O,akr];simp
 unfold inn;rw[hm,hf];have e1:cut (c::40::(t++44::(u++[41]))) 2 (2+t.length)=t:=by
  unfold cut;simp only[List.drop_succ_cons,List.drop_zero];rw[show 2+t.length-2=t.length by omega,List.take_append_of_le_length (an2 _),ar7]
 have e2:cut (c::40::(t++44::(u++[41]))) (3+t.length) ((c::40::(t++44::(u++[41]))).length-1)=u:=by
  have e3:c::40::(t++44::(u++[41]))=(c::40::(t++[44]))++(u++[41]):=R
  unfold cut;have hlen:(c::40::(t++44::(u++[41]))).length-1-(3+t.length)=u.length:=anf
  rw[hlen,e3,List.drop_left' anf,List.take_left'];rfl
 simp only[e1,e2]
theorem ZW{c:Int}(I:97<=c)(M:c<=101):(UInt8.ofNat c.toNat).toNat=c.toNat:=anf
theorem Kz{c:UInt8}{n:Nat}(h:c.toNat=n){b:UInt8}(hb:b.toNat≠n):c≠b:=λe=>hb (by rw[<-e];exact h)
theorem nG{T:List (List UInt8)}{k:Key}{n:Nat}(h:lQ n k) :
  (∃c:UInt8,rend T k=[c]/\c≠40/\c≠41/\c≠44)\/(k.1=102/\k.2.1<n/\rend T k=102::40::(T.getD k.2.1 []++[41]))\/
  (k.1=103/\k.2.1<n/\k.2.2<n/\rend T k=103::40::(T.getD k.2.1 []++44::(T.getD k.2.2 []++[41]))):=by
 obtain⟨I,M,h3,h4⟩|⟨I,M,h3⟩|⟨I,M,h3⟩:=h
 ·left;have hb:=ZW I M;refine⟨UInt8.ofNat k.1.toNat,?_,Kz hb ?_,Kz hb ?_,Kz hb ?_⟩
  ·unfold rend;rw[an8 O,an8 O]
  ·have:(40:UInt8).toNat=40:=rfl;omega
  ·have:(41:UInt8).toNat=41:=rfl;omega
  ·have:(44:UInt8).toNat=44:=rfl;omega
 ·right;left;exact⟨I,M,by unfold rend;rw[ao4 I]⟩
 ·right;right;exact⟨I,M,h3,by unfold rend;rw[an8 O,ao4 I]⟩
theorem Inv.bal{Y:Ai}(h:Inv Y):∀(n i:Nat),i<n->i<Y.length->Bal ((texts Y).getD i []):=by
 intro n
 induction n with
 |zero=>intro i hi;omega
 |succ n ih=>
  intro i hi hl;rw[h.get i hl];obtain⟨c,e,n1,n2,n3⟩|⟨_,hk,e⟩|⟨_,hk,sH,e⟩:=nG (T:=texts Y) (h.key i hl)
  ·rw[e];exact aen n1 n2 n3
  ·rw[e];exact akC ane ane ane (ih _ O O)
  ·rw[e];exact akB ane ane ane (ih _ O O) (ih _ O O)
theorem Hq{Y:Ai}(h:Inv Y){t:List UInt8}(ht:t∈texts Y):∃i,∃hi:i<Y.length,t=rend (texts Y) Y[i]:=by
 obtain⟨i,hi,e⟩:=ar6 ht;rw[aO]at hi;refine⟨i,hi,?_⟩;rw[<-h.get i hi,<-e];simp[ao0,aO,hi]
end au
section
open au (Key Inv kD texts)
theorem JZ{Y:Ai}{cs:Ah}(h:Inv Y)(hc:kD Y cs)(hT:∀t∈texts Y,t.length<=100)(hC:∀t∈ctx Y cs,t.length<=100):Y6 (texts Y) (ctx Y cs):=by
 have mem:∀j,j<Y.length->(texts Y).getD j []∈texts Y:=λj hj=>au.getD_mem (by rw[au.aO];exact hj);have bal:∀j,j<Y.length->au.Bal ((texts Y).getD j []):=λj hj=>h.bal (j+1) j O hj;refine⟨λt ht=>?_,hT,λt ht hl=>?_,λt ht hl=>?_,λt ht hl=>?_,λt ht=>?_,λt ht=>?_⟩
 ·obtain⟨i,hi,rfl⟩:=au.Hq h ht;obtain⟨c,e,_⟩|⟨_,_,e⟩|⟨_,_,_,e⟩:=au.nG (T:=texts Y) (h.key i hi)<;>rw[e]<;>simp
 ·obtain⟨i,hi,rfl⟩:=au.Hq h ht;obtain⟨c,e,_⟩|⟨_,_,e⟩|⟨_,_,_,e⟩:=au.nG (T:=texts Y) (h.key i hi)
  ·rw[e]at hl;simp at hl
  ·rw[e];simp
  ·rw[e];simp;omega
 ·obtain⟨i,hi,rfl⟩:=au.Hq h ht;obtain⟨c,e,_⟩|⟨_,hk,e⟩|⟨_,hk,sH,e⟩:=au.nG (T:=texts Y) (h.key i hi)
  ·rw[e]at hl;simp at hl
  ·rw[e,au.qg (bal _ O)];exact Or.inr (mem _ O)
  ·rw[e,au.zL (bal _ O)];exact Or.inr (mem _ O)
 ·obtain⟨i,hi,rfl⟩:=au.Hq h ht;obtain⟨c,e,_⟩|⟨_,hk,e⟩|⟨_,hk,sH,e⟩:=au.nG (T:=texts Y) (h.key i hi)
  ·rw[e]at hl;simp at hl
  ·rw[e,au.qg (bal _ O)];exact Or.inl rfl
  ·rw[e,au.zL (bal _ O)];exact Or.inr (mem _ O)
 ·obtain⟨c,xg,rfl⟩:=ap6.1 ht;exact⟨by simp[au.dH],hC _ ht⟩
 ·obtain⟨c,xg,rfl⟩:=ap6.1 ht;unfold au.dH;rw[au.qg (bal _ (hc c xg).2)];exact Or.inr (mem _ (hc c xg).2)
end
open Go.RowKit
open au (St put cut)
namespace au
def jB:List UInt8->Int->Option (List Int)
 |[],_=>some []
 |c::r,most=>if (c.toNat:Int)-48<0\/most+1<(c.toNat:Int)-48 then none else(jB r (max most ((c.toNat:Int)-48))).map (((c.toNat:Int)-48)::·)
def jA:List UInt8->Option (List Bool)
 |[]=>some []
 |c::r=>if c≠48/\c≠49 then none else(jA r).map (decide (c=49)::·)
def parse(n c:Nat)(s:List UInt8):Option (List Int×List Bool):=
 if s.length≠n+1+c\/s.getD n 0≠47 then none else
 match jB (s.take n) (-1)with
 |none=>none
 |some cl=>(jA (s.drop (n+1))).map λhl=>(cl,hl)
end au
theorem ZJ(w:World)(B:Nat)(s:ByteArray)(v4 v5:Value)(T C:List (List UInt8))(hT:T.length<=7)(hC:C.length<=4)(_hm:s.size<=maxLen)(c4:w.cell? (J B 4)=some v4)(c5:w.cell? (J B 5)=some v5)(r4:w.ownsRow 0 9 1 v4 T.length (T.map str))(r5:w.ownsRow 0 9 1 v5 C.length (C.map str))
 (bg:s.size≠T.length+1+C.length) :
  Calls prog 83 #[Aa B 0,.string s] w λe w'=>(∃a1 n1 c1 a2 n2 c2,e=.returned (.tuple #[.agg #[.slice a1 n1 c1,.slice a2 n2 c2],.bool false]))/\Ag w w':=by
 obtain⟨a4,p4,e4⟩:=bD r4;obtain⟨a5,p5,e5⟩:=bD r5;subst e4;subst e5;have ahM:B<w.heap.size:=World.block_lt_of_cell? w _ c4;have hb:((s.size:Int) != (T.length:Int)+1+(C.length:Int))=true:=anf
 have Pj:B≠w.heap.size:=O
 have agi:B≠w.heap.size+1:=O
 have BQ:B<w.heap.size+1:=O
 go_in
 go_wp2_with fail
 refine bodyPost_ret (v:=.tuple #[.agg #[.slice none 0 0,.slice none 0 0],.bool false]) (by simp[results,results83,go_sem]) rfl ⟨⟨_,_,_,_,_,_,rfl⟩,?_⟩;exact((Below.refl _ w).alloc (an2 _) _).alloc R _
theorem Rq(w:World)(B:Nat)(s:ByteArray)(v4 v5:Value)(T C:List (List UInt8))(hT:T.length<=7)(hC:C.length<=4)(c4:w.cell? (J B 4)=some v4)(c5:w.cell? (J B 5)=some v5)(r4:w.ownsRow 0 9 1 v4 T.length (T.map str))(r5:w.ownsRow 0 9 1 v5 C.length (C.map str))
 (heq:s.size=T.length+1+C.length)(hlt:T.length<s.size)(OV:s[T.length]'hlt≠47) :
  Calls prog 83 #[Aa B 0,.string s] w λe w'=>(∃a1 n1 c1 a2 n2 c2,e=.returned (.tuple #[.agg #[.slice a1 n1 c1,.slice a2 n2 c2],.bool false]))/\Ag w w':=by
 obtain⟨a4,p4,e4⟩:=bD r4;obtain⟨a5,p5,e5⟩:=bD r5;subst e4;subst e5;have ahM:B<w.heap.size:=World.block_lt_of_cell? w _ c4;have hb:((s.size:Int) != (T.length:Int)+1+(C.length:Int))=false:=anf
 have nO:(T.length:Int)<(s.size:Int):=O
 have fF:(((s[T.length]'hlt).toNat:Int) != 47)=true:=by
  have:=zY OV;simpa[bne]using this
 have Pj:B≠w.heap.size:=O
 have agi:B≠w.heap.size+1:=O
 have BQ:B<w.heap.size+1:=O
 go_in
 go_wp2_with fail
 refine bodyPost_ret (v:=.tuple #[.agg #[.slice none 0 0,.slice none 0 0],.bool false]) (by simp[results,results83,go_sem]) rfl ⟨⟨_,_,_,_,_,_,rfl⟩,?_⟩;exact((Below.refl _ w).alloc (an2 _) _).alloc R _
end Go.Proofs.YthcppbmkacbbiabGreat
