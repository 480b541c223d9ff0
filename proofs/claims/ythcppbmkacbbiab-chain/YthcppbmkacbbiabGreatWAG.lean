import Derived.Test.YthcppbmkacbbiabGreatWAF
set_option linter.unusedSimpArgs false
set_option linter.unusedVariables false
set_option maxHeartbeats 1000000
namespace Go.Proofs.YthcppbmkacbbiabGreat
open Go.Proofs.Tryz
open Go.RowKit Go.Maps Go.WideMaps
open aB (Key put RT wZ RF RP RQ)
theorem Kp.pU{w w':World}{B BT BC BP:Nat}(h:Kp B BT BC BP w w'):Kp B BT BC BP w w'.drew:=h.trans (Kp.drewN B BT BC BP w' 1)
theorem Bad.pU{w:World}{B p:Nat}{E:Int}(h:Bad w B p E):Bad w.drew B p E:=⟨h.c1,h.c3⟩
theorem CI.pU{w:World}{B BT BC BP:Nat}{s:ByteArray}{a d:Nat}{ts:List Key}{cs:List (Int×Nat)}{ps:List Key}(h:CI w B BT BC BP s a d ts cs ps):CI w.drew B BT BC BP s a d ts cs ps:=h.drewN 1
theorem PX.pU{w:World}{X B BT BC BP:Nat}{c x y:Int}(h:PX w X B BT BC BP c x y):PX w.drew X B BT BC BP c x y:=h.kp (Kp.drewN _ _ _ _ _ 1)
def pY(B BT BC BP:Nat)(s:ByteArray)(n:Nat):Prop:=
 ∀(w:World) (a d:Nat) (ts:List Key) (cs:List (Int×Nat)) (ps:List Key),a<=s.size->d<=8->ts.length<=a->cs.length<=a->ps.length<=a->s.size<a+n->CI w B BT BC BP s a d ts cs ps->
  Calls prog 24 #[.pointer (some ⟨B,0,none⟩)] w (PostF w B BT BC BP s d (aB.gI (pk s) n a d ts cs ps))
section
variable (w:World) (B BT BC BP:Nat) (s:ByteArray) (a d:Nat) (ts:List Key) (cs:List (Int×Nat)) (ps:List Key) (n:Nat)
theorem Fg(hs:s.size<=100)(ha:a<s.size)(hd:d<=8)(ht:ts.length<=a)(hcs:cs.length<=a)(hps:ps.length<=a)(hn:s.size<a+1+n)(HC:Hid (pk s a=40))(h8:d=8)(h:CI w B BT BC BP s a d ts cs ps) :
  Calls prog 47 #[.pointer (some ⟨B,0,none⟩)] w (lF w B BT BC BP s d (.error (3,a))):=by
 have hX0:=PX.new h 0 0 0;have hI0:=h.alloc (.cells #[.int .u8 0,.int .i64 0,.int .i64 0] 82);have kp0:Kp B BT BC BP w _:=Kp.alloc B BT BC BP w (.cells #[.int .u8 0,.int .i64 0,.int .i64 0] 82)
 go_enter func47,ntmps47
 go_wp2_with fail
 refine(iY _ B BT BC BP s a d ts cs ps hs (by omega) h8 (ah HC) hI0).mono ?_;rintro e w1 ⟨rfl,h1,k1⟩;have hX:=hX0.kp k1;have x0:=hX.p0;have x1:=hX.p1;have x2:=hX.p2;have y0:=hX.f0;have y1:=hX.f1;have y2:=hX.f2
 go_wp2_with fail
 refine bodyPost_ret (v:=.tuple #[.agg #[.int .u8 0,.int .i64 0,.int .i64 0],.bool false]) (by simp[results,results47,go_sem,x0,x1,x2]) rfl ⟨?_,⟨_,_,_,rfl⟩,?_⟩
 ·repeat refine Kp.fG (ad5 _) ?_ _ _
  exact kp0.trans k1
 ·repeat refine Bad.bg ?_ hX.nB _ _
  exact h1
theorem MV(hs:s.size<=100)(ha:a<s.size)(hd:d<=8)(ht:ts.length<=a)(hcs:cs.length<=a)(hps:ps.length<=a)(hn:s.size<a+1+n)(HC:Hid (pk s a=40))(h8:d≠8)(E:Int)(p:Nat)(HR:Hid (aB.gI (pk s) n (a+1) (d+1) ts cs ps=.error (E,p)))(hF:pY B BT BC BP s n)(h:CI w B BT BC BP s a d ts cs ps) :
  Calls prog 47 #[.pointer (some ⟨B,0,none⟩)] w (lF w B BT BC BP s d (.error (E,p))):=by
 have hX0:=PX.new h 0 0 0;have hI0:=h.alloc (.cells #[.int .u8 0,.int .i64 0,.int .i64 0] 82);have kp0:Kp B BT BC BP w _:=Kp.alloc B BT BC BP w (.cells #[.int .u8 0,.int .i64 0,.int .i64 0] 82)
 go_enter func47,ntmps47
 go_wp2_with fail
 refine(dF _ B BT BC BP s a d ts cs ps hs ha (by omega) (ah HC) hI0).mono ?_;rintro e w1 ⟨rfl,h1,k1⟩;have hX1:=hX0.kp k1
 go_wp2_with fail
 refine(hF w1 (a+1) (d+1) ts cs ps (by omega) (by omega) (by omega) (by omega) (by omega) (by omega) h1).mono ?_;rw[ah HR];rintro e w2 ⟨k2,⟨z,rfl⟩,h2⟩;have hX:=hX1.kp k2;have x0:=hX.p0;have x1:=hX.p1;have x2:=hX.p2;have y0:=hX.f0;have y1:=hX.f1;have y2:=hX.f2
 go_wp2_with fail
 refine bodyPost_ret (v:=.tuple #[.agg #[.int .u8 0,.int .i64 z,.int .i64 0],.bool false]) (by simp[results,results47,go_sem,x0,x1,x2]) rfl ⟨?_,⟨_,_,_,rfl⟩,?_⟩
 ·repeat refine Kp.fG (ad5 _) ?_ _ _
  exact(kp0.trans k1).trans k2
 ·repeat refine Bad.bg ?_ hX.nB _ _
  exact h2
theorem MS(hs:s.size<=100)(ha:a<s.size)(hd:d<=8)(ht:ts.length<=a)(hcs:cs.length<=a)(hps:ps.length<=a)(hn:s.size<a+1+n)(HC:Hid (pk s a=40))(h8:d≠8)(a1:Nat)(aF:List Key)(cs1:List (Int×Nat))(ps1:List Key)(m1:Nat)(HR:Hid (aB.gI (pk s) n (a+1) (d+1) ts cs ps=.ok (a1,aF,cs1,ps1,m1)))(Wx:aF.length<=a1)(hcs1:cs1.length<=a1)(hps1:ps1.length<=a1)(WS:a<a1)(hle1:a1<=s.size)(hj:aB.au (pk s a1)=false)(hF:pY B BT BC BP s n)(h:CI w B BT BC BP s a d ts cs ps) :
  Calls prog 47 #[.pointer (some ⟨B,0,none⟩)] w (lF w B BT BC BP s d (.error (2,a1))):=by
 have hX0:=PX.new h 0 0 0;have hI0:=h.alloc (.cells #[.int .u8 0,.int .i64 0,.int .i64 0] 82);have kp0:Kp B BT BC BP w _:=Kp.alloc B BT BC BP w (.cells #[.int .u8 0,.int .i64 0,.int .i64 0] 82)
 go_enter func47,ntmps47
 go_wp2_with fail
 refine(dF _ B BT BC BP s a d ts cs ps hs ha (by omega) (ah HC) hI0).mono ?_;rintro e w1 ⟨rfl,h1,k1⟩;have hX1:=hX0.kp k1
 go_wp2_with fail
 refine(hF w1 (a+1) (d+1) ts cs ps (by omega) (by omega) (by omega) (by omega) (by omega) (by omega) h1).mono ?_;rw[ah HR];rintro e w2 ⟨k2,rfl,h2⟩;have hX2:=hX1.kp k2;have x0:=hX2.p0;have x1:=hX2.p1;have x2:=hX2.p2;have y0:=hX2.f0;have y1:=hX2.f1;have y2:=hX2.f2
 go_wp2_with fail
 refine(aW _ B BT BC BP s a1 (d+1) aF cs1 ps1 hs (by omega) (h2.px hX2 1 (.int .i64 m1))).mono ?_;rintro e w3 ⟨rfl,h3,k3⟩;have hX3:=(hX2.set1 m1).kp k3;clear x0 x1 x2 y0 y1 y2;have x0:=hX3.p0;have x1:=hX3.p1;have x2:=hX3.p2;have y0:=hX3.f0;have y1:=hX3.f1;have y2:=hX3.f2
 go_wp2_with fail
 refine(P6 _ B BT BC BP s a1 (d+1) aF cs1 ps1 hs hle1 hj (h3.px hX3 0 (.int .u8 (pk s a1)))).mono ?_;rintro e w4 ⟨rfl,h4,k4⟩;have hX4:=(hX3.set0 (pk s a1)).kp k4;clear x0 x1 x2 y0 y1 y2;have x0:=hX4.p0;have x1:=hX4.p1;have x2:=hX4.p2;have y0:=hX4.f0;have y1:=hX4.f1;have y2:=hX4.f2
 go_wp2_with fail
 refine bodyPost_ret (v:=.tuple #[.agg #[.int .u8 (pk s a1),.int .i64 m1,.int .i64 0],.bool false]) (by simp[results,results47,go_sem,x0,x1,x2]) rfl ⟨?_,⟨_,_,_,rfl⟩,?_⟩
 ·repeat refine Kp.fG (ad5 _) ?_ _ _
  exact(Kp.fG (ad5 _) ((Kp.fG (ad5 _) ((kp0.trans k1).trans k2) 1 (.int .i64 m1)).trans k3) 0 (.int .u8 (pk s a1))).trans k4
 ·repeat refine Bad.bg ?_ hX4.nB _ _
  exact h4
theorem MR(hs:s.size<=100)(ha:a<s.size)(hd:d<=8)(ht:ts.length<=a)(hcs:cs.length<=a)(hps:ps.length<=a)(hn:s.size<a+1+n)(HC:Hid (pk s a=40))(h8:d≠8)(a1:Nat)(aF:List Key)(cs1:List (Int×Nat))(ps1:List Key)(m1:Nat)(HR:Hid (aB.gI (pk s) n (a+1) (d+1) ts cs ps=.ok (a1,aF,cs1,ps1,m1)))(Wx:aF.length<=a1)(hcs1:cs1.length<=a1)(hps1:ps1.length<=a1)(WS:a<a1)(hlt1:a1<s.size)(hj:aB.au (pk s a1)=true)(E:Int)(p:Nat)(HR2:Hid (aB.gI (pk s) n (a1+1) (d+1) aF cs1 ps1=.error (E,p)))(hF:pY B BT BC BP s n)(h:CI w B BT BC BP s a d ts cs ps) :
  Calls prog 47 #[.pointer (some ⟨B,0,none⟩)] w (lF w B BT BC BP s d (.error (E,p))):=by
 have hX0:=PX.new h 0 0 0;have hI0:=h.alloc (.cells #[.int .u8 0,.int .i64 0,.int .i64 0] 82);have kp0:Kp B BT BC BP w _:=Kp.alloc B BT BC BP w (.cells #[.int .u8 0,.int .i64 0,.int .i64 0] 82)
 go_enter func47,ntmps47
 go_wp2_with fail
 refine(dF _ B BT BC BP s a d ts cs ps hs ha (by omega) (ah HC) hI0).mono ?_;rintro e w1 ⟨rfl,h1,k1⟩;have hX1:=hX0.kp k1
 go_wp2_with fail
 refine(hF w1 (a+1) (d+1) ts cs ps (by omega) (by omega) (by omega) (by omega) (by omega) (by omega) h1).mono ?_;rw[ah HR];rintro e w2 ⟨k2,rfl,h2⟩;have hX2:=hX1.kp k2;have x0:=hX2.p0;have x1:=hX2.p1;have x2:=hX2.p2;have y0:=hX2.f0;have y1:=hX2.f1;have y2:=hX2.f2
 go_wp2_with fail
 refine(aW _ B BT BC BP s a1 (d+1) aF cs1 ps1 hs (by omega) (h2.px hX2 1 (.int .i64 m1))).mono ?_;rintro e w3 ⟨rfl,h3,k3⟩;have hX3:=(hX2.set1 m1).kp k3;clear x0 x1 x2 y0 y1 y2;have x0:=hX3.p0;have x1:=hX3.p1;have x2:=hX3.p2;have y0:=hX3.f0;have y1:=hX3.f1;have y2:=hX3.f2
 go_wp2_with fail
 refine(uZ _ B BT BC BP s a1 (d+1) aF cs1 ps1 hs hlt1 hj (h3.px hX3 0 (.int .u8 (pk s a1)))).mono ?_;rintro e w4 ⟨rfl,h4,k4⟩;have hX4:=(hX3.set0 (pk s a1)).kp k4;clear x0 x1 x2 y0 y1 y2
 go_wp2_with fail
 refine(hF w4 (a1+1) (d+1) aF cs1 ps1 (by omega) (by omega) (by omega) (by omega) (by omega) (by omega) h4).mono ?_;rw[ah HR2];rintro e w5 ⟨k5,⟨z,rfl⟩,h5⟩;have hX5:=hX4.kp k5;have x0:=hX5.p0;have x1:=hX5.p1;have x2:=hX5.p2;have y0:=hX5.f0;have y1:=hX5.f1;have y2:=hX5.f2
 go_wp2_with fail
 go_region
 all_goals
  go_wp2_with fail
  refine bodyPost_ret (v:=.tuple #[.agg #[.int .u8 (pk s a1),.int .i64 m1,.int .i64 z],.bool false]) (by simp[results,results47,go_sem,x0,x1,x2]) rfl ⟨?_,⟨_,_,_,rfl⟩,?_⟩
  ·refine Kp.pU ?_
   repeat refine Kp.fG (ad5 _) ?_ _ _
   exact((Kp.fG (ad5 _) ((Kp.fG (ad5 _) ((kp0.trans k1).trans k2) 1 (.int .i64 m1)).trans k3) 0 (.int .u8 (pk s a1))).trans k4).trans k5
  ·refine Bad.pU ?_
   repeat refine Bad.bg ?_ hX5.nB _ _
   exact h5
theorem MQ(hs:s.size<=100)(ha:a<s.size)(hd:d<=8)(ht:ts.length<=a)(hcs:cs.length<=a)(hps:ps.length<=a)(hn:s.size<a+1+n)(HC:Hid (pk s a=40))(h8:d≠8)(a1:Nat)(aF:List Key)(cs1:List (Int×Nat))(ps1:List Key)(m1:Nat)(HR:Hid (aB.gI (pk s) n (a+1) (d+1) ts cs ps=.ok (a1,aF,cs1,ps1,m1)))(Wx:aF.length<=a1)(hcs1:cs1.length<=a1)(hps1:ps1.length<=a1)(WS:a<a1)(hlt1:a1<s.size)(hj:aB.au (pk s a1)=true)(a2:Nat)(ts2:List Key)(cs2:List (Int×Nat))(ps2:List Key)(m2:Nat)(HR2:Hid (aB.gI (pk s) n (a1+1) (d+1) aF cs1 ps1=.ok (a2,ts2,cs2,ps2,m2)))(hle2:a2<=s.size)(h41:pk s a2≠41)(hF:pY B BT BC BP s n)(h:CI w B BT BC BP s a d ts cs ps) :
  Calls prog 47 #[.pointer (some ⟨B,0,none⟩)] w (lF w B BT BC BP s d (.error (2,a2))):=by
 have hX0:=PX.new h 0 0 0;have hI0:=h.alloc (.cells #[.int .u8 0,.int .i64 0,.int .i64 0] 82);have kp0:Kp B BT BC BP w _:=Kp.alloc B BT BC BP w (.cells #[.int .u8 0,.int .i64 0,.int .i64 0] 82)
 go_enter func47,ntmps47
 go_wp2_with fail
 refine(dF _ B BT BC BP s a d ts cs ps hs ha (by omega) (ah HC) hI0).mono ?_;rintro e w1 ⟨rfl,h1,k1⟩;have hX1:=hX0.kp k1
 go_wp2_with fail
 refine(hF w1 (a+1) (d+1) ts cs ps (by omega) (by omega) (by omega) (by omega) (by omega) (by omega) h1).mono ?_;rw[ah HR];rintro e w2 ⟨k2,rfl,h2⟩;have hX2:=hX1.kp k2;have x0:=hX2.p0;have x1:=hX2.p1;have x2:=hX2.p2;have y0:=hX2.f0;have y1:=hX2.f1;have y2:=hX2.f2
 go_wp2_with fail
 refine(aW _ B BT BC BP s a1 (d+1) aF cs1 ps1 hs (by omega) (h2.px hX2 1 (.int .i64 m1))).mono ?_;rintro e w3 ⟨rfl,h3,k3⟩;have hX3:=(hX2.set1 m1).kp k3;clear x0 x1 x2 y0 y1 y2;have x0:=hX3.p0;have x1:=hX3.p1;have x2:=hX3.p2;have y0:=hX3.f0;have y1:=hX3.f1;have y2:=hX3.f2
 go_wp2_with fail
 refine(uZ _ B BT BC BP s a1 (d+1) aF cs1 ps1 hs hlt1 hj (h3.px hX3 0 (.int .u8 (pk s a1)))).mono ?_;rintro e w4 ⟨rfl,h4,k4⟩;have hX4:=(hX3.set0 (pk s a1)).kp k4;clear x0 x1 x2 y0 y1 y2
 go_wp2_with fail
 refine(hF w4 (a1+1) (d+1) aF cs1 ps1 (by omega) (by omega) (by omega) (by omega) (by omega) (by omega) h4).mono ?_;rw[ah HR2];rintro e w5 ⟨k5,rfl,h5⟩;have hX5:=hX4.kp k5;have hXs:=(hX5.set2 m2).pU;have hIs:=(h5.px hX5 2 (.int .i64 m2)).pU;have x0:=hX5.p0;have x1:=hX5.p1;have x2:=hX5.p2;have y0:=hX5.f0;have y1:=hX5.f1;have y2:=hX5.f2
 go_wp2_with fail
 go_region_with (go_at_call 93;refine(mY _ B BT BC BP s a2 d ts2 cs2 ps2 hs hle2 hd h41 hIs).mono ?_;rintro e w6 ⟨rfl,h6,k6⟩;have z0:=(hXs.kp k6).p0;have z1:=(hXs.kp k6).p1;have z2:=(hXs.kp k6).p2;have v0:=(hXs.kp k6).f0;have v1:=(hXs.kp k6).f1;have v2:=(hXs.kp k6).f2)
 all_goals
  go_wp2_with fail
  refine bodyPost_ret (v:=.tuple #[.agg #[.int .u8 (pk s a1),.int .i64 m1,.int .i64 m2],.bool false]) (by simp[results,results47,go_sem,z0,z1,z2]) rfl ⟨?_,⟨_,_,_,rfl⟩,?_⟩
  ·repeat refine Kp.fG (ad5 _) ?_ _ _
   exact(Kp.pU (Kp.fG (ad5 _) (((Kp.fG (ad5 _) ((Kp.fG (ad5 _) ((kp0.trans k1).trans k2) 1 (.int .i64 m1)).trans k3) 0 (.int .u8 (pk s a1))).trans k4).trans k5) 2 (.int .i64 m2))).trans k6
  ·repeat refine Bad.bg ?_ hX5.nB _ _
   exact h6
theorem MP(hs:s.size<=100)(ha:a<s.size)(hd:d<=8)(ht:ts.length<=a)(hcs:cs.length<=a)(hps:ps.length<=a)(hn:s.size<a+1+n)(HC:Hid (pk s a=40))(h8:d≠8)(a1:Nat)(aF:List Key)(cs1:List (Int×Nat))(ps1:List Key)(m1:Nat)(HR:Hid (aB.gI (pk s) n (a+1) (d+1) ts cs ps=.ok (a1,aF,cs1,ps1,m1)))(Wx:aF.length<=a1)(hcs1:cs1.length<=a1)(hps1:ps1.length<=a1)(WS:a<a1)(hlt1:a1<s.size)(hj:aB.au (pk s a1)=true)(a2:Nat)(ts2:List Key)(cs2:List (Int×Nat))(ps2:List Key)(m2:Nat)(HR2:Hid (aB.gI (pk s) n (a1+1) (d+1) aF cs1 ps1=.ok (a2,ts2,cs2,ps2,m2)))(hlt2:a2<s.size)(h41:pk s a2=41)(hF:pY B BT BC BP s n)(h:CI w B BT BC BP s a d ts cs ps) :
  Calls prog 47 #[.pointer (some ⟨B,0,none⟩)] w (lF w B BT BC BP s d (.ok (a2+1,ts2,cs2,ps2,(pk s a1,m1,m2)))):=by
 have hX0:=PX.new h 0 0 0;have hI0:=h.alloc (.cells #[.int .u8 0,.int .i64 0,.int .i64 0] 82);have kp0:Kp B BT BC BP w _:=Kp.alloc B BT BC BP w (.cells #[.int .u8 0,.int .i64 0,.int .i64 0] 82)
 go_enter func47,ntmps47
 go_wp2_with fail
 refine(dF _ B BT BC BP s a d ts cs ps hs ha (by omega) (ah HC) hI0).mono ?_;rintro e w1 ⟨rfl,h1,k1⟩;have hX1:=hX0.kp k1
 go_wp2_with fail
 refine(hF w1 (a+1) (d+1) ts cs ps (by omega) (by omega) (by omega) (by omega) (by omega) (by omega) h1).mono ?_;rw[ah HR];rintro e w2 ⟨k2,rfl,h2⟩;have hX2:=hX1.kp k2;have x0:=hX2.p0;have x1:=hX2.p1;have x2:=hX2.p2;have y0:=hX2.f0;have y1:=hX2.f1;have y2:=hX2.f2
 go_wp2_with fail
 refine(aW _ B BT BC BP s a1 (d+1) aF cs1 ps1 hs (by omega) (h2.px hX2 1 (.int .i64 m1))).mono ?_;rintro e w3 ⟨rfl,h3,k3⟩;have hX3:=(hX2.set1 m1).kp k3;clear x0 x1 x2 y0 y1 y2;have x0:=hX3.p0;have x1:=hX3.p1;have x2:=hX3.p2;have y0:=hX3.f0;have y1:=hX3.f1;have y2:=hX3.f2
 go_wp2_with fail
 refine(uZ _ B BT BC BP s a1 (d+1) aF cs1 ps1 hs hlt1 hj (h3.px hX3 0 (.int .u8 (pk s a1)))).mono ?_;rintro e w4 ⟨rfl,h4,k4⟩;have hX4:=(hX3.set0 (pk s a1)).kp k4;clear x0 x1 x2 y0 y1 y2
 go_wp2_with fail
 refine(hF w4 (a1+1) (d+1) aF cs1 ps1 (by omega) (by omega) (by omega) (by omega) (by omega) (by omega) h4).mono ?_;rw[ah HR2];rintro e w5 ⟨k5,rfl,h5⟩;have hX5:=hX4.kp k5;have hXs:=(hX5.set2 m2).pU;have hIs:=(h5.px hX5 2 (.int .i64 m2)).pU;have x0:=hX5.p0;have x1:=hX5.p1;have x2:=hX5.p2;have y0:=hX5.f0;have y1:=hX5.f1;have y2:=hX5.f2
 go_wp2_with fail
 go_region_with (go_at_call 93;refine(ku _ B BT BC BP s a2 d ts2 cs2 ps2 hs hlt2 hd h41 hIs).mono ?_;rintro e w6 ⟨rfl,h6,k6⟩;have z0:=(hXs.kp k6).p0;have z1:=(hXs.kp k6).p1;have z2:=(hXs.kp k6).p2;have v0:=(hXs.kp k6).f0;have v1:=(hXs.kp k6).f1;have v2:=(hXs.kp k6).f2)
 all_goals
  go_wp2_with fail
  refine bodyPost_ret (v:=.tuple #[.agg #[.int .u8 (pk s a1),.int .i64 m1,.int .i64 m2],.bool true]) (by simp[results,results47,go_sem,z0,z1,z2]) rfl ⟨?_,rfl,?_⟩
  ·repeat refine Kp.fG (ad5 _) ?_ _ _
   exact(Kp.pU (Kp.fG (ad5 _) (((Kp.fG (ad5 _) ((Kp.fG (ad5 _) ((kp0.trans k1).trans k2) 1 (.int .i64 m1)).trans k3) 0 (.int .u8 (pk s a1))).trans k4).trans k5) 2 (.int .i64 m2))).trans k6
  ·repeat refine CI.bg ?_ hX5.nB hX5.nT hX5.nC hX5.nP _ _
   exact h6
end
section
variable (w:World) (B BT BC BP:Nat) (s:ByteArray) (a d:Nat) (ts:List Key) (cs:List (Int×Nat)) (ps:List Key) (n:Nat)
theorem sW(s:ByteArray):(∀a,pk s a≠0->a<s.size)/\∀a,0<=pk s a/\pk s a<=255:=⟨λ_ h=>bJ h,Vq s⟩
theorem Ic(hs:s.size<=100)(_ha:a<=s.size)(hd:d<=8)(ht:ts.length<=a)(hcs:cs.length<=a)(hps:ps.length<=a)(hn:s.size<a+1+n)(hc:pk s a=40)(hF:pY B BT BC BP s n)(h:CI w B BT BC BP s a d ts cs ps) :
  Calls prog 47 #[.pointer (some ⟨B,0,none⟩)] w (lF w B BT BC BP s d (aB.JL (pk s) (aB.gI (pk s) n) a d ts cs ps)):=by
 have hlt:a<s.size:=bJ (by omega);unfold aB.JL;split
 ·rename_i h8;exact Fg w B BT BC BP s a d ts cs ps n hs hlt hd ht hcs hps hn (aj hc) h8 h
 ·rename_i h8;have hok:=aB.qw (sW s).1 (sW s).2 n (a+1) (d+1) ts cs ps (by omega) (by omega) (by omega) (by omega);split
  ·rename_i Ep hR;obtain⟨E,p⟩:=Ep;exact MV w B BT BC BP s a d ts cs ps n hs hlt hd ht hcs hps hn (aj hc) h8 E p (aj hR) hF h
  ·rename_i a1 aF cs1 ps1 m1 hR;rw[hR]at hok;obtain⟨p1,p2,p3,p4,p5,p6,p7⟩:=hok;split
   ·rename_i hj;have hlt1:a1<s.size:=bJ (λe=>by rw[e]at hj;simp[aB.au]at hj);have hok2:=aB.qw (sW s).1 (sW s).2 n (a1+1) (d+1) aF cs1 ps1 (by omega) (by omega) (by omega) (by omega);split
    ·rename_i Ep hR2;obtain⟨E,p⟩:=Ep;exact MR w B BT BC BP s a d ts cs ps n hs hlt hd ht hcs hps hn (aj hc) h8 a1 aF cs1 ps1 m1 (aj hR) (by omega) (by omega) (by omega) (by omega) hlt1 hj E p (aj hR2) hF h
    ·rename_i a2 ts2 cs2 ps2 m2 hR2;rw[hR2]at hok2;obtain⟨q1,q2,q3,q4,q5,q6,q7⟩:=hok2;split
     ·rename_i h41;exact MP w B BT BC BP s a d ts cs ps n hs hlt hd ht hcs hps hn (aj hc) h8 a1 aF cs1 ps1 m1 (aj hR) (by omega) (by omega) (by omega) (by omega) hlt1 hj a2 ts2 cs2 ps2 m2 (aj hR2) (bJ (by omega)) h41 hF h
     ·rename_i h41;exact MQ w B BT BC BP s a d ts cs ps n hs hlt hd ht hcs hps hn (aj hc) h8 a1 aF cs1 ps1 m1 (aj hR) (by omega) (by omega) (by omega) (by omega) hlt1 hj a2 ts2 cs2 ps2 m2 (aj hR2) q2 h41 hF h
   ·rename_i hj;exact MS w B BT BC BP s a d ts cs ps n hs hlt hd ht hcs hps hn (aj hc) h8 a1 aF cs1 ps1 m1 (aj hR) (by omega) (by omega) (by omega) (by omega) p2 (by simpa using hj) hF h
theorem A8{w1:World}{B BT BC BP:Nat}{s:ByteArray}{a d:Nat}{ts:List Key}{cs:List (Int×Nat)}{ps:List Key}(h:CI w1 B BT BC BP s a d ts cs ps)(v:Int)(a':Nat)(hv:v=a')(c:Int) :
  PX ((w1.setCell ⟨B,1,none⟩ (.int .i64 v)).alloc (.cells #[.int .u8 c,.int .i64 0,.int .i64 0] 82)) w1.heap.size B BT BC BP c 0 0:=by
 have h1:=PX.new (h.set1 hv) c 0 0;have e:(w1.setCell ⟨B,1,none⟩ (.int .i64 v)).heap.size=w1.heap.size:=by simp[World.setCell]
 rw[e]at h1;exact h1
end
section
variable (w:World) (B BT BC BP:Nat) (s:ByteArray) (a d:Nat) (ts:List Key) (cs:List (Int×Nat)) (ps:List Key) (n:Nat)
theorem wU(hs:s.size<=100)(ha:a<=s.size)(hd:d<=8)(ht:ts.length<=a)(hcs:cs.length<=a)(hps:ps.length<=a)(hn:s.size<a+1+n)(HC:Hid (pk s a=33))(hF:pY B BT BC BP s n)(E:Int)(p:Nat)(HR:Hid (aB.gI (pk s) n (a+1) d ts cs ps=.error (E,p)))(h:CI w B BT BC BP s a d ts cs ps) :
  Calls prog 24 #[.pointer (some ⟨B,0,none⟩)] w (PostF w B BT BC BP s d (.error (E,p))):=by
 have hlt:a<s.size:=bJ (by rw[ah HC];omega)
 go_enter func24,ntmps24
 go_wp2_with fail
 refine(aW w B BT BC BP s a d ts cs ps hs ha h).mono ?_;rw[ah HC];rintro e w1 ⟨rfl,h1,k1⟩;have c1:=h1.c1;have hBl:=h1.lt;have f1:=h1.f1;have hI0:=(h1.set1 (v:=(a:Int)+1) (a':=a+1) (by omega)).alloc (.cells #[.int .u8 33,.int .i64 0,.int .i64 0] 82);have hX0:=A8 h1 ((a:Int)+1) (a+1) (by omega) 33;have hk0:=(k1.trans (Kp.setCell B BT BC BP w1 1 (.int .i64 ((a:Int)+1)))).trans (Kp.alloc B BT BC BP _ (.cells #[.int .u8 33,.int .i64 0,.int .i64 0] 82))
 go_wp2_with fail
 refine(hF _ (a+1) d ts cs ps (by omega) hd (by omega) (by omega) (by omega) (by omega) hI0).mono ?_;rw[ah HR];rintro e w2 ⟨k2,⟨z,rfl⟩,h2⟩;have hX:=hX0.kp k2;have x0:=hX.p0;have x1:=hX.p1;have x2:=hX.p2;have y0:=hX.f0;have y1:=hX.f1;have y2:=hX.f2;clear c1 f1
 go_wp2_with fail
 go_ret2
 refine⟨?_,⟨_,rfl⟩,?_⟩
 ·repeat refine Kp.fG k1.size ?_ _ _
  exact hk0.trans k2
 ·repeat refine Bad.bg ?_ hX.nB _ _
  exact h2
theorem zi(hs:s.size<=100)(ha:a<=s.size)(hd:d<=8)(ht:ts.length<=a)(hcs:cs.length<=a)(hps:ps.length<=a)(hn:s.size<a+1+n)(HC:Hid (pk s a=33))(hF:pY B BT BC BP s n)(a1:Nat)(aF:List Key)(cs1:List (Int×Nat))(ps1:List Key)(m:Nat)(hl:ps1.length<=1000)(hm1:m<=1000)(HR:Hid (aB.gI (pk s) n (a+1) d ts cs ps=.ok (a1,aF,cs1,ps1,m)))(h:CI w B BT BC BP s a d ts cs ps) :
  Calls prog 24 #[.pointer (some ⟨B,0,none⟩)] w (PostF w B BT BC BP s d (.ok (a1,aF,cs1,put ps1 (33,m,0),ps1.idxOf ((33,m,0):Key)))):=by
 have hlt:a<s.size:=bJ (by rw[ah HC];omega)
 go_enter func24,ntmps24
 go_wp2_with fail
 refine(aW w B BT BC BP s a d ts cs ps hs ha h).mono ?_;rw[ah HC];rintro e w1 ⟨rfl,h1,k1⟩;have c1:=h1.c1;have hBl:=h1.lt;have f1:=h1.f1;have hI0:=(h1.set1 (v:=(a:Int)+1) (a':=a+1) (by omega)).alloc (.cells #[.int .u8 33,.int .i64 0,.int .i64 0] 82);have hX0:=A8 h1 ((a:Int)+1) (a+1) (by omega) 33;have hk0:=(k1.trans (Kp.setCell B BT BC BP w1 1 (.int .i64 ((a:Int)+1)))).trans (Kp.alloc B BT BC BP _ (.cells #[.int .u8 33,.int .i64 0,.int .i64 0] 82))
 go_wp2_with fail
 refine(hF _ (a+1) d ts cs ps (by omega) hd (by omega) (by omega) (by omega) (by omega) hI0).mono ?_;rw[ah HR];rintro e w2 ⟨k2,rfl,h2⟩;have hX:=hX0.kp k2;have x0:=hX.p0;have x1:=hX.p1;have x2:=hX.p2;have y0:=hX.f0;have y1:=hX.f1;have y2:=hX.f2;clear c1 f1;have c6:=h2.c6;have HI:=aj (h2.px hX 1 (.int .i64 (m:Nat)));have HK2:=aj (Kp.fG k1.size (hk0.trans k2) 1 (.int .i64 (m:Nat)))
 go_wp2_with fail
 go_region_with (go_at_call 50;refine(pF BP ps1 33 m 0 m 0 _ rfl rfl (by omega) (by omega) (by omega) hl (by exact(ah HI).mp.kept rfl)).mono ?_;rintro e w3 ⟨rfl,hm,hg⟩)
 all_goals
  go_wp2_with fail
  go_ret2
  exact⟨(ah HK2).trans ((Kp.drewN _ _ _ _ _ 1).trans (Kp.zf hg)),rfl,((ah HI).drewN 1).Pm hm hg⟩
theorem zn(hs:s.size<=100)(ha:a<=s.size)(hd:d<=8)(ht:ts.length<=a)(hcs:cs.length<=a)(hps:ps.length<=a)(hn:s.size<a+1+1+n)(HC:Hid (pk s a=80))(E:Int)(p:Nat)(HR:Hid (aB.arg1 (pk s) (aB.dR (pk s) n) (a+1) d ts=.error (E,p)))(h:CI w B BT BC BP s a d ts cs ps) :
  Calls prog 24 #[.pointer (some ⟨B,0,none⟩)] w (PostF w B BT BC BP s d (.error (E,p))):=by
 have hlt:a<s.size:=bJ (by rw[ah HC];omega)
 go_enter func24,ntmps24
 go_wp2_with fail
 refine(aW w B BT BC BP s a d ts cs ps hs ha h).mono ?_;rw[ah HC];rintro e w1 ⟨rfl,h1,k1⟩;have c1:=h1.c1;have hBl:=h1.lt;have f1:=h1.f1;have hI0:=(h1.set1 (v:=(a:Int)+1) (a':=a+1) (by omega)).alloc (.cells #[.int .u8 80,.int .i64 0,.int .i64 0] 82);have hX0:=A8 h1 ((a:Int)+1) (a+1) (by omega) 80;have hk0:=(k1.trans (Kp.setCell B BT BC BP w1 1 (.int .i64 ((a:Int)+1)))).trans (Kp.alloc B BT BC BP _ (.cells #[.int .u8 80,.int .i64 0,.int .i64 0] 82))
 go_wp2_with fail
 refine(qK _ B BT BC BP s (a+1) d ts cs ps n hs (by omega) hd (by omega) (by omega) (by omega) 80 (by omega) hI0).mono ?_;rw[ah HR];rintro e w2 ⟨k2,⟨z,rfl⟩,h2⟩;have hX:=hX0.kp k2;have x0:=hX.p0;have x1:=hX.p1;have x2:=hX.p2;have y0:=hX.f0;have y1:=hX.f1;have y2:=hX.f2;clear c1 f1
 go_wp2_with fail
 go_ret2
 refine⟨?_,⟨_,rfl⟩,?_⟩
 ·repeat refine Kp.fG k1.size ?_ _ _
  exact hk0.trans k2
 ·repeat refine Bad.bg ?_ hX.nB _ _
  exact h2
theorem Ak(hs:s.size<=100)(ha:a<=s.size)(hd:d<=8)(ht:ts.length<=a)(hcs:cs.length<=a)(hps:ps.length<=a)(hn:s.size<a+1+1+n)(HC:Hid (pk s a=80))(a1:Nat)(aF:List Key)(m ix:Nat)(HIX:Hid (cs.idxOf ((80,m):Int×Nat)=ix))(HR:Hid (aB.arg1 (pk s) (aB.dR (pk s) n) (a+1) d ts=.ok (a1,aF,m)))(h:CI w B BT BC BP s a d ts cs ps) :
  Calls prog 24 #[.pointer (some ⟨B,0,none⟩)] w (PostF w B BT BC BP s d (.ok (a1,aF,put cs (80,m),put ps (80,ix,0),ps.idxOf ((80,ix,0):Key)))):=by
 have hlt:a<s.size:=bJ (by rw[ah HC];omega);have hix:ix<=1000:=by have:cs.idxOf ((80,m):Int×Nat)<=cs.length:=al6;rw[ah HIX]at this;omega
 go_enter func24,ntmps24
 go_wp2_with fail
 refine(aW w B BT BC BP s a d ts cs ps hs ha h).mono ?_;rw[ah HC];rintro e w1 ⟨rfl,h1,k1⟩;have c1:=h1.c1;have hBl:=h1.lt;have f1:=h1.f1;have hI0:=(h1.set1 (v:=(a:Int)+1) (a':=a+1) (by omega)).alloc (.cells #[.int .u8 80,.int .i64 0,.int .i64 0] 82);have hX0:=A8 h1 ((a:Int)+1) (a+1) (by omega) 80;have hk0:=(k1.trans (Kp.setCell B BT BC BP w1 1 (.int .i64 ((a:Int)+1)))).trans (Kp.alloc B BT BC BP _ (.cells #[.int .u8 80,.int .i64 0,.int .i64 0] 82))
 go_wp2_with fail
 refine(qK _ B BT BC BP s (a+1) d ts cs ps n hs (by omega) hd (by omega) (by omega) (by omega) 80 (by omega) hI0).mono ?_;rw[ah HR];rintro e w2 ⟨k2,he,h2⟩;rw[ah HIX]at he;subst he;have hX:=hX0.kp k2;have x0:=hX.p0;have x1:=hX.p1;have x2:=hX.p2;have y0:=hX.f0;have y1:=hX.f1;have y2:=hX.f2;clear c1 f1;have c6:=h2.c6;have HI:=aj (h2.px hX 1 (.int .i64 (ix:Nat)));have HK2:=aj (Kp.fG k1.size (hk0.trans k2) 1 (.int .i64 (ix:Nat)))
 go_wp2_with fail
 go_region_with (go_at_call 50;refine(pF BP ps 80 ix 0 ix 0 _ rfl rfl (by omega) (by omega) (by omega) (by omega) (by exact(ah HI).mp.kept rfl)).mono ?_;rintro e w3 ⟨rfl,hm,hg⟩)
 all_goals
  go_wp2_with fail
  go_ret2
  exact⟨(ah HK2).trans ((Kp.drewN _ _ _ _ _ 1).trans (Kp.zf hg)),rfl,((ah HI).drewN 1).Pm hm hg⟩
theorem zl(hs:s.size<=100)(ha:a<=s.size)(hd:d<=8)(ht:ts.length<=a)(hcs:cs.length<=a)(hps:ps.length<=a)(hn:s.size<a+1+1+n)(HC:Hid (pk s a=81))(E:Int)(p:Nat)(HR:Hid (aB.arg1 (pk s) (aB.dR (pk s) n) (a+1) d ts=.error (E,p)))(h:CI w B BT BC BP s a d ts cs ps) :
  Calls prog 24 #[.pointer (some ⟨B,0,none⟩)] w (PostF w B BT BC BP s d (.error (E,p))):=by
 have hlt:a<s.size:=bJ (by rw[ah HC];omega)
 go_enter func24,ntmps24
 go_wp2_with fail
 refine(aW w B BT BC BP s a d ts cs ps hs ha h).mono ?_;rw[ah HC];rintro e w1 ⟨rfl,h1,k1⟩;have c1:=h1.c1;have hBl:=h1.lt;have f1:=h1.f1;have hI0:=(h1.set1 (v:=(a:Int)+1) (a':=a+1) (by omega)).alloc (.cells #[.int .u8 81,.int .i64 0,.int .i64 0] 82);have hX0:=A8 h1 ((a:Int)+1) (a+1) (by omega) 81;have hk0:=(k1.trans (Kp.setCell B BT BC BP w1 1 (.int .i64 ((a:Int)+1)))).trans (Kp.alloc B BT BC BP _ (.cells #[.int .u8 81,.int .i64 0,.int .i64 0] 82))
 go_wp2_with fail
 refine(qK _ B BT BC BP s (a+1) d ts cs ps n hs (by omega) hd (by omega) (by omega) (by omega) 81 (by omega) hI0).mono ?_;rw[ah HR];rintro e w2 ⟨k2,⟨z,rfl⟩,h2⟩;have hX:=hX0.kp k2;have x0:=hX.p0;have x1:=hX.p1;have x2:=hX.p2;have y0:=hX.f0;have y1:=hX.f1;have y2:=hX.f2;clear c1 f1
 go_wp2_with fail
 go_ret2
 refine⟨?_,⟨_,rfl⟩,?_⟩
 ·repeat refine Kp.fG k1.size ?_ _ _
  exact hk0.trans k2
 ·repeat refine Bad.bg ?_ hX.nB _ _
  exact h2
theorem Aj(hs:s.size<=100)(ha:a<=s.size)(hd:d<=8)(ht:ts.length<=a)(hcs:cs.length<=a)(hps:ps.length<=a)(hn:s.size<a+1+1+n)(HC:Hid (pk s a=81))(a1:Nat)(aF:List Key)(m ix:Nat)(HIX:Hid (cs.idxOf ((81,m):Int×Nat)=ix))(HR:Hid (aB.arg1 (pk s) (aB.dR (pk s) n) (a+1) d ts=.ok (a1,aF,m)))(h:CI w B BT BC BP s a d ts cs ps) :
  Calls prog 24 #[.pointer (some ⟨B,0,none⟩)] w (PostF w B BT BC BP s d (.ok (a1,aF,put cs (81,m),put ps (81,ix,0),ps.idxOf ((81,ix,0):Key)))):=by
 have hlt:a<s.size:=bJ (by rw[ah HC];omega);have hix:ix<=1000:=by have:cs.idxOf ((81,m):Int×Nat)<=cs.length:=al6;rw[ah HIX]at this;omega
 go_enter func24,ntmps24
 go_wp2_with fail
 refine(aW w B BT BC BP s a d ts cs ps hs ha h).mono ?_;rw[ah HC];rintro e w1 ⟨rfl,h1,k1⟩;have c1:=h1.c1;have hBl:=h1.lt;have f1:=h1.f1;have hI0:=(h1.set1 (v:=(a:Int)+1) (a':=a+1) (by omega)).alloc (.cells #[.int .u8 81,.int .i64 0,.int .i64 0] 82);have hX0:=A8 h1 ((a:Int)+1) (a+1) (by omega) 81;have hk0:=(k1.trans (Kp.setCell B BT BC BP w1 1 (.int .i64 ((a:Int)+1)))).trans (Kp.alloc B BT BC BP _ (.cells #[.int .u8 81,.int .i64 0,.int .i64 0] 82))
 go_wp2_with fail
 refine(qK _ B BT BC BP s (a+1) d ts cs ps n hs (by omega) hd (by omega) (by omega) (by omega) 81 (by omega) hI0).mono ?_;rw[ah HR];rintro e w2 ⟨k2,he,h2⟩;rw[ah HIX]at he;subst he;have hX:=hX0.kp k2;have x0:=hX.p0;have x1:=hX.p1;have x2:=hX.p2;have y0:=hX.f0;have y1:=hX.f1;have y2:=hX.f2;clear c1 f1;have c6:=h2.c6;have HI:=aj (h2.px hX 1 (.int .i64 (ix:Nat)));have HK2:=aj (Kp.fG k1.size (hk0.trans k2) 1 (.int .i64 (ix:Nat)))
 go_wp2_with fail
 go_region_with (go_at_call 50;refine(pF BP ps 81 ix 0 ix 0 _ rfl rfl (by omega) (by omega) (by omega) (by omega) (by exact(ah HI).mp.kept rfl)).mono ?_;rintro e w3 ⟨rfl,hm,hg⟩)
 all_goals
  go_wp2_with fail
  go_ret2
  exact⟨(ah HK2).trans ((Kp.drewN _ _ _ _ _ 1).trans (Kp.zf hg)),rfl,((ah HI).drewN 1).Pm hm hg⟩
theorem Ah(hs:s.size<=100)(ha:a<=s.size)(hd:d<=8)(ht:ts.length<=a)(hcs:cs.length<=a)(hps:ps.length<=a)(HC:Hid (pk s a=40))(E:Int)(p:Nat)(HP:Hid (∀w,CI w B BT BC BP s a d ts cs ps->Calls prog 47 #[.pointer (some ⟨B,0,none⟩)] w (lF w B BT BC BP s d (.error (E,p)))))(h:CI w B BT BC BP s a d ts cs ps) :
  Calls prog 24 #[.pointer (some ⟨B,0,none⟩)] w (PostF w B BT BC BP s d (.error (E,p))):=by
 have hlt:a<s.size:=bJ (by rw[ah HC];omega)
 go_enter func24,ntmps24
 go_wp2_with fail
 refine(aW w B BT BC BP s a d ts cs ps hs ha h).mono ?_;rw[ah HC];rintro e w1 ⟨rfl,h1,k1⟩;have hI0:=h1.alloc (.cells #[.int .u8 40,.int .i64 0,.int .i64 0] 82);have hX0:=PX.new h1 40 0 0;have hk0:=k1.trans (Kp.alloc B BT BC BP _ (.cells #[.int .u8 40,.int .i64 0,.int .i64 0] 82))
 go_wp2_with fail
 refine((ah HP) _ hI0).mono ?_;rintro e w2 ⟨k2,⟨x,y,z,rfl⟩,h2⟩;have hX:=hX0.kp k2;have x0:=hX.p0;have x1:=hX.p1;have x2:=hX.p2;have y0:=hX.f0;have y1:=hX.f1;have y2:=hX.f2
 go_wp2_with fail
 go_ret2
 refine⟨?_,⟨_,rfl⟩,?_⟩
 ·repeat refine Kp.fG k1.size ?_ _ _
  exact hk0.trans k2
 ·repeat refine Bad.bg ?_ hX.nB _ _
  exact h2
theorem Dn(hs:s.size<=100)(ha:a<=s.size)(hd:d<=8)(ht:ts.length<=a)(hcs:cs.length<=a)(hps:ps.length<=a)(HC:Hid (pk s a=40))(a1:Nat)(aF:List Key)(cs1:List (Int×Nat))(ps1:List Key)(q0:Int)(q1 q2:Nat)(hl:ps1.length<=1000)(hq0:0<=q0/\q0<=255)(hq1:q1<=1000)(hq2:q2<=1000)(HP:Hid (∀w,CI w B BT BC BP s a d ts cs ps->Calls prog 47 #[.pointer (some ⟨B,0,none⟩)] w (lF w B BT BC BP s d (.ok (a1,aF,cs1,ps1,(q0,q1,q2))))))(h:CI w B BT BC BP s a d ts cs ps) :
  Calls prog 24 #[.pointer (some ⟨B,0,none⟩)] w (PostF w B BT BC BP s d (.ok (a1,aF,cs1,put ps1 (q0,q1,q2),ps1.idxOf ((q0,q1,q2):Key)))):=by
 have hlt:a<s.size:=bJ (by rw[ah HC];omega)
 go_enter func24,ntmps24
 go_wp2_with fail
 refine(aW w B BT BC BP s a d ts cs ps hs ha h).mono ?_;rw[ah HC];rintro e w1 ⟨rfl,h1,k1⟩;have hI0:=h1.alloc (.cells #[.int .u8 40,.int .i64 0,.int .i64 0] 82);have hX0:=PX.new h1 40 0 0;have hk0:=k1.trans (Kp.alloc B BT BC BP _ (.cells #[.int .u8 40,.int .i64 0,.int .i64 0] 82))
 go_wp2_with fail
 refine((ah HP) _ hI0).mono ?_;rintro e w2 ⟨k2,rfl,h2⟩;have hX:=hX0.kp k2;have x0:=hX.p0;have x1:=hX.p1;have x2:=hX.p2;have y0:=hX.f0;have y1:=hX.f1;have y2:=hX.f2;have c6:=h2.c6;have HI:=aj (((h2.px hX 0 (.int .u8 q0)).bg hX.nB hX.nT hX.nC hX.nP 1 (.int .i64 (q1:Nat))).bg hX.nB hX.nT hX.nC hX.nP 2 (.int .i64 (q2:Nat)));have HK2:=aj (Kp.fG k1.size (Kp.fG k1.size (Kp.fG k1.size (hk0.trans k2) 0 (.int .u8 q0)) 1 (.int .i64 (q1:Nat))) 2 (.int .i64 (q2:Nat)))
 go_wp2_with fail
 go_region_with (go_at_call 50;refine(pF BP ps1 q0 q1 q2 q1 q2 _ rfl rfl hq0 hq1 hq2 hl (by exact(ah HI).mp.kept rfl)).mono ?_;rintro e w3 ⟨rfl,hm,hg⟩)
 all_goals
  go_wp2_with fail
  go_ret2
  exact⟨(ah HK2).trans ((Kp.drewN _ _ _ _ _ 1).trans (Kp.zf hg)),rfl,((ah HI).drewN 1).Pm hm hg⟩
end
end Go.Proofs.YthcppbmkacbbiabGreat
