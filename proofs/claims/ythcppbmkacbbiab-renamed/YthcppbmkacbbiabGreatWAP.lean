import Derived.Test.YthcppbmkacbbiabGreatWAG
import Derived.Test.YthcppbmkacbbiabGreatWAM
import Derived.Test.YthcppbmkacbbiabGreatWAN
import Derived.Test.YthcppbmkacbbiabGreatWAO
set_option linter.unusedSimpArgs false
set_option linter.unusedVariables false
set_option maxHeartbeats 1000000
namespace Go.Proofs.YthcppbmkacbbiabGreat
open Go.Proofs.Tryz
open Go.RowKit Go.Maps Go.WideMaps
open aB (Key put RT wZ RF RP RQ)
section
variable (w:World) (B BT BC BP:Nat) (s:ByteArray) (a d:Nat) (ts:List Key) (cs:List (Int×Nat)) (ps:List Key) (n:Nat)
theorem Ai(hs:s.size<=100)(ha:a<=s.size)(hd:d<=8)(ht:ts.length<=a)(hcs:cs.length<=a)(hps:ps.length<=a)(c:Int)(HC:Hid (pk s a=c))(b1:(c==33)=false)(b2:(c==40)=false)(b3:(c==80)=false)(b4:(c==81)=false)(E:Int)(p:Nat)(HP:Hid (∀w,CI w B BT BC BP s a d ts cs ps->Calls prog 49 #[.pointer (some ⟨B,0,none⟩)] w (lF w B BT BC BP s d (.error (E,p)))))(h:CI w B BT BC BP s a d ts cs ps) :
  Calls prog 24 #[.pointer (some ⟨B,0,none⟩)] w (PostF w B BT BC BP s d (.error (E,p))):=by
 go_enter func24,ntmps24
 go_wp2_with fail
 refine(aW w B BT BC BP s a d ts cs ps hs ha h).mono ?_;rw[ah HC];rintro e w1 ⟨rfl,h1,k1⟩;have hI0:=h1.alloc (.cells #[.int .u8 c,.int .i64 0,.int .i64 0] 82);have hX0:=PX.new h1 c 0 0;have hk0:=k1.trans (Kp.alloc B BT BC BP _ (.cells #[.int .u8 c,.int .i64 0,.int .i64 0] 82))
 go_wp2_with fail
 refine((ah HP) _ hI0).mono ?_;rintro e w2 ⟨k2,⟨x,y,z,rfl⟩,h2⟩;have hX:=hX0.kp k2;have x0:=hX.p0;have x1:=hX.p1;have x2:=hX.p2;have y0:=hX.f0;have y1:=hX.f1;have y2:=hX.f2
 go_wp2_with fail
 go_ret2
 refine⟨?_,⟨_,rfl⟩,?_⟩
 ·repeat refine Kp.fG k1.size ?_ _ _
  exact hk0.trans k2
 ·repeat refine Bad.bg ?_ hX.nB _ _
  exact h2
theorem Dp(hs:s.size<=100)(ha:a<=s.size)(hd:d<=8)(ht:ts.length<=a)(hcs:cs.length<=a)(hps:ps.length<=a)(c:Int)(HC:Hid (pk s a=c))(b1:(c==33)=false)(b2:(c==40)=false)(b3:(c==80)=false)(b4:(c==81)=false)(a1:Nat)(aF:List Key)(cs1:List (Int×Nat))(ps1:List Key)(q0:Int)(q1 q2:Nat)(hl:ps1.length<=1000)(hq0:0<=q0/\q0<=255)(hq1:q1<=1000)(hq2:q2<=1000)(HP:Hid (∀w,CI w B BT BC BP s a d ts cs ps->Calls prog 49 #[.pointer (some ⟨B,0,none⟩)] w (lF w B BT BC BP s d (.ok (a1,aF,cs1,ps1,(q0,q1,q2))))))(h:CI w B BT BC BP s a d ts cs ps) :
  Calls prog 24 #[.pointer (some ⟨B,0,none⟩)] w (PostF w B BT BC BP s d (.ok (a1,aF,cs1,put ps1 (q0,q1,q2),ps1.idxOf ((q0,q1,q2):Key)))):=by
 go_enter func24,ntmps24
 go_wp2_with fail
 refine(aW w B BT BC BP s a d ts cs ps hs ha h).mono ?_;rw[ah HC];rintro e w1 ⟨rfl,h1,k1⟩;have hI0:=h1.alloc (.cells #[.int .u8 c,.int .i64 0,.int .i64 0] 82);have hX0:=PX.new h1 c 0 0;have hk0:=k1.trans (Kp.alloc B BT BC BP _ (.cells #[.int .u8 c,.int .i64 0,.int .i64 0] 82))
 go_wp2_with fail
 refine((ah HP) _ hI0).mono ?_;rintro e w2 ⟨k2,rfl,h2⟩;have hX:=hX0.kp k2;have x0:=hX.p0;have x1:=hX.p1;have x2:=hX.p2;have y0:=hX.f0;have y1:=hX.f1;have y2:=hX.f2;have c6:=h2.c6;have HI:=aj (((h2.px hX 0 (.int .u8 q0)).bg hX.nB hX.nT hX.nC hX.nP 1 (.int .i64 (q1:Nat))).bg hX.nB hX.nT hX.nC hX.nP 2 (.int .i64 (q2:Nat)));have HK2:=aj (Kp.fG k1.size (Kp.fG k1.size (Kp.fG k1.size (hk0.trans k2) 0 (.int .u8 q0)) 1 (.int .i64 (q1:Nat))) 2 (.int .i64 (q2:Nat)))
 go_wp2_with fail
 go_region_with (go_at_call 50;refine(pF BP ps1 q0 q1 q2 q1 q2 _ rfl rfl hq0 hq1 hq2 hl (by exact(ah HI).mp.kept rfl)).mono ?_;rintro e w3 ⟨rfl,hm,hg⟩)
 all_goals
  go_wp2_with fail
  go_ret2
  exact⟨(ah HK2).trans ((Kp.drewN _ _ _ _ _ 1).trans (Kp.zf hg)),rfl,((ah HI).drewN 1).Pm hm hg⟩
theorem Dl(hs:s.size<=100)(hF:pY B BT BC BP s n):pY B BT BC BP s (n+1):=by
 intro w a d ts cs ps ha hd ht hcs hps hn h;unfold aB.gI;split
 ·rename_i e;have hlt:a<s.size:=bJ (by omega);have hok:=aB.qw (sW s).1 (sW s).2 n (a+1) d ts cs ps (by omega) (by omega) (by omega) (by omega);cases hR:aB.gI (pk s) n (a+1) d ts cs ps with
  |error Ep=>
   obtain⟨E,p⟩:=Ep;exact wU w B BT BC BP s a d ts cs ps n hs ha hd ht hcs hps (by omega) (aj e) hF E p (aj hR) h
  |ok q=>
   obtain⟨a1,aF,cs1,ps1,m⟩:=q;rw[hR]at hok;obtain⟨p1,p2,p3,p4,p5,p6,p7⟩:=hok;exact zi w B BT BC BP s a d ts cs ps n hs ha hd ht hcs hps (by omega) (aj e) hF a1 aF cs1 ps1 m (by omega) (by omega) (aj hR) h
 ·rename_i e33;split
  ·rename_i e;have hlt:a<s.size:=bJ (by omega);have HP:Hid (∀w,CI w B BT BC BP s a d ts cs ps->Calls prog 47 #[.pointer (some ⟨B,0,none⟩)] w (lF w B BT BC BP s d (aB.JL (pk s) (aB.gI (pk s) n) a d ts cs ps))):=λw h=>Ic w B BT BC BP s a d ts cs ps n hs ha hd ht hcs hps (by omega) e hF h;have hok:=aB.Uc (sW s).1 (sW s).2 (n:=n) (a:=a) (d:=d) (ts:=ts) (cs:=cs) (ps:=ps) hlt ht hcs hps;cases hR:aB.JL (pk s) (aB.gI (pk s) n) a d ts cs ps with
   |error Ep=>
    obtain⟨E,p⟩:=Ep;rw[hR]at HP;exact Ah w B BT BC BP s a d ts cs ps hs ha hd ht hcs hps (aj e) E p HP h
   |ok q=>
    obtain⟨a1,aF,cs1,ps1,q0,q1,q2⟩:=q;rw[hR]at HP hok;obtain⟨p1,p2,p3,p4,p5,p6,p7,p8,p9,p10⟩:=hok;exact Dn w B BT BC BP s a d ts cs ps hs ha hd ht hcs hps (aj e) a1 aF cs1 ps1 q0 q1 q2 (by omega) ⟨p9,p10⟩ (by simp at p7;omega) (by simp at p8;omega) HP h
  ·rename_i e40;split
   ·rename_i e8;have hlt:a<s.size:=bJ (by omega);unfold aB.SS;rcases e8 with e|e
    ·rw[e];cases hR:aB.arg1 (pk s) (aB.dR (pk s) (n+1)) (a+1) d ts with
     |error Ep=>
      obtain⟨E,p⟩:=Ep;exact zn w B BT BC BP s a d ts cs ps (n+1) hs ha hd ht hcs hps (by omega) (aj e) E p (aj hR) h
     |ok q=>
      obtain⟨a1,aF,m⟩:=q;exact Ak w B BT BC BP s a d ts cs ps (n+1) hs ha hd ht hcs hps (by omega) (aj e) a1 aF m _ (aj rfl) (aj hR) h
    ·rw[e];cases hR:aB.arg1 (pk s) (aB.dR (pk s) (n+1)) (a+1) d ts with
     |error Ep=>
      obtain⟨E,p⟩:=Ep;exact zl w B BT BC BP s a d ts cs ps (n+1) hs ha hd ht hcs hps (by omega) (aj e) E p (aj hR) h
     |ok q=>
      obtain⟨a1,aF,m⟩:=q;exact Aj w B BT BC BP s a d ts cs ps (n+1) hs ha hd ht hcs hps (by omega) (aj e) a1 aF m _ (aj rfl) (aj hR) h
   ·rename_i e8;have hc':((pk s a==33)=false/\(pk s a==40)=false)/\(pk s a==80)=false/\(pk s a==81)=false:=(by simp;omega);obtain⟨⟨b1,b2⟩,b3,b4⟩:=hc';have HP:Hid (∀w,CI w B BT BC BP s a d ts cs ps->Calls prog 49 #[.pointer (some ⟨B,0,none⟩)] w (lF w B BT BC BP s d (aB.AV (pk s) (n+1) a d ts cs ps))):=λw h=>Du w B BT BC BP s a d ts cs ps (n+1) hs ha hd ht (by omega) h;have hok:=aB.JU (sW s).1 (n:=n+1) (a:=a) (d:=d) (ts:=ts) (cs:=cs) (ps:=ps) ha ht;cases hR:aB.AV (pk s) (n+1) a d ts cs ps with
    |error Ep=>
     obtain⟨E,p⟩:=Ep;rw[hR]at HP;exact Ai w B BT BC BP s a d ts cs ps hs ha hd ht hcs hps _ (aj rfl) b1 b2 b3 b4 E p HP h
    |ok q=>
     obtain⟨a1,aF,cs1,ps1,q0,q1,q2⟩:=q;rw[hR]at HP hok;obtain⟨p1,p2,p3,p4,p5,p6,p7,p8,p9,p10⟩:=hok;exact Dp w B BT BC BP s a d ts cs ps hs ha hd ht hcs hps _ (aj rfl) b1 b2 b3 b4 a1 aF cs1 ps1 q0 q1 q2 (by omega) ⟨p9,p10⟩ (by simp at p7;omega) (by simp at p8;omega) HP h
theorem jy(hs:s.size<=100):∀n,pY B BT BC BP s n
 |0=>λw a d ts cs ps ha hd ht hcs hps hn h=>absurd hn (by omega)
 |n+1=>Dl B BT BC BP s n hs (jy hs n)
end
def start(w:World)(s:ByteArray):World:=
 ((((w.alloc (.cells #[.slice none 0 0,.slice none 0 0,.slice none 0 0] 46)).alloc (.map #[] 0)).alloc (.map #[] 0)).alloc (.map #[] 0)).alloc (.cells #[.string s,.int .i64 0,.int .i64 0,.int .i64 0,.map (some (w.heap.size+1)),.map (some (w.heap.size+1+1)),.map (some (w.heap.size+1+1+1))] 71)
theorem mW(w:World)(s:ByteArray):(start w s).heap.size=w.heap.size+5:=by simp[start]
theorem gX(w:World)(s:ByteArray)(i:Nat):(start w s).cell? ⟨w.heap.size+1+1+1+1,i,none⟩=#[Value.string s,.int .i64 0,.int .i64 0,.int .i64 0,.map (some (w.heap.size+1)),.map (some (w.heap.size+1+1)),.map (some (w.heap.size+1+1+1))][i]?:=
 World.cell?_alloc_at _ _ _ _ (by simp)
theorem mX(w:World)(s:ByteArray)(i:Nat):(start w s).frozen? ⟨w.heap.size+1+1+1+1,i,none⟩=false:=
 World.frozen?_alloc_at _ _ _ _ (by simp)
theorem sJ(w:World)(s:ByteArray):CI (start w s) (w.heap.size+1+1+1+1) (w.heap.size+1) (w.heap.size+1+1) (w.heap.size+1+1+1) s 0 0 [] [] [] where
 c0:=gX w s 0
 c1:=gX w s 1
 c2:=gX w s 2
 c3:=gX w s 3
 c4:=gX w s 4
 c5:=gX w s 5
 c6:=gX w s 6
 f1:=mX w s 1
 f2:=mX w s 2
 f3:=mX w s 3
 mt:=by
  have h:=jd (w.alloc (.cells #[.slice none 0 0,.slice none 0 0,.slice none 0 0] 46)) 76 aS;have e:(w.alloc (.cells #[.slice none 0 0,.slice none 0 0,.slice none 0 0] 46)).heap.size=w.heap.size+1:=by simp
  rw[e]at h;exact h.kept (by unfold start;rw[ae3 _ _ _ (by simp),ae3 _ _ _ (by simp),ae3 _ _ _ (by simp)])
 mc:=by
  have h:=jd ((w.alloc (.cells #[.slice none 0 0,.slice none 0 0,.slice none 0 0] 46)).alloc (.map #[] 0)) 79 iT;have e:((w.alloc (.cells #[.slice none 0 0,.slice none 0 0,.slice none 0 0] 46)).alloc (.map #[] 0)).heap.size=w.heap.size+1+1:=by simp
  rw[e]at h;exact h.kept (by unfold start;rw[ae3 _ _ _ (by simp),ae3 _ _ _ (by simp)])
 mp:=by
  have h:=jd (((w.alloc (.cells #[.slice none 0 0,.slice none 0 0,.slice none 0 0] 46)).alloc (.map #[] 0)).alloc (.map #[] 0)) 82 aS;have e:(((w.alloc (.cells #[.slice none 0 0,.slice none 0 0,.slice none 0 0] 46)).alloc (.map #[] 0)).alloc (.map #[] 0)).heap.size=w.heap.size+1+1+1:=by simp
  rw[e]at h;exact h.kept (by unfold start;rw[ae3 _ _ _ (by simp)])
 nT:=by omega
 nC:=by omega
 nn:=by omega
 nP:=by omega
 Py:=by omega
 Pz:=by omega
theorem Em(w:World)(s:ByteArray):Below w.heap.size w (start w s):=
 (((((ag6 _ _).alloc (ad5 _) _).alloc (by simp) _).alloc (by simp;omega) _).alloc (by simp;omega) _).alloc (by simp;omega) _
theorem KT(w:World)(s:ByteArray)(i:Nat):(start w s).cell? ⟨w.heap.size,i,none⟩=#[Value.slice none 0 0,.slice none 0 0,.slice none 0 0][i]?:=by
 unfold start;rw[World.cell?_alloc_past _ _ _ (by simp;omega),World.cell?_alloc_past _ _ _ (by simp;omega),World.cell?_alloc_past _ _ _ (by simp;omega),World.cell?_alloc_past _ _ _ (by simp)];exact World.cell?_alloc_at _ _ _ _ rfl
theorem GN(w:World)(s:ByteArray)(i:Nat):(start w s).frozen? ⟨w.heap.size,i,none⟩=false:=by
 unfold start;rw[World.frozen?_alloc_past _ _ _ (by simp;omega),World.frozen?_alloc_past _ _ _ (by simp;omega),World.frozen?_alloc_past _ _ _ (by simp;omega),World.frozen?_alloc_past _ _ _ (by simp)];exact World.frozen?_alloc_at _ _ _ _ rfl
abbrev KpS(w:World)(a b:World):Prop:=Kp (w.heap.size+1+1+1+1) (w.heap.size+1) (w.heap.size+1+1) (w.heap.size+1+1+1) a b
theorem fB{w w1:World}{s:ByteArray}(k:KpS w (start w s) w1)(i:Nat):w1.cell? ⟨w.heap.size,i,none⟩=#[Value.slice none 0 0,.slice none 0 0,.slice none 0 0][i]?:=by
 rw[k.cell (by rw[mW];omega) (by omega) (by omega) (by omega) (by omega)];exact KT w s i
theorem dI{w w1:World}{s:ByteArray}(k:KpS w (start w s) w1)(i:Nat):w1.frozen? ⟨w.heap.size,i,none⟩=false:=by
 rw[k.frozen (by rw[mW];omega) (by omega) (by omega) (by omega) (by omega)];exact GN w s i
theorem lS{w w1:World}{s:ByteArray}(k:KpS w (start w s) w1):Below w.heap.size w w1:=
 (Em w s).trans (k.below (by rw[mW];omega) (by omega) (by omega) (by omega) (by omega))
structure FR(w:World)(base GT GC GP:Nat)(ts:List Key)(cs:List (Int×Nat))(ps:List Key):Prop where
 t:w.ownsRow base 76 3 (.slice (some ⟨GT,0,none⟩) ts.length ts.length) ts.length (ts.flatMap iR)
 c:w.ownsRow base 79 2 (.slice (some ⟨GC,0,none⟩) cs.length cs.length) cs.length (cs.flatMap lH)
 p:w.ownsRow base 82 3 (.slice (some ⟨GP,0,none⟩) ps.length ps.length) ps.length (ps.flatMap iR)
def fv(GT GC GP nt nc np:Nat):Value:=.agg #[.slice (some ⟨GT,0,none⟩) nt nt,.slice (some ⟨GC,0,none⟩) nc nc,.slice (some ⟨GP,0,none⟩) np np]
section
variable (w:World) (s:ByteArray)
theorem Lm(hs:100<s.size)(hm:s.size<=maxLen) :
  Calls prog 17 #[.string s] w λe w'=>e=.returned (.tuple #[.agg #[.slice none 0 0,.slice none 0 0,.slice none 0 0],.int .i64 1,.int .i64 0])/\Below w.heap.size w w':=by
 unfold maxLen at hm
 go_enter func17,ntmps17
 go_wp2_with fail
 exact ag3 (v:=.tuple #[.agg #[.slice none 0 0,.slice none 0 0,.slice none 0 0],.int .i64 1,.int .i64 0]) (by simp[results,results17,go_sem]) rfl ⟨rfl,(ag6 _ _).alloc (ad5 _) _⟩
theorem OU(hs:s.size<=100)(E:Int)(p:Nat)(HR:Hid (aB.gI (pk s) (s.size+1) 0 0 [] [] []=.error (E,p))) :
  Calls prog 17 #[.string s] w λe w'=>e=.returned (.tuple #[.agg #[.slice none 0 0,.slice none 0 0,.slice none 0 0],.int .i64 E,.int .i64 p])/\Below w.heap.size w w':=by
 have hmm:=@as6 prog;have hb:decide ((100:Int)<(s.size:Int))=false:=by simp;omega
 go_enter func17,ntmps17
 go_wp2_with fail
 refine(jy _ _ _ _ s hs (s.size+1) (start w s) 0 0 [] [] [] (by omega) (by omega) (by simp) (by simp) (by simp) (by omega) (sJ w s)).mono ?_;rw[ah HR];rintro e w1 ⟨k1,⟨z,rfl⟩,h1⟩;have r0:=fB k1 0;have r1:=fB k1 1;have r2:=fB k1 2;have q0:=dI k1 0;have q1:=dI k1 1;have q2:=dI k1 2;simp at r0 r1 r2;have c1:=h1.c1;have c3:=h1.c3
 go_wp2_with fail
 go_region
 all_goals
  go_wp2_with fail
  refine ag3 (v:=.tuple #[.agg #[.slice none 0 0,.slice none 0 0,.slice none 0 0],.int .i64 E,.int .i64 p]) (by simp[results,results17,go_sem,r0,r1,r2]) rfl ⟨rfl,?_⟩;exact((((lS k1).setCell (ad5 _) _).setCell (ad5 _) _).setCell (ad5 _) _).drew
theorem OT(hs:s.size<=100)(a1:Nat)(ts:List Key)(cs:List (Int×Nat))(ps:List Key)(m:Nat)(HR:Hid (aB.gI (pk s) (s.size+1) 0 0 [] [] []=.ok (a1,ts,cs,ps,m)))(hlt:a1<s.size) :
  Calls prog 17 #[.string s] w λe w'=>e=.returned (.tuple #[.agg #[.slice none 0 0,.slice none 0 0,.slice none 0 0],.int .i64 2,.int .i64 a1])/\Below w.heap.size w w':=by
 have hmm:=@as6 prog;have hb:decide ((100:Int)<(s.size:Int))=false:=by simp;omega
 go_enter func17,ntmps17
 go_wp2_with fail
 refine(jy _ _ _ _ s hs (s.size+1) (start w s) 0 0 [] [] [] (by omega) (by omega) (by simp) (by simp) (by simp) (by omega) (sJ w s)).mono ?_;rw[ah HR];rintro e w1 ⟨k1,rfl,h1⟩
 go_wp2_with fail
 refine(XD w1 _ _ _ _ s a1 0 ts cs ps hlt h1).mono ?_;rintro e w2 ⟨rfl,h2,k2⟩;have k3:=k1.trans k2;have r0:=fB k3 0;have r1:=fB k3 1;have r2:=fB k3 2;have q0:=dI k3 0;have q1:=dI k3 1;have q2:=dI k3 2;simp at r0 r1 r2;have c1:=h2.c1;have c3:=h2.c3
 go_wp2_with fail
 go_region
 all_goals
  go_wp2_with fail
  refine ag3 (v:=.tuple #[.agg #[.slice none 0 0,.slice none 0 0,.slice none 0 0],.int .i64 2,.int .i64 a1]) (by simp[results,results17,go_sem,r0,r1,r2]) rfl ⟨rfl,?_⟩;exact((((lS k3).setCell (ad5 _) _).setCell (ad5 _) _).setCell (ad5 _) _).drew
theorem Ll(hs:s.size<=100)(a1:Nat)(ts:List Key)(cs:List (Int×Nat))(ps:List Key)(m:Nat)(HR:Hid (aB.gI (pk s) (s.size+1) 0 0 [] [] []=.ok (a1,ts,cs,ps,m)))(heq:a1=s.size)(YV:7<ts.length\/4<cs.length) :
  Calls prog 17 #[.string s] w λe w'=>e=.returned (.tuple #[.agg #[.slice none 0 0,.slice none 0 0,.slice none 0 0],.int .i64 4,.int .i64 0])/\Below w.heap.size w w':=by
 have hmm:=@as6 prog;have hb:decide ((100:Int)<(s.size:Int))=false:=by simp;omega
 go_enter func17,ntmps17
 go_wp2_with fail
 refine(jy _ _ _ _ s hs (s.size+1) (start w s) 0 0 [] [] [] (by omega) (by omega) (by simp) (by simp) (by simp) (by omega) (sJ w s)).mono ?_;rw[ah HR];rintro e w1 ⟨k1,rfl,h1⟩
 go_wp2_with fail
 refine(Ku w1 _ _ _ _ s a1 0 ts cs ps heq h1).mono ?_;rintro e w2 ⟨rfl,h2,k2⟩;have k3:=k1.trans k2;have r0:=fB k3 0;have r1:=fB k3 1;have r2:=fB k3 2;have q0:=dI k3 0;have q1:=dI k3 1;have q2:=dI k3 2;simp at r0 r1 r2;have c4:=h2.c4;have c5:=h2.c5;obtain⟨D,hown,hsz,hall,_⟩:=h2.mt;obtain⟨D2,hown2,hsz2,Qw,_⟩:=h2.mc;have nZ:=aj hsz;have XV:=aj hsz2;clear hall Qw hsz hsz2;by_cases h7:7<ts.length
 ·have hb7:decide ((7:Int)<(Maps.size D:Int))=true:=by rw[ah nZ];simp;omega
  have hl2:=λty=>hown2.len underlying67 ty
  go_wp2_with (at_len;refine wpList_len_own _ rfl (.tmp 33) 65 rfl 76 3 underlying65 _ _ ts.length D rfl hown ?_)
  refine ag3 (v:=.tuple #[.agg #[.slice none 0 0,.slice none 0 0,.slice none 0 0],.int .i64 4,.int .i64 0]) (by simp[results,results17,go_sem,r0,r1,r2]) rfl ⟨rfl,?_⟩;exact(((lS k3).setCell (ad5 _) _).setCell (ad5 _) _).setCell (ad5 _) _
 ·have hb7:decide ((7:Int)<(Maps.size D:Int))=false:=by rw[ah nZ];simp;omega
  have hb4:decide ((4:Int)<(Maps.size D2:Int))=true:=by rw[ah XV];simp;omega
  have hl2:=λty=>hown2.len underlying67 ty
  go_wp2_with (at_len;refine wpList_len_own _ rfl (.tmp 33) 65 rfl 76 3 underlying65 _ _ ts.length D rfl hown ?_)
  refine ag3 (v:=.tuple #[.agg #[.slice none 0 0,.slice none 0 0,.slice none 0 0],.int .i64 4,.int .i64 0]) (by simp[results,results17,go_sem,r0,r1,r2]) rfl ⟨rfl,?_⟩;exact(((lS k3).setCell (ad5 _) _).setCell (ad5 _) _).setCell (ad5 _) _
end
end Go.Proofs.YthcppbmkacbbiabGreat
