import Derived.Test.YthcppbmkacbbiaaGreatYAF
import Derived.Test.YthcppbmkacbbiaaGreatYAL
import Derived.Test.YthcppbmkacbbiaaGreatYAM
import Derived.Test.YthcppbmkacbbiaaGreatYAN
set_option linter.unusedSimpArgs false
set_option linter.unusedVariables false
set_option maxHeartbeats 1000000
namespace Go.Proofs.YthcppbmkacbbiaaGreat
open Go.Proofs.Tryz
open Go.RowKit Go.Maps Go.WideMaps
open aB (Key put RT zQ RF RP RQ)
section
variable (w:World) (B BT BC BP:Nat) (s:ByteArray) (a d:Nat) (ts:List Key) (cs:List (Int×Nat)) (ps:List Key) (n:Nat)
theorem Ac(hs:s.size<=100)(ha:a<=s.size)(hd:d<=8)(ht:ts.length<=a)(hcs:cs.length<=a)(hps:ps.length<=a)(c:Int)(HC:Hid (pk s a=c))(b1:(c==33)=false)(b2:(c==40)=false)(b3:(c==80)=false)(b4:(c==81)=false)(E:Int)(p:Nat)(HP:Hid (∀w,CI w B BT BC BP s a d ts cs ps->Calls prog 66 #[.pointer (some ⟨B,0,none⟩)] w (lT w B BT BC BP s d (.error (E,p)))))(h:CI w B BT BC BP s a d ts cs ps) :
  Calls prog 42 #[.pointer (some ⟨B,0,none⟩)] w (PostF w B BT BC BP s d (.error (E,p))):=by
 go_enter func42,ntmps42
 go_wp2_with fail
 refine(aX w B BT BC BP s a d ts cs ps hs ha h).mono ?_;rw[ah HC];rintro e w1 ⟨rfl,h1,k1⟩;have hI0:=h1.alloc (.cells #[.int .u8 c,.int .i64 0,.int .i64 0] 93);have hX0:=PX.new h1 c 0 0;have hk0:=k1.trans (Kp.alloc B BT BC BP _ (.cells #[.int .u8 c,.int .i64 0,.int .i64 0] 93))
 go_wp2_with fail
 refine((ah HP) _ hI0).mono ?_;rintro e w2 ⟨k2,⟨x,y,z,rfl⟩,h2⟩;have hX:=hX0.kp k2;have x0:=hX.p0;have x1:=hX.p1;have x2:=hX.p2;have y0:=hX.f0;have y1:=hX.f1;have y2:=hX.f2
 go_wp2_with fail
 go_ret2
 refine⟨?_,⟨_,rfl⟩,?_⟩
 ·repeat refine Kp.fF k1.size ?_ _ _
  exact hk0.trans k2
 ·repeat refine Bad.bD ?_ hX.nB _ _
  exact h2
theorem CV(hs:s.size<=100)(ha:a<=s.size)(hd:d<=8)(ht:ts.length<=a)(hcs:cs.length<=a)(hps:ps.length<=a)(c:Int)(HC:Hid (pk s a=c))(b1:(c==33)=false)(b2:(c==40)=false)(b3:(c==80)=false)(b4:(c==81)=false)(a1:Nat)(aF:List Key)(cs1:List (Int×Nat))(ps1:List Key)(q0:Int)(q1 q2:Nat)(hl:ps1.length<=1000)(hq0:0<=q0/\q0<=255)(hq1:q1<=1000)(hq2:q2<=1000)(HP:Hid (∀w,CI w B BT BC BP s a d ts cs ps->Calls prog 66 #[.pointer (some ⟨B,0,none⟩)] w (lT w B BT BC BP s d (.ok (a1,aF,cs1,ps1,(q0,q1,q2))))))(h:CI w B BT BC BP s a d ts cs ps) :
  Calls prog 42 #[.pointer (some ⟨B,0,none⟩)] w (PostF w B BT BC BP s d (.ok (a1,aF,cs1,put ps1 (q0,q1,q2),ps1.idxOf ((q0,q1,q2):Key)))):=by
 go_enter func42,ntmps42
 go_wp2_with fail
 refine(aX w B BT BC BP s a d ts cs ps hs ha h).mono ?_;rw[ah HC];rintro e w1 ⟨rfl,h1,k1⟩;have hI0:=h1.alloc (.cells #[.int .u8 c,.int .i64 0,.int .i64 0] 93);have hX0:=PX.new h1 c 0 0;have hk0:=k1.trans (Kp.alloc B BT BC BP _ (.cells #[.int .u8 c,.int .i64 0,.int .i64 0] 93))
 go_wp2_with fail
 refine((ah HP) _ hI0).mono ?_;rintro e w2 ⟨k2,rfl,h2⟩;have hX:=hX0.kp k2;have x0:=hX.p0;have x1:=hX.p1;have x2:=hX.p2;have y0:=hX.f0;have y1:=hX.f1;have y2:=hX.f2;have c6:=h2.c6;have HI:=aj (((h2.px hX 0 (.int .u8 q0)).bD hX.nB hX.nT hX.nC hX.nP 1 (.int .i64 (q1:Nat))).bD hX.nB hX.nT hX.nC hX.nP 2 (.int .i64 (q2:Nat)));have HK2:=aj (Kp.fF k1.size (Kp.fF k1.size (Kp.fF k1.size (hk0.trans k2) 0 (.int .u8 q0)) 1 (.int .i64 (q1:Nat))) 2 (.int .i64 (q2:Nat)))
 go_wp2_with fail
 go_region_with (go_at_call 67;refine(pW BP ps1 q0 q1 q2 q1 q2 _ rfl rfl hq0 hq1 hq2 hl (by exact(ah HI).mp.kept rfl)).mono ?_;rintro e w3 ⟨rfl,hm,hg⟩)
 all_goals
  go_wp2_with fail
  go_ret2
  exact⟨(ah HK2).trans ((Kp.drewN _ _ _ _ _ 1).trans (Kp.yY hg)),rfl,((ah HI).drewN 1).OL hm hg⟩
theorem CS(hs:s.size<=100)(hF:qC B BT BC BP s n):qC B BT BC BP s (n+1):=by
 intro w a d ts cs ps ha hd ht hcs hps hn h;unfold aB.iT;split
 ·rename_i e;have hlt:a<s.size:=bK (by omega);have hok:=aB.qI (sU s).1 (sU s).2 n (a+1) d ts cs ps (by omega) (by omega) (by omega) (by omega);cases hR:aB.iT (pk s) n (a+1) d ts cs ps with
  |error Ep=>
   obtain⟨E,p⟩:=Ep;exact wV w B BT BC BP s a d ts cs ps n hs ha hd ht hcs hps (by omega) (aj e) hF E p (aj hR) h
  |ok q=>
   obtain⟨a1,aF,cs1,ps1,m⟩:=q;rw[hR]at hok;obtain⟨p1,p2,p3,p4,p5,p6,p7⟩:=hok;exact y8 w B BT BC BP s a d ts cs ps n hs ha hd ht hcs hps (by omega) (aj e) hF a1 aF cs1 ps1 m (by omega) (by omega) (aj hR) h
 ·rename_i e33;split
  ·rename_i e;have hlt:a<s.size:=bK (by omega);have HP:Hid (∀w,CI w B BT BC BP s a d ts cs ps->Calls prog 64 #[.pointer (some ⟨B,0,none⟩)] w (lT w B BT BC BP s d (aB.KO (pk s) (aB.iT (pk s) n) a d ts cs ps))):=λw h=>GX w B BT BC BP s a d ts cs ps n hs ha hd ht hcs hps (by omega) e hF h;have hok:=aB.Tf (sU s).1 (sU s).2 (n:=n) (a:=a) (d:=d) (ts:=ts) (cs:=cs) (ps:=ps) hlt ht hcs hps;cases hR:aB.KO (pk s) (aB.iT (pk s) n) a d ts cs ps with
   |error Ep=>
    obtain⟨E,p⟩:=Ep;rw[hR]at HP;exact Aa w B BT BC BP s a d ts cs ps hs ha hd ht hcs hps (aj e) E p HP h
   |ok q=>
    obtain⟨a1,aF,cs1,ps1,q0,q1,q2⟩:=q;rw[hR]at HP hok;obtain⟨p1,p2,p3,p4,p5,p6,p7,p8,p9,p10⟩:=hok;exact CU w B BT BC BP s a d ts cs ps hs ha hd ht hcs hps (aj e) a1 aF cs1 ps1 q0 q1 q2 (by omega) ⟨p9,p10⟩ (by simp at p7;omega) (by simp at p8;omega) HP h
  ·rename_i e40;split
   ·rename_i e8;have hlt:a<s.size:=bK (by omega);unfold aB.SI;rcases e8 with e|e
    ·rw[e];cases hR:aB.arg1 (pk s) (aB.dX (pk s) (n+1)) (a+1) d ts with
     |error Ep=>
      obtain⟨E,p⟩:=Ep;exact zf w B BT BC BP s a d ts cs ps (n+1) hs ha hd ht hcs hps (by omega) (aj e) E p (aj hR) h
     |ok q=>
      obtain⟨a1,aF,m⟩:=q;exact Ae w B BT BC BP s a d ts cs ps (n+1) hs ha hd ht hcs hps (by omega) (aj e) a1 aF m _ (aj rfl) (aj hR) h
    ·rw[e];cases hR:aB.arg1 (pk s) (aB.dX (pk s) (n+1)) (a+1) d ts with
     |error Ep=>
      obtain⟨E,p⟩:=Ep;exact y9 w B BT BC BP s a d ts cs ps (n+1) hs ha hd ht hcs hps (by omega) (aj e) E p (aj hR) h
     |ok q=>
      obtain⟨a1,aF,m⟩:=q;exact Ad w B BT BC BP s a d ts cs ps (n+1) hs ha hd ht hcs hps (by omega) (aj e) a1 aF m _ (aj rfl) (aj hR) h
   ·rename_i e8;have hc':((pk s a==33)=false/\(pk s a==40)=false)/\(pk s a==80)=false/\(pk s a==81)=false:=(by simp;omega);obtain⟨⟨b1,b2⟩,b3,b4⟩:=hc';have HP:Hid (∀w,CI w B BT BC BP s a d ts cs ps->Calls prog 66 #[.pointer (some ⟨B,0,none⟩)] w (lT w B BT BC BP s d (aB.BL (pk s) (n+1) a d ts cs ps))):=λw h=>C9 w B BT BC BP s a d ts cs ps (n+1) hs ha hd ht (by omega) h;have hok:=aB.Jo (sU s).1 (n:=n+1) (a:=a) (d:=d) (ts:=ts) (cs:=cs) (ps:=ps) ha ht;cases hR:aB.BL (pk s) (n+1) a d ts cs ps with
    |error Ep=>
     obtain⟨E,p⟩:=Ep;rw[hR]at HP;exact Ac w B BT BC BP s a d ts cs ps hs ha hd ht hcs hps _ (aj rfl) b1 b2 b3 b4 E p HP h
    |ok q=>
     obtain⟨a1,aF,cs1,ps1,q0,q1,q2⟩:=q;rw[hR]at HP hok;obtain⟨p1,p2,p3,p4,p5,p6,p7,p8,p9,p10⟩:=hok;exact CV w B BT BC BP s a d ts cs ps hs ha hd ht hcs hps _ (aj rfl) b1 b2 b3 b4 a1 aF cs1 ps1 q0 q1 q2 (by omega) ⟨p9,p10⟩ (by simp at p7;omega) (by simp at p8;omega) HP h
theorem jE(hs:s.size<=100):∀n,qC B BT BC BP s n
 |0=>λw a d ts cs ps ha hd ht hcs hps hn h=>absurd hn (by omega)
 |n+1=>CS B BT BC BP s n hs (jE hs n)
end
def start(w:World)(s:ByteArray):World:=
 ((((w.alloc (.cells #[.slice none 0 0,.slice none 0 0,.slice none 0 0] 54)).alloc (.map #[] 0)).alloc (.map #[] 0)).alloc (.map #[] 0)).alloc (.cells #[.string s,.int .i64 0,.int .i64 0,.int .i64 0,.map (some (w.heap.size+1)),.map (some (w.heap.size+1+1)),.map (some (w.heap.size+1+1+1))] 82)
theorem nH(w:World)(s:ByteArray):(start w s).heap.size=w.heap.size+5:=by simp[start]
theorem iq(w:World)(s:ByteArray)(i:Nat):(start w s).cell? ⟨w.heap.size+1+1+1+1,i,none⟩=#[Value.string s,.int .i64 0,.int .i64 0,.int .i64 0,.map (some (w.heap.size+1)),.map (some (w.heap.size+1+1)),.map (some (w.heap.size+1+1+1))][i]?:=
 World.cell?_alloc_at _ _ _ _ (by simp)
theorem nI(w:World)(s:ByteArray)(i:Nat):(start w s).frozen? ⟨w.heap.size+1+1+1+1,i,none⟩=false:=
 World.frozen?_alloc_at _ _ _ _ (by simp)
theorem sK(w:World)(s:ByteArray):CI (start w s) (w.heap.size+1+1+1+1) (w.heap.size+1) (w.heap.size+1+1) (w.heap.size+1+1+1) s 0 0 [] [] [] where
 c0:=iq w s 0
 c1:=iq w s 1
 c2:=iq w s 2
 c3:=iq w s 3
 c4:=iq w s 4
 c5:=iq w s 5
 c6:=iq w s 6
 f1:=nI w s 1
 f2:=nI w s 2
 f3:=nI w s 3
 mt:=by
  have h:=jm (w.alloc (.cells #[.slice none 0 0,.slice none 0 0,.slice none 0 0] 54)) 87 aS;have e:(w.alloc (.cells #[.slice none 0 0,.slice none 0 0,.slice none 0 0] 54)).heap.size=w.heap.size+1:=by simp
  rw[e]at h;exact h.kept (by unfold start;rw[ad4 _ _ _ (by simp),ad4 _ _ _ (by simp),ad4 _ _ _ (by simp)])
 mc:=by
  have h:=jm ((w.alloc (.cells #[.slice none 0 0,.slice none 0 0,.slice none 0 0] 54)).alloc (.map #[] 0)) 90 jg;have e:((w.alloc (.cells #[.slice none 0 0,.slice none 0 0,.slice none 0 0] 54)).alloc (.map #[] 0)).heap.size=w.heap.size+1+1:=by simp
  rw[e]at h;exact h.kept (by unfold start;rw[ad4 _ _ _ (by simp),ad4 _ _ _ (by simp)])
 mp:=by
  have h:=jm (((w.alloc (.cells #[.slice none 0 0,.slice none 0 0,.slice none 0 0] 54)).alloc (.map #[] 0)).alloc (.map #[] 0)) 93 aS;have e:(((w.alloc (.cells #[.slice none 0 0,.slice none 0 0,.slice none 0 0] 54)).alloc (.map #[] 0)).alloc (.map #[] 0)).heap.size=w.heap.size+1+1+1:=by simp
  rw[e]at h;exact h.kept (by unfold start;rw[ad4 _ _ _ (by simp)])
 nT:=by omega
 nC:=by omega
 nn:=by omega
 nP:=by omega
 OV:=by omega
 OW:=by omega
theorem D5(w:World)(s:ByteArray):Below w.heap.size w (start w s):=
 (((((af5 _ _).alloc (ac2 _) _).alloc (by simp) _).alloc (by simp;omega) _).alloc (by simp;omega) _).alloc (by simp;omega) _
theorem Ku(w:World)(s:ByteArray)(i:Nat):(start w s).cell? ⟨w.heap.size,i,none⟩=#[Value.slice none 0 0,.slice none 0 0,.slice none 0 0][i]?:=by
 unfold start;rw[World.cell?_alloc_past _ _ _ (by simp;omega),World.cell?_alloc_past _ _ _ (by simp;omega),World.cell?_alloc_past _ _ _ (by simp;omega),World.cell?_alloc_past _ _ _ (by simp)];exact World.cell?_alloc_at _ _ _ _ rfl
theorem Gg(w:World)(s:ByteArray)(i:Nat):(start w s).frozen? ⟨w.heap.size,i,none⟩=false:=by
 unfold start;rw[World.frozen?_alloc_past _ _ _ (by simp;omega),World.frozen?_alloc_past _ _ _ (by simp;omega),World.frozen?_alloc_past _ _ _ (by simp;omega),World.frozen?_alloc_past _ _ _ (by simp)];exact World.frozen?_alloc_at _ _ _ _ rfl
abbrev KpS(w:World)(a b:World):Prop:=Kp (w.heap.size+1+1+1+1) (w.heap.size+1) (w.heap.size+1+1) (w.heap.size+1+1+1) a b
theorem fB{w w1:World}{s:ByteArray}(k:KpS w (start w s) w1)(i:Nat):w1.cell? ⟨w.heap.size,i,none⟩=#[Value.slice none 0 0,.slice none 0 0,.slice none 0 0][i]?:=by
 rw[k.cell (by rw[nH];omega) (by omega) (by omega) (by omega) (by omega)];exact Ku w s i
theorem dK{w w1:World}{s:ByteArray}(k:KpS w (start w s) w1)(i:Nat):w1.frozen? ⟨w.heap.size,i,none⟩=false:=by
 rw[k.frozen (by rw[nH];omega) (by omega) (by omega) (by omega) (by omega)];exact Gg w s i
theorem mF{w w1:World}{s:ByteArray}(k:KpS w (start w s) w1):Below w.heap.size w w1:=
 (D5 w s).trans (k.below (by rw[nH];omega) (by omega) (by omega) (by omega) (by omega))
structure FR(w:World)(base GT GC GP:Nat)(ts:List Key)(cs:List (Int×Nat))(ps:List Key):Prop where
 t:w.ownsRow base 87 3 (.slice (some ⟨GT,0,none⟩) ts.length ts.length) ts.length (ts.flatMap je)
 c:w.ownsRow base 90 2 (.slice (some ⟨GC,0,none⟩) cs.length cs.length) cs.length (cs.flatMap lX)
 p:w.ownsRow base 93 3 (.slice (some ⟨GP,0,none⟩) ps.length ps.length) ps.length (ps.flatMap je)
def fv(GT GC GP nt nc np:Nat):Value:=.agg #[.slice (some ⟨GT,0,none⟩) nt nt,.slice (some ⟨GC,0,none⟩) nc nc,.slice (some ⟨GP,0,none⟩) np np]
section
variable (w:World) (s:ByteArray)
theorem KN(hs:100<s.size)(hm:s.size<=maxLen) :
  Calls prog 30 #[.string s] w λe w'=>e=.returned (.tuple #[.agg #[.slice none 0 0,.slice none 0 0,.slice none 0 0],.int .i64 1,.int .i64 0])/\Below w.heap.size w w':=by
 unfold maxLen at hm
 go_enter func30,ntmps30
 go_wp2_with fail
 exact af2 (v:=.tuple #[.agg #[.slice none 0 0,.slice none 0 0,.slice none 0 0],.int .i64 1,.int .i64 0]) (by simp[results,results30,go_sem]) rfl ⟨rfl,(af5 _ _).alloc (ac2 _) _⟩
theorem Oq(hs:s.size<=100)(E:Int)(p:Nat)(HR:Hid (aB.iT (pk s) (s.size+1) 0 0 [] [] []=.error (E,p))) :
  Calls prog 30 #[.string s] w λe w'=>e=.returned (.tuple #[.agg #[.slice none 0 0,.slice none 0 0,.slice none 0 0],.int .i64 E,.int .i64 p])/\Below w.heap.size w w':=by
 have hmm:=@ar7 prog;have hb:decide ((100:Int)<(s.size:Int))=false:=by simp;omega
 go_enter func30,ntmps30
 go_wp2_with fail
 refine(jE _ _ _ _ s hs (s.size+1) (start w s) 0 0 [] [] [] (by omega) (by omega) (by simp) (by simp) (by simp) (by omega) (sK w s)).mono ?_;rw[ah HR];rintro e w1 ⟨k1,⟨z,rfl⟩,h1⟩;have r0:=fB k1 0;have r1:=fB k1 1;have r2:=fB k1 2;have q0:=dK k1 0;have q1:=dK k1 1;have q2:=dK k1 2;simp at r0 r1 r2;have c1:=h1.c1;have c3:=h1.c3
 go_wp2_with fail
 go_region
 all_goals
  go_wp2_with fail
  refine af2 (v:=.tuple #[.agg #[.slice none 0 0,.slice none 0 0,.slice none 0 0],.int .i64 E,.int .i64 p]) (by simp[results,results30,go_sem,r0,r1,r2]) rfl ⟨rfl,?_⟩;exact((((mF k1).setCell (ac2 _) _).setCell (ac2 _) _).setCell (ac2 _) _).drew
theorem Om(hs:s.size<=100)(a1:Nat)(ts:List Key)(cs:List (Int×Nat))(ps:List Key)(m:Nat)(HR:Hid (aB.iT (pk s) (s.size+1) 0 0 [] [] []=.ok (a1,ts,cs,ps,m)))(hlt:a1<s.size) :
  Calls prog 30 #[.string s] w λe w'=>e=.returned (.tuple #[.agg #[.slice none 0 0,.slice none 0 0,.slice none 0 0],.int .i64 2,.int .i64 a1])/\Below w.heap.size w w':=by
 have hmm:=@ar7 prog;have hb:decide ((100:Int)<(s.size:Int))=false:=by simp;omega
 go_enter func30,ntmps30
 go_wp2_with fail
 refine(jE _ _ _ _ s hs (s.size+1) (start w s) 0 0 [] [] [] (by omega) (by omega) (by simp) (by simp) (by simp) (by omega) (sK w s)).mono ?_;rw[ah HR];rintro e w1 ⟨k1,rfl,h1⟩
 go_wp2_with fail
 refine(WO w1 _ _ _ _ s a1 0 ts cs ps hlt h1).mono ?_;rintro e w2 ⟨rfl,h2,k2⟩;have k3:=k1.trans k2;have r0:=fB k3 0;have r1:=fB k3 1;have r2:=fB k3 2;have q0:=dK k3 0;have q1:=dK k3 1;have q2:=dK k3 2;simp at r0 r1 r2;have c1:=h2.c1;have c3:=h2.c3
 go_wp2_with fail
 go_region
 all_goals
  go_wp2_with fail
  refine af2 (v:=.tuple #[.agg #[.slice none 0 0,.slice none 0 0,.slice none 0 0],.int .i64 2,.int .i64 a1]) (by simp[results,results30,go_sem,r0,r1,r2]) rfl ⟨rfl,?_⟩;exact((((mF k3).setCell (ac2 _) _).setCell (ac2 _) _).setCell (ac2 _) _).drew
theorem KL(hs:s.size<=100)(a1:Nat)(ts:List Key)(cs:List (Int×Nat))(ps:List Key)(m:Nat)(HR:Hid (aB.iT (pk s) (s.size+1) 0 0 [] [] []=.ok (a1,ts,cs,ps,m)))(heq:a1=s.size)(Yk:7<ts.length\/4<cs.length) :
  Calls prog 30 #[.string s] w λe w'=>e=.returned (.tuple #[.agg #[.slice none 0 0,.slice none 0 0,.slice none 0 0],.int .i64 4,.int .i64 0])/\Below w.heap.size w w':=by
 have hmm:=@ar7 prog;have hb:decide ((100:Int)<(s.size:Int))=false:=by simp;omega
 go_enter func30,ntmps30
 go_wp2_with fail
 refine(jE _ _ _ _ s hs (s.size+1) (start w s) 0 0 [] [] [] (by omega) (by omega) (by simp) (by simp) (by simp) (by omega) (sK w s)).mono ?_;rw[ah HR];rintro e w1 ⟨k1,rfl,h1⟩
 go_wp2_with fail
 refine(JO w1 _ _ _ _ s a1 0 ts cs ps heq h1).mono ?_;rintro e w2 ⟨rfl,h2,k2⟩;have k3:=k1.trans k2;have r0:=fB k3 0;have r1:=fB k3 1;have r2:=fB k3 2;have q0:=dK k3 0;have q1:=dK k3 1;have q2:=dK k3 2;simp at r0 r1 r2;have c4:=h2.c4;have c5:=h2.c5;obtain⟨D,hown,hsz,hall,_⟩:=h2.mt;obtain⟨D2,hown2,hsz2,Qa,_⟩:=h2.mc;have oK:=aj hsz;have Xg:=aj hsz2;clear hall Qa hsz hsz2;by_cases h7:7<ts.length
 ·have hb7:decide ((7:Int)<(Maps.size D:Int))=true:=by rw[ah oK];simp;omega
  have hl2:=λty=>hown2.len underlying78 ty
  go_wp2_with (at_len;refine wpList_len_own _ rfl (.tmp 33) 76 rfl 87 3 underlying76 _ _ ts.length D rfl hown ?_)
  refine af2 (v:=.tuple #[.agg #[.slice none 0 0,.slice none 0 0,.slice none 0 0],.int .i64 4,.int .i64 0]) (by simp[results,results30,go_sem,r0,r1,r2]) rfl ⟨rfl,?_⟩;exact(((mF k3).setCell (ac2 _) _).setCell (ac2 _) _).setCell (ac2 _) _
 ·have hb7:decide ((7:Int)<(Maps.size D:Int))=false:=by rw[ah oK];simp;omega
  have hb4:decide ((4:Int)<(Maps.size D2:Int))=true:=by rw[ah Xg];simp;omega
  have hl2:=λty=>hown2.len underlying78 ty
  go_wp2_with (at_len;refine wpList_len_own _ rfl (.tmp 33) 76 rfl 87 3 underlying76 _ _ ts.length D rfl hown ?_)
  refine af2 (v:=.tuple #[.agg #[.slice none 0 0,.slice none 0 0,.slice none 0 0],.int .i64 4,.int .i64 0]) (by simp[results,results30,go_sem,r0,r1,r2]) rfl ⟨rfl,?_⟩;exact(((mF k3).setCell (ac2 _) _).setCell (ac2 _) _).setCell (ac2 _) _
end
end Go.Proofs.YthcppbmkacbbiaaGreat
