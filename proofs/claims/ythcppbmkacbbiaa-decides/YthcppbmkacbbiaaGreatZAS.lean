import Derived.Test.YthcppbmkacbbiaaGreatZAE
import Derived.Test.YthcppbmkacbbiaaGreatZAO
import Derived.Test.YthcppbmkacbbiaaGreatZAP
import Derived.Test.YthcppbmkacbbiaaGreatZAQ
import Derived.Test.YthcppbmkacbbiaaGreatZAR
set_option linter.unusedSimpArgs false
set_option linter.unusedVariables false
set_option maxHeartbeats 1000000
set_option maxRecDepth 100000
namespace Go.Proofs.YthcppbmkacbbiaaGreat
open Go.Proofs.Tryz
section
open Go.RowKit Go.Maps Go.WideMaps
open au (Key put RT Ce RF RP RQ)
section
variable (w:World) (B BT BC BP:Nat) (s:ByteArray) (a d:Nat) (ts:List Key) (cs:List (Int×Nat)) (ps:List Key) (n:Nat)
theorem CP(hs:s.size<=100)(ha:a<=s.size)(hd:d<=8)(ht:ts.length<=a)(hcs:cs.length<=a)(hps:ps.length<=a)(c:Int)(HC:Hid (pk s a=c))(b1:(c==33)=false)(b2:(c==40)=false)(b3:(c==80)=false)(b4:(c==81)=false)(E:Int)(p:Nat)(HP:Hid (∀w,CI w B BT BC BP s a d ts cs ps->Calls prog 66 #[.pointer (some ⟨B,0,none⟩)] w (mP w B BT BC BP s d (.error (E,p)))))(h:CI w B BT BC BP s a d ts cs ps) :
  Calls prog 42 #[.pointer (some ⟨B,0,none⟩)] w (PostF w B BT BC BP s d (.error (E,p))):=by
 go_enter func42,ntmps42
 go_wp2_with fail
 refine(bJ w B BT BC BP s a d ts cs ps hs ha h).mono ?_;rw[ah HC];rintro e w1 ⟨rfl,h1,k1⟩;have hI0:=h1.alloc (.cells #[.int .u8 c,.int .i64 0,.int .i64 0] 93);have hX0:=PX.new h1 c 0 0;have hk0:=k1.trans (Kp.alloc B BT BC BP _ (.cells #[.int .u8 c,.int .i64 0,.int .i64 0] 93))
 go_wp2_with fail
 refine((ah HP) _ hI0).mono ?_;rintro e w2 ⟨k2,⟨x,y,z,rfl⟩,h2⟩;have hX:=hX0.kp k2;have x0:=hX.p0;have x1:=hX.p1;have x2:=hX.p2;have y0:=hX.f0;have y1:=hX.f1;have y2:=hX.f2
 go_wp2_with fail
 go_ret2
 refine⟨?_,⟨_,rfl⟩,?_⟩
 ·repeat refine Kp.gI k1.size ?_ _ _
  exact hk0.trans k2
 ·repeat refine Bad.bU ?_ hX.nB _ _
  exact h2
theorem EM(hs:s.size<=100)(ha:a<=s.size)(hd:d<=8)(ht:ts.length<=a)(hcs:cs.length<=a)(hps:ps.length<=a)(c:Int)(HC:Hid (pk s a=c))(b1:(c==33)=false)(b2:(c==40)=false)(b3:(c==80)=false)(b4:(c==81)=false)(a1:Nat)(aK:List Key)(cs1:List (Int×Nat))(ps1:List Key)(q0:Int)(q1 q2:Nat)(hl:ps1.length<=1000)(hq0:0<=q0/\q0<=255)(hq1:q1<=1000)(hq2:q2<=1000)(HP:Hid (∀w,CI w B BT BC BP s a d ts cs ps->Calls prog 66 #[.pointer (some ⟨B,0,none⟩)] w (mP w B BT BC BP s d (.ok (a1,aK,cs1,ps1,(q0,q1,q2))))))(h:CI w B BT BC BP s a d ts cs ps) :
  Calls prog 42 #[.pointer (some ⟨B,0,none⟩)] w (PostF w B BT BC BP s d (.ok (a1,aK,cs1,put ps1 (q0,q1,q2),ps1.idxOf ((q0,q1,q2):Key)))):=by
 go_enter func42,ntmps42
 go_wp2_with fail
 refine(bJ w B BT BC BP s a d ts cs ps hs ha h).mono ?_;rw[ah HC];rintro e w1 ⟨rfl,h1,k1⟩;have hI0:=h1.alloc (.cells #[.int .u8 c,.int .i64 0,.int .i64 0] 93);have hX0:=PX.new h1 c 0 0;have hk0:=k1.trans (Kp.alloc B BT BC BP _ (.cells #[.int .u8 c,.int .i64 0,.int .i64 0] 93))
 go_wp2_with fail
 refine((ah HP) _ hI0).mono ?_;rintro e w2 ⟨k2,rfl,h2⟩;have hX:=hX0.kp k2;have x0:=hX.p0;have x1:=hX.p1;have x2:=hX.p2;have y0:=hX.f0;have y1:=hX.f1;have y2:=hX.f2;have c6:=h2.c6;have HI:=aj (((h2.px hX 0 (.int .u8 q0)).bU hX.nB hX.nT hX.nC hX.nP 1 (.int .i64 (q1:Nat))).bU hX.nB hX.nT hX.nC hX.nP 2 (.int .i64 (q2:Nat)));have HK2:=aj (Kp.gI k1.size (Kp.gI k1.size (Kp.gI k1.size (hk0.trans k2) 0 (.int .u8 q0)) 1 (.int .i64 (q1:Nat))) 2 (.int .i64 (q2:Nat)))
 go_wp2_with fail
 go_region_with (go_at_call 67;refine(qB BP ps1 q0 q1 q2 q1 q2 _ rfl rfl hq0 hq1 hq2 hl (by exact(ah HI).mp.kept rfl)).mono ?_;rintro e w3 ⟨rfl,hm,hg⟩)
 all_goals
  go_wp2_with fail
  go_ret2
  exact⟨(ah HK2).trans ((Kp.drewN _ _ _ _ _ 1).trans (Kp.AP hg)),rfl,((ah HI).drewN 1).SH hm hg⟩
theorem EK(hs:s.size<=100)(hF:qU B BT BC BP s n):qU B BT BC BP s (n+1):=by
 intro w a d ts cs ps ha hd ht hcs hps hn h;unfold au.jq;split
 ·rename_i e;have hlt:a<s.size:=dD (by omega);have hok:=au.rC (uN s).1 (uN s).2 n (a+1) d ts cs ps (by omega) (by omega) (by omega) (by omega);cases hR:au.jq (pk s) n (a+1) d ts cs ps with
  |error Ep=>
   obtain⟨E,p⟩:=Ep;exact yB w B BT BC BP s a d ts cs ps n hs ha hd ht hcs hps (by omega) (aj e) hF E p (aj hR) h
  |ok q=>
   obtain⟨a1,aK,cs1,ps1,m⟩:=q;rw[hR]at hok;obtain⟨p1,p2,p3,p4,p5,p6,p7⟩:=hok;exact AU w B BT BC BP s a d ts cs ps n hs ha hd ht hcs hps (by omega) (aj e) hF a1 aK cs1 ps1 m (by omega) (by omega) (aj hR) h
 ·rename_i e33;split
  ·rename_i e;have hlt:a<s.size:=dD (by omega);have HP:Hid (∀w,CI w B BT BC BP s a d ts cs ps->Calls prog 64 #[.pointer (some ⟨B,0,none⟩)] w (mP w B BT BC BP s d (au.Oy (pk s) (au.jq (pk s) n) a d ts cs ps))):=λw h=>JK w B BT BC BP s a d ts cs ps n hs ha hd ht hcs hps (by omega) e hF h;have hok:=au.WU (uN s).1 (uN s).2 (n:=n) (a:=a) (d:=d) (ts:=ts) (cs:=cs) (ps:=ps) hlt ht hcs hps;cases hR:au.Oy (pk s) (au.jq (pk s) n) a d ts cs ps with
   |error Ep=>
    obtain⟨E,p⟩:=Ep;rw[hR]at HP;exact CO w B BT BC BP s a d ts cs ps hs ha hd ht hcs hps (aj e) E p HP h
   |ok q=>
    obtain⟨a1,aK,cs1,ps1,q0,q1,q2⟩:=q;rw[hR]at HP hok;obtain⟨p1,p2,p3,p4,p5,p6,p7,p8,p9,p10⟩:=hok;exact EL w B BT BC BP s a d ts cs ps hs ha hd ht hcs hps (aj e) a1 aK cs1 ps1 q0 q1 q2 (by omega) ⟨p9,p10⟩ (by simp at p7;omega) (by simp at p8;omega) HP h
  ·rename_i e40;split
   ·rename_i e8;have hlt:a<s.size:=dD (by omega);unfold au.Wv;rcases e8 with e|e
    ·rw[e];cases hR:au.arg1 (pk s) (au.fF (pk s) (n+1)) (a+1) d ts with
     |error Ep=>
      obtain⟨E,p⟩:=Ep;exact AX w B BT BC BP s a d ts cs ps (n+1) hs ha hd ht hcs hps (by omega) (aj e) E p (aj hR) h
     |ok q=>
      obtain⟨a1,aK,m⟩:=q;exact CU w B BT BC BP s a d ts cs ps (n+1) hs ha hd ht hcs hps (by omega) (aj e) a1 aK m _ (aj rfl) (aj hR) h
    ·rw[e];cases hR:au.arg1 (pk s) (au.fF (pk s) (n+1)) (a+1) d ts with
     |error Ep=>
      obtain⟨E,p⟩:=Ep;exact AV w B BT BC BP s a d ts cs ps (n+1) hs ha hd ht hcs hps (by omega) (aj e) E p (aj hR) h
     |ok q=>
      obtain⟨a1,aK,m⟩:=q;exact CQ w B BT BC BP s a d ts cs ps (n+1) hs ha hd ht hcs hps (by omega) (aj e) a1 aK m _ (aj rfl) (aj hR) h
   ·rename_i e8;have hc':((pk s a==33)=false/\(pk s a==40)=false)/\(pk s a==80)=false/\(pk s a==81)=false:=(by simp;omega);obtain⟨⟨b1,b2⟩,b3,b4⟩:=hc';have HP:Hid (∀w,CI w B BT BC BP s a d ts cs ps->Calls prog 66 #[.pointer (some ⟨B,0,none⟩)] w (mP w B BT BC BP s d (au.Eh (pk s) (n+1) a d ts cs ps))):=λw h=>EP w B BT BC BP s a d ts cs ps (n+1) hs ha hd ht (by omega) h;have hok:=au.MP (uN s).1 (n:=n+1) (a:=a) (d:=d) (ts:=ts) (cs:=cs) (ps:=ps) ha ht;cases hR:au.Eh (pk s) (n+1) a d ts cs ps with
    |error Ep=>
     obtain⟨E,p⟩:=Ep;rw[hR]at HP;exact CP w B BT BC BP s a d ts cs ps hs ha hd ht hcs hps _ (aj rfl) b1 b2 b3 b4 E p HP h
    |ok q=>
     obtain⟨a1,aK,cs1,ps1,q0,q1,q2⟩:=q;rw[hR]at HP hok;obtain⟨p1,p2,p3,p4,p5,p6,p7,p8,p9,p10⟩:=hok;exact EM w B BT BC BP s a d ts cs ps hs ha hd ht hcs hps _ (aj rfl) b1 b2 b3 b4 a1 aK cs1 ps1 q0 q1 q2 (by omega) ⟨p9,p10⟩ (by simp at p7;omega) (by simp at p8;omega) HP h
theorem kE(hs:s.size<=100):∀n,qU B BT BC BP s n
 |0=>λw a d ts cs ps ha hd ht hcs hps hn h=>absurd hn (by omega)
 |n+1=>EK B BT BC BP s n hs (kE hs n)
end
def start(w:World)(s:ByteArray):World:=
 ((((w.alloc (.cells #[.slice none 0 0,.slice none 0 0,.slice none 0 0] 54)).alloc (.map #[] 0)).alloc (.map #[] 0)).alloc (.map #[] 0)).alloc (.cells #[.string s,.int .i64 0,.int .i64 0,.int .i64 0,.map (some (w.heap.size+1)),.map (some (w.heap.size+1+1)),.map (some (w.heap.size+1+1+1))] 82)
theorem nV(w:World)(s:ByteArray):(start w s).heap.size=w.heap.size+5:=by simp[start]
theorem iP(w:World)(s:ByteArray)(i:Nat):(start w s).cell? ⟨w.heap.size+1+1+1+1,i,none⟩=#[Value.string s,.int .i64 0,.int .i64 0,.int .i64 0,.map (some (w.heap.size+1)),.map (some (w.heap.size+1+1)),.map (some (w.heap.size+1+1+1))][i]?:=
 World.cell?_alloc_at _ _ _ _ (by simp)
theorem nX(w:World)(s:ByteArray)(i:Nat):(start w s).frozen? ⟨w.heap.size+1+1+1+1,i,none⟩=false:=
 World.frozen?_alloc_at _ _ _ _ (by simp)
theorem uo(w:World)(s:ByteArray):CI (start w s) (w.heap.size+1+1+1+1) (w.heap.size+1) (w.heap.size+1+1) (w.heap.size+1+1+1) s 0 0 [] [] [] where
 c0:=iP w s 0
 c1:=iP w s 1
 c2:=iP w s 2
 c3:=iP w s 3
 c4:=iP w s 4
 c5:=iP w s 5
 c6:=iP w s 6
 f1:=nX w s 1
 f2:=nX w s 2
 f3:=nX w s 3
 mt:=by
  have h:=jO (w.alloc (.cells #[.slice none 0 0,.slice none 0 0,.slice none 0 0] 54)) 87 bD;have e:(w.alloc (.cells #[.slice none 0 0,.slice none 0 0,.slice none 0 0] 54)).heap.size=w.heap.size+1:=by simp
  rw[e]at h;exact h.kept (by unfold start;rw[ag1 _ _ _ (by simp),ag1 _ _ _ (by simp),ag1 _ _ _ (by simp)])
 mc:=by
  have h:=jO ((w.alloc (.cells #[.slice none 0 0,.slice none 0 0,.slice none 0 0] 54)).alloc (.map #[] 0)) 90 jG;have e:((w.alloc (.cells #[.slice none 0 0,.slice none 0 0,.slice none 0 0] 54)).alloc (.map #[] 0)).heap.size=w.heap.size+1+1:=by simp
  rw[e]at h;exact h.kept (by unfold start;rw[ag1 _ _ _ (by simp),ag1 _ _ _ (by simp)])
 mp:=by
  have h:=jO (((w.alloc (.cells #[.slice none 0 0,.slice none 0 0,.slice none 0 0] 54)).alloc (.map #[] 0)).alloc (.map #[] 0)) 93 bD;have e:(((w.alloc (.cells #[.slice none 0 0,.slice none 0 0,.slice none 0 0] 54)).alloc (.map #[] 0)).alloc (.map #[] 0)).heap.size=w.heap.size+1+1+1:=by simp
  rw[e]at h;exact h.kept (by unfold start;rw[ag1 _ _ _ (by simp)])
 nT:=by omega
 nC:=by omega
 nn:=by omega
 nP:=by omega
 SV:=by omega
 SX:=by omega
theorem F8(w:World)(s:ByteArray):Below w.heap.size w (start w s):=
 (((((ai7 _ _).alloc (af0 _) _).alloc (by simp) _).alloc (by simp;omega) _).alloc (by simp;omega) _).alloc (by simp;omega) _
theorem Og(w:World)(s:ByteArray)(i:Nat):(start w s).cell? ⟨w.heap.size,i,none⟩=#[Value.slice none 0 0,.slice none 0 0,.slice none 0 0][i]?:=by
 unfold start;rw[World.cell?_alloc_past _ _ _ (by simp;omega),World.cell?_alloc_past _ _ _ (by simp;omega),World.cell?_alloc_past _ _ _ (by simp;omega),World.cell?_alloc_past _ _ _ (by simp)];exact World.cell?_alloc_at _ _ _ _ rfl
theorem Jg(w:World)(s:ByteArray)(i:Nat):(start w s).frozen? ⟨w.heap.size,i,none⟩=false:=by
 unfold start;rw[World.frozen?_alloc_past _ _ _ (by simp;omega),World.frozen?_alloc_past _ _ _ (by simp;omega),World.frozen?_alloc_past _ _ _ (by simp;omega),World.frozen?_alloc_past _ _ _ (by simp)];exact World.frozen?_alloc_at _ _ _ _ rfl
abbrev KpS(w:World)(a b:World):Prop:=Kp (w.heap.size+1+1+1+1) (w.heap.size+1) (w.heap.size+1+1) (w.heap.size+1+1+1) a b
theorem fV{w w1:World}{s:ByteArray}(k:KpS w (start w s) w1)(i:Nat):w1.cell? ⟨w.heap.size,i,none⟩=#[Value.slice none 0 0,.slice none 0 0,.slice none 0 0][i]?:=by
 rw[k.cell (by rw[nV];omega) (by omega) (by omega) (by omega) (by omega)];exact Og w s i
theorem dV{w w1:World}{s:ByteArray}(k:KpS w (start w s) w1)(i:Nat):w1.frozen? ⟨w.heap.size,i,none⟩=false:=by
 rw[k.frozen (by rw[nV];omega) (by omega) (by omega) (by omega) (by omega)];exact Jg w s i
theorem ni{w w1:World}{s:ByteArray}(k:KpS w (start w s) w1):Below w.heap.size w w1:=
 (F8 w s).trans (k.below (by rw[nV];omega) (by omega) (by omega) (by omega) (by omega))
structure FR(w:World)(base GT GC GP:Nat)(ts:List Key)(cs:List (Int×Nat))(ps:List Key):Prop where
 t:w.ownsRow base 87 3 (.slice (some ⟨GT,0,none⟩) ts.length ts.length) ts.length (ts.flatMap jF)
 c:w.ownsRow base 90 2 (.slice (some ⟨GC,0,none⟩) cs.length cs.length) cs.length (cs.flatMap pK)
 p:w.ownsRow base 93 3 (.slice (some ⟨GP,0,none⟩) ps.length ps.length) ps.length (ps.flatMap jF)
def fv(GT GC GP nt nc np:Nat):Value:=.agg #[.slice (some ⟨GT,0,none⟩) nt nt,.slice (some ⟨GC,0,none⟩) nc nc,.slice (some ⟨GP,0,none⟩) np np]
section
variable (w:World) (s:ByteArray)
theorem Ox(hs:100<s.size)(hm:s.size<=maxLen) :
  Calls prog 30 #[.string s] w λe w'=>e=.returned (.tuple #[.agg #[.slice none 0 0,.slice none 0 0,.slice none 0 0],.int .i64 1,.int .i64 0])/\Below w.heap.size w w':=by
 unfold maxLen at hm
 go_enter func30,ntmps30
 go_wp2_with fail
 exact ah7 (v:=.tuple #[.agg #[.slice none 0 0,.slice none 0 0,.slice none 0 0],.int .i64 1,.int .i64 0]) (by simp[results,results30,go_sem]) rfl ⟨rfl,(ai7 _ _).alloc (af0 _) _⟩
theorem RH(hs:s.size<=100)(E:Int)(p:Nat)(HR:Hid (au.jq (pk s) (s.size+1) 0 0 [] [] []=.error (E,p))) :
  Calls prog 30 #[.string s] w λe w'=>e=.returned (.tuple #[.agg #[.slice none 0 0,.slice none 0 0,.slice none 0 0],.int .i64 E,.int .i64 p])/\Below w.heap.size w w':=by
 have hmm:=@av4 prog;have hb:decide ((100:Int)<(s.size:Int))=false:=by simp;omega
 go_enter func30,ntmps30
 go_wp2_with fail
 refine(kE _ _ _ _ s hs (s.size+1) (start w s) 0 0 [] [] [] (by omega) (by omega) (by simp) (by simp) (by simp) (by omega) (uo w s)).mono ?_;rw[ah HR];rintro e w1 ⟨k1,⟨z,rfl⟩,h1⟩;have r0:=fV k1 0;have r1:=fV k1 1;have r2:=fV k1 2;have q0:=dV k1 0;have q1:=dV k1 1;have q2:=dV k1 2;simp at r0 r1 r2;have c1:=h1.c1;have c3:=h1.c3
 go_wp2_with fail
 go_region
 all_goals
  go_wp2_with fail
  refine ah7 (v:=.tuple #[.agg #[.slice none 0 0,.slice none 0 0,.slice none 0 0],.int .i64 E,.int .i64 p]) (by simp[results,results30,go_sem,r0,r1,r2]) rfl ⟨rfl,?_⟩;exact((((ni k1).setCell (af0 _) _).setCell (af0 _) _).setCell (af0 _) _).drew
theorem Rz(hs:s.size<=100)(a1:Nat)(ts:List Key)(cs:List (Int×Nat))(ps:List Key)(m:Nat)(HR:Hid (au.jq (pk s) (s.size+1) 0 0 [] [] []=.ok (a1,ts,cs,ps,m)))(hlt:a1<s.size) :
  Calls prog 30 #[.string s] w λe w'=>e=.returned (.tuple #[.agg #[.slice none 0 0,.slice none 0 0,.slice none 0 0],.int .i64 2,.int .i64 a1])/\Below w.heap.size w w':=by
 have hmm:=@av4 prog;have hb:decide ((100:Int)<(s.size:Int))=false:=by simp;omega
 go_enter func30,ntmps30
 go_wp2_with fail
 refine(kE _ _ _ _ s hs (s.size+1) (start w s) 0 0 [] [] [] (by omega) (by omega) (by simp) (by simp) (by simp) (by omega) (uo w s)).mono ?_;rw[ah HR];rintro e w1 ⟨k1,rfl,h1⟩
 go_wp2_with fail
 refine(ZI w1 _ _ _ _ s a1 0 ts cs ps hlt h1).mono ?_;rintro e w2 ⟨rfl,h2,k2⟩;have k3:=k1.trans k2;have r0:=fV k3 0;have r1:=fV k3 1;have r2:=fV k3 2;have q0:=dV k3 0;have q1:=dV k3 1;have q2:=dV k3 2;simp at r0 r1 r2;have c1:=h2.c1;have c3:=h2.c3
 go_wp2_with fail
 go_region
 all_goals
  go_wp2_with fail
  refine ah7 (v:=.tuple #[.agg #[.slice none 0 0,.slice none 0 0,.slice none 0 0],.int .i64 2,.int .i64 a1]) (by simp[results,results30,go_sem,r0,r1,r2]) rfl ⟨rfl,?_⟩;exact((((ni k3).setCell (af0 _) _).setCell (af0 _) _).setCell (af0 _) _).drew
theorem Ov(hs:s.size<=100)(a1:Nat)(ts:List Key)(cs:List (Int×Nat))(ps:List Key)(m:Nat)(HR:Hid (au.jq (pk s) (s.size+1) 0 0 [] [] []=.ok (a1,ts,cs,ps,m)))(heq:a1=s.size)(Yf:7<ts.length\/4<cs.length) :
  Calls prog 30 #[.string s] w λe w'=>e=.returned (.tuple #[.agg #[.slice none 0 0,.slice none 0 0,.slice none 0 0],.int .i64 4,.int .i64 0])/\Below w.heap.size w w':=by
 have hmm:=@av4 prog;have hb:decide ((100:Int)<(s.size:Int))=false:=by simp;omega
 go_enter func30,ntmps30
 go_wp2_with fail
 refine(kE _ _ _ _ s hs (s.size+1) (start w s) 0 0 [] [] [] (by omega) (by omega) (by simp) (by simp) (by simp) (by omega) (uo w s)).mono ?_;rw[ah HR];rintro e w1 ⟨k1,rfl,h1⟩
 go_wp2_with fail
 refine(Nu w1 _ _ _ _ s a1 0 ts cs ps heq h1).mono ?_;rintro e w2 ⟨rfl,h2,k2⟩;have k3:=k1.trans k2;have r0:=fV k3 0;have r1:=fV k3 1;have r2:=fV k3 2;have q0:=dV k3 0;have q1:=dV k3 1;have q2:=dV k3 2;simp at r0 r1 r2;have c4:=h2.c4;have c5:=h2.c5;obtain⟨D,hown,hsz,hall,_⟩:=h2.mt;obtain⟨D2,hown2,hsz2,Uj,_⟩:=h2.mc;have qV:=aj hsz;have Z9:=aj hsz2;clear hall Uj hsz hsz2;by_cases h7:7<ts.length
 ·have hb7:decide ((7:Int)<(Maps.size D:Int))=true:=by rw[ah qV];simp;omega
  have hl2:=λty=>hown2.len underlying78 ty
  go_wp2_with (at_len;refine wpList_len_own _ rfl (.tmp 33) 76 rfl 87 3 underlying76 _ _ ts.length D rfl hown ?_)
  refine ah7 (v:=.tuple #[.agg #[.slice none 0 0,.slice none 0 0,.slice none 0 0],.int .i64 4,.int .i64 0]) (by simp[results,results30,go_sem,r0,r1,r2]) rfl ⟨rfl,?_⟩;exact(((ni k3).setCell (af0 _) _).setCell (af0 _) _).setCell (af0 _) _
 ·have hb7:decide ((7:Int)<(Maps.size D:Int))=false:=by rw[ah qV];simp;omega
  have hb4:decide ((4:Int)<(Maps.size D2:Int))=true:=by rw[ah Z9];simp;omega
  have hl2:=λty=>hown2.len underlying78 ty
  go_wp2_with (at_len;refine wpList_len_own _ rfl (.tmp 33) 76 rfl 87 3 underlying76 _ _ ts.length D rfl hown ?_)
  refine ah7 (v:=.tuple #[.agg #[.slice none 0 0,.slice none 0 0,.slice none 0 0],.int .i64 4,.int .i64 0]) (by simp[results,results30,go_sem,r0,r1,r2]) rfl ⟨rfl,?_⟩;exact(((ni k3).setCell (af0 _) _).setCell (af0 _) _).setCell (af0 _) _
end
end
section
open Go.RowKit
open au (St put cut)
namespace au
def fc:List UInt8->Int->Option Nat
 |[],_=>none
 |c::r,d=>if c=40 then(fc r (d+1)).map (·+1)else if c=41 then(fc r (d-1)).map (·+1)else if c=44/\d=0 then some 0 else(fc r d).map (·+1)
def inn(l:List UInt8):List UInt8×List UInt8:=
 match fc (cut l 2 (l.length-1)) 0 with
 |some p=>(cut l 2 (2+p),cut l (3+p) (l.length-1))
 |none=>(cut l 2 (l.length-1),[])
section
variable {m:List UInt8} {k:Nat} {d:Int} {x:Option Nat}
theorem Nr(hk:k<m.length):fc (m.drop k) d=if m[k]=40 then(fc (m.drop (k+1)) (d+1)).map (·+1)else if m[k]=41 then(fc (m.drop (k+1)) (d-1)).map (·+1)else if m[k]=44/\d=0 then some 0 else(fc (m.drop (k+1)) d).map (·+1):=by
 rw[an6 hk,fc]
theorem zY(y:Option Nat)(k:Nat):(y.map (·+1)).map (·+k)=y.map (·+(k+1)):=by
 cases y<;>simp;omega
theorem Xy(h:x=(fc (m.drop k) d).map (·+k))(hk:k<m.length)(hc:m[k]=40):x=(fc (m.drop (k+1)) (d+1)).map (·+(k+1)):=by
 rw[h,Nr hk,af9 hc,zY]
theorem Xx(h:x=(fc (m.drop k) d).map (·+k))(hk:k<m.length)(hc:m[k]=41):x=(fc (m.drop (k+1)) (d-1)).map (·+(k+1)):=by
 rw[h,Nr hk,af6 (by rw[hc];decide),af9 hc,zY]
theorem Nq(h:x=(fc (m.drop k) d).map (·+k))(hk:k<m.length)(h1:m[k]≠40)(h2:m[k]≠41)(h3:¬(m[k]=44/\d=0)):x=(fc (m.drop (k+1)) d).map (·+(k+1)):=by
 rw[h,Nr hk,af6 h1,af6 h2,af6 h3,zY]
theorem UL(h:x=(fc (m.drop k) d).map (·+k))(hk:k<m.length)(hc:m[k]=44)(hd:d=0):x=some k:=by
 rw[h,Nr hk,af6 (by rw[hc];decide),af6 (by rw[hc];decide),af9 ⟨hc,hd⟩];simp
end
end au
theorem rV{a c:UInt8}(h:a≠c):((a.toNat:Int)==(c.toNat:Int))=false:=by
 simp only[beq_eq_false_iff_ne,ne_eq];intro e;exact h (UInt8.toNat_inj.1 (by omega))
theorem TM{s:ByteArray}{m:List UInt8}{k:Nat}(hm:cut s.data.toList 2 (s.size-1)=m)(h:au.fc m 0=some k):au.inn s.data.toList=(cut s.data.toList 2 (k+2),cut s.data.toList (k+2+1) (s.size-1)):=by
 have hl:s.data.toList.length=s.size:=by simp
 unfold au.inn;rw[hl,hm,h];simp only[Nat.add_comm 2 k,show 3+k=k+2+1 by omega]
theorem TN{s:ByteArray}{m:List UInt8}(hm:cut s.data.toList 2 (s.size-1)=m)(h:au.fc m 0=none):au.inn s.data.toList=(cut s.data.toList 2 (s.size-1),[]):=by
 have hl:s.data.toList.length=s.size:=by simp
 unfold au.inn;rw[hl,hm,h]
theorem Px(w:World)(s:ByteArray)(h3:3<=s.size)(hs:s.size<=100) :
  Calls prog 102 #[.string s] w λe w'=>e=.returned (.tuple #[str (au.inn s.data.toList).1,str (au.inn s.data.toList).2])/\Below w.heap.size w w':=by
 obtain⟨m,hm⟩:∃m,cut s.data.toList 2 (s.size-1)=m:=⟨_,rfl⟩;have hml:m.length+3=s.size:=by rw[<-hm];unfold cut;simp;omega
 have hget:∀k (hk:k<m.length),m[k]=s[k+2]'(by omega):=by
  intro k hk;subst hm;simp[cut,aj1,Nat.add_comm]
 have HM:=aj hm;clear hm
 go_enter func102,ntmps102
 go_wp2_with fail
 go_loop [4,5] (λx i=>∃(k:Nat) (d:Int),k<=m.length/\-(k:Int)<=d/\d<=k/\x=.int .i64 d/\i=.int .i64 ((k:Int)+2)/\au.fc m 0=(au.fc (m.drop k) d).map (·+k)) (λ_ i=>m.length+2-(intOf i).toNat)
 case atStart=>exact⟨0,0,ah9 _,by omega,by omega,rfl,rfl,by simp⟩
 case round=>
  obtain⟨k,d,hk,hd1,hd2,rfl,rfl,hfc⟩:=hrel;have HFC:=aj hfc;clear hfc;by_cases hlt:k<m.length
  ·have hbd:decide ((k:Int)+2<(s.size:Int)-1)=true:=(by simp;omega);have hgk:=hget k hlt;have hix:k+2<s.size:=(by omega);have hn1:∀c:UInt8,m[k]=c->(((s[k+2]'hix).toNat:Int)==(c.toNat:Int))=true:=λc hc=>by rw[<-hgk,hc];simp
   have hn2:∀c:UInt8,m[k]≠c->(((s[k+2]'hix).toNat:Int)==(c.toNat:Int))=false:=λc hc=>by rw[<-hgk];exact rV hc
   clear hget hgk;by_cases h40:m[k]=40
   ·have b1:(((s[k+2]'hix).toNat:Int)==40)=true:=hn1 40 h40;have HK:=aj h40;clear h40 hn1 hn2
    go_wp2_with fail
    go_round
    case rel=>exact⟨k+1,d+1,by omega,by omega,by omega,rfl,by go_num,au.Xy (ah HFC) hlt (ah HK)⟩
    case measure=>simp[intOf];omega
   ·have b1:(((s[k+2]'hix).toNat:Int)==40)=false:=hn2 40 h40;by_cases h41:m[k]=41
    ·have b2:(((s[k+2]'hix).toNat:Int)==41)=true:=hn1 41 h41;have HK:=aj h41;clear h40 h41 hn1 hn2
     go_wp2_with fail
     go_round
     case rel=>exact⟨k+1,d-1,by omega,by omega,by omega,rfl,by go_num,au.Xx (ah HFC) hlt (ah HK)⟩
     case measure=>simp[intOf];omega
    ·have b2:(((s[k+2]'hix).toNat:Int)==41)=false:=hn2 41 h41;by_cases h44:m[k]=44
     ·have b3:(((s[k+2]'hix).toNat:Int)==44)=true:=hn1 44 h44;by_cases hd0:d=0
      ·have b4:(d==0)=true:=(by simpa using hd0);have HK:=aj h44;have HD:=aj hd0;clear h40 h41 h44 hn1 hn2 hd0
       go_wp2_with fail
       go_quiet (fail)
       go_wp2_with fail
       go_ret2
       refine⟨?_,below_drewN _ _ _⟩
       show Ending.returned (.tuple #[.string (s.extract 2 (k+2)),.string (s.extract (k+2+1) (s.size-1))])=_
       rw[TM (ah HM) (au.UL (ah HFC) hlt (ah HK) (ah HD)),eX,eX]
      ·have b4:(d==0)=false:=(by simpa using hd0);have HA:=aj h40;have HB:=aj h41;have HD:=aj hd0;clear h40 h41 h44 hn1 hn2 hd0
       go_wp2_with fail
       go_round
       case rel=>exact⟨k+1,d,by omega,by omega,by omega,rfl,by go_num,au.Nq (ah HFC) hlt (ah HA) (ah HB) (λe=>ah HD e.2)⟩
       case measure=>simp[intOf];omega
     ·have b3:(((s[k+2]'hix).toNat:Int)==44)=false:=hn2 44 h44;have HA:=aj h40;have HB:=aj h41;have HD:=aj h44;clear h40 h41 h44 hn1 hn2
      go_wp2_with fail
      go_round
      case rel=>exact⟨k+1,d,by omega,by omega,by omega,rfl,by go_num,au.Nq (ah HFC) hlt (ah HA) (ah HB) (λe=>ah HD e.1)⟩
      case measure=>simp[intOf];omega
  ·have hbd:decide ((k:Int)+2<(s.size:Int)-1)=false:=(by simp;omega);clear hget
   go_wp2_with fail
   go_ret2
   refine⟨?_,Below.refl _ _⟩
   show Ending.returned (.tuple #[.string (s.extract 2 (s.size-1)),.string ⟨#[]⟩])=_
   have hkm:k=m.length:=(by omega);have hfn:au.fc m 0=none:=by
    have h:=ah HFC;rw[hkm,List.drop_length]at h;exact h
   rw[TN (ah HM) hfn,eX];rfl
def FM(T:List (List UInt8))(cl:List Int)(x y:List UInt8):Bool:=if x=[]\/y=[]then decide (x=y)else decide (cl.getD (T.idxOf x) 0=cl.getD (T.idxOf y) 0)
theorem D6{T:List (List UInt8)}{t:List UInt8}(h:t∈T):atIdx T t=(T.idxOf t:Nat):=jh (by simpa using h)
theorem Ip(w:World)(r k1 k2:Value)(x y:List UInt8)(h:x=[]\/y=[]) :
  Calls prog 103 #[r,.agg #[k1,k2],str x,str y] w λe w'=>e=.returned (.bool (decide (x=y)))/\Below w.heap.size w w':=by
 unfold str;by_cases hx:x=[]
 ·subst hx
  go_enter func103,ntmps103
  go_wp2_with fail
  go_ret
  refine⟨kC ?_,(Below.refl _ w).alloc (af0 _) _⟩;cases y<;>rfl
 ·have hy:y=[]:=h.resolve_left hx;subst hy;have hq:(x==[])=false:=by simpa using hx
  go_enter func103,ntmps103
  go_wp2_with fail
  go_ret
  refine⟨kC ?_,(Below.refl _ w).alloc (af0 _) _⟩;cases x<;>rfl
theorem UM(w:World)(B:Nat)(k1 k2 v4:Value)(T:List (List UInt8))(base:Nat)(cl:List Int)(hl:List Bool)(x y:List UInt8)(hx0:x≠[])(hy0:y≠[])(hx:x∈T)(hy:y∈T)(hT:T.length<=7)(hTc:T.length<=cl.length)
 (c4:w.cell? ⟨B,4,none⟩=some v4)(ho:w.ownsRow base 9 1 v4 T.length (T.map str))(hC:CS w w.heap.size k1 k2 cl hl) :
  Calls prog 103 #[.pointer (some ⟨B,0,none⟩),.agg #[k1,k2],str x,str y] w λe w'=>e=.returned (.bool (decide (cl.getD (T.idxOf x) 0=cl.getD (T.idxOf y) 0)))/\Below w.heap.size w w':=by
 have hix:=ai5 hx;have hiy:=ai5 hy;have hBlt:B<w.heap.size:=World.block_lt_of_cell? w _ c4;obtain⟨g,cp,hk1,hg5,hg7⟩:=hC.Vy (show T.idxOf x<cl.length by omega) (show T.idxOf y<cl.length by omega);obtain⟨a2,cp2,hk2,_⟩:=hC.r2;subst hk1;subst hk2;have A1:=aj (D6 hx);have A2:=aj (D6 hy);have hi5:((T.idxOf x:Nat):Int)<(cl.length:Int):=by omega
 have hi7:((T.idxOf y:Nat):Int)<(cl.length:Int):=by omega
 have aeZ:g<w.heap.size:=World.block_lt_of_cell? w _ hg5;have hq1:(x==[])=false:=by simpa using hx0
 have hq2:(y==[])=false:=by simpa using hy0
 have Q1:Hid (∀w':World,w'.ownsRow base 9 1 v4 T.length (T.map str)->Calls prog 154 #[v4,.string ⟨x.toArray⟩] w' λe w2=>e=.returned (.int .i64 (T.idxOf x:Nat))/\w2=w'):=λw' h=>by
  have g:=iI w' x T v4 base (by omega) h;rw[ah A1]at g;exact g
 have Q2:Hid (∀w':World,w'.ownsRow base 9 1 v4 T.length (T.map str)->Calls prog 154 #[v4,.string ⟨y.toArray⟩] w' λe w2=>e=.returned (.int .i64 (T.idxOf y:Nat))/\w2=w'):=λw' h=>by
  have g:=iI w' y T v4 base (by omega) h;rw[ah A2]at g;exact g
 have ho2:=ho.alloc (.cells #[.slice (some ⟨g,0,none⟩) cl.length cp,.slice a2 hl.length cp2] 118);unfold str;generalize T.idxOf x=i at *;generalize T.idxOf y=j at *;generalize cl.getD i 0=p at *;generalize cl.getD j 0=q at *;clear A1 A2 hC;have hBne:B≠w.heap.size:=by omega
 have abn:g≠w.heap.size:=by omega
 go_enter func103,ntmps103
 go_wp2_with fail
 go_quiet (first|(go_at_call_of 154 (Value.string ⟨x.toArray⟩);exact Calls.quiet_of_same ((ah Q1) _ (by exact ho2)))|(go_at_call_of 154 (Value.string ⟨y.toArray⟩);exact Calls.quiet_of_same ((ah Q2) _ (by exact ho2))))
 go_wp2_with fail
 go_ret
 refine⟨kC (by rw[au2];simp),((Below.refl _ w).alloc (af0 _) _).trans (below_drewN _ _ _)⟩
structure NI(T C:List (List UInt8)):Prop where
 ne:∀t∈T,t≠[]
 len:∀t∈T,t.length<=100
 long:∀t∈T,1<t.length->3<=t.length
 in1:∀t∈T,1<t.length->(au.inn t).1=[]\/(au.inn t).1∈T
 in2:∀t∈T,1<t.length->(au.inn t).2=[]\/(au.inn t).2∈T
 aci:∀t∈C,3<=t.length/\t.length<=100
 cin:∀t∈C,(au.inn t).1=[]\/(au.inn t).1∈T
theorem xg(w:World)(B:Nat)(k1 k2 v4:Value)(T:List (List UInt8))(base:Nat)(cl:List Int)(hl:List Bool)(x y:List UInt8)(hx:x=[]\/x∈T)(hy:y=[]\/y∈T)(hT:T.length<=7)(hTc:T.length<=cl.length)
 (c4:w.cell? ⟨B,4,none⟩=some v4)(ho:w.ownsRow base 9 1 v4 T.length (T.map str))(hC:CS w w.heap.size k1 k2 cl hl) :
  Calls prog 103 #[.pointer (some ⟨B,0,none⟩),.agg #[k1,k2],str x,str y] w λe w'=>e=.returned (.bool (FM T cl x y))/\Below w.heap.size w w':=by
 unfold FM;by_cases h:x=[]\/y=[]
 ·rw[af9 h];exact Ip w _ k1 k2 x y h
 ·rw[af6 h];have h1:x≠[]:=λe=>h (Or.inl e);have h2:y≠[]:=λe=>h (Or.inr e);exact UM w B k1 k2 v4 T base cl hl x y h1 h2 (hx.resolve_left h1) (hy.resolve_left h2) hT hTc c4 ho hC
theorem rM(w:World)(t:List UInt8)(h3:3<=t.length)(hs:t.length<=100) :
  Calls prog 102 #[.string ⟨t.toArray⟩] w λe w'=>e=.returned (.tuple #[str (au.inn t).1,str (au.inn t).2])/\Below w.heap.size w w':=by
 have h:=Px w ⟨t.toArray⟩ (by simpa[ByteArray.size]using h3) (by simpa[ByteArray.size]using hs);simpa using h
def yF(T:List (List UInt8))(cl:List Int)(i k:Nat):Bool:=
 decide (1<(T.getD i []).length)&&decide (1<(T.getD k []).length)&&decide ((T.getD i []).headD 0=(T.getD k []).headD 0)&&decide (cl.getD i 0≠cl.getD k 0) &&
  FM T cl (au.inn (T.getD i [])).1 (au.inn (T.getD k [])).1&&FM T cl (au.inn (T.getD i [])).2 (au.inn (T.getD k [])).2
def BF(T C:List (List UInt8))(cl:List Int)(hl:List Bool)(i k:Nat):Bool:=
 decide ((C.getD i []).headD 0=(C.getD k []).headD 0)&&decide (hl.getD i false≠hl.getD k false)&&FM T cl (au.inn (C.getD i [])).1 (au.inn (C.getD k [])).1
def snd(T C:List (List UInt8))(cl:List Int)(hl:List Bool):Bool:=
 ((List.range T.length).all λi=>(List.range T.length).all λk=>!yF T cl i k)&&((List.range C.length).all λi=>(List.range C.length).all λk=>!BF T C cl hl i k)
theorem Q7{T C:List (List UInt8)}{cl:List Int}{hl:List Bool}{i k:Nat}(hi:i<T.length)(hk:k<T.length)(h:yF T cl i k=true):snd T C cl hl=false:=by
 unfold snd;rw[Bool.and_eq_false_iff];left;rw[List.all_eq_false];refine⟨i,by simpa using hi,?_⟩;rw[Bool.not_eq_true,List.all_eq_false];exact⟨k,by simpa using hk,by rw[h];decide⟩
theorem Q8{T C:List (List UInt8)}{cl:List Int}{hl:List Bool}{i k:Nat}(hi:i<C.length)(hk:k<C.length)(h:BF T C cl hl i k=true):snd T C cl hl=false:=by
 unfold snd;rw[Bool.and_eq_false_iff];right;rw[List.all_eq_false];refine⟨i,by simpa using hi,?_⟩;rw[Bool.not_eq_true,List.all_eq_false];exact⟨k,by simpa using hk,by rw[h];decide⟩
theorem QZ{T C:List (List UInt8)}{cl:List Int}{hl:List Bool}(h1:∀i k,i<T.length->k<T.length->yF T cl i k=false)(h2:∀i k,i<C.length->k<C.length->BF T C cl hl i k=false):snd T C cl hl=true:=by
 unfold snd;rw[ao4,ao3,ao3];refine⟨λi hi=>?_,λi hi=>?_⟩
 ·rw[ao3];exact λk hk=>by rw[h1 i k (by simpa using hi) (by simpa using hk)];rfl
 ·rw[ao3];exact λk hk=>by rw[h2 i k (by simpa using hi) (by simpa using hk)];rfl
end
namespace au
def Bal(t:List UInt8):Prop:=∀(r:List UInt8) (d:Int),0<=d->fc (t++r) d=(fc r d).map (·+t.length)
theorem A8{c:UInt8}(h1:c≠40)(h2:c≠41)(h3:c≠44)(r:List UInt8)(d:Int):fc (c::r) d=(fc r d).map (·+1):=by
 rw[fc,af6 h1,af6 h2,af6 (λe=>h3 e.1)]
theorem Yq(r:List UInt8)(d:Int):fc (40::r) d=(fc r (d+1)).map (·+1):=by rw[fc,af9 rfl]
theorem Yr(r:List UInt8)(d:Int):fc (41::r) d=(fc r (d-1)).map (·+1):=by rw[fc,af6 (by decide),af9 rfl]
theorem ab8(r:List UInt8){d:Int}(h:d≠0):fc (44::r) d=(fc r d).map (·+1):=by rw[fc,af6 (by decide),af6 (by decide),af6 (λe=>h e.2)]
theorem ab9(r:List UInt8):fc (44::r) 0=some 0:=by rw[fc,af6 (by decide),af6 (by decide),af9 ⟨rfl,rfl⟩]
theorem mm(x:Option Nat)(a b:Nat):(x.map (·+a)).map (·+b)=x.map (·+(a+b)):=by cases x<;>simp;omega
theorem VB{c:UInt8}(h1:c≠40)(h2:c≠41)(h3:c≠44):Bal [c]:=λr d _=>by
 show fc (c::r) d=_
 rw[A8 h1 h2 h3];rfl
theorem aco{c:UInt8}(h1:c≠40)(h2:c≠41)(h3:c≠44){t:List UInt8}(h:Bal t):Bal (c::40::(t++[41])):=λr d hd=>by
 have e:(c::40::(t++[41]))++r=c::40::(t++(41::r)):=by simp
 rw[e,A8 h1 h2 h3,Yq,h _ _ (by omega),Yr,mm,mm,mm];have:d+1-1=d:=by omega
 rw[this]
 congr 2
 funext n;simp;omega
theorem acn{c:UInt8}(h1:c≠40)(h2:c≠41)(h3:c≠44){t u:List UInt8}(h:Bal t)(g:Bal u):Bal (c::40::(t++44::(u++[41]))):=λr d hd=>by
 have e:(c::40::(t++44::(u++[41])))++r=c::40::(t++(44::(u++(41::r)))):=by simp
 rw[e,A8 h1 h2 h3,Yq,h _ _ (by omega),ab8 _ (by omega),g _ _ (by omega),Yr,mm,mm,mm,mm,mm];have:d+1-1=d:=by omega
 rw[this]
 congr 2
 funext n;simp;omega
theorem kT{c:UInt8}{t:List UInt8}(h:Bal t):inn (c::40::(t++[41]))=(t,[]):=by
 have hm:cut (c::40::(t++[41])) 2 ((c::40::(t++[41])).length-1)=t:=by simp[cut]
 have hf:fc t 0=none:=by have:=h [] 0 (by omega);simpa[fc]using this
 unfold inn;rw[hm,hf]
theorem rO{c:UInt8}{t u:List UInt8}(h:Bal t):inn (c::40::(t++44::(u++[41])))=(t,u):=by
 have hx:∀x:List UInt8,cut (c::40::(x++[41])) 2 ((c::40::(x++[41])).length-1)=x:=λx=>by simp[cut]
 have el:c::40::(t++44::(u++[41]))=c::40::((t++44::u)++[41]):=by simp
 have hm:cut (c::40::(t++44::(u++[41]))) 2 ((c::40::(t++44::(u++[41]))).length-1)=t++44::u:=by rw[el];exact hx _
 have hf:fc (t++44::u) 0=some t.length:=by rw[h _ 0 (by omega),ab9];simp
 unfold inn;rw[hm,hf];have e1:cut (c::40::(t++44::(u++[41]))) 2 (2+t.length)=t:=by
  unfold cut;simp only[List.drop_succ_cons,List.drop_zero];rw[show 2+t.length-2=t.length by omega,List.take_append_of_le_length (af0 _),ak8]
 have e2:cut (c::40::(t++44::(u++[41]))) (3+t.length) ((c::40::(t++44::(u++[41]))).length-1)=u:=by
  have e3:c::40::(t++44::(u++[41]))=(c::40::(t++[44]))++(u++[41]):=by simp
  unfold cut;have hlen:(c::40::(t++44::(u++[41]))).length-1-(3+t.length)=u.length:=by simp;omega
  rw[hlen,e3,List.drop_left' (by simp;omega),List.take_left'];rfl
 simp only[e1,e2]
theorem OM{c:Int}(h1:97<=c)(h2:c<=101):(UInt8.ofNat c.toNat).toNat=c.toNat:=by simp;omega
theorem Bz{c:UInt8}{n:Nat}(h:c.toNat=n){b:UInt8}(hb:b.toNat≠n):c≠b:=λe=>hb (by rw[<-e];exact h)
theorem jJ{T:List (List UInt8)}{k:Key}{n:Nat}(h:jy n k) :
  (∃c:UInt8,rend T k=[c]/\c≠40/\c≠41/\c≠44)\/(k.1=102/\k.2.1<n/\rend T k=102::40::(T.getD k.2.1 []++[41]))\/
  (k.1=103/\k.2.1<n/\k.2.2<n/\rend T k=103::40::(T.getD k.2.1 []++44::(T.getD k.2.2 []++[41]))):=by
 rcases h with⟨h1,h2,h3,h4⟩|⟨h1,h2,h3⟩|⟨h1,h2,h3⟩
 ·left;have hb:=OM h1 h2;refine⟨UInt8.ofNat k.1.toNat,?_,Bz hb ?_,Bz hb ?_,Bz hb ?_⟩
  ·unfold rend;rw[af6 (by omega),af6 (by omega)]
  ·have:(40:UInt8).toNat=40:=rfl;omega
  ·have:(41:UInt8).toNat=41:=rfl;omega
  ·have:(44:UInt8).toNat=44:=rfl;omega
 ·right;left;exact⟨h1,h2,by unfold rend;rw[af9 h1]⟩
 ·right;right;exact⟨h1,h2,h3,by unfold rend;rw[af6 (by omega),af9 h1]⟩
theorem Inv.bal{ts:List Key}(h:Inv ts):∀(n i:Nat),i<n->i<ts.length->Bal ((texts ts).getD i []):=by
 intro n
 induction n with
 |zero=>intro i hi;omega
 |succ n ih=>
  intro i hi hl;rw[h.get i hl];rcases jJ (T:=texts ts) (h.key i hl)with⟨c,e,n1,n2,n3⟩|⟨_,hk,e⟩|⟨_,hk,hk2,e⟩
  ·rw[e];exact VB n1 n2 n3
  ·rw[e];exact aco (by decide) (by decide) (by decide) (ih _ (by omega) (by omega))
  ·rw[e];exact acn (by decide) (by decide) (by decide) (ih _ (by omega) (by omega)) (ih _ (by omega) (by omega))
theorem yI{ts:List Key}(h:Inv ts){t:List UInt8}(ht:t∈texts ts):∃i,∃hi:i<ts.length,t=rend (texts ts) ts[i]:=by
 obtain⟨i,hi,e⟩:=aj2 ht;rw[aW]at hi;refine⟨i,hi,?_⟩;rw[<-h.get i hi,<-e];simp[ag8,aW,hi]
end au
section
open au (Key Inv iZ texts)
theorem AQ{ts:List Key}{cs:List (Int×Nat)}(h:Inv ts)(hc:iZ ts cs)(hT:∀t∈texts ts,t.length<=100)(hC:∀t∈ctx ts cs,t.length<=100):NI (texts ts) (ctx ts cs):=by
 have mem:∀j,j<ts.length->(texts ts).getD j []∈texts ts:=λj hj=>au.getD_mem (by rw[au.aW];exact hj);have bal:∀j,j<ts.length->au.Bal ((texts ts).getD j []):=λj hj=>h.bal (j+1) j (by omega) hj;refine⟨λt ht=>?_,hT,λt ht hl=>?_,λt ht hl=>?_,λt ht hl=>?_,λt ht=>?_,λt ht=>?_⟩
 ·obtain⟨i,hi,rfl⟩:=au.yI h ht;rcases au.jJ (T:=texts ts) (h.key i hi)with⟨c,e,_⟩|⟨_,_,e⟩|⟨_,_,_,e⟩<;>rw[e]<;>simp
 ·obtain⟨i,hi,rfl⟩:=au.yI h ht;rcases au.jJ (T:=texts ts) (h.key i hi)with⟨c,e,_⟩|⟨_,_,e⟩|⟨_,_,_,e⟩
  ·rw[e]at hl;simp at hl
  ·rw[e];simp
  ·rw[e];simp;omega
 ·obtain⟨i,hi,rfl⟩:=au.yI h ht;rcases au.jJ (T:=texts ts) (h.key i hi)with⟨c,e,_⟩|⟨_,hk,e⟩|⟨_,hk,hk2,e⟩
  ·rw[e]at hl;simp at hl
  ·rw[e,au.kT (bal _ (by omega))];exact Or.inr (mem _ (by omega))
  ·rw[e,au.rO (bal _ (by omega))];exact Or.inr (mem _ (by omega))
 ·obtain⟨i,hi,rfl⟩:=au.yI h ht;rcases au.jJ (T:=texts ts) (h.key i hi)with⟨c,e,_⟩|⟨_,hk,e⟩|⟨_,hk,hk2,e⟩
  ·rw[e]at hl;simp at hl
  ·rw[e,au.kT (bal _ (by omega))];exact Or.inl rfl
  ·rw[e,au.rO (bal _ (by omega))];exact Or.inr (mem _ (by omega))
 ·obtain⟨c,hcm,rfl⟩:=ah3.1 ht;exact⟨by simp[au.dw],hC _ ht⟩
 ·obtain⟨c,hcm,rfl⟩:=ah3.1 ht;unfold au.dw;rw[au.kT (bal _ (hc c hcm).2)];exact Or.inr (mem _ (hc c hcm).2)
end
open Go.RowKit
open au (St put cut)
namespace au
def gu:List UInt8->Int->Option (List Int)
 |[],_=>some []
 |c::r,most=>if (c.toNat:Int)-48<0\/most+1<(c.toNat:Int)-48 then none else(gu r (max most ((c.toNat:Int)-48))).map (((c.toNat:Int)-48)::·)
def gq:List UInt8->Option (List Bool)
 |[]=>some []
 |c::r=>if c≠48/\c≠49 then none else(gq r).map (decide (c=49)::·)
def parse(n c:Nat)(s:List UInt8):Option (List Int×List Bool):=
 if s.length≠n+1+c\/s.getD n 0≠47 then none else
 match gu (s.take n) (-1)with
 |none=>none
 |some cl=>(gq (s.drop (n+1))).map λhl=>(cl,hl)
end au
theorem OD(w:World)(B:Nat)(s:ByteArray)(v4 v5:Value)(T C:List (List UInt8))(hT:T.length<=7)(hC:C.length<=4)(_hm:s.size<=maxLen)(c4:w.cell? ⟨B,4,none⟩=some v4)(c5:w.cell? ⟨B,5,none⟩=some v5)(r4:w.ownsRow 0 9 1 v4 T.length (T.map str))(r5:w.ownsRow 0 9 1 v5 C.length (C.map str))
 (hne:s.size≠T.length+1+C.length) :
  Calls prog 59 #[.pointer (some ⟨B,0,none⟩),.string s] w λe w'=>(∃a1 n1 c1 a2 n2 c2,e=.returned (.tuple #[.agg #[.slice a1 n1 c1,.slice a2 n2 c2],.bool false]))/\Below w.heap.size w w':=by
 obtain⟨a4,p4,e4⟩:=aV r4;obtain⟨a5,p5,e5⟩:=aV r5;subst e4;subst e5;have hBlt:B<w.heap.size:=World.block_lt_of_cell? w _ c4;have hb:((s.size:Int) != (T.length:Int)+1+(C.length:Int))=true:=by simp;omega
 have hBne:B≠w.heap.size:=by omega
 have Yl:B≠w.heap.size+1:=by omega
 have hB2:B<w.heap.size+1:=by omega
 go_enter func59,ntmps59
 go_wp2_with fail
 refine bodyPost_ret (v:=.tuple #[.agg #[.slice none 0 0,.slice none 0 0],.bool false]) (by simp[results,results59,go_sem]) rfl ⟨⟨_,_,_,_,_,_,rfl⟩,?_⟩;exact((Below.refl _ w).alloc (af0 _) _).alloc (by simp) _
theorem GL(w:World)(B:Nat)(s:ByteArray)(v4 v5:Value)(T C:List (List UInt8))(hT:T.length<=7)(hC:C.length<=4)(c4:w.cell? ⟨B,4,none⟩=some v4)(c5:w.cell? ⟨B,5,none⟩=some v5)(r4:w.ownsRow 0 9 1 v4 T.length (T.map str))(r5:w.ownsRow 0 9 1 v5 C.length (C.map str))
 (heq:s.size=T.length+1+C.length)(hlt:T.length<s.size)(hsl:s[T.length]'hlt≠47) :
  Calls prog 59 #[.pointer (some ⟨B,0,none⟩),.string s] w λe w'=>(∃a1 n1 c1 a2 n2 c2,e=.returned (.tuple #[.agg #[.slice a1 n1 c1,.slice a2 n2 c2],.bool false]))/\Below w.heap.size w w':=by
 obtain⟨a4,p4,e4⟩:=aV r4;obtain⟨a5,p5,e5⟩:=aV r5;subst e4;subst e5;have hBlt:B<w.heap.size:=World.block_lt_of_cell? w _ c4;have hb:((s.size:Int) != (T.length:Int)+1+(C.length:Int))=false:=by simp;omega
 have hlt':(T.length:Int)<(s.size:Int):=by omega
 have hb2:(((s[T.length]'hlt).toNat:Int) != 47)=true:=by
  have:=rV hsl;simpa[bne]using this
 have hBne:B≠w.heap.size:=by omega
 have Yl:B≠w.heap.size+1:=by omega
 have hB2:B<w.heap.size+1:=by omega
 clear heq
 go_enter func59,ntmps59
 go_wp2_with fail
 refine bodyPost_ret (v:=.tuple #[.agg #[.slice none 0 0,.slice none 0 0],.bool false]) (by simp[results,results59,go_sem]) rfl ⟨⟨_,_,_,_,_,_,rfl⟩,?_⟩;exact((Below.refl _ w).alloc (af0 _) _).alloc (by simp) _
end Go.Proofs.YthcppbmkacbbiaaGreat
