import Derived.Test.YthcppbmkacbbiabGreatWBU
set_option linter.unusedSimpArgs false
set_option maxHeartbeats 2000000
set_option maxRecDepth 100000
namespace Go.Proofs.YthcppbmkacbbiabGreat
open Go.Proofs.Tryz
section
open Go.RowKit Go.Maps Go.WideMaps
open aB (Key put dJ au isAtom cnt aQ fE)
attribute [local go_sem] Oper.semAt_some
theorem FF.of{s:ByteArray}{ts:List Key}{cs:List (Int×Nat)}{ps:List Key}{m:Nat}(hs:s.size<=100)(hR:aB.gI (pk s) (s.size+1) 0 0 [] [] []=.ok (s.size,ts,cs,ps,m))(h7:ts.length<=7)(h4:cs.length<=4)(hi:aB.Inv ts)(hic:aB.jR ts cs)(kR:aQ ts.length cs.length ps)(hp0:0<ps.length)(hp:ps.length<=100):FF ts cs ps:=by
 have hz:=aB.OB (pk:=pk s) (N:=s.size) (λa h=>bJ h) (s.size+1) 0 0 [] [] [] (by omega);rw[hR]at hz;obtain⟨_,z1,z2,z3⟩:=hz;have e1:cnt au []=0:=rfl;have e2:cnt isAtom []=0:=rfl;have hk:fE cs ps:=z3 ⟨λq hq=>by(cases hq),λc h=>absurd h (by simp)⟩;refine⟨h7,AL hic kR hp0,h4,hp0,hp,hi,kR,hk,λi hi'=>?_,λx hx=>hic x hx,by omega,by omega⟩;have hkey:=hi.key i hi';rcases hkey with⟨_,_,h3,h4⟩|⟨_,h2,h3⟩|⟨_,h2,h3⟩<;>omega
theorem Jg(w:World)(GT GC GP:Nat)(ts:List Key)(cs:List (Int×Nat))(ps:List Key)(tape:ByteArray)(way:Int)(hw:way=0\/way=1)(hF:FF ts cs ps)(hd:xg tape.data.toList)(h60:tape.size<=60)(hrt:bQ w GT ts)(hrc:eF w GC cs)(hrp:bQ w GP ps) :
  Calls prog 19 #[fv GT GC GP ts.length cs.length ps.length,.int .i64 way,.string tape] w λe w'=>D8 ts cs ps e/\Below w.heap.size w w':=by
 have hb0:∀o,Below w.heap.size w (w.alloc o):=λo=>(ag6 _ w).alloc (ad5 _) _;have H0:=aj (λo=>wW (w.alloc o) GT GC GP ts cs ps tape hF hd h60 (hrt.below (hb0 o) hrt.1) (hrc.below (hb0 o) hrc.1) (hrp.below (hb0 o) hrp.1));have H1:=aj (λo=>wX (w.alloc o) GT GC GP ts cs ps tape hF hd h60 (hrt.below (hb0 o) hrt.1) (hrc.below (hb0 o) hrc.1) (hrp.below (hb0 o) hrp.1));have hR:Hid (∀o e w',D8 ts cs ps e/\Below (w.alloc o).heap.size (w.alloc o) w'->∃(b:Bool) (m:ByteArray),e=.returned (.tuple #[.bool b,.string m])/\D8 ts cs ps (.returned (.tuple #[.bool b,.string m]))/\Below w.heap.size w w'):=λo e w' ⟨h,hb⟩=>by
  have hb2:Below w.heap.size w w':=(hb0 o).trans (hb.mono (by simp));rcases id h with⟨rfl,_⟩|⟨f,hl,_,_,rfl⟩
  ·exact⟨_,_,rfl,h,hb2⟩
  ·exact⟨_,_,rfl,h,hb2⟩
 clear hF hd hrt hrc hrp hb0;generalize D8 ts cs ps=DE at H0 H1 hR ⊢;unfold fv at H0 H1 ⊢;rcases hw with rfl|rfl
 ·go_enter func19,ntmps19
  go_wp2_with fail
  refine(ah H0 _).mono ?_;intro e w1 h;obtain⟨b,m,rfl,h1,h2⟩:=ah hR _ e w1 h;have Q1:=aj h1;have Q2:=aj h2;clear h h1 h2
  go_wp2_with fail
  exact ag3 (v:=.tuple #[.bool b,.string m]) (by simp[results,results19,go_sem]) rfl ⟨ah Q1,ah Q2⟩
 ·go_enter func19,ntmps19
  go_wp2_with fail
  refine(ah H1 _).mono ?_;intro e w1 h;obtain⟨b,m,rfl,h1,h2⟩:=ah hR _ e w1 h;have Q1:=aj h1;have Q2:=aj h2;clear h h1 h2
  go_wp2_with fail
  exact ag3 (v:=.tuple #[.bool b,.string m]) (by simp[results,results19,go_sem]) rfl ⟨ah Q1,ah Q2⟩
theorem Dw{t:ByteArray}(h:dw t=false):xg t.data.toList/\t.size<=60:=by
 unfold dw at h;simp only[Bool.or_eq_false_iff,decide_eq_false_iff_not,List.any_eq_false]at h;refine⟨λc hc=>?_,by omega⟩;have:=h.2 c hc;unfold lY at this;simp at this;omega
theorem zV(w:World)(s tape:ByteArray)(way:Int)(hm:s.size<=maxLen)(hE:(chk s).1≠0) :
  Calls prog 12 #[.string s,.int .i64 way,.string tape] w λe w'=>e=.returned (.tuple #[.bool false,.string ⟨#[]⟩,.int .i64 (chk s).1])/\Below w.heap.size w w':=by
 have HR:=aj (λw=>EK w s hm);generalize chk s=c at HR hE;have hb:(c.1 != 0)=true:=by simpa using hE
 go_enter func12,ntmps12
 go_wp2_with fail
 refine((ah HR) _).mono ?_;rintro e w1 ⟨⟨p0,n0,c0,p1,n1,c1,p2,n2,c2,rfl⟩,h1⟩;have HH:=aj h1;clear h1
 go_wp2_with fail
 exact ag3 (v:=.tuple #[.bool false,.string ⟨#[]⟩,.int .i64 c.1]) (by simp[results,results12,go_sem]) rfl ⟨rfl,(ah HH).alloc (ah HH).size _⟩
theorem zU(w:World)(s tape:ByteArray)(way:Int)(hs:s.size<=100)(ts:List Key)(cs:List (Int×Nat))(ps:List Key)(mm:Nat)(HR:aB.gI (pk s) (s.size+1) 0 0 [] [] []=.ok (s.size,ts,cs,ps,mm))(hF:FF ts cs ps)(hic:aB.jR ts cs)(hnd:cs.Nodup)(DT:Ending->Prop)
 (h5:¬(way=0\/way=1)->DT (.returned (.tuple #[.bool false,.string ⟨#[]⟩,.int .i64 5])))(h7:(way=0\/way=1)->dw tape=true->DT (.returned (.tuple #[.bool false,.string ⟨#[]⟩,.int .i64 7])))
 (hno:(way=0\/way=1)->dw tape=false->(¬∃f hl,hl.length=cs.length/\xP f ts cs ps hl)->DT (.returned (.tuple #[.bool false,.string ⟨#[]⟩,.int .i64 0])))
 (hyes:(way=0\/way=1)->dw tape=false->∀f hl,hl.length=cs.length->xP f ts cs ps hl->DT (.returned (.tuple #[.bool true,.string ⟨(wrt f ts.length hl).toArray⟩,.int .i64 0]))) :
  Calls prog 12 #[.string s,.int .i64 way,.string tape] w λe w'=>DT e/\Below w.heap.size w w':=by
 have HO:=aj (mZ w s hs ts cs ps mm HR hF.h7 hF.h4 hF.inv hic hnd hF.kR hF.hp);have HDT:Hid (∀e,D8 ts cs ps e->(way=0\/way=1)->dw tape=false->∃(b:Bool) (m:ByteArray),e=.returned (.tuple #[.bool b,.string m])/\DT (.returned (.tuple #[.bool b,.string m,.int .i64 0]))):=λe h hw ht=>by
  rcases h with⟨rfl,h⟩|⟨f,hl,h1,h2,rfl⟩
  ·exact⟨_,_,rfl,hno hw ht h⟩
  ·exact⟨_,_,rfl,hyes hw ht f hl h1 h2⟩
 have HFV:=aj h5;have HSV:=aj h7;have HTP:=aj (λw=>Ig w tape);have HDG:Hid (dw tape=false->xg tape.data.toList/\tape.size<=60):=λh=>Dw h;have HDE:Hid (∀W GT GC GP,(way=0\/way=1)->dw tape=false->bQ W GT ts->eF W GC cs->bQ W GP ps->Calls prog 19 #[fv GT GC GP ts.length cs.length ps.length,.int .i64 way,.string tape] W λe w'=>D8 ts cs ps e/\Below W.heap.size W w'):=λW GT GC GP hw ht h1 h2 h3=>
  Jg W GT GC GP ts cs ps tape way hw hF (Dw ht).1 (Dw ht).2 h1 h2 h3
 generalize D8 ts cs ps=DE at HDT HDE;clear hF hic HR hnd h5 h7 hno hyes;unfold fv at HO HDE;generalize dw tape=nt at HDT HSV HTP HDG HDE
 go_enter func12,ntmps12
 go_wp2_with fail
 refine(ah HO).mono ?_;rintro e w1 ⟨GT,GC,GP,rfl,h1,hfr⟩;have M1:=aj (qm hfr.t);have M2:=aj (Ci hfr.c);have M3:=aj (qm hfr.p);have HH1:=aj h1;clear HO hfr h1;by_cases hw:way=0\/way=1
 ·have hwb:¬(way≠0/\way≠1):=by omega
  have hwc:((way != 0)&&(way != 1))=false:=by rcases hw with rfl|rfl<;>rfl
  obtain⟨w2,hw2⟩:∃w2,w1.alloc (.cells #[.slice (some ⟨GT,0,none⟩) ts.length ts.length,.slice (some ⟨GC,0,none⟩) cs.length cs.length,.slice (some ⟨GP,0,none⟩) ps.length ps.length] 46)=w2:=⟨_,rfl⟩;have hb2:Below w1.heap.size w1 w2:=by rw[<-hw2];exact(ag6 _ w1).alloc (ad5 _) _
  have hx2:w2.heap[w1.heap.size]?=some (.cells #[.slice (some ⟨GT,0,none⟩) ts.length ts.length,.slice (some ⟨GC,0,none⟩) cs.length cs.length,.slice (some ⟨GP,0,none⟩) ps.length ps.length] 46 (0,0)):=by rw[<-hw2];exact ae9 _ _
  have HB2:=aj hb2;have HX2:=aj hx2;have HW:=aj hw;have Vk:=aj (ah HTP w2);clear hb2 hx2 hwb hwc;cases nt
  ·have main:∀W,way=W->(W=0\/W=1)->True:=λ_ _ _=>trivial;rcases hw with rfl|rfl
   ·go_wp2_with fail
    refine(ah Vk).mono ?_;rintro e w3 ⟨rfl,h3⟩;have hx3:=(h3.block _ (ad3.1 (ah HX2)).1).trans (ah HX2);have q0:w3.cell? ⟨w1.heap.size,0,none⟩=some (.slice (some ⟨GT,0,none⟩) ts.length ts.length):=(by rw[cell_of hx3];rfl);have q1:w3.cell? ⟨w1.heap.size,1,none⟩=some (.slice (some ⟨GC,0,none⟩) cs.length cs.length):=(by rw[cell_of hx3];rfl);have q2:w3.cell? ⟨w1.heap.size,2,none⟩=some (.slice (some ⟨GP,0,none⟩) ps.length ps.length):=(by rw[cell_of hx3];rfl);have hb13:Below w1.heap.size w1 w3:=(ah HB2).trans (h3.mono (ah HB2).size);have hde:=ah HDE w3 GT GC GP (ah HW) (by trivial) ((ah M1).below hb13 (ah M1).1) ((ah M2).below hb13 (ah M2).1) ((ah M3).below hb13 (ah M3).1);have HB3:=aj ((ah HH1).trans (hb13.mono (ah HH1).size));clear hx3 h3 hb13 hw2
    go_wp2_with fail
    refine hde.mono ?_;intro e w4 h;obtain⟨b,m,rfl,hdt⟩:=ah HDT e h.1 (ah HW) (by trivial);have HB4:=aj ((ah HB3).trans (h.2.mono (ah HB3).size));have HQ:=aj hdt;clear h hdt hde q0 q1 q2
    go_wp2_with fail
    exact ag3 (v:=.tuple #[.bool b,.string m,.int .i64 0]) (by simp[results,results12,go_sem]) rfl ⟨ah HQ,ah HB4⟩
   ·go_wp2_with fail
    refine(ah Vk).mono ?_;rintro e w3 ⟨rfl,h3⟩;have hx3:=(h3.block _ (ad3.1 (ah HX2)).1).trans (ah HX2);have q0:w3.cell? ⟨w1.heap.size,0,none⟩=some (.slice (some ⟨GT,0,none⟩) ts.length ts.length):=(by rw[cell_of hx3];rfl);have q1:w3.cell? ⟨w1.heap.size,1,none⟩=some (.slice (some ⟨GC,0,none⟩) cs.length cs.length):=(by rw[cell_of hx3];rfl);have q2:w3.cell? ⟨w1.heap.size,2,none⟩=some (.slice (some ⟨GP,0,none⟩) ps.length ps.length):=(by rw[cell_of hx3];rfl);have hb13:Below w1.heap.size w1 w3:=(ah HB2).trans (h3.mono (ah HB2).size);have hde:=ah HDE w3 GT GC GP (ah HW) (by trivial) ((ah M1).below hb13 (ah M1).1) ((ah M2).below hb13 (ah M2).1) ((ah M3).below hb13 (ah M3).1);have HB3:=aj ((ah HH1).trans (hb13.mono (ah HH1).size));clear hx3 h3 hb13 hw2
    go_wp2_with fail
    refine hde.mono ?_;intro e w4 h;obtain⟨b,m,rfl,hdt⟩:=ah HDT e h.1 (ah HW) (by trivial);have HB4:=aj ((ah HB3).trans (h.2.mono (ah HB3).size));have HQ:=aj hdt;clear h hdt hde q0 q1 q2
    go_wp2_with fail
    exact ag3 (v:=.tuple #[.bool b,.string m,.int .i64 0]) (by simp[results,results12,go_sem]) rfl ⟨ah HQ,ah HB4⟩
  ·rcases hw with rfl|rfl
   ·go_wp2_with fail
    refine(ah Vk).mono ?_;rintro e w3 ⟨rfl,h3⟩;have hb13:Below w1.heap.size w1 w3:=(ah HB2).trans (h3.mono (ah HB2).size);have HB3:=aj ((ah HH1).trans (hb13.mono (ah HH1).size));clear h3 hb13 hw2
    go_wp2_with fail
    exact ag3 (v:=.tuple #[.bool false,.string ⟨#[]⟩,.int .i64 7]) (by simp[results,results12,go_sem]) rfl ⟨ah HSV (ah HW) (by trivial),ah HB3⟩
   ·go_wp2_with fail
    refine(ah Vk).mono ?_;rintro e w3 ⟨rfl,h3⟩;have hb13:Below w1.heap.size w1 w3:=(ah HB2).trans (h3.mono (ah HB2).size);have HB3:=aj ((ah HH1).trans (hb13.mono (ah HH1).size));clear h3 hb13 hw2
    go_wp2_with fail
    exact ag3 (v:=.tuple #[.bool false,.string ⟨#[]⟩,.int .i64 7]) (by simp[results,results12,go_sem]) rfl ⟨ah HSV (ah HW) (by trivial),ah HB3⟩
 ·have h0:¬way=0:=λe=>hw (Or.inl e);have h1:¬way=1:=λe=>hw (Or.inr e);have hb0:(way != 0)=true:=by simpa using h0
  have hb1:(way != 1)=true:=by simpa using h1
  have HW:=aj hw;clear hw h0 h1
  go_wp2_with fail
  exact ag3 (v:=.tuple #[.bool false,.string ⟨#[]⟩,.int .i64 5]) (by simp[results,results12,go_sem]) rfl ⟨ah HFV (ah HW),(ah HH1).alloc (ah HH1).size _⟩
end
section
open Go.RowKit Go.Maps Go.WideMaps
open aB (Key put dJ au isAtom cnt aQ fE)
def zW(s:ByteArray):Int×Int:=
 if s.size<=100/\(chk s).1=0 then
  match aB.gI (pk s) (s.size+1) 0 0 [] [] []with
  |.ok (_,ts,cs,ps,_)=>(((qR ts cs ps:Nat):Int),0)
  |.error _=>(0,0)
 else(0,(chk s).1)
theorem Ib{s:ByteArray}(h:s.size<=100/\(chk s).1=0){ts:List Key}{cs:List (Int×Nat)}{ps:List Key}{m:Nat}(h1:aB.gI (pk s) (s.size+1) 0 0 [] [] []=.ok (s.size,ts,cs,ps,m)):zW s=(((qR ts cs ps:Nat):Int),0):=by
 unfold zW;rw[af6 h,h1]
theorem xG{s:ByteArray}(h:¬(s.size<=100/\(chk s).1=0)):zW s=(0,(chk s).1):=by
 unfold zW;rw[af2 h]
theorem P5(w:World)(s:ByteArray)(hm:s.size<=maxLen) :
  Calls prog 16 #[.string s] w λe w'=>e=.returned (.tuple #[.int .i64 (zW s).1,.int .i64 (zW s).2])/\Below w.heap.size w w':=by
 by_cases h:s.size<=100/\(chk s).1=0
 ·obtain⟨ts,cs,ps,h1,h2,h3,h4,h5,h6,h7,h8,h9,h10,h11,h12⟩:=jr s h.1 h.2;have h0:0<ts.length:=AL h5 h10 h11;have g:=Rn w s h.1 ts cs ps _ h1 h0 h2 h3 h4 h5 h9 h10 h11 h12 (λx hx=>h5 x hx);rw[Ib h h1];exact g
 ·rw[xG h];exact NM w s hm (zF h)
def Gg(s:ByteArray):Int:=if (zW s).2=0 then(if (zW s).1=0 then 0 else 1)else -1
def DK(ts:List Key)(cs:List (Int×Nat))(ps:List Key)(e:Ending):Prop:=
 (e=.returned (.tuple #[.bool false,.string ⟨#[]⟩,.int .i64 0])/\qR ts cs ps=0)\/
 ∃f hl,hl.length=cs.length/\xP f ts cs ps hl/\e=.returned (.tuple #[.bool true,.string ⟨(wrt f ts.length hl).toArray⟩,.int .i64 0])/\qR ts cs ps≠0
theorem Kz(w:World)(s t:ByteArray)(way:Int)(hm:s.size<=maxLen)(hw:way=0\/way=1)(ht:dw t=false) :
  Calls prog 9 #[.string s,.int .i64 way,.string t] w λe w'=>e=.returned (.int .i64 (Gg s))/\Below w.heap.size w w':=by
 by_cases h:s.size<=100/\(chk s).1=0
 ·obtain⟨ts,cs,ps,h1,h2,h3,h4,h5,h6,h7,h8,h9,h10,h11,h12⟩:=jr s h.1 h.2;have hF:=FF.of h.1 h1 h2 h3 h4 h5 h10 h11 h12;have hcm:=zI h3 h10 hF.ht hF.hcs;have hk:=Ib h h1;have HD:Hid (Calls prog 12 #[.string s,.int .i64 way,.string t] w λe w'=>DK ts cs ps e/\Below w.heap.size w w'):=by
   refine zU w s t way h.1 ts cs ps _ h1 hF h5 h9 (DK ts cs ps) (λq=>absurd hw q) (λ_ q=>absurd (ht.symm.trans q) (by decide)) (λ_ _ q=>Or.inl ⟨rfl,?_⟩) (λ_ _ f hl q1 q2=>Or.inr ⟨f,hl,q1,q2,rfl,hcm.2 ⟨f,hl,q1,q2⟩⟩);exact ah3 λe=>q (hcm.1 e)
  have HH:Hid (∀W f hl,hl.length=cs.length->xP f ts cs ps hl->Calls prog 14 #[.string s,.string ⟨(wrt f ts.length hl).toArray⟩] W λe w'=>e=.returned (.tuple #[.bool true,.int .i64 0])/\Below W.heap.size W w'):=λW f hl q1 q2=>by
   have g:=FH W s ⟨(wrt f ts.length hl).toArray⟩ (XE ⟨(wrt f ts.length hl).toArray⟩ ts.length) h.1 ts cs ps _ h1 h2 h3 h4 h5 h9 h10 h11 h12 (λx hx=>h5 x hx) (λhe=>I9 _ ts.length cs.length he);rw[Jz h2 h10 hF.ht hF.hcs q1 q2]at g;exact g
  have H0:Hid (qR ts cs ps=0->Gg s=0):=λq=>by unfold Gg;rw[hk];simp[q]
  have H1:Hid (qR ts cs ps≠0->Gg s=1):=λq=>by unfold Gg;rw[hk];simp[q]
  clear hF hcm hk h1 h2 h3 h4 h5 h6 h7 h8 h9 h10 h11 h12 h hm ht hw;generalize Gg s=v at H0 H1;unfold DK at HD
  go_enter func9,ntmps9
  go_wp2_with fail
  refine(ah HD).mono ?_;rintro e w1 ⟨⟨rfl,q⟩|⟨f,hl,q1,q2,rfl,q⟩,b1⟩
  ·have hv:=ah H0 q;subst hv
   go_wp2_with fail
   go_ret
   exact⟨rfl,b1⟩
  ·have hv:=ah H1 q;subst hv;have g:=ah HH w1 f hl q1 q2;generalize (wrt f ts.length hl).toArray=m at g ⊢
   go_wp2_with fail
   refine g.mono ?_;rintro e w2 ⟨rfl,b2⟩
   go_wp2_with fail
   go_ret
   exact⟨rfl,b1.trans (b2.mono b1.size)⟩
 ·have hE:=zF h;have hv:Gg s = -1:=by unfold Gg;rw[xG h];simp[hE]
  rw[hv];have HD:=aj (zV w s t way hm hE);generalize (chk s).1=E at HD hE;have hb:(E != 0)=true:=by simpa using hE
  go_enter func9,ntmps9
  go_wp2_with fail
  refine(ah HD).mono ?_;rintro e w1 ⟨rfl,b1⟩
  go_wp2_with fail
  go_ret
  exact⟨rfl,b1⟩
end
section
open Go.RowKit
theorem aag:Gg ⟨#[40,102,40,102,40,97,41,41,61,97,38,33,102,40,97,41,61,97,41]⟩=1:=by kernel_rfl
theorem aaf:Gg ⟨#[33,97,61,98]⟩=1:=by kernel_rfl
theorem aae:Gg ⟨#[40,80,40,97,41,38,33,80,40,98,41,41]⟩=1:=by kernel_rfl
theorem aad:Gg ⟨#[40,97,61,98,38,33,102,40,97,41,61,102,40,98,41,41]⟩=0:=by kernel_rfl
theorem aac:Gg ⟨#[40,80,40,97,41,38,40,33,80,40,98,41,38,97,61,98,41,41]⟩=0:=by kernel_rfl
theorem Z9:Gg ⟨#[40,102,40,102,40,102,40,97,41,41,41,61,97,38,40,102,40,102,40,97,41,41,61,97,38,33,102,40,97,41,61,97,41,41]⟩=0:=by kernel_rfl
theorem vS(s t:ByteArray){v:Int}(hv:Gg s=v)(hm:s.size<=maxLen)(ht:dw t=false)(w:World)(way:Int)(hw:way=0\/way=1) :
  Calls prog 9 #[.string s,.int .i64 way,.string t] w λe w'=>e=.returned (.int .i64 v)/\Below w.heap.size w w':=by
 subst hv;exact Kz w s t way hm hw ht
theorem BM(w:World):Calls prog 6 #[] w λe w'=>e=.returned (.bool true)/\Below w.heap.size w w':=by
 have H1:=aj (vS _ ⟨#[]⟩ aag (by decide) (by decide));have H2:=aj (vS _ ⟨#[55]⟩ aaf (by decide) (by decide));have H3:=aj (vS _ ⟨#[57,49]⟩ aae (by decide) (by decide));have H4:=aj (vS _ ⟨#[]⟩ aad (by decide) (by decide));have H5:=aj (vS _ ⟨#[51]⟩ aac (by decide) (by decide));have H6:=aj (vS _ ⟨#[49,57]⟩ Z9 (by decide) (by decide))
 go_enter func6,ntmps6
 go_wp2_with fail
 go_loopw [1] (λiv wr=>∃k:Nat,k<=2/\iv=.int .i64 k/\Below w.heap.size w wr) (λiv wr=>2-(intOf iv).toNat)
 case atStart=>exact⟨0,by omega,rfl,ag6 _ _⟩
 case round=>
  obtain⟨k,hk,rfl,hb⟩:=hrel;by_cases hlt:k<2
  ·have hbk:(k:Int)<2:=(by omega);have hw:(k:Int)=0\/(k:Int)=1:=by omega
   go_wp2_with fail
   refine(ah H1 wr k hw).mono ?_;rintro e w1 ⟨rfl,b1⟩;replace b1:=hb.trans (b1.mono hb.size)
   go_wp2_with fail
   refine(ah H2 w1 k hw).mono ?_;rintro e w2 ⟨rfl,b2⟩;replace b2:=b1.trans (b2.mono b1.size)
   go_wp2_with fail
   refine(ah H3 w2 k hw).mono ?_;rintro e w3 ⟨rfl,b3⟩;replace b3:=b2.trans (b3.mono b2.size)
   go_wp2_with fail
   refine(ah H4 w3 k hw).mono ?_;rintro e w4 ⟨rfl,b4⟩;replace b4:=b3.trans (b4.mono b3.size)
   go_wp2_with fail
   refine(ah H5 w4 k hw).mono ?_;rintro e w5 ⟨rfl,b5⟩;replace b5:=b4.trans (b5.mono b4.size)
   go_wp2_with fail
   refine(ah H6 w5 k hw).mono ?_;rintro e w6 ⟨rfl,b6⟩;replace b6:=b5.trans (b6.mono b5.size)
   go_wp2_with fail
   exact⟨⟨k+1,by omega,by go_num,b6⟩,by simp[intOf];omega⟩
  ·have hbk:¬(k:Int)<2:=by omega
   go_wp2_with fail
   exact ag3 (v:=.bool true) (by simp[results,results6,go_sem]) rfl ⟨rfl,hb⟩
def Az(n:Int):Prop:=-9223372036854775808<=n/\n<=9223372036854775807
theorem Vr(c:Int)(n:Nat)(hn:0<n):∃k:Nat,k<n/\c%(n:Int)=k:=
 ⟨(c%n).toNat,by have:=Int.emod_lt_of_pos c (show(0:Int)<n by omega);have:=Int.emod_nonneg c (show(n:Int)≠0 by omega);omega,by have:=Int.emod_nonneg c (show(n:Int)≠0 by omega);omega⟩
theorem yu(w:World)(c:Int)(n:Nat)(hn:0<n)(hn2:n<=100)(hc:Az c) :
  Calls prog 7 #[.int .i64 c,.int .i64 n] w λe w'=>(∃k:Nat,k<n/\e=.returned (.int .i64 k))/\w'=w:=by
 obtain⟨h1,h2⟩:=hc;by_cases hc:c<0
 ·obtain⟨k,hk,e⟩:=Vr (-(c+1)) n hn;have e2 : -(c+1).tmod (n:Int)=k:=by rw[<-Int.neg_tmod,Int.tmod_eq_emod_of_nonneg (by omega)];exact e
  have E2:=aj e2;clear e e2
  go_enter func7,ntmps7
  go_wp2_with fail
  go_ret
  exact⟨⟨k,hk,by rw[<-ah E2];rfl⟩,rfl⟩
 ·obtain⟨k,hk,e⟩:=Vr c n hn;have E2:=aj e;clear e
  go_enter func7,ntmps7
  go_wp2_with fail
  go_ret
  exact⟨⟨k,hk,by rw[<-ah E2];rfl⟩,rfl⟩
def Gt:Nat->ByteArray
 |0=>⟨#[97]⟩
 |n+1=>⟨#[102,40]⟩++Gt n++⟨#[41]⟩
theorem Ey(a:Array UInt8):(⟨a⟩:ByteArray).size=a.size:=rfl
theorem oP:∀n,(Gt n).size=1+3*n
 |0=>by decide
 |n+1=>by
  have h:=oP n;unfold Gt;simp only[ByteArray.size_append,Ey];simp;omega
theorem times_any(w:World)(n:Nat)(hn:n<=5):Calls prog 8 #[.int .i64 n] w λe w'=>e=.returned (.string (Gt n))/\w'=w:=by
 go_enter func8,ntmps8
 go_wp2_with fail
 go_loop [3,4] (λsv iv=>∃i:Nat,i<=n/\iv=.int .i64 i/\sv=.string (Gt i)) (λ_ iv=>n-(intOf iv).toNat)
 case atStart=>exact⟨0,ah2 _,rfl,rfl⟩
 case round=>
  obtain⟨i,hi,rfl,rfl⟩:=hrel;by_cases hlt:i<n
  ·have hbi:(i:Int)<(n:Int):=(by omega);have hs1:=oP i;have hs3:(Gt i).size<=100:=(by omega);generalize hA:Gt i=sA at hs3;have HA:=aj hA;clear hA hs1
   go_wp2_with fail
   refine⟨⟨i+1,hlt,by go_num,by rw[<-ah HA];rfl⟩,by simp[intOf];omega⟩
  ·have hin:i=n:=(by omega);subst hin;have hbi:¬(i:Int)<(i:Int):=by omega
   go_wp2_with fail
   go_ret
   exact⟨rfl,rfl⟩
def chF(x y z:Nat):ByteArray:=⟨#[40,40]⟩++Gt x++⟨#[61,97,38]⟩++Gt y++⟨#[61,97,41,38,33]⟩++Gt z++⟨#[61,97,41]⟩
def jG(x y:Nat):Prop:=∀z:Fin 6,Gg (chF x y z.val)=if z.val%Nat.gcd x y=0 then 0 else 1
theorem ab5:jG 1 1:=by unfold jG;decide +kernel
theorem ab4:jG 1 2:=by unfold jG;decide +kernel
theorem ab3:jG 1 3:=by unfold jG;decide +kernel
theorem ab2:jG 1 4:=by unfold jG;decide +kernel
theorem ab1:jG 1 5:=by unfold jG;decide +kernel
theorem abZ:jG 2 1:=by unfold jG;decide +kernel
theorem abY:jG 2 2:=by unfold jG;decide +kernel
theorem abX:jG 2 3:=by unfold jG;decide +kernel
theorem abW:jG 2 4:=by unfold jG;decide +kernel
theorem abV:jG 2 5:=by unfold jG;decide +kernel
theorem abU:jG 3 1:=by unfold jG;decide +kernel
theorem abT:jG 3 2:=by unfold jG;decide +kernel
theorem abS:jG 3 3:=by unfold jG;decide +kernel
theorem abR:jG 3 4:=by unfold jG;decide +kernel
theorem abQ:jG 3 5:=by unfold jG;decide +kernel
theorem abP:jG 4 1:=by unfold jG;decide +kernel
theorem abO:jG 4 2:=by unfold jG;decide +kernel
theorem abN:jG 4 3:=by unfold jG;decide +kernel
theorem abM:jG 4 4:=by unfold jG;decide +kernel
theorem abL:jG 4 5:=by unfold jG;decide +kernel
theorem abK:jG 5 1:=by unfold jG;decide +kernel
theorem abJ:jG 5 2:=by unfold jG;decide +kernel
theorem abI:jG 5 3:=by unfold jG;decide +kernel
theorem abH:jG 5 4:=by unfold jG;decide +kernel
theorem abG:jG 5 5:=by unfold jG;decide +kernel
theorem NT(x y:Nat)(h1:x<5)(h2:y<5):jG (x+1) (y+1):=by
 have e1:x=0\/x=1\/x=2\/x=3\/x=4:=by omega
 have e2:y=0\/y=1\/y=2\/y=3\/y=4:=by omega
 rcases e1 with rfl|rfl|rfl|rfl|rfl
 ·rcases e2 with rfl|rfl|rfl|rfl|rfl
  ·exact ab5
  ·exact ab4
  ·exact ab3
  ·exact ab2
  ·exact ab1
 ·rcases e2 with rfl|rfl|rfl|rfl|rfl
  ·exact abZ
  ·exact abY
  ·exact abX
  ·exact abW
  ·exact abV
 ·rcases e2 with rfl|rfl|rfl|rfl|rfl
  ·exact abU
  ·exact abT
  ·exact abS
  ·exact abR
  ·exact abQ
 ·rcases e2 with rfl|rfl|rfl|rfl|rfl
  ·exact abP
  ·exact abO
  ·exact abN
  ·exact abM
  ·exact abL
 ·rcases e2 with rfl|rfl|rfl|rfl|rfl
  ·exact abK
  ·exact abJ
  ·exact abI
  ·exact abH
  ·exact abG
end
open aB (Key put Inv jR texts dY iM aQ dR gI Gu arg1 arg2 fin1 fin2 rU rdN SS AV JL isName au RT wZ RP RQ)
def xW(b:Nat)(x:Int):Int:=if 97<=x/\x<=101 then 97+(x-97+b)%5 else x
theorem BX{b:Nat}{x y:Int}(h:xW b x=xW b y):x=y:=by
 unfold xW at h;by_cases p:97<=x/\x<=101<;>by_cases q:97<=y/\y<=101
 ·rw[af6 p,af6 q]at h;omega
 ·rw[af6 p,af2 q]at h;omega
 ·rw[af2 p,af6 q]at h;omega
 ·rw[af2 p,af2 q]at h;exact h
theorem iV{b:Nat}{c:Int}(h:¬(97<=c/\c<=101)):xW b c=c:=by unfold xW;rw[af2 h]
theorem VU{b:Nat}{x c:Int}(h:¬(97<=c/\c<=101)):xW b x=c↔x=c:=by
 refine⟨λe=>BX (b:=b) (e.trans (iV h).symm),λe=>?_⟩;rw[e,iV h]
theorem Ol(b:Nat)(x:Int):isName (xW b x)=isName x:=by
 unfold xW isName;by_cases p:97<=x/\x<=101
 ·rw[af6 p];simp only[Bool.and_eq_decide]
  congr 1
  simp only[aj7,eq_iff_iff];omega
 ·rw[af2 p]
theorem KL(b:Nat)(x:Int):au (xW b x)=au x:=by
 unfold xW au;by_cases p:97<=x/\x<=101
 ·rw[af6 p];have h:∀c:Int,c<97\/c>101->(97+(x-97+b)%5==c)=(x==c):=λc hc=>by
   rw[Bool.eq_iff_iff,beq_iff_eq,beq_iff_eq];omega
  rw[h 38 (by omega),h 124 (by omega),h 62 (by omega),h 45 (by omega)]
 ·rw[af2 p]
def tk(b:Nat)(k:Key):Key:=(xW b k.1,k.2)
theorem Om{b:Nat}{k l:Key}(h:tk b k=tk b l):k=l:=by
 obtain⟨h1,h2⟩:=Prod.mk.inj h;exact Prod.ext (BX h1) h2
theorem PD{b:Nat}{l:List Key}{k:Key}:tk b k∈l.map (tk b)↔k∈l:=by
 rw[af9];exact⟨fun⟨x,h1,h2⟩=>Om h2▸h1,λh=>⟨k,h,rfl⟩⟩
theorem He(b:Nat)(l:List Key)(k:Key):put (l.map (tk b)) (tk b k)=(put l k).map (tk b):=by
 unfold aB.put;by_cases h:k∈l
 ·rw[af6 (by simpa using PD.2 h),af6 (by simpa using h)]
 ·rw[af2 (by intro q;exact h (PD.1 (by simpa using q))),af2 (by simpa using h)];simp
theorem Ii(b:Nat)(l:List Key)(k:Key):(l.map (tk b)).idxOf (tk b k)=l.idxOf k:=by
 induction l with
 |nil=>rfl
 |cons x l ih=>
  rw[ap8,List.idxOf_cons,List.idxOf_cons,ih];by_cases h:x=k
  ·subst h;simp
  ·have h':tk b x≠tk b k:=λq=>h (Om q);rw[an9.2 h,an9.2 h']
def mT(b:Nat):RT->RT
 |.error e=>.error e
 |.ok (a,ts,m)=>.ok (a,ts.map (tk b),m)
def mT2(b:Nat):wZ->wZ
 |.error e=>.error e
 |.ok (a,ts,m,n)=>.ok (a,ts.map (tk b),m,n)
def mP(b:Nat):RP->RP
 |.error e=>.error e
 |.ok (a,ts,cs,ps,m)=>.ok (a,ts.map (tk b),cs,ps,m)
def mQ(b:Nat):RQ->RQ
 |.error e=>.error e
 |.ok (a,ts,cs,ps,q)=>.ok (a,ts.map (tk b),cs,ps,q)
theorem uw(b:Nat)(r:RQ):rU (mQ b r)=mP b (rU r):=by
 rcases r with e|⟨a1,aF,cs1,ps1,q⟩<;>rfl
section
variable {b:Nat} {pk pk':Nat->Int} (hpk:∀a,pk' a=xW b (pk a))
include hpk
theorem lV{a:Nat}{c:Int}(h:¬(97<=c/\c<=101)):(pk' a=c)=(pk a=c):=by rw[hpk];exact propext (VU h)
theorem Gq{rec rec':Nat->Nat->List Key->RT}(hr:∀a d ts,rec' a d (ts.map (tk b))=mT b (rec a d ts))(a d:Nat)(ts:List Key):arg1 pk' rec' a d (ts.map (tk b))=mT b (arg1 pk rec a d ts):=by
 unfold arg1;simp only[lV hpk (c:=40) (by decide),lV hpk (c:=41) (by decide),hr];split
 ·split
  ·rfl
  ·rcases rec (a+1) (d+1) ts with e|⟨a1,aF,n1⟩
   ·rfl
   ·simp only[mT];split<;>rfl
 ·rfl
theorem Sm{rec rec':Nat->Nat->List Key->RT}(hr:∀a d ts,rec' a d (ts.map (tk b))=mT b (rec a d ts))(a d:Nat)(ts:List Key):arg2 pk' rec' a d (ts.map (tk b))=mT2 b (arg2 pk rec a d ts):=by
 unfold arg2;simp only[lV hpk (c:=40) (by decide),lV hpk (c:=41) (by decide),lV hpk (c:=44) (by decide),hr];split
 ·split
  ·rfl
  ·rcases rec (a+1) (d+1) ts with e|⟨a1,aF,n1⟩
   ·rfl
   ·simp only[mT,hr];split
    ·rcases rec (a1+1) (d+1) aF with e|⟨a2,ts2,n2⟩
     ·rfl
     ·simp only;split<;>rfl
    ·rfl
 ·rfl
theorem Cm:∀(n a d:Nat) (ts:List Key),dR pk' n a d (ts.map (tk b))=mT b (dR pk n a d ts):=by
 intro n
 induction n with
 |zero=>intro a d ts;rfl
 |succ n ih=>
  intro a d ts;unfold dR;simp only[lV hpk (c:=102) (by decide),lV hpk (c:=103) (by decide)];rw[hpk a,Ol];split
  ·show Except.ok _=Except.ok _
   have e:(xW b (pk a),0,0)=tk b (pk a,0,0):=rfl;rw[e,He,Ii]
  ·split
   ·rw[Gq hpk ih];rcases arg1 pk (dR pk n) (a+1) d ts with e|⟨a1,aF,n1⟩
    ·rfl
    ·show Except.ok _=Except.ok _
     have e:((102:Int),n1,0)=tk b (102,n1,0):=(by unfold tk;rw[iV (by show ¬(97<=(102:Int)/\(102:Int)<=101);decide)]);rw[e,He,Ii,<-e]
   ·split
    ·rw[Sm hpk ih];rcases arg2 pk (dR pk n) (a+1) d ts with e|⟨a1,aF,n1,n2⟩
     ·rfl
     ·show Except.ok _=Except.ok _
      have e:((103:Int),n1,n2)=tk b (103,n1,n2):=(by unfold tk;rw[iV (by show ¬(97<=(103:Int)/\(103:Int)<=101);decide)]);rw[e,He,Ii,<-e]
    ·rfl
theorem CB:∀(n a d:Nat) (ts:List Key) (cs:List (Int×Nat)) (ps:List Key),gI pk' n a d (ts.map (tk b)) cs ps=mP b (gI pk n a d ts cs ps):=by
 intro n
 induction n with
 |zero=>intro a d ts cs ps;rfl
 |succ n ih=>
  intro a d ts cs ps;unfold gI;simp only[lV hpk (c:=33) (by decide),lV hpk (c:=40) (by decide),lV hpk (c:=80) (by decide),lV hpk (c:=81) (by decide)];split
  ·rw[<-uw,ih]
   congr 1
   rcases gI pk n (a+1) d ts cs ps with e|⟨a1,aF,cs1,ps1,m⟩<;>rfl
  ·split
   ·rw[<-uw]
    congr 1
    unfold JL;simp only[lV hpk (c:=41) (by decide),ih];split
    ·rfl
    ·rcases gI pk n (a+1) (d+1) ts cs ps with e|⟨a1,aF,cs1,ps1,m1⟩
     ·rfl
     ·simp only[mP,ih];rw[hpk a1,KL];split
      ·rename_i hj;rcases gI pk n (a1+1) (d+1) aF cs1 ps1 with e|⟨a2,ts2,cs2,ps2,m2⟩
       ·rfl
       ·have e:xW b (pk a1)=pk a1:=iV (λq=>by
         rw[au]at hj;simp at hj;omega)
        simp only[e];split<;>rfl
      ·rfl
   ·split
    ·rename_i h8;rw[<-uw]
     congr 1
     have e:xW b (pk a)=pk a:=iV (by omega);unfold SS;rw[Gq hpk (Cm hpk (n+1)),hpk a,e];rcases arg1 pk (dR pk (n+1)) (a+1) d ts with e|⟨a1,aF,n1⟩<;>rfl
    ·rw[<-uw]
     congr 1
     unfold AV;simp only[lV hpk (c:=61) (by decide),Cm hpk];rcases dR pk (n+1) a d ts with e|⟨a1,aF,m1⟩
     ·rfl
     ·simp only[mT,Cm hpk];split
      ·rcases dR pk (n+1) (a1+1) d aF with e|⟨a2,ts2,m2⟩<;>rfl
      ·rfl
theorem NS(N:Nat):aB.check pk' N=aB.check pk N:=by
 have h:=CB hpk (N+1) 0 0 [] [] [];rw[List.map_nil]at h;unfold aB.check;rw[<-aB.jv pk',<-aB.jv pk,h];rcases gI pk (N+1) 0 0 [] [] []with e|⟨a1,aF,cs1,ps1,m⟩
 ·rfl
 ·show(if a1<N then _ else if 7<(aF.map (tk b)).length\/_ then _ else _)=_
  rw[ai8];rfl
end
theorem Kv(b:Nat)(f:Nat->Nat)(ts:List Key):qh f (ts.map (tk b))↔qh f ts:=by
 rw[iG,iG];constructor
 ·intro h i j hi hj e1 e2 e3;refine h i j (by simpa using hi) (by simpa using hj) ?_ ?_ ?_
  ·simp only[ak0,tk,e1]
  ·simp only[ak0,tk];exact e2
  ·simp only[ak0,tk];exact e3
 ·intro h i j hi hj e1 e2 e3;simp only[ai8]at hi hj;simp only[ak0,tk]at e1 e2 e3;exact h i j hi hj (BX e1) e2 e3
theorem Wn{b:Nat}{f:Nat->Nat}{ts:List Key}{cs:List (Int×Nat)}{ps:List Key}{hl:List Bool}(h:xP f ts cs ps hl):xP f (ts.map (tk b)) cs ps hl:=
 ⟨(Kv b f ts).2 h.DI,h.Ya,by rw[ai8];exact h.X7⟩
theorem U7(b:Nat)(ts:List Key)(cs:List (Int×Nat))(ps:List Key):qR (ts.map (tk b)) cs ps=qR ts cs ps:=by
 unfold qR;rw[ai8];refine VW (λr _=>?_) _;have h:=Kv b (fi r) ts;unfold qh at h;unfold rX;by_cases q:∀p∈aO (mkd (fi r) ts) ts.length,fi r p.1=fi r p.2
 ·rw[af6 q,af6 (h.2 q)]
 ·rw[af2 q,af2 (λz=>q (h.1 z))]
def rb(b:Nat)(c:UInt8):UInt8:=UInt8.ofNat (xW b c.toNat).toNat
theorem Wh(b:Nat)(c:UInt8):((rb b c).toNat:Int)=xW b c.toNat:=by
 have h:0<=xW b c.toNat/\xW b c.toNat<=255:=by
  have:=c.toNat_lt;unfold xW;by_cases p:97<=(c.toNat:Int)/\(c.toNat:Int)<=101
  ·rw[af6 p];omega
  ·rw[af2 p];omega
 unfold rb;simp;omega
def D9(b:Nat)(s:ByteArray):ByteArray:=⟨(s.data.toList.map (rb b)).toArray⟩
theorem kC(b:Nat)(s:ByteArray):(D9 b s).size=s.size:=by
 show(s.data.toList.map (rb b)).toArray.size=s.size
 simp
theorem GY(b:Nat)(s:ByteArray)(a:Nat):pk (D9 b s) a=xW b (pk s a):=by
 unfold pk;by_cases h:a<s.size
 ·rw[dif_pos h,dif_pos (by rw[kC];exact h),<-Wh]
  congr 2
  simp[D9,am0]
 ·rw[dif_neg h,dif_neg (by rw[kC];exact h),iV (by decide)]
theorem JK(b:Nat)(s:ByteArray):chk (D9 b s)=chk s:=by
 unfold chk;rw[kC,NS (GY b s)]
theorem TF(b:Nat)(s:ByteArray){a:Nat}{ts:List Key}{cs:List (Int×Nat)}{ps:List Key}{m:Nat}(h:gI (pk s) (s.size+1) 0 0 [] [] []=.ok (a,ts,cs,ps,m)):gI (pk (D9 b s)) ((D9 b s).size+1) 0 0 [] [] []=.ok (a,ts.map (tk b),cs,ps,m):=by
 have q:=CB (GY b s) (s.size+1) 0 0 [] [] [];rw[List.map_nil,h]at q;rw[kC];exact q
theorem TG(b:Nat)(s:ByteArray):zW (D9 b s)=zW s:=by
 unfold zW;rw[kC,JK];have q:=CB (GY b s) (s.size+1) 0 0 [] [] [];rw[List.map_nil]at q;rw[q];rcases gI (pk s) (s.size+1) 0 0 [] [] []with e|⟨a1,aF,cs1,ps1,m⟩
 ·rfl
 ·show(if _ then(((qR (aF.map (tk b)) cs1 ps1:Nat):Int),(0:Int))else _)=_
  rw[U7]
end Go.Proofs.YthcppbmkacbbiabGreat
