import Derived.Test.YthcppbmkacbbiaaGreatYBW
import Derived.SizedLaws
set_option linter.unusedSimpArgs false
set_option maxHeartbeats 4000000
set_option maxRecDepth 100000
namespace Go.Proofs.YthcppbmkacbbiaaGreat
open Go.Proofs.Tryz
section
open Go.RowKit Go.Maps Go.WideMaps
open aB (Key put dM au isAtom cnt aT fH)
attribute [local go_sem] Oper.semAt_some
theorem FF.of{s:ByteArray}{ts:List Key}{cs:List (Int×Nat)}{ps:List Key}{m:Nat}(hs:s.size<=100)(hR:aB.iQ (pk s) (s.size+1) 0 0 [] [] []=.ok (s.size,ts,cs,ps,m))(h7:ts.length<=7)(h4:cs.length<=4)(hi:aB.Inv ts)(hic:aB.jJ ts cs)(kR:aT ts.length cs.length ps)(hp0:0<ps.length)(hp:ps.length<=100):FF ts cs ps:=by
 have hz:=aB.NJ (pk:=pk s) (N:=s.size) (λa h=>bQ h) (s.size+1) 0 0 [] [] [] (by omega);rw[hR]at hz;obtain⟨_,z1,z2,z3⟩:=hz;have e1:cnt au []=0:=rfl;have e2:cnt isAtom []=0:=rfl;have hk:fH cs ps:=z3 ⟨λq hq=>by(cases hq),λc h=>absurd h (by simp)⟩;refine⟨h7,Ak hic kR hp0,h4,hp0,hp,hi,kR,hk,λi hi'=>?_,λx hx=>hic x hx,by omega,by omega⟩;have hkey:=hi.key i hi';rcases hkey with⟨_,_,h3,h4⟩|⟨_,h2,h3⟩|⟨_,h2,h3⟩<;>omega
theorem Iu(w:World)(GT GC GP:Nat)(ts:List Key)(cs:List (Int×Nat))(ps:List Key)(tape:ByteArray)(way:Int)(hw:way=0\/way=1)(hF:FF ts cs ps)(hd:wV tape.data.toList)(h60:tape.size<=60)(hrt:bZ w GT ts)(hrc:eU w GC cs)(hrp:bZ w GP ps) :
  Calls prog 33 #[fv GT GC GP ts.length cs.length ps.length,.int .i64 way,.string tape] w λe w'=>Dz ts cs ps e/\Below w.heap.size w w':=by
 have hb0:∀o,Below w.heap.size w (w.alloc o):=λo=>(ae1 _ w).alloc (SH _) _;have H0:=aj (λo=>wQ (w.alloc o) GT GC GP ts cs ps tape hF hd h60 (hrt.below (hb0 o) hrt.1) (hrc.below (hb0 o) hrc.1) (hrp.below (hb0 o) hrp.1));have H1:=aj (λo=>wR (w.alloc o) GT GC GP ts cs ps tape hF hd h60 (hrt.below (hb0 o) hrt.1) (hrc.below (hb0 o) hrc.1) (hrp.below (hb0 o) hrp.1));have hR:Hid (∀o e w',Dz ts cs ps e/\Below (w.alloc o).heap.size (w.alloc o) w'->∃(b:Bool) (m:ByteArray),e=.returned (.tuple #[.bool b,.string m])/\Dz ts cs ps (.returned (.tuple #[.bool b,.string m]))/\Below w.heap.size w w'):=λo e w' ⟨h,hb⟩=>by
  have hb2:Below w.heap.size w w':=(hb0 o).trans (hb.mono (by simp));rcases id h with⟨rfl,_⟩|⟨f,hl,_,_,rfl⟩
  ·exact⟨_,_,rfl,h,hb2⟩
  ·exact⟨_,_,rfl,h,hb2⟩
 clear hF hd hrt hrc hrp hb0;generalize Dz ts cs ps=DE at H0 H1 hR ⊢;unfold fv at H0 H1 ⊢;rcases hw with rfl|rfl
 ·go_enter func33,ntmps33
  go_wp2_with fail
  refine(ah H0 _).mono ?_;intro e w1 h;obtain⟨b,m,rfl,h1,h2⟩:=ah hR _ e w1 h;have Q1:=aj h1;have Q2:=aj h2;clear h h1 h2
  go_wp2_with fail
  exact ad8 (v:=.tuple #[.bool b,.string m]) (by simp[results,results33,go_sem]) rfl ⟨ah Q1,ah Q2⟩
 ·go_enter func33,ntmps33
  go_wp2_with fail
  refine(ah H1 _).mono ?_;intro e w1 h;obtain⟨b,m,rfl,h1,h2⟩:=ah hR _ e w1 h;have Q1:=aj h1;have Q2:=aj h2;clear h h1 h2
  go_wp2_with fail
  exact ad8 (v:=.tuple #[.bool b,.string m]) (by simp[results,results33,go_sem]) rfl ⟨ah Q1,ah Q2⟩
theorem C9{t:ByteArray}(h:dJ t=false):wV t.data.toList/\t.size<=60:=by
 unfold dJ at h;simp only[Bool.or_eq_false_iff,decide_eq_false_iff_not,List.any_eq_false]at h;refine⟨λc hc=>?_,by omega⟩;have:=h.2 c hc;unfold lZ at this;simp at this;omega
theorem zI(w:World)(s tape:ByteArray)(way:Int)(hm:s.size<=maxLen)(hE:(chk s).1≠0) :
  Calls prog 23 #[.string s,.int .i64 way,.string tape] w λe w'=>e=.returned (.tuple #[.bool false,.string ⟨#[]⟩,.int .i64 (chk s).1])/\Below w.heap.size w w':=by
 have HR:=aj (λw=>xX w s hm);generalize chk s=c at HR hE;have hb:(c.1 != 0)=true:=by simpa using hE
 go_enter func23,ntmps23
 go_wp2_with fail
 refine((ah HR) _).mono ?_;rintro e w1 ⟨⟨p0,n0,c0,p1,n1,c1,p2,n2,c2,rfl⟩,h1⟩;have HH:=aj h1;clear h1
 go_wp2_with fail
 exact ad8 (v:=.tuple #[.bool false,.string ⟨#[]⟩,.int .i64 c.1]) (by simp[results,results23,go_sem]) rfl ⟨rfl,(ah HH).alloc (ah HH).size _⟩
theorem zH(w:World)(s tape:ByteArray)(way:Int)(hs:s.size<=100)(ts:List Key)(cs:List (Int×Nat))(ps:List Key)(mm:Nat)(HR:aB.iQ (pk s) (s.size+1) 0 0 [] [] []=.ok (s.size,ts,cs,ps,mm))(hF:FF ts cs ps)(hic:aB.jJ ts cs)(hnd:cs.Nodup)(DT:Ending->Prop)
 (h5:¬(way=0\/way=1)->DT (.returned (.tuple #[.bool false,.string ⟨#[]⟩,.int .i64 5])))(h7:(way=0\/way=1)->dJ tape=true->DT (.returned (.tuple #[.bool false,.string ⟨#[]⟩,.int .i64 7])))
 (hno:(way=0\/way=1)->dJ tape=false->(¬∃f hl,hl.length=cs.length/\Ah f ts cs ps hl)->DT (.returned (.tuple #[.bool false,.string ⟨#[]⟩,.int .i64 0])))
 (hyes:(way=0\/way=1)->dJ tape=false->∀f hl,hl.length=cs.length->Ah f ts cs ps hl->DT (.returned (.tuple #[.bool true,.string ⟨(wrt f ts.length hl).toArray⟩,.int .i64 0]))) :
  Calls prog 23 #[.string s,.int .i64 way,.string tape] w λe w'=>DT e/\Below w.heap.size w w':=by
 have HO:=aj (mY w s hs ts cs ps mm HR hF.h7 hF.h4 hF.inv hic hnd hF.kR hF.hp);have HDT:Hid (∀e,Dz ts cs ps e->(way=0\/way=1)->dJ tape=false->∃(b:Bool) (m:ByteArray),e=.returned (.tuple #[.bool b,.string m])/\DT (.returned (.tuple #[.bool b,.string m,.int .i64 0]))):=λe h hw ht=>by
  rcases h with⟨rfl,h⟩|⟨f,hl,h1,h2,rfl⟩
  ·exact⟨_,_,rfl,hno hw ht h⟩
  ·exact⟨_,_,rfl,hyes hw ht f hl h1 h2⟩
 have HFV:=aj h5;have HSV:=aj h7;have HTP:=aj (λw=>GR w tape);have HDG:Hid (dJ tape=false->wV tape.data.toList/\tape.size<=60):=λh=>C9 h;have HDE:Hid (∀W GT GC GP,(way=0\/way=1)->dJ tape=false->bZ W GT ts->eU W GC cs->bZ W GP ps->Calls prog 33 #[fv GT GC GP ts.length cs.length ps.length,.int .i64 way,.string tape] W λe w'=>Dz ts cs ps e/\Below W.heap.size W w'):=λW GT GC GP hw ht h1 h2 h3=>
  Iu W GT GC GP ts cs ps tape way hw hF (C9 ht).1 (C9 ht).2 h1 h2 h3
 generalize Dz ts cs ps=DE at HDT HDE;clear hF hic HR hnd h5 h7 hno hyes;unfold fv at HO HDE;generalize dJ tape=nt at HDT HSV HTP HDG HDE
 go_enter func23,ntmps23
 go_wp2_with fail
 refine(ah HO).mono ?_;rintro e w1 ⟨GT,GC,GP,rfl,h1,hfr⟩;have M1:=aj (qg hfr.t);have M2:=aj (BI hfr.c);have M3:=aj (qg hfr.p);have HH1:=aj h1;clear HO hfr h1;by_cases hw:way=0\/way=1
 ·have hwb:¬(way≠0/\way≠1):=by omega
  have hwc:((way != 0)&&(way != 1))=false:=by rcases hw with rfl|rfl<;>rfl
  obtain⟨w2,hw2⟩:∃w2,w1.alloc (.cells #[.slice (some ⟨GT,0,none⟩) ts.length ts.length,.slice (some ⟨GC,0,none⟩) cs.length cs.length,.slice (some ⟨GP,0,none⟩) ps.length ps.length] 54)=w2:=⟨_,rfl⟩;have hb2:Below w1.heap.size w1 w2:=by rw[<-hw2];exact(ae1 _ w1).alloc (SH _) _
  have hx2:w2.heap[w1.heap.size]?=some (.cells #[.slice (some ⟨GT,0,none⟩) ts.length ts.length,.slice (some ⟨GC,0,none⟩) cs.length cs.length,.slice (some ⟨GP,0,none⟩) ps.length ps.length] 54 (0,0)):=by rw[<-hw2];exact ac3 _ _
  have HB2:=aj hb2;have HX2:=aj hx2;have HW:=aj hw;have Ue:=aj (ah HTP w2);clear hb2 hx2 hwb hwc;cases nt
  ·have main:∀W,way=W->(W=0\/W=1)->True:=λ_ _ _=>trivial;rcases hw with rfl|rfl
   ·go_wp2_with fail
    refine(ah Ue).mono ?_;rintro e w3 ⟨rfl,h3⟩;have hx3:=(h3.block _ (Js.1 (ah HX2)).1).trans (ah HX2);have q0:w3.cell? ⟨w1.heap.size,0,none⟩=some (.slice (some ⟨GT,0,none⟩) ts.length ts.length):=(by rw[cell_of hx3];rfl);have q1:w3.cell? ⟨w1.heap.size,1,none⟩=some (.slice (some ⟨GC,0,none⟩) cs.length cs.length):=(by rw[cell_of hx3];rfl);have q2:w3.cell? ⟨w1.heap.size,2,none⟩=some (.slice (some ⟨GP,0,none⟩) ps.length ps.length):=(by rw[cell_of hx3];rfl);have hb13:Below w1.heap.size w1 w3:=(ah HB2).trans (h3.mono (ah HB2).size);have hde:=ah HDE w3 GT GC GP (ah HW) (by trivial) ((ah M1).below hb13 (ah M1).1) ((ah M2).below hb13 (ah M2).1) ((ah M3).below hb13 (ah M3).1);have HB3:=aj ((ah HH1).trans (hb13.mono (ah HH1).size));clear hx3 h3 hb13 hw2
    go_wp2_with fail
    refine hde.mono ?_;intro e w4 h;obtain⟨b,m,rfl,hdt⟩:=ah HDT e h.1 (ah HW) (by trivial);have HB4:=aj ((ah HB3).trans (h.2.mono (ah HB3).size));have HQ:=aj hdt;clear h hdt hde q0 q1 q2
    go_wp2_with fail
    exact ad8 (v:=.tuple #[.bool b,.string m,.int .i64 0]) (by simp[results,results23,go_sem]) rfl ⟨ah HQ,ah HB4⟩
   ·go_wp2_with fail
    refine(ah Ue).mono ?_;rintro e w3 ⟨rfl,h3⟩;have hx3:=(h3.block _ (Js.1 (ah HX2)).1).trans (ah HX2);have q0:w3.cell? ⟨w1.heap.size,0,none⟩=some (.slice (some ⟨GT,0,none⟩) ts.length ts.length):=(by rw[cell_of hx3];rfl);have q1:w3.cell? ⟨w1.heap.size,1,none⟩=some (.slice (some ⟨GC,0,none⟩) cs.length cs.length):=(by rw[cell_of hx3];rfl);have q2:w3.cell? ⟨w1.heap.size,2,none⟩=some (.slice (some ⟨GP,0,none⟩) ps.length ps.length):=(by rw[cell_of hx3];rfl);have hb13:Below w1.heap.size w1 w3:=(ah HB2).trans (h3.mono (ah HB2).size);have hde:=ah HDE w3 GT GC GP (ah HW) (by trivial) ((ah M1).below hb13 (ah M1).1) ((ah M2).below hb13 (ah M2).1) ((ah M3).below hb13 (ah M3).1);have HB3:=aj ((ah HH1).trans (hb13.mono (ah HH1).size));clear hx3 h3 hb13 hw2
    go_wp2_with fail
    refine hde.mono ?_;intro e w4 h;obtain⟨b,m,rfl,hdt⟩:=ah HDT e h.1 (ah HW) (by trivial);have HB4:=aj ((ah HB3).trans (h.2.mono (ah HB3).size));have HQ:=aj hdt;clear h hdt hde q0 q1 q2
    go_wp2_with fail
    exact ad8 (v:=.tuple #[.bool b,.string m,.int .i64 0]) (by simp[results,results23,go_sem]) rfl ⟨ah HQ,ah HB4⟩
  ·rcases hw with rfl|rfl
   ·go_wp2_with fail
    refine(ah Ue).mono ?_;rintro e w3 ⟨rfl,h3⟩;have hb13:Below w1.heap.size w1 w3:=(ah HB2).trans (h3.mono (ah HB2).size);have HB3:=aj ((ah HH1).trans (hb13.mono (ah HH1).size));clear h3 hb13 hw2
    go_wp2_with fail
    exact ad8 (v:=.tuple #[.bool false,.string ⟨#[]⟩,.int .i64 7]) (by simp[results,results23,go_sem]) rfl ⟨ah HSV (ah HW) (by trivial),ah HB3⟩
   ·go_wp2_with fail
    refine(ah Ue).mono ?_;rintro e w3 ⟨rfl,h3⟩;have hb13:Below w1.heap.size w1 w3:=(ah HB2).trans (h3.mono (ah HB2).size);have HB3:=aj ((ah HH1).trans (hb13.mono (ah HH1).size));clear h3 hb13 hw2
    go_wp2_with fail
    exact ad8 (v:=.tuple #[.bool false,.string ⟨#[]⟩,.int .i64 7]) (by simp[results,results23,go_sem]) rfl ⟨ah HSV (ah HW) (by trivial),ah HB3⟩
 ·have h0:¬way=0:=λe=>hw (Or.inl e);have h1:¬way=1:=λe=>hw (Or.inr e);have hb0:(way != 0)=true:=by simpa using h0
  have hb1:(way != 1)=true:=by simpa using h1
  have HW:=aj hw;clear hw h0 h1
  go_wp2_with fail
  exact ad8 (v:=.tuple #[.bool false,.string ⟨#[]⟩,.int .i64 5]) (by simp[results,results23,go_sem]) rfl ⟨ah HFV (ah HW),(ah HH1).alloc (ah HH1).size _⟩
end
section
open Go.RowKit Go.Maps Go.WideMaps
open aB (Key put dM au isAtom cnt aT fH)
def Lh(s:ByteArray):Int×Int:=
 if s.size<=100/\(chk s).1=0 then
  match aB.iQ (pk s) (s.size+1) 0 0 [] [] []with
  |.ok (_,ts,cs,ps,_)=>(((wU ts cs ps:Nat):Int),0)
  |.error _=>(0,0)
 else(0,(chk s).1)
theorem BZ{s:ByteArray}(h:s.size<=100/\(chk s).1=0){ts:List Key}{cs:List (Int×Nat)}{ps:List Key}{m:Nat}(h1:aB.iQ (pk s) (s.size+1) 0 0 [] [] []=.ok (s.size,ts,cs,ps,m)):Lh s=(((wU ts cs ps:Nat):Int),0):=by
 unfold Lh;rw[ac8 h,h1]
theorem sZ{s:ByteArray}(h:¬(s.size<=100/\(chk s).1=0)):Lh s=(0,(chk s).1):=by
 unfold Lh;rw[ac5 h]
theorem OQ(w:World)(s:ByteArray)(hm:s.size<=maxLen) :
  Calls prog 20 #[.string s] w λe w'=>e=.returned (.tuple #[.int .i64 (Lh s).1,.int .i64 (Lh s).2])/\Below w.heap.size w w':=by
 by_cases h:s.size<=100/\(chk s).1=0
 ·obtain⟨ts,cs,ps,h1,h2,h3,h4,h5,h6,h7,h8,h9,h10,h11,h12⟩:=jB s h.1 h.2;have h0:0<ts.length:=Ak h5 h10 h11;have g:=Qq w s h.1 ts cs ps _ h1 h0 h2 h3 h4 h5 h9 h10 h11 h12 (λx hx=>h5 x hx);rw[BZ h h1];exact g
 ·rw[sZ h];exact MO w s hm (uo h)
def zJ(s:ByteArray):Int:=if (Lh s).2=0 then(if (Lh s).1=0 then 0 else 1)else -1
def DK(ts:List Key)(cs:List (Int×Nat))(ps:List Key)(e:Ending):Prop:=
 (e=.returned (.tuple #[.bool false,.string ⟨#[]⟩,.int .i64 0])/\wU ts cs ps=0)\/
 ∃f hl,hl.length=cs.length/\Ah f ts cs ps hl/\e=.returned (.tuple #[.bool true,.string ⟨(wrt f ts.length hl).toArray⟩,.int .i64 0])/\wU ts cs ps≠0
theorem JE(w:World)(s t:ByteArray)(way:Int)(hm:s.size<=maxLen)(hw:way=0\/way=1)(ht:dJ t=false) :
  Calls prog 24 #[.string s,.int .i64 way,.string t] w λe w'=>e=.returned (.int .i64 (zJ s))/\Below w.heap.size w w':=by
 by_cases h:s.size<=100/\(chk s).1=0
 ·obtain⟨ts,cs,ps,h1,h2,h3,h4,h5,h6,h7,h8,h9,h10,h11,h12⟩:=jB s h.1 h.2;have hF:=FF.of h.1 h1 h2 h3 h4 h5 h10 h11 h12;have hcm:=IC h3 h10 hF.ht hF.hcs;have hk:=BZ h h1;have HD:Hid (Calls prog 23 #[.string s,.int .i64 way,.string t] w λe w'=>DK ts cs ps e/\Below w.heap.size w w'):=by
   refine zH w s t way h.1 ts cs ps _ h1 hF h5 h9 (DK ts cs ps) (λq=>absurd hw q) (λ_ q=>absurd (ht.symm.trans q) (by decide)) (λ_ _ q=>Or.inl ⟨rfl,?_⟩) (λ_ _ f hl q1 q2=>Or.inr ⟨f,hl,q1,q2,rfl,hcm.2 ⟨f,hl,q1,q2⟩⟩);exact ae9 λe=>q (hcm.1 e)
  have HH:Hid (∀W f hl,hl.length=cs.length->Ah f ts cs ps hl->Calls prog 34 #[.string s,.string ⟨(wrt f ts.length hl).toArray⟩] W λe w'=>e=.returned (.tuple #[.bool true,.int .i64 0])/\Below W.heap.size W w'):=λW f hl q1 q2=>by
   have g:=O5 W s ⟨(wrt f ts.length hl).toArray⟩ (WV ⟨(wrt f ts.length hl).toArray⟩ ts.length) h.1 ts cs ps _ h1 h2 h3 h4 h5 h9 h10 h11 h12 (λx hx=>h5 x hx) (λhe=>Qh _ ts.length cs.length he);rw[Q9 h2 h10 hF.ht hF.hcs q1 q2]at g;exact g
  have H0:Hid (wU ts cs ps=0->zJ s=0):=λq=>by unfold zJ;rw[hk];simp[q]
  have H1:Hid (wU ts cs ps≠0->zJ s=1):=λq=>by unfold zJ;rw[hk];simp[q]
  clear hF hcm hk h1 h2 h3 h4 h5 h6 h7 h8 h9 h10 h11 h12 h hm ht hw;generalize zJ s=v at H0 H1;unfold DK at HD
  go_enter func24,ntmps24
  go_wp2_with fail
  refine(ah HD).mono ?_;rintro e w1 ⟨⟨rfl,q⟩|⟨f,hl,q1,q2,rfl,q⟩,b1⟩
  ·have hv:=ah H0 q;subst hv
   go_wp2_with fail
   go_ret
   exact⟨rfl,b1⟩
  ·have hv:=ah H1 q;subst hv;have g:=ah HH w1 f hl q1 q2;generalize (wrt f ts.length hl).toArray=m at g ⊢
   go_wp2_with fail
   refine g.mono ?_;rintro e w2 ⟨rfl,b2⟩
   go_wp2_with fail
   go_ret
   exact⟨rfl,b1.trans (b2.mono b1.size)⟩
 ·have hE:=uo h;have hv:zJ s = -1:=by unfold zJ;rw[sZ h];simp[hE]
  rw[hv];have HD:=aj (zI w s t way hm hE);generalize (chk s).1=E at HD hE;have hb:(E != 0)=true:=by simpa using hE
  go_enter func24,ntmps24
  go_wp2_with fail
  refine(ah HD).mono ?_;rintro e w1 ⟨rfl,b1⟩
  go_wp2_with fail
  go_ret
  exact⟨rfl,b1⟩
end
section
open Go.RowKit
theorem Y6:zJ ⟨#[40,102,40,102,40,97,41,41,61,97,38,33,102,40,97,41,61,97,41]⟩=1:=by kernel_rfl
theorem Y5:zJ ⟨#[33,97,61,98]⟩=1:=by kernel_rfl
theorem Y4:zJ ⟨#[40,80,40,97,41,38,33,80,40,98,41,41]⟩=1:=by kernel_rfl
theorem Y3:zJ ⟨#[40,97,61,98,38,33,102,40,97,41,61,102,40,98,41,41]⟩=0:=by kernel_rfl
theorem Y2:zJ ⟨#[40,80,40,97,41,38,40,33,80,40,98,41,38,97,61,98,41,41]⟩=0:=by kernel_rfl
theorem Y1:zJ ⟨#[40,102,40,102,40,102,40,97,41,41,41,61,97,38,40,102,40,102,40,97,41,41,61,97,38,33,102,40,97,41,61,97,41,41]⟩=0:=by kernel_rfl
theorem vJ(s t:ByteArray){v:Int}(hv:zJ s=v)(hm:s.size<=maxLen)(ht:dJ t=false)(w:World)(way:Int)(hw:way=0\/way=1) :
  Calls prog 24 #[.string s,.int .i64 way,.string t] w λe w'=>e=.returned (.int .i64 v)/\Below w.heap.size w w':=by
 subst hv;exact JE w s t way hm hw ht
theorem Nb(w:World):Calls prog 22 #[] w λe w'=>e=.returned (.bool true)/\Below w.heap.size w w':=by
 have H1:=aj (vJ _ ⟨#[]⟩ Y6 (by decide) (by decide));have H2:=aj (vJ _ ⟨#[55]⟩ Y5 (by decide) (by decide));have H3:=aj (vJ _ ⟨#[57,49]⟩ Y4 (by decide) (by decide));have H4:=aj (vJ _ ⟨#[]⟩ Y3 (by decide) (by decide));have H5:=aj (vJ _ ⟨#[51]⟩ Y2 (by decide) (by decide));have H6:=aj (vJ _ ⟨#[49,57]⟩ Y1 (by decide) (by decide))
 go_enter func22,ntmps22
 go_wp2_with fail
 go_loopw [1] (λiv wr=>∃k:Nat,k<=2/\iv=.int .i64 k/\Below w.heap.size w wr) (λiv wr=>2-(intOf iv).toNat)
 case atStart=>exact⟨0,by omega,rfl,ae1 _ _⟩
 case round=>
  obtain⟨k,hk,rfl,hb⟩:=hrel;by_cases hlt:k<2
  ·have hbk:(k:Int)<2:=(by omega);have hw:(k:Int)=0\/(k:Int)=1:=by omega
   go_wp2_with fail
   refine(ah H1 wr k hw).mono ?_;rintro e w1 ⟨rfl,b1⟩;replace b1:=hb.trans (b1.mono hb.size)
   go_wp2_with fail
   refine(ah H2 w1 k hw).mono ?_;rintro e w2 ⟨rfl,b2⟩;replace b2:=b1.trans (b2.mono b1.size)
   go_wp2_with fail
   refine(ah H3 w2 k hw).mono ?_;rintro e w3 ⟨rfl,b3⟩;replace b3:=b2.trans (b3.mono b2.size)
   go_wp2_with fail
   refine(ah H4 w3 k hw).mono ?_;rintro e w4 ⟨rfl,b4⟩;replace b4:=b3.trans (b4.mono b3.size)
   go_wp2_with fail
   refine(ah H5 w4 k hw).mono ?_;rintro e w5 ⟨rfl,b5⟩;replace b5:=b4.trans (b5.mono b4.size)
   go_wp2_with fail
   refine(ah H6 w5 k hw).mono ?_;rintro e w6 ⟨rfl,b6⟩;replace b6:=b5.trans (b6.mono b5.size)
   go_wp2_with fail
   exact⟨⟨k+1,by omega,by go_num,b6⟩,by simp[intOf];omega⟩
  ·have hbk:¬(k:Int)<2:=by omega
   go_wp2_with fail
   exact ad8 (v:=.bool true) (by simp[results,results22,go_sem]) rfl ⟨rfl,hb⟩
end
open Go.ChangeShapes Go.WideShapes Go.ChangeAt Go.RowKit
open Go.ChangeMaps (open_string shut_string)
theorem told(s:ByteArray):(∃E,E≠0/\(chk s).1=E/\Lh s=(0,E)/\zJ s = -1)\/((chk s).1=0/\Lh s=(0,0)/\zJ s=0)\/∃n:Int,0<n/\(chk s).1=0/\Lh s=(n,0)/\zJ s=1:=by
 by_cases h:s.size<=100/\(chk s).1=0
 ·obtain⟨ts,cs,ps,h1,_⟩:=jB s h.1 h.2;have hk:=BZ h h1;by_cases h0:wU ts cs ps=0
  ·rw[h0]at hk;exact Or.inr (Or.inl ⟨h.2,hk,by unfold zJ;rw[hk];rfl⟩)
  ·refine Or.inr (Or.inr ⟨((wU ts cs ps:Nat):Int),by omega,h.2,hk,?_⟩);unfold zJ;rw[hk];simp[h0]
 ·have hE:=uo h;exact Or.inl ⟨_,hE,rfl,sZ h,by unfold zJ;rw[sZ h];simp[hE]⟩
theorem TM(w:World)(s:ByteArray)(hm:s.size<=maxLen) :
  Calls prog 23 #[.string s,.int .i64 0,.string ⟨#[]⟩] w λe w'=>(∃b m,e=.returned (.tuple #[.bool b,.string m,.int .i64 (Lh s).2]))/\Below w.heap.size w w':=by
 by_cases h:s.size<=100/\(chk s).1=0
 ·obtain⟨ts,cs,ps,h1,h2,h3,h4,h5,h6,h7,h8,h9,h10,h11,h12⟩:=jB s h.1 h.2;have hF:=FF.of h.1 h1 h2 h3 h4 h5 h10 h11 h12;rw[BZ h h1];exact zH w s ⟨#[]⟩ 0 h.1 ts cs ps _ h1 hF h5 h9 (λe=>∃b m,e=.returned (.tuple #[.bool b,.string m,.int .i64 0])) (λq=>absurd (Or.inl rfl) q) (λ_ q=>absurd q (by decide)) (λ_ _ _=>⟨_,_,rfl⟩) (λ_ _ f hl _ _=>⟨_,_,rfl⟩)
 ·rw[sZ h];refine(zI w s ⟨#[]⟩ 0 hm (uo h)).mono ?_;rintro e w' ⟨rfl,hb⟩;exact⟨⟨_,_,rfl⟩,hb⟩
theorem bK{b:Nat}{w w1 w2:World}(h:Below b w w1)(g:Below w1.heap.size w1 w2)(hb:b<=w.heap.size):Below b w w2:=h.trans (g.mono (ac9 hb h.size))
theorem agree_walk(w:World)(s p q:ByteArray)(hs:s.size<=maxLen) :
  Calls prog 11 #[.string s,.string p,.string q] w λe w'=>e=.returned (.bool true)/\Below w.heap.size w w':=by
 have H0:=aj Nb;have H1:=aj (λw=>check_any w s hs);have H2:=aj (λw=>OQ w s hs);have H3:=aj (λw=>TM w s hs);have H4:=aj (λw t way hw ht=>JE w s t way hs hw ht);have H5:=aj (λw=>AV w p);have H6:=aj (λw=>AV w q);have HT:=told s;generalize chk s=c at H1 HT;generalize Lh s=kk at H2 H3 HT;generalize zJ s=v at H4 HT;obtain⟨c1,c2⟩:=c;simp only at H1 HT;rcases HT with⟨E,hE,rfl,rfl,rfl⟩|⟨rfl,rfl,rfl⟩|⟨n,hn,rfl,rfl,rfl⟩
 ·have hb:(c1 != 0)=true:=by simpa using hE
  simp only at H1 H2 H3
  go_enter func11,ntmps11
  go_wp2_with fail
  refine(ah H0 _).mono ?_;rintro e w1 ⟨rfl,b1⟩
  go_wp2_with fail
  refine(ah H1 _).mono ?_;rintro e w2 ⟨rfl,d⟩;have b2:=bK b1 d (SH _);clear d b1
  go_wp2_with fail
  refine(ah H2 _).mono ?_;rintro e w3 ⟨rfl,d⟩;have b3:=bK b2 d (SH _);clear d b2
  go_wp2_with fail
  refine(ah H3 _).mono ?_;rintro e w4 ⟨⟨sb,sm,rfl⟩,d⟩;have b4:=bK b3 d (SH _);clear d b3
  go_wp2_with fail
  refine(ah H4 _ ⟨#[]⟩ 0 (Or.inl rfl) (by decide)).mono ?_;rintro e w5 ⟨rfl,d⟩;have b5:=bK b4 d (SH _);clear d b4
  go_wp2_with fail
  refine(ah H5 _).mono ?_;rintro e w6 ⟨⟨t1,rfl,ht1⟩,rfl⟩
  go_wp2_with fail
  refine(ah H4 _ t1 0 (Or.inl rfl) ht1).mono ?_;rintro e w7 ⟨rfl,d⟩;have b7:=bK b5 d (SH _);clear d b5 ht1
  go_wp2_with fail
  refine(ah H6 _).mono ?_;rintro e w8 ⟨⟨t2,rfl,ht2⟩,rfl⟩
  go_wp2_with fail
  refine(ah H4 _ t2 1 (Or.inr rfl) ht2).mono ?_;rintro e w9 ⟨rfl,d⟩;have b9:=bK b7 d (SH _);clear d b7 ht2
  go_wp2_with fail
  refine(ah H4 _ ⟨#[]⟩ 1 (Or.inr rfl) (by decide)).mono ?_;rintro e wa ⟨rfl,d⟩;have ba:=bK b9 d (SH _);clear d b9
  go_wp2_with fail
  go_ret
  exact⟨by simp,ba⟩
 ·simp only at H1 H2 H3
  go_enter func11,ntmps11
  go_wp2_with fail
  refine(ah H0 _).mono ?_;rintro e w1 ⟨rfl,b1⟩
  go_wp2_with fail
  refine(ah H1 _).mono ?_;rintro e w2 ⟨rfl,d⟩;have b2:=bK b1 d (SH _);clear d b1
  go_wp2_with fail
  refine(ah H2 _).mono ?_;rintro e w3 ⟨rfl,d⟩;have b3:=bK b2 d (SH _);clear d b2
  go_wp2_with fail
  refine(ah H3 _).mono ?_;rintro e w4 ⟨⟨sb,sm,rfl⟩,d⟩;have b4:=bK b3 d (SH _);clear d b3
  go_wp2_with fail
  refine(ah H4 _ ⟨#[]⟩ 0 (Or.inl rfl) (by decide)).mono ?_;rintro e w5 ⟨rfl,d⟩;have b5:=bK b4 d (SH _);clear d b4
  go_wp2_with fail
  refine(ah H5 _).mono ?_;rintro e w6 ⟨⟨t1,rfl,ht1⟩,rfl⟩
  go_wp2_with fail
  refine(ah H4 _ t1 0 (Or.inl rfl) ht1).mono ?_;rintro e w7 ⟨rfl,d⟩;have b7:=bK b5 d (SH _);clear d b5 ht1
  go_wp2_with fail
  refine(ah H6 _).mono ?_;rintro e w8 ⟨⟨t2,rfl,ht2⟩,rfl⟩
  go_wp2_with fail
  refine(ah H4 _ t2 1 (Or.inr rfl) ht2).mono ?_;rintro e w9 ⟨rfl,d⟩;have b9:=bK b7 d (SH _);clear d b7 ht2
  go_wp2_with fail
  refine(ah H4 _ ⟨#[]⟩ 1 (Or.inr rfl) (by decide)).mono ?_;rintro e wa ⟨rfl,d⟩;have ba:=bK b9 d (SH _);clear d b9
  go_wp2_with fail
  go_ret
  exact⟨by simp,ba⟩
 ·have hn0:¬n<=0:=by omega
  simp only at H1 H2 H3
  go_enter func11,ntmps11
  go_wp2_with fail
  refine(ah H0 _).mono ?_;rintro e w1 ⟨rfl,b1⟩
  go_wp2_with fail
  refine(ah H1 _).mono ?_;rintro e w2 ⟨rfl,d⟩;have b2:=bK b1 d (SH _);clear d b1
  go_wp2_with fail
  refine(ah H2 _).mono ?_;rintro e w3 ⟨rfl,d⟩;have b3:=bK b2 d (SH _);clear d b2
  go_wp2_with fail
  refine(ah H3 _).mono ?_;rintro e w4 ⟨⟨sb,sm,rfl⟩,d⟩;have b4:=bK b3 d (SH _);clear d b3
  go_wp2_with fail
  refine(ah H4 _ ⟨#[]⟩ 0 (Or.inl rfl) (by decide)).mono ?_;rintro e w5 ⟨rfl,d⟩;have b5:=bK b4 d (SH _);clear d b4
  go_wp2_with fail
  refine(ah H5 _).mono ?_;rintro e w6 ⟨⟨t1,rfl,ht1⟩,rfl⟩
  go_wp2_with fail
  refine(ah H4 _ t1 0 (Or.inl rfl) ht1).mono ?_;rintro e w7 ⟨rfl,d⟩;have b7:=bK b5 d (SH _);clear d b5 ht1
  go_wp2_with fail
  refine(ah H6 _).mono ?_;rintro e w8 ⟨⟨t2,rfl,ht2⟩,rfl⟩
  go_wp2_with fail
  refine(ah H4 _ t2 1 (Or.inr rfl) ht2).mono ?_;rintro e w9 ⟨rfl,d⟩;have b9:=bK b7 d (SH _);clear d b7 ht2
  go_wp2_with fail
  refine(ah H4 _ ⟨#[]⟩ 1 (Or.inr rfl) (by decide)).mono ?_;rintro e wa ⟨rfl,d⟩;have ba:=bK b9 d (SH _);clear d b9
  go_wp2_with fail
  go_ret
  exact⟨by simp,ba⟩
theorem agree_lifted(os:Os)(started:os.Started)(H:Type)(enc:TypeId×Value->H) :
  ReturnsInHanded {} checked os 11 .any (Rows.agreeSpec.pre6 enc prog f11 Rows.agreeRow.domain false) (Rows.agreeSpec.post enc prog f11 false true false false):=by
 refine returnsInHanded_of_change_sized (C:=checked) Zt started (by kernel_rfl) func11
  (ChangeSpec.witness6 (enc:=enc) (C:=checked) false ⟨#[],#[.string ⟨#[]⟩,.string ⟨#[]⟩,.string ⟨#[]⟩],[]⟩ 8 (by kernel_rfl) (by kernel_rfl) (by kernel_rfl) (by kernel_rfl)) ?_
 intro W base args ds gs before hval0 hW hcnd hz _;have hval:∀(j:Nat) t v,f11.params[j]?=some t->args[j]?=some v->Value.okWide prog W .any base t v:=hval0;have hW':=hW;obtain⟨p,q,hA0,hV,rfl,hfz,hnd⟩:=hW;have hA:DataW.TrodAll enc prog W 0 (λ_=>true) true f11.params.toList args.toList ds p:=hA0;rw[params11]at hA hval;obtain⟨v0,vs0,d0,ds0,p0,q0,hargs,rfl,rfl,h0,r0⟩:=trodAll_cons hA;obtain⟨v1,vs1,d1,ds1,p1,q1,hargs1,rfl,rfl,h1,r1⟩:=trodAll_cons r0;obtain⟨v2,vs2,d2,ds2,p2,q2,aah,rfl,rfl,h2,r2⟩:=trodAll_cons r1;obtain⟨rfl,rfl,rfl⟩:=trodAll_nil r2;obtain rfl:args=#[v0,v1,v2]:=by cases args;simp_all
 obtain⟨rfl,rfl⟩:=trodVars_none hV;have k0:=h0;have k1:=h1;have k2:=h2;have lt0:∀x∈p0,x.block<W.heap.size:=by obtain⟨m,hm⟩:=k0;exact DataW.trod_lt m _ _ _ hm
 have lt1:∀x∈p1,x.block<W.heap.size:=by obtain⟨m,hm⟩:=k1;exact DataW.trod_lt m _ _ _ hm
 have lt2:∀x∈p2,x.block<W.heap.size:=by obtain⟨m,hm⟩:=k2;exact DataW.trod_lt m _ _ _ hm
 obtain⟨s,rfl,rfl,rfl,hs⟩:=open_string underlying9 (hval 0 9 v0 rfl rfl) h0;obtain⟨t,rfl,rfl,rfl,ht⟩:=open_string underlying9 (hval 1 9 v1 rfl rfl) h1;obtain⟨u,rfl,rfl,rfl,hu⟩:=open_string underlying9 (hval 2 9 v2 rfl rfl) h2;have h2:=reachBytes_lt;have hsz:s.size<=maxLen:=by
  have h1:=sized_string (j:=0) (t:=9) hz (by show(f11.params.toList++_)[0]?=_;rw[params11];rfl) rfl;have h3:s.data.toList.length=s.size:=by simp
  unfold maxLen;omega
 clear hA0 hval0;refine(agree_walk W s t u hsz).mono λe W' ⟨he,bel⟩=>?_;subst he;exact⟨_,rfl,_,_,_,[],_,[],hW',trodAll_mk1 (shut_bool underlying4 _),(trodAll_cons_mk (Below.trod yF (by kernel_rfl) (of_decide_eq_true (by kernel_rfl)) k0 bel lt0) (trodAll_cons_mk (Below.trod yF (by kernel_rfl) (of_decide_eq_true (by kernel_rfl)) k1 bel lt1) (trodAll_cons_mk (Below.trod yF (by kernel_rfl) (of_decide_eq_true (by kernel_rfl)) k2 bel lt2) trodAll_mk0))),rfl,bel.frame _,λh=>by cases h⟩
theorem agree_holds:Rows.AgreeSaid:=
 OpenClaim.holds_of_wide 11 f11 rfl rfl rfl rfl rfl rfl rfl ⟨rfl,rfl,rfl,rfl,rfl⟩ rfl rfl rfl rfl rfl (by kernel_rfl) func11 (by kernel_rfl)
  (of_decide_eq_true (by kernel_rfl)) (by unfold Func.isWrapper;first|(rw[ac8 (by decide +kernel)];kernel_rfl)|(rw[ac5 (by decide +kernel)];exact⟨rfl,rfl⟩))
  (λos started H enc _=>agree_lifted os started H enc)
end Go.Proofs.YthcppbmkacbbiaaGreat
