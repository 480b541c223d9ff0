import Derived.Test.YthcppbmkacbbiaaGreatYBT
set_option linter.unusedSimpArgs false
set_option maxHeartbeats 2000000
set_option maxRecDepth 100000
namespace Go.Proofs.YthcppbmkacbbiaaGreat
open Go.Proofs.Tryz
section
open Go.RowKit Go.Maps Go.WideMaps
open aB (Key put dH au isAtom cnt aP fD)
attribute [local go_sem] Oper.semAt_some
theorem FF.of{s:ByteArray}{ts:List Key}{cs:List (Int×Nat)}{ps:List Key}{m:Nat}(hs:s.size<=100)(hR:aB.iT (pk s) (s.size+1) 0 0 [] [] []=.ok (s.size,ts,cs,ps,m))(h7:ts.length<=7)(h4:cs.length<=4)(hi:aB.Inv ts)(hic:aB.jv ts cs)(ny:aP ts.length cs.length ps)(hp0:0<ps.length)(hp:ps.length<=100):FF ts cs ps:=by
 have hz:=aB.Ob (pk:=pk s) (N:=s.size) (λa h=>bK h) (s.size+1) 0 0 [] [] [] (by omega);rw[hR]at hz;obtain⟨_,z1,z2,z3⟩:=hz;have e1:cnt au []=0:=rfl;have e2:cnt isAtom []=0:=rfl;have hk:fD cs ps:=z3 ⟨λq hq=>by(cases hq),λc h=>absurd h (by simp)⟩;refine⟨h7,KC hic ny hp0,h4,hp0,hp,hi,ny,hk,λi hi'=>?_,λx hx=>hic x hx,by omega,by omega⟩;have hkey:=hi.key i hi';rcases hkey with⟨_,_,h3,h4⟩|⟨_,h2,h3⟩|⟨_,h2,h3⟩<;>omega
theorem II(w:World)(GT GC GP:Nat)(ts:List Key)(cs:List (Int×Nat))(ps:List Key)(tape:ByteArray)(way:Int)(hw:way=0\/way=1)(hF:FF ts cs ps)(hd:xg tape.data.toList)(h60:tape.size<=60)(hrt:cO w GT ts)(hrc:eP w GC cs)(hrp:cO w GP ps) :
  Calls prog 33 #[fv GT GC GP ts.length cs.length ps.length,.int .i64 way,.string tape] w λe w'=>DJ ts cs ps e/\Below w.heap.size w w':=by
 have hb0:∀o,Below w.heap.size w (w.alloc o):=λo=>(af5 _ w).alloc (ac2 _) _;have H0:=aj (λo=>wY (w.alloc o) GT GC GP ts cs ps tape hF hd h60 (hrt.below (hb0 o) hrt.1) (hrc.below (hb0 o) hrc.1) (hrp.below (hb0 o) hrp.1));have H1:=aj (λo=>wZ (w.alloc o) GT GC GP ts cs ps tape hF hd h60 (hrt.below (hb0 o) hrt.1) (hrc.below (hb0 o) hrc.1) (hrp.below (hb0 o) hrp.1));have hR:Hid (∀o e w',DJ ts cs ps e/\Below (w.alloc o).heap.size (w.alloc o) w'->∃(b:Bool) (m:ByteArray),e=.returned (.tuple #[.bool b,.string m])/\DJ ts cs ps (.returned (.tuple #[.bool b,.string m]))/\Below w.heap.size w w'):=λo e w' ⟨h,hb⟩=>by
  have hb2:Below w.heap.size w w':=(hb0 o).trans (hb.mono (by simp));rcases id h with⟨rfl,_⟩|⟨f,hl,_,_,rfl⟩
  ·exact⟨_,_,rfl,h,hb2⟩
  ·exact⟨_,_,rfl,h,hb2⟩
 clear hF hd hrt hrc hrp hb0;generalize DJ ts cs ps=DE at H0 H1 hR ⊢;unfold fv at H0 H1 ⊢;rcases hw with rfl|rfl
 ·go_enter func33,ntmps33
  go_wp2_with fail
  refine(ah H0 _).mono ?_;intro e w1 h;obtain⟨b,m,rfl,h1,h2⟩:=ah hR _ e w1 h;have Q1:=aj h1;have Q2:=aj h2;clear h h1 h2
  go_wp2_with fail
  exact af2 (v:=.tuple #[.bool b,.string m]) (by simp[results,results33,go_sem]) rfl ⟨ah Q1,ah Q2⟩
 ·go_enter func33,ntmps33
  go_wp2_with fail
  refine(ah H1 _).mono ?_;intro e w1 h;obtain⟨b,m,rfl,h1,h2⟩:=ah hR _ e w1 h;have Q1:=aj h1;have Q2:=aj h2;clear h h1 h2
  go_wp2_with fail
  exact af2 (v:=.tuple #[.bool b,.string m]) (by simp[results,results33,go_sem]) rfl ⟨ah Q1,ah Q2⟩
theorem Dh{t:ByteArray}(h:dU t=false):xg t.data.toList/\t.size<=60:=by
 unfold dU at h;simp only[Bool.or_eq_false_iff,decide_eq_false_iff_not,List.any_eq_false]at h;refine⟨λc hc=>?_,by omega⟩;have:=h.2 c hc;unfold sZ at this;simp at this;omega
theorem Ja(w:World)(s tape:ByteArray)(way:Int)(hm:s.size<=maxLen)(hE:(chk s).1≠0) :
  Calls prog 23 #[.string s,.int .i64 way,.string tape] w λe w'=>e=.returned (.tuple #[.bool false,.string ⟨#[]⟩,.int .i64 (chk s).1])/\Below w.heap.size w w':=by
 have HR:=aj (λw=>Oo w s hm);generalize chk s=c at HR hE;have hb:(c.1 != 0)=true:=by simpa using hE
 go_enter func23,ntmps23
 go_wp2_with fail
 refine((ah HR) _).mono ?_;rintro e w1 ⟨⟨p0,n0,c0,p1,n1,c1,p2,n2,c2,rfl⟩,h1⟩;have HH:=aj h1;clear h1
 go_wp2_with fail
 exact af2 (v:=.tuple #[.bool false,.string ⟨#[]⟩,.int .i64 c.1]) (by simp[results,results23,go_sem]) rfl ⟨rfl,(ah HH).alloc (ah HH).size _⟩
theorem I9(w:World)(s tape:ByteArray)(way:Int)(hs:s.size<=100)(ts:List Key)(cs:List (Int×Nat))(ps:List Key)(mm:Nat)(HR:aB.iT (pk s) (s.size+1) 0 0 [] [] []=.ok (s.size,ts,cs,ps,mm))(hF:FF ts cs ps)(hic:aB.jv ts cs)(hnd:cs.Nodup)(DT:Ending->Prop)
 (h5:¬(way=0\/way=1)->DT (.returned (.tuple #[.bool false,.string ⟨#[]⟩,.int .i64 5])))(h7:(way=0\/way=1)->dU tape=true->DT (.returned (.tuple #[.bool false,.string ⟨#[]⟩,.int .i64 7])))
 (hno:(way=0\/way=1)->dU tape=false->(¬∃f hl,hl.length=cs.length/\Ak f ts cs ps hl)->DT (.returned (.tuple #[.bool false,.string ⟨#[]⟩,.int .i64 0])))
 (hyes:(way=0\/way=1)->dU tape=false->∀f hl,hl.length=cs.length->Ak f ts cs ps hl->DT (.returned (.tuple #[.bool true,.string ⟨(wrt f ts.length hl).toArray⟩,.int .i64 0]))) :
  Calls prog 23 #[.string s,.int .i64 way,.string tape] w λe w'=>DT e/\Below w.heap.size w w':=by
 have HO:=aj (rM w s hs ts cs ps mm HR hF.h7 hF.h4 hF.inv hic hnd hF.ny hF.hp);have HDT:Hid (∀e,DJ ts cs ps e->(way=0\/way=1)->dU tape=false->∃(b:Bool) (m:ByteArray),e=.returned (.tuple #[.bool b,.string m])/\DT (.returned (.tuple #[.bool b,.string m,.int .i64 0]))):=λe h hw ht=>by
  rcases h with⟨rfl,h⟩|⟨f,hl,h1,h2,rfl⟩
  ·exact⟨_,_,rfl,hno hw ht h⟩
  ·exact⟨_,_,rfl,hyes hw ht f hl h1 h2⟩
 have HFV:=aj h5;have HSV:=aj h7;have HTP:=aj (λw=>G5 w tape);have HDG:Hid (dU tape=false->xg tape.data.toList/\tape.size<=60):=λh=>Dh h;have HDE:Hid (∀W GT GC GP,(way=0\/way=1)->dU tape=false->cO W GT ts->eP W GC cs->cO W GP ps->Calls prog 33 #[fv GT GC GP ts.length cs.length ps.length,.int .i64 way,.string tape] W λe w'=>DJ ts cs ps e/\Below W.heap.size W w'):=λW GT GC GP hw ht h1 h2 h3=>
  II W GT GC GP ts cs ps tape way hw hF (Dh ht).1 (Dh ht).2 h1 h2 h3
 generalize DJ ts cs ps=DE at HDT HDE;clear hF hic HR hnd h5 h7 hno hyes;unfold fv at HO HDE;generalize dU tape=nt at HDT HSV HTP HDG HDE
 go_enter func23,ntmps23
 go_wp2_with fail
 refine(ah HO).mono ?_;rintro e w1 ⟨GT,GC,GP,rfl,h1,hfr⟩;have M1:=aj (xB hfr.t);have M2:=aj (Jh hfr.c);have M3:=aj (xB hfr.p);have HH1:=aj h1;clear HO hfr h1;by_cases hw:way=0\/way=1
 ·have hwb:¬(way≠0/\way≠1):=by omega
  have hwc:((way != 0)&&(way != 1))=false:=by rcases hw with rfl|rfl<;>rfl
  obtain⟨w2,hw2⟩:∃w2,w1.alloc (.cells #[.slice (some ⟨GT,0,none⟩) ts.length ts.length,.slice (some ⟨GC,0,none⟩) cs.length cs.length,.slice (some ⟨GP,0,none⟩) ps.length ps.length] 54)=w2:=⟨_,rfl⟩;have hb2:Below w1.heap.size w1 w2:=by rw[<-hw2];exact(af5 _ w1).alloc (ac2 _) _
  have hx2:w2.heap[w1.heap.size]?=some (.cells #[.slice (some ⟨GT,0,none⟩) ts.length ts.length,.slice (some ⟨GC,0,none⟩) cs.length cs.length,.slice (some ⟨GP,0,none⟩) ps.length ps.length] 54 (0,0)):=by rw[<-hw2];exact ad7 _ _
  have HB2:=aj hb2;have HX2:=aj hx2;have HW:=aj hw;have UC:=aj (ah HTP w2);clear hb2 hx2 hwb hwc;cases nt
  ·have main:∀W,way=W->(W=0\/W=1)->True:=λ_ _ _=>trivial;rcases hw with rfl|rfl
   ·go_wp2_with fail
    refine(ah UC).mono ?_;rintro e w3 ⟨rfl,h3⟩;have hx3:=(h3.block _ (ac0.1 (ah HX2)).1).trans (ah HX2);have q0:w3.cell? ⟨w1.heap.size,0,none⟩=some (.slice (some ⟨GT,0,none⟩) ts.length ts.length):=(by rw[cell_of hx3];rfl);have q1:w3.cell? ⟨w1.heap.size,1,none⟩=some (.slice (some ⟨GC,0,none⟩) cs.length cs.length):=(by rw[cell_of hx3];rfl);have q2:w3.cell? ⟨w1.heap.size,2,none⟩=some (.slice (some ⟨GP,0,none⟩) ps.length ps.length):=(by rw[cell_of hx3];rfl);have hb13:Below w1.heap.size w1 w3:=(ah HB2).trans (h3.mono (ah HB2).size);have hde:=ah HDE w3 GT GC GP (ah HW) (by trivial) ((ah M1).below hb13 (ah M1).1) ((ah M2).below hb13 (ah M2).1) ((ah M3).below hb13 (ah M3).1);have HB3:=aj ((ah HH1).trans (hb13.mono (ah HH1).size));clear hx3 h3 hb13 hw2
    go_wp2_with fail
    refine hde.mono ?_;intro e w4 h;obtain⟨b,m,rfl,hdt⟩:=ah HDT e h.1 (ah HW) (by trivial);have HB4:=aj ((ah HB3).trans (h.2.mono (ah HB3).size));have HQ:=aj hdt;clear h hdt hde q0 q1 q2
    go_wp2_with fail
    exact af2 (v:=.tuple #[.bool b,.string m,.int .i64 0]) (by simp[results,results23,go_sem]) rfl ⟨ah HQ,ah HB4⟩
   ·go_wp2_with fail
    refine(ah UC).mono ?_;rintro e w3 ⟨rfl,h3⟩;have hx3:=(h3.block _ (ac0.1 (ah HX2)).1).trans (ah HX2);have q0:w3.cell? ⟨w1.heap.size,0,none⟩=some (.slice (some ⟨GT,0,none⟩) ts.length ts.length):=(by rw[cell_of hx3];rfl);have q1:w3.cell? ⟨w1.heap.size,1,none⟩=some (.slice (some ⟨GC,0,none⟩) cs.length cs.length):=(by rw[cell_of hx3];rfl);have q2:w3.cell? ⟨w1.heap.size,2,none⟩=some (.slice (some ⟨GP,0,none⟩) ps.length ps.length):=(by rw[cell_of hx3];rfl);have hb13:Below w1.heap.size w1 w3:=(ah HB2).trans (h3.mono (ah HB2).size);have hde:=ah HDE w3 GT GC GP (ah HW) (by trivial) ((ah M1).below hb13 (ah M1).1) ((ah M2).below hb13 (ah M2).1) ((ah M3).below hb13 (ah M3).1);have HB3:=aj ((ah HH1).trans (hb13.mono (ah HH1).size));clear hx3 h3 hb13 hw2
    go_wp2_with fail
    refine hde.mono ?_;intro e w4 h;obtain⟨b,m,rfl,hdt⟩:=ah HDT e h.1 (ah HW) (by trivial);have HB4:=aj ((ah HB3).trans (h.2.mono (ah HB3).size));have HQ:=aj hdt;clear h hdt hde q0 q1 q2
    go_wp2_with fail
    exact af2 (v:=.tuple #[.bool b,.string m,.int .i64 0]) (by simp[results,results23,go_sem]) rfl ⟨ah HQ,ah HB4⟩
  ·rcases hw with rfl|rfl
   ·go_wp2_with fail
    refine(ah UC).mono ?_;rintro e w3 ⟨rfl,h3⟩;have hb13:Below w1.heap.size w1 w3:=(ah HB2).trans (h3.mono (ah HB2).size);have HB3:=aj ((ah HH1).trans (hb13.mono (ah HH1).size));clear h3 hb13 hw2
    go_wp2_with fail
    exact af2 (v:=.tuple #[.bool false,.string ⟨#[]⟩,.int .i64 7]) (by simp[results,results23,go_sem]) rfl ⟨ah HSV (ah HW) (by trivial),ah HB3⟩
   ·go_wp2_with fail
    refine(ah UC).mono ?_;rintro e w3 ⟨rfl,h3⟩;have hb13:Below w1.heap.size w1 w3:=(ah HB2).trans (h3.mono (ah HB2).size);have HB3:=aj ((ah HH1).trans (hb13.mono (ah HH1).size));clear h3 hb13 hw2
    go_wp2_with fail
    exact af2 (v:=.tuple #[.bool false,.string ⟨#[]⟩,.int .i64 7]) (by simp[results,results23,go_sem]) rfl ⟨ah HSV (ah HW) (by trivial),ah HB3⟩
 ·have h0:¬way=0:=λe=>hw (Or.inl e);have h1:¬way=1:=λe=>hw (Or.inr e);have hb0:(way != 0)=true:=by simpa using h0
  have hb1:(way != 1)=true:=by simpa using h1
  have HW:=aj hw;clear hw h0 h1
  go_wp2_with fail
  exact af2 (v:=.tuple #[.bool false,.string ⟨#[]⟩,.int .i64 5]) (by simp[results,results23,go_sem]) rfl ⟨ah HFV (ah HW),(ah HH1).alloc (ah HH1).size _⟩
end
section
open Go.RowKit Go.Maps Go.WideMaps
open aB (Key put dH au isAtom cnt aP fD)
def UK(s:ByteArray):Int×Int:=
 if s.size<=100/\(chk s).1=0 then
  match aB.iT (pk s) (s.size+1) 0 0 [] [] []with
  |.ok (_,ts,cs,ps,_)=>(((zH ts cs ps:Nat):Int),0)
  |.error _=>(0,0)
 else(0,(chk s).1)
theorem Pg{s:ByteArray}(h:s.size<=100/\(chk s).1=0){ts:List Key}{cs:List (Int×Nat)}{ps:List Key}{m:Nat}(h1:aB.iT (pk s) (s.size+1) 0 0 [] [] []=.ok (s.size,ts,cs,ps,m)):UK s=(((zH ts cs ps:Nat):Int),0):=by
 unfold UK;rw[ae2 h,h1]
theorem Jy{s:ByteArray}(h:¬(s.size<=100/\(chk s).1=0)):UK s=(0,(chk s).1):=by
 unfold UK;rw[ad6 h]
def ku(s:ByteArray):Int:=if (UK s).2=0 then(if (UK s).1=0 then 0 else 1)else -1
def DK(ts:List Key)(cs:List (Int×Nat))(ps:List Key)(e:Ending):Prop:=
 (e=.returned (.tuple #[.bool false,.string ⟨#[]⟩,.int .i64 0])/\zH ts cs ps=0)\/
 ∃f hl,hl.length=cs.length/\Ak f ts cs ps hl/\e=.returned (.tuple #[.bool true,.string ⟨(wrt f ts.length hl).toArray⟩,.int .i64 0])/\zH ts cs ps≠0
theorem DC(w:World)(s t:ByteArray)(way:Int)(hm:s.size<=maxLen)(hw:way=0\/way=1)(ht:dU t=false) :
  Calls prog 24 #[.string s,.int .i64 way,.string t] w λe w'=>e=.returned (.int .i64 (ku s))/\Below w.heap.size w w':=by
 by_cases h:s.size<=100/\(chk s).1=0
 ·obtain⟨ts,cs,ps,h1,h2,h3,h4,h5,h6,h7,h8,h9,h10,h11,h12⟩:=pO s h.1 h.2;have hF:=FF.of h.1 h1 h2 h3 h4 h5 h10 h11 h12;have hcm:=zG h3 h10 hF.ht hF.hcs;have hk:=Pg h h1;have HD:Hid (Calls prog 23 #[.string s,.int .i64 way,.string t] w λe w'=>DK ts cs ps e/\Below w.heap.size w w'):=by
   refine I9 w s t way h.1 ts cs ps _ h1 hF h5 h9 (DK ts cs ps) (λq=>absurd hw q) (λ_ q=>absurd (ht.symm.trans q) (by decide)) (λ_ _ q=>Or.inl ⟨rfl,?_⟩) (λ_ _ f hl q1 q2=>Or.inr ⟨f,hl,q1,q2,rfl,hcm.2 ⟨f,hl,q1,q2⟩⟩);exact ag1 λe=>q (hcm.1 e)
  have HH:Hid (∀W f hl,hl.length=cs.length->Ak f ts cs ps hl->Calls prog 34 #[.string s,.string ⟨(wrt f ts.length hl).toArray⟩] W λe w'=>e=.returned (.tuple #[.bool true,.int .i64 0])/\Below W.heap.size W w'):=λW f hl q1 q2=>by
   have g:=PE W s ⟨(wrt f ts.length hl).toArray⟩ (Xp ⟨(wrt f ts.length hl).toArray⟩ ts.length) h.1 ts cs ps _ h1 h2 h3 h4 h5 h9 h10 h11 h12 (λx hx=>h5 x hx) (λhe=>QC _ ts.length cs.length he);rw[RV h2 h10 hF.ht hF.hcs q1 q2]at g;exact g
  have H0:Hid (zH ts cs ps=0->ku s=0):=λq=>by unfold ku;rw[hk];simp[q]
  have H1:Hid (zH ts cs ps≠0->ku s=1):=λq=>by unfold ku;rw[hk];simp[q]
  clear hF hcm hk h1 h2 h3 h4 h5 h6 h7 h8 h9 h10 h11 h12 h hm ht hw;generalize ku s=v at H0 H1;unfold DK at HD
  go_enter func24,ntmps24
  go_wp2_with fail
  refine(ah HD).mono ?_;rintro e w1 ⟨⟨rfl,q⟩|⟨f,hl,q1,q2,rfl,q⟩,b1⟩
  ·have hv:=ah H0 q;subst hv
   go_wp2_with fail
   go_ret
   exact⟨rfl,b1⟩
  ·have hv:=ah H1 q;subst hv;have g:=ah HH w1 f hl q1 q2;generalize (wrt f ts.length hl).toArray=m at g ⊢
   go_wp2_with fail
   refine g.mono ?_;rintro e w2 ⟨rfl,b2⟩
   go_wp2_with fail
   go_ret
   exact⟨rfl,b1.trans (b2.mono b1.size)⟩
 ·have hE:=FH h;have hv:ku s = -1:=by unfold ku;rw[Jy h];simp[hE]
  rw[hv];have HD:=aj (Ja w s t way hm hE);generalize (chk s).1=E at HD hE;have hb:(E != 0)=true:=by simpa using hE
  go_enter func24,ntmps24
  go_wp2_with fail
  refine(ah HD).mono ?_;rintro e w1 ⟨rfl,b1⟩
  go_wp2_with fail
  go_ret
  exact⟨rfl,b1⟩
end
open aB (Key put Inv jv texts dP eH aP)
open Ast
def Snd(f:Nat->Nat)(hl:List Bool)(ts:List Key)(cs:List (Int×Nat)):Prop:=hl.length=cs.length/\zO (λa b=>f a=f b) ts/\NM f cs hl
def Md(ts:List Key)(cs:List (Int×Nat))(v:List Int->List Bool->Bool):Prop:=∃f hl,Snd f hl ts cs/\v (JR f ts.length) hl=true
structure Good(ts:List Key)(cs:List (Int×Nat)):Prop where
 key:∀i (h:i<ts.length),eH i ts[i]
 nt:ts.Nodup
 cl:∀i (h:i<cs.length),cs[i].2<ts.length
 nc:cs.Nodup
theorem QM{s:ByteArray}{txt:List UInt8}{dep:Nat}{run:List Key->List (Int×Nat)->List Key×List (Int×Nat)}{val:List Int->List Bool->List Key->List (Int×Nat)->Bool}(h:Am txt dep run val)(e:s.data.toList=txt)(hs:s.size<=100)(h0:(chk s).1=0) :
  (ku s=1↔Md (run [] []).1 (run [] []).2 (λcl hl=>val cl hl [] []))/\(ku s=0\/ku s=1)/\Good (run [] []).1 (run [] []).2:=by
 obtain⟨ts,cs,ps,h1,h2,h3,h4,h5,h6,h7,h8,h9,h10,h11,h12⟩:=pO s hs h0;have hF:=FF.of hs h1 h2 h3 h4 h5 h10 h11 h12;have hcm:=zG h3 h10 hF.ht hF.hcs;have hk:=Pg ⟨hs,h0⟩ h1;have hl:txt.length=s.size:=by rw[<-e];simp
 have hr:=h.reads (pk s) s.size (s.size+1) 0 0 [] [] [] (λ_ q=>bK q) (ag3 _) (by rw[<-e];exact XF s) (by omega) (by omega) ⟨al6,λi hi=>by simp at hi⟩;by_cases hd:0+dep<=8
 ·obtain⟨ps1,m,hp,hv⟩:=hr.1 hd;rw[h1]at hp;injection hp with hp
  simp only[ao9]at hp;obtain⟨_,e1,e2,e3,e4⟩:=hp;subst e3;have hc:ku s=if zH ts cs ps=0 then 0 else 1:=by
   unfold ku;rw[hk];simp
  refine⟨?_,?_,?_⟩
  ·rw[<-e1,<-e2];have q:ku s=1↔zH ts cs ps≠0:=by
    rw[hc];by_cases q:zH ts cs ps=0
    ·simp[q]
    ·simp[q]
   rw[q,hcm];constructor
   ·rintro⟨f,hl,g1,g2⟩;refine⟨f,hl,⟨g1,(iJ f ts).1 g2.Dp,(lS f cs hl).1 g2.Xr⟩,?_⟩
    show val _ _ [] []=true
    rw[<-hv,<-e4];exact g2.Xn
   ·rintro⟨f,hl,⟨g1,g2,g3⟩,g4⟩;refine⟨f,hl,g1,(iJ f ts).2 g2,(lS f cs hl).2 g3,?_⟩;replace g4:val (JR f ts.length) hl [] []=true:=g4;rw[<-hv,<-e4]at g4;exact g4
  ·rw[hc];by_cases q:zH ts cs ps=0
   ·simp[q]
   ·simp[q]
  ·rw[<-e1,<-e2];exact⟨h4.key,h4.nodup,λi hi=>(h5 _ (ac4 hi)).2,h9⟩
 ·obtain⟨p,hp⟩:=hr.2 hd;rw[h1]at hp;cases hp
end Go.Proofs.YthcppbmkacbbiaaGreat
