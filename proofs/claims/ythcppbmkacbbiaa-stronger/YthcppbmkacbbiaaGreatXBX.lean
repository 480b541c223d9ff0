import Derived.Test.YthcppbmkacbbiaaGreatXBW
import Derived.Test.YthcppbmkacbbiaaGreatXBR
import Derived.SizedLaws
set_option linter.unusedSimpArgs false
set_option maxHeartbeats 16000000
set_option maxRecDepth 100000
namespace Go.Proofs.YthcppbmkacbbiaaGreat
open Go.Proofs.Tryz
section
open Go.RowKit Go.Maps Go.WideMaps
open aB (Key put dF au isAtom cnt aO fA)
attribute [local go_sem] Oper.semAt_some
theorem FF.of{s:ByteArray}{ts:List Key}{cs:List (Int×Nat)}{ps:List Key}{m:Nat}(hs:s.size<=100)(hR:aB.iL (pk s) (s.size+1) 0 0 [] [] []=.ok (s.size,ts,cs,ps,m))(h7:ts.length<=7)(h4:cs.length<=4)(hi:aB.Inv ts)(hic:aB.jA ts cs)(mG:aO ts.length cs.length ps)(hp0:0<ps.length)(hp:ps.length<=100):FF ts cs ps:=by
 have hz:=aB.NI (pk:=pk s) (N:=s.size) (λa h=>bI h) (s.size+1) 0 0 [] [] [] (by omega);rw[hR]at hz;obtain⟨_,z1,z2,z3⟩:=hz;have e1:cnt au []=0:=rfl;have e2:cnt isAtom []=0:=rfl;have hk:fA cs ps:=z3 ⟨λq hq=>by(cases hq),λc h=>absurd h (by simp)⟩;refine⟨h7,JZ hic mG hp0,h4,hp0,hp,hi,mG,hk,λi hi'=>?_,λx hx=>hic x hx,by omega,by omega⟩;have hkey:=hi.key i hi';rcases hkey with⟨_,_,h3,h4⟩|⟨_,h2,h3⟩|⟨_,h2,h3⟩<;>omega
theorem Iq(w:World)(GT GC GP:Nat)(ts:List Key)(cs:List (Int×Nat))(ps:List Key)(tape:ByteArray)(way:Int)(hw:way=0\/way=1)(hF:FF ts cs ps)(hd:wO tape.data.toList)(h60:tape.size<=60)(hrt:bU w GT ts)(hrc:eF w GC cs)(hrp:bU w GP ps) :
  Calls prog 33 #[fv GT GC GP ts.length cs.length ps.length,.int .i64 way,.string tape] w λe w'=>Dt ts cs ps e/\Below w.heap.size w w':=by
 have hb0:∀o,Below w.heap.size w (w.alloc o):=λo=>(af0 _ w).alloc (ab3 _) _;have H0:=aj (λo=>wL (w.alloc o) GT GC GP ts cs ps tape hF hd h60 (hrt.below (hb0 o) hrt.1) (hrc.below (hb0 o) hrc.1) (hrp.below (hb0 o) hrp.1));have H1:=aj (λo=>wM (w.alloc o) GT GC GP ts cs ps tape hF hd h60 (hrt.below (hb0 o) hrt.1) (hrc.below (hb0 o) hrc.1) (hrp.below (hb0 o) hrp.1));have hR:Hid (∀o e w',Dt ts cs ps e/\Below (w.alloc o).heap.size (w.alloc o) w'->∃(b:Bool) (m:ByteArray),e=.returned (.tuple #[.bool b,.string m])/\Dt ts cs ps (.returned (.tuple #[.bool b,.string m]))/\Below w.heap.size w w'):=λo e w' ⟨h,hb⟩=>by
  have hb2:Below w.heap.size w w':=(hb0 o).trans (hb.mono (by simp));rcases id h with⟨rfl,_⟩|⟨f,hl,_,_,rfl⟩
  ·exact⟨_,_,rfl,h,hb2⟩
  ·exact⟨_,_,rfl,h,hb2⟩
 clear hF hd hrt hrc hrp hb0;generalize Dt ts cs ps=DE at H0 H1 hR ⊢;unfold fv at H0 H1 ⊢;rcases hw with rfl|rfl
 ·go_enter func33,ntmps33
  go_wp2_with fail
  refine(ah H0 _).mono ?_;intro e w1 h;obtain⟨b,m,rfl,h1,h2⟩:=ah hR _ e w1 h;have Q1:=aj h1;have Q2:=aj h2;clear h h1 h2
  go_wp2_with fail
  exact ae3 (v:=.tuple #[.bool b,.string m]) (by simp[results,results33,go_sem]) rfl ⟨ah Q1,ah Q2⟩
 ·go_enter func33,ntmps33
  go_wp2_with fail
  refine(ah H1 _).mono ?_;intro e w1 h;obtain⟨b,m,rfl,h1,h2⟩:=ah hR _ e w1 h;have Q1:=aj h1;have Q2:=aj h2;clear h h1 h2
  go_wp2_with fail
  exact ae3 (v:=.tuple #[.bool b,.string m]) (by simp[results,results33,go_sem]) rfl ⟨ah Q1,ah Q2⟩
theorem CS{t:ByteArray}(h:dG t=false):wO t.data.toList/\t.size<=60:=by
 unfold dG at h;simp only[Bool.or_eq_false_iff,decide_eq_false_iff_not,List.any_eq_false]at h;refine⟨λc hc=>?_,by omega⟩;have:=h.2 c hc;unfold lV at this;simp at this;omega
theorem IU(w:World)(s tape:ByteArray)(way:Int)(hm:s.size<=maxLen)(hE:(chk s).1≠0) :
  Calls prog 23 #[.string s,.int .i64 way,.string tape] w λe w'=>e=.returned (.tuple #[.bool false,.string ⟨#[]⟩,.int .i64 (chk s).1])/\Below w.heap.size w w':=by
 have HR:=aj (λw=>NU w s hm);generalize chk s=c at HR hE;have hb:(c.1 != 0)=true:=by simpa using hE
 go_enter func23,ntmps23
 go_wp2_with fail
 refine((ah HR) _).mono ?_;rintro e w1 ⟨⟨p0,n0,c0,p1,n1,c1,p2,n2,c2,rfl⟩,h1⟩;have HH:=aj h1;clear h1
 go_wp2_with fail
 exact ae3 (v:=.tuple #[.bool false,.string ⟨#[]⟩,.int .i64 c.1]) (by simp[results,results23,go_sem]) rfl ⟨rfl,(ah HH).alloc (ah HH).size _⟩
theorem IQ(w:World)(s tape:ByteArray)(way:Int)(hs:s.size<=100)(ts:List Key)(cs:List (Int×Nat))(ps:List Key)(mm:Nat)(HR:aB.iL (pk s) (s.size+1) 0 0 [] [] []=.ok (s.size,ts,cs,ps,mm))(hF:FF ts cs ps)(hic:aB.jA ts cs)(hnd:cs.Nodup)(DT:Ending->Prop)
 (h5:¬(way=0\/way=1)->DT (.returned (.tuple #[.bool false,.string ⟨#[]⟩,.int .i64 5])))(h7:(way=0\/way=1)->dG tape=true->DT (.returned (.tuple #[.bool false,.string ⟨#[]⟩,.int .i64 7])))
 (hno:(way=0\/way=1)->dG tape=false->(¬∃f hl,hl.length=cs.length/\Aa f ts cs ps hl)->DT (.returned (.tuple #[.bool false,.string ⟨#[]⟩,.int .i64 0])))
 (hyes:(way=0\/way=1)->dG tape=false->∀f hl,hl.length=cs.length->Aa f ts cs ps hl->DT (.returned (.tuple #[.bool true,.string ⟨(wrt f ts.length hl).toArray⟩,.int .i64 0]))) :
  Calls prog 23 #[.string s,.int .i64 way,.string tape] w λe w'=>DT e/\Below w.heap.size w w':=by
 have HO:=aj (qU w s hs ts cs ps mm HR hF.h7 hF.h4 hF.inv hic hnd hF.mG hF.hp);have HDT:Hid (∀e,Dt ts cs ps e->(way=0\/way=1)->dG tape=false->∃(b:Bool) (m:ByteArray),e=.returned (.tuple #[.bool b,.string m])/\DT (.returned (.tuple #[.bool b,.string m,.int .i64 0]))):=λe h hw ht=>by
  rcases h with⟨rfl,h⟩|⟨f,hl,h1,h2,rfl⟩
  ·exact⟨_,_,rfl,hno hw ht h⟩
  ·exact⟨_,_,rfl,hyes hw ht f hl h1 h2⟩
 have HFV:=aj h5;have HSV:=aj h7;have HTP:=aj (λw=>GL w tape);have HDG:Hid (dG tape=false->wO tape.data.toList/\tape.size<=60):=λh=>CS h;have HDE:Hid (∀W GT GC GP,(way=0\/way=1)->dG tape=false->bU W GT ts->eF W GC cs->bU W GP ps->Calls prog 33 #[fv GT GC GP ts.length cs.length ps.length,.int .i64 way,.string tape] W λe w'=>Dt ts cs ps e/\Below W.heap.size W w'):=λW GT GC GP hw ht h1 h2 h3=>
  Iq W GT GC GP ts cs ps tape way hw hF (CS ht).1 (CS ht).2 h1 h2 h3
 generalize Dt ts cs ps=DE at HDT HDE;clear hF hic HR hnd h5 h7 hno hyes;unfold fv at HO HDE;generalize dG tape=nt at HDT HSV HTP HDG HDE
 go_enter func23,ntmps23
 go_wp2_with fail
 refine(ah HO).mono ?_;rintro e w1 ⟨GT,GC,GP,rfl,h1,hfr⟩;have M1:=aj (wU hfr.t);have M2:=aj (I7 hfr.c);have M3:=aj (wU hfr.p);have HH1:=aj h1;clear HO hfr h1;by_cases hw:way=0\/way=1
 ·have hwb:¬(way≠0/\way≠1):=by omega
  have hwc:((way != 0)&&(way != 1))=false:=by rcases hw with rfl|rfl<;>rfl
  obtain⟨w2,hw2⟩:∃w2,w1.alloc (.cells #[.slice (some ⟨GT,0,none⟩) ts.length ts.length,.slice (some ⟨GC,0,none⟩) cs.length cs.length,.slice (some ⟨GP,0,none⟩) ps.length ps.length] 54)=w2:=⟨_,rfl⟩;have hb2:Below w1.heap.size w1 w2:=by rw[<-hw2];exact(af0 _ w1).alloc (ab3 _) _
  have hx2:w2.heap[w1.heap.size]?=some (.cells #[.slice (some ⟨GT,0,none⟩) ts.length ts.length,.slice (some ⟨GC,0,none⟩) cs.length cs.length,.slice (some ⟨GP,0,none⟩) ps.length ps.length] 54 (0,0)):=by rw[<-hw2];exact ac4 _ _
  have HB2:=aj hb2;have HX2:=aj hx2;have HW:=aj hw;have Ud:=aj (ah HTP w2);clear hb2 hx2 hwb hwc;cases nt
  ·have main:∀W,way=W->(W=0\/W=1)->True:=λ_ _ _=>trivial;rcases hw with rfl|rfl
   ·go_wp2_with fail
    refine(ah Ud).mono ?_;rintro e w3 ⟨rfl,h3⟩;have hx3:=(h3.block _ (ab1.1 (ah HX2)).1).trans (ah HX2);have q0:w3.cell? ⟨w1.heap.size,0,none⟩=some (.slice (some ⟨GT,0,none⟩) ts.length ts.length):=(by rw[cell_of hx3];rfl);have q1:w3.cell? ⟨w1.heap.size,1,none⟩=some (.slice (some ⟨GC,0,none⟩) cs.length cs.length):=(by rw[cell_of hx3];rfl);have q2:w3.cell? ⟨w1.heap.size,2,none⟩=some (.slice (some ⟨GP,0,none⟩) ps.length ps.length):=(by rw[cell_of hx3];rfl);have hb13:Below w1.heap.size w1 w3:=(ah HB2).trans (h3.mono (ah HB2).size);have hde:=ah HDE w3 GT GC GP (ah HW) (by trivial) ((ah M1).below hb13 (ah M1).1) ((ah M2).below hb13 (ah M2).1) ((ah M3).below hb13 (ah M3).1);have HB3:=aj ((ah HH1).trans (hb13.mono (ah HH1).size));clear hx3 h3 hb13 hw2
    go_wp2_with fail
    refine hde.mono ?_;intro e w4 h;obtain⟨b,m,rfl,hdt⟩:=ah HDT e h.1 (ah HW) (by trivial);have HB4:=aj ((ah HB3).trans (h.2.mono (ah HB3).size));have HQ:=aj hdt;clear h hdt hde q0 q1 q2
    go_wp2_with fail
    exact ae3 (v:=.tuple #[.bool b,.string m,.int .i64 0]) (by simp[results,results23,go_sem]) rfl ⟨ah HQ,ah HB4⟩
   ·go_wp2_with fail
    refine(ah Ud).mono ?_;rintro e w3 ⟨rfl,h3⟩;have hx3:=(h3.block _ (ab1.1 (ah HX2)).1).trans (ah HX2);have q0:w3.cell? ⟨w1.heap.size,0,none⟩=some (.slice (some ⟨GT,0,none⟩) ts.length ts.length):=(by rw[cell_of hx3];rfl);have q1:w3.cell? ⟨w1.heap.size,1,none⟩=some (.slice (some ⟨GC,0,none⟩) cs.length cs.length):=(by rw[cell_of hx3];rfl);have q2:w3.cell? ⟨w1.heap.size,2,none⟩=some (.slice (some ⟨GP,0,none⟩) ps.length ps.length):=(by rw[cell_of hx3];rfl);have hb13:Below w1.heap.size w1 w3:=(ah HB2).trans (h3.mono (ah HB2).size);have hde:=ah HDE w3 GT GC GP (ah HW) (by trivial) ((ah M1).below hb13 (ah M1).1) ((ah M2).below hb13 (ah M2).1) ((ah M3).below hb13 (ah M3).1);have HB3:=aj ((ah HH1).trans (hb13.mono (ah HH1).size));clear hx3 h3 hb13 hw2
    go_wp2_with fail
    refine hde.mono ?_;intro e w4 h;obtain⟨b,m,rfl,hdt⟩:=ah HDT e h.1 (ah HW) (by trivial);have HB4:=aj ((ah HB3).trans (h.2.mono (ah HB3).size));have HQ:=aj hdt;clear h hdt hde q0 q1 q2
    go_wp2_with fail
    exact ae3 (v:=.tuple #[.bool b,.string m,.int .i64 0]) (by simp[results,results23,go_sem]) rfl ⟨ah HQ,ah HB4⟩
  ·rcases hw with rfl|rfl
   ·go_wp2_with fail
    refine(ah Ud).mono ?_;rintro e w3 ⟨rfl,h3⟩;have hb13:Below w1.heap.size w1 w3:=(ah HB2).trans (h3.mono (ah HB2).size);have HB3:=aj ((ah HH1).trans (hb13.mono (ah HH1).size));clear h3 hb13 hw2
    go_wp2_with fail
    exact ae3 (v:=.tuple #[.bool false,.string ⟨#[]⟩,.int .i64 7]) (by simp[results,results23,go_sem]) rfl ⟨ah HSV (ah HW) (by trivial),ah HB3⟩
   ·go_wp2_with fail
    refine(ah Ud).mono ?_;rintro e w3 ⟨rfl,h3⟩;have hb13:Below w1.heap.size w1 w3:=(ah HB2).trans (h3.mono (ah HB2).size);have HB3:=aj ((ah HH1).trans (hb13.mono (ah HH1).size));clear h3 hb13 hw2
    go_wp2_with fail
    exact ae3 (v:=.tuple #[.bool false,.string ⟨#[]⟩,.int .i64 7]) (by simp[results,results23,go_sem]) rfl ⟨ah HSV (ah HW) (by trivial),ah HB3⟩
 ·have h0:¬way=0:=λe=>hw (Or.inl e);have h1:¬way=1:=λe=>hw (Or.inr e);have hb0:(way != 0)=true:=by simpa using h0
  have hb1:(way != 1)=true:=by simpa using h1
  have HW:=aj hw;clear hw h0 h1
  go_wp2_with fail
  exact ae3 (v:=.tuple #[.bool false,.string ⟨#[]⟩,.int .i64 5]) (by simp[results,results23,go_sem]) rfl ⟨ah HFV (ah HW),(ah HH1).alloc (ah HH1).size _⟩
end
section
open Go.RowKit Go.Maps Go.WideMaps
open aB (Key put dF au isAtom cnt aO fA)
def Uj(s:ByteArray):Int×Int:=
 if s.size<=100/\(chk s).1=0 then
  match aB.iL (pk s) (s.size+1) 0 0 [] [] []with
  |.ok (_,ts,cs,ps,_)=>(((zo ts cs ps:Nat):Int),0)
  |.error _=>(0,0)
 else(0,(chk s).1)
theorem OQ{s:ByteArray}(h:s.size<=100/\(chk s).1=0){ts:List Key}{cs:List (Int×Nat)}{ps:List Key}{m:Nat}(h1:aB.iL (pk s) (s.size+1) 0 0 [] [] []=.ok (s.size,ts,cs,ps,m)):Uj s=(((zo ts cs ps:Nat):Int),0):=by
 unfold Uj;rw[ad3 h,h1]
theorem Jl{s:ByteArray}(h:¬(s.size<=100/\(chk s).1=0)):Uj s=(0,(chk s).1):=by
 unfold Uj;rw[ac2 h]
def jH(s:ByteArray):Int:=if (Uj s).2=0 then(if (Uj s).1=0 then 0 else 1)else -1
def DK(ts:List Key)(cs:List (Int×Nat))(ps:List Key)(e:Ending):Prop:=
 (e=.returned (.tuple #[.bool false,.string ⟨#[]⟩,.int .i64 0])/\zo ts cs ps=0)\/
 ∃f hl,hl.length=cs.length/\Aa f ts cs ps hl/\e=.returned (.tuple #[.bool true,.string ⟨(wrt f ts.length hl).toArray⟩,.int .i64 0])/\zo ts cs ps≠0
theorem tX(w:World)(s t:ByteArray)(way:Int)(hm:s.size<=maxLen)(hw:way=0\/way=1)(ht:dG t=false) :
  Calls prog 24 #[.string s,.int .i64 way,.string t] w λe w'=>e=.returned (.int .i64 (jH s))/\Below w.heap.size w w':=by
 by_cases h:s.size<=100/\(chk s).1=0
 ·obtain⟨ts,cs,ps,h1,h2,h3,h4,h5,h6,h7,h8,h9,h10,h11,h12⟩:=kS s h.1 h.2;have hF:=FF.of h.1 h1 h2 h3 h4 h5 h10 h11 h12;have hcm:=zn h3 h10 hF.ht hF.hcs;have hk:=OQ h h1;have HD:Hid (Calls prog 23 #[.string s,.int .i64 way,.string t] w λe w'=>DK ts cs ps e/\Below w.heap.size w w'):=by
   refine IQ w s t way h.1 ts cs ps _ h1 hF h5 h9 (DK ts cs ps) (λq=>absurd hw q) (λ_ q=>absurd (ht.symm.trans q) (by decide)) (λ_ _ q=>Or.inl ⟨rfl,?_⟩) (λ_ _ f hl q1 q2=>Or.inr ⟨f,hl,q1,q2,rfl,hcm.2 ⟨f,hl,q1,q2⟩⟩);exact af2 λe=>q (hcm.1 e)
  have HH:Hid (∀W f hl,hl.length=cs.length->Aa f ts cs ps hl->Calls prog 34 #[.string s,.string ⟨(wrt f ts.length hl).toArray⟩] W λe w'=>e=.returned (.tuple #[.bool true,.int .i64 0])/\Below W.heap.size W w'):=λW f hl q1 q2=>by
   have g:=O4 W s ⟨(wrt f ts.length hl).toArray⟩ (WR ⟨(wrt f ts.length hl).toArray⟩ ts.length) h.1 ts cs ps _ h1 h2 h3 h4 h5 h9 h10 h11 h12 (λx hx=>h5 x hx) (λhe=>Qh _ ts.length cs.length he);rw[Rf h2 h10 hF.ht hF.hcs q1 q2]at g;exact g
  have H0:Hid (zo ts cs ps=0->jH s=0):=λq=>by unfold jH;rw[hk];simp[q]
  have H1:Hid (zo ts cs ps≠0->jH s=1):=λq=>by unfold jH;rw[hk];simp[q]
  clear hF hcm hk h1 h2 h3 h4 h5 h6 h7 h8 h9 h10 h11 h12 h hm ht hw;generalize jH s=v at H0 H1;unfold DK at HD
  go_enter func24,ntmps24
  go_wp2_with fail
  refine(ah HD).mono ?_;rintro e w1 ⟨⟨rfl,q⟩|⟨f,hl,q1,q2,rfl,q⟩,b1⟩
  ·have hv:=ah H0 q;subst hv
   go_wp2_with fail
   go_ret
   exact⟨rfl,b1⟩
  ·have hv:=ah H1 q;subst hv;have g:=ah HH w1 f hl q1 q2;generalize (wrt f ts.length hl).toArray=m at g ⊢
   go_wp2_with fail
   refine g.mono ?_;rintro e w2 ⟨rfl,b2⟩
   go_wp2_with fail
   go_ret
   exact⟨rfl,b1.trans (b2.mono b1.size)⟩
 ·have hE:=Fh h;have hv:jH s = -1:=by unfold jH;rw[Jl h];simp[hE]
  rw[hv];have HD:=aj (IU w s t way hm hE);generalize (chk s).1=E at HD hE;have hb:(E != 0)=true:=by simpa using hE
  go_enter func24,ntmps24
  go_wp2_with fail
  refine(ah HD).mono ?_;rintro e w1 ⟨rfl,b1⟩
  go_wp2_with fail
  go_ret
  exact⟨rfl,b1⟩
end
section
open aB (Key put Inv jA texts dR dM aO)
open Ast
def Ua(f:Nat->Nat)(hl:List Bool)(ts:List Key)(cs:List (Int×Nat)):Prop:=hl.length=cs.length/\uf (λa b=>f a=f b) ts/\Du f cs hl
def Md(ts:List Key)(cs:List (Int×Nat))(v:List Int->List Bool->Bool):Prop:=∃f hl,Ua f hl ts cs/\v (vY f ts.length) hl=true
structure Good(ts:List Key)(cs:List (Int×Nat)):Prop where
 key:∀i (h:i<ts.length),dM i ts[i]
 nt:ts.Nodup
 cl:∀i (h:i<cs.length),cs[i].2<ts.length
 nc:cs.Nodup
theorem Dj{s:ByteArray}{txt:List UInt8}{dep:Nat}{run:List Key->List (Int×Nat)->List Key×List (Int×Nat)}{val:List Int->List Bool->List Key->List (Int×Nat)->Bool}(h:mF txt dep run val)(e:s.data.toList=txt)(hs:s.size<=100)(h0:(chk s).1=0) :
  (jH s=1↔Md (run [] []).1 (run [] []).2 (λcl hl=>val cl hl [] []))/\(jH s=0\/jH s=1)/\Good (run [] []).1 (run [] []).2:=by
 obtain⟨ts,cs,ps,h1,h2,h3,h4,h5,h6,h7,h8,h9,h10,h11,h12⟩:=kS s hs h0;have hF:=FF.of hs h1 h2 h3 h4 h5 h10 h11 h12;have hcm:=zn h3 h10 hF.ht hF.hcs;have hk:=OQ ⟨hs,h0⟩ h1;have hl:txt.length=s.size:=by rw[<-e];simp
 have hr:=h.reads (pk s) s.size (s.size+1) 0 0 [] [] [] (λ_ q=>bI q) (af4 _) (by rw[<-e];exact Uh s) (by omega) (by omega) ⟨aj2,λi hi=>by simp at hi⟩;by_cases hd:0+dep<=8
 ·obtain⟨ps1,m,hp,hv⟩:=hr.1 hd;rw[h1]at hp;injection hp with hp
  simp only[an2]at hp;obtain⟨_,e1,e2,e3,e4⟩:=hp;subst e3;have hc:jH s=if zo ts cs ps=0 then 0 else 1:=by
   unfold jH;rw[hk];simp
  refine⟨?_,?_,?_⟩
  ·rw[<-e1,<-e2];have q:jH s=1↔zo ts cs ps≠0:=by
    rw[hc];by_cases q:zo ts cs ps=0
    ·simp[q]
    ·simp[q]
   rw[q,hcm];constructor
   ·rintro⟨f,hl,g1,g2⟩;refine⟨f,hl,⟨g1,(iF f ts).1 g2.CZ,(kY f cs hl).1 g2.WT⟩,?_⟩
    show val _ _ [] []=true
    rw[<-hv,<-e4];exact g2.WO
   ·rintro⟨f,hl,⟨g1,g2,g3⟩,g4⟩;refine⟨f,hl,g1,(iF f ts).2 g2,(kY f cs hl).2 g3,?_⟩;replace g4:val (vY f ts.length) hl [] []=true:=g4;rw[<-hv,<-e4]at g4;exact g4
  ·rw[hc];by_cases q:zo ts cs ps=0
   ·simp[q]
   ·simp[q]
  ·rw[<-e1,<-e2];exact⟨h4.key,h4.nodup,λi hi=>(h5 _ (ab5 hi)).2,h9⟩
 ·obtain⟨p,hp⟩:=hr.2 hd;rw[h1]at hp;cases hp
theorem QJ{n:Nat}{k:Key}(h:dM n k):Arg n k:=by
 rcases h with⟨a,b,_⟩|⟨a,b,_⟩|⟨a,b,c⟩
 ·exact⟨λq=>by omega,λq=>by omega⟩
 ·exact⟨λ_=>b,λq=>by omega⟩
 ·exact⟨λ_=>b,λ_=>c⟩
theorem yZ{ts:List Key}(h:ts.Nodup):Q9 id [] ts:=⟨λi hi=>absurd hi (by simp),λi j hi=>absurd hi (by simp),λi hi=>absurd hi (by simp),h⟩
theorem uP{n:Nat}{cs:List (Int×Nat)}(h:cs.Nodup):Ac id id n [] cs:=⟨λi hi=>absurd hi (by simp),λi hi=>absurd hi (by simp),h⟩
theorem xH{σ ρ:Nat->Nat}{ts ts':List Key}{cs cs':List (Int×Nat)}(hG:Good ts cs)(hE:Q9 σ ts ts')(hC:Ac σ ρ ts.length cs cs'){f:Nat->Nat}{hl:List Bool}(h:Ua f hl ts' cs') :
  Ua (λi=>f (σ i)) ((List.range cs.length).map λi=>hl.getD (ρ i) false) ts cs:=by
 refine⟨by simp,λi j hi hj e1 e2 e3=>?_,λi j hi hj e1 e2=>?_⟩
 ·obtain⟨a1,a2⟩:=hE.at_ i hi;obtain⟨b1,b2⟩:=hE.at_ j hj;have ki:=hG.key i hi;have kj:=hG.key j hj;refine h.2.1 (σ i) (σ j) a1 b1 ?_ ?_ ?_
  ·rw[a2,b2];exact e1
  ·rw[a2,b2]
   show f (if ts[i].1=102\/ts[i].1=103 then σ ts[i].2.1 else ts[i].2.1)=f (if ts[j].1=102\/ts[j].1=103 then σ ts[j].2.1 else ts[j].2.1)
   by_cases q:ts[i].1=102\/ts[i].1=103
   ·rw[ad3 q,ad3 (by rw[<-e1];exact q)];exact e2
   ·rw[ac2 q,ac2 (by rw[<-e1];exact q)];rcases ki with ki|ki|ki
    ·rcases kj with kj|kj|kj
     ·rw[ki.2.2.1,kj.2.2.1]
     ·exact absurd (Or.inl (e1.trans kj.1)) q
     ·exact absurd (Or.inr (e1.trans kj.1)) q
    ·exact absurd (Or.inl ki.1) q
    ·exact absurd (Or.inr ki.1) q
  ·rw[a2,b2]
   show f (if ts[i].1=103 then σ ts[i].2.2 else ts[i].2.2)=f (if ts[j].1=103 then σ ts[j].2.2 else ts[j].2.2)
   by_cases q:ts[i].1=103
   ·rw[ad3 q,ad3 (by rw[<-e1];exact q)];exact e3
   ·rw[ac2 q,ac2 (by rw[<-e1];exact q)];have zi:ts[i].2.2=0:=by
     rcases ki with ki|ki|ki
     ·exact ki.2.2.2
     ·exact ki.2.2
     ·exact absurd ki.1 q
    have zj:ts[j].2.2=0:=by
     rcases kj with kj|kj|kj
     ·exact kj.2.2.2
     ·exact kj.2.2
     ·exact absurd (e1.trans kj.1) q
    rw[zi,zj]
 ·obtain⟨a1,a2⟩:=hC.at_ i hi;obtain⟨b1,b2⟩:=hC.at_ j hj;have g:=h.2.2 (ρ i) (ρ j) a1 b1 (by rw[a2,b2];exact e1) (by rw[a2,b2];exact e2);simpa[ad4,hi,hj]using g
theorem OA(k:Key):mkK id k=k:=by
 obtain⟨a,b,c⟩:=k;simp[mkK]
theorem TG{ts ts':List Key}(hk:∀i (h:i<ts.length),dM i ts[i])(hn:ts'.Nodup)(h:ts <+: ts'):Q9 id ts ts':=by
 refine⟨λi hi=>?_,λi j _ _ e=>e,λi hi=>QJ ((hk i hi).mono (an0 hi)),hn⟩;rw[OA];exact⟨ac7 hi h.length_le,(h.getElem hi).symm⟩
theorem Qd{n:Nat}{cs cs':List (Int×Nat)}(hk:∀i (h:i<cs.length),cs[i].2<n)(hn:cs'.Nodup)(h:cs <+: cs'):Ac id id n cs cs':=
 ⟨λ_ hi=>⟨ac7 hi h.length_le,(h.getElem hi).symm⟩,hk,hn⟩
theorem Qe{σ:Nat->Nat}{ts:List Key}(hk:∀i (h:i<ts.length),dM i ts[i])(h:Q9 σ ts ts):∀i,i<ts.length->σ i=i:=by
 refine λi=>Nat.strongRecOn i ?_;intro i ih hi;obtain⟨a,b⟩:=h.at_ i hi;rw[mk_congr (σ:=σ) (τ:=id) (n:=i) (λj hj=>ih j hj (by omega)) (QJ (hk i hi)),OA]at b;exact aB.lU h.nd a hi b
theorem MJ{σ ρ:Nat->Nat}{n:Nat}{cs:List (Int×Nat)}(h:Ac σ ρ n cs cs)(hs:∀i,i<n->σ i=i):∀i,i<cs.length->ρ i=i:=by
 intro i hi;obtain⟨a,b⟩:=h.at_ i hi;rw[hs _ (h.arg i hi)]at b;exact aB.lU h.nd a hi b
theorem DI{txt:List UInt8}{dep:Nat}{run:List Key->List (Int×Nat)->List Key×List (Int×Nat)}{val:List Int->List Bool->List Key->List (Int×Nat)->Bool}(h:mF txt dep run val)(hG:Good (run [] []).1 (run [] []).2){cl cl':List Int}{hl hl':List Bool}
 (h1:∀i j,i<(run [] []).1.length->j<(run [] []).1.length->(cl.getD i 0=cl.getD j 0↔cl'.getD i 0=cl'.getD j 0))(h2:∀i,i<(run [] []).2.length->hl.getD i false=hl'.getD i false):val cl hl [] []=val cl' hl' [] []:=by
 obtain⟨σ,ρ,_,_,m1,n1,v⟩:=h.nat [] [] [] [] id id (yZ aj2) (uP aj2);have s1:=Qe hG.key m1;have s2:=MJ n1 s1;refine v cl hl cl' hl' (λi j hi hj=>?_) (λi hi=>?_)
 ·rw[s1 i hi,s1 j hj];exact h1 i j hi hj
 ·rw[s2 i hi];exact h2 i hi
theorem Qq{ts:List Key}{f:Nat->Nat}(hk:∀i (h:i<ts.length),dM i ts[i])(h:uf (λa b=>f a=f b) ts){k:Key}(hkk:dM ts.length k):∃F:Nat->Nat,(∀i,i<ts.length->F i=f i)/\uf (λa b=>F a=F b) (ts++[k]):=by
 by_cases h0:ts.length=0
 ·have e:=af7 h0;subst e;refine⟨f,λ_ _=>rfl,λi j hi hj _ _ _=>?_⟩;simp at hi hj;subst hi;subst hj;rfl
 have lt1:∀{n:Nat} {x:Key},dM n x->n<=ts.length->x.2.1<ts.length/\x.2.2<ts.length:=fun {n x} q hn=>by
  rcases q with⟨_,_,a,b⟩|⟨_,a,b⟩|⟨_,a,b⟩<;>omega
 by_cases hj:∃j,∃hj:j<ts.length,ts[j].1=k.1/\f ts[j].2.1=f k.2.1/\f ts[j].2.2=f k.2.2
 ·obtain⟨j,hj,j1,j2,j3⟩:=hj;obtain⟨F,hF⟩:∃F:Nat->Nat,F=λi=>if i<ts.length then f i else f j:=⟨_,rfl⟩
  have F1:∀i,i<ts.length->F i=f i:=λi hi=>by rw[hF];simp[hi]
  have F2:F ts.length=f j:=by rw[hF];simp
  have kk:=lt1 hkk (ab3 _);have key:∀i (hi:i<ts.length),ts[i].1=k.1->F ts[i].2.1=F k.2.1->F ts[i].2.2=F k.2.2->F i=F ts.length:=λi hi e1 e2 e3=>by
   have ti:=lt1 (hk i hi) (an0 hi);rw[F1 _ ti.1,F1 _ kk.1]at e2;rw[F1 _ ti.2,F1 _ kk.2]at e3;rw[F1 i hi,F2];exact h i j hi hj (e1.trans j1.symm) (e2.trans j2.symm) (e3.trans j3.symm)
  refine⟨F,F1,λa b ha hb=>?_⟩;by_cases qa:a<ts.length
  ·by_cases qb:b<ts.length
   ·rw[ae2 qa,ae2 qb];intro e1 e2 e3;have ta:=lt1 (hk a qa) (an0 qa);have tb:=lt1 (hk b qb) (an0 qb);simp only[F1 _ ta.1,F1 _ tb.1]at e2;simp only[F1 _ ta.2,F1 _ tb.2]at e3
    show F a=F b
    rw[F1 a qa,F1 b qb];exact h a b qa qb e1 e2 e3
   ·have eb:b=ts.length:=(by simp at hb;omega);subst eb;rw[ae2 qa,ag4 (ab3 _)];simp only[Nat.sub_self,List.getElem_cons_zero];exact key a qa
  ·have ea:a=ts.length:=(by simp at ha;omega);subst ea;by_cases qb:b<ts.length
   ·rw[ae2 qb,ag4 (ab3 _)];simp only[Nat.sub_self,List.getElem_cons_zero];exact λe1 e2 e3=>(key b qb e1.symm e2.symm e3.symm).symm
   ·have eb:b=ts.length:=(by simp at hb;omega);subst eb;exact λ_ _ _=>rfl
 ·obtain⟨F,hF⟩:∃F:Nat->Nat,F=λi=>if i<ts.length then f i else ts.length:=⟨_,rfl⟩
  have F1:∀i,i<ts.length->F i=f i:=λi hi=>by rw[hF];simp[hi]
  have kk:=lt1 hkk (ab3 _);have key:∀i (hi:i<ts.length),ts[i].1=k.1->F ts[i].2.1=F k.2.1->F ts[i].2.2=F k.2.2->F i=F ts.length:=λi hi e1 e2 e3=>by
   have ti:=lt1 (hk i hi) (an0 hi);rw[F1 _ ti.1,F1 _ kk.1]at e2;rw[F1 _ ti.2,F1 _ kk.2]at e3;exact absurd ⟨i,hi,e1,e2,e3⟩ hj
  refine⟨F,F1,λa b ha hb=>?_⟩;by_cases qa:a<ts.length
  ·by_cases qb:b<ts.length
   ·rw[ae2 qa,ae2 qb];intro e1 e2 e3;have ta:=lt1 (hk a qa) (an0 qa);have tb:=lt1 (hk b qb) (an0 qb);simp only[F1 _ ta.1,F1 _ tb.1]at e2;simp only[F1 _ ta.2,F1 _ tb.2]at e3
    show F a=F b
    rw[F1 a qa,F1 b qb];exact h a b qa qb e1 e2 e3
   ·have eb:b=ts.length:=(by simp at hb;omega);subst eb;rw[ae2 qa,ag4 (ab3 _)];simp only[Nat.sub_self,List.getElem_cons_zero];exact key a qa
  ·have ea:a=ts.length:=(by simp at ha;omega);subst ea;by_cases qb:b<ts.length
   ·rw[ae2 qb,ag4 (ab3 _)];simp only[Nat.sub_self,List.getElem_cons_zero];exact λe1 e2 e3=>(key b qb e1.symm e2.symm e3.symm).symm
   ·have eb:b=ts.length:=(by simp at hb;omega);subst eb;exact λ_ _ _=>rfl
theorem MO(r:List Key):∀(ts:List Key) (f:Nat->Nat),(∀i (h:i<(ts++r).length),dM i (ts++r)[i])->uf (λa b=>f a=f b) ts->∃F:Nat->Nat,(∀i,i<ts.length->F i=f i)/\uf (λa b=>F a=F b) (ts++r):=by
 induction r with
 |nil=>exact λts f _ h=>⟨f,λ_ _=>rfl,by rw[ai7];exact h⟩
 |cons k r ih=>
  intro ts f hk h;have hk1:∀i (h:i<ts.length),dM i ts[i]:=λi hi=>by
   have:=hk i (by simp;omega)
   rwa [ae2 hi]at this
  have hk2:dM ts.length k:=by
   have:=hk ts.length (by simp)
   rwa [ag4 (ab3 _),show(k::r)[ts.length-ts.length]'(by simp)=k by simp]at this
  obtain⟨F,F1,F2⟩:=Qq hk1 h hk2;have e:ts++k::r=(ts++[k])++r:=by simp
  obtain⟨H,H1,H2⟩:=ih (ts++[k]) F (λi hi=>by
   have t:=hk i (by rw[e];exact hi);rw[List.getElem_of_eq e]at t;exact t) F2
  refine⟨H,λi hi=>(H1 i (by simp;omega)).trans (F1 i hi),?_⟩;rw[e];exact H2
theorem QM(F:Nat->Nat)(r:List (Int×Nat)):∀(cs:List (Int×Nat)) (hl:List Bool),hl.length=cs.length->Du F cs hl->∃l,hl <+: l/\l.length=(cs++r).length/\Du F (cs++r) l:=by
 induction r with
 |nil=>exact λcs hl h1 h2=>⟨hl,ah5 _,by simpa using h1,by rw[ai7];exact h2⟩
 |cons c r ih=>
  intro cs hl h1 h2;have e:cs++c::r=(cs++[c])++r:=by simp
  obtain⟨b,hb⟩:∃b:Bool,∀i (hi:i<cs.length),cs[i].1=c.1->F cs[i].2=F c.2->hl.getD i false=b:=by
   by_cases q:∃i,∃hi:i<cs.length,cs[i].1=c.1/\F cs[i].2=F c.2
   ·obtain⟨i,hi,q1,q2⟩:=q;exact⟨hl.getD i false,λj hj w1 w2=>h2 j i hj hi (w1.trans q1.symm) (w2.trans q2.symm)⟩
   ·exact⟨false,λi hi w1 w2=>absurd ⟨i,hi,w1,w2⟩ q⟩
  have g1:∀i,i<cs.length->(hl++[b]).getD i false=hl.getD i false:=λi hi=>by
   rw[ad4,ah4 (by omega),<-ad4]
  have g2:(hl++[b]).getD cs.length false=b:=by
   rw[ad4,ao8 (by omega)];simp[h1]
  have hA:Du F (cs++[c]) (hl++[b]):=by
   intro i j hi hj;by_cases qi:i<cs.length
   ·by_cases qj:j<cs.length
    ·rw[ae2 qi,ae2 qj,g1 i qi,g1 j qj];exact h2 i j qi qj
    ·have ej:j=cs.length:=(by simp at hj;omega);subst ej;rw[ae2 qi,ag4 (ab3 _),g1 i qi,g2];simp only[Nat.sub_self,List.getElem_cons_zero];exact hb i qi
   ·have ei:i=cs.length:=(by simp at hi;omega);subst ei;by_cases qj:j<cs.length
    ·rw[ae2 qj,ag4 (ab3 _),g1 j qj,g2];simp only[Nat.sub_self,List.getElem_cons_zero];exact λw1 w2=>(hb j qj w1.symm w2.symm).symm
    ·have ej:j=cs.length:=(by simp at hj;omega);subst ej;exact λ_ _=>rfl
  obtain⟨l,l1,l2,l3⟩:=ih (cs++[c]) (hl++[b]) (by simp[h1]) hA;exact⟨l,(ak8 _ _).trans l1,by rw[e];exact l2,by rw[e];exact l3⟩
theorem Nw{ts ts':List Key}{cs cs':List (Int×Nat)}(hG:Good ts' cs')(h1:ts <+: ts')(h2:cs <+: cs')(hc:∀i (h:i<cs.length),cs[i].2<ts.length){f:Nat->Nat}{hl:List Bool}(h:Ua f hl ts cs) :
  ∃F l,Ua F l ts' cs'/\(∀i,i<ts.length->F i=f i)/\∀i,i<cs.length->l.getD i false=hl.getD i false:=by
 obtain⟨r,rfl⟩:=h1;obtain⟨q,rfl⟩:=h2;obtain⟨F,F1,F2⟩:=MO r ts f hG.key h.2.1;have hA:Du F cs hl:=λi j hi hj e1 e2=>by
  rw[F1 _ (hc i hi),F1 _ (hc j hj)]at e2;exact h.2.2 i j hi hj e1 e2
 obtain⟨l,l1,l2,l3⟩:=QM F q cs hl h.1 hA;refine⟨F,l,⟨l2,F2,l3⟩,F1,λi hi=>?_⟩;obtain⟨z,rfl⟩:=l1;rw[ad4,ah4 (by rw[h.1];exact hi),<-ad4]
theorem jk{txt:List UInt8}{dep:Nat}{run:List Key->List (Int×Nat)->List Key×List (Int×Nat)}{val:List Int->List Bool->List Key->List (Int×Nat)->Bool}(h:mF txt dep run val){ts:List Key}{cs:List (Int×Nat)}(hG:Good ts cs):Good (run ts cs).1 (run ts cs).2:=by
 obtain⟨a,b⟩:=h.good ts cs ⟨hG.key,hG.nt⟩ ⟨hG.cl,hG.nc⟩;exact⟨a.1,a.2,b.1,b.2⟩
theorem lY:Good [] []:=⟨λi h=>absurd h (by simp),aj2,λi h=>absurd h (by simp),aj2⟩
theorem xA{f g:Nat->Nat}{σ:Nat->Nat}{n m k:Nat}(hk:k<=n)(hs:∀i,i<k->σ i<m)(e:∀i,i<k->f i=g (σ i)):∀i j,i<k->j<k->((vY f n).getD i 0=(vY f n).getD j 0↔(vY g m).getD (σ i) 0=(vY g m).getD (σ j) 0):=λi j hi hj=>by
 rw[gI f (show i<n by omega),gI f (show j<n by omega),gI g (hs i hi),gI g (hs j hj),e i hi,e j hj]
section
variable {t u:List UInt8} {d1 d2:Nat} {r1 r2:List Key->List (Int×Nat)->List Key×List (Int×Nat)} {v1 v2:List Int->List Bool->List Key->List (Int×Nat)->Bool}
theorem left_of(h:mF t d1 r1 v1)(g:mF u d2 r2 v2){f:Nat->Nat}{hl:List Bool}(hS:Ua f hl (r2 (r1 [] []).1 (r1 [] []).2).1 (r2 (r1 [] []).1 (r1 [] []).2).2)
 (hv:v1 (vY f (r2 (r1 [] []).1 (r1 [] []).2).1.length) hl [] []=true):Md (r1 [] []).1 (r1 [] []).2 (λcl hl=>v1 cl hl [] []):=by
 have G1:=jk h lY;have G2:=jk g G1;obtain⟨w1,w2⟩:=g.grow (r1 [] []).1 (r1 [] []).2;have hS1:=xH G1 (TG G1.key G2.nt w1) (Qd G1.cl G2.nc w2) hS;refine⟨_,_,hS1,?_⟩
 show v1 _ _ [] []=true
 rw[<-hv];refine DI h G1 (λi j hi hj=>?_) (λi hi=>?_)
 ·exact xA (σ:=id) (ab3 _) (λi hi=>ac7 hi w1.length_le) (λi _=>rfl) i j hi hj
 ·simp[ad4,hi]
theorem Ea(h:mF t d1 r1 v1)(g:mF u d2 r2 v2){f:Nat->Nat}{hl:List Bool}(hS:Ua f hl (r2 (r1 [] []).1 (r1 [] []).2).1 (r2 (r1 [] []).1 (r1 [] []).2).2)
 (hv:v2 (vY f (r2 (r1 [] []).1 (r1 [] []).2).1.length) hl (r1 [] []).1 (r1 [] []).2=true):Md (r2 [] []).1 (r2 [] []).2 (λcl hl=>v2 cl hl [] []):=by
 have G1:=jk h lY;have G2:=jk g lY;obtain⟨σ,ρ,_,_,m1,n1,v⟩:=g.nat [] [] (r1 [] []).1 (r1 [] []).2 id id (yZ G1.nt) (uP G1.nc);have hS1:=xH G2 m1 n1 hS;refine⟨_,_,hS1,?_⟩
 show v2 _ _ [] []=true
 rw[<-hv];refine v _ _ _ _ (λi j hi hj=>?_) (λi hi=>?_)
 ·exact xA (ab3 _) (λi hi=>(m1.at_ i hi).1) (λi _=>rfl) i j hi hj
 ·simp[ad4,hi]
theorem Je(h:mF t d1 r1 v1)(g:mF u d2 r2 v2)(hM:Md (r1 [] []).1 (r1 [] []).2 (λcl hl=>v1 cl hl [] [])) :
  ∃f hl,Ua f hl (r2 (r1 [] []).1 (r1 [] []).2).1 (r2 (r1 [] []).1 (r1 [] []).2).2/\v1 (vY f (r2 (r1 [] []).1 (r1 [] []).2).1.length) hl [] []=true:=by
 obtain⟨f,hl,hS,hv⟩:=hM;have G1:=jk h lY;have G2:=jk g G1;obtain⟨w1,w2⟩:=g.grow (r1 [] []).1 (r1 [] []).2;obtain⟨F,l,s1,s2,s3⟩:=Nw G2 w1 w2 G1.cl hS;refine⟨F,l,s1,?_⟩;replace hv:v1 (vY f (r1 [] []).1.length) hl [] []=true:=hv;rw[<-hv];refine DI h G1 (λi j hi hj=>?_) (λi hi=>s3 i hi);have q:=xA (f:=f) (g:=F) (σ:=id) (ab3 _) (λi hi=>ac7 hi w1.length_le) (λi hi=>(s2 i hi).symm) i j hi hj;exact q.symm
theorem Ol(h:mF t d1 r1 v1)(g:mF u d2 r2 v2)(hM:Md (r2 [] []).1 (r2 [] []).2 (λcl hl=>v2 cl hl [] [])) :
  ∃f hl,Ua f hl (r2 (r1 [] []).1 (r1 [] []).2).1 (r2 (r1 [] []).1 (r1 [] []).2).2/\v2 (vY f (r2 (r1 [] []).1 (r1 [] []).2).1.length) hl (r1 [] []).1 (r1 [] []).2=true:=by
 have G1:=jk h lY;have G2:=jk g lY;have G12:=jk g G1;have G21:=jk h G2;obtain⟨F,l,s1,s2⟩:=Je g h hM;obtain⟨w1,w2⟩:=h.grow (r2 [] []).1 (r2 [] []).2;obtain⟨σ1,ρ1,_,_,m1,n1,_⟩:=h.nat [] [] (r2 [] []).1 (r2 [] []).2 id id (yZ G2.nt) (uP G2.nc);obtain⟨σ2,ρ2,_,_,m2,n2,v⟩:=g.nat _ _ _ _ σ1 ρ1 m1 n1;obtain⟨e1,e2⟩:=g.nS [] [] _ _ w1 w2;rw[e1]at m2 n2;have hS:=xH G12 m2 n2 s1;refine⟨_,_,hS,?_⟩;rw[<-s2,<-e2];refine v _ _ _ _ (λi j hi hj=>?_) (λi hi=>?_)
 ·exact xA (ab3 _) (λi hi=>(m2.at_ i hi).1) (λi _=>rfl) i j hi hj
 ·simp[ad4,hi]
end
theorem rQ(p q:ByteArray)(hp:(chk p).1=0)(hq:(chk q).1=0)(sp:p.size<=100)(sq:q.size<=100) :
  (∀X:ByteArray,X.data.toList=40::(p.data.toList++38::(q.data.toList++[41]))->X.size<=100->(chk X).1=0->jH X=1->jH p=1/\jH q=1)/\
  (∀X:ByteArray,X.data.toList=40::(p.data.toList++124::(q.data.toList++[41]))->X.size<=100->(chk X).1=0->(jH X=1↔jH p=1\/jH q=1)):=by
 obtain⟨d1,r1,v1,h⟩:=UA p sp hp;obtain⟨d2,r2,v2,g⟩:=UA q sq hq;have a1:=(Dj h rfl sp hp).1;have a2:=(Dj g rfl sq hq).1;refine⟨λX e s c=>?_,λX e s c=>?_⟩
 ·have a:=(Dj (P7 (c:=38) (by decide) h g) e s c).1;rw[a,a1,a2];rintro⟨f,hl,hS,hv⟩;replace hv:(v1 (vY f (r2 (r1 [] []).1 (r1 [] []).2).1.length) hl [] []&&v2 (vY f (r2 (r1 [] []).1 (r1 [] []).2).1.length) hl (r1 [] []).1 (r1 [] []).2)=true:=hv;rw[Bool.and_eq_true]at hv;exact⟨left_of h g hS hv.1,Ea h g hS hv.2⟩
 ·have a:=(Dj (P7 (c:=124) (by decide) h g) e s c).1;rw[a,a1,a2];constructor
  ·rintro⟨f,hl,hS,hv⟩;replace hv:(v1 (vY f (r2 (r1 [] []).1 (r1 [] []).2).1.length) hl [] []||v2 (vY f (r2 (r1 [] []).1 (r1 [] []).2).1.length) hl (r1 [] []).1 (r1 [] []).2)=true:=hv;rw[Bool.or_eq_true]at hv;exact hv.imp (left_of h g hS) (Ea h g hS)
  ·rintro(hM|hM)
   ·obtain⟨f,hl,hS,hv⟩:=Je h g hM;refine⟨f,hl,hS,?_⟩
    show(v1 _ _ [] []||_)=true
    rw[hv,Bool.true_or]
   ·obtain⟨f,hl,hS,hv⟩:=Ol h g hM;refine⟨f,hl,hS,?_⟩
    show(v1 _ _ [] []||v2 _ _ _ _)=true
    rw[hv,Bool.or_true]
end
section
open Go.RowKit
theorem Y7:jH ⟨#[40,102,40,102,40,97,41,41,61,97,38,33,102,40,97,41,61,97,41]⟩=1:=by kernel_rfl
theorem Y6:jH ⟨#[33,97,61,98]⟩=1:=by kernel_rfl
theorem Y5:jH ⟨#[40,80,40,97,41,38,33,80,40,98,41,41]⟩=1:=by kernel_rfl
theorem Y4:jH ⟨#[40,97,61,98,38,33,102,40,97,41,61,102,40,98,41,41]⟩=0:=by kernel_rfl
theorem Y3:jH ⟨#[40,80,40,97,41,38,40,33,80,40,98,41,38,97,61,98,41,41]⟩=0:=by kernel_rfl
theorem Y2:jH ⟨#[40,102,40,102,40,102,40,97,41,41,41,61,97,38,40,102,40,102,40,97,41,41,61,97,38,33,102,40,97,41,61,97,41,41]⟩=0:=by kernel_rfl
theorem uX(s t:ByteArray){v:Int}(hv:jH s=v)(hm:s.size<=maxLen)(ht:dG t=false)(w:World)(way:Int)(hw:way=0\/way=1) :
  Calls prog 24 #[.string s,.int .i64 way,.string t] w λe w'=>e=.returned (.int .i64 v)/\Below w.heap.size w w':=by
 subst hv;exact tX w s t way hm hw ht
theorem Na(w:World):Calls prog 22 #[] w λe w'=>e=.returned (.bool true)/\Below w.heap.size w w':=by
 have H1:=aj (uX _ ⟨#[]⟩ Y7 (by decide) (by decide));have H2:=aj (uX _ ⟨#[55]⟩ Y6 (by decide) (by decide));have H3:=aj (uX _ ⟨#[57,49]⟩ Y5 (by decide) (by decide));have H4:=aj (uX _ ⟨#[]⟩ Y4 (by decide) (by decide));have H5:=aj (uX _ ⟨#[51]⟩ Y3 (by decide) (by decide));have H6:=aj (uX _ ⟨#[49,57]⟩ Y2 (by decide) (by decide))
 go_enter func22,ntmps22
 go_wp2_with fail
 go_loopw [1] (λiv wr=>∃k:Nat,k<=2/\iv=.int .i64 k/\Below w.heap.size w wr) (λiv wr=>2-(intOf iv).toNat)
 case atStart=>exact⟨0,by omega,rfl,af0 _ _⟩
 case round=>
  obtain⟨k,hk,rfl,hb⟩:=hrel;by_cases hlt:k<2
  ·have hbk:(k:Int)<2:=(by omega);have hw:(k:Int)=0\/(k:Int)=1:=by omega
   go_wp2_with fail
   refine(ah H1 wr k hw).mono ?_;rintro e w1 ⟨rfl,b1⟩;replace b1:=hb.trans (b1.mono hb.size)
   go_wp2_with fail
   refine(ah H2 w1 k hw).mono ?_;rintro e w2 ⟨rfl,b2⟩;replace b2:=b1.trans (b2.mono b1.size)
   go_wp2_with fail
   refine(ah H3 w2 k hw).mono ?_;rintro e w3 ⟨rfl,b3⟩;replace b3:=b2.trans (b3.mono b2.size)
   go_wp2_with fail
   refine(ah H4 w3 k hw).mono ?_;rintro e w4 ⟨rfl,b4⟩;replace b4:=b3.trans (b4.mono b3.size)
   go_wp2_with fail
   refine(ah H5 w4 k hw).mono ?_;rintro e w5 ⟨rfl,b5⟩;replace b5:=b4.trans (b5.mono b4.size)
   go_wp2_with fail
   refine(ah H6 w5 k hw).mono ?_;rintro e w6 ⟨rfl,b6⟩;replace b6:=b5.trans (b6.mono b5.size)
   go_wp2_with fail
   exact⟨⟨k+1,by omega,by go_num,b6⟩,by simp[intOf];omega⟩
  ·have hbk:¬(k:Int)<2:=by omega
   go_wp2_with fail
   exact ae3 (v:=.bool true) (by simp[results,results22,go_sem]) rfl ⟨rfl,hb⟩
end
open Go.ChangeShapes Go.WideShapes Go.ChangeAt Go.RowKit
open Go.ChangeMaps (open_string shut_string)
theorem tY{b:Nat}{w w1 w2:World}(h:Below b w w1)(g:Below w1.heap.size w1 w2)(hb:b<=w.heap.size):Below b w w2:=h.trans (g.mono (ad6 hb h.size))
theorem DZ(a:Array UInt8):(⟨a⟩:ByteArray).size=a.size:=rfl
theorem qF(s:ByteArray):jH s = -1\/jH s=0\/jH s=1:=by
 unfold jH;by_cases h:(Uj s).2=0
 ·rw[ad3 h];by_cases g:(Uj s).1=0
  ·rw[ad3 g];exact Or.inr (Or.inl rfl)
  ·rw[ac2 g];exact Or.inr (Or.inr rfl)
 ·rw[ac2 h];exact Or.inl rfl
theorem jP{s:ByteArray}(h:0<=jH s):s.size<=100/\(chk s).1=0:=af2 λn=>by
 have hE:=Fh n;unfold jH at h;rw[Jl n]at h;simp[hE]at h
theorem yx(p q:ByteArray)(c:UInt8):((⟨#[40]⟩:ByteArray)++p++⟨#[c]⟩++q++⟨#[41]⟩).data.toList=40::(p.data.toList++c::(q.data.toList++[41])):=by
 simp[ByteArray.data_append,Array.toList_append]
theorem Bj(p q:ByteArray) :
  (0<=jH (⟨#[40]⟩++p++⟨#[38]⟩++q++⟨#[41]⟩)->0<=jH p->0<=jH q->jH (⟨#[40]⟩++p++⟨#[38]⟩++q++⟨#[41]⟩)=1->jH p=1/\jH q=1)/\
  (0<=jH (⟨#[40]⟩++p++⟨#[124]⟩++q++⟨#[41]⟩)->0<=jH p->0<=jH q->(jH (⟨#[40]⟩++p++⟨#[124]⟩++q++⟨#[41]⟩)=1↔jH p=1\/jH q=1)):=by
 refine⟨λh1 h2 h3=>?_,λh1 h2 h3=>?_⟩
 ·have a:=jP h1;have b:=jP h2;have c:=jP h3;exact(rQ p q b.2 c.2 b.1 c.1).1 _ (yx p q 38) a.1 a.2
 ·have a:=jP h1;have b:=jP h2;have c:=jP h3;exact(rQ p q b.2 c.2 b.1 c.1).2 _ (yx p q 124) a.1 a.2
theorem zJ(w:World)(p q t:ByteArray)(hp:p.size<=140737488355328)(hq:q.size<=140737488355328) :
  Calls prog 12 #[.string p,.string q,.string t] w λe w'=>e=.returned (.bool true)/\Below w.heap.size w w':=by
 have H0:=aj Na;have HA:=aj (λw t way hw ht=>tX w p t way (by unfold maxLen;omega) hw ht);have HB:=aj (λw t way hw ht=>tX w q t way (by unfold maxLen;omega) hw ht);have HX:=aj (λw t way hw ht=>tX w (⟨#[40]⟩++p++⟨#[38]⟩++q++⟨#[41]⟩) t way (by unfold maxLen;simp only[ByteArray.size_append,DZ];simp;omega) hw ht);have HY:=aj (λw t way hw ht=>tX w (⟨#[40]⟩++p++⟨#[124]⟩++q++⟨#[41]⟩) t way (by unfold maxLen;simp only[ByteArray.size_append,DZ];simp;omega) hw ht);have H5:=aj (λw=>KP w t);have HL:=aj (Bj p q);have ha:=aj (qF p);have hb:=aj (qF q);have hx:=aj (qF (⟨#[40]⟩++p++⟨#[38]⟩++q++⟨#[41]⟩));have hy:=aj (qF (⟨#[40]⟩++p++⟨#[124]⟩++q++⟨#[41]⟩));generalize jH (⟨#[40]⟩++p++⟨#[38]⟩++q++⟨#[41]⟩)=x at HX HL hx;generalize jH (⟨#[40]⟩++p++⟨#[124]⟩++q++⟨#[41]⟩)=y at HY HL hy;generalize jH p=a at HA HL ha;generalize jH q=b at HB HL hb
 go_enter func12,ntmps12
 go_wp2_with fail
 refine(ah H0 _).mono ?_;rintro e w1 ⟨rfl,b1⟩
 go_wp2_with fail
 refine(ah H5 _).mono ?_;rintro e w2 ⟨⟨t1,rfl,ht1⟩,rfl⟩
 go_wp2_with fail
 refine(ah HA _ t1 0 (Or.inl rfl) ht1).mono ?_;rintro e w3 ⟨rfl,d⟩;have b3:=tY b1 d (ab3 _);clear d b1 ht1
 go_wp2_with fail
 refine(ah H5 _).mono ?_;rintro e w4 ⟨⟨t2,rfl,ht2⟩,rfl⟩
 go_wp2_with fail
 refine(ah HB _ t2 1 (Or.inr rfl) ht2).mono ?_;rintro e w5 ⟨rfl,d⟩;have b5:=tY b3 d (ab3 _);clear d b3 ht2
 go_wp2_with fail
 refine(ah HX _ ⟨#[]⟩ 1 (Or.inr rfl) (by decide)).mono ?_;rintro e w6 ⟨rfl,d⟩;have b6:=tY b5 d (ab3 _);clear d b5
 go_wp2_with fail
 refine(ah HY _ ⟨#[]⟩ 0 (Or.inl rfl) (by decide)).mono ?_;rintro e w7 ⟨rfl,d⟩;have b7:=tY b6 d (ab3 _);clear d b6 HA HB HX HY H0 H5 hp hq;rcases ah ha with rfl|rfl|rfl<;>rcases ah hb with rfl|rfl|rfl<;>rcases ah hx with rfl|rfl|rfl<;>rcases ah hy with rfl|rfl|rfl<;>clear ha hb hx hy<;>
  first
  |(exfalso;have l:=ah HL;clear HL b7;simp at l;done)
  |(clear HL;go_wp2_with fail;go_ret;exact⟨by simp,b7⟩)
theorem wF(os:Os)(started:os.Started)(H:Type)(enc:TypeId×Value->H) :
  ReturnsInHanded {} checked os 12 .any (Rows.strongerSpec.pre6 enc prog f12 Rows.strongerRow.domain false) (Rows.strongerSpec.post enc prog f12 false true false false):=by
 refine returnsInHanded_of_change_sized (C:=checked) Zw started (by kernel_rfl) func12
  (ChangeSpec.witness6 (enc:=enc) (C:=checked) false ⟨#[],#[.string ⟨#[]⟩,.string ⟨#[]⟩,.string ⟨#[]⟩],[]⟩ 8 (by kernel_rfl) (by kernel_rfl) (by kernel_rfl) (by kernel_rfl)) ?_
 intro W base args ds gs before hval0 hW hcnd hz _;have hval:∀(j:Nat) t v,f12.params[j]?=some t->args[j]?=some v->Value.okWide prog W .any base t v:=hval0;have hW':=hW;obtain⟨p,q,hA0,hV,rfl,hfz,hnd⟩:=hW;have hA:DataW.TrodAll enc prog W 0 (λ_=>true) true f12.params.toList args.toList ds p:=hA0;rw[params12]at hA hval;obtain⟨v0,vs0,d0,ds0,p0,q0,hargs,rfl,rfl,h0,r0⟩:=trodAll_cons hA;obtain⟨v1,vs1,d1,ds1,p1,q1,hargs1,rfl,rfl,h1,r1⟩:=trodAll_cons r0;obtain⟨v2,vs2,d2,ds2,p2,q2,aae,rfl,rfl,h2,r2⟩:=trodAll_cons r1;obtain⟨rfl,rfl,rfl⟩:=trodAll_nil r2;obtain rfl:args=#[v0,v1,v2]:=by cases args;simp_all
 obtain⟨rfl,rfl⟩:=trodVars_none hV;have k0:=h0;have k1:=h1;have k2:=h2;have lt0:∀x∈p0,x.block<W.heap.size:=by obtain⟨m,hm⟩:=k0;exact DataW.trod_lt m _ _ _ hm
 have lt1:∀x∈p1,x.block<W.heap.size:=by obtain⟨m,hm⟩:=k1;exact DataW.trod_lt m _ _ _ hm
 have lt2:∀x∈p2,x.block<W.heap.size:=by obtain⟨m,hm⟩:=k2;exact DataW.trod_lt m _ _ _ hm
 obtain⟨s,rfl,rfl,rfl,hs⟩:=open_string underlying9 (hval 0 9 v0 rfl rfl) h0;obtain⟨t,rfl,rfl,rfl,ht⟩:=open_string underlying9 (hval 1 9 v1 rfl rfl) h1;obtain⟨u,rfl,rfl,rfl,hu⟩:=open_string underlying9 (hval 2 9 v2 rfl rfl) h2;have h2:=reachBytes_lt;have hsz:s.size<=140737488355328:=by
  have h1:=sized_string (j:=0) (t:=9) hz (by show(f12.params.toList++_)[0]?=_;rw[params12];rfl) rfl;have h3:s.data.toList.length=s.size:=by simp
  omega
 have htz:t.size<=140737488355328:=by
  have h1:=sized_string (j:=1) (t:=9) hz (by show(f12.params.toList++_)[1]?=_;rw[params12];rfl) rfl;have h3:t.data.toList.length=t.size:=by simp
  omega
 clear hA0 hval0;refine(zJ W s t u hsz htz).mono λe W' ⟨he,bel⟩=>?_;subst he;exact⟨_,rfl,_,_,_,[],_,[],hW',trodAll_mk1 (shut_bool underlying4 _),(trodAll_cons_mk (Below.trod yw (by kernel_rfl) (of_decide_eq_true (by kernel_rfl)) k0 bel lt0) (trodAll_cons_mk (Below.trod yw (by kernel_rfl) (of_decide_eq_true (by kernel_rfl)) k1 bel lt1) (trodAll_cons_mk (Below.trod yw (by kernel_rfl) (of_decide_eq_true (by kernel_rfl)) k2 bel lt2) trodAll_mk0))),rfl,bel.frame _,λh=>by cases h⟩
theorem stronger_holds:Rows.StrongerSaid:=
 OpenClaim.holds_of_wide 12 f12 rfl rfl rfl rfl rfl rfl rfl ⟨rfl,rfl,rfl,rfl,rfl⟩ rfl rfl rfl rfl rfl (by kernel_rfl) func12 (by kernel_rfl)
  (of_decide_eq_true (by kernel_rfl)) (by unfold Func.isWrapper;first|(rw[ad3 (by decide +kernel)];kernel_rfl)|(rw[ac2 (by decide +kernel)];exact⟨rfl,rfl⟩))
  (λos started H enc _=>wF os started H enc)
end Go.Proofs.YthcppbmkacbbiaaGreat
