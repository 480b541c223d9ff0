import Derived.Test.YthcppbmkacbbiaaGreatZBW
set_option linter.unusedSimpArgs false
set_option maxHeartbeats 2000000
set_option maxRecDepth 100000
namespace Go.Proofs.YthcppbmkacbbiaaGreat
open Go.Proofs.Tryz
section
open Go.RowKit Go.Maps Go.WideMaps
open au (Key put dX aA isAtom cnt bI gy)
attribute [local go_sem] Oper.semAt_some
theorem FF.of{s:ByteArray}{ts:List Key}{cs:List (Int×Nat)}{ps:List Key}{m:Nat}(hs:s.size<=100)(hR:au.jq (pk s) (s.size+1) 0 0 [] [] []=.ok (s.size,ts,cs,ps,m))(h7:ts.length<=7)(h4:cs.length<=4)(hi:au.Inv ts)(hic:au.iZ ts cs)(su:bI ts.length cs.length ps)(hp0:0<ps.length)(hp:ps.length<=100):FF ts cs ps:=by
 have hz:=au.Rl (pk:=pk s) (N:=s.size) (λa h=>dD h) (s.size+1) 0 0 [] [] [] (by omega);rw[hR]at hz;obtain⟨_,z1,z2,z3⟩:=hz;have e1:cnt aA []=0:=rfl;have e2:cnt isAtom []=0:=rfl;have hk:gy cs ps:=z3 ⟨λq hq=>by(cases hq),λc h=>absurd h (by simp)⟩;refine⟨h7,Di hic su hp0,h4,hp0,hp,hi,su,hk,λi hi'=>?_,λx hx=>hic x hx,by omega,by omega⟩;have hkey:=hi.key i hi';rcases hkey with⟨_,_,h3,h4⟩|⟨_,h2,h3⟩|⟨_,h2,h3⟩<;>omega
theorem KZ(w:World)(GT GC GP:Nat)(ts:List Key)(cs:List (Int×Nat))(ps:List Key)(tape:ByteArray)(way:Int)(hw:way=0\/way=1)(hF:FF ts cs ps)(hd:yG tape.data.toList)(h60:tape.size<=60)(hrt:dU w GT ts)(hrc:iF w GC cs)(hrp:dU w GP ps) :
  Calls prog 33 #[fv GT GC GP ts.length cs.length ps.length,.int .i64 way,.string tape] w λe w'=>FK ts cs ps e/\Below w.heap.size w w':=by
 have hb0:∀o,Below w.heap.size w (w.alloc o):=λo=>(ai7 _ w).alloc (af0 _) _;have H0:=aj (λo=>yD (w.alloc o) GT GC GP ts cs ps tape hF hd h60 (hrt.below (hb0 o) hrt.1) (hrc.below (hb0 o) hrc.1) (hrp.below (hb0 o) hrp.1));have H1:=aj (λo=>yE (w.alloc o) GT GC GP ts cs ps tape hF hd h60 (hrt.below (hb0 o) hrt.1) (hrc.below (hb0 o) hrc.1) (hrp.below (hb0 o) hrp.1));have hR:Hid (∀o e w',FK ts cs ps e/\Below (w.alloc o).heap.size (w.alloc o) w'->∃(b:Bool) (m:ByteArray),e=.returned (.tuple #[.bool b,.string m])/\FK ts cs ps (.returned (.tuple #[.bool b,.string m]))/\Below w.heap.size w w'):=λo e w' ⟨h,hb⟩=>by
  have hb2:Below w.heap.size w w':=(hb0 o).trans (hb.mono (by simp));rcases id h with⟨rfl,_⟩|⟨f,hl,_,_,rfl⟩
  ·exact⟨_,_,rfl,h,hb2⟩
  ·exact⟨_,_,rfl,h,hb2⟩
 clear hF hd hrt hrc hrp hb0;generalize FK ts cs ps=DE at H0 H1 hR ⊢;unfold fv at H0 H1 ⊢;rcases hw with rfl|rfl
 ·go_enter func33,ntmps33
  go_wp2_with fail
  refine(ah H0 _).mono ?_;intro e w1 h;obtain⟨b,m,rfl,h1,h2⟩:=ah hR _ e w1 h;have Q1:=aj h1;have Q2:=aj h2;clear h h1 h2
  go_wp2_with fail
  exact ah7 (v:=.tuple #[.bool b,.string m]) (by simp[results,results33,go_sem]) rfl ⟨ah Q1,ah Q2⟩
 ·go_enter func33,ntmps33
  go_wp2_with fail
  refine(ah H1 _).mono ?_;intro e w1 h;obtain⟨b,m,rfl,h1,h2⟩:=ah hR _ e w1 h;have Q1:=aj h1;have Q2:=aj h2;clear h h1 h2
  go_wp2_with fail
  exact ah7 (v:=.tuple #[.bool b,.string m]) (by simp[results,results33,go_sem]) rfl ⟨ah Q1,ah Q2⟩
theorem ET{t:ByteArray}(h:dR t=false):yG t.data.toList/\t.size<=60:=by
 unfold dR at h;simp only[Bool.or_eq_false_iff,decide_eq_false_iff_not,List.any_eq_false]at h;refine⟨λc hc=>?_,by omega⟩;have:=h.2 c hc;unfold eu at this;simp at this;omega
theorem L9(w:World)(s tape:ByteArray)(way:Int)(hm:s.size<=maxLen)(hE:(chk s).1≠0) :
  Calls prog 23 #[.string s,.int .i64 way,.string tape] w λe w'=>e=.returned (.tuple #[.bool false,.string ⟨#[]⟩,.int .i64 (chk s).1])/\Below w.heap.size w w':=by
 have HR:=aj (λw=>RD w s hm);generalize chk s=c at HR hE;have hb:(c.1 != 0)=true:=by simpa using hE
 go_enter func23,ntmps23
 go_wp2_with fail
 refine((ah HR) _).mono ?_;rintro e w1 ⟨⟨p0,n0,c0,p1,n1,c1,p2,n2,c2,rfl⟩,h1⟩;have HH:=aj h1;clear h1
 go_wp2_with fail
 exact ah7 (v:=.tuple #[.bool false,.string ⟨#[]⟩,.int .i64 c.1]) (by simp[results,results23,go_sem]) rfl ⟨rfl,(ah HH).alloc (ah HH).size _⟩
theorem LZ(w:World)(s tape:ByteArray)(way:Int)(hs:s.size<=100)(ts:List Key)(cs:List (Int×Nat))(ps:List Key)(mm:Nat)(HR:au.jq (pk s) (s.size+1) 0 0 [] [] []=.ok (s.size,ts,cs,ps,mm))(hF:FF ts cs ps)(hic:au.iZ ts cs)(hnd:cs.Nodup)(DT:Ending->Prop)
 (h5:¬(way=0\/way=1)->DT (.returned (.tuple #[.bool false,.string ⟨#[]⟩,.int .i64 5])))(h7:(way=0\/way=1)->dR tape=true->DT (.returned (.tuple #[.bool false,.string ⟨#[]⟩,.int .i64 7])))
 (hno:(way=0\/way=1)->dR tape=false->(¬∃f hl,hl.length=cs.length/\FH f ts cs ps hl)->DT (.returned (.tuple #[.bool false,.string ⟨#[]⟩,.int .i64 0])))
 (hyes:(way=0\/way=1)->dR tape=false->∀f hl,hl.length=cs.length->FH f ts cs ps hl->DT (.returned (.tuple #[.bool true,.string ⟨(wrt f ts.length hl).toArray⟩,.int .i64 0]))) :
  Calls prog 23 #[.string s,.int .i64 way,.string tape] w λe w'=>DT e/\Below w.heap.size w w':=by
 have HO:=aj (zD w s hs ts cs ps mm HR hF.h7 hF.h4 hF.inv hic hnd hF.su hF.hp);have HDT:Hid (∀e,FK ts cs ps e->(way=0\/way=1)->dR tape=false->∃(b:Bool) (m:ByteArray),e=.returned (.tuple #[.bool b,.string m])/\DT (.returned (.tuple #[.bool b,.string m,.int .i64 0]))):=λe h hw ht=>by
  rcases h with⟨rfl,h⟩|⟨f,hl,h1,h2,rfl⟩
  ·exact⟨_,_,rfl,hno hw ht h⟩
  ·exact⟨_,_,rfl,hyes hw ht f hl h1 h2⟩
 have HFV:=aj h5;have HSV:=aj h7;have HTP:=aj (λw=>JM w tape);have HDG:Hid (dR tape=false->yG tape.data.toList/\tape.size<=60):=λh=>ET h;have HDE:Hid (∀W GT GC GP,(way=0\/way=1)->dR tape=false->dU W GT ts->iF W GC cs->dU W GP ps->Calls prog 33 #[fv GT GC GP ts.length cs.length ps.length,.int .i64 way,.string tape] W λe w'=>FK ts cs ps e/\Below W.heap.size W w'):=λW GT GC GP hw ht h1 h2 h3=>
  KZ W GT GC GP ts cs ps tape way hw hF (ET ht).1 (ET ht).2 h1 h2 h3
 generalize FK ts cs ps=DE at HDT HDE;clear hF hic HR hnd h5 h7 hno hyes;unfold fv at HO HDE;generalize dR tape=nt at HDT HSV HTP HDG HDE
 go_enter func23,ntmps23
 go_wp2_with fail
 refine(ah HO).mono ?_;rintro e w1 ⟨GT,GC,GP,rfl,h1,hfr⟩;have M1:=aj (MK hfr.t);have M2:=aj (Wq hfr.c);have M3:=aj (MK hfr.p);have HH1:=aj h1;clear HO hfr h1;by_cases hw:way=0\/way=1
 ·have hwb:¬(way≠0/\way≠1):=by omega
  have hwc:((way != 0)&&(way != 1))=false:=by rcases hw with rfl|rfl<;>rfl
  obtain⟨w2,hw2⟩:∃w2,w1.alloc (.cells #[.slice (some ⟨GT,0,none⟩) ts.length ts.length,.slice (some ⟨GC,0,none⟩) cs.length cs.length,.slice (some ⟨GP,0,none⟩) ps.length ps.length] 54)=w2:=⟨_,rfl⟩;have hb2:Below w1.heap.size w1 w2:=by rw[<-hw2];exact(ai7 _ w1).alloc (af0 _) _
  have hx2:w2.heap[w1.heap.size]?=some (.cells #[.slice (some ⟨GT,0,none⟩) ts.length ts.length,.slice (some ⟨GC,0,none⟩) cs.length cs.length,.slice (some ⟨GP,0,none⟩) ps.length ps.length] 54 (0,0)):=by rw[<-hw2];exact ag4 _ _
  have HB2:=aj hb2;have HX2:=aj hx2;have HW:=aj hw;have X0:=aj (ah HTP w2);clear hb2 hx2 hwb hwc;cases nt
  ·have main:∀W,way=W->(W=0\/W=1)->True:=λ_ _ _=>trivial;rcases hw with rfl|rfl
   ·go_wp2_with fail
    refine(ah X0).mono ?_;rintro e w3 ⟨rfl,h3⟩;have hx3:=(h3.block _ (ae8.1 (ah HX2)).1).trans (ah HX2);have q0:w3.cell? ⟨w1.heap.size,0,none⟩=some (.slice (some ⟨GT,0,none⟩) ts.length ts.length):=(by rw[cell_of hx3];rfl);have q1:w3.cell? ⟨w1.heap.size,1,none⟩=some (.slice (some ⟨GC,0,none⟩) cs.length cs.length):=(by rw[cell_of hx3];rfl);have q2:w3.cell? ⟨w1.heap.size,2,none⟩=some (.slice (some ⟨GP,0,none⟩) ps.length ps.length):=(by rw[cell_of hx3];rfl);have hb13:Below w1.heap.size w1 w3:=(ah HB2).trans (h3.mono (ah HB2).size);have hde:=ah HDE w3 GT GC GP (ah HW) (by trivial) ((ah M1).below hb13 (ah M1).1) ((ah M2).below hb13 (ah M2).1) ((ah M3).below hb13 (ah M3).1);have HB3:=aj ((ah HH1).trans (hb13.mono (ah HH1).size));clear hx3 h3 hb13 hw2
    go_wp2_with fail
    refine hde.mono ?_;intro e w4 h;obtain⟨b,m,rfl,hdt⟩:=ah HDT e h.1 (ah HW) (by trivial);have HB4:=aj ((ah HB3).trans (h.2.mono (ah HB3).size));have HQ:=aj hdt;clear h hdt hde q0 q1 q2
    go_wp2_with fail
    exact ah7 (v:=.tuple #[.bool b,.string m,.int .i64 0]) (by simp[results,results23,go_sem]) rfl ⟨ah HQ,ah HB4⟩
   ·go_wp2_with fail
    refine(ah X0).mono ?_;rintro e w3 ⟨rfl,h3⟩;have hx3:=(h3.block _ (ae8.1 (ah HX2)).1).trans (ah HX2);have q0:w3.cell? ⟨w1.heap.size,0,none⟩=some (.slice (some ⟨GT,0,none⟩) ts.length ts.length):=(by rw[cell_of hx3];rfl);have q1:w3.cell? ⟨w1.heap.size,1,none⟩=some (.slice (some ⟨GC,0,none⟩) cs.length cs.length):=(by rw[cell_of hx3];rfl);have q2:w3.cell? ⟨w1.heap.size,2,none⟩=some (.slice (some ⟨GP,0,none⟩) ps.length ps.length):=(by rw[cell_of hx3];rfl);have hb13:Below w1.heap.size w1 w3:=(ah HB2).trans (h3.mono (ah HB2).size);have hde:=ah HDE w3 GT GC GP (ah HW) (by trivial) ((ah M1).below hb13 (ah M1).1) ((ah M2).below hb13 (ah M2).1) ((ah M3).below hb13 (ah M3).1);have HB3:=aj ((ah HH1).trans (hb13.mono (ah HH1).size));clear hx3 h3 hb13 hw2
    go_wp2_with fail
    refine hde.mono ?_;intro e w4 h;obtain⟨b,m,rfl,hdt⟩:=ah HDT e h.1 (ah HW) (by trivial);have HB4:=aj ((ah HB3).trans (h.2.mono (ah HB3).size));have HQ:=aj hdt;clear h hdt hde q0 q1 q2
    go_wp2_with fail
    exact ah7 (v:=.tuple #[.bool b,.string m,.int .i64 0]) (by simp[results,results23,go_sem]) rfl ⟨ah HQ,ah HB4⟩
  ·rcases hw with rfl|rfl
   ·go_wp2_with fail
    refine(ah X0).mono ?_;rintro e w3 ⟨rfl,h3⟩;have hb13:Below w1.heap.size w1 w3:=(ah HB2).trans (h3.mono (ah HB2).size);have HB3:=aj ((ah HH1).trans (hb13.mono (ah HH1).size));clear h3 hb13 hw2
    go_wp2_with fail
    exact ah7 (v:=.tuple #[.bool false,.string ⟨#[]⟩,.int .i64 7]) (by simp[results,results23,go_sem]) rfl ⟨ah HSV (ah HW) (by trivial),ah HB3⟩
   ·go_wp2_with fail
    refine(ah X0).mono ?_;rintro e w3 ⟨rfl,h3⟩;have hb13:Below w1.heap.size w1 w3:=(ah HB2).trans (h3.mono (ah HB2).size);have HB3:=aj ((ah HH1).trans (hb13.mono (ah HH1).size));clear h3 hb13 hw2
    go_wp2_with fail
    exact ah7 (v:=.tuple #[.bool false,.string ⟨#[]⟩,.int .i64 7]) (by simp[results,results23,go_sem]) rfl ⟨ah HSV (ah HW) (by trivial),ah HB3⟩
 ·have h0:¬way=0:=λe=>hw (Or.inl e);have h1:¬way=1:=λe=>hw (Or.inr e);have hb0:(way != 0)=true:=by simpa using h0
  have hb1:(way != 1)=true:=by simpa using h1
  have HW:=aj hw;clear hw h0 h1
  go_wp2_with fail
  exact ah7 (v:=.tuple #[.bool false,.string ⟨#[]⟩,.int .i64 5]) (by simp[results,results23,go_sem]) rfl ⟨ah HFV (ah HW),(ah HH1).alloc (ah HH1).size _⟩
end
section
open Go.RowKit Go.Maps Go.WideMaps
open au (Key put dX aA isAtom cnt bI gy)
def Yz(s tape:ByteArray)(way:Int)(e:Ending):Prop:=
 ∃sat m errno,e=.returned (.tuple #[.bool sat,.string m,.int .i64 errno])/\m.size<=maxLen/\EZ (sQ s) (uV s m) way (dR tape) sat m errno=true
theorem U7{n way:Int}{h:Bool×Int}{bad:Bool}(hw:¬(way=0\/way=1)):EZ (n,0) h way bad false ⟨#[]⟩ 5=true:=by
 have hw':way<0\/1<way:=by omega
 have he:(⟨#[]⟩:ByteArray).size=0:=rfl;simp[EZ,hw',he]
theorem Qa{n way:Int}{h:Bool×Int}{bad:Bool}(hw:way=0\/way=1)(hb:bad=true):EZ (n,0) h way bad false ⟨#[]⟩ 7=true:=by
 have hw':¬(way<0\/1<way):=by omega
 have he:(⟨#[]⟩:ByteArray).size=0:=rfl;simp[EZ,hw',he,hb]
theorem adV{way:Int}{h:Bool×Int}(hw:way=0\/way=1):EZ (0,0) h way false false ⟨#[]⟩ 0=true:=by
 have hw':¬(way<0\/1<way):=by omega
 have he:(⟨#[]⟩:ByteArray).size=0:=rfl;simp[EZ,hw',he]
theorem adU{n way:Int}{m:ByteArray}(hn:n≠0)(hw:way=0\/way=1):EZ (n,0) (true,0) way false true m 0=true:=by
 have hw':¬(way<0\/1<way):=by omega
 simp[EZ,hw',hn]
theorem Lc{n E way:Int}{h:Bool×Int}{bad:Bool}(hE:E≠0):EZ (n,E) h way bad false ⟨#[]⟩ E=true:=by
 have he:(⟨#[]⟩:ByteArray).size=0:=rfl;simp[EZ,hE,he]
theorem Mc(w:World)(s tape:ByteArray)(way:Int)(hm:s.size<=maxLen) :
  Calls prog 23 #[.string s,.int .i64 way,.string tape] w λe w'=>Yz s tape way e/\Below w.heap.size w w':=by
 by_cases h:s.size<=100/\(chk s).1=0
 ·obtain⟨ts,cs,ps,h1,h2,h3,h4,h5,h6,h7,h8,h9,h10,h11,h12⟩:=l9 s h.1 h.2;have hF:=FF.of h.1 h1 h2 h3 h4 h5 h10 h11 h12;have hct:sQ s=(((Vt ts cs ps:Nat):Int),0):=by
   unfold sQ;rw[af9 h,h6];simp only;rw[all_eq s ts cs ps h1 h3 h4 h5]
  have hcm:=Ll h3 h10 hF.ht hF.hcs;refine LZ w s tape way h.1 ts cs ps _ h1 hF h5 h9 (Yz s tape way) (λhw=>⟨_,_,_,rfl,ah9 _,by rw[hct];exact U7 hw⟩) (λhw ht=>⟨_,_,_,rfl,ah9 _,by rw[hct];exact Qa hw ht⟩) (λhw ht hn=>⟨_,_,_,rfl,ah9 _,?_⟩) (λhw ht f hl hl1 hl2=>⟨_,_,_,rfl,?_,?_⟩)
  ·have:Vt ts cs ps=0:=ai0 λe=>hn (hcm.1 e);rw[hct,this,ht];exact adV hw
  ·show(wrt f ts.length hl).toArray.size<=maxLen
   have:=vU f ts.length;unfold maxLen;simp[wrt,bits,this,hl1];omega
  ·have hmt:uV s ⟨(wrt f ts.length hl).toArray⟩=(true,0):=by
    unfold uV;rw[af9 h,h6];exact NQ h1 h2 h4 h5 h10 hF.ht hF.hcs hl1 hl2
   have hn:=hcm.2 ⟨f,hl,hl1,hl2⟩;rw[hct,hmt,ht];exact adU (by omega) hw
 ·have hE:=Bo h;refine(L9 w s tape way hm hE).mono ?_;rintro e w' ⟨rfl,hb⟩;refine⟨⟨_,_,_,rfl,ah9 _,?_⟩,hb⟩;unfold sQ;rw[af6 h];exact Lc hE
end
section
open Go.RowKit
attribute [local go_sem] Oper.semAt_some
theorem Ej(w:World)(n:Int)(s t:ByteArray)(hm:s.size<=maxLen)(ht:t.size<=maxLen) :
  Calls prog 29 #[.agg #[.int .i64 5,.int .i64 n,.string s,.string t]] w λe w'=>e=.returned (.bool true)/\Below w.heap.size w w':=by
 have H1:=aj (λw=>Mc w s t n hm);have H2:Hid (∀(W:World) (m:ByteArray) (sat:Bool) (errno:Int),m.size<=maxLen->EZ (sQ s) (uV s m) n (dR t) sat m errno=true->Calls prog 41 #[.string s,.int .i64 n,.string t,.bool sat,.string m,.int .i64 errno] W λe w'=>e=.returned (.bool true)/\Below W.heap.size W w'):=λW m sat errno h1 h2=>FD W s t m n errno sat hm ht h1 h2;obtain⟨w0,hw0⟩:∃w0,w.alloc (.cells #[.int .i64 5,.int .i64 n,.string s,.string t] 48)=w0:=⟨_,rfl⟩;have hb0:Below w.heap.size w w0:=by rw[<-hw0];exact(ai7 _ w).alloc (af0 _) _
 have hx0:w0.heap[w.heap.size]?=some (.cells #[.int .i64 5,.int .i64 n,.string s,.string t] 48 (0,0)):=by rw[<-hw0];exact ag4 _ _
 have q0:w0.cell? ⟨w.heap.size,0,none⟩=some (.int .i64 5):=by rw[cell_of hx0];rfl
 have q1:w0.cell? ⟨w.heap.size,1,none⟩=some (.int .i64 n):=by rw[cell_of hx0];rfl
 have q2:w0.cell? ⟨w.heap.size,2,none⟩=some (.string s):=by rw[cell_of hx0];rfl
 have q3:w0.cell? ⟨w.heap.size,3,none⟩=some (.string t):=by rw[cell_of hx0];rfl
 have hH1:=ah H1 w0;have hs0:w.heap.size<w0.heap.size:=(ae8.1 hx0).1
 go_enter func29,ntmps29
 go_wp2_with fail
 clear hw0;refine hH1.mono ?_;rintro e w1 ⟨⟨sat,m,errno,rfl,hmm,hd⟩,b1⟩;have HD:=aj hd;have hSt:Hid (∀W',Below w1.heap.size w1 W'->W'.cell? ⟨w.heap.size,1,none⟩=some (.int .i64 n)/\W'.cell? ⟨w.heap.size,2,none⟩=some (.string s)/\W'.cell? ⟨w.heap.size,3,none⟩=some (.string t)):=λW' hW=>by
  have hb:=b1.trans (hW.mono b1.size);have hx:=(hb.block w.heap.size hs0).trans hx0;exact⟨by rw[cell_of hx];rfl,by rw[cell_of hx];rfl,by rw[cell_of hx];rfl⟩
 have HB1:=aj (hb0.trans (b1.mono (by omega)));clear hH1 b1 hd q0 q1 q2 q3 hx0
 go_wp2_with fail
 refine aj0 (S:=λW'=>Below w1.heap.size w1 W') rfl ?_;have hS0:Below w1.heap.size w1 w1.drew:=(ai7 _ _).drew;simp only[ag3,ag0,ah0,Nat.reduceAdd,af8,af7,ag5,ag9,ag7];change wpAnyH prog .any _ _ _ _ _ _ w1.drew;refine tH 0 (.pointer (some ⟨w.heap.size,2,none⟩)) (λw' hS=>?_) hS0 ?_
 ·go_simp
 simp only[aG];refine tH 1 (.string s) (λw' hS=>?_) hS0 ?_
 ·obtain⟨s1,s2,s3⟩:=ah hSt _ hS;go_simp
 simp only[aG];refine tH 2 (.pointer (some ⟨w.heap.size,1,none⟩)) (λw' hS=>?_) hS0 ?_
 ·go_simp
 simp only[aG];refine tH 3 (.int .i64 n) (λw' hS=>?_) hS0 ?_
 ·obtain⟨s1,s2,s3⟩:=ah hSt _ hS;go_simp
 simp only[aG];refine tH 4 (.pointer (some ⟨w.heap.size,3,none⟩)) (λw' hS=>?_) hS0 ?_
 ·go_simp
 simp only[aG];refine tH 5 (.string t) (λw' hS=>?_) hS0 ?_
 ·obtain⟨s1,s2,s3⟩:=ah hSt _ hS;go_simp
 simp only[aG];refine tH 6 (.bool sat) (λw' hS=>?_) hS0 ?_
 ·go_simp
 simp only[aG];refine tH 7 (.string m) (λw' hS=>?_) hS0 ?_
 ·go_simp
 simp only[aG];refine tH 8 (.int .i64 errno) (λw' hS=>?_) hS0 ?_
 ·go_simp
 simp only[aG];refine oH 9 (λK hK=>?_);go_simp;refine(WX _ _).mono ?_;rintro e w3 ⟨rfl,rfl⟩;replace hS0:=hS0;refine hK.out _ _ hS0 ?_;clear hK K;refine oH 10 (λK hK=>?_);go_simp;refine(ah H2 _ m sat errno hmm (ah HD)).mono ?_;rintro e w4 ⟨rfl,hb4⟩;replace hS0:=hS0.trans (hb4.mono hS0.size);refine hK.out _ _ hS0 ?_;clear hK K;have HS4:=aj hS0;clear hb4;refine oH 11 (λK hK=>?_);go_simp;refine hK.out _ _ (hS0) (ai8 (by kernel_rfl) ?_ _);clear hK K;clear hS0
 go_wp2_with fail
 exact ah7 (v:=.bool true) (by simp[results,results29,go_sem]) rfl ⟨rfl,(ah HB1).trans ((ah HS4).mono (ah HB1).size)⟩
end
open Go.ChangeShapes Go.WideShapes Go.ChangeAt Go.RowKit
open Go.ChangeMaps (open_string shut_string)
theorem CX:LX 5 5:=by
 intro w k n s t h1 h2 hs ht;have:k=5:=by omega
 subst this;exact Ej w n s t hs ht
theorem EW(w:World)(v:Value)(h:Cb w v) :
  Calls prog 10 #[v] w λe w'=>e=.returned (.bool true)/\Below w.heap.size w w':=by
 have H:=aj (QT 5 5 CX w v h)
 go_enter func10,ntmps10
 go_wp2_with fail
 refine(ah H).mono ?_;rintro e w1 ⟨rfl,b1⟩
 go_wp2_with fail
 go_ret
 exact⟨rfl,b1⟩
theorem Bg(os:Os)(started:os.Started)(H:Type)(enc:TypeId×Value->H) :
  ReturnsInHanded {} checked os 10 .any (Rows.decidesSpec.pre6 enc prog f10 Rows.decidesRow.domain false) (Rows.decidesSpec.post enc prog f10 false true false false):=by
 refine returnsInHanded_of_change (C:=checked) acJ started (by kernel_rfl) func10
  (ChangeSpec.witness6 (enc:=enc) (C:=checked) false ⟨#[],#[.slice none 0 0],[]⟩ 8 (by kernel_rfl) (by kernel_rfl) (by kernel_rfl) (by kernel_rfl)) ?_
 intro W base args ds gs before hval0 hW hcnd _;have hval:∀(j:Nat) t v,f10.params[j]?=some t->args[j]?=some v->Value.okWide prog W .any base t v:=hval0;have hW':=hW;obtain⟨p,q,hA0,hV,rfl,hfz,hnd⟩:=hW;have hA:DataW.TrodAll enc prog W 0 (λ_=>true) true f10.params.toList args.toList ds p:=hA0;rw[params10]at hA hval;obtain⟨v0,vs0,d0,ds0,p0,q0,hargs,rfl,rfl,h0,r0⟩:=trodAll_cons hA;obtain⟨rfl,rfl,rfl⟩:=trodAll_nil r0;obtain rfl:args=#[v0]:=by cases args;simp_all
 obtain⟨rfl,rfl⟩:=trodVars_none hV;obtain⟨a0,len0,cap0,rfl⟩:=okWide_slice underlying22 (hval 0 22 v0 rfl rfl);have k0:=h0;have lt0:∀x∈p0,x.block<W.heap.size:=by obtain⟨m,hm⟩:=k0;exact DataW.trod_lt m _ _ _ hm
 have w0:=open_script h0;clear hA0 hval0;refine(EW W _ w0).mono λe W' ⟨he,bel⟩=>?_;subst he;exact⟨_,rfl,_,_,_,[],_,[],hW',trodAll_mk1 (shut_bool underlying4 _),(trodAll_cons_mk (Below.trod Tn (by kernel_rfl) (of_decide_eq_true (by kernel_rfl)) k0 bel lt0) trodAll_mk0),rfl,bel.frame _,λh=>by cases h⟩
theorem decides_holds:Rows.DecidesSaid:=
 OpenClaim.holds_of_wide 10 f10 rfl rfl rfl rfl rfl rfl rfl ⟨rfl,rfl,rfl,rfl,rfl⟩ rfl rfl rfl rfl rfl (by kernel_rfl) func10 (by kernel_rfl)
  (of_decide_eq_true (by kernel_rfl)) (by unfold Func.isWrapper;first|(rw[af9 (by decide +kernel)];kernel_rfl)|(rw[af6 (by decide +kernel)];exact⟨rfl,rfl⟩))
  (λos started H enc _=>Bg os started H enc)
end Go.Proofs.YthcppbmkacbbiaaGreat
