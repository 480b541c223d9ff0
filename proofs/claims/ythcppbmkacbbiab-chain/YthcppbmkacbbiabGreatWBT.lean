import Derived.Test.YthcppbmkacbbiabGreatWBJ
import Derived.Test.YthcppbmkacbbiabGreatWBS
import Derived.Test.YthcppbmkacbbiabGreatWBM
import Derived.Test.YthcppbmkacbbiabGreatWBQ
set_option linter.unusedSimpArgs false
set_option maxHeartbeats 4000000
set_option maxRecDepth 100000
namespace Go.Proofs.YthcppbmkacbbiabGreat
open Go.Proofs.Tryz
open Go.RowKit Go.Maps Go.WideMaps
open Sat (View Rule jk bG)
open aB (Key put dJ au isAtom cnt aQ fE)
theorem xY(f:Key->Key)(ps:List Key):(lK f ps).length<=4*ps.length+1:=by
 unfold lK;have:=F9 f ps ps.length;simp;omega
theorem qH{α:Type}(g:Nat->List α)(c:Nat):∀k,(∀i,i<k->(g i).length<=c)->((List.range k).flatMap g).length<=k*c:=by
 intro k
 induction k with
 |zero=>intro _;simp
 |succ k ih=>
  intro h;rw[dO,af8,an0];have h1:=ih (λi hi=>h i (by omega));have h2:=h k (by omega);omega
theorem Kt(f:Key->Key){n:Nat}(h:n<=7):(QW f n).length<=400:=by
 unfold QW;have h1:=qH (λa=>(List.range n).flatMap λb=>(List.range a).map λc=>[((f (bH a b),false):aU),(f (bH b c),false),(f (bH a c),true)]) 49 n (λa ha=>by
  have h2:=qH (λb=>(List.range a).map λc=>[((f (bH a b),false):aU),(f (bH b c),false),(f (bH a c),true)]) 7 n (λb hb=>by simp;omega);omega)
 rw[af8];simp only[ao8];omega
theorem J9(f:Key->Key){ts:List Key}(h:ts.length<=7):(VG f ts).length<=49:=by
 rw[QS];have h1:=qH (λa=>(List.range a).flatMap λb=>xJ f ts a b) 7 ts.length (λa ha=>by
  have h2:=jV (λb=>xJ f ts a b) 1 (λb=>Dq f ts a b) a;omega)
 omega
theorem yM(w:World)(GT GC GP:Nat)(ts:List Key)(cs:List (Int×Nat))(ps:List Key)(h7:ts.length<=7)(h0:0<ts.length)(h4:cs.length<=4)(hp0:0<ps.length)(hp:ps.length<=100)(hrt:bQ w GT ts)(hrc:eF w GC cs)(hrp:bQ w GP ps)
 (kR:aQ ts.length cs.length ps)(hk:fE cs ps)(ht:∀i (hi:i<ts.length),ts[i].2.1<ts.length/\ts[i].2.2<ts.length)(hcs:∀x∈cs,(x.1=80\/x.1=81)/\x.2<ts.length)(hj:6*cnt au ps+3<=100) :
  Calls prog 58 #[fv GT GC GP ts.length cs.length ps.length] w λe w'=>∃lb BU BS,e=.returned (.pointer (some ⟨lb,0,none⟩))/\LS w.heap.size lb BU BS fZ (pV ts.length) (λ_=>False) (jB ts.length cs ps) (zM ts cs ps) w'/\Below w.heap.size w w':=by
 have h42:=BJ (nt:=ts.length) h7 h4 hj;have hcE:∀a b,a<ts.length->b<ts.length->fZ (61,a,b)∈jB ts.length cs ps:=λa b ha hb=>ai5 _ (ai5 _ (wI ha hb));have hcC:∀c (h:c<cs.length),fZ (cs[c].1,c,0)∈jB ts.length cs ps:=λc h=>by
  have h8:=hcs _ (ad8 h);rw[eU.other _ (by show cs[c].1≠61;omega)];exact ai5 _ (ao7 _ (wL h))
 unfold fv;obtain⟨W0,hW0⟩:∃W0,w.alloc (.cells #[.slice (some ⟨GT,0,none⟩) ts.length ts.length,.slice (some ⟨GC,0,none⟩) cs.length cs.length,.slice (some ⟨GP,0,none⟩) ps.length ps.length] 46)=W0:=⟨_,rfl⟩;have hg0:w.grownBy W0 none:=by rw[<-hW0];exact ad4 _ _ none
 have b0:W0.heap[w.heap.size]?=some (.cells #[.slice (some ⟨GT,0,none⟩) ts.length ts.length,.slice (some ⟨GC,0,none⟩) cs.length cs.length,.slice (some ⟨GP,0,none⟩) ps.length ps.length] 46 (0,0)):=by rw[<-hW0,ae9]
 have hb0:Below w.heap.size w W0:=(But.aA hg0).below (ad5 _) (λk _ e=>by cases e);have hnl:=tC W0 (pV ts.length) (λ_=>False);have hsz0:w.heap.size<W0.heap.size:=(ad3.1 b0).1;have HRT:=aj hrt;have HRC:=aj hrc;have HRP:=aj hrp;clear hrt hrc hrp hg0
 go_enter func58,ntmps58
 go_wp2_with fail
 clear hW0;refine hnl.mono ?_;rintro e w1 ⟨lb,BU,BS,rfl,iK,hP1,hg1⟩;have hs1:=hg1.size;have k1:=VK.grown hg1;have b1:=aI k1 b0;have hB1:Below w.heap.size w w1:=hb0.trans ((But.aA hg1).below (by omega) (λk _ e=>by cases e));have q10:w1.cell? ⟨w.heap.size,0,none⟩=some (.slice (some ⟨GT,0,none⟩) ts.length ts.length):=by rw[cell_of b1];rfl
 have hje:=Ie (λ_=>False) W0.heap.size w1 lb BU BS ts.length [] [] iK hP1 h7 (by omega);clear hnl iK hP1 hg1 k1
 go_wp2_with fail
 refine hje.mono ?_;rintro e w2 ⟨⟨z2,rfl⟩,iJ,hB2,hK2,hs2⟩;have b2:=aI hK2 b1;have hBw2:Below w.heap.size w w2:=hB1.trans (hB2.mono (by omega));have q20:w2.cell? ⟨w.heap.size,0,none⟩=some (.slice (some ⟨GT,0,none⟩) ts.length ts.length):=by rw[cell_of b2];rfl
 have q21:w2.cell? ⟨w.heap.size,1,none⟩=some (.slice (some ⟨GC,0,none⟩) cs.length cs.length):=by rw[cell_of b2];rfl
 have q22:w2.cell? ⟨w.heap.size,2,none⟩=some (.slice (some ⟨GP,0,none⟩) ps.length ps.length):=by rw[cell_of b2];rfl
 have hgp:=(ah HRP).1;have hst:=AB (λ_=>False) W0.heap.size w2 lb BU BS fZ (pV ts.length) [] [] [] GT GC GP ts.length cs.length ps iJ (λk h=>h.elim) jW.nil (by simp) (by simp) ((ah HRP).below hBw2 hgp) (by omega) kR hp0 hp h7 h4 (JE _) (by omega);unfold fv at hst;clear hje iJ
 go_wp2_with fail
 refine hst.mono ?_;rintro e w3 ⟨⟨z3,rfl⟩,dS,iD,iC,hB3,hK3⟩;rw[ae7]at iC;have hs3:=hB3.size;have b3:=aI hK3 b2;have hBw3:Below w.heap.size w w3:=hBw2.trans (hB3.mono (by omega));have q30:w3.cell? ⟨w.heap.size,0,none⟩=some (.slice (some ⟨GT,0,none⟩) ts.length ts.length):=by rw[cell_of b3];rfl
 have hl3:=xY fZ ps;have hde:=U0 (λ_=>False) W0.heap.size w3 lb BU BS fZ (pV ts.length) (jB ts.length cs ps) (lK fZ ps) ts.length ⟨_,dS,iD,iC,Ei (λp h=>by cases h) (EP kR hk) _⟩ (λk h=>h.elim) (by omega) (JE _) hcE h0 h7 (by omega) (by omega);clear hst iD iC
 go_wp2_with fail
 refine hde.mono ?_;rintro e w4 ⟨⟨z4,rfl⟩,hE4⟩;have hs4:=hE4.size;have b4:=aI hE4.keep b3;have ZX:Below w.heap.size w w4:=hBw3.trans (hE4.below.mono (by omega));have q40:w4.cell? ⟨w.heap.size,0,none⟩=some (.slice (some ⟨GT,0,none⟩) ts.length ts.length):=by rw[cell_of b4];rfl
 have hgt:=(ah HRT).1;have hl4:(lK fZ ps++QW fZ ts.length).length<=5000:=by
  have:=Kt fZ h7;rw[af8];omega
 have hdf:=Rj (λ_=>False) W0.heap.size w4 lb BU BS fZ (pV ts.length) (jB ts.length cs ps) (lK fZ ps++QW fZ ts.length) GT ts hE4.ls (λk h=>h.elim) (by omega) (JE _) hcE h7 (by omega) hl4 ((ah HRT).below ZX hgt) (by omega) ht;have HE4:=aj hE4;clear hde hE4
 go_wp2_with fail
 refine hdf.mono ?_;rintro e w5 ⟨⟨z5,rfl⟩,hE5⟩;have hs5:=hE5.size;have b5:=aI hE5.keep b4;have ZW:Below w.heap.size w w5:=ZX.trans (hE5.below.mono (by omega));have q51:w5.cell? ⟨w.heap.size,1,none⟩=some (.slice (some ⟨GC,0,none⟩) cs.length cs.length):=by rw[cell_of b5];rfl
 have hgc:=(ah HRC).1;have hl5:(lK fZ ps++QW fZ ts.length++VG fZ ts).length<=6000:=by
  have:=J9 fZ h7;rw[af8];omega
 have hdp:=NK (λ_=>False) W0.heap.size w5 lb BU BS fZ (pV ts.length) (jB ts.length cs ps) (lK fZ ps++QW fZ ts.length++VG fZ ts) GC ts.length cs hE5.ls (λk h=>h.elim) (by omega) (JE _) hcE hcC h7 h4 (by omega) hl5 ((ah HRC).below ZW hgc) (by omega) hcs;clear hdf hE5 HE4
 go_wp2_with fail
 refine hdp.mono ?_;rintro e w6 ⟨⟨z6,rfl⟩,hE6⟩;have ZV:Below w.heap.size w w6:=ZW.trans (hE6.below.mono (by omega));have HE6:=aj hE6;have HB6:=aj ZV;clear hdp hE6 ZV
 go_wp2_with fail
 go_ret
 refine⟨lb,BU,BS,rfl,?_,ah HB6⟩;obtain⟨Us,ak,g1,g2,g3⟩:=(ah HE6).ls;exact⟨Us,ak,⟨by obtain⟨rv,r1,r2,r3⟩:=g1.rv;exact⟨rv,r1,r2,λk hk=>af7 (by omega) (r3 k hk)⟩,g1.us,g1.sm,g1.ne,by have:=g1.lo;omega⟩,g2,g3⟩
attribute [local go_sem] Oper.semAt_some
structure FF(ts:List Key)(cs:List (Int×Nat))(ps:List Key):Prop where
 h7:ts.length<=7
 h0:0<ts.length
 h4:cs.length<=4
 hp0:0<ps.length
 hp:ps.length<=100
 inv:aB.Inv ts
 kR:aQ ts.length cs.length ps
 hk:fE cs ps
 ht:∀i (hi:i<ts.length),ts[i].2.1<ts.length/\ts[i].2.2<ts.length
 hcs:∀x∈cs,(x.1=80\/x.1=81)/\x.2<ts.length
 hj:6*cnt au ps+3<=100
 ha:3*(cnt au ps+cnt isAtom ps)<=100
def D8(ts:List Key)(cs:List (Int×Nat))(ps:List Key)(e:Ending):Prop:=
 (e=.returned (.tuple #[.bool false,.string ⟨#[]⟩])/\¬∃f hl,hl.length=cs.length/\xP f ts cs ps hl)\/
 (∃f hl,hl.length=cs.length/\xP f ts cs ps hl/\e=.returned (.tuple #[.bool true,.string ⟨(wrt f ts.length hl).toArray⟩]))
theorem ER{nt nc:Nat}{ps:List Key}(kR:aQ nt nc ps)(hnt:nt<=7)(hnc:nc<=4)(hp:ps.length<=100){q:Key}(hq:q∈ps):(0<=q.1/\q.1<=255)/\q.2.1<=1000/\q.2.2<=1000:=by
 obtain⟨i,hlt,e⟩:=ai0 hq;have ho:=kR.ok i hlt;rw[e]at ho;rcases ho with⟨a,b,c⟩|⟨a,b,c⟩|⟨a,b,c⟩|⟨a,b,c⟩
 ·exact⟨by omega,by omega,by omega⟩
 ·have hj:q.1=38\/q.1=124\/q.1=62\/q.1=45:=by simpa[au,or_assoc]using a
  exact⟨by omega,by omega,by omega⟩
 ·exact⟨by omega,by omega,by omega⟩
 ·exact⟨by omega,by omega,by omega⟩
theorem FF.aax{ts:List Key}{cs:List (Int×Nat)}{ps:List Key}(h:FF ts cs ps){q:Key}(hq:q∈jB ts.length cs ps):∃l,keyOf prog 82 (aS q)=some l:=by
 have h7:=h.h7;have h4:=h.h4;have hb:(0<=q.1/\q.1<=255)/\q.2.1<=1000/\q.2.2<=1000:=by
  by_cases h61:q.1=61
  ·rcases zG h.hcs hq h61 with e|⟨e1,e2⟩
   ·rw[e];simp
   ·exact⟨by omega,by omega,by omega⟩
  ·by_cases h8:q.1=80\/q.1=81
   ·obtain⟨h1,h2⟩:=zH hq h8;have h3:q.2.2=0:=(by rw[h2]);exact⟨by omega,by omega,by omega⟩
   ·unfold jB at hq;rcases ag9.1 hq with hq|hq
    ·rcases ag9.1 hq with hq|hq
     ·exfalso;unfold kZ at hq;rcases ah8.1 hq with e|hq
      ·rw[e]at h61;exact h61 rfl
      ·obtain⟨y,_,hq⟩:=al8.1 hq;obtain⟨x,_,rfl⟩:=af9.1 hq;exact h61 rfl
     ·exfalso;unfold nI at hq;obtain⟨c,hc,rfl⟩:=af9.1 hq;have hc:=aj2.1 hc;simp only[aG hc]at h8;exact h8 (h.hcs _ (ad8 hc)).1
    ·exact ER h.kR h7 h4 h.hp (ai3.1 hq).1
 exact MO q hb.1 hb.2.1 hb.2.2
theorem FF.key1{ts:List Key}{cs:List (Int×Nat)}{ps:List Key}(h:FF ts cs ps){q:Key}(hq:q∈nU ps):∃l,keyOf prog 82 (aS q)=some l:=by
 have hb:=ER h.kR h.h7 h.h4 h.hp (ai3.1 hq).1;exact MO q hb.1 hb.2.1 hb.2.2
theorem TS(f:Key->Key){cs:List (Int×Nat)}(h:cs.length<=4):(X8 f cs).length<=32:=by
 rw[O0];have h1:=qH (λa=>(List.range a).flatMap λb=>xE f cs a b) 8 cs.length (λa ha=>by
  have h2:=jV (λb=>xE f cs a b) 2 (λb=>CP f cs a b) a;omega)
 omega
theorem Sv{ts:List Key}{cs:List (Int×Nat)}{ps:List Key}(h7:ts.length<=7)(h4:cs.length<=4)(hp:ps.length<=100):(zM ts cs ps).length<=1000:=by
 have h1:=xY fZ ps;have h2:=Kt fZ h7;have h3:=J9 fZ h7;have h5:=TS fZ h4;unfold zM;rw[af8,af8,af8];omega
theorem Yh{U:Nat}(h:U<=42):2 ^ U<=4398046511104:=by
 have:=Nat.pow_le_pow_right (n:=2) (by decide) h;exact this
theorem Yi{U:Nat}(h:U<=33):2 ^ U<=8589934592:=by
 have:=Nat.pow_le_pow_right (n:=2) (by decide) h;exact this
theorem LG.after{n0:Nat}{w w1 w2:World}{lb BU BS b:Nat}{f:Key->Key}{dom:Key->Prop}{Us:List Key}{ak:List Rule}{X:Nat->Prop}{rv:Value}(h:LG n0 w lb BU BS f dom Us ak X)(h1:nY w lb (some BU) (some BS) rv)(h2:bF w rv ak)(hg:w.grownBy w1 none)(hb:But (λk=>k=b\/some k=rv.ownBlock) w1 w2)(hbw:w.heap.size<=b) :
  nY w2 lb (some BU) (some BS) rv/\aH w2 82 BU aS Us:=by
 have hll:=h1.lt;have hul:=h.us.lt;have hs:=hg.size;refine⟨(h1.kept (hg.block lb hll (by simp))).kept (hb.block lb (by omega) (λe=>?_)),(h.us.kept (hg.block BU hul (by simp))).kept (hb.block BU (by omega) (λe=>?_))⟩
 ·rcases e with e|e
  ·omega
  ·obtain⟨vs,⟨_,q⟩,_⟩:=h2;rcases q with⟨rfl,_⟩|⟨g,cap,cur',rfl,q2,q3,q4⟩
   ·cases e
   ·cases e;have:=h1.out;rw[q3]at this;simp at this
 ·rcases e with e|e
  ·omega
  ·exact h2.yI h.us _ e.symm rfl
theorem wW(w:World)(GT GC GP:Nat)(ts:List Key)(cs:List (Int×Nat))(ps:List Key)(tape:ByteArray)(hF:FF ts cs ps)(hd:xg tape.data.toList)(h60:tape.size<=60)(hrt:bQ w GT ts)(hrc:eF w GC cs)(hrp:bQ w GP ps) :
  Calls prog 29 #[fv GT GC GP ts.length cs.length ps.length,.string tape] w λe w'=>D8 ts cs ps e/\Below w.heap.size w w':=by
 obtain⟨w0,hw0⟩:∃w0,w.alloc (.cells #[.slice (some ⟨GT,0,none⟩) ts.length ts.length,.slice (some ⟨GC,0,none⟩) cs.length cs.length,.slice (some ⟨GP,0,none⟩) ps.length ps.length] 46)=w0:=⟨_,rfl⟩;have hb0:Below w.heap.size w w0:=by rw[<-hw0];exact(ag6 _ w).alloc (ad5 _) _
 have hx0:w0.heap[w.heap.size]?=some (.cells #[.slice (some ⟨GT,0,none⟩) ts.length ts.length,.slice (some ⟨GC,0,none⟩) cs.length cs.length,.slice (some ⟨GP,0,none⟩) ps.length ps.length] 46 (0,0)):=by rw[<-hw0];exact ae9 _ _
 have hs0:w.heap.size<w0.heap.size:=(ad3.1 hx0).1;have q0:w0.cell? ⟨w.heap.size,0,none⟩=some (.slice (some ⟨GT,0,none⟩) ts.length ts.length):=by rw[cell_of hx0];rfl
 have q1:w0.cell? ⟨w.heap.size,1,none⟩=some (.slice (some ⟨GC,0,none⟩) cs.length cs.length):=by rw[cell_of hx0];rfl
 have q2:w0.cell? ⟨w.heap.size,2,none⟩=some (.slice (some ⟨GP,0,none⟩) ps.length ps.length):=by rw[cell_of hx0];rfl
 have hla:=yM w0 GT GC GP ts cs ps hF.h7 hF.h0 hF.h4 hF.hp0 hF.hp (hrt.below hb0 hrt.1) (hrc.below hb0 hrc.1) (hrp.below hb0 hrp.1) hF.kR hF.hk hF.ht hF.hcs hF.hj;have h42:=BJ (nt:=ts.length) hF.h7 hF.h4 hF.hj;have hal:=Sv hF.h7 hF.h4 hF.hp;have HF:=aj hF;have HD:=aj hd;clear hF hd hrt hrc hrp;unfold fv at hla ⊢
 go_enter func29,ntmps29
 go_wp2_with fail
 clear hw0;refine hla.mono ?_;rintro e w1 ⟨lb,BU,BS,rfl,⟨Us,ak,iQ,kY,hUc⟩,hb1⟩;obtain⟨rv,hL,hRX,hro⟩:=iQ.rv;have hRV:=hRX.v;obtain⟨rp,rc,rfl⟩:=hRV.slice;have hUl:Us.length<=42:=af7 (qB _ Us kY.lp.nodup hUc) h42;have hls:=wC w1 lb BU (some BS) rp ak.length rc Us tape 60 #[] hL iQ.us;have hs1:=hb1.size;have HLG:=aj iQ;have HLP:=aj kY;have HUC:=aj hUc;have HL:=aj hL;have HRV:=aj hRV;have HRO:=aj hro;have HB1:=aj hb1;clear hla iQ kY hUc hL hRX hRV hro hb1 q0 q1 q2
 go_wp2_with fail
 refine hls.mono ?_;rintro e w2 ⟨rfl,hS,hg2⟩;have hs2:=hg2.size;have hrl:=(ah HLP).len;have h2U:=Yh hUl;have htl:tape.data.toList.length<=60:=h60;have hfi:=Bv w2 (λk=>k=w1.heap.size\/some k=(Value.slice rp ak.length rc).ownBlock) w1.heap.size Us.length 5000000000000 60 [] (.slice rp ak.length rc) tape.data.toList ak (λ_=>True) False (λ_=>True) (Jp0 Us.length) (J0 Us.length) (aat Us.length) (tape.data.toList.length+2 ^ Us.length) hS
  ((ah HRV).but (But.aA hg2) (λk e=>by cases e) (λk _ e=>by cases e)) (ah HLP).lp.rg (ah HD) (by omega)
  ⟨λj hj=>by simp at hj,by
   by_cases e:tape.data.toList=[]
   ·exact Or.inr ⟨e,Or.inl (by simp[e])⟩
   ·exact Or.inl ⟨e,ad5 _⟩⟩
  (Or.inl rfl) (λk hk=>Or.inr hk.symm) (by omega) (ad5 _) (ar6 func60 (by kernel_rfl) rfl)
  (λW m τ _ _ _ _ _=>(vJ (some m) W).mono (by
   rintro e w' ⟨rfl,rfl⟩;exact⟨_,[],rfl,Or.inl ⟨rfl,rfl⟩,ag6 _ _,λ_=>trivial,λh=>absurd rfl h⟩))
 have HG2:=aj hg2;clear hls hS hg2
 go_wp2_with fail
 refine hfi.mono ?_;rintro e w3 ⟨hE,hB3⟩;obtain⟨hL3,hM3⟩:=(ah HLG).after (ah HL) (ah HRV) (ah HG2) hB3 (ad5 _);have hb02:Below w0.heap.size w0 w2:=(ah HB1).trans ((But.aA (ah HG2)).below (by omega) (λk _ e=>by cases e));have hb03:Below w0.heap.size w0 w3:=hb02.trans (hB3.below (by omega) (λk hk e=>by
  rcases e with e|e
  ·omega
  ·have:=ah HRO k e.symm;omega))
 have hb3:Below w.heap.size w w3:=hb0.trans (hb03.mono (by omega));have HB3:=aj hb3;have aaq:=aj hb03;clear hfi hB3 hb02 hb3 hb03;rcases hE with⟨rfl,rv',tp',m,τ,aK,hFI,hall,hsub,hdone,_⟩|⟨rfl,hno⟩
 ·have Qk:=KJ (ah HF).kR (ah HF).hk (ah HF).hp0 (ah HF).h0 (ah HF).ht (ah HF).hcs (ah HLP) (ah HUC) hdone hsub hall hFI.lt;have Qh:=hFI.uM.cells.2.2.2.2;have hsl:=hFI.uM.lt;have hlen:=yT (fA Us τ) cs.length;have hBM:=hFI.bs.m;have nD:Hid (∀W,Below w3.heap.size w3 W->Calls prog 63 #[.pointer (some ⟨lb,0,none⟩),.map (some m)] W λe w'=>∃v,e=.returned v/\fV w' v (fA Us τ)/\Below W.heap.size W w'):=λW hW=>
   oV W lb BU m (some BS) (.slice rp ak.length rc) Us τ (hL3.kept (hW.block lb hL3.lt)) (hM3.kept (hW.block BU hM3.lt)) (ah HLP).lp.nodup (by omega) (λx hx=>(ah HF).aax (ah HUC x hx)) (hBM.kept (hW.block m hBM.lt)) hFI.lt hall
  have Qe:∀s∈fA Us τ,(s.2.2.1=61->s.2.2.2.1<ts.length/\s.2.2.2.2<ts.length)/\(s.2.2.1≠61->s.2.2.2.1<cs.length):=λs hs=>by
   obtain⟨g1,g2,_,_⟩:=rF (ah HLP).lp.nodup hs;have hc:=ah HUC _ g1;have h0:=(ah HF).h0;refine⟨λh61=>?_,λh61=>?_⟩
   ·rcases zG (ah HF).hcs hc h61 with e|⟨e1,e2⟩
    ·rw[e];exact⟨h0,h0⟩
    ·exact⟨by omega,e2⟩
   ·obtain⟨h1,_⟩:=zH hc (by simp only[isAtom,aj7]at g2;omega);exact h1
  have hsl2:(fA Us τ).length<=1000:=af7 (oW Us τ Us.length) (by omega);have HMD:=aj Qk;have SE:=aj Qe;clear hFI hall hsub hdone Qk Qe hL3 hM3 hBM;generalize fA Us τ=ss at nD HMD SE hsl2 hlen;have hSt:Hid (∀W',Below w3.heap.size w3 W'->W'.cell? ⟨w.heap.size,0,none⟩=some (.slice (some ⟨GT,0,none⟩) ts.length ts.length)/\W'.cell? ⟨w.heap.size,1,none⟩=some (.slice (some ⟨GC,0,none⟩) cs.length cs.length)/\W'.cell? ⟨w.heap.size,2,none⟩=some (.slice (some ⟨GP,0,none⟩) ps.length ps.length)/\W'.cell? ⟨w1.heap.size,4,none⟩=some (.map (some m))):=λW' hW=>by
   have hb:=(ah aaq).trans (hW.mono (ah aaq).size);have hx:=(hb.block w.heap.size hs0).trans hx0;exact⟨by rw[cell_of hx];rfl,by rw[cell_of hx];rfl,by rw[cell_of hx];rfl,(hW.cell (p:=⟨w1.heap.size,4,none⟩) hsl).trans Qh⟩
  have HLEN:=aj hlen;clear hx0 Qh hlen
  go_wp2_with fail
  refine ah0 (S:=λW'=>Below w3.heap.size w3 W') rfl ?_;have hS0:Below w3.heap.size w3 w3.drew:=(ag6 _ _).drew;simp only[ae2,ae1,ae8,Nat.reduceAdd,ae0,ad9,ae4,ae7,ae6];change wpAnyH prog .any _ _ _ _ _ _ w3.drew;refine tH 0 (.agg #[.slice (some ⟨GT,0,none⟩) ts.length ts.length,.slice (some ⟨GC,0,none⟩) cs.length cs.length,.slice (some ⟨GP,0,none⟩) ps.length ps.length]) (λw' hS=>?_) hS0 ?_
  ·obtain⟨s1,s2,s3,s4⟩:=ah hSt _ hS;go_simp
  simp only[aC];refine tH 1 (.agg #[.slice (some ⟨GT,0,none⟩) ts.length ts.length,.slice (some ⟨GC,0,none⟩) cs.length cs.length,.slice (some ⟨GP,0,none⟩) ps.length ps.length]) (λw' hS=>?_) hS0 ?_
  ·obtain⟨s1,s2,s3,s4⟩:=ah hSt _ hS;go_simp
  simp only[aC];refine tH 2 (.pointer (some ⟨lb,0,none⟩)) (λw' hS=>?_) hS0 ?_
  ·go_simp
  simp only[aC];refine tH 3 (.pointer (some ⟨w1.heap.size,0,none⟩)) (λw' hS=>?_) hS0 ?_
  ·go_simp
  simp only[aC];refine tH 4 (.pointer (some ⟨w1.heap.size,0,none⟩)) (λw' hS=>?_) hS0 ?_
  ·go_simp
  simp only[aC];refine tH 5 (.pointer (some ⟨w1.heap.size,4,none⟩)) (λw' hS=>?_) hS0 ?_
  ·go_simp
  simp only[aC];refine tH 6 (.map (some m)) (λw' hS=>?_) hS0 ?_
  ·obtain⟨s1,s2,s3,s4⟩:=ah hSt _ hS;go_simp
  simp only[aC];refine oH 7 (λK hK=>?_);go_simp;refine(ah nD _ hS0).mono ?_;rintro e w4 ⟨v,rfl,hsv,hb4⟩;replace hS0:=hS0.trans (hb4.mono hS0.size);refine hK.out _ _ hS0 ?_;clear hK K;obtain⟨vp,vc,rfl,_⟩:=id hsv;have hsit:=nO GT GC GP ts.length cs.length ps.length _ ss w4 (ah HF).h7 (ah HF).h4 hsv hsl2 (ah SE);unfold fv sv at hsit;refine oH 8 (λK hK=>?_);go_simp;refine(hsit).mono ?_;rintro e w5 ⟨b,H,rfl,hH,hJ,hrows⟩;replace hS0:=hS0.trans (hJ.below.mono hS0.size);refine hK.out _ _ hS0 ?_;clear hK K;obtain⟨cm,hm,_⟩:=hJ.m;have hwr:=oN GT GC GP ts.length cs.length ps.length b cm H (aX (ss.map dD)) (kQ ss cs.length) w5 (ah HF).h7 (by rw[ah HLEN];exact(ah HF).h4) (λi hi=>(hJ.roots i hi).1) hm hrows;unfold fv sv at hwr;rw[ah HLEN]at hwr;have HS0:=aj hS0;clear hsit hsv hb4 hm hJ hrows;refine oH 9 (λK hK=>?_);go_simp;refine(hwr).mono ?_;rintro e w6 ⟨rfl,hb6⟩;replace hS0:=(ah HS0).trans (hb6.mono (ah HS0).size);refine hK.out _ _ hS0 ?_;clear hK K;refine oH 10 (λK hK=>?_);go_simp;replace hS0:=hS0;refine hK.out _ _ hS0 ?_;clear hK K;refine oH 11 (λK hK=>?_);go_simp;refine hK.out _ _ (hS0) (ag5 (by kernel_rfl) ?_ _);clear hK K;have HS6:=aj hS0;clear hwr hb6 hS0
  go_wp2_with fail
  refine ag3 (v:=.tuple #[.bool true,.string ⟨(wrt (aX (ss.map dD)) ts.length (kQ ss cs.length)).toArray⟩]) (by simp[results,results29,go_sem]) rfl ⟨Or.inr ⟨_,_,ah HLEN,ah HMD,rfl⟩,(ah HB3).trans ((ah HS6).mono (ah HB3).size)⟩
 ·have hnone:=KI (ah HF).kR (ah HF).hp0 (ah HF).h0 (ah HF).ht (ah HF).hcs (ah HLP) hno;have HN:=aj hnone;clear hnone hno hL3 hM3
  go_wp2_with fail
  refine ag3 (v:=.tuple #[.bool false,.string ⟨#[]⟩]) (by simp[results,results29,go_sem]) rfl ⟨Or.inl ⟨rfl,ah HN⟩,ah HB3⟩
def KE(ts:List Key)(cs:List (Int×Nat))(Us:List Key)(τ:List Tr):Prop:=
 ∃f',Closed ts (aX ((fA Us τ).map dD)) f'/\cb f' cs ((fA Us τ).map dD)
theorem vK(W:World)(GT GC GP xf xl lb BU m:Nat)(ms:Option Nat)(rv:Value)(ts:List Key)(cs:List (Int×Nat))(ps Us:List Key)(τ:List Tr)(hF:FF ts cs ps)(hU:Us.length<=33)(hnd:Us.Nodup)(hUc:∀p∈Us,p∈nU ps)
 (hrt:bQ W GT ts)(hrc:eF W GC cs)(hxf:W.heap[xf]?=some (.cells #[.slice (some ⟨GT,0,none⟩) ts.length ts.length,.slice (some ⟨GC,0,none⟩) cs.length cs.length,.slice (some ⟨GP,0,none⟩) ps.length ps.length] 46 (0,0)))
 (hxl:W.heap[xl]?=some (.cells #[.pointer (some ⟨lb,0,none⟩)] 124 (0,0)))(hL:nY W lb (some BU) ms rv)(hM:aH W 82 BU aS Us)(hB:kU W m τ)(hlt:∀q∈τ,q.1<Us.length)(hall:∀x,x<Us.length->kX τ x=true) :
  Calls prog 66 #[.map (some m),.pointer (some ⟨xf,0,none⟩),.pointer (some ⟨xl,0,none⟩)] W λe W'=>∃v r,e=.returned v/\aP W' v r/\Below W.heap.size W W'/\(r=[]->KE ts cs Us τ)/\
   (r≠[]->True/\r.Nodup/\r.length<=1000/\(∀u∈r,u.1<Us.length/\Sat.wrong (bel τ) u)/\∀α,Th1 ts cs Us α->Sat.keeps α r):=by
 have hsub:=x8 (τ:=τ) hF.kR hF.hk hUc hnd (λs hs=>hs);have hfl:=(ad3.1 hxf).1;have hll:=(ad3.1 hxl).1;have nD:Hid (∀W',Below W.heap.size W W'->Calls prog 63 #[.pointer (some ⟨lb,0,none⟩),.map (some m)] W' λe w'=>∃v,e=.returned v/\fV w' v (fA Us τ)/\Below W'.heap.size W' w'):=λW' hW=>
  oV W' lb BU m ms rv Us τ (hL.kept (hW.block lb hL.lt)) (hM.kept (hW.block BU hM.lt)) hnd (by omega) (λx hx=>hF.key1 (hUc x hx)) (hB.kept (hW.block m hB.lt)) hlt hall
 have hsl:(fA Us τ).length<=100:=af7 (oW Us τ Us.length) (by omega);have WQ:Hid (∀W' v,Below W.heap.size W W'->fV W' v (fA Us τ)->Calls prog 67 #[fv GT GC GP ts.length cs.length ps.length,v] W' λe w'=>∃v' r,e=.returned v'/\aP w' v' r/\Below W'.heap.size W' w'/\(r=[]->KE ts cs Us τ)/\
   (r≠[]->True/\r.Nodup/\r.length<=1000/\(∀u∈r,u.1<Us.length/\Sat.wrong (bel τ) u)/\∀α,Th1 ts cs Us α->Sat.keeps α r)):=λW' v hW hs=>by
  refine(Ae GT GC GP ps.length ts cs v (fA Us τ) W' hF.h7 hs hsl (hrt.below hW hrt.1) (hrc.below hW hrc.1) hF.inv hF.ht hF.hcs hsub).mono ?_;rintro e w' ⟨v',r,rfl,hr,hb,h⟩;refine⟨v',r,rfl,hr,hb,?_,?_⟩
  ·intro hr0;rcases h with⟨_,f',h1,h2⟩|⟨S,hS,rfl,f',h1,h2⟩
   ·exact⟨f',h1,h2⟩
   ·have:S=[]:=List.map_eq_nil_iff.1 hr0;subst this;exact absurd (XG _ _) h2
  ·intro hr0;rcases h with⟨h,_⟩|⟨S,hS,rfl,f',h1,h2⟩
   ·exact absurd h hr0
   ·have hm:∀s∈S,s∈fA Us τ:=λs hs=>hS.subset hs;refine⟨trivial,LX ((GV Us τ).sublist (hS.map _)),?_,LU hall hm,λα hα=>LV hF.kR hF.hk hUc hnd hF.hcs hm h1 h2 α hα⟩;rw[ai8];have:=hS.length_le;omega
 have hSt:Hid (∀W',Below W.heap.size W W'->W'.cell? ⟨xf,0,none⟩=some (.slice (some ⟨GT,0,none⟩) ts.length ts.length)/\W'.cell? ⟨xf,1,none⟩=some (.slice (some ⟨GC,0,none⟩) cs.length cs.length)/\W'.cell? ⟨xf,2,none⟩=some (.slice (some ⟨GP,0,none⟩) ps.length ps.length)/\W'.cell? ⟨xl,0,none⟩=some (.pointer (some ⟨lb,0,none⟩))):=λW' hW=>by
  have hx:=(hW.block xf hfl).trans hxf;have hy:=(hW.block xl hll).trans hxl;exact⟨by rw[cell_of hx];rfl,by rw[cell_of hx];rfl,by rw[cell_of hx];rfl,by rw[cell_of hy];rfl⟩
 generalize KE ts cs Us τ=Gd at WQ ⊢;clear hF hU hnd hUc hrt hrc hxf hxl hL hM hB hlt hall hsub hsl hfl hll;unfold fv at WQ
 go_enter func66,ntmps66
 go_wp2_with fail
 refine ah0 (S:=λW'=>Below W.heap.size W W') rfl ?_;have hS0:Below W.heap.size W W.drew:=(ag6 _ _).drew;simp only[ae2,ae1,ae8,Nat.reduceAdd,ae0,ad9,ae4,ae7,ae6];change wpAnyH prog .any _ _ _ _ _ _ W.drew;refine tH 0 (.agg #[.slice (some ⟨GT,0,none⟩) ts.length ts.length,.slice (some ⟨GC,0,none⟩) cs.length cs.length,.slice (some ⟨GP,0,none⟩) ps.length ps.length]) (λw' hS=>?_) hS0 ?_
 ·obtain⟨s1,s2,s3,s4⟩:=ah hSt _ hS;go_simp
 simp only[aC];refine tH 1 (.pointer (some ⟨lb,0,none⟩)) (λw' hS=>?_) hS0 ?_
 ·obtain⟨s1,s2,s3,s4⟩:=ah hSt _ hS;go_simp
 simp only[aC];refine tH 2 (.map (some m)) (λw' hS=>?_) hS0 ?_
 ·go_simp
 simp only[aC];refine oH 3 (λK hK=>?_);go_simp;refine(ah nD _ hS0).mono ?_;rintro e w4 ⟨v,rfl,hsv,hb4⟩;replace hS0:=hS0.trans (hb4.mono hS0.size);refine hK.out _ _ hS0 ?_;clear hK K;refine oH 4 (λK hK=>?_);go_simp;refine(ah WQ _ _ hS0 hsv).mono ?_;rintro e w5 ⟨v5,r5,rfl,hr5,hb5,hg5,hn5⟩;replace hS0:=hS0.trans (hb5.mono hS0.size);refine hK.out _ _ hS0 ?_;clear hK K;have HS5:=aj hS0;have HR5:=aj hr5;have HG5:=aj hg5;have HN5:=aj hn5;obtain⟨rp5,rc5,rfl⟩:=hr5.len;clear hsv hb4 hb5 hr5 hg5 hn5;refine oH 5 (λK hK=>?_);go_simp;refine hK.out _ _ (hS0) (ag5 (by kernel_rfl) ?_ _);clear hK K;clear hS0
 go_wp2_with fail
 refine ag3 (v:=.slice rp5 r5.length rc5) (by simp[results,results66,go_sem]) rfl ?_;exact⟨_,r5,rfl,ah HR5,ah HS5,ah HG5,ah HN5⟩
end Go.Proofs.YthcppbmkacbbiabGreat
