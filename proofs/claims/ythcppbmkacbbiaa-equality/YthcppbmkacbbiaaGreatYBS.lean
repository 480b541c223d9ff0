import Derived.Test.YthcppbmkacbbiaaGreatYBH
import Derived.Test.YthcppbmkacbbiaaGreatYBR
import Derived.Test.YthcppbmkacbbiaaGreatYBP
import Derived.Test.YthcppbmkacbbiaaGreatYBM
set_option linter.unusedSimpArgs false
set_option maxHeartbeats 4000000
set_option maxRecDepth 100000
namespace Go.Proofs.YthcppbmkacbbiaaGreat
open Go.Proofs.Tryz
open Go.RowKit Go.Maps Go.WideMaps
open Sat (View Rule jw bI)
open aB (Key put dH au isAtom cnt aP fD)
theorem xU(f:Key->Key)(ps:List Key):(l9 f ps).length<=4*ps.length+1:=by
 unfold l9;have:=FB f ps ps.length;simp;omega
theorem qQ{α:Type}(g:Nat->List α)(c:Nat):∀k,(∀i,i<k->(g i).length<=c)->((List.range k).flatMap g).length<=k*c:=by
 intro k
 induction k with
 |zero=>intro _;simp
 |succ k ih=>
  intro h;rw[dQ,ae9,am0];have h1:=ih (λi hi=>h i (by omega));have h2:=h k (by omega);omega
theorem JM(f:Key->Key){n:Nat}(h:n<=7):(Qz f n).length<=400:=by
 unfold Qz;have h1:=qQ (λa=>(List.range n).flatMap λb=>(List.range a).map λc=>[((f (bJ a b),false):aV),(f (bJ b c),false),(f (bJ a c),true)]) 49 n (λa ha=>by
  have h2:=qQ (λb=>(List.range a).map λc=>[((f (bJ a b),false):aV),(f (bJ b c),false),(f (bJ a c),true)]) 7 n (λb hb=>by simp;omega);omega)
 rw[ae9];simp only[an9];omega
theorem JJ(f:Key->Key){ts:List Key}(h:ts.length<=7):(U4 f ts).length<=49:=by
 rw[Qv];have h1:=qQ (λa=>(List.range a).flatMap λb=>xJ f ts a b) 7 ts.length (λa ha=>by
  have h2:=jZ (λb=>xJ f ts a b) 1 (λb=>CW f ts a b) a;omega)
 omega
theorem yG(w:World)(GT GC GP:Nat)(ts:List Key)(cs:List (Int×Nat))(ps:List Key)(h7:ts.length<=7)(h0:0<ts.length)(h4:cs.length<=4)(hp0:0<ps.length)(hp:ps.length<=100)(hrt:cO w GT ts)(hrc:eP w GC cs)(hrp:cO w GP ps)
 (ny:aP ts.length cs.length ps)(hk:fD cs ps)(ht:∀i (hi:i<ts.length),ts[i].2.1<ts.length/\ts[i].2.2<ts.length)(hcs:∀x∈cs,(x.1=80\/x.1=81)/\x.2<ts.length)(hj:6*cnt au ps+3<=100) :
  Calls prog 85 #[fv GT GC GP ts.length cs.length ps.length] w λe w'=>∃lb BU BS,e=.returned (.pointer (some ⟨lb,0,none⟩))/\LS w.heap.size lb BU BS gB (qw ts.length) (λ_=>False) (jH ts.length cs ps) (zK ts cs ps) w'/\Below w.heap.size w w':=by
 have h42:=Bj (nt:=ts.length) h7 h4 hj;have hcE:∀a b,a<ts.length->b<ts.length->gB (61,a,b)∈jH ts.length cs ps:=λa b ha hb=>ah6 _ (ah6 _ (wI ha hb));have hcC:∀c (h:c<cs.length),gB (cs[c].1,c,0)∈jH ts.length cs ps:=λc h=>by
  have h8:=hcs _ (ac4 h);rw[eX.other _ (by show cs[c].1≠61;omega)];exact ah6 _ (an8 _ (wL h))
 unfold fv;obtain⟨W0,hW0⟩:∃W0,w.alloc (.cells #[.slice (some ⟨GT,0,none⟩) ts.length ts.length,.slice (some ⟨GC,0,none⟩) cs.length cs.length,.slice (some ⟨GP,0,none⟩) ps.length ps.length] 54)=W0:=⟨_,rfl⟩;have hg0:w.grownBy W0 none:=by rw[<-hW0];exact ac1 _ _ none
 have b0:W0.heap[w.heap.size]?=some (.cells #[.slice (some ⟨GT,0,none⟩) ts.length ts.length,.slice (some ⟨GC,0,none⟩) cs.length cs.length,.slice (some ⟨GP,0,none⟩) ps.length ps.length] 54 (0,0)):=by rw[<-hW0,ad7]
 have hb0:Below w.heap.size w W0:=(But.aA hg0).below (ac2 _) (λk _ e=>by cases e);have hnl:=tu W0 (qw ts.length) (λ_=>False);have hsz0:w.heap.size<W0.heap.size:=(ac0.1 b0).1;have HRT:=aj hrt;have HRC:=aj hrc;have HRP:=aj hrp;clear hrt hrc hrp hg0
 go_enter func85,ntmps85
 go_wp2_with fail
 clear hW0;refine hnl.mono ?_;rintro e w1 ⟨lb,BU,BS,rfl,iO,hP1,hg1⟩;have hs1:=hg1.size;have k1:=VK.grown hg1;have b1:=aI k1 b0;have hB1:Below w.heap.size w w1:=hb0.trans ((But.aA hg1).below (by omega) (λk _ e=>by cases e));have q10:w1.cell? ⟨w.heap.size,0,none⟩=some (.slice (some ⟨GT,0,none⟩) ts.length ts.length):=by rw[cell_of b1];rfl
 have hje:=GY (λ_=>False) W0.heap.size w1 lb BU BS ts.length [] [] iO hP1 h7 (by omega);clear hnl iO hP1 hg1 k1
 go_wp2_with fail
 refine hje.mono ?_;rintro e w2 ⟨⟨z2,rfl⟩,iM,hB2,hK2,hs2⟩;have b2:=aI hK2 b1;have hBw2:Below w.heap.size w w2:=hB1.trans (hB2.mono (by omega));have q20:w2.cell? ⟨w.heap.size,0,none⟩=some (.slice (some ⟨GT,0,none⟩) ts.length ts.length):=by rw[cell_of b2];rfl
 have q21:w2.cell? ⟨w.heap.size,1,none⟩=some (.slice (some ⟨GC,0,none⟩) cs.length cs.length):=by rw[cell_of b2];rfl
 have q22:w2.cell? ⟨w.heap.size,2,none⟩=some (.slice (some ⟨GP,0,none⟩) ps.length ps.length):=by rw[cell_of b2];rfl
 have hgp:=(ah HRP).1;have hst:=Aq (λ_=>False) W0.heap.size w2 lb BU BS gB (qw ts.length) [] [] [] GT GC GP ts.length cs.length ps iM (λk h=>h.elim) kC.nil (by simp) (by simp) ((ah HRP).below hBw2 hgp) (by omega) ny hp0 hp h7 h4 (Je _) (by omega);unfold fv at hst;clear hje iM
 go_wp2_with fail
 refine hst.mono ?_;rintro e w3 ⟨⟨z3,rfl⟩,dS,iF,iE,hB3,hK3⟩;rw[ad9]at iE;have hs3:=hB3.size;have b3:=aI hK3 b2;have hBw3:Below w.heap.size w w3:=hBw2.trans (hB3.mono (by omega));have q30:w3.cell? ⟨w.heap.size,0,none⟩=some (.slice (some ⟨GT,0,none⟩) ts.length ts.length):=by rw[cell_of b3];rfl
 have hl3:=xU gB ps;have hde:=Uj (λ_=>False) W0.heap.size w3 lb BU BS gB (qw ts.length) (jH ts.length cs ps) (l9 gB ps) ts.length ⟨_,dS,iF,iE,DY (λp h=>by cases h) (Es ny hk) _⟩ (λk h=>h.elim) (by omega) (Je _) hcE h0 h7 (by omega) (by omega);clear hst iF iE
 go_wp2_with fail
 refine hde.mono ?_;rintro e w4 ⟨⟨z4,rfl⟩,hE4⟩;have hs4:=hE4.size;have b4:=aI hE4.keep b3;have Zj:Below w.heap.size w w4:=hBw3.trans (hE4.below.mono (by omega));have q40:w4.cell? ⟨w.heap.size,0,none⟩=some (.slice (some ⟨GT,0,none⟩) ts.length ts.length):=by rw[cell_of b4];rfl
 have hgt:=(ah HRT).1;have hl4:(l9 gB ps++Qz gB ts.length).length<=5000:=by
  have:=JM gB h7;rw[ae9];omega
 have hdf:=QI (λ_=>False) W0.heap.size w4 lb BU BS gB (qw ts.length) (jH ts.length cs ps) (l9 gB ps++Qz gB ts.length) GT ts hE4.ls (λk h=>h.elim) (by omega) (Je _) hcE h7 (by omega) hl4 ((ah HRT).below Zj hgt) (by omega) ht;have HE4:=aj hE4;clear hde hE4
 go_wp2_with fail
 refine hdf.mono ?_;rintro e w5 ⟨⟨z5,rfl⟩,hE5⟩;have hs5:=hE5.size;have b5:=aI hE5.keep b4;have Zi:Below w.heap.size w w5:=Zj.trans (hE5.below.mono (by omega));have q51:w5.cell? ⟨w.heap.size,1,none⟩=some (.slice (some ⟨GC,0,none⟩) cs.length cs.length):=by rw[cell_of b5];rfl
 have hgc:=(ah HRC).1;have hl5:(l9 gB ps++Qz gB ts.length++U4 gB ts).length<=6000:=by
  have:=JJ gB h7;rw[ae9];omega
 have hdp:=Nl (λ_=>False) W0.heap.size w5 lb BU BS gB (qw ts.length) (jH ts.length cs ps) (l9 gB ps++Qz gB ts.length++U4 gB ts) GC ts.length cs hE5.ls (λk h=>h.elim) (by omega) (Je _) hcE hcC h7 h4 (by omega) hl5 ((ah HRC).below Zi hgc) (by omega) hcs;clear hdf hE5 HE4
 go_wp2_with fail
 refine hdp.mono ?_;rintro e w6 ⟨⟨z6,rfl⟩,hE6⟩;have Zh:Below w.heap.size w w6:=Zi.trans (hE6.below.mono (by omega));have HE6:=aj hE6;have HB6:=aj Zh;clear hdp hE6 Zh
 go_wp2_with fail
 go_ret
 refine⟨lb,BU,BS,rfl,?_,ah HB6⟩;obtain⟨Us,ak,g1,g2,g3⟩:=(ah HE6).ls;exact⟨Us,ak,⟨by obtain⟨rv,r1,r2,r3⟩:=g1.rv;exact⟨rv,r1,r2,λk hk=>ae4 (by omega) (r3 k hk)⟩,g1.us,g1.sm,g1.ne,by have:=g1.lo;omega⟩,g2,g3⟩
attribute [local go_sem] Oper.semAt_some
structure FF(ts:List Key)(cs:List (Int×Nat))(ps:List Key):Prop where
 h7:ts.length<=7
 h0:0<ts.length
 h4:cs.length<=4
 hp0:0<ps.length
 hp:ps.length<=100
 inv:aB.Inv ts
 ny:aP ts.length cs.length ps
 hk:fD cs ps
 ht:∀i (hi:i<ts.length),ts[i].2.1<ts.length/\ts[i].2.2<ts.length
 hcs:∀x∈cs,(x.1=80\/x.1=81)/\x.2<ts.length
 hj:6*cnt au ps+3<=100
 ha:3*(cnt au ps+cnt isAtom ps)<=100
def DJ(ts:List Key)(cs:List (Int×Nat))(ps:List Key)(e:Ending):Prop:=
 (e=.returned (.tuple #[.bool false,.string ⟨#[]⟩])/\¬∃f hl,hl.length=cs.length/\Ak f ts cs ps hl)\/
 (∃f hl,hl.length=cs.length/\Ak f ts cs ps hl/\e=.returned (.tuple #[.bool true,.string ⟨(wrt f ts.length hl).toArray⟩]))
theorem Et{nt nc:Nat}{ps:List Key}(ny:aP nt nc ps)(hnt:nt<=7)(hnc:nc<=4)(hp:ps.length<=100){q:Key}(hq:q∈ps):(0<=q.1/\q.1<=255)/\q.2.1<=1000/\q.2.2<=1000:=by
 obtain⟨i,hlt,e⟩:=ah1 hq;have ho:=ny.ok i hlt;rw[e]at ho;rcases ho with⟨a,b,c⟩|⟨a,b,c⟩|⟨a,b,c⟩|⟨a,b,c⟩
 ·exact⟨by omega,by omega,by omega⟩
 ·have hj:q.1=38\/q.1=124\/q.1=62\/q.1=45:=by simpa[au,or_assoc]using a
  exact⟨by omega,by omega,by omega⟩
 ·exact⟨by omega,by omega,by omega⟩
 ·exact⟨by omega,by omega,by omega⟩
theorem FF.Z5{ts:List Key}{cs:List (Int×Nat)}{ps:List Key}(h:FF ts cs ps){q:Key}(hq:q∈jH ts.length cs ps):∃l,keyOf prog 93 (aS q)=some l:=by
 have h7:=h.h7;have h4:=h.h4;have hb:(0<=q.1/\q.1<=255)/\q.2.1<=1000/\q.2.2<=1000:=by
  by_cases h61:q.1=61
  ·rcases zD h.hcs hq h61 with e|⟨e1,e2⟩
   ·rw[e];simp
   ·exact⟨by omega,by omega,by omega⟩
  ·by_cases h8:q.1=80\/q.1=81
   ·obtain⟨h1,h2⟩:=zF hq h8;have h3:q.2.2=0:=(by rw[h2]);exact⟨by omega,by omega,by omega⟩
   ·unfold jH at hq;rcases af7.1 hq with hq|hq
    ·rcases af7.1 hq with hq|hq
     ·exfalso;unfold lJ at hq;rcases ah0.1 hq with e|hq
      ·rw[e]at h61;exact h61 rfl
      ·obtain⟨y,_,hq⟩:=ak7.1 hq;obtain⟨x,_,rfl⟩:=ae8.1 hq;exact h61 rfl
     ·exfalso;unfold nV at hq;obtain⟨c,hc,rfl⟩:=ae8.1 hq;have hc:=ai5.1 hc;simp only[aG hc]at h8;exact h8 (h.hcs _ (ac4 hc)).1
    ·exact Et h.ny h7 h4 h.hp (ah3.1 hq).1
 exact LW q hb.1 hb.2.1 hb.2.2
theorem FF.key1{ts:List Key}{cs:List (Int×Nat)}{ps:List Key}(h:FF ts cs ps){q:Key}(hq:q∈oC ps):∃l,keyOf prog 93 (aS q)=some l:=by
 have hb:=Et h.ny h.h7 h.h4 h.hp (ah3.1 hq).1;exact LW q hb.1 hb.2.1 hb.2.2
theorem SQ(f:Key->Key){cs:List (Int×Nat)}(h:cs.length<=4):(Xo f cs).length<=32:=by
 rw[Oy];have h1:=qQ (λa=>(List.range a).flatMap λb=>xE f cs a b) 8 cs.length (λa ha=>by
  have h2:=jZ (λb=>xE f cs a b) 2 (λb=>BO f cs a b) a;omega)
 omega
theorem Rn{ts:List Key}{cs:List (Int×Nat)}{ps:List Key}(h7:ts.length<=7)(h4:cs.length<=4)(hp:ps.length<=100):(zK ts cs ps).length<=1000:=by
 have h1:=xU gB ps;have h2:=JM gB h7;have h3:=JJ gB h7;have h5:=SQ gB h4;unfold zK;rw[ae9,ae9,ae9];omega
theorem Xz{U:Nat}(h:U<=42):2 ^ U<=4398046511104:=by
 have:=Nat.pow_le_pow_right (n:=2) (by decide) h;exact this
theorem XA{U:Nat}(h:U<=33):2 ^ U<=8589934592:=by
 have:=Nat.pow_le_pow_right (n:=2) (by decide) h;exact this
theorem LG.after{n0:Nat}{w w1 w2:World}{lb BU BS b:Nat}{f:Key->Key}{dom:Key->Prop}{Us:List Key}{ak:List Rule}{X:Nat->Prop}{rv:Value}(h:LG n0 w lb BU BS f dom Us ak X)(h1:oJ w lb (some BU) (some BS) rv)(h2:bH w rv ak)(hg:w.grownBy w1 none)(hb:But (λk=>k=b\/some k=rv.ownBlock) w1 w2)(hbw:w.heap.size<=b) :
  oJ w2 lb (some BU) (some BS) rv/\aH w2 93 BU aS Us:=by
 have hll:=h1.lt;have hul:=h.us.lt;have hs:=hg.size;refine⟨(h1.kept (hg.block lb hll (by simp))).kept (hb.block lb (by omega) (λe=>?_)),(h.us.kept (hg.block BU hul (by simp))).kept (hb.block BU (by omega) (λe=>?_))⟩
 ·rcases e with e|e
  ·omega
  ·obtain⟨vs,⟨_,q⟩,_⟩:=h2;rcases q with⟨rfl,_⟩|⟨g,cap,cur',rfl,q2,q3,q4⟩
   ·cases e
   ·cases e;have:=h1.out;rw[q3]at this;simp at this
 ·rcases e with e|e
  ·omega
  ·exact h2.yC h.us _ e.symm rfl
theorem wY(w:World)(GT GC GP:Nat)(ts:List Key)(cs:List (Int×Nat))(ps:List Key)(tape:ByteArray)(hF:FF ts cs ps)(hd:xg tape.data.toList)(h60:tape.size<=60)(hrt:cO w GT ts)(hrc:eP w GC cs)(hrp:cO w GP ps) :
  Calls prog 52 #[fv GT GC GP ts.length cs.length ps.length,.string tape] w λe w'=>DJ ts cs ps e/\Below w.heap.size w w':=by
 obtain⟨w0,hw0⟩:∃w0,w.alloc (.cells #[.slice (some ⟨GT,0,none⟩) ts.length ts.length,.slice (some ⟨GC,0,none⟩) cs.length cs.length,.slice (some ⟨GP,0,none⟩) ps.length ps.length] 54)=w0:=⟨_,rfl⟩;have hb0:Below w.heap.size w w0:=by rw[<-hw0];exact(af5 _ w).alloc (ac2 _) _
 have hx0:w0.heap[w.heap.size]?=some (.cells #[.slice (some ⟨GT,0,none⟩) ts.length ts.length,.slice (some ⟨GC,0,none⟩) cs.length cs.length,.slice (some ⟨GP,0,none⟩) ps.length ps.length] 54 (0,0)):=by rw[<-hw0];exact ad7 _ _
 have hs0:w.heap.size<w0.heap.size:=(ac0.1 hx0).1;have q0:w0.cell? ⟨w.heap.size,0,none⟩=some (.slice (some ⟨GT,0,none⟩) ts.length ts.length):=by rw[cell_of hx0];rfl
 have q1:w0.cell? ⟨w.heap.size,1,none⟩=some (.slice (some ⟨GC,0,none⟩) cs.length cs.length):=by rw[cell_of hx0];rfl
 have q2:w0.cell? ⟨w.heap.size,2,none⟩=some (.slice (some ⟨GP,0,none⟩) ps.length ps.length):=by rw[cell_of hx0];rfl
 have hla:=yG w0 GT GC GP ts cs ps hF.h7 hF.h0 hF.h4 hF.hp0 hF.hp (hrt.below hb0 hrt.1) (hrc.below hb0 hrc.1) (hrp.below hb0 hrp.1) hF.ny hF.hk hF.ht hF.hcs hF.hj;have h42:=Bj (nt:=ts.length) hF.h7 hF.h4 hF.hj;have hal:=Rn hF.h7 hF.h4 hF.hp;have HF:=aj hF;have HD:=aj hd;clear hF hd hrt hrc hrp;unfold fv at hla ⊢
 go_enter func52,ntmps52
 go_wp2_with fail
 clear hw0;refine hla.mono ?_;rintro e w1 ⟨lb,BU,BS,rfl,⟨Us,ak,iZ,lH,hUc⟩,hb1⟩;obtain⟨rv,hL,hRX,hro⟩:=iZ.rv;have hRV:=hRX.v;obtain⟨rp,rc,rfl⟩:=hRV.slice;have hUl:Us.length<=42:=ae4 (qK _ Us lH.lp.nodup hUc) h42;have hls:=wB w1 lb BU (some BS) rp ak.length rc Us tape 87 #[] hL iZ.us;have hs1:=hb1.size;have HLG:=aj iZ;have HLP:=aj lH;have HUC:=aj hUc;have HL:=aj hL;have HRV:=aj hRV;have HRO:=aj hro;have HB1:=aj hb1;clear hla iZ lH hUc hL hRX hRV hro hb1 q0 q1 q2
 go_wp2_with fail
 refine hls.mono ?_;rintro e w2 ⟨rfl,hS,hg2⟩;have hs2:=hg2.size;have hrl:=(ah HLP).len;have h2U:=Xz hUl;have htl:tape.data.toList.length<=60:=h60;have hfi:=Ba w2 (λk=>k=w1.heap.size\/some k=(Value.slice rp ak.length rc).ownBlock) w1.heap.size Us.length 5000000000000 87 [] (.slice rp ak.length rc) tape.data.toList ak (λ_=>True) False (λ_=>True) (Jp0 Us.length) (J0 Us.length) (ZV Us.length) (tape.data.toList.length+2 ^ Us.length) hS
  ((ah HRV).but (But.aA hg2) (λk e=>by cases e) (λk _ e=>by cases e)) (ah HLP).lp.rg (ah HD) (by omega)
  ⟨λj hj=>by simp at hj,by
   by_cases e:tape.data.toList=[]
   ·exact Or.inr ⟨e,Or.inl (by simp[e])⟩
   ·exact Or.inl ⟨e,ac2 _⟩⟩
  (Or.inl rfl) (λk hk=>Or.inr hk.symm) (by omega) (ac2 _) (aq2 func87 (by kernel_rfl) rfl)
  (λW m τ _ _ _ _ _=>(vG (some m) W).mono (by
   rintro e w' ⟨rfl,rfl⟩;exact⟨_,[],rfl,Or.inl ⟨rfl,rfl⟩,af5 _ _,λ_=>trivial,λh=>absurd rfl h⟩))
 have HG2:=aj hg2;clear hls hS hg2
 go_wp2_with fail
 refine hfi.mono ?_;rintro e w3 ⟨hE,hB3⟩;obtain⟨hL3,hM3⟩:=(ah HLG).after (ah HL) (ah HRV) (ah HG2) hB3 (ac2 _);have hb02:Below w0.heap.size w0 w2:=(ah HB1).trans ((But.aA (ah HG2)).below (by omega) (λk _ e=>by cases e));have hb03:Below w0.heap.size w0 w3:=hb02.trans (hB3.below (by omega) (λk hk e=>by
  rcases e with e|e
  ·omega
  ·have:=ah HRO k e.symm;omega))
 have hb3:Below w.heap.size w w3:=hb0.trans (hb03.mono (by omega));have HB3:=aj hb3;have ZK:=aj hb03;clear hfi hB3 hb02 hb3 hb03;rcases hE with⟨rfl,rv',tp',m,τ,aK,hFI,hall,hsub,hdone,_⟩|⟨rfl,hno⟩
 ·have PN:=J5 (ah HF).ny (ah HF).hk (ah HF).hp0 (ah HF).h0 (ah HF).ht (ah HF).hcs (ah HLP) (ah HUC) hdone hsub hall hFI.lt;have PD:=hFI.uG.cells.2.2.2.2;have hsl:=hFI.uG.lt;have hlen:=yM (fA Us τ) cs.length;have hBM:=hFI.bs.m;have nU:Hid (∀W,Below w3.heap.size w3 W->Calls prog 91 #[.pointer (some ⟨lb,0,none⟩),.map (some m)] W λe w'=>∃v,e=.returned v/\gy w' v (fA Us τ)/\Below W.heap.size W w'):=λW hW=>
   pJ W lb BU m (some BS) (.slice rp ak.length rc) Us τ (hL3.kept (hW.block lb hL3.lt)) (hM3.kept (hW.block BU hM3.lt)) (ah HLP).lp.nodup (by omega) (λx hx=>(ah HF).Z5 (ah HUC x hx)) (hBM.kept (hW.block m hBM.lt)) hFI.lt hall
  have Py:∀s∈fA Us τ,(s.2.2.1=61->s.2.2.2.1<ts.length/\s.2.2.2.2<ts.length)/\(s.2.2.1≠61->s.2.2.2.1<cs.length):=λs hs=>by
   obtain⟨g1,g2,_,_⟩:=rP (ah HLP).lp.nodup hs;have hc:=ah HUC _ g1;have h0:=(ah HF).h0;refine⟨λh61=>?_,λh61=>?_⟩
   ·rcases zD (ah HF).hcs hc h61 with e|⟨e1,e2⟩
    ·rw[e];exact⟨h0,h0⟩
    ·exact⟨by omega,e2⟩
   ·obtain⟨h1,_⟩:=zF hc (by simp only[isAtom,ah4]at g2;omega);exact h1
  have hsl2:(fA Us τ).length<=1000:=ae4 (pK Us τ Us.length) (by omega);have HMD:=aj PN;have Ry:=aj Py;clear hFI hall hsub hdone PN Py hL3 hM3 hBM;generalize fA Us τ=ss at nU HMD Ry hsl2 hlen;have hSt:Hid (∀W',Below w3.heap.size w3 W'->W'.cell? ⟨w.heap.size,0,none⟩=some (.slice (some ⟨GT,0,none⟩) ts.length ts.length)/\W'.cell? ⟨w.heap.size,1,none⟩=some (.slice (some ⟨GC,0,none⟩) cs.length cs.length)/\W'.cell? ⟨w.heap.size,2,none⟩=some (.slice (some ⟨GP,0,none⟩) ps.length ps.length)/\W'.cell? ⟨w1.heap.size,4,none⟩=some (.map (some m))):=λW' hW=>by
   have hb:=(ah ZK).trans (hW.mono (ah ZK).size);have hx:=(hb.block w.heap.size hs0).trans hx0;exact⟨by rw[cell_of hx];rfl,by rw[cell_of hx];rfl,by rw[cell_of hx];rfl,(hW.cell (p:=⟨w1.heap.size,4,none⟩) hsl).trans PD⟩
  have HLEN:=aj hlen;clear hx0 PD hlen
  go_wp2_with fail
  refine ag0 (S:=λW'=>Below w3.heap.size w3 W') rfl ?_;have hS0:Below w3.heap.size w3 w3.drew:=(af5 _ _).drew;simp only[ad3,ac9,ae1,Nat.reduceAdd,ac7,ac6,ad5,ad9,ad8];change wpAnyH prog .any _ _ _ _ _ _ w3.drew;refine tH 0 (.agg #[.slice (some ⟨GT,0,none⟩) ts.length ts.length,.slice (some ⟨GC,0,none⟩) cs.length cs.length,.slice (some ⟨GP,0,none⟩) ps.length ps.length]) (λw' hS=>?_) hS0 ?_
  ·obtain⟨s1,s2,s3,s4⟩:=ah hSt _ hS;go_simp
  simp only[aC];refine tH 1 (.agg #[.slice (some ⟨GT,0,none⟩) ts.length ts.length,.slice (some ⟨GC,0,none⟩) cs.length cs.length,.slice (some ⟨GP,0,none⟩) ps.length ps.length]) (λw' hS=>?_) hS0 ?_
  ·obtain⟨s1,s2,s3,s4⟩:=ah hSt _ hS;go_simp
  simp only[aC];refine tH 2 (.pointer (some ⟨lb,0,none⟩)) (λw' hS=>?_) hS0 ?_
  ·go_simp
  simp only[aC];refine tH 3 (.pointer (some ⟨w1.heap.size,0,none⟩)) (λw' hS=>?_) hS0 ?_
  ·go_simp
  simp only[aC];refine tH 4 (.pointer (some ⟨w1.heap.size,0,none⟩)) (λw' hS=>?_) hS0 ?_
  ·go_simp
  simp only[aC];refine tH 5 (.pointer (some ⟨w1.heap.size,4,none⟩)) (λw' hS=>?_) hS0 ?_
  ·go_simp
  simp only[aC];refine tH 6 (.map (some m)) (λw' hS=>?_) hS0 ?_
  ·obtain⟨s1,s2,s3,s4⟩:=ah hSt _ hS;go_simp
  simp only[aC];refine oH 7 (λK hK=>?_);go_simp;refine(ah nU _ hS0).mono ?_;rintro e w4 ⟨v,rfl,hsv,hb4⟩;replace hS0:=hS0.trans (hb4.mono hS0.size);refine hK.out _ _ hS0 ?_;clear hK K;obtain⟨vp,vc,rfl,_⟩:=id hsv;have hsit:=oh GT GC GP ts.length cs.length ps.length _ ss w4 (ah HF).h7 (ah HF).h4 hsv hsl2 (ah Ry);unfold fv sv at hsit;refine oH 8 (λK hK=>?_);go_simp;refine(hsit).mono ?_;rintro e w5 ⟨b,H,rfl,hH,hJ,hrows⟩;replace hS0:=hS0.trans (hJ.below.mono hS0.size);refine hK.out _ _ hS0 ?_;clear hK K;obtain⟨cm,hm,_⟩:=hJ.m;have hwr:=pF GT GC GP ts.length cs.length ps.length b cm H (aY (ss.map dF)) (kV ss cs.length) w5 (ah HF).h7 (by rw[ah HLEN];exact(ah HF).h4) (λi hi=>(hJ.roots i hi).1) hm hrows;unfold fv sv at hwr;rw[ah HLEN]at hwr;have HS0:=aj hS0;clear hsit hsv hb4 hm hJ hrows;refine oH 9 (λK hK=>?_);go_simp;refine(hwr).mono ?_;rintro e w6 ⟨rfl,hb6⟩;replace hS0:=(ah HS0).trans (hb6.mono (ah HS0).size);refine hK.out _ _ hS0 ?_;clear hK K;refine oH 10 (λK hK=>?_);go_simp;replace hS0:=hS0;refine hK.out _ _ hS0 ?_;clear hK K;refine oH 11 (λK hK=>?_);go_simp;refine hK.out _ _ (hS0) (af4 (by kernel_rfl) ?_ _);clear hK K;have HS6:=aj hS0;clear hwr hb6 hS0
  go_wp2_with fail
  refine af2 (v:=.tuple #[.bool true,.string ⟨(wrt (aY (ss.map dF)) ts.length (kV ss cs.length)).toArray⟩]) (by simp[results,results52,go_sem]) rfl ⟨Or.inr ⟨_,_,ah HLEN,ah HMD,rfl⟩,(ah HB3).trans ((ah HS6).mono (ah HB3).size)⟩
 ·have hnone:=J4 (ah HF).ny (ah HF).hp0 (ah HF).h0 (ah HF).ht (ah HF).hcs (ah HLP) hno;have HN:=aj hnone;clear hnone hno hL3 hM3
  go_wp2_with fail
  refine af2 (v:=.tuple #[.bool false,.string ⟨#[]⟩]) (by simp[results,results52,go_sem]) rfl ⟨Or.inl ⟨rfl,ah HN⟩,ah HB3⟩
end Go.Proofs.YthcppbmkacbbiaaGreat
