import Derived.Test.YthcppbmkacbbiaaGreatZBM
import Derived.Test.YthcppbmkacbbiaaGreatZBP
import Derived.Test.YthcppbmkacbbiaaGreatZBU
import Derived.Test.YthcppbmkacbbiaaGreatZBS
set_option linter.unusedSimpArgs false
set_option maxHeartbeats 4000000
set_option maxRecDepth 100000
namespace Go.Proofs.YthcppbmkacbbiaaGreat
open Go.Proofs.Tryz
open Go.RowKit Go.Maps Go.WideMaps
open Sat (View Rule jT cZ)
section
open au (Key put dX aA isAtom cnt bI gy)
theorem zl(f:Key->Key)(ps:List Key):(mY f ps).length<=4*ps.length+1:=by
 unfold mY;have:=Iu f ps ps.length;simp;omega
theorem rP{α:Type}(g:Nat->List α)(c:Nat):∀k,(∀i,i<k->(g i).length<=c)->((List.range k).flatMap g).length<=k*c:=by
 intro k
 induction k with
 |zero=>intro _;simp
 |succ k ih=>
  intro h;rw[eP,ah1,ap5];have h1:=ih (λi hi=>h i (by omega));have h2:=h k (by omega);omega
theorem Ns(f:Key->Key){n:Nat}(h:n<=7):(UO f n).length<=400:=by
 unfold UO;have h1:=rP (λa=>(List.range n).flatMap λb=>(List.range a).map λc=>[((f (dh a b),false):bG),(f (dh b c),false),(f (dh a c),true)]) 49 n (λa ha=>by
  have h2:=rP (λb=>(List.range a).map λc=>[((f (dh a b),false):bG),(f (dh b c),false),(f (dh a c),true)]) 7 n (λb hb=>by simp;omega);omega)
 rw[ah1];simp only[al6];omega
theorem Nl(f:Key->Key){ts:List Key}(h:ts.length<=7):(Ym f ts).length<=49:=by
 rw[UJ];have h1:=rP (λa=>(List.range a).flatMap λb=>yU f ts a b) 7 ts.length (λa ha=>by
  have h2:=kZ (λb=>yU f ts a b) 1 (λb=>EN f ts a b) a;omega)
 omega
theorem zZ(w:World)(GT GC GP:Nat)(ts:List Key)(cs:List (Int×Nat))(ps:List Key)(h7:ts.length<=7)(h0:0<ts.length)(h4:cs.length<=4)(hp0:0<ps.length)(hp:ps.length<=100)(hrt:dU w GT ts)(hrc:iF w GC cs)(hrp:dU w GP ps)
 (su:bI ts.length cs.length ps)(hk:gy cs ps)(ht:∀i (hi:i<ts.length),ts[i].2.1<ts.length/\ts[i].2.2<ts.length)(hcs:∀x∈cs,(x.1=80\/x.1=81)/\x.2<ts.length)(hj:6*cnt aA ps+3<=100) :
  Calls prog 85 #[fv GT GC GP ts.length cs.length ps.length] w λe w'=>∃lb BU BS,e=.returned (.pointer (some ⟨lb,0,none⟩))/\LS w.heap.size lb BU BS ig (qM ts.length) (λ_=>False) (kG ts.length cs ps) (BH ts cs ps) w'/\Below w.heap.size w w':=by
 have h42:=DY (nt:=ts.length) h7 h4 hj;have hcE:∀a b,a<ts.length->b<ts.length->ig (61,a,b)∈kG ts.length cs ps:=λa b ha hb=>ak9 _ (ak9 _ (xY ha hb));have hcC:∀c (h:c<cs.length),ig (cs[c].1,c,0)∈kG ts.length cs ps:=λc h=>by
  have h8:=hcs _ (af4 h);rw[fP.other _ (by show cs[c].1≠61;omega)];exact ak9 _ (at6 _ (x9 h))
 unfold fv;obtain⟨W0,hW0⟩:∃W0,w.alloc (.cells #[.slice (some ⟨GT,0,none⟩) ts.length ts.length,.slice (some ⟨GC,0,none⟩) cs.length cs.length,.slice (some ⟨GP,0,none⟩) ps.length ps.length] 54)=W0:=⟨_,rfl⟩;have hg0:w.grownBy W0 none:=by rw[<-hW0];exact ae9 _ _ none
 have b0:W0.heap[w.heap.size]?=some (.cells #[.slice (some ⟨GT,0,none⟩) ts.length ts.length,.slice (some ⟨GC,0,none⟩) cs.length cs.length,.slice (some ⟨GP,0,none⟩) ps.length ps.length] 54 (0,0)):=by rw[<-hW0,ag4]
 have hb0:Below w.heap.size w W0:=(But.aB hg0).below (af0 _) (λk _ e=>by cases e);have hnl:=uU W0 (qM ts.length) (λ_=>False);have hsz0:w.heap.size<W0.heap.size:=(ae8.1 b0).1;have HRT:=aj hrt;have HRC:=aj hrc;have HRP:=aj hrp;clear hrt hrc hrp hg0
 go_enter func85,ntmps85
 go_wp2_with fail
 clear hW0;refine hnl.mono ?_;rintro e w1 ⟨lb,BU,BS,rfl,jm,hP1,hg1⟩;have hs1:=hg1.size;have k1:=VK.grown hg1;have b1:=aQ k1 b0;have hB1:Below w.heap.size w w1:=hb0.trans ((But.aB hg1).below (by omega) (λk _ e=>by cases e));have q10:w1.cell? ⟨w.heap.size,0,none⟩=some (.slice (some ⟨GT,0,none⟩) ts.length ts.length):=by rw[cell_of b1];rfl
 have hje:=JL (λ_=>False) W0.heap.size w1 lb BU BS ts.length [] [] jm hP1 h7 (by omega);clear hnl jm hP1 hg1 k1
 go_wp2_with fail
 refine hje.mono ?_;rintro e w2 ⟨⟨z2,rfl⟩,jl,hB2,hK2,hs2⟩;have b2:=aQ hK2 b1;have hBw2:Below w.heap.size w w2:=hB1.trans (hB2.mono (by omega));have q20:w2.cell? ⟨w.heap.size,0,none⟩=some (.slice (some ⟨GT,0,none⟩) ts.length ts.length):=by rw[cell_of b2];rfl
 have q21:w2.cell? ⟨w.heap.size,1,none⟩=some (.slice (some ⟨GC,0,none⟩) cs.length cs.length):=by rw[cell_of b2];rfl
 have q22:w2.cell? ⟨w.heap.size,2,none⟩=some (.slice (some ⟨GP,0,none⟩) ps.length ps.length):=by rw[cell_of b2];rfl
 have hgp:=(ah HRP).1;have hst:=Dh (λ_=>False) W0.heap.size w2 lb BU BS ig (qM ts.length) [] [] [] GT GC GP ts.length cs.length ps jl (λk h=>h.elim) lC.nil (by simp) (by simp) ((ah HRP).below hBw2 hgp) (by omega) su hp0 hp h7 h4 (MF _) (by omega);unfold fv at hst;clear hje jl
 go_wp2_with fail
 refine hst.mono ?_;rintro e w3 ⟨⟨z3,rfl⟩,fA,iV,iU,hB3,hK3⟩;rw[ag9]at iU;have hs3:=hB3.size;have b3:=aQ hK3 b2;have hBw3:Below w.heap.size w w3:=hBw2.trans (hB3.mono (by omega));have q30:w3.cell? ⟨w.heap.size,0,none⟩=some (.slice (some ⟨GT,0,none⟩) ts.length ts.length):=by rw[cell_of b3];rfl
 have hl3:=zl ig ps;have hde:=XF (λ_=>False) W0.heap.size w3 lb BU BS ig (qM ts.length) (kG ts.length cs ps) (mY ig ps) ts.length ⟨_,fA,iV,iU,FX (λp h=>by cases h) (GI su hk) _⟩ (λk h=>h.elim) (by omega) (MF _) hcE h0 h7 (by omega) (by omega);clear hst iV iU
 go_wp2_with fail
 refine hde.mono ?_;rintro e w4 ⟨⟨z4,rfl⟩,hE4⟩;have hs4:=hE4.size;have b4:=aQ hE4.keep b3;have ab2:Below w.heap.size w w4:=hBw3.trans (hE4.below.mono (by omega));have q40:w4.cell? ⟨w.heap.size,0,none⟩=some (.slice (some ⟨GT,0,none⟩) ts.length ts.length):=by rw[cell_of b4];rfl
 have hgt:=(ah HRT).1;have hl4:(mY ig ps++UO ig ts.length).length<=5000:=by
  have:=Ns ig h7;rw[ah1];omega
 have hdf:=U8 (λ_=>False) W0.heap.size w4 lb BU BS ig (qM ts.length) (kG ts.length cs ps) (mY ig ps++UO ig ts.length) GT ts hE4.ls (λk h=>h.elim) (by omega) (MF _) hcE h7 (by omega) hl4 ((ah HRT).below ab2 hgt) (by omega) ht;have HE4:=aj hE4;clear hde hE4
 go_wp2_with fail
 refine hdf.mono ?_;rintro e w5 ⟨⟨z5,rfl⟩,hE5⟩;have hs5:=hE5.size;have b5:=aQ hE5.keep b4;have ab1:Below w.heap.size w w5:=ab2.trans (hE5.below.mono (by omega));have q51:w5.cell? ⟨w.heap.size,1,none⟩=some (.slice (some ⟨GC,0,none⟩) cs.length cs.length):=by rw[cell_of b5];rfl
 have hgc:=(ah HRC).1;have hl5:(mY ig ps++UO ig ts.length++Ym ig ts).length<=6000:=by
  have:=Nl ig h7;rw[ah1];omega
 have hdp:=Qb (λ_=>False) W0.heap.size w5 lb BU BS ig (qM ts.length) (kG ts.length cs ps) (mY ig ps++UO ig ts.length++Ym ig ts) GC ts.length cs hE5.ls (λk h=>h.elim) (by omega) (MF _) hcE hcC h7 h4 (by omega) hl5 ((ah HRC).below ab1 hgc) (by omega) hcs;clear hdf hE5 HE4
 go_wp2_with fail
 refine hdp.mono ?_;rintro e w6 ⟨⟨z6,rfl⟩,hE6⟩;have abZ:Below w.heap.size w w6:=ab1.trans (hE6.below.mono (by omega));have HE6:=aj hE6;have HB6:=aj abZ;clear hdp hE6 abZ
 go_wp2_with fail
 go_ret
 refine⟨lb,BU,BS,rfl,?_,ah HB6⟩;obtain⟨Us,ak,g1,g2,g3⟩:=(ah HE6).ls;exact⟨Us,ak,⟨by obtain⟨rv,r1,r2,r3⟩:=g1.rv;exact⟨rv,r1,r2,λk hk=>ah2 (by omega) (r3 k hk)⟩,g1.us,g1.sm,g1.ne,by have:=g1.lo;omega⟩,g2,g3⟩
end
section
open au (Key put dX aA isAtom cnt bI gy)
attribute [local go_sem] Oper.semAt_some
structure FF(ts:List Key)(cs:List (Int×Nat))(ps:List Key):Prop where
 h7:ts.length<=7
 h0:0<ts.length
 h4:cs.length<=4
 hp0:0<ps.length
 hp:ps.length<=100
 inv:au.Inv ts
 su:bI ts.length cs.length ps
 hk:gy cs ps
 ht:∀i (hi:i<ts.length),ts[i].2.1<ts.length/\ts[i].2.2<ts.length
 hcs:∀x∈cs,(x.1=80\/x.1=81)/\x.2<ts.length
 hj:6*cnt aA ps+3<=100
 ha:3*(cnt aA ps+cnt isAtom ps)<=100
def FK(ts:List Key)(cs:List (Int×Nat))(ps:List Key)(e:Ending):Prop:=
 (e=.returned (.tuple #[.bool false,.string ⟨#[]⟩])/\¬∃f hl,hl.length=cs.length/\FH f ts cs ps hl)\/
 (∃f hl,hl.length=cs.length/\FH f ts cs ps hl/\e=.returned (.tuple #[.bool true,.string ⟨(wrt f ts.length hl).toArray⟩]))
theorem GK{nt nc:Nat}{ps:List Key}(su:bI nt nc ps)(hnt:nt<=7)(hnc:nc<=4)(hp:ps.length<=100){q:Key}(hq:q∈ps):(0<=q.1/\q.1<=255)/\q.2.1<=1000/\q.2.2<=1000:=by
 obtain⟨i,hlt,e⟩:=aj2 hq;have ho:=su.ok i hlt;rw[e]at ho;rcases ho with⟨a,b,c⟩|⟨a,b,c⟩|⟨a,b,c⟩|⟨a,b,c⟩
 ·exact⟨by omega,by omega,by omega⟩
 ·have hj:q.1=38\/q.1=124\/q.1=62\/q.1=45:=by simpa[aA,or_assoc]using a
  exact⟨by omega,by omega,by omega⟩
 ·exact⟨by omega,by omega,by omega⟩
 ·exact⟨by omega,by omega,by omega⟩
theorem FF.acM{ts:List Key}{cs:List (Int×Nat)}{ps:List Key}(h:FF ts cs ps){q:Key}(hq:q∈kG ts.length cs ps):∃l,keyOf prog 93 (bD q)=some l:=by
 have h7:=h.h7;have h4:=h.h4;have hb:(0<=q.1/\q.1<=255)/\q.2.1<=1000/\q.2.2<=1000:=by
  by_cases h61:q.1=61
  ·rcases Bq h.hcs hq h61 with e|⟨e1,e2⟩
   ·rw[e];simp
   ·exact⟨by omega,by omega,by omega⟩
  ·by_cases h8:q.1=80\/q.1=81
   ·obtain⟨h1,h2⟩:=Bv hq h8;have h3:q.2.2=0:=(by rw[h2]);exact⟨by omega,by omega,by omega⟩
   ·unfold kG at hq;rcases ai3.1 hq with hq|hq
    ·rcases ai3.1 hq with hq|hq
     ·exfalso;unfold mG at hq;rcases aj8.1 hq with e|hq
      ·rw[e]at h61;exact h61 rfl
      ·obtain⟨y,_,hq⟩:=an4.1 hq;obtain⟨x,_,rfl⟩:=ah3.1 hq;exact h61 rfl
     ·exfalso;unfold oD at hq;obtain⟨c,hc,rfl⟩:=ah3.1 hq;have hc:=aj9.1 hc;simp only[aN hc]at h8;exact h8 (h.hcs _ (af4 hc)).1
    ·exact GK h.su h7 h4 h.hp (ak2.1 hq).1
 exact O7 q hb.1 hb.2.1 hb.2.2
theorem FF.key1{ts:List Key}{cs:List (Int×Nat)}{ps:List Key}(h:FF ts cs ps){q:Key}(hq:q∈oZ ps):∃l,keyOf prog 93 (bD q)=some l:=by
 have hb:=GK h.su h.h7 h.h4 h.hp (ak2.1 hq).1;exact O7 q hb.1 hb.2.1 hb.2.2
theorem WJ(f:Key->Key){cs:List (Int×Nat)}(h:cs.length<=4):(prC f cs).length<=32:=by
 rw[RZ];have h1:=rP (λa=>(List.range a).flatMap λb=>yN f cs a b) 8 cs.length (λa ha=>by
  have h2:=kZ (λb=>yN f cs a b) 2 (λb=>Ei f cs a b) a;omega)
 omega
theorem VE{ts:List Key}{cs:List (Int×Nat)}{ps:List Key}(h7:ts.length<=7)(h4:cs.length<=4)(hp:ps.length<=100):(BH ts cs ps).length<=1000:=by
 have h1:=zl ig ps;have h2:=Ns ig h7;have h3:=Nl ig h7;have h5:=WJ ig h4;unfold BH;rw[ah1,ah1,ah1];omega
theorem aan{U:Nat}(h:U<=42):2 ^ U<=4398046511104:=by
 have:=Nat.pow_le_pow_right (n:=2) (by decide) h;exact this
theorem aao{U:Nat}(h:U<=33):2 ^ U<=8589934592:=by
 have:=Nat.pow_le_pow_right (n:=2) (by decide) h;exact this
theorem LG.after{n0:Nat}{w w1 w2:World}{lb BU BS b:Nat}{f:Key->Key}{dom:Key->Prop}{Us:List Key}{ak:List Rule}{X:Nat->Prop}{rv:Value}(h:LG n0 w lb BU BS f dom Us ak X)(h1:pq w lb (some BU) (some BS) rv)(h2:cO w rv ak)(hg:w.grownBy w1 none)(hb:But (λk=>k=b\/some k=rv.ownBlock) w1 w2)(hbw:w.heap.size<=b) :
  pq w2 lb (some BU) (some BS) rv/\aP w2 93 BU bD Us:=by
 have hll:=h1.lt;have hul:=h.us.lt;have hs:=hg.size;refine⟨(h1.kept (hg.block lb hll (by simp))).kept (hb.block lb (by omega) (λe=>?_)),(h.us.kept (hg.block BU hul (by simp))).kept (hb.block BU (by omega) (λe=>?_))⟩
 ·rcases e with e|e
  ·omega
  ·obtain⟨vs,⟨_,q⟩,_⟩:=h2;rcases q with⟨rfl,_⟩|⟨g,cap,cur',rfl,q2,q3,q4⟩
   ·cases e
   ·cases e;have:=h1.out;rw[q3]at this;simp at this
 ·rcases e with e|e
  ·omega
  ·exact h2.zT h.us _ e.symm rfl
theorem yD(w:World)(GT GC GP:Nat)(ts:List Key)(cs:List (Int×Nat))(ps:List Key)(tape:ByteArray)(hF:FF ts cs ps)(hd:yG tape.data.toList)(h60:tape.size<=60)(hrt:dU w GT ts)(hrc:iF w GC cs)(hrp:dU w GP ps) :
  Calls prog 52 #[fv GT GC GP ts.length cs.length ps.length,.string tape] w λe w'=>FK ts cs ps e/\Below w.heap.size w w':=by
 obtain⟨w0,hw0⟩:∃w0,w.alloc (.cells #[.slice (some ⟨GT,0,none⟩) ts.length ts.length,.slice (some ⟨GC,0,none⟩) cs.length cs.length,.slice (some ⟨GP,0,none⟩) ps.length ps.length] 54)=w0:=⟨_,rfl⟩;have hb0:Below w.heap.size w w0:=by rw[<-hw0];exact(ai7 _ w).alloc (af0 _) _
 have hx0:w0.heap[w.heap.size]?=some (.cells #[.slice (some ⟨GT,0,none⟩) ts.length ts.length,.slice (some ⟨GC,0,none⟩) cs.length cs.length,.slice (some ⟨GP,0,none⟩) ps.length ps.length] 54 (0,0)):=by rw[<-hw0];exact ag4 _ _
 have hs0:w.heap.size<w0.heap.size:=(ae8.1 hx0).1;have q0:w0.cell? ⟨w.heap.size,0,none⟩=some (.slice (some ⟨GT,0,none⟩) ts.length ts.length):=by rw[cell_of hx0];rfl
 have q1:w0.cell? ⟨w.heap.size,1,none⟩=some (.slice (some ⟨GC,0,none⟩) cs.length cs.length):=by rw[cell_of hx0];rfl
 have q2:w0.cell? ⟨w.heap.size,2,none⟩=some (.slice (some ⟨GP,0,none⟩) ps.length ps.length):=by rw[cell_of hx0];rfl
 have hla:=zZ w0 GT GC GP ts cs ps hF.h7 hF.h0 hF.h4 hF.hp0 hF.hp (hrt.below hb0 hrt.1) (hrc.below hb0 hrc.1) (hrp.below hb0 hrp.1) hF.su hF.hk hF.ht hF.hcs hF.hj;have h42:=DY (nt:=ts.length) hF.h7 hF.h4 hF.hj;have hal:=VE hF.h7 hF.h4 hF.hp;have HF:=aj hF;have HD:=aj hd;clear hF hd hrt hrc hrp;unfold fv at hla ⊢
 go_enter func52,ntmps52
 go_wp2_with fail
 clear hw0;refine hla.mono ?_;rintro e w1 ⟨lb,BU,BS,rfl,⟨Us,ak,jC,mF,hUc⟩,hb1⟩;obtain⟨rv,hL,hRX,hro⟩:=jC.rv;have hRV:=hRX.v;obtain⟨rp,rc,rfl⟩:=hRV.slice;have hUl:Us.length<=42:=ah2 (rD _ Us mF.lp.nodup hUc) h42;have hls:=xO w1 lb BU (some BS) rp ak.length rc Us tape 87 #[] hL jC.us;have hs1:=hb1.size;have HLG:=aj jC;have HLP:=aj mF;have HUC:=aj hUc;have HL:=aj hL;have HRV:=aj hRV;have HRO:=aj hro;have HB1:=aj hb1;clear hla jC mF hUc hL hRX hRV hro hb1 q0 q1 q2
 go_wp2_with fail
 refine hls.mono ?_;rintro e w2 ⟨rfl,hS,hg2⟩;have hs2:=hg2.size;have hrl:=(ah HLP).len;have h2U:=aan hUl;have htl:tape.data.toList.length<=60:=h60;have hfi:=DR w2 (λk=>k=w1.heap.size\/some k=(Value.slice rp ak.length rc).ownBlock) w1.heap.size Us.length 5000000000000 87 [] (.slice rp ak.length rc) tape.data.toList ak (λ_=>True) False (λ_=>True) (Jp0 Us.length) (J0 Us.length) (acI Us.length) (tape.data.toList.length+2 ^ Us.length) hS
  ((ah HRV).but (But.aB hg2) (λk e=>by cases e) (λk _ e=>by cases e)) (ah HLP).lp.rg (ah HD) (by omega)
  ⟨λj hj=>by simp at hj,by
   by_cases e:tape.data.toList=[]
   ·exact Or.inr ⟨e,Or.inl (by simp[e])⟩
   ·exact Or.inl ⟨e,af0 _⟩⟩
  (Or.inl rfl) (λk hk=>Or.inr hk.symm) (by omega) (af0 _) (au4 func87 (by kernel_rfl) rfl)
  (λW m τ _ _ _ _ _=>(xk (some m) W).mono (by
   rintro e w' ⟨rfl,rfl⟩;exact⟨_,[],rfl,Or.inl ⟨rfl,rfl⟩,ai7 _ _,λ_=>trivial,λh=>absurd rfl h⟩))
 have HG2:=aj hg2;clear hls hS hg2
 go_wp2_with fail
 refine hfi.mono ?_;rintro e w3 ⟨hE,hB3⟩;obtain⟨hL3,hM3⟩:=(ah HLG).after (ah HL) (ah HRV) (ah HG2) hB3 (af0 _);have hb02:Below w0.heap.size w0 w2:=(ah HB1).trans ((But.aB (ah HG2)).below (by omega) (λk _ e=>by cases e));have hb03:Below w0.heap.size w0 w3:=hb02.trans (hB3.below (by omega) (λk hk e=>by
  rcases e with e|e
  ·omega
  ·have:=ah HRO k e.symm;omega))
 have hb3:Below w.heap.size w w3:=hb0.trans (hb03.mono (by omega));have HB3:=aj hb3;have acE:=aj hb03;clear hfi hB3 hb02 hb3 hb03;rcases hE with⟨rfl,rv',tp',m,τ,aT,hFI,hall,hsub,hdone,_⟩|⟨rfl,hno⟩
 ·have TY:=NU (ah HF).su (ah HF).hk (ah HF).hp0 (ah HF).h0 (ah HF).ht (ah HF).hcs (ah HLP) (ah HUC) hdone hsub hall hFI.lt;have TU:=hFI.wE.cells.2.2.2.2;have hsl:=hFI.wE.lt;have hlen:=Ak (fU Us τ) cs.length;have hBM:=hFI.bs.m;have oC:Hid (∀W,Below w3.heap.size w3 W->Calls prog 91 #[.pointer (some ⟨lb,0,none⟩),.map (some m)] W λe w'=>∃v,e=.returned v/\gZ w' v (fU Us τ)/\Below W.heap.size W w'):=λW hW=>
   qh W lb BU m (some BS) (.slice rp ak.length rc) Us τ (hL3.kept (hW.block lb hL3.lt)) (hM3.kept (hW.block BU hM3.lt)) (ah HLP).lp.nodup (by omega) (λx hx=>(ah HF).acM (ah HUC x hx)) (hBM.kept (hW.block m hBM.lt)) hFI.lt hall
  have TS:∀s∈fU Us τ,(s.2.2.1=61->s.2.2.2.1<ts.length/\s.2.2.2.2<ts.length)/\(s.2.2.1≠61->s.2.2.2.1<cs.length):=λs hs=>by
   obtain⟨g1,g2,_,_⟩:=sW (ah HLP).lp.nodup hs;have hc:=ah HUC _ g1;have h0:=(ah HF).h0;refine⟨λh61=>?_,λh61=>?_⟩
   ·rcases Bq (ah HF).hcs hc h61 with e|⟨e1,e2⟩
    ·rw[e];exact⟨h0,h0⟩
    ·exact⟨by omega,e2⟩
   ·obtain⟨h1,_⟩:=Bv hc (by simp only[isAtom,ak4]at g2;omega);exact h1
  have hsl2:(fU Us τ).length<=1000:=ah2 (qj Us τ Us.length) (by omega);have HMD:=aj TY;have VN:=aj TS;clear hFI hall hsub hdone TY TS hL3 hM3 hBM;generalize fU Us τ=ss at oC HMD VN hsl2 hlen;have hSt:Hid (∀W',Below w3.heap.size w3 W'->W'.cell? ⟨w.heap.size,0,none⟩=some (.slice (some ⟨GT,0,none⟩) ts.length ts.length)/\W'.cell? ⟨w.heap.size,1,none⟩=some (.slice (some ⟨GC,0,none⟩) cs.length cs.length)/\W'.cell? ⟨w.heap.size,2,none⟩=some (.slice (some ⟨GP,0,none⟩) ps.length ps.length)/\W'.cell? ⟨w1.heap.size,4,none⟩=some (.map (some m))):=λW' hW=>by
   have hb:=(ah acE).trans (hW.mono (ah acE).size);have hx:=(hb.block w.heap.size hs0).trans hx0;exact⟨by rw[cell_of hx];rfl,by rw[cell_of hx];rfl,by rw[cell_of hx];rfl,(hW.cell (p:=⟨w1.heap.size,4,none⟩) hsl).trans TU⟩
  have HLEN:=aj hlen;clear hx0 TU hlen
  go_wp2_with fail
  refine aj0 (S:=λW'=>Below w3.heap.size w3 W') rfl ?_;have hS0:Below w3.heap.size w3 w3.drew:=(ai7 _ _).drew;simp only[ag3,ag0,ah0,Nat.reduceAdd,af8,af7,ag5,ag9,ag7];change wpAnyH prog .any _ _ _ _ _ _ w3.drew;refine tH 0 (.agg #[.slice (some ⟨GT,0,none⟩) ts.length ts.length,.slice (some ⟨GC,0,none⟩) cs.length cs.length,.slice (some ⟨GP,0,none⟩) ps.length ps.length]) (λw' hS=>?_) hS0 ?_
  ·obtain⟨s1,s2,s3,s4⟩:=ah hSt _ hS;go_simp
  simp only[aG];refine tH 1 (.agg #[.slice (some ⟨GT,0,none⟩) ts.length ts.length,.slice (some ⟨GC,0,none⟩) cs.length cs.length,.slice (some ⟨GP,0,none⟩) ps.length ps.length]) (λw' hS=>?_) hS0 ?_
  ·obtain⟨s1,s2,s3,s4⟩:=ah hSt _ hS;go_simp
  simp only[aG];refine tH 2 (.pointer (some ⟨lb,0,none⟩)) (λw' hS=>?_) hS0 ?_
  ·go_simp
  simp only[aG];refine tH 3 (.pointer (some ⟨w1.heap.size,0,none⟩)) (λw' hS=>?_) hS0 ?_
  ·go_simp
  simp only[aG];refine tH 4 (.pointer (some ⟨w1.heap.size,0,none⟩)) (λw' hS=>?_) hS0 ?_
  ·go_simp
  simp only[aG];refine tH 5 (.pointer (some ⟨w1.heap.size,4,none⟩)) (λw' hS=>?_) hS0 ?_
  ·go_simp
  simp only[aG];refine tH 6 (.map (some m)) (λw' hS=>?_) hS0 ?_
  ·obtain⟨s1,s2,s3,s4⟩:=ah hSt _ hS;go_simp
  simp only[aG];refine oH 7 (λK hK=>?_);go_simp;refine(ah oC _ hS0).mono ?_;rintro e w4 ⟨v,rfl,hsv,hb4⟩;replace hS0:=hS0.trans (hb4.mono hS0.size);refine hK.out _ _ hS0 ?_;clear hK K;obtain⟨vp,vc,rfl,_⟩:=id hsv;have hsit:=oQ GT GC GP ts.length cs.length ps.length _ ss w4 (ah HF).h7 (ah HF).h4 hsv hsl2 (ah VN);unfold fv sv at hsit;refine oH 8 (λK hK=>?_);go_simp;refine(hsit).mono ?_;rintro e w5 ⟨b,H,rfl,hH,hJ,hrows⟩;replace hS0:=hS0.trans (hJ.below.mono hS0.size);refine hK.out _ _ hS0 ?_;clear hK K;obtain⟨cm,hm,_⟩:=hJ.m;have hwr:=xG GT GC GP ts.length cs.length ps.length b cm H (bK (ss.map dP)) (lT ss cs.length) w5 (ah HF).h7 (by rw[ah HLEN];exact(ah HF).h4) (λi hi=>(hJ.roots i hi).1) hm hrows;unfold fv sv at hwr;rw[ah HLEN]at hwr;have HS0:=aj hS0;clear hsit hsv hb4 hm hJ hrows;refine oH 9 (λK hK=>?_);go_simp;refine(hwr).mono ?_;rintro e w6 ⟨rfl,hb6⟩;replace hS0:=(ah HS0).trans (hb6.mono (ah HS0).size);refine hK.out _ _ hS0 ?_;clear hK K;refine oH 10 (λK hK=>?_);go_simp;replace hS0:=hS0;refine hK.out _ _ hS0 ?_;clear hK K;refine oH 11 (λK hK=>?_);go_simp;refine hK.out _ _ (hS0) (ai8 (by kernel_rfl) ?_ _);clear hK K;have HS6:=aj hS0;clear hwr hb6 hS0
  go_wp2_with fail
  refine ah7 (v:=.tuple #[.bool true,.string ⟨(wrt (bK (ss.map dP)) ts.length (lT ss cs.length)).toArray⟩]) (by simp[results,results52,go_sem]) rfl ⟨Or.inr ⟨_,_,ah HLEN,ah HMD,rfl⟩,(ah HB3).trans ((ah HS6).mono (ah HB3).size)⟩
 ·have hnone:=NT (ah HF).su (ah HF).hp0 (ah HF).h0 (ah HF).ht (ah HF).hcs (ah HLP) hno;have HN:=aj hnone;clear hnone hno hL3 hM3
  go_wp2_with fail
  refine ah7 (v:=.tuple #[.bool false,.string ⟨#[]⟩]) (by simp[results,results52,go_sem]) rfl ⟨Or.inl ⟨rfl,ah HN⟩,ah HB3⟩
end
section
open au (Key put)
attribute [local go_sem] Oper.semAt_some
theorem yK(L:List kP):(yu L).length=L.length*5:=by
 unfold yu
 induction L with
 |nil=>rfl
 |cons a L ih=>rw[ao5,ah1,ih];simp[ES];omega
theorem MI(L:List kP):∀u∈yu L,u.oneCell'=true:=by
 intro u hu;obtain⟨s,_,h⟩:=an4.1 hu;exact WQ s u h
theorem Wl(L M:List kP):yu (L++M)=yu L++yu M:=by simp[yu]
theorem gZ.part{w:World}{v:Value}{ss:List kP}(h:gZ w v ss)(hne:ss≠[]):∃g off cap,v=.slice (some ⟨g,off,none⟩) ss.length cap/\ss.length<=cap/\g<w.heap.size/\
  ∀W,Below w.heap.size w W->∀a m,a+m<=ss.length->∀j u,(yu ((ss.drop a).take m))[j]?=some u->W.cell? ((⟨g,off+a*5,none⟩:Addr).add j)=some u:=by
 obtain⟨p,cap,h1,h2,h3⟩:=h;obtain⟨g,off,cur,x,q1,q2,q3⟩:=h3 hne;subst q1;have hgl:=(ae8.1 q2).1;refine⟨g,off,cap,h1,h2,hgl,λW hW a m ham j u hj=>?_⟩;have hlen:((ss.drop a).take m).length=m:=by simp;omega
 have hjl:j<m*5:=by
  have:=(ao6.1 hj).1;rw[yK,hlen]at this;exact this
 have hi:j/5<((ss.drop a).take m).length:=by rw[hlen];omega
 have hf:=flat_get (f:=ES) (k:=5) (λ_=>rfl) (by decide) ((ss.drop a).take m) (j/5) hi (j%5) (Nat.mod_lt _ (by decide));have e1:j/5*5+j%5=j:=by omega
 rw[e1]at hf;have hj2:(ES ((ss.drop a).take m)[j/5])[j%5]?=some u:=hf.symm.trans hj;have e2:((ss.drop a).take m)[j/5]=ss[a+j/5]'(by omega):=by simp
 rw[e2]at hj2;have hq:=q3 (a+j/5) (by omega) (j%5) (Nat.mod_lt _ (by decide));have e3:off+(a+j/5)*5+j%5=off+a*5+j:=by omega
 rw[e3]at hq;have hb:=(hW.block g hgl).trans q2;have e4:(⟨g,off+a*5,none⟩:Addr).add j=⟨g,off+a*5+j,none⟩:=by simp[Addr.add]
 rw[e4,cell_of hb];exact hq.trans hj2
structure OI(w:World)(fo:Array Value)(W:World):Prop where
 x0:W.heap[w.heap.size]?=some (.cells fo 54 (0,0))
 below:Below w.heap.size w W
theorem OI.next{w:World}{fo:Array Value}{W W':World}(h:OI w fo W)(hb:Below W.heap.size W W'):OI w fo W':=
 ⟨(hb.block _ (ae8.1 h.x0).1).trans h.x0,h.below.trans (hb.mono h.below.size)⟩
theorem Gn{ts:List Key}{cs:List (Int×Nat)}{S ss:List kP}(h:oM ts cs (ss.map dP))(hs:S.Sublist ss):oM ts cs (S.map dP):=λl hl=>by
 obtain⟨s,h1,rfl⟩:=ah3.1 hl;exact h _ (ah3.2 ⟨s,hs.subset h1,rfl⟩)
def NoB(ts:List Key)(cs:List (Int×Nat))(S:List kP):Prop:=∃f',Closed ts (bK (S.map dP)) f'/\¬cb f' cs (S.map dP)
theorem CB(GT GC GP np:Nat)(ts:List Key)(cs:List (Int×Nat))(v:Value)(ss:List kP)(w:World)(h7:ts.length<=7)(hs:gZ w v ss)(hl:ss.length<=100)(hrt:dU w GT ts)(hrc:iF w GC cs)(hi:au.Inv ts)(ht:∀i (hi:i<ts.length),ts[i].2.1<ts.length/\ts[i].2.2<ts.length)
 (hct:∀x∈cs,(x.1=80\/x.1=81)/\x.2<ts.length)(oC:oM ts cs (ss.map dP)) :
  Calls prog 95 #[fv GT GC GP ts.length cs.length np,v] w λe w'=>∃v' r,e=.returned v'/\bg w' v' r/\Below w.heap.size w w'/\
   ((r=[]/\∃f',Closed ts (bK (ss.map dP)) f'/\cb f' cs (ss.map dP))\/∃S,S.Sublist ss/\r=S.map JD/\NoB ts cs S):=by
 obtain⟨i0,hin,hz0,hz1,hz2⟩:=am6 Nb;have hgt:=hrt.1;have hgc:=hrc.1;have HCB:Hid (∀W v S,gZ W v S->S.Sublist ss->Below w.heap.size w W->Calls prog 146 #[fv GT GC GP ts.length cs.length np,v] W λe w'=>∃bv f',e=.returned (.bool bv)/\Closed ts (bK (S.map dP)) f'/\(bv=true↔cb f' cs (S.map dP))/\Below W.heap.size W w'):=λW v S h1 h2 h3=>
  Ql GT GC GP np ts cs v S W h7 h1 (ah2 h2.length_le hl) (hrt.below h3 hgt) (hrc.below h3 hgc) hi ht hct (Gn oC h2)
 clear hrt hrc hi ht hct oC;unfold fv at HCB ⊢;obtain⟨vp,vc,rfl,_⟩:=id hs;obtain⟨w0,hw0⟩:∃w0,w.alloc (.cells #[.slice (some ⟨GT,0,none⟩) ts.length ts.length,.slice (some ⟨GC,0,none⟩) cs.length cs.length,.slice (some ⟨GP,0,none⟩) np np] 54)=w0:=⟨_,rfl⟩;have hb0:Below w.heap.size w w0:=by rw[<-hw0];exact(ai7 _ w).alloc (af0 _) _
 have hI0:OI w #[.slice (some ⟨GT,0,none⟩) ts.length ts.length,.slice (some ⟨GC,0,none⟩) cs.length cs.length,.slice (some ⟨GP,0,none⟩) np np] w0:=⟨by rw[<-hw0];exact ag4 _ _,hb0⟩;have hcb:=ah HCB w0 _ ss (hs.below hb0) (List.Sublist.refl _) hb0;have q0:w0.cell? ⟨w.heap.size,0,none⟩=some (.slice (some ⟨GT,0,none⟩) ts.length ts.length):=by rw[cell_of hI0.x0];rfl
 have q1:w0.cell? ⟨w.heap.size,1,none⟩=some (.slice (some ⟨GC,0,none⟩) cs.length cs.length):=by rw[cell_of hI0.x0];rfl
 have q2:w0.cell? ⟨w.heap.size,2,none⟩=some (.slice (some ⟨GP,0,none⟩) np np):=by rw[cell_of hI0.x0];rfl
 go_enter func95,ntmps95
 go_wp2_with fail
 clear hw0;refine hcb.mono ?_;rintro e w1 ⟨bv,f',rfl,Au,hbv,hb1⟩;have hI1:=hI0.next hb1
 clear hcb hI0 hb0 q0 q1 q2;cases bv
 ·have hno:NoB ts cs ss:=⟨f',Au,λh=>by have:=hbv.2 h;cases this⟩;have hs1:gZ w1 (.slice vp ss.length vc) ss:=hs.below hI1.below;have HI1:=aj hI1;have HS1:=aj hs1;have HNO:=aj hno;clear Au hbv hb1 hI1 hs1 hno
  go_wp2_with fail
  go_loopw [1,5] (λv a wr=>∃(k:Nat) (S:List kP),k<=S.length/\a=.int .i64 ((k:Int)-1)/\gZ wr v S/\S.Sublist ss/\NoB ts cs S/\OI w #[.slice (some ⟨GT,0,none⟩) ts.length ts.length,.slice (some ⟨GC,0,none⟩) cs.length cs.length,.slice (some ⟨GP,0,none⟩) np np] wr) (λ_ a _=>(intOf a+1).toNat)
  case atStart=>exact⟨ss.length,ss,af0 _,rfl,ah HS1,List.Sublist.refl _,ah HNO,ah HI1⟩
  case round=>
   obtain⟨k,S,hk,rfl,hsv,hsub,hnb,hI⟩:=hrel;have hSl:=hsub.length_le;rcases am0 k with h0|h0
   ·subst h0;have e00:(((0:Nat):Int)-1) = -1:=rfl;rw[e00];clear e00;obtain⟨wo,hwo⟩:∃wo,wo=wr:=⟨_,rfl⟩;subst hwo;obtain⟨p1,cap1,rfl,_,hcs⟩:=hsv.cells;have HCS:=aj hcs;have HI:=aj hI;have HNB:=aj hnb;clear hcs hsv hI hnb
    go_wp2_with fail
    go_loopw [7,36] (λv7 i wq=>∃j:Nat,j<=S.length/\i=.int .i64 j/\wq.ownsRow wo.heap.size 214 2 v7 j (vcs ((S.take j).map JD))/\Hid (v7=.slice none 0 0↔j=0)/\Below wo.heap.size wo wq) (λ_ i _=>S.length-(intOf i).toNat)
    case atStart=>exact⟨0,ah9 _,rfl,an8 _ _ _ _,by unfold Hid;simp,ai7 _ _⟩
    case round=>
     obtain⟨j,hj,rfl,hrow,hnil,hbq⟩:=hrel;by_cases hjl:j<S.length
     ·obtain⟨p7,Vo,rfl⟩:=mZ hrow;have hbd:(j:Int)<(S.length:Int):=(by omega);obtain⟨g,off,rfl,hgl,hc⟩:=ah HCS (by intro e;rw[e]at hjl;simp at hjl);obtain⟨d0,d1,d2,d3,d4⟩:=hc wr hbq j hjl;have htk:vcs ((S.take (j+1)).map JD)=vcs ((S.take j).map JD)++DU (JD S[j]):=by
       rw[ai4,af2 hjl,al7];exact FT _ _
      have jr:=aj htk;have gU:=aj hrow;have HBQ:=aj hbq;have hsq:=hbq.size;clear htk hc hrow hbq;generalize S[j]=s at d0 d1 d2 d3 d4 jr;obtain⟨sx,si,sc,s1,s2⟩:=s;simp only[JD]at d0 d1 d2 d3 d4 jr;obtain⟨WB,hWB⟩:∃WB,wr.alloc (.cells #[.int .i64 sx,.bool si,.int .u8 sc,.int .i64 s1,.int .i64 s2] 224)=WB:=⟨_,rfl⟩;have hgB:wr.grownBy WB none:=(by rw[<-hWB];exact ae9 _ _ none);have e0:WB.cell? ⟨wr.heap.size,0,none⟩=some (.int .i64 sx):=(by rw[<-hWB];simp[go_sem]);have e1:WB.cell? ⟨wr.heap.size,1,none⟩=some (.bool si):=(by rw[<-hWB];simp[go_sem]);have hvn:=FQ (sx,si) WB;unfold vV at hvn;simp only at hvn
      go_wp2_with fail
      clear hWB;refine hvn.mono ?_;rintro e w5 ⟨rfl,hg5⟩;have hg15:wr.grownBy w5 none:=hgB.trans hg5;have Hq:=(ah gU).kept hg15 (as9 _);have hb5:=(ah HBQ).grown hg15 (ah HBQ).size (λk e=>by cases e);have hs5:=hg15.size;have HB5:=aj hb5;clear hvn hg5 hgB hg15 hb5 e0 e1
      go_wp2_with (at_builtin;refine am5 _ rfl _ _ 161 rfl wo.heap.size 214 i0 _ 2 16 underlying161 hin hz0 hz1 hz2 rfl (by decide) (.slice p7 j Vo) j (vcs ((S.take j).map JD)) rfl (Hq.alloc _) ⟨w5.heap.size,0,none⟩ 1 1 (DU (sx,!si)) rfl rfl (uS _ _ _ _ _ rfl) (WO _) (by unfold maxLen;omega) (by omega) (by simp;omega) ?_;intro v' w6 hown' hg6 Nj ae5;obtain⟨g',cap',hv'⟩:=dZ hown' (an3 _);subst hv')
      have hga:w5.grownBy (w5.alloc (.cells #[.int .i64 sx,.bool (!si)] 214)) none:=ae9 _ _ none;have abB:=(ah HB5).grown hga (ah HB5).size (λk e=>by cases e)
      go_roundw
      case rel=>
       refine⟨j+1,hjl,by go_num,?_,?_,?_⟩
       ·rw[ah jr];exact hown'
       ·unfold Hid;simp
       ·exact abB.grown hg6 abB.size (λk e=>(Hq.lt k e).1)
      case measure=>simp[intOf];omega
     ·have hjj:j=S.length:=(by omega);have hbd:¬(j:Int)<(S.length:Int):=(by omega);rw[hjj,ak8]at hrow;have hr:bg wr u7 (S.map JD):=by
       refine lZ (base:=wo.heap.size) ?_ ?_
       ·rw[am3];exact hrow
       ·rw[ah hnil,hjj,List.map_eq_nil_iff];exact List.length_eq_zero_iff
      have HR:=aj hr;have HBQ:=aj hbq;clear hrow hr hbq hjj hnil
      go_wp2_with fail
      refine ah7 (v:=u7) (by simp[results,results95,go_sem]) rfl ?_;have hbF:=(ah HI).below.trans ((ah HBQ).mono (ah HI).below.size);exact⟨u7,rfl,S.map JD,ah HR,hbF,Or.inr ⟨S,hsub,rfl,ah HNB⟩⟩
   ·obtain⟨at_,rfl⟩:∃a,k=a+1:=⟨k-1,by omega⟩;have eat:(((at_+1:Nat):Int)-1)=(at_:Int):=(by omega);rw[eat];clear eat;have hne:S≠[]:=(by intro e;rw[e]at hk;simp at hk);obtain⟨g,off,cap,rfl,hcap,hgl,hpart⟩:=hsv.part hne;have Yy:=aj hpart;have HSV:=aj hsv;have HNB:=aj hnb;have HI:=aj hI;have hge:(at_:Int)≥0:=(by omega);have hx1:(at_:Int)<=(cap:Int):=(by omega);have hx2:(at_:Int)+1<=(S.length:Int):=(by omega);have hx3:0<=(at_:Int)+1:=(by omega);have hw5:IntKind.i64.wrap ((at_:Int)+1)=(at_:Int)+1:=pW (by omega) (by omega);obtain⟨ad2,had⟩:∃ad2:Addr,(if cap=at_+1 then some (⟨g,off,none⟩:Addr)else some ⟨g,off+(at_+1)*5,none⟩)=some ad2:=by
     by_cases e:cap=at_+1
     ·exact⟨_,by rw[af9 e]⟩
     ·exact⟨_,by rw[af6 e]⟩
    have Zb:Hid (∀W,Below wr.heap.size wr W->∀j u,(yu (S.drop (at_+1)))[j]?=some u->W.cell? (ad2.add j)=some u):=λW hW j u hj=>by
     have hlen:=yK (S.drop (at_+1));by_cases e:cap=at_+1
     ·exfalso;have h1:=(ao6.1 hj).1;rw[hlen,aq9]at h1;omega
     ·rw[af6 e]at had;cases had;have:=ah Yy W hW (at_+1) (S.length-(at_+1)) (by omega) j u;rw[ai2 (by simp)]at this;exact this hj
    have hnews1:Hid (∀W,Below wr.heap.size wr W->∀j u,(yu (S.take at_))[j]?=some u->W.cell? ((⟨g,off,none⟩:Addr).add j)=some u):=λW hW j u hj=>by
     have:=ah Yy W hW 0 at_ (by omega) j u;rw[List.drop_zero,au5,Nat.add_zero]at this;exact this hj
    have HAD:=aj had;clear hpart hsv hnb hI had
    go_wp2_with fail
    refine aj0 (S:=λ_=>True) rfl ?_;have hS0:True:=trivial;simp only[ag3,ag0,ah0,Nat.reduceAdd,af8,af7,ag5,ag9,ag7];change wpAnyH prog .any _ _ _ _ _ _ wr.drew;refine tH 0 (.slice (some ⟨g,off,none⟩) S.length cap) (λw' hS=>?_) hS0 ?_
    ·go_simp
    simp only[aG];refine tH 1 (.int .i64 at_) (λw' hS=>?_) hS0 ?_
    ·go_simp
    simp only[aG];refine tH 2 (.slice (some ⟨g,off,none⟩) at_ cap) (λw' hS=>?_) hS0 ?_
    ·go_simp
    simp only[aG];refine tH 3 (.slice (some ⟨g,off,none⟩) S.length cap) (λw' hS=>?_) hS0 ?_
    ·go_simp
    simp only[aG];refine tH 4 (.int .i64 at_) (λw' hS=>?_) hS0 ?_
    ·go_simp
    simp only[aG];refine tH 5 (.int .i64 ((at_:Int)+1)) (λw' hS=>?_) hS0 ?_
    ·go_simp
    simp only[aG];refine tH 6 (.slice (some ad2) (S.length-(at_+1)) (cap-(at_+1))) (λw' hS=>?_) hS0 ?_
    ·go_simp;rw[ah HAD]
    simp only[aG];obtain⟨WA,hWA⟩:∃WA,wr.drew.alloc (.cells #[.slice (some ⟨g,off,none⟩) at_ cap,.slice (some ad2) (S.length-(at_+1)) (cap-(at_+1))] 165)=WA:=⟨_,rfl⟩;have hgA:wr.grownBy WA none:=(by rw[<-hWA];exact(⟨rfl,rfl,rfl,af0 _,λj hj _=>rfl⟩:wr.grownBy wr.drew none).trans (ae9 _ _ none));have hbA:Below wr.heap.size wr WA:=(ai7 _ wr).grown hgA (af0 _) (λk e=>by cases e);have hcA:WA.heap[wr.heap.size]?=some (.cells #[.slice (some ⟨g,off,none⟩) at_ cap,.slice (some ad2) (S.length-(at_+1)) (cap-(at_+1))] 165 (0,0)):=(by rw[<-hWA];exact ag4 wr.drew _);have hcc:=Le WA wr.heap.size at_ cap (S.length-(at_+1)) (cap-(at_+1)) ⟨g,off,none⟩ ad2 (yu (S.take at_)) (yu (S.drop (at_+1))) hcA (by omega) (by omega) (by rw[yK,al0];congr 1;omega) (by rw[yK,aq9]) (ah hnews1 WA hbA) (ah Zb WA hbA) (MI _) (MI _);refine oH 7 (λK hK=>?_);go_simp;replace hS0:=trivial;refine hK.out _ _ hS0 ?_;clear hK K;subst hWA;refine oH 8 (λK hK=>?_);go_simp;refine(hcc).mono ?_;rintro e w3 ⟨v6,rfl,vM,hb6⟩;replace hS0:=trivial;refine hK.out _ _ hS0 ?_;clear hK K;obtain⟨p6,cap6,rfl⟩:=mZ vM;have hlS:(S.take at_++S.drop (at_+1)).length=at_+(S.length-(at_+1)):=(by simp;omega);have hs6:gZ w3 (.slice p6 (at_+(S.length-(at_+1))) cap6) (S.take at_++S.drop (at_+1)):=by
     rw[<-hlS,<-Wl]at vM;have:=xJ vM;rw[hlS]at this;exact this
    have Yd:(S.take at_++S.drop (at_+1)).Sublist S:=by
     have h1:(S.drop (at_+1)).Sublist (S.drop at_):=by
      rw[<-List.drop_drop];exact List.drop_sublist _ _
     have h2:=(List.Sublist.refl (S.take at_)).append h1
     rwa [ar2]at h2
    have hb3:Below wr.heap.size wr w3:=hbA.trans (hb6.mono hbA.size);have hI3:=(ah HI).next hb3
    have hcb3:=ah HCB w3 _ _ hs6 (Yd.trans hsub) hI3.below;have q0:w3.cell? ⟨w.heap.size,0,none⟩=some (.slice (some ⟨GT,0,none⟩) ts.length ts.length):=(by rw[cell_of hI3.x0];rfl);have q1:w3.cell? ⟨w.heap.size,1,none⟩=some (.slice (some ⟨GC,0,none⟩) cs.length cs.length):=(by rw[cell_of hI3.x0];rfl);have q2:w3.cell? ⟨w.heap.size,2,none⟩=some (.slice (some ⟨GP,0,none⟩) np np):=(by rw[cell_of hI3.x0];rfl);have HS6:=aj hs6;have HI3:=aj hI3;have HB3:=aj hb3;clear hs6 hI3 hb3 vM hb6 hcc hcA hbA hgA;refine oH 9 (λK hK=>?_);go_simp;refine hK.out _ _ (trivial) (ai8 (by kernel_rfl) ?_ _);clear hK K;clear hS0;generalize hnn:at_+(S.length-(at_+1))=nn at HS6 hcb3 hlS;have HNN:=aj hnn;clear hnn
    go_wp2_with fail
    refine hcb3.mono ?_;rintro e w4 ⟨bv,f6,rfl,Ud,Zl,hb4⟩;have hI4:=(ah HI3).next hb4
    have hs4:=(ah HS6).below hb4;have Y4:=(ah HSV).below ((ah HB3).trans (hb4.mono (ah HB3).size));have HI4:=aj hI4;have HS4:=aj hs4;have ad5:=aj Y4;have hwm:IntKind.i64.wrap ((at_:Int)-1)=(at_:Int)-1:=(by simp[IntKind.wrap,IntKind.bits,IntKind.signed];omega);cases bv
    ·have aaV:NoB ts cs (S.take at_++S.drop (at_+1)):=⟨f6,Ud,λh=>by have:=Zl.2 h;cases this⟩;have ad6:=aj aaV;clear Ud Zl hb4 hI4 hs4 Y4 aaV hcb3 q0 q1 q2
     go_wp2_with fail
     refine⟨⟨at_,_,by rw[hlS,<-ah HNN];omega,rfl,ah HS4,Yd.trans hsub,ah ad6,ah HI4⟩,by simp[intOf]⟩
    ·clear Ud Zl hb4 hI4 hs4 Y4 hcb3 q0 q1 q2
     go_wp2_with fail
     refine⟨⟨at_,S,by omega,rfl,ah ad5,hsub,ah HNB,ah HI4⟩,by simp[intOf]⟩
 ·have HI1:=aj hI1;have HCL:=aj Au;have HBV:=aj hbv;clear Au hbv hb1 hI1
  go_wp2_with fail
  refine ah7 (v:=.slice none 0 0) (by simp[results,results95,go_sem]) rfl ⟨_,[],rfl,Or.inl ⟨rfl,rfl⟩,(ah HI1).below,Or.inl ⟨rfl,f',ah HCL,(ah HBV).1 (by trivial)⟩⟩
end
open au (Key put dX aA isAtom cnt bI gy)
attribute [local go_sem] Oper.semAt_some
def NJ(ts:List Key)(cs:List (Int×Nat))(Us:List Key)(τ:List Tr):Prop:=
 ∃f',Closed ts (bK ((fU Us τ).map dP)) f'/\cb f' cs ((fU Us τ).map dP)
theorem xq(W:World)(GT GC GP xf xl lb BU m:Nat)(ms:Option Nat)(rv:Value)(ts:List Key)(cs:List (Int×Nat))(ps Us:List Key)(τ:List Tr)(hF:FF ts cs ps)(hU:Us.length<=33)(hnd:Us.Nodup)(hUc:∀p∈Us,p∈oZ ps)
 (hrt:dU W GT ts)(hrc:iF W GC cs)(hxf:W.heap[xf]?=some (.cells #[.slice (some ⟨GT,0,none⟩) ts.length ts.length,.slice (some ⟨GC,0,none⟩) cs.length cs.length,.slice (some ⟨GP,0,none⟩) ps.length ps.length] 54 (0,0)))
 (hxl:W.heap[xl]?=some (.cells #[.pointer (some ⟨lb,0,none⟩)] 155 (0,0)))(hL:pq W lb (some BU) ms rv)(hM:aP W 93 BU bD Us)(hB:lY W m τ)(hlt:∀q∈τ,q.1<Us.length)(hall:∀x,x<Us.length->mD τ x=true) :
  Calls prog 94 #[.map (some m),.pointer (some ⟨xf,0,none⟩),.pointer (some ⟨xl,0,none⟩)] W λe W'=>∃v r,e=.returned v/\bg W' v r/\Below W.heap.size W W'/\(r=[]->NJ ts cs Us τ)/\
   (r≠[]->True/\r.Nodup/\r.length<=1000/\(∀u∈r,u.1<Us.length/\Sat.wrong (bel τ) u)/\∀α,Th1 ts cs Us α->Sat.keeps α r):=by
 have hsub:=zq (τ:=τ) hF.su hF.hk hUc hnd (λs hs=>hs);have hfl:=(ae8.1 hxf).1;have hll:=(ae8.1 hxl).1;have oC:Hid (∀W',Below W.heap.size W W'->Calls prog 91 #[.pointer (some ⟨lb,0,none⟩),.map (some m)] W' λe w'=>∃v,e=.returned v/\gZ w' v (fU Us τ)/\Below W'.heap.size W' w'):=λW' hW=>
  qh W' lb BU m ms rv Us τ (hL.kept (hW.block lb hL.lt)) (hM.kept (hW.block BU hM.lt)) hnd (by omega) (λx hx=>hF.key1 (hUc x hx)) (hB.kept (hW.block m hB.lt)) hlt hall
 have hsl:(fU Us τ).length<=100:=ah2 (qj Us τ Us.length) (by omega);have Za:Hid (∀W' v,Below W.heap.size W W'->gZ W' v (fU Us τ)->Calls prog 95 #[fv GT GC GP ts.length cs.length ps.length,v] W' λe w'=>∃v' r,e=.returned v'/\bg w' v' r/\Below W'.heap.size W' w'/\(r=[]->NJ ts cs Us τ)/\
   (r≠[]->True/\r.Nodup/\r.length<=1000/\(∀u∈r,u.1<Us.length/\Sat.wrong (bel τ) u)/\∀α,Th1 ts cs Us α->Sat.keeps α r)):=λW' v hW hs=>by
  refine(CB GT GC GP ps.length ts cs v (fU Us τ) W' hF.h7 hs hsl (hrt.below hW hrt.1) (hrc.below hW hrc.1) hF.inv hF.ht hF.hcs hsub).mono ?_;rintro e w' ⟨v',r,rfl,hr,hb,h⟩;refine⟨v',r,rfl,hr,hb,?_,?_⟩
  ·intro hr0;rcases h with⟨_,f',h1,h2⟩|⟨S,hS,rfl,f',h1,h2⟩
   ·exact⟨f',h1,h2⟩
   ·have:S=[]:=List.map_eq_nil_iff.1 hr0;subst this;exact absurd (ZN _ _) h2
  ·intro hr0;rcases h with⟨h,_⟩|⟨S,hS,rfl,f',h1,h2⟩
   ·exact absurd h hr0
   ·have hm:∀s∈S,s∈fU Us τ:=λs hs=>hS.subset hs;refine⟨trivial,OL ((Jj Us τ).sublist (hS.map _)),?_,OG hall hm,λα hα=>OH hF.su hF.hk hUc hnd hF.hcs hm h1 h2 α hα⟩;rw[am3];have:=hS.length_le;omega
 have hSt:Hid (∀W',Below W.heap.size W W'->W'.cell? ⟨xf,0,none⟩=some (.slice (some ⟨GT,0,none⟩) ts.length ts.length)/\W'.cell? ⟨xf,1,none⟩=some (.slice (some ⟨GC,0,none⟩) cs.length cs.length)/\W'.cell? ⟨xf,2,none⟩=some (.slice (some ⟨GP,0,none⟩) ps.length ps.length)/\W'.cell? ⟨xl,0,none⟩=some (.pointer (some ⟨lb,0,none⟩))):=λW' hW=>by
  have hx:=(hW.block xf hfl).trans hxf;have hy:=(hW.block xl hll).trans hxl;exact⟨by rw[cell_of hx];rfl,by rw[cell_of hx];rfl,by rw[cell_of hx];rfl,by rw[cell_of hy];rfl⟩
 generalize NJ ts cs Us τ=Gd at Za ⊢;clear hF hU hnd hUc hrt hrc hxf hxl hL hM hB hlt hall hsub hsl hfl hll;unfold fv at Za
 go_enter func94,ntmps94
 go_wp2_with fail
 refine aj0 (S:=λW'=>Below W.heap.size W W') rfl ?_;have hS0:Below W.heap.size W W.drew:=(ai7 _ _).drew;simp only[ag3,ag0,ah0,Nat.reduceAdd,af8,af7,ag5,ag9,ag7];change wpAnyH prog .any _ _ _ _ _ _ W.drew;refine tH 0 (.agg #[.slice (some ⟨GT,0,none⟩) ts.length ts.length,.slice (some ⟨GC,0,none⟩) cs.length cs.length,.slice (some ⟨GP,0,none⟩) ps.length ps.length]) (λw' hS=>?_) hS0 ?_
 ·obtain⟨s1,s2,s3,s4⟩:=ah hSt _ hS;go_simp
 simp only[aG];refine tH 1 (.pointer (some ⟨lb,0,none⟩)) (λw' hS=>?_) hS0 ?_
 ·obtain⟨s1,s2,s3,s4⟩:=ah hSt _ hS;go_simp
 simp only[aG];refine tH 2 (.map (some m)) (λw' hS=>?_) hS0 ?_
 ·go_simp
 simp only[aG];refine oH 3 (λK hK=>?_);go_simp;refine(ah oC _ hS0).mono ?_;rintro e w4 ⟨v,rfl,hsv,hb4⟩;replace hS0:=hS0.trans (hb4.mono hS0.size);refine hK.out _ _ hS0 ?_;clear hK K;refine oH 4 (λK hK=>?_);go_simp;refine(ah Za _ _ hS0 hsv).mono ?_;rintro e w5 ⟨v5,r5,rfl,hr5,hb5,hg5,hn5⟩;replace hS0:=hS0.trans (hb5.mono hS0.size);refine hK.out _ _ hS0 ?_;clear hK K;have HS5:=aj hS0;have HR5:=aj hr5;have HG5:=aj hg5;have HN5:=aj hn5;obtain⟨rp5,rc5,rfl⟩:=hr5.len;clear hsv hb4 hb5 hr5 hg5 hn5;refine oH 5 (λK hK=>?_);go_simp;refine hK.out _ _ (hS0) (ai8 (by kernel_rfl) ?_ _);clear hK K;clear hS0
 go_wp2_with fail
 refine ah7 (v:=.slice rp5 r5.length rc5) (by simp[results,results94,go_sem]) rfl ?_;exact⟨_,r5,rfl,ah HR5,ah HS5,ah HG5,ah HN5⟩
end Go.Proofs.YthcppbmkacbbiaaGreat
