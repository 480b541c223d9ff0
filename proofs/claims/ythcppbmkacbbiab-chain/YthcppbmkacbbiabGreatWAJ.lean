import Derived.Test.YthcppbmkacbbiabGreatWAI
set_option linter.unusedSimpArgs false
set_option maxHeartbeats 2000000
set_option maxRecDepth 100000
namespace Go.Proofs.YthcppbmkacbbiabGreat
open Go.Proofs.Tryz
section
open Go.RowKit Go.Maps Go.WideMaps
open aB (Key put)
theorem zO(v:Option Addr)(n c:Nat)(w:World):Calls prog 75 #[.slice v n c] w λe w'=>
  e=.returned (.func (.func 130) #[] #[.pointer (some ⟨w.heap.size,0,none⟩)])/\w'=w.alloc (.cells #[.slice v n c] 42):=by
 go_enter func75,ntmps75
 go_wp2_with fail
 go_ret
 exact⟨rfl,rfl⟩
theorem zN(n:Nat)(hn:2<=n)(X G cap m0:Nat)(keys:List Key)(w:World)(hm0:m0<=w.heap.size)(hl:keys.length<=500)
 (hX:w.cell? ⟨X,0,none⟩=some (.slice (some ⟨G,0,none⟩) keys.length cap))(hG:bQ w G keys)(hv:∀x∈keys,∃l,keyOf prog 76 (aS x)=some l) :
  lD Fence.wide n prog 130 #[.pointer (some ⟨X,0,none⟩)] ((aO keys keys.length).map λp=>#[.int .i64 p.1,.int .i64 p.2]) (KA m0 X G) w:=by
 intro l J Jx W hW hJ hJx hY h0;have hXW:W.cell? ⟨X,0,none⟩=some (.slice (some ⟨G,0,none⟩) keys.length cap):=(hW.cell (p:=⟨X,0,none⟩) (ad7 w _ hX)).trans hX;have hlX:X<W.heap.size:=ad7 W _ hXW;have hlG:G<W.heap.size:=af5 hG.1 hW.size;have hGW:bQ W G keys:=hG.below hW hG.1;have hmm:=λz=>dh (P:=prog) underlying64 .i64 z W;have hsW:=hW.size;refine aj3 func130 rfl trivial ?_ rfl;simp only[ntmps130,ae2,ae1,ae8,Nat.reduceAdd,Nat.reduceSub,ae0,ad9,ae4,ag1,ae7,ae6]
 gi_wp2
 obtain⟨W1,hW1⟩:∃W1,W.alloc (.map #[] 0)=W1:=⟨_,rfl⟩;have hg1:W.grownBy W1 none:=by rw[<-hW1];exact ad4 _ _ none
 have hF1:mM W1 76 W.heap.size aS ([]:List Key):=by rw[<-hW1];exact qG W _ _
 have hs1:W.heap.size<W1.heap.size:=by rw[<-hW1];simp
 have hX1:W1.heap[X]?=W.heap[X]?:=hg1.block X hlX (by simp);have hG1:W1.heap[G]?=W.heap[G]?:=hg1.block G hlG (by simp);have hJ1:J 0 W1:=hJ 0 W W1 none h0 hg1 (λr e=>by cases e);have Xi:W1.cell? ⟨X,0,none⟩=some (.slice (some ⟨G,0,none⟩) keys.length cap):=(ae5 hX1).trans hXW;clear hmm;rw[hW1];clear hW1
 gi_wp2
 gi_loopw [13] (λi wr=>∃k:Nat,k<=keys.length/\i=.int .i64 k/\J (aO keys k).length wr/\mM wr 76 W.heap.size aS (keys.take k)/\wr.heap[X]?=W.heap[X]?/\wr.heap[G]?=W.heap[G]?) (λi _=>keys.length-(intOf i).toNat)
 case atStart=>exact⟨0,ah2 _,rfl,hJ1,hF1,hX1,hG1⟩
 case round=>
  obtain⟨k,hk,rfl,hJk,hFk,hXk,hGk⟩:=hrel;by_cases hlt:k<keys.length
  ·have hbd:(k:Int)<(keys.length:Int):=(by omega);have hGr:=(hGW.same hGk).2 k hlt;have htk:keys.take (k+1)=keys.take k++[keys[k]]:=(by rw[ah1,ad6 hlt];rfl);obtain⟨lt,hlt'⟩:=hv keys[k] (ad8 hlt);have hpr:=kH hlt;have hat:=CJ (keys:=keys) hlt;have hlF:=hFk.lt;have hwk:=hFk.walk;obtain⟨D,nn,h0n,hown,hall⟩:=id hFk;have hka:=hall _ _ hlt';have fD:=hown.tidy qO;have hnn:nn<=500:=(by rw[ah6]at h0n;omega);have gB:=aj hall;have HF:=aj hFk;have HN:=aj h0n;clear hall hFk h0n;cases hc:(keys.take k).contains keys[k]
   ·rw[hc]at hka hpr;have hhas:Maps.has D lt=false:=hka.1;have eG:=aj htk;have HPR:=aj hpr;have HC:=aj hc;have HK:=aj hlt';have hkey:=hlt';clear hka htk hpr hc hat hlt';generalize keys[k]=key at hGr hkey eG HPR HC HK;obtain⟨tl,tf,tsd⟩:=key;simp only at hGr;simp only[aS]at hkey;obtain⟨g0,g1,g2⟩:=hGr
    gi_wp2_with (first
     |(gi_at_lookup;refine al9 _ rfl _ _ 64 rfl 76 3 .i64 qO underlying64 underlying3 (zeroE _) W.heap.size nn D rfl (hown.alloc _) _ lt rfl hkey ?_;intro c0 hat hwc)
     |(gi_at_mapUpdate;refine wpListIn_mapUpdate_own _ rfl _ _ _ 64 rfl 76 3 qO underlying64 _ W.heap.size nn D rfl (hown.alloc _) (by unfold maxLen;omega) _ _ lt rfl rfl hkey _ [] (aq4 underlying3 (ao6 (by omega))) ?_;intro w5 hown5 iq))
    have hlen:(keys.take k).length=k:=(by rw[ah6];omega);have hp2:=ah HPR;rw[af2 (by decide)]at hp2;obtain⟨o,ho,hw⟩:=hwk;have hga:wr.grownBy (wr.alloc (.cells #[.int .u8 tl,.int .i64 tf,.int .i64 tsd] 76)) none:=ad4 _ _ none;have nG:X<wr.heap.size:=(by have h1:=hlX;rw[ag7 h1]at hXk;exact(ad3.1 hXk).1);have nH:G<wr.heap.size:=(by have h1:=hlG;rw[ag7 h1]at hGk;exact(ad3.1 hGk).1);refine⟨⟨k+1,by omega,by go_num,?_,?_,?_,?_⟩,by simp[intOf];omega⟩
    ·rw[hp2];exact hJ _ _ w5 (some W.heap.size) (hJ _ wr _ none hJk hga (λr e=>by cases e)) iq (λr e=>by cases e;exact⟨ad5 _,o,(hga.block _ hlF (by simp)).trans ho,hw⟩)
    ·rw[ah eG];exact um (λ_ _=>qF) qO (ah HN) (ah gB) fD (ah HK) (ah HC) (by rw[hlen];exact hown5)
    ·exact((iq.block X (af5 nG hga.size) (by simp;omega)).trans (hga.block X nG (by simp))).trans hXk
    ·exact((iq.block G (af5 nH hga.size) (by simp;omega)).trans (hga.block G nH (by simp))).trans hGk
   ·rw[hc]at hka hpr;have hhas:Maps.has D lt=true:=hka.1;obtain⟨hj,hje⟩:=hat hc;have HAT:=aj (hka.2 rfl);have eG:=aj htk;have HPR:=aj hpr;have HC:=aj hc;have hkey:=hlt';have hyk:=hY (aO keys k).length (by simpa using hj);rw[show((aO keys keys.length).map λp:Nat×Nat=>#[Value.int .i64 p.1,Value.int .i64 p.2])[(aO keys k).length]'(by simpa using hj)=#[Value.int .i64 ((keys.take k).idxOf keys[k]:Nat),Value.int .i64 k] by simp[hje]]at hyk;have hfi:(keys.take k).idxOf keys[k]<=500:=(by have:=al6 (l:=keys.take k) (a:=keys[k]);rw[ah6]at this;omega);clear hka htk hpr hc hat hlt' hje;generalize (keys.take k).idxOf keys[k]=fi at HAT hyk HPR hfi;generalize keys[k]=key at hGr hkey eG HPR HC;obtain⟨tl,tf,tsd⟩:=key;simp only at hGr;simp only[aS]at hkey;obtain⟨g0,g1,g2⟩:=hGr;have hga:wr.grownBy (wr.alloc (.cells #[.int .u8 tl,.int .i64 tf,.int .i64 tsd] 76)) none:=ad4 _ _ none;obtain⟨fn,tmps,assign,body,hy,hR⟩:=hyk (wr.alloc (.cells #[.int .u8 tl,.int .i64 tf,.int .i64 tsd] 76)) (hJ _ wr _ none hJk hga (λr e=>by cases e));clear hyk;have nG:X<wr.heap.size:=(by have h1:=hlX;rw[ag7 h1]at hXk;exact(ad3.1 hXk).1);have nH:G<wr.heap.size:=by have h1:=hlG;rw[ag7 h1]at hGk;exact(ad3.1 hGk).1
    gi_wp2_with (gi_at_lookup;refine al9 _ rfl _ _ 64 rfl 76 3 .i64 qO underlying64 underlying3 (zeroE _) W.heap.size nn D rfl (hown.alloc _) _ lt rfl hkey ?_;intro c0 hat hwc;have hc0:c0=(fi:Int):=by {have h:=hat.symm.trans (ah HAT);simpa using h};subst hc0;clear hat hwc)
    refine⟨λ_=>by omega,hR.mono ?_⟩;rintro e W3 (⟨rfl,hJ3,hk3⟩|⟨rfl,hx3⟩)
    ·have hX3:W3.heap[X]?=W.heap[X]?:=hk3.2.1.trans ((hga.block X nG (by simp)).trans hXk);have hG3:W3.heap[G]?=W.heap[G]?:=hk3.2.2.trans ((hga.block G nH (by simp)).trans hGk);obtain⟨o,ho,hw⟩:=hwk;have hB3:W3.heap[W.heap.size]?=wr.heap[W.heap.size]?:=(hk3.1 _ o (by omega) ((hga.block _ hlF (by simp)).trans ho) (Or.inr hw)).trans ho.symm;clear hk3 hR hy
     gi_wp2
     go_roundw
     case rel=>
      refine⟨k+1,by omega,by go_num,?_,?_,hX3,hG3⟩
      ·have hp2:aO keys (k+1)=aO keys k++[(fi,k)]:=ah HPR;rw[hp2,af8];exact hJ3
      ·rw[ah eG];exact((ah HF).kept hB3).again (ah HC)
     case measure=>simp[intOf];omega
    ·clear hR hy
     gi_wp2
     (try simp only[Exit.inBlock,Exit.then])
     exact ag3 (results_none rfl _ _ _) rfl ⟨⟨_,rfl⟩,Or.inr hx3⟩
  ·have hkk:k=keys.length:=(by omega);have HKK:=aj hkk;clear hkk;have hbd:¬(k:Int)<(keys.length:Int):=by omega
   gi_wp2
   go_end0
   refine⟨⟨_,rfl⟩,Or.inl ?_⟩;rw[<-ah HKK];exact hJk
theorem zQ(v:Option Addr)(n c:Nat)(w:World):Calls prog 131 #[.slice v n c] w λe w'=>
  e=.returned (.func (.func 169) #[] #[.pointer (some ⟨w.heap.size,0,none⟩)])/\w'=w.alloc (.cells #[.slice v n c] 43):=by
 go_enter func131,ntmps131
 go_wp2_with fail
 go_ret
 exact⟨rfl,rfl⟩
theorem Jt(n:Nat)(hn:2<=n)(X G cap m0:Nat)(keys:List (Int×Nat))(w:World)(hm0:m0<=w.heap.size)(hl:keys.length<=500)
 (hX:w.cell? ⟨X,0,none⟩=some (.slice (some ⟨G,0,none⟩) keys.length cap))(hG:eF w G keys)(hv:∀x∈keys,∃l,keyOf prog 79 (iT x)=some l) :
  lD Fence.wide n prog 169 #[.pointer (some ⟨X,0,none⟩)] ((aO keys keys.length).map λp=>#[.int .i64 p.1,.int .i64 p.2]) (KA m0 X G) w:=by
 intro l J Jx W hW hJ hJx hY h0;have hXW:W.cell? ⟨X,0,none⟩=some (.slice (some ⟨G,0,none⟩) keys.length cap):=(hW.cell (p:=⟨X,0,none⟩) (ad7 w _ hX)).trans hX;have hlX:X<W.heap.size:=ad7 W _ hXW;have hlG:G<W.heap.size:=af5 hG.1 hW.size;have hGW:eF W G keys:=hG.below hW hG.1;have hmm:=λz=>dh (P:=prog) underlying66 .i64 z W;have hsW:=hW.size;refine aj3 func169 rfl trivial ?_ rfl;simp only[ntmps169,ae2,ae1,ae8,Nat.reduceAdd,Nat.reduceSub,ae0,ad9,ae4,ag1,ae7,ae6]
 gi_wp2
 obtain⟨W1,hW1⟩:∃W1,W.alloc (.map #[] 0)=W1:=⟨_,rfl⟩;have hg1:W.grownBy W1 none:=by rw[<-hW1];exact ad4 _ _ none
 have hF1:mM W1 79 W.heap.size iT ([]:List (Int×Nat)):=by rw[<-hW1];exact qG W _ _
 have hs1:W.heap.size<W1.heap.size:=by rw[<-hW1];simp
 have hX1:W1.heap[X]?=W.heap[X]?:=hg1.block X hlX (by simp);have hG1:W1.heap[G]?=W.heap[G]?:=hg1.block G hlG (by simp);have hJ1:J 0 W1:=hJ 0 W W1 none h0 hg1 (λr e=>by cases e);have Xi:W1.cell? ⟨X,0,none⟩=some (.slice (some ⟨G,0,none⟩) keys.length cap):=(ae5 hX1).trans hXW;clear hmm;rw[hW1];clear hW1
 gi_wp2
 gi_loopw [13] (λi wr=>∃k:Nat,k<=keys.length/\i=.int .i64 k/\J (aO keys k).length wr/\mM wr 79 W.heap.size iT (keys.take k)/\wr.heap[X]?=W.heap[X]?/\wr.heap[G]?=W.heap[G]?) (λi _=>keys.length-(intOf i).toNat)
 case atStart=>exact⟨0,ah2 _,rfl,hJ1,hF1,hX1,hG1⟩
 case round=>
  obtain⟨k,hk,rfl,hJk,hFk,hXk,hGk⟩:=hrel;by_cases hlt:k<keys.length
  ·have hbd:(k:Int)<(keys.length:Int):=(by omega);have hGr:=(hGW.same hGk).2 k hlt;have htk:keys.take (k+1)=keys.take k++[keys[k]]:=(by rw[ah1,ad6 hlt];rfl);obtain⟨lt,hlt'⟩:=hv keys[k] (ad8 hlt);have hpr:=kH hlt;have hat:=CJ (keys:=keys) hlt;have hlF:=hFk.lt;have hwk:=hFk.walk;obtain⟨D,nn,h0n,hown,hall⟩:=id hFk;have hka:=hall _ _ hlt';have fD:=hown.tidy qP;have hnn:nn<=500:=(by rw[ah6]at h0n;omega);have gB:=aj hall;have HF:=aj hFk;have HN:=aj h0n;clear hall hFk h0n;cases hc:(keys.take k).contains keys[k]
   ·rw[hc]at hka hpr;have hhas:Maps.has D lt=false:=hka.1;have eG:=aj htk;have HPR:=aj hpr;have HC:=aj hc;have HK:=aj hlt';have hkey:=hlt';clear hka htk hpr hc hat hlt';generalize keys[k]=key at hGr hkey eG HPR HC HK;obtain⟨tl,tf⟩:=key;simp only at hGr;simp only[iT]at hkey;obtain⟨g0,g1⟩:=hGr
    gi_wp2_with (first
     |(gi_at_lookup;refine al9 _ rfl _ _ 66 rfl 79 3 .i64 qP underlying66 underlying3 (zeroE _) W.heap.size nn D rfl (hown.alloc _) _ lt rfl hkey ?_;intro c0 hat hwc)
     |(gi_at_mapUpdate;refine wpListIn_mapUpdate_own _ rfl _ _ _ 66 rfl 79 3 qP underlying66 _ W.heap.size nn D rfl (hown.alloc _) (by unfold maxLen;omega) _ _ lt rfl rfl hkey _ [] (aq4 underlying3 (ao6 (by omega))) ?_;intro w5 hown5 iq))
    have hlen:(keys.take k).length=k:=(by rw[ah6];omega);have hp2:=ah HPR;rw[af2 (by decide)]at hp2;obtain⟨o,ho,hw⟩:=hwk;have hga:wr.grownBy (wr.alloc (.cells #[.int .u8 tl,.int .i64 tf] 79)) none:=ad4 _ _ none;have nG:X<wr.heap.size:=(by have h1:=hlX;rw[ag7 h1]at hXk;exact(ad3.1 hXk).1);have nH:G<wr.heap.size:=(by have h1:=hlG;rw[ag7 h1]at hGk;exact(ad3.1 hGk).1);refine⟨⟨k+1,by omega,by go_num,?_,?_,?_,?_⟩,by simp[intOf];omega⟩
    ·rw[hp2];exact hJ _ _ w5 (some W.heap.size) (hJ _ wr _ none hJk hga (λr e=>by cases e)) iq (λr e=>by cases e;exact⟨ad5 _,o,(hga.block _ hlF (by simp)).trans ho,hw⟩)
    ·rw[ah eG];exact um (λ_ _=>CU) qP (ah HN) (ah gB) fD (ah HK) (ah HC) (by rw[hlen];exact hown5)
    ·exact((iq.block X (af5 nG hga.size) (by simp;omega)).trans (hga.block X nG (by simp))).trans hXk
    ·exact((iq.block G (af5 nH hga.size) (by simp;omega)).trans (hga.block G nH (by simp))).trans hGk
   ·rw[hc]at hka hpr;have hhas:Maps.has D lt=true:=hka.1;obtain⟨hj,hje⟩:=hat hc;have HAT:=aj (hka.2 rfl);have eG:=aj htk;have HPR:=aj hpr;have HC:=aj hc;have hkey:=hlt';have hyk:=hY (aO keys k).length (by simpa using hj);rw[show((aO keys keys.length).map λp:Nat×Nat=>#[Value.int .i64 p.1,Value.int .i64 p.2])[(aO keys k).length]'(by simpa using hj)=#[Value.int .i64 ((keys.take k).idxOf keys[k]:Nat),Value.int .i64 k] by simp[hje]]at hyk;have hfi:(keys.take k).idxOf keys[k]<=500:=(by have:=al6 (l:=keys.take k) (a:=keys[k]);rw[ah6]at this;omega);clear hka htk hpr hc hat hlt' hje;generalize (keys.take k).idxOf keys[k]=fi at HAT hyk HPR hfi;generalize keys[k]=key at hGr hkey eG HPR HC;obtain⟨tl,tf⟩:=key;simp only at hGr;simp only[iT]at hkey;obtain⟨g0,g1⟩:=hGr;have hga:wr.grownBy (wr.alloc (.cells #[.int .u8 tl,.int .i64 tf] 79)) none:=ad4 _ _ none;obtain⟨fn,tmps,assign,body,hy,hR⟩:=hyk (wr.alloc (.cells #[.int .u8 tl,.int .i64 tf] 79)) (hJ _ wr _ none hJk hga (λr e=>by cases e));clear hyk;have nG:X<wr.heap.size:=(by have h1:=hlX;rw[ag7 h1]at hXk;exact(ad3.1 hXk).1);have nH:G<wr.heap.size:=by have h1:=hlG;rw[ag7 h1]at hGk;exact(ad3.1 hGk).1
    gi_wp2_with (gi_at_lookup;refine al9 _ rfl _ _ 66 rfl 79 3 .i64 qP underlying66 underlying3 (zeroE _) W.heap.size nn D rfl (hown.alloc _) _ lt rfl hkey ?_;intro c0 hat hwc;have hc0:c0=(fi:Int):=by {have h:=hat.symm.trans (ah HAT);simpa using h};subst hc0;clear hat hwc)
    refine⟨λ_=>by omega,hR.mono ?_⟩;rintro e W3 (⟨rfl,hJ3,hk3⟩|⟨rfl,hx3⟩)
    ·have hX3:W3.heap[X]?=W.heap[X]?:=hk3.2.1.trans ((hga.block X nG (by simp)).trans hXk);have hG3:W3.heap[G]?=W.heap[G]?:=hk3.2.2.trans ((hga.block G nH (by simp)).trans hGk);obtain⟨o,ho,hw⟩:=hwk;have hB3:W3.heap[W.heap.size]?=wr.heap[W.heap.size]?:=(hk3.1 _ o (by omega) ((hga.block _ hlF (by simp)).trans ho) (Or.inr hw)).trans ho.symm;clear hk3 hR hy
     gi_wp2
     go_roundw
     case rel=>
      refine⟨k+1,by omega,by go_num,?_,?_,hX3,hG3⟩
      ·have hp2:aO keys (k+1)=aO keys k++[(fi,k)]:=ah HPR;rw[hp2,af8];exact hJ3
      ·rw[ah eG];exact((ah HF).kept hB3).again (ah HC)
     case measure=>simp[intOf];omega
    ·clear hR hy
     gi_wp2
     (try simp only[Exit.inBlock,Exit.then])
     exact ag3 (results_none rfl _ _ _) rfl ⟨⟨_,rfl⟩,Or.inr hx3⟩
  ·have hkk:k=keys.length:=(by omega);have HKK:=aj hkk;clear hkk;have hbd:¬(k:Int)<(keys.length:Int):=by omega
   gi_wp2
   go_end0
   refine⟨⟨_,rfl⟩,Or.inl ?_⟩;rw[<-ah HKK];exact hJk
theorem Jw(v:Option Addr)(n c:Nat)(w:World):Calls prog 69 #[.slice v n c] w λe w'=>
  e=.returned (.func (.func 128) #[] #[.pointer (some ⟨w.heap.size,0,none⟩)])/\w'=w.alloc (.cells #[.slice v n c] 39):=by
 go_enter func69,ntmps69
 go_wp2_with fail
 go_ret
 exact⟨rfl,rfl⟩
theorem Ju(n:Nat)(hn:2<=n)(X G cap m0:Nat)(keys:List UInt8)(w:World)(hm0:m0<=w.heap.size)(hl:keys.length<=500)
 (hX:w.cell? ⟨X,0,none⟩=some (.slice (some ⟨G,0,none⟩) keys.length cap))(hG:qg w G keys)(hv:∀x∈keys,∃l,keyOf prog 5 (PS x)=some l) :
  lD Fence.wide n prog 128 #[.pointer (some ⟨X,0,none⟩)] ((aO keys keys.length).map λp=>#[.int .i64 p.1,.int .i64 p.2]) (KA m0 X G) w:=by
 intro l J Jx W hW hJ hJx hY h0;have hXW:W.cell? ⟨X,0,none⟩=some (.slice (some ⟨G,0,none⟩) keys.length cap):=(hW.cell (p:=⟨X,0,none⟩) (ad7 w _ hX)).trans hX;have hlX:X<W.heap.size:=ad7 W _ hXW;have hlG:G<W.heap.size:=af5 hG.1 hW.size;have hGW:qg W G keys:=hG.below hW hG.1;have hmm:=λz=>dh (P:=prog) underlying222 .i64 z W;have hsW:=hW.size;refine aj3 func128 rfl trivial ?_ rfl;simp only[ntmps128,ae2,ae1,ae8,Nat.reduceAdd,Nat.reduceSub,ae0,ad9,ae4,ag1,ae7,ae6]
 gi_wp2
 obtain⟨W1,hW1⟩:∃W1,W.alloc (.map #[] 0)=W1:=⟨_,rfl⟩;have hg1:W.grownBy W1 none:=by rw[<-hW1];exact ad4 _ _ none
 have hF1:mM W1 5 W.heap.size PS ([]:List UInt8):=by rw[<-hW1];exact qG W _ _
 have hs1:W.heap.size<W1.heap.size:=by rw[<-hW1];simp
 have hX1:W1.heap[X]?=W.heap[X]?:=hg1.block X hlX (by simp);have hG1:W1.heap[G]?=W.heap[G]?:=hg1.block G hlG (by simp);have hJ1:J 0 W1:=hJ 0 W W1 none h0 hg1 (λr e=>by cases e);have Xi:W1.cell? ⟨X,0,none⟩=some (.slice (some ⟨G,0,none⟩) keys.length cap):=(ae5 hX1).trans hXW;clear hmm;rw[hW1];clear hW1
 gi_wp2
 gi_loopw [13] (λi wr=>∃k:Nat,k<=keys.length/\i=.int .i64 k/\J (aO keys k).length wr/\mM wr 5 W.heap.size PS (keys.take k)/\wr.heap[X]?=W.heap[X]?/\wr.heap[G]?=W.heap[G]?) (λi _=>keys.length-(intOf i).toNat)
 case atStart=>exact⟨0,ah2 _,rfl,hJ1,hF1,hX1,hG1⟩
 case round=>
  obtain⟨k,hk,rfl,hJk,hFk,hXk,hGk⟩:=hrel;by_cases hlt:k<keys.length
  ·have hbd:(k:Int)<(keys.length:Int):=(by omega);have hGr:=(hGW.same hGk).2 k hlt;have htk:keys.take (k+1)=keys.take k++[keys[k]]:=(by rw[ah1,ad6 hlt];rfl);obtain⟨lt,hlt'⟩:=hv keys[k] (ad8 hlt);have hpr:=kH hlt;have hat:=CJ (keys:=keys) hlt;have hlF:=hFk.lt;have hwk:=hFk.walk;obtain⟨D,nn,h0n,hown,hall⟩:=id hFk;have hka:=hall _ _ hlt';have fD:=hown.tidy PL;have hnn:nn<=500:=(by rw[ah6]at h0n;omega);have gB:=aj hall;have HF:=aj hFk;have HN:=aj h0n;clear hall hFk h0n;cases hc:(keys.take k).contains keys[k]
   ·rw[hc]at hka hpr;have hhas:Maps.has D lt=false:=hka.1;have eG:=aj htk;have HPR:=aj hpr;have HC:=aj hc;have HK:=aj hlt';have hkey:=hlt';clear hka htk hpr hc hat hlt';generalize keys[k]=key at hGr hkey eG HPR HC HK;simp only[PS]at hkey
    gi_wp2_with (first
     |(gi_at_lookup;refine al9 _ rfl _ _ 222 rfl 5 3 .i64 PL underlying222 underlying3 (zeroE _) W.heap.size nn D rfl hown _ lt rfl hkey ?_;intro c0 hat hwc)
     |(gi_at_mapUpdate;refine wpListIn_mapUpdate_own _ rfl _ _ _ 222 rfl 5 3 PL underlying222 _ W.heap.size nn D rfl hown (by unfold maxLen;omega) _ _ lt rfl rfl hkey _ [] (aq4 underlying3 (ao6 (by omega))) ?_;intro w5 hown5 iq))
    have hlen:(keys.take k).length=k:=(by rw[ah6];omega);have hp2:=ah HPR;rw[af2 (by decide)]at hp2;obtain⟨o,ho,hw⟩:=hwk;have hga:wr.grownBy wr none:=⟨rfl,rfl,rfl,ad5 _,λ_ _ _=>rfl⟩;have nG:X<wr.heap.size:=(by have h1:=hlX;rw[ag7 h1]at hXk;exact(ad3.1 hXk).1);have nH:G<wr.heap.size:=(by have h1:=hlG;rw[ag7 h1]at hGk;exact(ad3.1 hGk).1);refine⟨⟨k+1,by omega,by go_num,?_,?_,?_,?_⟩,by simp[intOf];omega⟩
    ·rw[hp2];exact hJ _ _ w5 (some W.heap.size) (hJ _ wr _ none hJk hga (λr e=>by cases e)) iq (λr e=>by cases e;exact⟨ad5 _,o,(hga.block _ hlF (by simp)).trans ho,hw⟩)
    ·rw[ah eG];exact um (λ_ _=>Uh) PL (ah HN) (ah gB) fD (ah HK) (ah HC) (by rw[hlen];exact hown5)
    ·exact((iq.block X (af5 nG hga.size) (by simp;omega)).trans (hga.block X nG (by simp))).trans hXk
    ·exact((iq.block G (af5 nH hga.size) (by simp;omega)).trans (hga.block G nH (by simp))).trans hGk
   ·rw[hc]at hka hpr;have hhas:Maps.has D lt=true:=hka.1;obtain⟨hj,hje⟩:=hat hc;have HAT:=aj (hka.2 rfl);have eG:=aj htk;have HPR:=aj hpr;have HC:=aj hc;have hkey:=hlt';have hyk:=hY (aO keys k).length (by simpa using hj);rw[show((aO keys keys.length).map λp:Nat×Nat=>#[Value.int .i64 p.1,Value.int .i64 p.2])[(aO keys k).length]'(by simpa using hj)=#[Value.int .i64 ((keys.take k).idxOf keys[k]:Nat),Value.int .i64 k] by simp[hje]]at hyk;have hfi:(keys.take k).idxOf keys[k]<=500:=(by have:=al6 (l:=keys.take k) (a:=keys[k]);rw[ah6]at this;omega);clear hka htk hpr hc hat hlt' hje;generalize (keys.take k).idxOf keys[k]=fi at HAT hyk HPR hfi;generalize keys[k]=key at hGr hkey eG HPR HC;simp only[PS]at hkey;have hga:wr.grownBy wr none:=⟨rfl,rfl,rfl,ad5 _,λ_ _ _=>rfl⟩;obtain⟨fn,tmps,assign,body,hy,hR⟩:=hyk wr hJk;clear hyk;have nG:X<wr.heap.size:=(by have h1:=hlX;rw[ag7 h1]at hXk;exact(ad3.1 hXk).1);have nH:G<wr.heap.size:=by have h1:=hlG;rw[ag7 h1]at hGk;exact(ad3.1 hGk).1
    gi_wp2_with (gi_at_lookup;refine al9 _ rfl _ _ 222 rfl 5 3 .i64 PL underlying222 underlying3 (zeroE _) W.heap.size nn D rfl hown _ lt rfl hkey ?_;intro c0 hat hwc;have hc0:c0=(fi:Int):=by {have h:=hat.symm.trans (ah HAT);simpa using h};subst hc0;clear hat hwc)
    refine⟨λ_=>by omega,hR.mono ?_⟩;rintro e W3 (⟨rfl,hJ3,hk3⟩|⟨rfl,hx3⟩)
    ·have hX3:W3.heap[X]?=W.heap[X]?:=hk3.2.1.trans ((hga.block X nG (by simp)).trans hXk);have hG3:W3.heap[G]?=W.heap[G]?:=hk3.2.2.trans ((hga.block G nH (by simp)).trans hGk);obtain⟨o,ho,hw⟩:=hwk;have hB3:W3.heap[W.heap.size]?=wr.heap[W.heap.size]?:=(hk3.1 _ o (by omega) ((hga.block _ hlF (by simp)).trans ho) (Or.inr hw)).trans ho.symm;clear hk3 hR hy
     gi_wp2
     go_roundw
     case rel=>
      refine⟨k+1,by omega,by go_num,?_,?_,hX3,hG3⟩
      ·have hp2:aO keys (k+1)=aO keys k++[(fi,k)]:=ah HPR;rw[hp2,af8];exact hJ3
      ·rw[ah eG];exact((ah HF).kept hB3).again (ah HC)
     case measure=>simp[intOf];omega
    ·clear hR hy
     gi_wp2
     (try simp only[Exit.inBlock,Exit.then])
     exact ag3 (results_none rfl _ _ _) rfl ⟨⟨_,rfl⟩,Or.inr hx3⟩
  ·have hkk:k=keys.length:=(by omega);have HKK:=aj hkk;clear hkk;have hbd:¬(k:Int)<(keys.length:Int):=by omega
   gi_wp2
   go_end0
   refine⟨⟨_,rfl⟩,Or.inl ?_⟩;rw[<-ah HKK];exact hJk
end
section
open Go.RowKit Go.Maps Go.WideMaps
section
variable {α:Type} [BEq α]
def fi(keys:List α)(i:Nat):Nat:=match keys[i]? with|some x=>keys.idxOf x|none=>i
theorem qY{keys:List α}{i:Nat}(hi:i<keys.length):fi keys i=keys.idxOf keys[i]:=by unfold fi;rw[ad6 hi]
theorem tZ[LawfulBEq α]{keys:List α}{k:Nat}{x:α}(h:x∈keys.take k):(keys.take k).idxOf x=keys.idxOf x:=by
 have e:=List.take_append_drop k keys;have h2:(keys.take k++keys.drop k).idxOf x=(keys.take k).idxOf x:=by rw[al3];simp[h]
 rw[e]at h2;exact h2.symm
theorem Bz[LawfulBEq α](keys:List α)(i:Nat)(hi:i<keys.length):fi keys i<=i:=by
 rw[qY hi];rcases Nat.lt_or_ge i (keys.idxOf keys[i])with h|h
 ·have h1:keys[i]∈keys.take (i+1):=by
   rw[List.mem_take_iff_getElem];exact⟨i,by omega,rfl⟩
  have h2:=tZ h1;have h3:=ah9 h1;rw[ah6]at h3;omega
 ·exact h
theorem F6[LawfulBEq α](keys:List α)(i:Nat)(hi:i<keys.length):fi keys (fi keys i)=fi keys i:=by
 have h:=Bz keys i hi;rw[qY (i:=fi keys i) (by omega)];have h2:keys.idxOf keys[i]<keys.length:=ah9 (ad8 hi);have e:keys[fi keys i]'(by omega)=keys[i]:=by
  have h3:=ai2 h2;simp only[qY hi];exact h3
 rw[e,qY hi]
theorem BA[LawfulBEq α]{keys:List α}{i j:Nat}(hi:i<keys.length)(hj:j<keys.length):fi keys i=fi keys j↔keys[i]=keys[j]:=by
 rw[qY hi,qY hj];constructor
 ·intro h;have h1:=ai2 (ah9 (ad8 hi));have h2:=ai2 (ah9 (ad8 hj));rw[<-h1,<-h2];simp only[h]
 ·intro h;rw[h]
theorem VI[LawfulBEq α]{keys:List α}{k:Nat}(hk:k<keys.length):(keys.take k).contains keys[k]=true↔fi keys k<k:=by
 rw[qY hk];constructor
 ·intro h;have hm:keys[k]∈keys.take k:=by simpa using h
  have h3:=ah9 hm;rw[tZ hm,ah6]at h3;omega
 ·intro h;have h2:keys.idxOf keys[k]<keys.length:=by omega
  have h1:=ai2 h2;have hm:keys[k]∈keys.take k:=by
   rw[List.mem_take_iff_getElem];exact⟨keys.idxOf keys[k],by omega,h1⟩
  simpa using hm
theorem gU[LawfulBEq α](keys:List α):∀k,k<=keys.length->∀p,p∈aO keys k↔(p.2<k/\p.1=fi keys p.2/\p.1<p.2):=by
 intro k
 induction k with
 |zero=>intro _ p;simp[aO]
 |succ k ih=>
  intro hk p;have hlt:k<keys.length:=by omega
  rw[kH hlt];by_cases hc:(keys.take k).contains keys[k]=true
  ·rw[af6 hc,ag9,ih (by omega)];have hm:keys[k]∈keys.take k:=(by simpa using hc);have hf:=(VI hlt).1 hc;constructor
   ·rintro(⟨h1,h2,h3⟩|h)
    ·exact⟨by omega,h2,h3⟩
    ·simp only[ag0]at h;subst h;simp only;rw[tZ hm,<-qY hlt];exact⟨by omega,rfl,hf⟩
   ·rintro⟨h1,h2,h3⟩;by_cases e:p.2=k
    ·right;obtain⟨p1,p2⟩:=p;simp only at e h2;subst e;simp only[ag0,ar2];rw[tZ hm,<-qY hlt];refine⟨h2,?_⟩
     first|rfl|trivial
    ·left;exact⟨by omega,h2,h3⟩
  ·rw[af2 hc,ih (by omega)];constructor
   ·rintro⟨h1,h2,h3⟩;exact⟨by omega,h2,h3⟩
   ·rintro⟨h1,h2,h3⟩;by_cases e:p.2=k
    ·exfalso;rw[e]at h2;exact hc ((VI hlt).2 (by omega))
    ·exact⟨by omega,h2,h3⟩
theorem Hg[LawfulBEq α](keys:List α):∀k,k<=keys.length->(aO keys k).Pairwise (λp q=>p.2<q.2):=by
 intro k
 induction k with
 |zero=>intro _;simp[aO]
 |succ k ih=>
  intro hk;rw[kH (by omega)];split
  ·refine List.pairwise_append.2 ⟨ih (by omega),by simp,λa ha b hb=>?_⟩;simp only[ag0]at hb;subst hb;exact((gU keys k (by omega) a).1 ha).1
  ·exact ih (by omega)
theorem CO[LawfulBEq α](keys:List α)(g:Nat->Nat->Prop)(hr:∀i,g i i)(hs:∀i j,g i j->g j i)(ht:∀i j k,g i j->g j k->g i k) :
  (∀p∈aO keys keys.length,g p.1 p.2)↔∀i j,i<keys.length->j<keys.length->keys[i]?=keys[j]?->g i j:=by
 constructor
 ·intro h;have h1:∀i,i<keys.length->g (fi keys i) i:=λi hi=>by
   rcases Nat.lt_or_ge (fi keys i) i with hlt|hge
   ·exact h (fi keys i,i) ((gU keys _ (ad5 _) _).2 ⟨hi,rfl,hlt⟩)
   ·have:fi keys i=i:=(by have:=Bz keys i hi;omega);rw[this];exact hr i
  intro i j hi hj e;rw[ad6 hi,ad6 hj]at e;have e2:=(BA hi hj).2 (ak1 e);have a:=h1 i hi;have b:=h1 j hj;rw[<-e2]at b;exact ht _ _ _ (hs _ _ a) b
 ·intro h p hp;obtain⟨h1,h2,h3⟩:=(gU keys _ (ad5 _) p).1 hp;refine h _ _ (by omega) h1 ?_;have h4:=qY h1;have h5:keys.idxOf keys[p.2]<keys.length:=ah9 (ad8 h1);rw[h2,h4,ad6 h5,ad6 h1,ai2 h5]
def fk(keys:List α)(k:Nat)(i:Nat):Nat:=if ∃p∈(aO keys keys.length).take k,p.2=i then fi keys i else i
theorem Ko(keys:List α)(i:Nat):fk keys 0 i=i:=by unfold fk;simp
theorem Kq[LawfulBEq α]{keys:List α}{k:Nat}(hk:k<(aO keys keys.length).length)(i:Nat) :
  fk keys (k+1) i=if i=((aO keys keys.length)[k]).2 then((aO keys keys.length)[k]).1 else fk keys k i:=by
 have hm:=(gU keys _ (ad5 _) _).1 (ad8 hk);have e:(aO keys keys.length).take (k+1)=(aO keys keys.length).take k++[(aO keys keys.length)[k]]:=by rw[ah1,ad6 hk];rfl
 unfold fk;rw[e];by_cases h:i=((aO keys keys.length)[k]).2
 ·rw[af6 h,af6 ⟨_,ao7 _ (ag0.2 rfl),h.symm⟩,h,hm.2.1]
 ·rw[af2 h];by_cases h2:∃p∈(aO keys keys.length).take k,p.2=i
  ·rw[af6 h2];obtain⟨p,hp,e⟩:=h2;rw[af6 ⟨p,ai5 _ hp,e⟩]
  ·rw[af2 h2,af2];rintro⟨p,hp,e⟩;rcases ag9.1 hp with hp|hp
   ·exact h2 ⟨p,hp,e⟩
   ·rw[ag0.1 hp]at e;exact h e.symm
theorem F5[LawfulBEq α]{keys:List α}{k:Nat}(hk:k<(aO keys keys.length).length):fk keys k ((aO keys keys.length)[k]).2=((aO keys keys.length)[k]).2/\fk keys k ((aO keys keys.length)[k]).1=((aO keys keys.length)[k]).1:=by
 have hm:=(gU keys _ (ad5 _) _).1 (ad8 hk);have hsrt:=am3.1 (Hg keys keys.length (ad5 _));constructor
 ·unfold fk;rw[af2];rintro⟨p,hp,e⟩;rw[List.mem_take_iff_getElem]at hp;obtain⟨j,hj,rfl⟩:=hp;have:=hsrt j k (by omega) hk (by omega);omega
 ·unfold fk;split
  ·rename_i h;obtain⟨p,hp,e⟩:=h;rw[hm.2.1];exact F6 keys _ hm.1
  ·rfl
theorem QU[LawfulBEq α](keys:List α){i:Nat}(hi:i<keys.length):fk keys (aO keys keys.length).length i=fi keys i:=by
 unfold fk;rw[ai7];split
 ·rfl
 ·rename_i h;rcases Nat.lt_or_ge (fi keys i) i with hlt|hge
  ·exact absurd ⟨(fi keys i,i),(gU keys _ (ad5 _) _).2 ⟨hi,rfl,hlt⟩,rfl⟩ h
  ·have:=Bz keys i hi;omega
theorem xC(keys:List α):∀k,(aO keys k).length<=k:=by
 intro k
 induction k with
 |zero=>simp[aO]
 |succ k ih=>
  rw[aO];split
  ·split
   ·simp;omega
   ·omega
  ·omega
end
end
section
open Go.RowKit Go.Maps Go.WideMaps
open aB (Key put)
theorem yD(BT:Nat)(ts:List Nat)(x:Nat)(w:World)(h2:x<=1000)(hl:ts.length<=1000)(hM:aH w 3 BT gV ts) :
  Calls prog 72 #[.map (some BT),.int .i64 x] w λe w'=>
   e=.returned (.int .i64 (ts.idxOf x))/\aH w' 3 BT gV (put ts x)/\w.grownBy w' (some BT):=by
 obtain⟨l,hkey⟩:=(⟨_,pJ h2⟩:∃l,keyOf prog 3 (gV x)=some l);obtain⟨D,hown,hsz,hall,hback⟩:=hM;have hk0:=hall _ _ hkey;have fD:=hown.tidy dV;have hkey':keyOf prog 3 (.int .i64 x)=some l:=hkey;have gB:=aj hall;have jD:=aj hback;have nZ:=aj hsz;have HK:=aj hkey;clear hall hsz hkey hback;cases hc:ts.contains x
 ·rw[hc]at hk0;have hhas:Maps.has D l=false:=hk0.1;clear hk0;have HC:=aj hc;clear hc
  go_enter func72,ntmps72
  go_wp2_with (first
   |(at_lookup;refine am7 _ rfl _ _ 148 rfl 3 3 .i64 dV underlying148 underlying3 (zeroE _) BT ts.length D rfl hown _ l rfl hkey' ?_;intro c0 hat hwc)
   |(at_len;refine wpList_len_own _ rfl _ 148 rfl 3 3 underlying148 _ BT ts.length D rfl hown ?_)
   |(at_mapUpdate;refine wpList_mapUpdate_own _ rfl _ _ _ 148 rfl 3 3 dV underlying148 _ BT ts.length D rfl hown (by unfold maxLen;omega) _ _ l rfl rfl hkey' _ [] (aq4 underlying3 (ao6 (by have:=ah nZ;omega))) ?_;intro w1 hown1 hgrow1))
  go_ret
  have hsz:=ah nZ;have hc:=ah HC;have hn:¬x∈ts:=by simpa using hc
  refine⟨gQ ?_,?_,hgrow1⟩
  ·rw[hsz,ai9 hn]
  ·have hp:put ts x=ts++[x]:=(by unfold put;rw[hc];rfl);rw[hp];rw[hsz]at hown1;exact qC (λ_ _=>CS) dV hsz (ah gB) (ah jD) fD (ah HK) hc hown1
 ·rw[hc]at hk0;have hhas:Maps.has D l=true:=hk0.1;have HAT:=aj (hk0.2 rfl);clear hk0;have HC:=aj hc;clear hc
  go_enter func72,ntmps72
  go_wp2_with (first
   |(at_lookup;refine am7 _ rfl _ _ 148 rfl 3 3 .i64 dV underlying148 underlying3 (zeroE _) BT ts.length D rfl hown _ l rfl hkey' ?_;intro c0 hat hwc))
  go_ret
  have hc:=ah HC;refine⟨gQ ?_,?_,ah7 _ _⟩
  ·have h:=hat.symm.trans (ah HAT);simpa using h
  ·have hp:put ts x=ts:=(by unfold put;rw[hc];rfl);rw[hp];exact⟨D,hown,ah nZ,ah gB,ah jD⟩
end
section
open Go.RowKit Go.Maps Go.WideMaps
open aB (Key put)
attribute [local go_sem] Oper.semAt_some
structure TGB(w:World)(b X:Nat)(keys:List UInt8)(k:Nat)(W:World):Prop where
 x:W.cell? ⟨X,0,none⟩=some (.map (some b))
 m:dN W b (fk keys k) keys.length k
 below:Below w.heap.size w W
 sz:w.heap.size+3<=W.heap.size
theorem Aa(G cap:Nat)(keys:List UInt8)(w:World)(hl:keys.length<=100)(hG:qg w G keys)(hv:∀x∈keys,∃l,keyOf prog 5 (PS x)=some l) :
  Calls prog 31 #[.slice (some ⟨G,0,none⟩) keys.length cap] w λe w'=>∃b,e=.returned (.map (some b))/\w.heap.size<=b/\Below w.heap.size w w'/\dN w' b (fi keys) keys.length 100:=by
 refine(ag4 (n:=5)).1 ?_;have hmm:=λz=>dh (P:=prog) underlying53 .i64 z w;refine ai6 func31 rfl trivial ?_ rfl;simp only[ntmps31,ae2,ae1,ae8,Nat.reduceAdd,Nat.reduceSub,ae0,ad9,ae4,ag1,ae7,ae6]
 gi_wp2
 refine⟨trivial,(ag4.2 (Jw (some ⟨G,0,none⟩) keys.length cap _)).mono ?_⟩;rintro e w2 ⟨rfl,rfl⟩
 gi_wp2
 obtain⟨w2,hw2⟩:∃w2,((w.alloc (.map #[] 0)).alloc (.cells #[.map (some w.heap.size)] 53)).alloc (.cells #[.slice (some ⟨G,0,none⟩) keys.length cap] 39)=w2:=⟨_,rfl⟩;have hs2:w2.heap.size=w.heap.size+3:=by rw[<-hw2];simp
 have hg2:w.grownBy w2 none:=by rw[<-hw2];exact((ad4 _ _ none).trans (ad4 _ _ none)).trans (ad4 _ _ none)
 have hb2:Below w.heap.size w w2:=⟨hg2.os,hg2.tape,hg2.output,hg2.size,λj hj=>hg2.block j hj (by simp)⟩;have hx2:w2.cell? ⟨w.heap.size+1,0,none⟩=some (.map (some w.heap.size)):=by rw[<-hw2];simp[go_sem]
 have hX2:w2.cell? ⟨w.heap.size+1+1,0,none⟩=some (.slice (some ⟨G,0,none⟩) keys.length cap):=by rw[<-hw2];simp[go_sem]
 have hm2:dN w2 w.heap.size (fk keys 0) keys.length 0:=by
  have h0:dN (w.alloc (.map #[] 0)) w.heap.size (fk keys 0) keys.length 0:=⟨.map [],0,ad5 _,aq9 w _ _ _,λi hi=>by rw[Ko];exact⟨by simp;rfl,λh=>absurd rfl h⟩⟩;refine h0.kept ?_;rw[<-hw2,ae3 _ _ _ (by simp;omega),ae3 _ _ _ (by simp)]
 have hGl:=hG.1;have hseq:=(Ju 4 (by omega) (w.heap.size+1+1) G cap w2.heap.size keys w2 (ad5 _) (by omega) hX2 (hG.below hb2 hGl) hv).all;rw[hw2];have HS2:=aj hs2;have Nj:w.heap.size+3<=w2.heap.size:=by omega
 have aaG:w2.heap.size<=w.heap.size+3:=by omega
 clear hw2 hmm hg2 hX2 hs2;have hTG:TGB w w.heap.size (w.heap.size+1) keys 0 w2:=⟨hx2,hm2,hb2,Nj⟩;have hown:OwnFrom w2.heap.size (TGB w w.heap.size (w.heap.size+1) keys):=by
  intro k W W' row h hg hr;have hne:∀b,b<w2.heap.size->some b≠row:=λb hb e=>by have:=(hr b e.symm).1;omega
  exact⟨hg.cell h.x (hne _ (by show w.heap.size+1<w2.heap.size;omega)),h.m.kept (hg.block _ h.m.lt (hne _ (by omega))),ownFrom_below (β:=Unit) (ad5 _) (by omega) () W W' row h.below hg hr,af7 h.sz hg.size⟩
 clear hx2 hm2 hb2;refine bK rfl (by omega) rfl trivial (λ_ _=>by simp[go_sem]) hseq KA.trans ?_ (ag6 _ _) ?_ (TGB w w.heap.size (w.heap.size+1) keys) hown hTG
  (λk a' W=>∃hk:k<(aO keys keys.length).length,a'={tmps:=#[.slice (some ⟨G,0,none⟩) keys.length cap,undef,.map none,.pointer (some ⟨w.heap.size+1,0,none⟩),.int .i64 ((aO keys keys.length)[k]).1,.int .i64 ((aO keys keys.length)[k]).2,.slice (some ⟨G,0,none⟩) keys.length cap,.int .i64 keys.length,.map (some w.heap.size),.slice (some ⟨G,0,none⟩) keys.length cap,
     .func (.func 128) #[] #[.pointer (some ⟨w.heap.size+1+1,0,none⟩)],.int .i64 ((aO keys keys.length)[k]).1,.int .i64 ((aO keys keys.length)[k]).2,undef,undef,undef,undef,undef],defers:=[]}) ?own ?assign ?body ?done
 ·intro W l o o' hlw ho hc hwk;refine⟨λj x hj hx hxc=>(af0 (λe=>?_)).trans hx,af0 (by omega),af0 (by omega)⟩;subst e;rw[ho]at hx;cases hx;rcases hxc with h|h
  ·rw[hc]at h;cases h
  ·rw[hwk]at h;cases h
 ·intro k hk;simp
 case own=>
  rintro k a' ⟨⟩ W W' row h hg hr;exact h
 case assign=>
  intro l k hk W K hI hK;have hk':k<(aO keys keys.length).length:=by simpa using hk
  have e1:((aO keys keys.length).map λp:Nat×Nat=>#[Value.int .i64 p.1,Value.int .i64 p.2])[k]'hk=#[.int .i64 ((aO keys keys.length)[k]).1,.int .i64 ((aO keys keys.length)[k]).2]:=by simp
  rw[e1];have hK2:=hK _ W ((aq2 _).from _) ⟨λj o hj ho hc=>ho,rfl,rfl⟩ hI ⟨hk',rfl⟩;clear hK;generalize (aO keys keys.length)[k]=pr at hK2 ⊢
  gi_wp2
  exact hK2
 case body=>
  rintro l k a' W hk hl' hI ⟨hk',rfl⟩;have hix:=hI.x;have hmem:=(gU keys _ (ad5 _) _).1 (ad8 hk');have hfr:=F5 hk';have hfs:=Kq hk';have hkl:k<=100:=by have:=xC keys keys.length;omega
  have hj:=Fj W w.heap.size keys.length k (fk keys k) ((aO keys keys.length)[k]).1 ((aO keys keys.length)[k]).2 hI.m (by omega) hmem.1 (by omega) (by omega) (by omega) hfr.2 hfr.1;have hIb:=aj hI;have HFS:=aj hfs;clear hI hfs hfr hmem hTG hown;generalize (aO keys keys.length)[k]=pr at hj HFS ⊢;obtain⟨x,y⟩:=pr;simp only at hj ⊢
  gi_wp2
  refine⟨trivial,al4 l (ag4.2 (hj.mono ?_))⟩;rintro e w3 ⟨⟨v,rfl⟩,hg,hm⟩
  gi_wp2
  have hI:=ah hIb;have hs:∀j,j<W.heap.size->j≠w.heap.size->w3.heap[j]?=W.heap[j]?:=λj hj hne=>hg.block j hj (by simpa using hne);have hsW:=hI.below.size;have hlX:w.heap.size+3<=W.heap.size:=hI.sz;refine⟨⟨hg.size,λj o hj ho _=>(hs j (ad3.1 ho).1 (by omega)).trans ho⟩,⟨λj o hj ho _=>(hs j (ad3.1 ho).1 (by omega)).trans ho,hs _ (by omega) (by omega),hs G (by omega) (by omega)⟩,
   hg.cell hI.x (by simp),hm.congr (λi _=>(ah HFS i).symm),hI.below.grown hg hI.below.size (λj e=>by cases e;exact ad5 _),af7 hI.sz hg.size⟩
 case done=>
  intro D W hD hI hdef;have hx:=hI.x
  gi_wp2
  refine⟨by simp,.inl ⟨_,_,rfl,aj6 hdef,?_⟩⟩;refine⟨_,am8 rfl _ _ _,?_⟩;have hI2:=hown.putObj (.deferred none) hI hD hdef rfl;refine⟨w.heap.size,rfl,ad5 _,hI2.below,?_⟩;obtain⟨D',nn,h1,h2,h3⟩:=hI2.m;have hle:=xC keys keys.length;rw[ai8]at h1 h3;refine⟨D',nn,by omega,h2,λi hi=>?_⟩;have h4:=h3 i hi;rw[QU keys hi]at h4;exact h4
end
theorem jS{F:Fence}{n:Nat}{P:Program}{c:Code}{Q:Exit->Act->World->Prop}{a:Act}{w:World}(h:c.wpIn F n P (λe a w=>e=.normal/\Q .normal a w) a w):c.wpIn F n P Q a w:=
 wpIn_mono h (λe a w h=>by obtain⟨rfl,h⟩:=h;exact h)
theorem wu{P:Program}{ops:Array Oper}{Q:Exit->Act->World->Prop}{n id:Nat}{a:Act}{w:World}(S:World->Prop)(fuel:Nat)(listed:Array Bool)(hm:P.follows .mixedOrders=true)(hf:ops.size=fuel)(hl:Array.replicate ops.size false=listed)
 (h:wpAnyH P .any ops Q S fuel listed a w.drew):(Code.region id ops true).wpIn Fence.wide n P Q a w:=by
 subst hf;subst hl;exact wpIn_wide.2 (ah0 hm h)
theorem Ad{P:Program}{ops:Array Oper}{Q:Exit->Act->World->Prop}{r n id:Nat}{a:Act}{w:World}(S:World->Prop)(fuel:Nat)(listed:Array Bool)(hm:P.follows .mixedOrders=true)(hf:ops.size=fuel)(hl:Array.replicate ops.size false=listed)
 (hd:(ops.all λo=>match o.op with|.defer _=>false|_=>true)=true)(hQ:¬LetsOut Q)(h:wpAnyH P .any ops Q S fuel listed a w.drew):(Code.region id ops true).wpIn (Fence.wide.inRound r) n P Q a w:=
 wpIn_region_draw λt=>by
  simp only[Region.schedule,hm,Bool.true_or,al0];subst hf;subst hl;refine Ba (λi o ho c hc=>?_) hQ _ _ _ (wpAny_sound ops.size t _ a _ (wpAny_of_held _ _ _ _ h));obtain⟨hlt,he⟩:=ad3.1 ho;have:=(Array.all_eq_true.1 hd) i hlt;rw[he,hc]at this;cases this
end Go.Proofs.YthcppbmkacbbiabGreat
