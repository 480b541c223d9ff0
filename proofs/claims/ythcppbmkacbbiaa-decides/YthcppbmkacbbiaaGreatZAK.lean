import Derived.Test.YthcppbmkacbbiaaGreatZAJ
set_option linter.unusedSimpArgs false
set_option maxHeartbeats 2000000
set_option maxRecDepth 100000
namespace Go.Proofs.YthcppbmkacbbiaaGreat
open Go.Proofs.Tryz
section
open Go.RowKit Go.Maps Go.WideMaps
open au (Key put)
theorem BJ(v:Option Addr)(n c:Nat)(w:World):Calls prog 78 #[.slice v n c] w λe w'=>
  e=.returned (.func (.func 127) #[] #[.pointer (some ⟨w.heap.size,0,none⟩)])/\w'=w.alloc (.cells #[.slice v n c] 50):=by
 go_enter func78,ntmps78
 go_wp2_with fail
 go_ret
 exact⟨rfl,rfl⟩
theorem BI(n:Nat)(hn:2<=n)(X G cap m0:Nat)(keys:List Key)(w:World)(hm0:m0<=w.heap.size)(hl:keys.length<=500)
 (hX:w.cell? ⟨X,0,none⟩=some (.slice (some ⟨G,0,none⟩) keys.length cap))(hG:dU w G keys)(hv:∀x∈keys,∃l,keyOf prog 87 (bD x)=some l) :
  rX Fence.wide n prog 127 #[.pointer (some ⟨X,0,none⟩)] ((dJ keys keys.length).map λp=>#[.int .i64 p.1,.int .i64 p.2]) (KA m0 X G) w:=by
 intro l J Jx W hW hJ hJx hY h0;have hXW:W.cell? ⟨X,0,none⟩=some (.slice (some ⟨G,0,none⟩) keys.length cap):=(hW.cell (p:=⟨X,0,none⟩) (af5 w _ hX)).trans hX;have hlX:X<W.heap.size:=af5 W _ hXW;have hlG:G<W.heap.size:=ah4 hG.1 hW.size;have hGW:dU W G keys:=hG.below hW hG.1;have hmm:=λz=>jI (P:=prog) underlying75 .i64 z W;have hsW:=hW.size;refine al8 func127 rfl trivial ?_ rfl;simp only[ntmps127,ag3,ag0,ah0,Nat.reduceAdd,Nat.reduceSub,af8,af7,ag5,ai1,ag9,ag7]
 gi_wp2
 obtain⟨W1,hW1⟩:∃W1,W.alloc (.map #[] 0)=W1:=⟨_,rfl⟩;have hg1:W.grownBy W1 none:=by rw[<-hW1];exact ae9 _ _ none
 have hF1:sJ W1 87 W.heap.size bD ([]:List Key):=by rw[<-hW1];exact DN W _ _
 have hs1:W.heap.size<W1.heap.size:=by rw[<-hW1];simp
 have hX1:W1.heap[X]?=W.heap[X]?:=hg1.block X hlX (by simp);have hG1:W1.heap[G]?=W.heap[G]?:=hg1.block G hlG (by simp);have hJ1:J 0 W1:=hJ 0 W W1 none h0 hg1 (λr e=>by cases e);have adk:W1.cell? ⟨X,0,none⟩=some (.slice (some ⟨G,0,none⟩) keys.length cap):=(ag2 hX1).trans hXW;clear hmm;rw[hW1];clear hW1
 gi_wp2
 gi_loopw [13] (λi wr=>∃k:Nat,k<=keys.length/\i=.int .i64 k/\J (dJ keys k).length wr/\sJ wr 87 W.heap.size bD (keys.take k)/\wr.heap[X]?=W.heap[X]?/\wr.heap[G]?=W.heap[G]?) (λi _=>keys.length-(intOf i).toNat)
 case atStart=>exact⟨0,ah9 _,rfl,hJ1,hF1,hX1,hG1⟩
 case round=>
  obtain⟨k,hk,rfl,hJk,hFk,hXk,hGk⟩:=hrel;by_cases hlt:k<keys.length
  ·have hbd:(k:Int)<(keys.length:Int):=(by omega);have hGr:=(hGW.same hGk).2 k hlt;have htk:keys.take (k+1)=keys.take k++[keys[k]]:=(by rw[ai4,af2 hlt];rfl);obtain⟨lt,hlt'⟩:=hv keys[k] (af4 hlt);have hpr:=uK hlt;have hat:=RY (keys:=keys) hlt;have hlF:=hFk.lt;have hwk:=hFk.walk;obtain⟨D,nn,h0n,hown,hall⟩:=id hFk;have hka:=hall _ _ hlt';have jH:=hown.tidy rY;have hnn:nn<=500:=(by rw[al0]at h0n;omega);have jo:=aj hall;have HF:=aj hFk;have HN:=aj h0n;clear hall hFk h0n;cases hc:(keys.take k).contains keys[k]
   ·rw[hc]at hka hpr;have hhas:Maps.has D lt=false:=hka.1;have jr:=aj htk;have HPR:=aj hpr;have HC:=aj hc;have HK:=aj hlt';have hkey:=hlt';clear hka htk hpr hc hat hlt';generalize keys[k]=key at hGr hkey jr HPR HC HK;obtain⟨tl,tf,tsd⟩:=key;simp only at hGr;simp only[bD]at hkey;obtain⟨g0,g1,g2⟩:=hGr
    gi_wp2_with (first
     |(gi_at_lookup;refine wpListIn_lookup_own_ok_int _ rfl _ _ 75 rfl 87 3 .i64 rY underlying75 underlying3 (zeroE _) W.heap.size nn D rfl (hown.alloc _) _ lt rfl hkey ?_;intro c0 hat hwc)
     |(gi_at_mapUpdate;refine wpListIn_mapUpdate_own _ rfl _ _ _ 75 rfl 87 3 rY underlying75 _ W.heap.size nn D rfl (hown.alloc _) (by unfold maxLen;omega) _ _ lt rfl rfl hkey _ [] (plainElem_int underlying3 (WalkArith.wf_i64 (by omega))) ?_;intro w5 hown5 tC))
    have hlen:(keys.take k).length=k:=(by rw[al0];omega);have hp2:=ah HPR;rw[af6 (by decide)]at hp2;obtain⟨o,ho,hw⟩:=hwk;have hga:wr.grownBy (wr.alloc (.cells #[.int .u8 tl,.int .i64 tf,.int .i64 tsd] 87)) none:=ae9 _ _ none;have ED:X<wr.heap.size:=(by have h1:=hlX;rw[al2 h1]at hXk;exact(ae8.1 hXk).1);have EF:G<wr.heap.size:=(by have h1:=hlG;rw[al2 h1]at hGk;exact(ae8.1 hGk).1);refine⟨⟨k+1,by omega,by go_num,?_,?_,?_,?_⟩,by simp[intOf];omega⟩
    ·rw[hp2];exact hJ _ _ w5 (some W.heap.size) (hJ _ wr _ none hJk hga (λr e=>by cases e)) tC (λr e=>by cases e;exact⟨af0 _,o,(hga.block _ hlF (by simp)).trans ho,hw⟩)
    ·rw[ah jr];exact Io (λ_ _=>rG) rY (ah HN) (ah jo) jH (ah HK) (ah HC) (by rw[hlen];exact hown5)
    ·exact((tC.block X (ah4 ED hga.size) (by simp;omega)).trans (hga.block X ED (by simp))).trans hXk
    ·exact((tC.block G (ah4 EF hga.size) (by simp;omega)).trans (hga.block G EF (by simp))).trans hGk
   ·rw[hc]at hka hpr;have hhas:Maps.has D lt=true:=hka.1;obtain⟨hj,hje⟩:=hat hc;have HAT:=aj (hka.2 rfl);have jr:=aj htk;have HPR:=aj hpr;have HC:=aj hc;have hkey:=hlt';have hyk:=hY (dJ keys k).length (by simpa using hj);rw[show((dJ keys keys.length).map λp:Nat×Nat=>#[Value.int .i64 p.1,Value.int .i64 p.2])[(dJ keys k).length]'(by simpa using hj)=#[Value.int .i64 ((keys.take k).idxOf keys[k]:Nat),Value.int .i64 k] by simp[hje]]at hyk;have hfi:(keys.take k).idxOf keys[k]<=500:=(by have:=ap2 (l:=keys.take k) (a:=keys[k]);rw[al0]at this;omega);clear hka htk hpr hc hat hlt' hje;generalize (keys.take k).idxOf keys[k]=fi at HAT hyk HPR hfi;generalize keys[k]=key at hGr hkey jr HPR HC;obtain⟨tl,tf,tsd⟩:=key;simp only at hGr;simp only[bD]at hkey;obtain⟨g0,g1,g2⟩:=hGr;have hga:wr.grownBy (wr.alloc (.cells #[.int .u8 tl,.int .i64 tf,.int .i64 tsd] 87)) none:=ae9 _ _ none;obtain⟨fn,tmps,assign,body,hy,hR⟩:=hyk (wr.alloc (.cells #[.int .u8 tl,.int .i64 tf,.int .i64 tsd] 87)) (hJ _ wr _ none hJk hga (λr e=>by cases e));clear hyk;have ED:X<wr.heap.size:=(by have h1:=hlX;rw[al2 h1]at hXk;exact(ae8.1 hXk).1);have EF:G<wr.heap.size:=by have h1:=hlG;rw[al2 h1]at hGk;exact(ae8.1 hGk).1
    gi_wp2_with (gi_at_lookup;refine wpListIn_lookup_own_ok_int _ rfl _ _ 75 rfl 87 3 .i64 rY underlying75 underlying3 (zeroE _) W.heap.size nn D rfl (hown.alloc _) _ lt rfl hkey ?_;intro c0 hat hwc;have hc0:c0=(fi:Int):=by {have h:=hat.symm.trans (ah HAT);simpa using h};subst hc0;clear hat hwc)
    refine⟨λ_=>by omega,hR.mono ?_⟩;rintro e W3 (⟨rfl,hJ3,hk3⟩|⟨rfl,hx3⟩)
    ·have hX3:W3.heap[X]?=W.heap[X]?:=hk3.2.1.trans ((hga.block X ED (by simp)).trans hXk);have hG3:W3.heap[G]?=W.heap[G]?:=hk3.2.2.trans ((hga.block G EF (by simp)).trans hGk);obtain⟨o,ho,hw⟩:=hwk;have hB3:W3.heap[W.heap.size]?=wr.heap[W.heap.size]?:=(hk3.1 _ o (by omega) ((hga.block _ hlF (by simp)).trans ho) (Or.inr hw)).trans ho.symm;clear hk3 hR hy
     gi_wp2
     go_roundw
     case rel=>
      refine⟨k+1,by omega,by go_num,?_,?_,hX3,hG3⟩
      ·have hp2:dJ keys (k+1)=dJ keys k++[(fi,k)]:=ah HPR;rw[hp2,ah1];exact hJ3
      ·rw[ah jr];exact((ah HF).kept hB3).again (ah HC)
     case measure=>simp[intOf];omega
    ·clear hR hy
     gi_wp2
     (try simp only[Exit.inBlock,Exit.then])
     exact ah7 (results_none rfl _ _ _) rfl ⟨⟨_,rfl⟩,Or.inr hx3⟩
  ·have hkk:k=keys.length:=(by omega);have HKK:=aj hkk;clear hkk;have hbd:¬(k:Int)<(keys.length:Int):=by omega
   gi_wp2
   go_end0
   refine⟨⟨_,rfl⟩,Or.inl ?_⟩;rw[<-ah HKK];exact hJk
theorem BK(v:Option Addr)(n c:Nat)(w:World):Calls prog 128 #[.slice v n c] w λe w'=>
  e=.returned (.func (.func 171) #[] #[.pointer (some ⟨w.heap.size,0,none⟩)])/\w'=w.alloc (.cells #[.slice v n c] 51):=by
 go_enter func128,ntmps128
 go_wp2_with fail
 go_ret
 exact⟨rfl,rfl⟩
theorem LD(n:Nat)(hn:2<=n)(X G cap m0:Nat)(keys:List (Int×Nat))(w:World)(hm0:m0<=w.heap.size)(hl:keys.length<=500)
 (hX:w.cell? ⟨X,0,none⟩=some (.slice (some ⟨G,0,none⟩) keys.length cap))(hG:iF w G keys)(hv:∀x∈keys,∃l,keyOf prog 90 (jG x)=some l) :
  rX Fence.wide n prog 171 #[.pointer (some ⟨X,0,none⟩)] ((dJ keys keys.length).map λp=>#[.int .i64 p.1,.int .i64 p.2]) (KA m0 X G) w:=by
 intro l J Jx W hW hJ hJx hY h0;have hXW:W.cell? ⟨X,0,none⟩=some (.slice (some ⟨G,0,none⟩) keys.length cap):=(hW.cell (p:=⟨X,0,none⟩) (af5 w _ hX)).trans hX;have hlX:X<W.heap.size:=af5 W _ hXW;have hlG:G<W.heap.size:=ah4 hG.1 hW.size;have hGW:iF W G keys:=hG.below hW hG.1;have hmm:=λz=>jI (P:=prog) underlying77 .i64 z W;have hsW:=hW.size;refine al8 func171 rfl trivial ?_ rfl;simp only[ntmps171,ag3,ag0,ah0,Nat.reduceAdd,Nat.reduceSub,af8,af7,ag5,ai1,ag9,ag7]
 gi_wp2
 obtain⟨W1,hW1⟩:∃W1,W.alloc (.map #[] 0)=W1:=⟨_,rfl⟩;have hg1:W.grownBy W1 none:=by rw[<-hW1];exact ae9 _ _ none
 have hF1:sJ W1 90 W.heap.size jG ([]:List (Int×Nat)):=by rw[<-hW1];exact DN W _ _
 have hs1:W.heap.size<W1.heap.size:=by rw[<-hW1];simp
 have hX1:W1.heap[X]?=W.heap[X]?:=hg1.block X hlX (by simp);have hG1:W1.heap[G]?=W.heap[G]?:=hg1.block G hlG (by simp);have hJ1:J 0 W1:=hJ 0 W W1 none h0 hg1 (λr e=>by cases e);have adk:W1.cell? ⟨X,0,none⟩=some (.slice (some ⟨G,0,none⟩) keys.length cap):=(ag2 hX1).trans hXW;clear hmm;rw[hW1];clear hW1
 gi_wp2
 gi_loopw [13] (λi wr=>∃k:Nat,k<=keys.length/\i=.int .i64 k/\J (dJ keys k).length wr/\sJ wr 90 W.heap.size jG (keys.take k)/\wr.heap[X]?=W.heap[X]?/\wr.heap[G]?=W.heap[G]?) (λi _=>keys.length-(intOf i).toNat)
 case atStart=>exact⟨0,ah9 _,rfl,hJ1,hF1,hX1,hG1⟩
 case round=>
  obtain⟨k,hk,rfl,hJk,hFk,hXk,hGk⟩:=hrel;by_cases hlt:k<keys.length
  ·have hbd:(k:Int)<(keys.length:Int):=(by omega);have hGr:=(hGW.same hGk).2 k hlt;have htk:keys.take (k+1)=keys.take k++[keys[k]]:=(by rw[ai4,af2 hlt];rfl);obtain⟨lt,hlt'⟩:=hv keys[k] (af4 hlt);have hpr:=uK hlt;have hat:=RY (keys:=keys) hlt;have hlF:=hFk.lt;have hwk:=hFk.walk;obtain⟨D,nn,h0n,hown,hall⟩:=id hFk;have hka:=hall _ _ hlt';have jH:=hown.tidy rZ;have hnn:nn<=500:=(by rw[al0]at h0n;omega);have jo:=aj hall;have HF:=aj hFk;have HN:=aj h0n;clear hall hFk h0n;cases hc:(keys.take k).contains keys[k]
   ·rw[hc]at hka hpr;have hhas:Maps.has D lt=false:=hka.1;have jr:=aj htk;have HPR:=aj hpr;have HC:=aj hc;have HK:=aj hlt';have hkey:=hlt';clear hka htk hpr hc hat hlt';generalize keys[k]=key at hGr hkey jr HPR HC HK;obtain⟨tl,tf⟩:=key;simp only at hGr;simp only[jG]at hkey;obtain⟨g0,g1⟩:=hGr
    gi_wp2_with (first
     |(gi_at_lookup;refine wpListIn_lookup_own_ok_int _ rfl _ _ 77 rfl 90 3 .i64 rZ underlying77 underlying3 (zeroE _) W.heap.size nn D rfl (hown.alloc _) _ lt rfl hkey ?_;intro c0 hat hwc)
     |(gi_at_mapUpdate;refine wpListIn_mapUpdate_own _ rfl _ _ _ 77 rfl 90 3 rZ underlying77 _ W.heap.size nn D rfl (hown.alloc _) (by unfold maxLen;omega) _ _ lt rfl rfl hkey _ [] (plainElem_int underlying3 (WalkArith.wf_i64 (by omega))) ?_;intro w5 hown5 tC))
    have hlen:(keys.take k).length=k:=(by rw[al0];omega);have hp2:=ah HPR;rw[af6 (by decide)]at hp2;obtain⟨o,ho,hw⟩:=hwk;have hga:wr.grownBy (wr.alloc (.cells #[.int .u8 tl,.int .i64 tf] 90)) none:=ae9 _ _ none;have ED:X<wr.heap.size:=(by have h1:=hlX;rw[al2 h1]at hXk;exact(ae8.1 hXk).1);have EF:G<wr.heap.size:=(by have h1:=hlG;rw[al2 h1]at hGk;exact(ae8.1 hGk).1);refine⟨⟨k+1,by omega,by go_num,?_,?_,?_,?_⟩,by simp[intOf];omega⟩
    ·rw[hp2];exact hJ _ _ w5 (some W.heap.size) (hJ _ wr _ none hJk hga (λr e=>by cases e)) tC (λr e=>by cases e;exact⟨af0 _,o,(hga.block _ hlF (by simp)).trans ho,hw⟩)
    ·rw[ah jr];exact Io (λ_ _=>Eo) rZ (ah HN) (ah jo) jH (ah HK) (ah HC) (by rw[hlen];exact hown5)
    ·exact((tC.block X (ah4 ED hga.size) (by simp;omega)).trans (hga.block X ED (by simp))).trans hXk
    ·exact((tC.block G (ah4 EF hga.size) (by simp;omega)).trans (hga.block G EF (by simp))).trans hGk
   ·rw[hc]at hka hpr;have hhas:Maps.has D lt=true:=hka.1;obtain⟨hj,hje⟩:=hat hc;have HAT:=aj (hka.2 rfl);have jr:=aj htk;have HPR:=aj hpr;have HC:=aj hc;have hkey:=hlt';have hyk:=hY (dJ keys k).length (by simpa using hj);rw[show((dJ keys keys.length).map λp:Nat×Nat=>#[Value.int .i64 p.1,Value.int .i64 p.2])[(dJ keys k).length]'(by simpa using hj)=#[Value.int .i64 ((keys.take k).idxOf keys[k]:Nat),Value.int .i64 k] by simp[hje]]at hyk;have hfi:(keys.take k).idxOf keys[k]<=500:=(by have:=ap2 (l:=keys.take k) (a:=keys[k]);rw[al0]at this;omega);clear hka htk hpr hc hat hlt' hje;generalize (keys.take k).idxOf keys[k]=fi at HAT hyk HPR hfi;generalize keys[k]=key at hGr hkey jr HPR HC;obtain⟨tl,tf⟩:=key;simp only at hGr;simp only[jG]at hkey;obtain⟨g0,g1⟩:=hGr;have hga:wr.grownBy (wr.alloc (.cells #[.int .u8 tl,.int .i64 tf] 90)) none:=ae9 _ _ none;obtain⟨fn,tmps,assign,body,hy,hR⟩:=hyk (wr.alloc (.cells #[.int .u8 tl,.int .i64 tf] 90)) (hJ _ wr _ none hJk hga (λr e=>by cases e));clear hyk;have ED:X<wr.heap.size:=(by have h1:=hlX;rw[al2 h1]at hXk;exact(ae8.1 hXk).1);have EF:G<wr.heap.size:=by have h1:=hlG;rw[al2 h1]at hGk;exact(ae8.1 hGk).1
    gi_wp2_with (gi_at_lookup;refine wpListIn_lookup_own_ok_int _ rfl _ _ 77 rfl 90 3 .i64 rZ underlying77 underlying3 (zeroE _) W.heap.size nn D rfl (hown.alloc _) _ lt rfl hkey ?_;intro c0 hat hwc;have hc0:c0=(fi:Int):=by {have h:=hat.symm.trans (ah HAT);simpa using h};subst hc0;clear hat hwc)
    refine⟨λ_=>by omega,hR.mono ?_⟩;rintro e W3 (⟨rfl,hJ3,hk3⟩|⟨rfl,hx3⟩)
    ·have hX3:W3.heap[X]?=W.heap[X]?:=hk3.2.1.trans ((hga.block X ED (by simp)).trans hXk);have hG3:W3.heap[G]?=W.heap[G]?:=hk3.2.2.trans ((hga.block G EF (by simp)).trans hGk);obtain⟨o,ho,hw⟩:=hwk;have hB3:W3.heap[W.heap.size]?=wr.heap[W.heap.size]?:=(hk3.1 _ o (by omega) ((hga.block _ hlF (by simp)).trans ho) (Or.inr hw)).trans ho.symm;clear hk3 hR hy
     gi_wp2
     go_roundw
     case rel=>
      refine⟨k+1,by omega,by go_num,?_,?_,hX3,hG3⟩
      ·have hp2:dJ keys (k+1)=dJ keys k++[(fi,k)]:=ah HPR;rw[hp2,ah1];exact hJ3
      ·rw[ah jr];exact((ah HF).kept hB3).again (ah HC)
     case measure=>simp[intOf];omega
    ·clear hR hy
     gi_wp2
     (try simp only[Exit.inBlock,Exit.then])
     exact ah7 (results_none rfl _ _ _) rfl ⟨⟨_,rfl⟩,Or.inr hx3⟩
  ·have hkk:k=keys.length:=(by omega);have HKK:=aj hkk;clear hkk;have hbd:¬(k:Int)<(keys.length:Int):=by omega
   gi_wp2
   go_end0
   refine⟨⟨_,rfl⟩,Or.inl ?_⟩;rw[<-ah HKK];exact hJk
end
section
open Go.RowKit Go.Maps Go.WideMaps
section
variable {α:Type} [BEq α]
def fi(keys:List α)(i:Nat):Nat:=match keys[i]? with|some x=>keys.idxOf x|none=>i
theorem sO{keys:List α}{i:Nat}(hi:i<keys.length):fi keys i=keys.idxOf keys[i]:=by unfold fi;rw[af2 hi]
theorem vJ[LawfulBEq α]{keys:List α}{k:Nat}{x:α}(h:x∈keys.take k):(keys.take k).idxOf x=keys.idxOf x:=by
 have e:=ar2 k keys;have h2:(keys.take k++keys.drop k).idxOf x=(keys.take k).idxOf x:=by rw[an1];simp[h]
 rw[e]at h2;exact h2.symm
theorem Yp[LawfulBEq α](keys:List α)(i:Nat)(hi:i<keys.length):fi keys i<=i:=by
 rw[sO hi];rcases Nat.lt_or_ge i (keys.idxOf keys[i])with h|h
 ·have h1:keys[i]∈keys.take (i+1):=by
   rw[List.mem_take_iff_getElem];exact⟨i,by omega,rfl⟩
  have h2:=vJ h1;have h3:=ai5 h1;rw[al0]at h3;omega
 ·exact h
theorem ab7[LawfulBEq α](keys:List α)(i:Nat)(hi:i<keys.length):fi keys (fi keys i)=fi keys i:=by
 have h:=Yp keys i hi;rw[sO (i:=fi keys i) (by omega)];have h2:keys.idxOf keys[i]<keys.length:=ai5 (af4 hi);have e:keys[fi keys i]'(by omega)=keys[i]:=by
  have h3:=aj6 h2;simp only[sO hi];exact h3
 rw[e,sO hi]
theorem xX[LawfulBEq α]{keys:List α}{i j:Nat}(hi:i<keys.length)(hj:j<keys.length):fi keys i=fi keys j↔keys[i]=keys[j]:=by
 rw[sO hi,sO hj];constructor
 ·intro h;have h1:=aj6 (ai5 (af4 hi));have h2:=aj6 (ai5 (af4 hj));rw[<-h1,<-h2];simp only[h]
 ·intro h;rw[h]
theorem Yo[LawfulBEq α]{keys:List α}{k:Nat}(hk:k<keys.length):(keys.take k).contains keys[k]=true↔fi keys k<k:=by
 rw[sO hk];constructor
 ·intro h;have hm:keys[k]∈keys.take k:=by simpa using h
  have h3:=ai5 hm;rw[vJ hm,al0]at h3;omega
 ·intro h;have h2:keys.idxOf keys[k]<keys.length:=by omega
  have h1:=aj6 h2;have hm:keys[k]∈keys.take k:=by
   rw[List.mem_take_iff_getElem];exact⟨keys.idxOf keys[k],by omega,h1⟩
  simpa using hm
theorem ru[LawfulBEq α](keys:List α):∀k,k<=keys.length->∀p,p∈dJ keys k↔(p.2<k/\p.1=fi keys p.2/\p.1<p.2):=by
 intro k
 induction k with
 |zero=>intro _ p;simp[dJ]
 |succ k ih=>
  intro hk p;have hlt:k<keys.length:=by omega
  rw[uK hlt];by_cases hc:(keys.take k).contains keys[k]=true
  ·rw[af9 hc,ai3,ih (by omega)];have hm:keys[k]∈keys.take k:=(by simpa using hc);have hf:=(Yo hlt).1 hc;constructor
   ·rintro(⟨h1,h2,h3⟩|h)
    ·exact⟨by omega,h2,h3⟩
    ·simp only[ah6]at h;subst h;simp only;rw[vJ hm,<-sO hlt];exact⟨by omega,rfl,hf⟩
   ·rintro⟨h1,h2,h3⟩;by_cases e:p.2=k
    ·right;obtain⟨p1,p2⟩:=p;simp only at e h2;subst e;simp only[ah6,as4];rw[vJ hm,<-sO hlt];refine⟨h2,?_⟩
     first|rfl|trivial
    ·left;exact⟨by omega,h2,h3⟩
  ·rw[af6 hc,ih (by omega)];constructor
   ·rintro⟨h1,h2,h3⟩;exact⟨by omega,h2,h3⟩
   ·rintro⟨h1,h2,h3⟩;by_cases e:p.2=k
    ·exfalso;rw[e]at h2;exact hc ((Yo hlt).2 (by omega))
    ·exact⟨by omega,h2,h3⟩
theorem uM[LawfulBEq α](keys:List α)(g:Nat->Nat->Prop)(hr:∀i,g i i)(hs:∀i j,g i j->g j i)(ht:∀i j k,g i j->g j k->g i k) :
  (∀p∈dJ keys keys.length,g p.1 p.2)↔∀i j,i<keys.length->j<keys.length->keys[i]?=keys[j]?->g i j:=by
 constructor
 ·intro h;have h1:∀i,i<keys.length->g (fi keys i) i:=λi hi=>by
   rcases Nat.lt_or_ge (fi keys i) i with hlt|hge
   ·exact h (fi keys i,i) ((ru keys _ (af0 _) _).2 ⟨hi,rfl,hlt⟩)
   ·have:fi keys i=i:=(by have:=Yp keys i hi;omega);rw[this];exact hr i
  intro i j hi hj e;rw[af2 hi,af2 hj]at e;have e2:=(xX hi hj).2 (am2 e);have a:=h1 i hi;have b:=h1 j hj;rw[<-e2]at b;exact ht _ _ _ (hs _ _ a) b
 ·intro h p hp;obtain⟨h1,h2,h3⟩:=(ru keys _ (af0 _) p).1 hp;refine h _ _ (by omega) h1 ?_;have h4:=sO h1;have h5:keys.idxOf keys[p.2]<keys.length:=ai5 (af4 h1);rw[h2,h4,af2 h5,af2 h1,aj6 h5]
def fk(keys:List α)(k:Nat)(i:Nat):Nat:=if ∃p∈(dJ keys keys.length).take k,p.2=i then fi keys i else i
end
end
section
open Go.RowKit Go.Maps Go.WideMaps
open au (Key put)
theorem zL(BT:Nat)(ts:List Nat)(x:Nat)(w:World)(h2:x<=1000)(hl:ts.length<=1000)(hM:aP w 3 BT kL ts) :
  Calls prog 139 #[.map (some BT),.int .i64 x] w λe w'=>
   e=.returned (.int .i64 (ts.idxOf x))/\aP w' 3 BT kL (put ts x)/\w.grownBy w' (some BT):=by
 obtain⟨l,hkey⟩:=(⟨_,sZ h2⟩:∃l,keyOf prog 3 (kL x)=some l);obtain⟨D,hown,hsz,hall,hback⟩:=hM;have hk0:=hall _ _ hkey;have jH:=hown.tidy iH;have hkey':keyOf prog 3 (.int .i64 x)=some l:=hkey;have jo:=aj hall;have kJ:=aj hback;have qV:=aj hsz;have HK:=aj hkey;clear hall hsz hkey hback;cases hc:ts.contains x
 ·rw[hc]at hk0;have hhas:Maps.has D l=false:=hk0.1;clear hk0;have HC:=aj hc;clear hc
  go_enter func139,ntmps139
  go_wp2_with (first
   |(at_lookup;refine ap3 _ rfl _ _ 218 rfl 3 3 .i64 iH underlying218 underlying3 (zeroE _) BT ts.length D rfl hown _ l rfl hkey' ?_;intro c0 hat hwc)
   |(at_len;refine wpList_len_own _ rfl _ 218 rfl 3 3 underlying218 _ BT ts.length D rfl hown ?_)
   |(at_mapUpdate;refine wpList_mapUpdate_own _ rfl _ _ _ 218 rfl 3 3 iH underlying218 _ BT ts.length D rfl hown (by unfold maxLen;omega) _ _ l rfl rfl hkey' _ [] (plainElem_int underlying3 (WalkArith.wf_i64 (by have:=ah qV;omega))) ?_;intro w1 hown1 hgrow1))
  go_ret
  have hsz:=ah qV;have hc:=ah HC;have hn:¬x∈ts:=by simpa using hc
  refine⟨gJ ?_,?_,hgrow1⟩
  ·rw[hsz,ak0 hn]
  ·have hp:put ts x=ts++[x]:=(by unfold put;rw[hc];rfl);rw[hp];rw[hsz]at hown1;exact rE (λ_ _=>MX) iH hsz (ah jo) (ah kJ) jH (ah HK) hc hown1
 ·rw[hc]at hk0;have hhas:Maps.has D l=true:=hk0.1;have HAT:=aj (hk0.2 rfl);clear hk0;have HC:=aj hc;clear hc
  go_enter func139,ntmps139
  go_wp2_with (first
   |(at_lookup;refine ap3 _ rfl _ _ 218 rfl 3 3 .i64 iH underlying218 underlying3 (zeroE _) BT ts.length D rfl hown _ l rfl hkey' ?_;intro c0 hat hwc))
  go_ret
  have hc:=ah HC;refine⟨gJ ?_,?_,aj7 _ _⟩
  ·have h:=hat.symm.trans (ah HAT);simpa using h
  ·have hp:put ts x=ts:=(by unfold put;rw[hc];rfl);rw[hp];exact⟨D,hown,ah qV,ah jo,ah kJ⟩
end
theorem mV{F:Fence}{n:Nat}{P:Program}{c:Code}{Q:Exit->Act->World->Prop}{a:Act}{w:World}(h:c.wpIn F n P (λe a w=>e=.normal/\Q .normal a w) a w):c.wpIn F n P Q a w:=
 wpIn_mono h (λe a w h=>by obtain⟨rfl,h⟩:=h;exact h)
theorem Gv{P:Program}{ops:Array Oper}{Q:Exit->Act->World->Prop}{n id:Nat}{a:Act}{w:World}(S:World->Prop)(fuel:Nat)(listed:Array Bool)(hm:P.follows .mixedOrders=true)(hf:ops.size=fuel)(hl:Array.replicate ops.size false=listed)
 (h:wpAnyH P .any ops Q S fuel listed a w.drew):(Code.region id ops true).wpIn Fence.wide n P Q a w:=by
 subst hf;subst hl;exact wpIn_wide.2 (aj0 hm h)
theorem Cm{P:Program}{ops:Array Oper}{Q:Exit->Act->World->Prop}{r n id:Nat}{a:Act}{w:World}(S:World->Prop)(fuel:Nat)(listed:Array Bool)(hm:P.follows .mixedOrders=true)(hf:ops.size=fuel)(hl:Array.replicate ops.size false=listed)
 (hd:(ops.all λo=>match o.op with|.defer _=>false|_=>true)=true)(hQ:¬LetsOut Q)(h:wpAnyH P .any ops Q S fuel listed a w.drew):(Code.region id ops true).wpIn (Fence.wide.inRound r) n P Q a w:=
 wpIn_region_draw λt=>by
  simp only[Region.schedule,hm,Bool.true_or,am9];subst hf;subst hl;refine Dw (λi o ho c hc=>?_) hQ _ _ _ (wpAny_sound ops.size t _ a _ (wpAny_of_held _ _ _ _ h));obtain⟨hlt,he⟩:=ae8.1 ho;have:=(Array.all_eq_true.1 hd) i hlt;rw[he,hc]at this;cases this
end Go.Proofs.YthcppbmkacbbiaaGreat
