import Derived.Test.YthcppbmkacbbiabGreatWBV
import Derived.SizedLaws
import Derived.Laws.BytesArg
set_option linter.unusedSimpArgs false
set_option maxHeartbeats 4000000
set_option maxRecDepth 100000
namespace Go.Proofs.YthcppbmkacbbiabGreat
open Go.Proofs.Tryz
section
open Go.RowKit
open aB (Key put aQ)
def Uk(s:ByteArray):Int:=if (zW s).2≠0 then -1 else(zW s).1
theorem Fe(w:World)(s:ByteArray)(hm:s.size<=maxLen):Calls prog 11 #[.string s] w λe w'=>e=.returned (.int .i64 (Uk s))/\Below w.heap.size w w':=by
 have H:=aj (P5 w s hm);unfold Uk;generalize zW s=c at H ⊢;obtain⟨x,E⟩:=c;simp only at H ⊢;by_cases hE:E≠0
 ·have hb:(E != 0)=true:=by simpa using hE
  rw[af6 hE];clear hE
  go_enter func11,ntmps11
  go_wp2_with fail
  refine(ah H).mono ?_;rintro e w1 ⟨rfl,b1⟩
  go_wp2_with fail
  go_ret
  exact⟨rfl,b1⟩
 ·have hb:(E != 0)=false:=by simpa using hE
  rw[af2 hE];clear hE
  go_enter func11,ntmps11
  go_wp2_with fail
  refine(ah H).mono ?_;rintro e w1 ⟨rfl,b1⟩
  go_wp2_with fail
  go_ret
  exact⟨rfl,b1⟩
def TK(b:Nat)(s:ByteArray)(k:Nat):ByteArray:=⟨((s.data.toList.take k).map (rb b)).toArray⟩
theorem OL(b:Nat)(s:ByteArray){k:Nat}(h:k<=s.size):(TK b s k).size=k:=by
 have h2:s.data.toList.length=s.size:=by simp
 show((s.data.toList.take k).map (rb b)).toArray.size=k
 simp only[ae2,ai8,ah6];omega
theorem TJ(b:Nat)(s:ByteArray):TK b s s.size=D9 b s:=by
 have h2:s.data.toList.length=s.size:=by simp
 unfold TK D9;rw[<-h2,ai7]
theorem OM(b:Nat)(s:ByteArray){k:Nat}(h:k<s.size):TK b s (k+1)=TK b s k++⟨#[rb b s[k]]⟩:=by
 have h2:k<s.data.toList.length:=by simpa using h
 have e:s.data.toList.take (k+1)=s.data.toList.take k++[s[k]]:=by
  rw[List.take_succ_eq_append_getElem h2];simp[am0]
 unfold TK;rw[e]
 show _=ByteArray.mk _++ByteArray.mk _
 rw[ByteArray.ext_iff,ByteArray.data_append];simp
def DR(s s':ByteArray)(e:Ending):Prop:=
 (e=.returned (.tuple #[.bool false,.string ⟨#[]⟩,.int .i64 (zW s).2])/\(zW s).1=0)\/
 ∃m:ByteArray,e=.returned (.tuple #[.bool true,.string m,.int .i64 0])/\(zW s).2=0/\0<(zW s).1/\∀W,Calls prog 14 #[.string s',.string m] W λe w'=>e=.returned (.tuple #[.bool true,.int .i64 0])/\Below W.heap.size W w'
theorem Rh(w:World)(s t:ByteArray)(b:Nat)(hm:s.size<=maxLen)(ht:dw t=false) :
  Calls prog 12 #[.string s,.int .i64 1,.string t] w λe w'=>DR s (D9 b s) e/\Below w.heap.size w w':=by
 by_cases h:s.size<=100/\(chk s).1=0
 ·obtain⟨ts,cs,ps,h1,h2,h3,h4,h5,h6,h7,h8,h9,h10,h11,h12⟩:=jr s h.1 h.2;have hF:=FF.of h.1 h1 h2 h3 h4 h5 h10 h11 h12;have hcm:=zI h3 h10 hF.ht hF.hcs;have hk:=Ib h h1;have g:(D9 b s).size<=100/\(chk (D9 b s)).1=0:=by rw[kC,JK];exact h
  obtain⟨ts',cs',ps',g1,g2,g3,g4,g5,g6,g7,g8,g9,g10,g11,g12⟩:=jr (D9 b s) g.1 g.2;have gF:=FF.of g.1 g1 g2 g3 g4 g5 g10 g11 g12;have e:=TF b s h1;rw[g1]at e;injection e with e
  simp only[ar2]at e;obtain⟨_,e1,e2,e3,_⟩:=e;subst e1 e2 e3;refine zU w s t 1 h.1 ts cs' ps' _ h1 hF h5 h9 (DR s (D9 b s)) (λq=>absurd (Or.inr rfl) q) (λ_ q=>absurd (ht.symm.trans q) (by decide)) (λ_ _ q=>Or.inl ⟨by rw[hk],?_⟩) (λ_ _ f hl q1 q2=>Or.inr ⟨_,rfl,by rw[hk],?_,λW=>?_⟩)
  ·have q0:qR ts cs' ps'=0:=ah3 λz=>q (hcm.1 z);rw[hk,q0];rfl
  ·have q0:=hcm.2 ⟨f,hl,q1,q2⟩;rw[hk]
   show(0:Int)<((qR ts cs' ps':Nat):Int)
   omega
  ·have q3:xP f (ts.map (tk b)) cs' ps' hl:=Wn q2;have z:=FH W (D9 b s) ⟨(wrt f (ts.map (tk b)).length hl).toArray⟩ (XE ⟨(wrt f (ts.map (tk b)).length hl).toArray⟩ (ts.map (tk b)).length) g.1 _ cs' ps' _ g1 g2 g3 g4 g5 g9 g10 g11 g12 (λx hx=>g5 x hx) (λhe=>I9 _ (ts.map (tk b)).length cs'.length he);rw[Jz g2 g10 gF.ht gF.hcs q1 q3]at z;rw[ai8]at z;exact z
 ·have hE:=zF h;refine(zV w s t 1 hm hE).mono ?_;rintro e w1 ⟨rfl,b1⟩;refine⟨Or.inl ⟨by rw[xG h],?_⟩,b1⟩;rw[xG h]
end
open Go.ChangeShapes Go.WideShapes Go.ChangeAt Go.RowKit
open Go.ChangeMaps (open_string shut_string)
theorem qL{b:Nat}{w w1 w2:World}(h:Below b w w1)(g:Below w1.heap.size w1 w2)(hb:b<=w.heap.size):Below b w w2:=h.trans (g.mono (af7 hb h.size))
theorem S9{n:Int}(h:(Lit.int .i64 n).wf=true):Az n:=by
 simp[Lit.wf,IntKind.min,IntKind.max,IntKind.bits,IntKind.signed]at h;unfold Az;omega
theorem Yj(b:Nat)(c:UInt8)(h1:97<=c.toNat)(h2:c.toNat<=101):rb b c=UInt8.ofNat (97+(c.toNat-97+b)%5):=by
 unfold rb xW;rw[af6 (by omega)]
 congr 1
 omega
theorem OV(b:Nat)(c:UInt8)(h:¬(97<=c.toNat/\c.toNat<=101)):rb b c=c:=by
 unfold rb xW;rw[af2 (by omega)];simp
theorem zC(w:World)(n:Int):(convert 39 9 (.slice (some ⟨w.heap.size,0,none⟩) 1 1)).run prog (w.alloc (.cells #[.int .u8 n] 5))=.ok (.string ⟨#[UInt8.ofNat n.toNat]⟩) (w.alloc (.cells #[.int .u8 n] 5)):=by
 have h:=run_convert_bytes_arg (P:=prog) (w.alloc (.cells #[.int .u8 n] 5)) 39 5 underlying39 underlying5 w.heap.size 0 1 1 [n] rfl (λi hi=>by
  have:i=0:=by omega
  subst this;go_simp) 9 underlying9
 exact h
theorem EJ(w:World)(s:ByteArray)(b:Nat)(hb:b<5)(hs:s.size<=140737488355328) :
  Calls prog 10 #[.string s,.int .i64 b] w λe w'=>e=.returned (.string (D9 b s))/\Below w.heap.size w w':=by
 go_enter func10,ntmps10
 go_wp2_with fail
 go_loopw [5,6] (λtv iv wr=>∃k:Nat,k<=s.size/\tv=.string (TK b s k)/\iv=.int .i64 k/\Below w.heap.size w wr) (λ_ iv _=>s.size-(intOf iv).toNat)
 case atStart=>exact⟨0,ah2 _,rfl,rfl,ag6 _ _⟩
 case round=>
  obtain⟨k,hk,rfl,rfl,hbl⟩:=hrel;by_cases hlt:k<s.size
  ·have hbk:(k:Int)<(s.size:Int):=(by omega);have hz:=OL b s hk;have hn:=OM b s hlt;have HN:=aj hn;clear hn;have Uo:=s[k].toNat_lt;have hz2:(TK b s k).size<=140737488355328:=(by omega);generalize TK b s k=t at *;clear hz;by_cases h1:(97:Int)<=(s[k].toNat:Int)
   ·by_cases h2:(s[k].toNat:Int)<=101
    ·have hr:=Yj b s[k] (by omega) (by omega);rw[hr]at HN;clear hr
     go_wp2_with fail
     rw[zC]
     go_wp2_with fail
     refine⟨⟨k+1,by omega,?_,by go_num,hbl.alloc hbl.size _⟩,by simp[intOf];omega⟩;rw[ah HN]
    ·have hr:=OV b s[k] (by omega);rw[hr]at HN;clear hr
     go_wp2_with fail
     rw[zC]
     go_wp2_with fail
     refine⟨⟨k+1,by omega,?_,by go_num,hbl.alloc hbl.size _⟩,by simp[intOf];omega⟩;rw[ah HN]
   ·have hr:=OV b s[k] (by omega);rw[hr]at HN;clear hr
    go_wp2_with fail
    rw[zC]
    go_wp2_with fail
    refine⟨⟨k+1,by omega,?_,by go_num,hbl.alloc hbl.size _⟩,by simp[intOf];omega⟩;rw[ah HN]
  ·have hkk:k=s.size:=(by omega);subst hkk;have hbk:¬(s.size:Int)<(s.size:Int):=(by omega);rw[TJ]
   go_wp2_with fail
   go_ret
   exact⟨rfl,hbl⟩
theorem Cj(w:World)(f t:ByteArray)(n:Int)(hf:f.size<=140737488355328)(hn:Az n) :
  Calls prog 4 #[.string f,.int .i64 n,.string t] w λe w'=>e=.returned (.bool true)/\Below w.heap.size w w':=by
 have H0:=aj BM;have PB:=aj (λw=>yu w n 5 (by omega) (by omega) hn);have RN:=aj (λw b hb=>EJ w f b hb hf);have K1:=aj (λw=>Fe w f (by unfold maxLen;omega));have K2:Hid (∀w b,Calls prog 11 #[.string (D9 b f)] w λe w'=>e=.returned (.int .i64 (Uk f))/\Below w.heap.size w w'):=λw b=>by
  have h:=Fe w (D9 b f) (by rw[kC];unfold maxLen;omega);unfold Uk at h ⊢;rw[TG]at h;exact h
 have TP:=aj (λw=>Me w t);have DE:=aj (λw tp b ht=>Rh w f tp b (by unfold maxLen;omega) ht);have A1:Hid ((zW f).2=0->Uk f=(zW f).1):=λh=>by unfold Uk;rw[af2 (by simpa using h)]
 have A2:Hid ((zW f).2≠0->Uk f = -1):=λh=>by unfold Uk;rw[af6 h]
 unfold DR at DE;generalize Uk f=v at *;generalize zW f=c at *;obtain⟨x,E⟩:=c;simp only at DE A1 A2
 go_enter func4,ntmps4
 go_wp2_with fail
 refine(ah H0 _).mono ?_;rintro e w1 ⟨rfl,b1⟩
 go_wp2_with fail
 refine(ah PB _).mono ?_;rintro e w2 ⟨⟨b,hb5,rfl⟩,rfl⟩
 go_wp2_with fail
 refine(ah RN _ b hb5).mono ?_;rintro e w2 ⟨rfl,d⟩;have b2:=qL b1 d (ad5 _);clear d b1 hb5
 go_wp2_with fail
 refine(ah K1 _).mono ?_;rintro e w3 ⟨rfl,d⟩;have b3:=qL b2 d (ad5 _);clear d b2
 go_wp2_with fail
 refine(ah K2 _ b).mono ?_;rintro e w4 ⟨rfl,d⟩;have b4:=qL b3 d (ad5 _);clear d b3
 go_wp2_with fail
 refine(ah TP _).mono ?_;rintro e w5 ⟨⟨tp,rfl,htp⟩,rfl⟩
 go_wp2_with fail
 refine(ah DE _ tp b htp).mono ?_;clear DE TP K1 K2 RN PB H0;rintro e w6 ⟨⟨rfl,hx⟩|⟨m,rfl,hE,hx,HH⟩,d⟩
 ·have b6:=qL b4 d (ad5 _);clear d b4;subst hx;by_cases hE:E=0
  ·have hv:=ah A1 hE;subst hv;subst hE;clear A1 A2
   go_wp2_with fail
   go_ret
   exact⟨rfl,b6⟩
  ·have hv:=ah A2 hE;subst hv;have hEb:(E==0)=false:=(by simpa using hE);clear A1 A2
   go_wp2_with fail
   go_ret
   exact⟨rfl,b6⟩
 ·have b6:=qL b4 d (ad5 _);clear d b4;have hv:=ah A1 hE;subst hv;have HH2:=aj HH;have hx0:(0:Int)<=v:=by omega
  clear A1 A2 HH
  go_wp2_with fail
  refine(ah HH2 _).mono ?_;rintro e w7 ⟨rfl,d⟩;have b7:=qL b6 d (ad5 _);clear d b6
  go_wp2_with fail
  go_ret
  exact⟨rfl,b7⟩
theorem yt(os:Os)(started:os.Started)(H:Type)(enc:TypeId×Value->H) :
  ReturnsInHanded {} checked os 4 .any (Rows.renamedSpec.pre6 enc prog f4 Rows.renamedRow.domain false) (Rows.renamedSpec.post enc prog f4 false true false false):=by
 refine returnsInHanded_of_change_sized (C:=checked) Yl started (by kernel_rfl) func4
  (ChangeSpec.witness6 (enc:=enc) (C:=checked) false ⟨#[],#[.string ⟨#[]⟩,.int .i64 0,.string ⟨#[]⟩],[]⟩ 8 (by kernel_rfl) (by kernel_rfl) (by kernel_rfl) (by kernel_rfl)) ?_
 intro W base args ds gs before hval0 hW hcnd hz _;have hval:∀(j:Nat) t v,f4.params[j]?=some t->args[j]?=some v->Value.okWide prog W .any base t v:=hval0;have hW':=hW;obtain⟨p,q,hA0,hV,rfl,hfz,hnd⟩:=hW;have hA:DataW.TrodAll enc prog W 0 (λ_=>true) true f4.params.toList args.toList ds p:=hA0;rw[params4]at hA hval;obtain⟨v0,vs0,d0,ds0,p0,q0,hargs0,rfl,rfl,h0,r0⟩:=trodAll_cons hA;obtain⟨v1,vs1,d1,ds1,p1,q1,hargs1,rfl,rfl,h1,r1⟩:=trodAll_cons r0;obtain⟨v2,vs2,d2,ds2,p2,q2,Xh,rfl,rfl,h2,r2⟩:=trodAll_cons r1;obtain⟨rfl,rfl,rfl⟩:=trodAll_nil r2;obtain rfl:args=#[v0,v1,v2]:=by cases args;simp_all
 obtain⟨rfl,rfl⟩:=trodVars_none hV;have k0:=h0;have k1:=h1;have k2:=h2;have lt0:∀x∈p0,x.block<W.heap.size:=by obtain⟨m,hm⟩:=k0;exact ar7 m _ _ _ hm
 have lt1:∀x∈p1,x.block<W.heap.size:=by obtain⟨m,hm⟩:=k1;exact ar7 m _ _ _ hm
 have lt2:∀x∈p2,x.block<W.heap.size:=by obtain⟨m,hm⟩:=k2;exact ar7 m _ _ _ hm
 obtain⟨s0,rfl,rfl,rfl,hs0⟩:=open_string underlying9 (hval 0 9 v0 rfl rfl) h0;obtain⟨n1,rfl,rfl,rfl,e1⟩:=open_int underlying3 (hval 1 3 v1 rfl rfl) h1;obtain⟨s2,rfl,rfl,rfl,hs2⟩:=open_string underlying9 (hval 2 9 v2 rfl rfl) h2;have hrb:=reachBytes_lt;have z0:s0.size<=140737488355328:=by
  have h1:=sized_string (j:=0) (t:=9) hz (by show(f4.params.toList++_)[0]?=_;rw[params4];rfl) rfl;have h3:s0.data.toList.length=s0.size:=by simp
  omega
 clear hA0 hval0;refine(Cj W s0 s2 n1 z0 (S9 e1)).mono λe W' ⟨he,bel⟩=>?_;subst he;exact⟨_,rfl,_,_,_,[],_,[],hW',trodAll_mk1 (shut_bool underlying4 _),(trodAll_cons_mk (Below.trod kL (by kernel_rfl) (al2 (by kernel_rfl)) k0 bel lt0) (trodAll_cons_mk (Below.trod kL (by kernel_rfl) (al2 (by kernel_rfl)) k1 bel lt1) (trodAll_cons_mk (Below.trod kL (by kernel_rfl) (al2 (by kernel_rfl)) k2 bel lt2) trodAll_mk0))),rfl,bel.frame _,λh=>by cases h⟩
theorem renamed_holds:Rows.RenamedSaid:=
 OpenClaim.holds_of_wide 4 f4 rfl rfl rfl rfl rfl rfl rfl ⟨rfl,rfl,rfl,rfl,rfl⟩ rfl rfl rfl rfl rfl (by kernel_rfl) func4 (by kernel_rfl)
  (al2 (by kernel_rfl)) (by unfold Func.isWrapper;first|(rw[af6 (by decide +kernel)];kernel_rfl)|(rw[af2 (by decide +kernel)];exact⟨rfl,rfl⟩))
  (λos started H enc _=>yt os started H enc)
end Go.Proofs.YthcppbmkacbbiabGreat
