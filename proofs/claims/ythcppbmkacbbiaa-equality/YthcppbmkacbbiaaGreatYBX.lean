import Derived.Test.YthcppbmkacbbiaaGreatYBV
set_option linter.unusedSimpArgs false
set_option maxHeartbeats 16000000
set_option maxRecDepth 100000
namespace Go.Proofs.YthcppbmkacbbiaaGreat
open Go.Proofs.Tryz
open Go.ChangeShapes Go.WideShapes Go.ChangeAt Go.RowKit
open Ast
theorem lQ{b:Nat}{w w1 w2:World}(h:Below b w w1)(g:Below w1.heap.size w1 w2)(hb:b<=w.heap.size):Below b w w2:=h.trans (g.mono (ae4 hb h.size))
theorem JQ{s t:ByteArray}(n:s≠t):s.data.toList≠t.data.toList:=λe=>n (by
 cases s with|mk a=>cases t with|mk b=>
 have:a=b:=Array.toList_inj.1 e;rw[this])
theorem Fh(s t:ByteArray)(hs:rC s)(ht:rC t)(zs:s.size<=36)(zt:t.size<=36) :
  Xb (s++⟨#[61]⟩++t)/\
  Xb (⟨#[40,80,40]⟩++s++⟨#[41,38,33,81,40]⟩++s++⟨#[41,41]⟩)/\
  Xb (⟨#[33,102,40]⟩++s++⟨#[41,61,103,40]⟩++s++⟨#[44]⟩++s++⟨#[41]⟩)/\(s≠t->
  Xb (⟨#[33]⟩++s++⟨#[61]⟩++t)/\
  Xb (⟨#[40,80,40]⟩++s++⟨#[41,38,33,80,40]⟩++t++⟨#[41,41]⟩)/\
  Xb (⟨#[40,33]⟩++s++⟨#[61]⟩++t++⟨#[38,102,40]⟩++s++⟨#[41,61,102,40]⟩++t++⟨#[41,41]⟩)):=by
 obtain⟨_,_,h,h2⟩:=hs;obtain⟨_,_,g,g2⟩:=ht;refine⟨⟨by simp only[ah7,dN];simp;omega,abb h g h2 g2 (by simp[ah8,ai2])⟩,⟨by simp only[ah7,dN];simp;omega,aa9 h h2 (by simp[ah8,ai2])⟩,⟨by simp only[ah7,dN];simp;omega,Zm (J8 h) (J7 h h) (Si h2) (XC h2 h2 h) (by simp) (by simp[ah8,ai2])⟩,λn=>?_⟩;have n':=JQ n;exact⟨⟨by simp only[ah7,dN];simp;omega,Zm h g h2 g2 n' (by simp[ah8,ai2])⟩,⟨by simp only[ah7,dN];simp;omega,aa8 h g h2 g2 n' (by simp[ah8,ai2])⟩,⟨by simp only[ah7,dN];simp;omega,aa7 h g (J8 h) (J8 g) h2 g2 (Si h2) (Si g2) n' (by simp;omega) (by simp;omega) (by simp[ah8,ai2])⟩⟩
theorem CQ(w:World)(ao:Option Addr)(len cap:Nat)(i j way:Int)(hT:jd w ao len)(hi:I64 i)(hj:I64 j)(hw:I64 way) :
  Calls prog 14 #[.slice ao len cap,.int .i64 i,.int .i64 j,.int .i64 way] w λe w'=>e=.returned (.bool true)/\Below w.heap.size w w':=by
 have hm:=hT.1;have H0:=aj Bq;have PW:=aj (λw=>kN w way 2 (by omega) (by omega) hw);have PI:=aj (λw=>kN w i (len+1) (by omega) (by omega) hi);have PJ:=aj (λw=>kN w j (len+1) (by omega) (by omega) hj);rw[show((len+1:Nat):Int)=(len:Int)+1 by omega]at PI PJ;have WR:=aj (λw x (h:jd w ao len) (hx:x<len+1)=>Jv 3 0 rfl w ao len cap x h (by omega));have HTT:=aj hT;clear hT hi hj hw
 go_enter func14,ntmps14
 go_wp2_with fail
 refine(ah H0 _).mono ?_;rintro e w1 ⟨rfl,b1⟩
 go_wp2_with fail
 refine(ah PW _).mono ?_;rintro e w2 ⟨⟨wy,hwy,rfl⟩,rfl⟩
 go_wp2_with fail
 refine(ah PI _).mono ?_;rintro e w2 ⟨⟨x,hx,rfl⟩,rfl⟩
 go_wp2_with fail
 refine(ah WR _ x ((ah HTT).keep b1) hx).mono ?_;rintro e w3 ⟨⟨s,rfl,hs,zs⟩,d⟩;replace zs:s.size<=36:=zs;have b3:=lQ b1 d (ac2 _);have Hs:=aj hs;clear d hx b1 hs
 go_wp2_with fail
 refine(ah PJ _).mono ?_;rintro e w2 ⟨⟨x,hx,rfl⟩,rfl⟩
 go_wp2_with fail
 refine(ah WR _ x ((ah HTT).keep b3) hx).mono ?_;rintro e w4 ⟨⟨t,rfl,ht,zt⟩,d⟩;replace zt:t.size<=36:=zt;have b4:=lQ b3 d (ac2 _);have Ht:=aj ht;clear d hx b3 ht;have HW:Hid ((wy:Int)=0\/(wy:Int)=1):=by show(wy:Int)=0\/(wy:Int)=1;omega
 obtain⟨C1,C2,C3,C4⟩:=Fh s t (ah Hs) (ah Ht) zs zt;have K1:=aj (uS C1 wy (ah HW));have K2:=aj (uS C2 wy (ah HW));have K3:=aj (uS C3 wy (ah HW));have K4:=aj (fun(ne:s≠t)=>uS (C4 ne).1 wy (ah HW));have K5:=aj (fun(ne:s≠t)=>uS (C4 ne).2.1 wy (ah HW));have K6:=aj (fun(ne:s≠t)=>uS (C4 ne).2.2 wy (ah HW));clear C1 C2 C3 C4 H0 PW PI PJ WR HTT Hs Ht hwy
 go_wp2_with fail
 refine(ah K1 _).mono ?_;rintro e w5 ⟨rfl,d⟩;have b5:=lQ b4 d (ac2 _);clear d b4 K1
 go_wp2_with fail
 refine(ah K2 _).mono ?_;rintro e w6 ⟨rfl,d⟩;have b6:=lQ b5 d (ac2 _);clear d b5 K2
 go_wp2_with fail
 refine(ah K3 _).mono ?_;rintro e w7 ⟨rfl,d⟩;have b7:=lQ b6 d (ac2 _);clear d b6 K3;by_cases ne:s=t
 ·subst ne;have hst:(s.toList==s.toList)=true:=by simp
  go_wp2_with fail
  go_ret
  exact⟨rfl,b7⟩
 ·have NE:=aj ne;have ND:=aj (JQ ne);have hst:(s.toList==t.toList)=false:=by
   rw[ByteArray.toList_eq,ByteArray.toList_eq];exact ao8.2 (ah ND)
  clear ne
  go_wp2_with fail
  refine(ah K4 (ah NE) _).mono ?_;rintro e w8 ⟨rfl,d⟩;have b8:=lQ b7 d (ac2 _);clear d b7 K4
  go_wp2_with fail
  refine(ah K5 (ah NE) _).mono ?_;rintro e w9 ⟨rfl,d⟩;have b9:=lQ b8 d (ac2 _);clear d b8 K5
  go_wp2_with fail
  refine(ah K6 (ah NE) _).mono ?_;rintro e w10 ⟨rfl,d⟩;have b10:=lQ b9 d (ac2 _);clear d b9 K6
  go_wp2_with fail
  go_ret
  exact⟨rfl,b10⟩
theorem y7(os:Os)(started:os.Started)(H:Type)(enc:TypeId×Value->H) :
  ReturnsInHanded {} checked os 14 .any (Rows.freedomSpec.pre6 enc prog f14 Rows.freedomRow.domain false) (Rows.freedomSpec.post enc prog f14 false true false false):=by
 refine returnsInHanded_of_change_sized (C:=checked) XG started (by kernel_rfl) func14
  (ChangeSpec.witness6 (enc:=enc) (C:=checked) false ⟨#[],#[.slice none 0 0,.int .i64 0,.int .i64 0,.int .i64 0],[]⟩ 8 (by kernel_rfl) (by kernel_rfl) (by kernel_rfl) (by kernel_rfl)) ?_
 intro W base args ds gs before hval0 hW hcnd hz _;have hval:∀(j:Nat) t v,f14.params[j]?=some t->args[j]?=some v->Value.okWide prog W .any base t v:=hval0;have hW':=hW;obtain⟨p,q,hA0,hV,rfl,hfz,hnd⟩:=hW;have hA:DataW.TrodAll enc prog W 0 (λ_=>true) true f14.params.toList args.toList ds p:=hA0;rw[params14]at hA hval;obtain⟨v0,vs0,d0,ds0,p0,q0,hargs0,rfl,rfl,h0,r0⟩:=trodAll_cons hA;obtain⟨v1,vs1,d1,ds1,p1,q1,hargs1,rfl,rfl,h1,r1⟩:=trodAll_cons r0;obtain⟨v2,vs2,d2,ds2,p2,q2,V6,rfl,rfl,h2,r2⟩:=trodAll_cons r1;obtain⟨v3,vs3,d3,ds3,p3,q3,V5,rfl,rfl,h3,r3⟩:=trodAll_cons r2;obtain⟨rfl,rfl,rfl⟩:=trodAll_nil r3;obtain rfl:args=#[v0,v1,v2,v3]:=by cases args;simp_all
 obtain⟨rfl,rfl⟩:=trodVars_none hV;obtain⟨a0,len0,cap0,rfl⟩:=okWide_slice underlying42 (hval 0 42 v0 rfl rfl);have k0:=h0;have k1:=h1;have k2:=h2;have k3:=h3;have lt0:∀x∈p0,x.block<W.heap.size:=by obtain⟨m,hm⟩:=k0;exact ao5 m _ _ _ hm
 have lt1:∀x∈p1,x.block<W.heap.size:=by obtain⟨m,hm⟩:=k1;exact ao5 m _ _ _ hm
 have lt2:∀x∈p2,x.block<W.heap.size:=by obtain⟨m,hm⟩:=k2;exact ao5 m _ _ _ hm
 have lt3:∀x∈p3,x.block<W.heap.size:=by obtain⟨m,hm⟩:=k3;exact ao5 m _ _ _ hm
 have w0:=yj h0 (λel sp e=>sized_slice (j:=0) (t:=42) hz (by show(f14.params.toList++_)[0]?=_;rw[params14];rfl) (by rw[e];rfl) underlying42);obtain⟨n1,rfl,rfl,rfl,e1⟩:=open_int underlying3 (hval 1 3 v1 rfl rfl) h1;obtain⟨n2,rfl,rfl,rfl,e2⟩:=open_int underlying3 (hval 2 3 v2 rfl rfl) h2;obtain⟨n3,rfl,rfl,rfl,e3⟩:=open_int underlying3 (hval 3 3 v3 rfl rfl) h3;clear hA0 hval0;refine(CQ W _ _ _ n1 n2 n3 w0 (wf_i64 e1) (wf_i64 e2) (wf_i64 e3)).mono λe W' ⟨he,bel⟩=>?_;subst he;exact⟨_,rfl,_,_,_,[],_,[],hW',trodAll_mk1 (shut_bool underlying4 _),(trodAll_cons_mk (Below.trod iV (by kernel_rfl) (aj1 (by kernel_rfl)) k0 bel lt0) (trodAll_cons_mk (Below.trod iV (by kernel_rfl) (aj1 (by kernel_rfl)) k1 bel lt1) (trodAll_cons_mk (Below.trod iV (by kernel_rfl) (aj1 (by kernel_rfl)) k2 bel lt2) (trodAll_cons_mk (Below.trod iV (by kernel_rfl) (aj1 (by kernel_rfl)) k3 bel lt3) trodAll_mk0)))),rfl,bel.frame _,λh=>by cases h⟩
theorem freedom_holds:Rows.FreedomSaid:=
 OpenClaim.holds_of_wide 14 f14 rfl rfl rfl rfl rfl rfl rfl ⟨rfl,rfl,rfl,rfl,rfl⟩ rfl rfl rfl rfl rfl (by kernel_rfl) func14 (by kernel_rfl)
  (aj1 (by kernel_rfl)) (by unfold Func.isWrapper;first|(rw[ae2 (by decide +kernel)];kernel_rfl)|(rw[ad6 (by decide +kernel)];exact⟨rfl,rfl⟩))
  (λos started H enc _=>y7 os started H enc)
end Go.Proofs.YthcppbmkacbbiaaGreat
