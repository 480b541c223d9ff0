import Derived.Test.YthcppbmkacbbiaaGreatYBV
set_option linter.unusedSimpArgs false
set_option maxHeartbeats 16000000
set_option maxRecDepth 100000
namespace Go.Proofs.YthcppbmkacbbiaaGreat
open Go.Proofs.Tryz
open Go.ChangeShapes Go.WideShapes Go.ChangeAt Go.RowKit
open Ast
theorem jc{b:Nat}{w w1 w2:World}(h:Below b w w1)(g:Below w1.heap.size w1 w2)(hb:b<=w.heap.size):Below b w w2:=h.trans (g.mono (ae4 hb h.size))
theorem CZ(s t u:ByteArray)(hs:rC s)(ht:rC t)(hu:rC u)(zs:s.size<=36)(zt:t.size<=36)(zu:u.size<=36) :
  UA (⟨#[33]⟩++s++⟨#[61]⟩++s)/\
  UA (⟨#[40]⟩++s++⟨#[61]⟩++t++⟨#[38,33]⟩++t++⟨#[61]⟩++s++⟨#[41]⟩)/\
  UA (⟨#[40,40]⟩++s++⟨#[61]⟩++t++⟨#[38]⟩++t++⟨#[61]⟩++u++⟨#[41,38,33]⟩++s++⟨#[61]⟩++u++⟨#[41]⟩)/\
  UA (⟨#[40]⟩++s++⟨#[61]⟩++t++⟨#[38,33,102,40]⟩++s++⟨#[41,61,102,40]⟩++t++⟨#[41,41]⟩)/\
  UA (⟨#[40]⟩++s++⟨#[61]⟩++t++⟨#[38,33,103,40]⟩++s++⟨#[44]⟩++u++⟨#[41,61,103,40]⟩++t++⟨#[44]⟩++u++⟨#[41,41]⟩)/\
  UA (⟨#[40]⟩++s++⟨#[61]⟩++t++⟨#[38,33,103,40]⟩++u++⟨#[44]⟩++s++⟨#[41,61,103,40]⟩++u++⟨#[44]⟩++t++⟨#[41,41]⟩)/\
  UA (⟨#[40,40]⟩++s++⟨#[61]⟩++t++⟨#[38,80,40]⟩++s++⟨#[41,41,38,33,80,40]⟩++t++⟨#[41,41]⟩)/\
  UA (⟨#[40,40]⟩++s++⟨#[61]⟩++t++⟨#[38,33,81,40]⟩++s++⟨#[41,41,38,81,40]⟩++t++⟨#[41,41]⟩):=by
 obtain⟨_,_,h,_⟩:=hs;obtain⟨_,_,g,_⟩:=ht;obtain⟨_,_,k,_⟩:=hu;exact⟨⟨by simp only[ah7,dN];simp;omega,abl h (by simp[ah8,ai2])⟩,⟨by simp only[ah7,dN];simp;omega,abk h g (by simp[ah8,ai2])⟩,⟨by simp only[ah7,dN];simp;omega,abj h g k (by simp[ah8,ai2])⟩,⟨by simp only[ah7,dN];simp;omega,abh h g (by simp[ah8,ai2])⟩,⟨by simp only[ah7,dN];simp;omega,abg h g k (by simp[ah8,ai2])⟩,⟨by simp only[ah7,dN];simp;omega,abf h g k (by simp[ah8,ai2])⟩,⟨by simp only[ah7,dN];simp;omega,abe h g (by simp[ah8,ai2])⟩,⟨by simp only[ah7,dN];simp;omega,abd h g (by simp[ah8,ai2])⟩⟩
theorem Ag(w:World)(ao:Option Addr)(len cap:Nat)(i j k way:Int)(hT:jd w ao len)(hi:I64 i)(hj:I64 j)(hk:I64 k)(hw:I64 way) :
  Calls prog 13 #[.slice ao len cap,.int .i64 i,.int .i64 j,.int .i64 k,.int .i64 way] w λe w'=>e=.returned (.bool true)/\Below w.heap.size w w':=by
 have hm:=hT.1;have H0:=aj Bq;have PW:=aj (λw=>kN w way 2 (by omega) (by omega) hw);have PI:=aj (λw=>kN w i (len+1) (by omega) (by omega) hi);have PJ:=aj (λw=>kN w j (len+1) (by omega) (by omega) hj);have PK:=aj (λw=>kN w k (len+1) (by omega) (by omega) hk);rw[show((len+1:Nat):Int)=(len:Int)+1 by omega]at PI PJ PK;have WR:=aj (λw x (h:jd w ao len) (hx:x<len+1)=>Jv 3 0 rfl w ao len cap x h (by omega));have HTT:=aj hT;clear hT hi hj hk hw
 go_enter func13,ntmps13
 go_wp2_with fail
 refine(ah H0 _).mono ?_;rintro e w1 ⟨rfl,b1⟩
 go_wp2_with fail
 refine(ah PW _).mono ?_;rintro e w2 ⟨⟨wy,hwy,rfl⟩,rfl⟩
 go_wp2_with fail
 refine(ah PI _).mono ?_;rintro e w2 ⟨⟨x,hx,rfl⟩,rfl⟩
 go_wp2_with fail
 refine(ah WR _ x ((ah HTT).keep b1) hx).mono ?_;rintro e w3 ⟨⟨s,rfl,hs,zs⟩,d⟩;replace zs:s.size<=36:=zs;have b3:=jc b1 d (ac2 _);have Hs:=aj hs;clear d hx b1 hs
 go_wp2_with fail
 refine(ah PJ _).mono ?_;rintro e w2 ⟨⟨x,hx,rfl⟩,rfl⟩
 go_wp2_with fail
 refine(ah WR _ x ((ah HTT).keep b3) hx).mono ?_;rintro e w4 ⟨⟨t,rfl,ht,zt⟩,d⟩;replace zt:t.size<=36:=zt;have b4:=jc b3 d (ac2 _);have Ht:=aj ht;clear d hx b3 ht
 go_wp2_with fail
 refine(ah PK _).mono ?_;rintro e w2 ⟨⟨x,hx,rfl⟩,rfl⟩
 go_wp2_with fail
 refine(ah WR _ x ((ah HTT).keep b4) hx).mono ?_;rintro e w5 ⟨⟨u,rfl,hu,zu⟩,d⟩;replace zu:u.size<=36:=zu;have b5:=jc b4 d (ac2 _);have Hu:=aj hu;clear d hx b4 hu;have HW:Hid ((wy:Int)=0\/(wy:Int)=1):=by show(wy:Int)=0\/(wy:Int)=1;omega
 obtain⟨C1,C2,C3,C4,C5,C6,C7,C8⟩:=CZ s t u (ah Hs) (ah Ht) (ah Hu) zs zt zu;have K1:=aj (jG C1 wy (ah HW));have K2:=aj (jG C2 wy (ah HW));have K3:=aj (jG C3 wy (ah HW));have K4:=aj (jG C4 wy (ah HW));have K5:=aj (jG C5 wy (ah HW));have K6:=aj (jG C6 wy (ah HW));have K7:=aj (jG C7 wy (ah HW));have K8:=aj (jG C8 wy (ah HW));clear C1 C2 C3 C4 C5 C6 C7 C8 H0 PW PI PJ PK WR HTT Hs Ht Hu hwy
 go_wp2_with fail
 refine(ah K1 _).mono ?_;rintro e w6 ⟨rfl,d⟩;have b6:=jc b5 d (ac2 _);clear d b5 K1
 go_wp2_with fail
 refine(ah K2 _).mono ?_;rintro e w7 ⟨rfl,d⟩;have b7:=jc b6 d (ac2 _);clear d b6 K2
 go_wp2_with fail
 refine(ah K3 _).mono ?_;rintro e w8 ⟨rfl,d⟩;have b8:=jc b7 d (ac2 _);clear d b7 K3
 go_wp2_with fail
 refine(ah K4 _).mono ?_;rintro e w9 ⟨rfl,d⟩;have b9:=jc b8 d (ac2 _);clear d b8 K4
 go_wp2_with fail
 refine(ah K5 _).mono ?_;rintro e w10 ⟨rfl,d⟩;have b10:=jc b9 d (ac2 _);clear d b9 K5
 go_wp2_with fail
 refine(ah K6 _).mono ?_;rintro e w11 ⟨rfl,d⟩;have b11:=jc b10 d (ac2 _);clear d b10 K6
 go_wp2_with fail
 refine(ah K7 _).mono ?_;rintro e w12 ⟨rfl,d⟩;have b12:=jc b11 d (ac2 _);clear d b11 K7
 go_wp2_with fail
 refine(ah K8 _).mono ?_;rintro e w13 ⟨rfl,d⟩;have b13:=jc b12 d (ac2 _);clear d b12 K8
 go_wp2_with fail
 go_ret
 exact⟨rfl,b13⟩
theorem wX(os:Os)(started:os.Started)(H:Type)(enc:TypeId×Value->H) :
  ReturnsInHanded {} checked os 13 .any (Rows.equalitySpec.pre6 enc prog f13 Rows.equalityRow.domain false) (Rows.equalitySpec.post enc prog f13 false true false false):=by
 refine returnsInHanded_of_change_sized (C:=checked) XG started (by kernel_rfl) func13
  (ChangeSpec.witness6 (enc:=enc) (C:=checked) false ⟨#[],#[.slice none 0 0,.int .i64 0,.int .i64 0,.int .i64 0,.int .i64 0],[]⟩ 8 (by kernel_rfl) (by kernel_rfl) (by kernel_rfl) (by kernel_rfl)) ?_
 intro W base args ds gs before hval0 hW hcnd hz _;have hval:∀(j:Nat) t v,f13.params[j]?=some t->args[j]?=some v->Value.okWide prog W .any base t v:=hval0;have hW':=hW;obtain⟨p,q,hA0,hV,rfl,hfz,hnd⟩:=hW;have hA:DataW.TrodAll enc prog W 0 (λ_=>true) true f13.params.toList args.toList ds p:=hA0;rw[params13]at hA hval;obtain⟨v0,vs0,d0,ds0,p0,q0,hargs0,rfl,rfl,h0,r0⟩:=trodAll_cons hA;obtain⟨v1,vs1,d1,ds1,p1,q1,hargs1,rfl,rfl,h1,r1⟩:=trodAll_cons r0;obtain⟨v2,vs2,d2,ds2,p2,q2,V6,rfl,rfl,h2,r2⟩:=trodAll_cons r1;obtain⟨v3,vs3,d3,ds3,p3,q3,V5,rfl,rfl,h3,r3⟩:=trodAll_cons r2;obtain⟨v4,vs4,d4,ds4,p4,q4,aaA,rfl,rfl,h4,r4⟩:=trodAll_cons r3;obtain⟨rfl,rfl,rfl⟩:=trodAll_nil r4;obtain rfl:args=#[v0,v1,v2,v3,v4]:=by cases args;simp_all
 obtain⟨rfl,rfl⟩:=trodVars_none hV;obtain⟨a0,len0,cap0,rfl⟩:=okWide_slice underlying42 (hval 0 42 v0 rfl rfl);have k0:=h0;have k1:=h1;have k2:=h2;have k3:=h3;have k4:=h4;have lt0:∀x∈p0,x.block<W.heap.size:=by obtain⟨m,hm⟩:=k0;exact ao5 m _ _ _ hm
 have lt1:∀x∈p1,x.block<W.heap.size:=by obtain⟨m,hm⟩:=k1;exact ao5 m _ _ _ hm
 have lt2:∀x∈p2,x.block<W.heap.size:=by obtain⟨m,hm⟩:=k2;exact ao5 m _ _ _ hm
 have lt3:∀x∈p3,x.block<W.heap.size:=by obtain⟨m,hm⟩:=k3;exact ao5 m _ _ _ hm
 have lt4:∀x∈p4,x.block<W.heap.size:=by obtain⟨m,hm⟩:=k4;exact ao5 m _ _ _ hm
 have w0:=yj h0 (λel sp e=>sized_slice (j:=0) (t:=42) hz (by show(f13.params.toList++_)[0]?=_;rw[params13];rfl) (by rw[e];rfl) underlying42);obtain⟨n1,rfl,rfl,rfl,e1⟩:=open_int underlying3 (hval 1 3 v1 rfl rfl) h1;obtain⟨n2,rfl,rfl,rfl,e2⟩:=open_int underlying3 (hval 2 3 v2 rfl rfl) h2;obtain⟨n3,rfl,rfl,rfl,e3⟩:=open_int underlying3 (hval 3 3 v3 rfl rfl) h3;obtain⟨n4,rfl,rfl,rfl,e4⟩:=open_int underlying3 (hval 4 3 v4 rfl rfl) h4;clear hA0 hval0;refine(Ag W _ _ _ n1 n2 n3 n4 w0 (wf_i64 e1) (wf_i64 e2) (wf_i64 e3) (wf_i64 e4)).mono λe W' ⟨he,bel⟩=>?_;subst he;exact⟨_,rfl,_,_,_,[],_,[],hW',trodAll_mk1 (shut_bool underlying4 _),(trodAll_cons_mk (Below.trod iV (by kernel_rfl) (aj1 (by kernel_rfl)) k0 bel lt0) (trodAll_cons_mk (Below.trod iV (by kernel_rfl) (aj1 (by kernel_rfl)) k1 bel lt1) (trodAll_cons_mk (Below.trod iV (by kernel_rfl) (aj1 (by kernel_rfl)) k2 bel lt2) (trodAll_cons_mk (Below.trod iV (by kernel_rfl) (aj1 (by kernel_rfl)) k3 bel lt3) (trodAll_cons_mk (Below.trod iV (by kernel_rfl) (aj1 (by kernel_rfl)) k4 bel lt4) trodAll_mk0))))),rfl,bel.frame _,λh=>by cases h⟩
theorem equality_holds:Rows.EqualitySaid:=
 OpenClaim.holds_of_wide 13 f13 rfl rfl rfl rfl rfl rfl rfl ⟨rfl,rfl,rfl,rfl,rfl⟩ rfl rfl rfl rfl rfl (by kernel_rfl) func13 (by kernel_rfl)
  (aj1 (by kernel_rfl)) (by unfold Func.isWrapper;first|(rw[ae2 (by decide +kernel)];kernel_rfl)|(rw[ad6 (by decide +kernel)];exact⟨rfl,rfl⟩))
  (λos started H enc _=>wX os started H enc)
end Go.Proofs.YthcppbmkacbbiaaGreat
