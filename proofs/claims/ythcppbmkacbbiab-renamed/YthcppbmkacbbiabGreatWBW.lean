import Derived.Test.YthcppbmkacbbiabGreatWBV
set_option linter.unusedSimpArgs false
set_option maxHeartbeats 4000000
set_option maxRecDepth 100000
namespace Go.Proofs.YthcppbmkacbbiabGreat
open Go.Proofs.Tryz
open Go.ChangeShapes Go.WideShapes Go.ChangeAt Go.RowKit
theorem U8{b:Nat}{w w1 w2:World}(h:Below b w w1)(g:Below w1.heap.size w1 w2)(hb:b<=w.heap.size):Below b w w2:=h.trans (g.mono (af7 hb h.size))
theorem xk{n:Int}(h:(Lit.int .i64 n).wf=true):Az n:=by
 simp[Lit.wf,IntKind.min,IntKind.max,IntKind.bits,IntKind.signed]at h;unfold Az;omega
theorem Sj(B:Nat)(w:World)(n:Nat):Below B w (w.drewN n):=⟨rfl,rfl,rfl,ad5 _,λ_ _=>rfl⟩
theorem Jl(w:World)(m n k way:Int)(hm:Az m)(hn:Az n)(hk:Az k)(hw:Az way) :
  Calls prog 3 #[.int .i64 m,.int .i64 n,.int .i64 k,.int .i64 way] w λe w'=>e=.returned (.bool true)/\Below w.heap.size w w':=by
 have H0:=aj BM;have PM:=aj (λw=>yu w m 5 (by omega) (by omega) hm);have PN:=aj (λw=>yu w n 5 (by omega) (by omega) hn);have PK:=aj (λw=>yu w k 6 (by omega) (by omega) hk);have PW:=aj (λw=>yu w way 2 (by omega) (by omega) hw);clear hm hn hk hw
 go_enter func3,ntmps3
 go_wp2_with fail
 refine(ah H0 _).mono ?_;rintro e w1 ⟨rfl,b1⟩
 go_wp2_with fail
 refine(ah PM _).mono ?_;rintro e w2 ⟨⟨x0,hx,rfl⟩,rfl⟩
 go_wp2_with fail
 refine(ah PN _).mono ?_;rintro e w2 ⟨⟨y0,hy,rfl⟩,rfl⟩
 go_wp2_with fail
 refine(ah PK _).mono ?_;rintro e w2 ⟨⟨z,hz,rfl⟩,rfl⟩;have HC:=aj (NT x0 y0 hx hy ⟨z,hz⟩);simp only at HC;have TX:=aj (λw=>times_any w (x0+1) (by omega));have TY:=aj (λw=>times_any w (y0+1) (by omega));have TZ:=aj (λw=>times_any w z (by omega));have SX:=oP (x0+1);have SY:=oP (y0+1);have SZ:=oP z;have ex:(1:Int)+(x0:Int)=((x0+1:Nat):Int):=by omega
 have ey:(1:Int)+(y0:Int)=((y0+1:Nat):Int):=by omega
 rw[ex,ey];clear ex ey PM PN PK H0;have hx1:1<=x0+1/\x0+1<=5:=by omega
 have hy1:1<=y0+1/\y0+1<=5:=by omega
 clear hx hy;generalize x0+1=x at *;generalize y0+1=y at *;have CA:=aj (λw way hw=>Kz w (chF x y z) ⟨#[]⟩ way (by unfold chF maxLen;simp only[ByteArray.size_append,Ey];simp;omega) hw (by decide));unfold chF at CA HC;have sx:(Gt x).size<=100:=by omega
 have sy:(Gt y).size<=100:=by omega
 have sz:(Gt z).size<=100:=by omega
 clear SX SY SZ;obtain⟨G,hG⟩:∃G,Nat.gcd x y=G:=⟨_,rfl⟩;have hG0:0<G:=by rw[<-hG];exact Nat.gcd_pos_of_pos_left _ (by omega)
 have hG5:G<=5:=by rw[<-hG];exact af7 (Nat.gcd_le_left _ (by omega)) (by omega)
 rw[hG]at HC;have HG:=aj hG;clear hG;obtain⟨hx1,hx5⟩:=hx1;obtain⟨hy1,hy5⟩:=hy1
 go_wp2_with fail
 go_loopw [13,14] (λdv bv wr=>∃d b:Nat,d<=5/\b<=5/\Hid (Nat.gcd d b=G)/\dv=.int .i64 d/\bv=.int .i64 b/\Below w.heap.size w wr) (λ_ bv _=>(intOf bv).toNat)
 case atStart=>exact⟨x,y,hx5,hy5,HG,rfl,rfl,b1⟩
 case round=>
  clear b1;obtain⟨d,b,hd,hb,hg,rfl,rfl,b1⟩:=hrel;by_cases hb0:0<b
  ·have hbi:(0:Int)<(b:Int):=(by omega);obtain⟨r,hr⟩:∃r,d%b=r:=⟨_,rfl⟩;have hrb:r<b:=(by rw[<-hr];exact Nat.mod_lt _ hb0);have hm:(d:Int).tmod (b:Int)=(r:Int):=(by rw[Int.tmod_eq_emod_of_nonneg (by omega)];omega);have hg2:Nat.gcd b r=G:=(by rw[<-hr,Nat.gcd_comm b,<-Nat.gcd_rec,Nat.gcd_comm];exact ah hg);have HG2:=aj hg2;clear hr hg2 hg HG TX TY TZ CA HC PW;have hbn:(b:Int)≠0:=by omega
   go_wp2_with fail
   go_quiet (fail)
   go_wp2_with fail
   refine⟨⟨b,r,hb,by omega,HG2,rfl,rfl,b1.trans (Sj _ _ _)⟩,by simp[intOf];omega⟩
  ·have hb00:b=0:=(by omega);subst hb00;have hdG:d=G:=(by have:=ah hg;simpa using this);subst hdG;clear hg HG hb hb0
   go_wp2_with fail
   refine(ah TX _).mono ?_;rintro e w2 ⟨rfl,rfl⟩
   go_wp2_with fail
   refine(ah TY _).mono ?_;rintro e w2 ⟨rfl,rfl⟩
   go_wp2_with fail
   refine(ah TZ _).mono ?_;rintro e w2 ⟨rfl,rfl⟩;clear TX TY TZ;generalize Gt x=tx at *;generalize Gt y=ty at *;generalize Gt z=tz at *
   go_wp2_with fail
   refine(ah PW _).mono ?_;rintro e w2 ⟨⟨wy,hwy,rfl⟩,rfl⟩;have HW:Hid ((wy:Int)=0\/(wy:Int)=1):=(by show(wy:Int)=0\/(wy:Int)=1;omega);clear PW hwy
   go_wp2_with fail
   refine(ah CA _ wy (ah HW)).mono ?_;rintro e w3 ⟨rfl,d3⟩;have b3:=U8 b1 d3 (ad5 _);have hc:=ah HC;clear CA HC HW d3 b1;generalize Gg _=c at hc ⊢;by_cases hzd:z%d=0
   ·rw[af6 hzd]at hc;subst hc;have hmod:(z:Int).tmod (d:Int)=0:=by rw[Int.tmod_eq_emod_of_nonneg (by omega)];omega
    go_wp2_with fail
    go_ret
    exact⟨rfl,b3⟩
   ·rw[af2 hzd]at hc;subst hc;obtain⟨r,hr⟩:∃r,z%d=r:=⟨_,rfl⟩;have hr0:(r:Int)≠0:=(by omega);have hmod:(z:Int).tmod (d:Int)=(r:Int):=(by rw[Int.tmod_eq_emod_of_nonneg (by omega)];omega);have hrb:((r:Int) != 0)=true:=(by simpa using hr0);clear hr hzd
    go_wp2_with fail
    go_ret
    exact⟨rfl,b3⟩
theorem DX(os:Os)(started:os.Started)(H:Type)(enc:TypeId×Value->H) :
  ReturnsInHanded {} checked os 3 .any (Rows.chainSpec.pre6 enc prog f3 Rows.chainRow.domain false) (Rows.chainSpec.post enc prog f3 false true false false):=by
 refine returnsInHanded_of_change (C:=checked) Yl started (by kernel_rfl) func3
  (ChangeSpec.witness6 (enc:=enc) (C:=checked) false ⟨#[],#[.int .i64 0,.int .i64 0,.int .i64 0,.int .i64 0],[]⟩ 8 (by kernel_rfl) (by kernel_rfl) (by kernel_rfl) (by kernel_rfl)) ?_
 intro W base args ds gs before hval0 hW hcnd _;have hval:∀(j:Nat) t v,f3.params[j]?=some t->args[j]?=some v->Value.okWide prog W .any base t v:=hval0;have hW':=hW;obtain⟨p,q,hA0,hV,rfl,hfz,hnd⟩:=hW;have hA:DataW.TrodAll enc prog W 0 (λ_=>true) true f3.params.toList args.toList ds p:=hA0;rw[params3]at hA hval;obtain⟨v0,vs0,d0,ds0,p0,q0,hargs0,rfl,rfl,h0,r0⟩:=trodAll_cons hA;obtain⟨v1,vs1,d1,ds1,p1,q1,hargs1,rfl,rfl,h1,r1⟩:=trodAll_cons r0;obtain⟨v2,vs2,d2,ds2,p2,q2,Xh,rfl,rfl,h2,r2⟩:=trodAll_cons r1;obtain⟨v3,vs3,d3,ds3,p3,q3,aa3,rfl,rfl,h3,r3⟩:=trodAll_cons r2;obtain⟨rfl,rfl,rfl⟩:=trodAll_nil r3;obtain rfl:args=#[v0,v1,v2,v3]:=by cases args;simp_all
 obtain⟨rfl,rfl⟩:=trodVars_none hV;have k0:=h0;have k1:=h1;have k2:=h2;have k3:=h3;have lt0:∀x∈p0,x.block<W.heap.size:=by obtain⟨m,hm⟩:=k0;exact ar7 m _ _ _ hm
 have lt1:∀x∈p1,x.block<W.heap.size:=by obtain⟨m,hm⟩:=k1;exact ar7 m _ _ _ hm
 have lt2:∀x∈p2,x.block<W.heap.size:=by obtain⟨m,hm⟩:=k2;exact ar7 m _ _ _ hm
 have lt3:∀x∈p3,x.block<W.heap.size:=by obtain⟨m,hm⟩:=k3;exact ar7 m _ _ _ hm
 obtain⟨n0,rfl,rfl,rfl,e0⟩:=open_int underlying3 (hval 0 3 v0 rfl rfl) h0;obtain⟨n1,rfl,rfl,rfl,e1⟩:=open_int underlying3 (hval 1 3 v1 rfl rfl) h1;obtain⟨n2,rfl,rfl,rfl,e2⟩:=open_int underlying3 (hval 2 3 v2 rfl rfl) h2;obtain⟨n3,rfl,rfl,rfl,e3⟩:=open_int underlying3 (hval 3 3 v3 rfl rfl) h3;clear hA0 hval0;refine(Jl W n0 n1 n2 n3 (xk e0) (xk e1) (xk e2) (xk e3)).mono λe W' ⟨he,bel⟩=>?_;subst he;exact⟨_,rfl,_,_,_,[],_,[],hW',trodAll_mk1 (shut_bool underlying4 _),(trodAll_cons_mk (Below.trod kL (by kernel_rfl) (al2 (by kernel_rfl)) k0 bel lt0) (trodAll_cons_mk (Below.trod kL (by kernel_rfl) (al2 (by kernel_rfl)) k1 bel lt1) (trodAll_cons_mk (Below.trod kL (by kernel_rfl) (al2 (by kernel_rfl)) k2 bel lt2) (trodAll_cons_mk (Below.trod kL (by kernel_rfl) (al2 (by kernel_rfl)) k3 bel lt3) trodAll_mk0)))),rfl,bel.frame _,λh=>by cases h⟩
theorem chain_holds:Rows.ChainSaid:=
 OpenClaim.holds_of_wide 3 f3 rfl rfl rfl rfl rfl rfl rfl ⟨rfl,rfl,rfl,rfl,rfl⟩ rfl rfl rfl rfl rfl (by kernel_rfl) func3 (by kernel_rfl)
  (al2 (by kernel_rfl)) (by unfold Func.isWrapper;first|(rw[af6 (by decide +kernel)];kernel_rfl)|(rw[af2 (by decide +kernel)];exact⟨rfl,rfl⟩))
  (λos started H enc _=>DX os started H enc)
end Go.Proofs.YthcppbmkacbbiabGreat
