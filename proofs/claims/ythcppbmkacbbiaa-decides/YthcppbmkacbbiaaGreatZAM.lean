import Derived.Test.YthcppbmkacbbiaaGreatZAJ
import Derived.Test.YthcppbmkacbbiaaGreatZAL
set_option linter.unusedSimpArgs false
set_option maxHeartbeats 1000000
set_option maxRecDepth 100000
namespace Go.Proofs.YthcppbmkacbbiaaGreat
open Go.Proofs.Tryz
theorem jq0{α:Type}{l:List α}{i:Nat}(h:i<l.toArray.size):l.toArray[i]=l[i]'(by simpa using h):=List.getElem_toArray h
theorem jq1{α:Type}{a:α}{l:List α}(h:0<(a::l).length):(a::l)[0]=a:=rfl
theorem jq2{α:Type}{a:α}{l:List α}{i:Nat}(h:i+1<(a::l).length):(a::l)[i+1]=l[i]'(by simpa using h):=rfl
theorem jq3(l:List Value)(d:List Deferred)(k:Nat)(v:Value):Act.put ⟨l.toArray,d⟩ (some k) v=⟨(l.set k v).toArray,d⟩:=by simp[Act.put]
theorem jq4{α:Type}{a b:α}{l:List α}:(a::l).set 0 b=b::l:=rfl
theorem jq5{α:Type}{a b:α}{l:List α}{i:Nat}:(a::l).set (i+1) b=a::l.set i b:=rfl
theorem aG:(∀{α:Type} {l:List α} {i:Nat} (h:i<l.toArray.size),l.toArray[i]=l[i]'(by simpa using h))/\(∀{α:Type} {a:α} {l:List α} (h:0<(a::l).length),(a::l)[0]=a)/\(∀{α:Type} {a:α} {l:List α} {i:Nat} (h:i+1<(a::l).length),(a::l)[i+1]=l[i]'(by simpa using h))/\(∀(l:List Value) (d:List Deferred) (k:Nat) (v:Value),Act.put ⟨l.toArray,d⟩ (some k) v=⟨(l.set k v).toArray,d⟩)/\(∀{α:Type} {a b:α} {l:List α},(a::l).set 0 b=b::l)/\(∀{α:Type} {a b:α} {l:List α} {i:Nat},(a::l).set (i+1) b=a::l.set i b):=⟨jq0,jq1,jq2,jq3,jq4,jq5⟩
section
variable {P:Program} {ops:Array Oper} {Q:Exit->Act->World->Prop} {md:Region.Mode} {S:World->Prop} {z fuel:Nat} {listed:Array Bool} {a:Act} {w:World} {oi:Oper}
theorem tH(i:Nat)(v:Value)(hy:∀w,S w->(execOp a.eval oi).run P w=.ok (.value v) w)(hS:S w)(h:wpAnyH P md ops Q S fuel (listed.setIfInBounds i true) (a.put oi.dst v) w)
 (hi:ops[i]?=some oi:=by rfl)(hs:Region.noSelect ops=true:=by kernel_rfl)(hf:Region.free md ops listed i=true:=by kernel_rfl)(hr:(Region.ready md ops listed).contains i=true:=by kernel_rfl)
 (hQ:∀c a w,Q (.panic c) (a.put oi.dst v) w->Q (.panic c) a w:=by first|exact λ_ _ _ h=>h|exact λ_ _ _ h=>(by cases h.1))(hw:Region.wanted oi (yielded ops a.tmps)=true:=by rfl):wpAnyH P md ops Q S (fuel+1) listed a w:=
 wpAnyH_take hi hs hf hr hQ (Or.inl ⟨hw,hy⟩) hS h
theorem tL(i:Nat)(v:Value)(hy:∀w,S w->(execOp a.eval oi).run P w=.ok (.value v) w)(hS:S w)(h:wpAnyL P md ops Q S z fuel (listed.setIfInBounds i true) (a.put oi.dst v) w)
 (hi:ops[i]?=some oi:=by rfl)(hz:waits md ops z i=true:=by kernel_rfl)(hs:Region.noSelect ops=true:=by kernel_rfl)(hf:Region.free md ops listed i=true:=by kernel_rfl)(hr:(Region.ready md ops listed).contains i=true:=by kernel_rfl)
 (hQ:∀c a w,Q (.panic c) (a.put oi.dst v) w->Q (.panic c) a w:=by first|exact λ_ _ _ h=>h|exact λ_ _ _ h=>(by cases h.1))(hw:Region.wanted oi (yielded ops a.tmps)=true:=by rfl):wpAnyL P md ops Q S z (fuel+1) listed a w:=
 FP hi hz hs hf hr hQ hw hy hS h
theorem oH(i:Nat)(h:∀K':Act->World->Prop,Shut (∀a w,S w->wpAnyH P md ops Q S fuel (listed.setIfInBounds i true) a w->K' a w)->Oper.wp P oi a w K' Q)
 (hr:Region.ready md ops listed=[i]:=by kernel_rfl)(ho:ops[i]?=some oi:=by rfl)(hw:Region.wanted oi (yielded ops a.tmps)=true:=by rfl):wpAnyH P md ops Q S (fuel+1) listed a w:=
 I7 hr ho hw h
theorem oL(i:Nat)(h:∀K':Act->World->Prop,Shut (∀a w,(i≠z->S w)->wpAnyL P md ops Q S z fuel (listed.setIfInBounds i true) a w->K' a w)->Oper.wp P oi a w K' Q)
 (hr:Region.ready md ops listed=[i]:=by kernel_rfl)(ho:ops[i]?=some oi:=by rfl)(hw:Region.wanted oi (yielded ops a.tmps)=true:=by rfl):wpAnyL P md ops Q S z (fuel+1) listed a w:=
 I5 hr ho hw h
theorem oO{i:Nat}{K:Act->World->Prop}(h:∀K':Act->World->Prop,Shut (∀a w,K a w->K' a w)->Oper.wp P oi a w K' Q)(ho:ops[i]?=some oi:=by rfl)(hw:Region.wanted oi (yielded ops a.tmps)=true:=by rfl):wpOp P ops Q i K a w:=by
 refine wpOp_step ho (λK' hK=>?_);rw[af9 hw];exact h K' hK
def sH(P:Program)(md:Region.Mode)(ops:Array Oper)(Q:Exit->Act->World->Prop)(S:World->Prop)(fuel:Nat)(listed:Array Bool)(i:Nat)(a:Act)(w:World):Prop:=
 wpOp P ops Q i (λa' w'=>S w'/\wpAnyH P md ops Q S fuel (listed.setIfInBounds i true) a' w') a w
theorem a1(i:Nat)(h:sH P md ops Q S fuel listed i a w)(hr:Region.ready md ops listed=[i]:=by kernel_rfl):wpAnyH P md ops Q S (fuel+1) listed a w:=
 wpAnyH_all hr (by simp) (λk hk=>by simp only[aj8,am4,ar6]at hk;subst hk;exact h)
theorem a2(i j:Nat)(h:sH P md ops Q S fuel listed i a w)(h2:sH P md ops Q S fuel listed j a w)(hr:Region.ready md ops listed=[i,j]:=by kernel_rfl):wpAnyH P md ops Q S (fuel+1) listed a w:=
 wpAnyH_all hr (by simp) (λk hk=>by simp only[aj8,am4,ar6]at hk;rcases hk with rfl|rfl<;>assumption)
theorem a3(i j l:Nat)(h:sH P md ops Q S fuel listed i a w)(h2:sH P md ops Q S fuel listed j a w)(h3:sH P md ops Q S fuel listed l a w)(hr:Region.ready md ops listed=[i,j,l]:=by kernel_rfl):wpAnyH P md ops Q S (fuel+1) listed a w:=
 wpAnyH_all hr (by simp) (λk hk=>by simp only[aj8,am4,ar6]at hk;rcases hk with rfl|rfl|rfl<;>assumption)
theorem a4(i j l m:Nat)(h:sH P md ops Q S fuel listed i a w)(h2:sH P md ops Q S fuel listed j a w)(h3:sH P md ops Q S fuel listed l a w)(h4:sH P md ops Q S fuel listed m a w)(hr:Region.ready md ops listed=[i,j,l,m]:=by kernel_rfl):wpAnyH P md ops Q S (fuel+1) listed a w:=
 wpAnyH_all hr (by simp) (λk hk=>by simp only[aj8,am4,ar6]at hk;rcases hk with rfl|rfl|rfl|rfl<;>assumption)
end
open Go.RowKit
open au (St put)
section
variable (w:World) (B:Nat) (s:ByteArray) (σ:St) (k1 k2:Value)
theorem QK(hs:s.size<=100)(_hr:au.iJ s.size σ)(n:Nat)(H33:Hid (au.aH (pk s) σ 33=false))(H80:Hid (au.aH (pk s) σ 80=true))(h1a:σ.a+1<=s.size)(hd8:σ.d<=8)(hr4:au.iJ s.size (au.aC (pk s) {σ with a:=σ.a+1}))(hn4:au.need s.size (au.aC (pk s) {σ with a:=σ.a+1})<=n+1)(σ5:St)(H5:Hid ((au.aJ s.data.toList (pk s) (n+1) (au.aC (pk s) {σ with a:=σ.a+1})).1=σ5))(h5a:σ5.a<=s.size)(h5d:1<=σ5.d/\σ5.d<=9)(τ:St)(HT:Hid (au.bM (pk s) σ5=τ))(HE:Hid (τ.E≠0))(h:RI w B s σ false k1 k2) :
  Calls prog 98 #[.pointer (some ⟨B,0,none⟩)] w λe w'=>(∃b:Bool,e=.returned (.bool b))/\RI w' B s (τ) false k1 k2/\Below B w w':=by
 have c1':=h.c1
 go_enter func98,ntmps98
 go_wp2_with fail
 refine(aO w B s σ false k1 k2 33 (by omega) h).mono ?_;rw[ah H33];rintro e w1 ⟨rfl,h1,b1⟩
 go_wp2_with fail
 refine(aO w1 B s σ false k1 k2 80 (by omega) h1).mono ?_;rw[ah H80];rintro e w2 ⟨rfl,h2,b2⟩;have c1:=h2.c1;have f1:=h2.fz 1
 go_wp2_with fail
 refine(dB _ B s {σ with a:=σ.a+1} false k1 k2 hs h1a hd8 (h2.set1 (by omega))).mono ?_;rintro e w4 ⟨rfl,h4,b4⟩
 go_wp2_with fail
 refine(dO B s false k1 k2 hs (n+1) w4 _ hr4 hn4 h4).mono ?_;rw[ah H5];generalize (au.aJ s.data.toList (pk s) (n+1) (au.aC (pk s) {σ with a:=σ.a+1})).2=z5;rintro e w5 ⟨rfl,h5,b5⟩
 go_wp2_with fail
 refine(dA w5 B s σ5 false k1 k2 hs h5a h5d.2 h5d.1 h5).mono ?_;rw[ah HT];rintro e w6 ⟨rfl,hI,b6⟩;have hB:=(((b1.trans b2).trans (bH _ _ _ _)).trans b4).trans (b5.trans b6);clear b1 b2 b4 b5 b6 h1 h2 h4 h5 c1 f1;have c3:=hI.c3;have hne:(τ.E != 0)=true:=by simpa using ah HE
 go_wp2_with fail
 go_ret
 exact⟨⟨_,rfl⟩,hI,hB⟩
theorem QI(hs:s.size<=100)(_hr:au.iJ s.size σ)(n:Nat)(H33:Hid (au.aH (pk s) σ 33=false))(H80:Hid (au.aH (pk s) σ 80=true))(h1a:σ.a+1<=s.size)(hd8:σ.d<=8)(hr4:au.iJ s.size (au.aC (pk s) {σ with a:=σ.a+1}))(hn4:au.need s.size (au.aC (pk s) {σ with a:=σ.a+1})<=n+1)(σ5:St)(H5:Hid ((au.aJ s.data.toList (pk s) (n+1) (au.aC (pk s) {σ with a:=σ.a+1})).1=σ5))(h5a:σ5.a<=s.size)(h5d:1<=σ5.d/\σ5.d<=9)(τ:St)(HT:Hid (au.bM (pk s) σ5=τ))(HE:Hid (τ.E=0))(hle:σ.a<=τ.a)(hle2:τ.a<=s.size)(hTl:τ.C.length<=500)(tx:List UInt8)(HX:Hid (au.cut s.data.toList σ.a τ.a=tx))(HC:Hid (τ.C.contains tx=true))(h:RI w B s σ false k1 k2) :
  Calls prog 98 #[.pointer (some ⟨B,0,none⟩)] w λe w'=>(∃b:Bool,e=.returned (.bool b))/\RI w' B s (τ) false k1 k2/\Below B w w':=by
 have c1':=h.c1
 go_enter func98,ntmps98
 go_wp2_with fail
 refine(aO w B s σ false k1 k2 33 (by omega) h).mono ?_;rw[ah H33];rintro e w1 ⟨rfl,h1,b1⟩
 go_wp2_with fail
 refine(aO w1 B s σ false k1 k2 80 (by omega) h1).mono ?_;rw[ah H80];rintro e w2 ⟨rfl,h2,b2⟩;have c1:=h2.c1;have f1:=h2.fz 1
 go_wp2_with fail
 refine(dB _ B s {σ with a:=σ.a+1} false k1 k2 hs h1a hd8 (h2.set1 (by omega))).mono ?_;rintro e w4 ⟨rfl,h4,b4⟩
 go_wp2_with fail
 refine(dO B s false k1 k2 hs (n+1) w4 _ hr4 hn4 h4).mono ?_;rw[ah H5];generalize (au.aJ s.data.toList (pk s) (n+1) (au.aC (pk s) {σ with a:=σ.a+1})).2=z5;rintro e w5 ⟨rfl,h5,b5⟩
 go_wp2_with fail
 refine(dA w5 B s σ5 false k1 k2 hs h5a h5d.2 h5d.1 h5).mono ?_;rw[ah HT];rintro e w6 ⟨rfl,hI,b6⟩;have hB:=(((b1.trans b2).trans (bH _ _ _ _)).trans b4).trans (b5.trans b6);clear b1 b2 b4 b5 b6 h1 h2 h4 h5 c1 f1;have c0:=hI.c0;have c1:=hI.c1;have c3:=hI.c3;rw[ah HE]at c3;have c6:=hI.c6;obtain⟨v4,v5,r1,r2,r3,r4,r5⟩:=hI.rows;have hx1:(σ.a:Int)<=(τ.a:Int):=by omega
 have hx2:(τ.a:Int)<=(s.size:Int):=by omega
 go_wp2_with fail
 go_quiet (fail)
 go_wp2_with fail
 rw[eX,ah HX];refine(iI _ tx τ.C v5 (B+1) (by omega) (by exact r4)).mono ?_;rw[jh (ah HC)];rintro e w2 ⟨rfl,hw2⟩;subst hw2;have hnn:decide (((τ.C.idxOf tx:Nat):Int)<0)=false:=by simp
 go_wp2_with fail
 go_ret
 exact⟨⟨_,rfl⟩,hI.drewN _,hB.trans (below_drewN _ _ _)⟩
theorem QJ(hs:s.size<=100)(_hr:au.iJ s.size σ)(n:Nat)(H33:Hid (au.aH (pk s) σ 33=false))(H80:Hid (au.aH (pk s) σ 80=true))(h1a:σ.a+1<=s.size)(hd8:σ.d<=8)(hr4:au.iJ s.size (au.aC (pk s) {σ with a:=σ.a+1}))(hn4:au.need s.size (au.aC (pk s) {σ with a:=σ.a+1})<=n+1)(σ5:St)(H5:Hid ((au.aJ s.data.toList (pk s) (n+1) (au.aC (pk s) {σ with a:=σ.a+1})).1=σ5))(h5a:σ5.a<=s.size)(h5d:1<=σ5.d/\σ5.d<=9)(τ:St)(HT:Hid (au.bM (pk s) σ5=τ))(HE:Hid (τ.E=0))(hle:σ.a<=τ.a)(hle2:τ.a<=s.size)(hTl:τ.C.length<=500)(tx:List UInt8)(HX:Hid (au.cut s.data.toList σ.a τ.a=tx))(HC:Hid (τ.C.contains tx=false))(h:RI w B s σ false k1 k2) :
  Calls prog 98 #[.pointer (some ⟨B,0,none⟩)] w λe w'=>(∃b:Bool,e=.returned (.bool b))/\RI w' B s ({τ with C:=τ.C++[tx]}) false k1 k2/\Below B w w':=by
 have c1':=h.c1
 go_enter func98,ntmps98
 go_wp2_with fail
 refine(aO w B s σ false k1 k2 33 (by omega) h).mono ?_;rw[ah H33];rintro e w1 ⟨rfl,h1,b1⟩
 go_wp2_with fail
 refine(aO w1 B s σ false k1 k2 80 (by omega) h1).mono ?_;rw[ah H80];rintro e w2 ⟨rfl,h2,b2⟩;have c1:=h2.c1;have f1:=h2.fz 1
 go_wp2_with fail
 refine(dB _ B s {σ with a:=σ.a+1} false k1 k2 hs h1a hd8 (h2.set1 (by omega))).mono ?_;rintro e w4 ⟨rfl,h4,b4⟩
 go_wp2_with fail
 refine(dO B s false k1 k2 hs (n+1) w4 _ hr4 hn4 h4).mono ?_;rw[ah H5];generalize (au.aJ s.data.toList (pk s) (n+1) (au.aC (pk s) {σ with a:=σ.a+1})).2=z5;rintro e w5 ⟨rfl,h5,b5⟩
 go_wp2_with fail
 refine(dA w5 B s σ5 false k1 k2 hs h5a h5d.2 h5d.1 h5).mono ?_;rw[ah HT];rintro e w6 ⟨rfl,hI,b6⟩;have hB:=(((b1.trans b2).trans (bH _ _ _ _)).trans b4).trans (b5.trans b6);clear b1 b2 b4 b5 b6 h1 h2 h4 h5 c1 f1;have c0:=hI.c0;have c1:=hI.c1;have c3:=hI.c3;rw[ah HE]at c3;have c6:=hI.c6;obtain⟨v4,v5,r1,r2,r3,r4,r5⟩:=hI.rows;have hx1:(σ.a:Int)<=(τ.a:Int):=by omega
 have hx2:(τ.a:Int)<=(s.size:Int):=by omega
 go_wp2_with fail
 go_quiet (fail)
 go_wp2_with fail
 rw[eX,ah HX];refine(iI _ tx τ.C v5 (B+1) (by omega) (by exact r4)).mono ?_;rw[jR (ah HC)];rintro e w2 ⟨rfl,hw2⟩;subst hw2;obtain⟨i0,hi,hz0,hz1,hz2⟩:=info_parts Ag;obtain⟨ao,cap,hv4⟩:=aV r4;subst hv4;have hlt:=hI.lt;have f4:=hI.fz 5;have hstr:str tx=.string ⟨tx.toArray⟩:=rfl;rw[hstr];clear hstr
 go_wp2_with (at_builtin;refine wpList_append_own_at _ rfl _ _ 116 rfl (B+1) 9 i0 (.string ⟨#[]⟩) 1 16 underlying116 hi hz0 hz1 hz2 rfl (by decide) (.slice ao τ.C.length cap) τ.C.length (τ.C.map str) rfl (by exact World.ownsRow.alloc (by exact r4) _) ⟨w6.heap.size,0,none⟩ 1 1 [str tx] rfl rfl (cell_one_new _ _ _) (nU tx) (by unfold maxLen;omega) (by omega) (by simp;omega) ?_;intro v' w3 hown hgrow hnil hloc;obtain⟨ao2,cap2,hv2⟩:=aV hown;subst hv2;have c4':=(fH hgrow (by exact hlt) (by exact r4) 5).trans (by exact r2);have f4':=(iY hgrow (by exact hlt) (by exact r4) 5).trans (by exact f4);have c6':=(fH hgrow (by exact hlt) (by exact r4) 6).trans (by exact c6);clear hnil)
 have P:=RI.XO (hI.drewN _) (by exact r1) (by exact r2) (by exact r3) (by exact r4) r5 hown hgrow hloc
 go_ret
 exact⟨⟨_,rfl⟩,P.1,hB.trans ((below_drewN _ _ _).trans P.2)⟩
end
theorem wR{l:List UInt8}{x:Nat}{τ:St}(h:τ.E≠0):au.fC l x τ=τ:=by unfold au.fC;rw[af6 h]
theorem rH{l:List UInt8}{x:Nat}{τ:St}(h:τ.E=0)(hc:τ.C.contains (au.cut l x τ.a)=true):au.fC l x τ=τ:=by
 unfold au.fC;rw[af9 h];unfold put;rw[af9 hc]
theorem rJ{l:List UInt8}{x:Nat}{τ:St}(h:τ.E=0)(hc:τ.C.contains (au.cut l x τ.a)=false):au.fC l x τ={τ with C:=τ.C++[au.cut l x τ.a]}:=by
 unfold au.fC;rw[af9 h];unfold put;rw[hc];rfl
theorem XZ(B:Nat)(s:ByteArray)(k1 k2:Value)(n:Nat)(hs:s.size<=100)(hF:BM B s k1 k2 n):BM B s k1 k2 (n+1):=by
 intro w σ hr hn h;have hpk:=Ju s;unfold au.aI;split
 ·rename_i h33;obtain⟨hE,hp⟩:=au.gB h33;have f1:=au.oK hpk (by omega) h33;have hlt:=hpk σ.a (by omega);have hn':s.size+1-σ.a<=n+1:=by unfold au.need at hn;rw[af9 hE]at hn;exact hn
  exact ZW w B s σ k1 k2 hs hr n (aj h33) hlt (hr.fw f1 rfl) (iy (by omega) (λ_=>by simp;omega)) hF h
 ·rename_i h33;have Ik:au.aH (pk s) σ 33=false:=by simpa using h33
  split
  ·rename_i h8;have h8':au.aH (pk s) σ 80=true\/au.aH (pk s) σ 81=true:=(by simpa using h8);have hlive:σ.E=0/\pk s σ.a≠0:=by
    rcases h8' with e|e
    ·obtain⟨a1,a2⟩:=au.gB e;exact⟨a1,by omega⟩
    ·obtain⟨a1,a2⟩:=au.gB e;exact⟨a1,by omega⟩
   obtain⟨hE,hp⟩:=hlive;have f1:au.Fw s.size σ {σ with a:=σ.a+1}:=by
    rcases h8' with e|e
    ·exact au.oK hpk (by omega) e
    ·exact au.oK hpk (by omega) e
   have hlt:=hpk σ.a hp;have hd8:=hr.d8 hE;have hn':s.size+1-σ.a<=n+1:=(by unfold au.need at hn;rw[af9 hE]at hn;exact hn);have hr1:au.iJ s.size {σ with a:=σ.a+1}:=hr.fw f1 rfl;have hr4:=hr1.open hpk hd8;have f2:=au.gX hpk hr1.top;have hn4:au.need s.size (au.aC (pk s) {σ with a:=σ.a+1})<=n+1:=iy (by omega) (λ_=>by have:=f2.le;simp at this;omega);obtain⟨f3,d3⟩:=au.gW hpk s.data.toList (n+1) (au.aC (pk s) {σ with a:=σ.a+1}) f2.top;rw[au.kK]at d3;generalize h5:(au.aJ s.data.toList (pk s) (n+1) (au.aC (pk s) {σ with a:=σ.a+1})).1=σ5 at f3 d3;have f4:=au.jw hpk f3.top;have ff:=((f1.trans f2).trans f3).trans f4;generalize ht:au.bM (pk s) σ5=τ at f4 ff;have hfit:τ.C.length<=500:=(by have:=ff.c;have:=ff.top;have:=hr.c;have:=ff.le;omega);have hd5:1<=σ5.d/\σ5.d<=9:=(by simp at d3;omega);cases h80:au.aH (pk s) σ 80 with
   |true=>
    by_cases hE2:τ.E=0
    ·cases hc:τ.C.contains (au.cut s.data.toList σ.a τ.a)with
     |true=>
      rw[rH hE2 hc];exact QI w B s σ k1 k2 hs hr n (aj Ik) (aj h80) (by omega) hd8 hr4 hn4 σ5 (aj h5) f3.top hd5 τ (aj ht) (aj hE2) ff.le ff.top hfit _ (aj rfl) (aj hc) h
     |false=>
      rw[rJ hE2 hc];exact QJ w B s σ k1 k2 hs hr n (aj Ik) (aj h80) (by omega) hd8 hr4 hn4 σ5 (aj h5) f3.top hd5 τ (aj ht) (aj hE2) ff.le ff.top hfit _ (aj rfl) (aj hc) h
    ·rw[wR hE2];exact QK w B s σ k1 k2 hs hr n (aj Ik) (aj h80) (by omega) hd8 hr4 hn4 σ5 (aj h5) f3.top hd5 τ (aj ht) (aj hE2) h
   |false=>
    have h81:au.aH (pk s) σ 81=true:=(by rw[h80]at h8';simpa using h8');by_cases hE2:τ.E=0
    ·cases hc:τ.C.contains (au.cut s.data.toList σ.a τ.a)with
     |true=>
      rw[rH hE2 hc];exact QF w B s σ k1 k2 hs hr n (aj Ik) (aj h80) (aj h81) (by omega) hd8 hr4 hn4 σ5 (aj h5) f3.top hd5 τ (aj ht) (aj hE2) ff.le ff.top hfit _ (aj rfl) (aj hc) h
     |false=>
      rw[rJ hE2 hc];exact QG w B s σ k1 k2 hs hr n (aj Ik) (aj h80) (aj h81) (by omega) hd8 hr4 hn4 σ5 (aj h5) f3.top hd5 τ (aj ht) (aj hE2) ff.le ff.top hfit _ (aj rfl) (aj hc) h
    ·rw[wR hE2];exact QH w B s σ k1 k2 hs hr n (aj Ik) (aj h80) (aj h81) (by omega) hd8 hr4 hn4 σ5 (aj h5) f3.top hd5 τ (aj ht) (aj hE2) h
  ·rename_i h8;have h8':au.aH (pk s) σ 80=false/\au.aH (pk s) σ 81=false:=(by simpa using h8);split
   ·rename_i h40;obtain⟨hE,hp⟩:=au.gB h40;have hlt:=hpk σ.a (by omega);have hd8:=hr.d8 hE;have hn':s.size+1-σ.a<=n+1:=(by unfold au.need at hn;rw[af9 hE]at hn;exact hn);have hr5:=hr.open hpk hd8;have f2:=au.gX hpk hr.top;have hn5:au.need s.size (au.aC (pk s) σ)<=n:=iy (by omega) (λe=>by
     have:=au.jK (pk s) σ e;rw[this.2.2.2];simp;omega)
    obtain⟨f3,d3⟩:=au.mg hpk s.data.toList n (au.aC (pk s) σ) f2.top;have hr6:=hr5.fw f3 d3;rw[au.kK]at d3;have hn6:1<=n:=(by omega);have Am:(au.aI s.data.toList (pk s) n (au.aC (pk s) σ)).E=0->σ.a+1<=(au.aI s.data.toList (pk s) n (au.aC (pk s) σ)).a:=λe=>by
     have ho:(au.aC (pk s) σ).E=0:=ak1 λhne=>f3.dead hne e;have:=au.jK (pk s) σ ho;have h1:=f3.le;rw[this.2.2.2]at h1 ⊢;simpa using h1
    generalize h6:au.aI s.data.toList (pk s) n (au.aC (pk s) σ)=σ6 at f3 d3 hr6 Am;have f4:=au.iL hpk (l:=[38,124,62,45]) (by rfl) f3.top;have d4:=au.oU (pk s) [38,124,62,45] σ6;have hr7:=hr6.fw f4 d4;cases h7:au.aX (pk s) [38,124,62,45] σ6 with
    |mk σ7 c7=>
     rw[h7]at f4 d4 hr7;simp only at f4 d4 hr7;have hn7:au.need s.size σ7<=n:=iy hn6 (λe=>by
      have ho:σ6.E=0:=ak1 λhne=>f4.dead hne e;have h1:=Am ho;have h2:=f4.le;omega)
     obtain⟨f5,d5⟩:=au.mg hpk s.data.toList n σ7 f4.top;simp only;generalize h8e:au.aI s.data.toList (pk s) n σ7=σ8 at f5 d5;exact acy w B s σ k1 k2 hs hr n (aj Ik) (aj h8'.1) (aj h8'.2) (aj h40) hd8 hr5 hn5 hF σ6 (aj h6) f3.top σ7 c7 (aj h7) hr7 hn7 σ8 (aj h8e) f5.top (by omega) h
   ·rename_i h40;have adS:au.aH (pk s) σ 40=false:=(by simpa using h40);obtain⟨f3,d3⟩:=au.gW hpk s.data.toList (n+1) σ hr.top;have hr5:=hr.fw f3 d3;have Ib:(au.aJ s.data.toList (pk s) (n+1) σ).1.E=0->σ.E=0:=λe=>ak1 λhne=>f3.dead hne e;generalize h5:(au.aJ s.data.toList (pk s) (n+1) σ).1=σ5 at f3 d3 hr5 Ib;have f4:=au.iL hpk (l:=[61]) (by rfl) f3.top;have d4:=au.oU (pk s) [61] σ5;have hr6:=hr5.fw f4 d4;cases h6:au.aX (pk s) [61] σ5 with
    |mk σ6 c6=>
     rw[h6]at f4 d4 hr6;simp only at f4 d4 hr6;have hn6:au.need s.size σ6<=n+1:=iy (by omega) (λe=>by
      have ho:σ5.E=0:=ak1 λhne=>f4.dead hne e;have hE:=Ib ho;unfold au.need at hn;rw[af9 hE]at hn;have:=f4.le;have:=f3.le;omega)
     exact acw w B s σ k1 k2 hs hr n (aj Ik) (aj h8'.1) (aj h8'.2) (aj adS) hn σ5 (aj h5) f3.top σ6 c6 (aj h6) hr6 hn6 h
theorem BZ(B:Nat)(s:ByteArray)(k1 k2:Value)(hs:s.size<=100):∀n,BM B s k1 k2 n
 |0=>λw σ hr hn h=>absurd hn (by have:=zS hr.top;omega)
 |n+1=>XZ B s k1 k2 n hs (BZ B s k1 k2 hs n)
end Go.Proofs.YthcppbmkacbbiaaGreat
