import Derived.Test.YthcppbmkacbbiaaGreatZAF
import Derived.Maps.AppendAt
import Derived.Lib.Strings
set_option linter.unusedSimpArgs false
set_option maxHeartbeats 1000000
set_option maxRecDepth 100000
namespace Go.Proofs.YthcppbmkacbbiaaGreat
open Go.Proofs.Tryz
open Go.RowKit
open au (St put)
theorem Ag:(prog.info? 9).map (λi=>(i.zero,i.size,i.bytes))=some (some (.string ⟨#[]⟩),1,16):=by kernel_rfl
theorem eX(s:ByteArray)(x y:Nat):Value.string (s.extract x y)=str (au.cut s.data.toList x y):=by
 unfold str au.cut;rw[<-Lib.extract_data]
theorem nU(t:List UInt8):∀u∈[str t],u.oneCell'=true:=by
 intro u hu;simp at hu;subst hu;rfl
section
variable {w:World} {B:Nat} {s:ByteArray} {σ:St} {on:Bool} {k1 k2:Value}
theorem own_ne{v4 v5:Value}{W:Nat}(hb:∀k,v5.ownBlock=some k->k<W)(hne:v4.ownBlock=none\/v5.ownBlock=none\/v4.ownBlock≠v5.ownBlock){v':Value}(hl:v'.ownBlock=v4.ownBlock\/v'.ownBlock=some W) :
  v'.ownBlock=none\/v5.ownBlock=none\/v'.ownBlock≠v5.ownBlock:=by
 rcases hl with e|e
 ·rw[e];exact hne
 ·right;cases h5:v5.ownBlock with
  |none=>exact Or.inl rfl
  |some k=>right;rw[e];intro e';cases e';exact absurd (hb _ h5) (Nat.lt_irrefl _)
theorem RI.ZP(h:RI w B s σ on k1 k2){v4 v5:Value}(r1:w.cell? ⟨B,4,none⟩=some v4)(r2:w.cell? ⟨B,5,none⟩=some v5)(r3:w.ownsRow (B+1) 9 1 v4 σ.T.length (σ.T.map str))
 (r4:w.ownsRow (B+1) 9 1 v5 σ.C.length (σ.C.map str))(r5:v4.ownBlock=none\/v5.ownBlock=none\/v4.ownBlock≠v5.ownBlock)
 {t:List UInt8}{o:Obj}{v':Value}{w1:World}(hown:w1.ownsRow (B+1) 9 1 v' (σ.T.length+1) (σ.T.map str++[str t]))(hg:(w.alloc o).grownBy w1 v4.ownBlock)(hl:v'.ownBlock=v4.ownBlock\/v'.ownBlock=some (w.alloc o).heap.size) :
  RI (w1.setCell ⟨B,4,none⟩ v') B s {σ with T:=σ.T++[t]} on k1 k2/\Below B w (w1.setCell ⟨B,4,none⟩ v'):=by
 have hlt:=h.lt;have hge:∀k,v4.ownBlock=some k->B+1<=k:=λk e=>(r3.lt k e).1;have hBne:some B≠v4.ownBlock:=λe=>by have:=hge B e.symm;omega
 have hga:=(World.grownBy_alloc w o v4.ownBlock).trans hg;have hb:∀i,w1.cell? ⟨B,i,none⟩=w.cell? ⟨B,i,none⟩:=λi=>World.cell?_of_block (hga.block B hlt hBne);have hf:∀i,w1.frozen? ⟨B,i,none⟩=w.frozen? ⟨B,i,none⟩:=λi=>World.frozen?_of_block (hga.block B hlt hBne);have hc:∀i,i≠4->(w1.setCell ⟨B,4,none⟩ v').cell? ⟨B,i,none⟩=w.cell? ⟨B,i,none⟩:=λi hi=>(aF _ _ _ (ao9 hi)).trans (hb i);refine⟨⟨(hc 0 (by omega)).trans h.c0,(hc 1 (by omega)).trans h.c1,(hc 2 (by omega)).trans h.c2,(hc 3 (by omega)).trans h.c3,(hc 6 (by omega)).trans h.c6,(hc 7 (by omega)).trans h.c7,(hc 8 (by omega)).trans h.c8,
  λi=>by rw[World.frozen?_setCell,hf];exact h.fz i,v',v5,bQ _ ((hb 4).trans r1),(hc 5 (by omega)).trans r2,?_,?_,?_⟩,?_⟩
 ·have:=jU hown (a:=⟨B,4,none⟩) (ao0 _) v';simpa using this
 ·refine jU ?_ (ao0 _) v';refine World.ownsRow.kept (r4.alloc o) hg ?_;rcases r5 with e|e|e
  ·cases h5:v5.ownBlock with
   |none=>exact Or.inl rfl
   |some k=>right;rw[e];simp
  ·exact Or.inl e
  ·exact Or.inr (ao9 e)
 ·exact own_ne (λk e=>by have:=(r4.lt k e).2;simp;omega) r5 hl
 ·exact((Below.refl B w).grown hga (au6 hlt) (λk e=>by have:=hge k e;omega)).trans (bH _ _ _ _)
theorem RI.XO(h:RI w B s σ on k1 k2){v4 v5:Value}(r1:w.cell? ⟨B,4,none⟩=some v4)(r2:w.cell? ⟨B,5,none⟩=some v5)(r3:w.ownsRow (B+1) 9 1 v4 σ.T.length (σ.T.map str))
 (r4:w.ownsRow (B+1) 9 1 v5 σ.C.length (σ.C.map str))(r5:v4.ownBlock=none\/v5.ownBlock=none\/v4.ownBlock≠v5.ownBlock)
 {t:List UInt8}{o:Obj}{v':Value}{w1:World}(hown:w1.ownsRow (B+1) 9 1 v' (σ.C.length+1) (σ.C.map str++[str t]))(hg:(w.alloc o).grownBy w1 v5.ownBlock)(hl:v'.ownBlock=v5.ownBlock\/v'.ownBlock=some (w.alloc o).heap.size) :
  RI (w1.setCell ⟨B,5,none⟩ v') B s {σ with C:=σ.C++[t]} on k1 k2/\Below B w (w1.setCell ⟨B,5,none⟩ v'):=by
 have hlt:=h.lt;have hge:∀k,v5.ownBlock=some k->B+1<=k:=λk e=>(r4.lt k e).1;have hBne:some B≠v5.ownBlock:=λe=>by have:=hge B e.symm;omega
 have hga:=(World.grownBy_alloc w o v5.ownBlock).trans hg;have hb:∀i,w1.cell? ⟨B,i,none⟩=w.cell? ⟨B,i,none⟩:=λi=>World.cell?_of_block (hga.block B hlt hBne);have hf:∀i,w1.frozen? ⟨B,i,none⟩=w.frozen? ⟨B,i,none⟩:=λi=>World.frozen?_of_block (hga.block B hlt hBne);have hc:∀i,i≠5->(w1.setCell ⟨B,5,none⟩ v').cell? ⟨B,i,none⟩=w.cell? ⟨B,i,none⟩:=λi hi=>(aF _ _ _ (ao9 hi)).trans (hb i);have r5':v5.ownBlock=none\/v4.ownBlock=none\/v5.ownBlock≠v4.ownBlock:=by
  rcases r5 with e|e|e
  ·exact Or.inr (Or.inl e)
  ·exact Or.inl e
  ·exact Or.inr (Or.inr (ao9 e))
 refine⟨⟨(hc 0 (by omega)).trans h.c0,(hc 1 (by omega)).trans h.c1,(hc 2 (by omega)).trans h.c2,(hc 3 (by omega)).trans h.c3,(hc 6 (by omega)).trans h.c6,(hc 7 (by omega)).trans h.c7,(hc 8 (by omega)).trans h.c8,
  λi=>by rw[World.frozen?_setCell,hf];exact h.fz i,v4,v',(hc 4 (by omega)).trans r1,bQ _ ((hb 5).trans r2),?_,?_,?_⟩,?_⟩
 ·refine jU ?_ (ao0 _) v';refine World.ownsRow.kept (r3.alloc o) hg ?_;rcases r5' with e|e|e
  ·cases h5:v4.ownBlock with
   |none=>exact Or.inl rfl
   |some k=>right;rw[e];simp
  ·exact Or.inl e
  ·exact Or.inr (ao9 e)
 ·have:=jU hown (a:=⟨B,5,none⟩) (ao0 _) v';simpa using this
 ·rcases own_ne (λk e=>by have:=(r3.lt k e).2;simp;omega) r5' hl with e|e|e
  ·exact Or.inr (Or.inl e)
  ·exact Or.inl e
  ·exact Or.inr (Or.inr (ao9 e))
 ·exact((Below.refl B w).grown hga (au6 hlt) (λk e=>by have:=hge k e;omega)).trans (bH _ _ _ _)
end
def oN(B:Nat)(s:ByteArray)(on:Bool)(k1 k2:Value)(n:Nat):Prop:=
 ∀(w:World) (σ:St),au.iJ s.size σ->au.need s.size σ<=n->RI w B s σ on k1 k2->
  Calls prog 152 #[.pointer (some ⟨B,0,none⟩)] w λe w'=>e=.returned (.int .i64 (au.aJ s.data.toList (pk s) n σ).2)/\RI w' B s (au.aJ s.data.toList (pk s) n σ).1 on k1 k2/\Below B w w'
theorem Ae{l:List UInt8}{x:Nat}{τ:St}(h:τ.E≠0):au.fB l x τ=(τ,0):=by unfold au.fB;rw[af6 h]
theorem Ac{l:List UInt8}{x:Nat}{τ:St}(h:τ.E=0)(hc:τ.T.contains (au.cut l x τ.a)=true):au.fB l x τ=(τ,τ.T.idxOf (au.cut l x τ.a)):=by
 unfold au.fB;rw[af9 h];unfold put;rw[af9 hc]
theorem Ad{l:List UInt8}{x:Nat}{τ:St}(h:τ.E=0)(hc:τ.T.contains (au.cut l x τ.a)=false):au.fB l x τ=({τ with T:=τ.T++[au.cut l x τ.a]},τ.T.length):=by
 have hn:¬au.cut l x τ.a∈τ.T:=by simpa using hc
 unfold au.fB;rw[af9 h];unfold put;rw[hc,ak0 hn];rfl
theorem jh{T:List (List UInt8)}{t:List UInt8}(h:T.contains t=true):atIdx T t=(T.idxOf t:Int):=by unfold atIdx;rw[af9 h]
theorem jR{T:List (List UInt8)}{t:List UInt8}(h:T.contains t=false):atIdx T t = -1:=by unfold atIdx;rw[h];rfl
theorem fH{W w3:World}{o:Obj}{v:Value}{B n:Nat}{xs:List Value}(hg:(W.alloc o).grownBy w3 v.ownBlock)(hlt:B<W.heap.size)(r:W.ownsRow (B+1) 9 1 v n xs)(i:Nat):w3.cell? ⟨B,i,none⟩=W.cell? ⟨B,i,none⟩:=
 World.cell?_of_block (((World.grownBy_alloc W o v.ownBlock).trans hg).block B hlt (λe=>by have:=(r.lt B e.symm).1;omega))
theorem iY{W w3:World}{o:Obj}{v:Value}{B n:Nat}{xs:List Value}(hg:(W.alloc o).grownBy w3 v.ownBlock)(hlt:B<W.heap.size)(r:W.ownsRow (B+1) 9 1 v n xs)(i:Nat):w3.frozen? ⟨B,i,none⟩=W.frozen? ⟨B,i,none⟩:=
 World.frozen?_of_block (((World.grownBy_alloc W o v.ownBlock).trans hg).block B hlt (λe=>by have:=(r.lt B e.symm).1;omega))
theorem aV{w:World}{base n:Nat}{v:Value}{xs:List Value}(h:w.ownsRow base 9 1 v n xs):∃ao cap,v=.slice ao n cap:=by
 obtain⟨_,h2⟩:=h;rcases h2 with⟨e,e2⟩|⟨g,cap,cur,e,_⟩
 ·exact⟨none,0,by rw[e2];exact e⟩
 ·exact⟨_,_,e⟩
section
variable (w:World) (B:Nat) (s:ByteArray) (σ:St) (on:Bool) (k1 k2:Value)
theorem BQ(hs:s.size<=100)(hr:au.iJ s.size σ)(τ:St)(c:Int)(HO:Hid (au.aX (pk s) au.letters σ=(τ,c)))(h102:(c==102)=false)(h103:(c==103)=false)(HE:Hid (τ.E≠0))(h:RI w B s σ on k1 k2) :
  Calls prog 152 #[.pointer (some ⟨B,0,none⟩)] w λe w'=>e=.returned (.int .i64 (((τ,0):St×Nat)).2)/\RI w' B s (((τ,0):St×Nat)).1 on k1 k2/\Below B w w':=by
 go_enter func152,ntmps152
 have c1':=h.c1
 go_wp2_with fail
 refine(dG w B s σ on k1 k2 _ au.letters vH (by decide) (by decide) hs hr.top h).mono ?_;rw[ah HO];rintro e w1 ⟨rfl,hI,hB⟩;simp only at hI;clear c1';have c3:=hI.c3;have hne:(τ.E != 0)=true:=by simpa using ah HE
 go_wp2_with fail
 go_ret
 exact⟨rfl,hI,hB⟩
theorem BN(hs:s.size<=100)(hr:au.iJ s.size σ)(τ:St)(c:Int)(HO:Hid (au.aX (pk s) au.letters σ=(τ,c)))(h102:(c==102)=false)(h103:(c==103)=false)(HE:Hid (τ.E=0))(hle:σ.a<=τ.a)(hle2:τ.a<=s.size)(hT:τ.T.length<=500)(tx:List UInt8)(HX:Hid (au.cut s.data.toList σ.a τ.a=tx))(HC:Hid (τ.T.contains tx=true))(h:RI w B s σ on k1 k2) :
  Calls prog 152 #[.pointer (some ⟨B,0,none⟩)] w λe w'=>e=.returned (.int .i64 (((τ,τ.T.idxOf tx):St×Nat)).2)/\RI w' B s (((τ,τ.T.idxOf tx):St×Nat)).1 on k1 k2/\Below B w w':=by
 go_enter func152,ntmps152
 have c1':=h.c1
 go_wp2_with fail
 refine(dG w B s σ on k1 k2 _ au.letters vH (by decide) (by decide) hs hr.top h).mono ?_;rw[ah HO];rintro e w1 ⟨rfl,hI,hB⟩;simp only at hI;clear c1';have c0:=hI.c0;have c1:=hI.c1;have c3:=hI.c3;rw[ah HE]at c3;obtain⟨v4,v5,r1,r2,r3,r4,r5⟩:=hI.rows;have hx1:(σ.a:Int)<=(τ.a:Int):=by omega
 have hx2:(τ.a:Int)<=(s.size:Int):=by omega
 go_wp2_with fail
 go_quiet (fail)
 go_wp2_with fail
 rw[eX,ah HX];refine(iI _ tx τ.T v4 (B+1) (by omega) (by exact r3)).mono ?_;rw[jh (ah HC)];rintro e w2 ⟨rfl,hw2⟩;subst hw2;have hnn:decide (((τ.T.idxOf tx:Nat):Int)<0)=false:=by simp
 go_wp2_with fail
 go_ret
 exact⟨rfl,hI.drewN _,hB.trans (below_drewN _ _ _)⟩
theorem BO(hs:s.size<=100)(hr:au.iJ s.size σ)(τ:St)(c:Int)(HO:Hid (au.aX (pk s) au.letters σ=(τ,c)))(h102:(c==102)=false)(h103:(c==103)=false)(HE:Hid (τ.E=0))(hle:σ.a<=τ.a)(hle2:τ.a<=s.size)(hT:τ.T.length<=500)(tx:List UInt8)(HX:Hid (au.cut s.data.toList σ.a τ.a=tx))(HC:Hid (τ.T.contains tx=false))(h:RI w B s σ on k1 k2) :
  Calls prog 152 #[.pointer (some ⟨B,0,none⟩)] w λe w'=>e=.returned (.int .i64 ((({τ with T:=τ.T++[tx]},τ.T.length):St×Nat)).2)/\RI w' B s ((({τ with T:=τ.T++[tx]},τ.T.length):St×Nat)).1 on k1 k2/\Below B w w':=by
 go_enter func152,ntmps152
 have c1':=h.c1
 go_wp2_with fail
 refine(dG w B s σ on k1 k2 _ au.letters vH (by decide) (by decide) hs hr.top h).mono ?_;rw[ah HO];rintro e w1 ⟨rfl,hI,hB⟩;simp only at hI;clear c1';have c0:=hI.c0;have c1:=hI.c1;have c3:=hI.c3;rw[ah HE]at c3;obtain⟨v4,v5,r1,r2,r3,r4,r5⟩:=hI.rows;have hx1:(σ.a:Int)<=(τ.a:Int):=by omega
 have hx2:(τ.a:Int)<=(s.size:Int):=by omega
 go_wp2_with fail
 go_quiet (fail)
 go_wp2_with fail
 rw[eX,ah HX];refine(iI _ tx τ.T v4 (B+1) (by omega) (by exact r3)).mono ?_;rw[jR (ah HC)];rintro e w2 ⟨rfl,hw2⟩;subst hw2;obtain⟨i0,hi,hz0,hz1,hz2⟩:=info_parts Ag;obtain⟨ao,cap,hv4⟩:=aV r3;subst hv4;have hlt:=hI.lt;have f4:=hI.fz 4;have hstr:str tx=.string ⟨tx.toArray⟩:=rfl;rw[hstr];clear hstr
 go_wp2_with (at_builtin;refine wpList_append_own_at _ rfl _ _ 116 rfl (B+1) 9 i0 (.string ⟨#[]⟩) 1 16 underlying116 hi hz0 hz1 hz2 rfl (by decide) (.slice ao τ.T.length cap) τ.T.length (τ.T.map str) rfl (by exact World.ownsRow.alloc (by exact r3) _) ⟨w1.heap.size,0,none⟩ 1 1 [str tx] rfl rfl (cell_one_new _ _ _) (nU tx) (by unfold maxLen;omega) (by omega) (by simp;omega) ?_;intro v' w3 hown hgrow hnil hloc;obtain⟨ao2,cap2,hv2⟩:=aV hown;subst hv2;have c4':=(fH hgrow (by exact hlt) (by exact r3) 4).trans (by exact r1);have f4':=(iY hgrow (by exact hlt) (by exact r3) 4).trans (by exact f4);clear hnil)
 have P:=RI.ZP (hI.drewN _) (by exact r1) (by exact r2) (by exact r3) (by exact r4) r5 hown hgrow hloc
 go_ret
 exact⟨rfl,P.1,hB.trans ((below_drewN _ _ _).trans P.2)⟩
end
section
variable (w:World) (B:Nat) (s:ByteArray) (σ:St) (on:Bool) (k1 k2:Value)
theorem IW(hs:s.size<=100)(hr:au.iJ s.size σ)(n:Nat)(σ1:St)(HO:Hid (au.aX (pk s) au.letters σ=(σ1,103)))(h1a:σ1.a<=s.size)(h1d:σ1.d<=8)(hr2:au.iJ s.size (au.aC (pk s) σ1))(hn2:au.need s.size (au.aC (pk s) σ1)<=n)(hT:oN B s on k1 k2 n)(σ3:St)(H3:Hid ((au.aJ s.data.toList (pk s) n (au.aC (pk s) σ1)).1=σ3))(h3a:σ3.a<=s.size)(σ4:St)(c4:Int)(H4:Hid (au.aX (pk s) [44] σ3=(σ4,c4)))(hr4:au.iJ s.size σ4)(hn4:au.need s.size σ4<=n)(σ5:St)(H5:Hid ((au.aJ s.data.toList (pk s) n σ4).1=σ5))(h5a:σ5.a<=s.size)(h5d:1<=σ5.d/\σ5.d<=9)(τ:St)(HT:Hid (au.bM (pk s) σ5=τ))(HE:Hid (τ.E≠0))(h:RI w B s σ on k1 k2) :
  Calls prog 152 #[.pointer (some ⟨B,0,none⟩)] w λe w'=>e=.returned (.int .i64 (((τ,0):St×Nat)).2)/\RI w' B s (((τ,0):St×Nat)).1 on k1 k2/\Below B w w':=by
 go_enter func152,ntmps152
 have c1':=h.c1
 go_wp2_with fail
 refine(dG w B s σ on k1 k2 _ au.letters vH (by decide) (by decide) hs hr.top h).mono ?_;rw[ah HO];rintro e w1 ⟨rfl,hI1,hB1⟩;simp only at hI1;clear c1'
 go_wp2_with fail
 refine(dB w1 B s σ1 on k1 k2 hs h1a h1d hI1).mono ?_;rintro e w2 ⟨rfl,hI2,hB2⟩
 go_wp2_with fail
 refine(hT w2 _ hr2 hn2 hI2).mono ?_;rw[ah H3];generalize (au.aJ s.data.toList (pk s) n (au.aC (pk s) σ1)).2=z3;rintro e w3 ⟨rfl,hI3,hB3⟩
 go_wp2_with fail
 refine(dG w3 B s σ3 on k1 k2 _ [44] JO (by decide) (by decide) hs h3a hI3).mono ?_;rw[ah H4];rintro e w4 ⟨rfl,hI4,hB4⟩;simp only at hI4
 go_wp2_with fail
 refine(hT w4 _ hr4 hn4 hI4).mono ?_;rw[ah H5];generalize (au.aJ s.data.toList (pk s) n σ4).2=z5;rintro e w5 ⟨rfl,hI5,hB5⟩
 go_wp2_with fail
 refine(dA w5 B s σ5 on k1 k2 hs h5a h5d.2 h5d.1 hI5).mono ?_;rw[ah HT];rintro e w6 ⟨rfl,hI,hB6⟩;have hB:=((((hB1.trans hB2).trans hB3).trans hB4).trans hB5).trans hB6;clear hB1 hB2 hB3 hB4 hB5 hB6 hI1 hI2 hI3 hI4 hI5;have c3:=hI.c3;have hne:(τ.E != 0)=true:=by simpa using ah HE
 go_wp2_with fail
 go_ret
 exact⟨rfl,hI,hB⟩
theorem IU(hs:s.size<=100)(hr:au.iJ s.size σ)(n:Nat)(σ1:St)(HO:Hid (au.aX (pk s) au.letters σ=(σ1,103)))(h1a:σ1.a<=s.size)(h1d:σ1.d<=8)(hr2:au.iJ s.size (au.aC (pk s) σ1))(hn2:au.need s.size (au.aC (pk s) σ1)<=n)(hT:oN B s on k1 k2 n)(σ3:St)(H3:Hid ((au.aJ s.data.toList (pk s) n (au.aC (pk s) σ1)).1=σ3))(h3a:σ3.a<=s.size)(σ4:St)(c4:Int)(H4:Hid (au.aX (pk s) [44] σ3=(σ4,c4)))(hr4:au.iJ s.size σ4)(hn4:au.need s.size σ4<=n)(σ5:St)(H5:Hid ((au.aJ s.data.toList (pk s) n σ4).1=σ5))(h5a:σ5.a<=s.size)(h5d:1<=σ5.d/\σ5.d<=9)(τ:St)(HT:Hid (au.bM (pk s) σ5=τ))(HE:Hid (τ.E=0))(hle:σ.a<=τ.a)(hle2:τ.a<=s.size)(hTl:τ.T.length<=500)(tx:List UInt8)(HX:Hid (au.cut s.data.toList σ.a τ.a=tx))(HC:Hid (τ.T.contains tx=true))(h:RI w B s σ on k1 k2) :
  Calls prog 152 #[.pointer (some ⟨B,0,none⟩)] w λe w'=>e=.returned (.int .i64 (((τ,τ.T.idxOf tx):St×Nat)).2)/\RI w' B s (((τ,τ.T.idxOf tx):St×Nat)).1 on k1 k2/\Below B w w':=by
 go_enter func152,ntmps152
 have c1':=h.c1
 go_wp2_with fail
 refine(dG w B s σ on k1 k2 _ au.letters vH (by decide) (by decide) hs hr.top h).mono ?_;rw[ah HO];rintro e w1 ⟨rfl,hI1,hB1⟩;simp only at hI1;clear c1'
 go_wp2_with fail
 refine(dB w1 B s σ1 on k1 k2 hs h1a h1d hI1).mono ?_;rintro e w2 ⟨rfl,hI2,hB2⟩
 go_wp2_with fail
 refine(hT w2 _ hr2 hn2 hI2).mono ?_;rw[ah H3];generalize (au.aJ s.data.toList (pk s) n (au.aC (pk s) σ1)).2=z3;rintro e w3 ⟨rfl,hI3,hB3⟩
 go_wp2_with fail
 refine(dG w3 B s σ3 on k1 k2 _ [44] JO (by decide) (by decide) hs h3a hI3).mono ?_;rw[ah H4];rintro e w4 ⟨rfl,hI4,hB4⟩;simp only at hI4
 go_wp2_with fail
 refine(hT w4 _ hr4 hn4 hI4).mono ?_;rw[ah H5];generalize (au.aJ s.data.toList (pk s) n σ4).2=z5;rintro e w5 ⟨rfl,hI5,hB5⟩
 go_wp2_with fail
 refine(dA w5 B s σ5 on k1 k2 hs h5a h5d.2 h5d.1 hI5).mono ?_;rw[ah HT];rintro e w6 ⟨rfl,hI,hB6⟩;have hB:=((((hB1.trans hB2).trans hB3).trans hB4).trans hB5).trans hB6;clear hB1 hB2 hB3 hB4 hB5 hB6 hI1 hI2 hI3 hI4 hI5;have c0:=hI.c0;have c1:=hI.c1;have c3:=hI.c3;rw[ah HE]at c3;obtain⟨v4,v5,r1,r2,r3,r4,r5⟩:=hI.rows;have hx1:(σ.a:Int)<=(τ.a:Int):=by omega
 have hx2:(τ.a:Int)<=(s.size:Int):=by omega
 go_wp2_with fail
 go_quiet (fail)
 go_wp2_with fail
 rw[eX,ah HX];refine(iI _ tx τ.T v4 (B+1) (by omega) (by exact r3)).mono ?_;rw[jh (ah HC)];rintro e w2 ⟨rfl,hw2⟩;subst hw2;have hnn:decide (((τ.T.idxOf tx:Nat):Int)<0)=false:=by simp
 go_wp2_with fail
 go_ret
 exact⟨rfl,hI.drewN _,hB.trans (below_drewN _ _ _)⟩
theorem IV(hs:s.size<=100)(hr:au.iJ s.size σ)(n:Nat)(σ1:St)(HO:Hid (au.aX (pk s) au.letters σ=(σ1,103)))(h1a:σ1.a<=s.size)(h1d:σ1.d<=8)(hr2:au.iJ s.size (au.aC (pk s) σ1))(hn2:au.need s.size (au.aC (pk s) σ1)<=n)(hT:oN B s on k1 k2 n)(σ3:St)(H3:Hid ((au.aJ s.data.toList (pk s) n (au.aC (pk s) σ1)).1=σ3))(h3a:σ3.a<=s.size)(σ4:St)(c4:Int)(H4:Hid (au.aX (pk s) [44] σ3=(σ4,c4)))(hr4:au.iJ s.size σ4)(hn4:au.need s.size σ4<=n)(σ5:St)(H5:Hid ((au.aJ s.data.toList (pk s) n σ4).1=σ5))(h5a:σ5.a<=s.size)(h5d:1<=σ5.d/\σ5.d<=9)(τ:St)(HT:Hid (au.bM (pk s) σ5=τ))(HE:Hid (τ.E=0))(hle:σ.a<=τ.a)(hle2:τ.a<=s.size)(hTl:τ.T.length<=500)(tx:List UInt8)(HX:Hid (au.cut s.data.toList σ.a τ.a=tx))(HC:Hid (τ.T.contains tx=false))(h:RI w B s σ on k1 k2) :
  Calls prog 152 #[.pointer (some ⟨B,0,none⟩)] w λe w'=>e=.returned (.int .i64 ((({τ with T:=τ.T++[tx]},τ.T.length):St×Nat)).2)/\RI w' B s ((({τ with T:=τ.T++[tx]},τ.T.length):St×Nat)).1 on k1 k2/\Below B w w':=by
 go_enter func152,ntmps152
 have c1':=h.c1
 go_wp2_with fail
 refine(dG w B s σ on k1 k2 _ au.letters vH (by decide) (by decide) hs hr.top h).mono ?_;rw[ah HO];rintro e w1 ⟨rfl,hI1,hB1⟩;simp only at hI1;clear c1'
 go_wp2_with fail
 refine(dB w1 B s σ1 on k1 k2 hs h1a h1d hI1).mono ?_;rintro e w2 ⟨rfl,hI2,hB2⟩
 go_wp2_with fail
 refine(hT w2 _ hr2 hn2 hI2).mono ?_;rw[ah H3];generalize (au.aJ s.data.toList (pk s) n (au.aC (pk s) σ1)).2=z3;rintro e w3 ⟨rfl,hI3,hB3⟩
 go_wp2_with fail
 refine(dG w3 B s σ3 on k1 k2 _ [44] JO (by decide) (by decide) hs h3a hI3).mono ?_;rw[ah H4];rintro e w4 ⟨rfl,hI4,hB4⟩;simp only at hI4
 go_wp2_with fail
 refine(hT w4 _ hr4 hn4 hI4).mono ?_;rw[ah H5];generalize (au.aJ s.data.toList (pk s) n σ4).2=z5;rintro e w5 ⟨rfl,hI5,hB5⟩
 go_wp2_with fail
 refine(dA w5 B s σ5 on k1 k2 hs h5a h5d.2 h5d.1 hI5).mono ?_;rw[ah HT];rintro e w6 ⟨rfl,hI,hB6⟩;have hB:=((((hB1.trans hB2).trans hB3).trans hB4).trans hB5).trans hB6;clear hB1 hB2 hB3 hB4 hB5 hB6 hI1 hI2 hI3 hI4 hI5;have c0:=hI.c0;have c1:=hI.c1;have c3:=hI.c3;rw[ah HE]at c3;obtain⟨v4,v5,r1,r2,r3,r4,r5⟩:=hI.rows;have hx1:(σ.a:Int)<=(τ.a:Int):=by omega
 have hx2:(τ.a:Int)<=(s.size:Int):=by omega
 go_wp2_with fail
 go_quiet (fail)
 go_wp2_with fail
 rw[eX,ah HX];refine(iI _ tx τ.T v4 (B+1) (by omega) (by exact r3)).mono ?_;rw[jR (ah HC)];rintro e w2 ⟨rfl,hw2⟩;subst hw2;obtain⟨i0,hi,hz0,hz1,hz2⟩:=info_parts Ag;obtain⟨ao,cap,hv4⟩:=aV r3;subst hv4;have hlt:=hI.lt;have f4:=hI.fz 4;have hstr:str tx=.string ⟨tx.toArray⟩:=rfl;rw[hstr];clear hstr
 go_wp2_with (at_builtin;refine wpList_append_own_at _ rfl _ _ 116 rfl (B+1) 9 i0 (.string ⟨#[]⟩) 1 16 underlying116 hi hz0 hz1 hz2 rfl (by decide) (.slice ao τ.T.length cap) τ.T.length (τ.T.map str) rfl (by exact World.ownsRow.alloc (by exact r3) _) ⟨w6.heap.size,0,none⟩ 1 1 [str tx] rfl rfl (cell_one_new _ _ _) (nU tx) (by unfold maxLen;omega) (by omega) (by simp;omega) ?_;intro v' w3 hown hgrow hnil hloc;obtain⟨ao2,cap2,hv2⟩:=aV hown;subst hv2;have c4':=(fH hgrow (by exact hlt) (by exact r3) 4).trans (by exact r1);have f4':=(iY hgrow (by exact hlt) (by exact r3) 4).trans (by exact f4);clear hnil)
 have P:=RI.ZP (hI.drewN _) (by exact r1) (by exact r2) (by exact r3) (by exact r4) r5 hown hgrow hloc
 go_ret
 exact⟨rfl,P.1,hB.trans ((below_drewN _ _ _).trans P.2)⟩
end
end Go.Proofs.YthcppbmkacbbiaaGreat
