import Derived.Test.YthcppbmkacbbiabGreatVAE
import Derived.Maps.AppendAt
import Derived.Lib.Strings
set_option linter.unusedSimpArgs false
set_option maxHeartbeats 1000000
set_option maxRecDepth 100000
namespace Go.Proofs.YthcppbmkacbbiabGreat
open Go.Proofs.Tryz
open Go.RowKit
open au (St put)
theorem DR:(prog.info? 9).map (λi=>(i.zero,i.size,i.bytes))=some (some (.string ⟨#[]⟩),1,16):=by kernel_rfl
theorem iH(s:ByteArray)(x y:Nat):Value.string (s.extract x y)=str (au.cut s.data.toList x y):=by
 unfold str au.cut;rw[<-Lib.extract_data]
theorem vJ(t:List UInt8):∀u∈[str t],u.oneCell'=true:=by
 intro u hu;simp at hu;subst hu;rfl
section
variable {w:World} {B:Nat} {s:ByteArray} {σ:St} {on:Bool} {k1 k2:Value}
theorem own_ne{v4 v5:Value}{W:Nat}(hb:∀k,v5.ownBlock=some k->k<W)(bg:v4.ownBlock=none\/v5.ownBlock=none\/v4.ownBlock≠v5.ownBlock){v':Value}(hl:v'.ownBlock=v4.ownBlock\/v'.ownBlock=some W) :
  v'.ownBlock=none\/v5.ownBlock=none\/v'.ownBlock≠v5.ownBlock:=by
 obtain e|e:=hl
 ·rw[e];exact bg
 ·right;cases h5:v5.ownBlock with
  |none=>exact Or.inl rfl
  |some k=>right;rw[e];intro e';cases e';exact absurd (hb _ h5) (Nat.lt_irrefl _)
theorem RI.ah2(h:RI w B s σ on k1 k2){v4 v5:Value}(r1:w.cell? (J B 4)=some v4)(r2:w.cell? (J B 5)=some v5)(r3:w.ownsRow (B+1) 9 1 v4 σ.T.length (σ.T.map str))
 (r4:w.ownsRow (B+1) 9 1 v5 σ.C.length (σ.C.map str))(r5:v4.ownBlock=none\/v5.ownBlock=none\/v4.ownBlock≠v5.ownBlock)
 {t:List UInt8}{o:Obj}{v':Value}{w1:World}(aH:w1.ownsRow (B+1) 9 1 v' (σ.T.length+1) (σ.T.map str++[str t]))(hg:(w.alloc o).grownBy w1 v4.ownBlock)(hl:v'.ownBlock=v4.ownBlock\/v'.ownBlock=some (w.alloc o).heap.size) :
  RI (w1.setCell (J B 4) v') B s {σ with T:=σ.T++[t]} on k1 k2/\Below B w (w1.setCell (J B 4) v'):=by
 have hlt:=h.lt;have hge:∀k,v4.ownBlock=some k->B+1<=k:=λk e=>(r3.lt k e).1;have Pj:some B≠v4.ownBlock:=λe=>by have:=hge B e.symm;omega
 have fK:=(World.grownBy_alloc w o v4.ownBlock).trans hg;have hb:∀i,w1.cell? (J B i)=w.cell? (J B i):=λi=>World.cell?_of_block (fK.block B hlt Pj);have hf:∀i,w1.frozen? (J B i)=w.frozen? (J B i):=λi=>World.frozen?_of_block (fK.block B hlt Pj);have hc:∀i,i≠4->(w1.setCell (J B 4) v').cell? (J B i)=w.cell? (J B i):=λi hi=>(aI _ _ _ (ax7 hi)).trans (hb i);refine⟨⟨(hc 0 O).trans h.c0,(hc 1 O).trans h.c1,(hc 2 O).trans h.c2,(hc 3 O).trans h.c3,(hc 6 O).trans h.c6,(hc 7 O).trans h.c7,(hc 8 O).trans h.c8,
  λi=>by rw[World.frozen?_setCell,hf];exact h.fz i,v',v5,bH _ ((hb 4).trans r1),(hc 5 O).trans r2,?_,?_,?_⟩,?_⟩
 ·have:=oq aH (a:=(J B 4)) (Nat.lt_succ_self _) v';simpa using this
 ·refine oq ?_ (Nat.lt_succ_self _) v';refine World.ownsRow.kept (r4.alloc o) hg ?_;obtain e|e|e:=r5
  ·cases h5:v5.ownBlock with
   |none=>exact Or.inl rfl
   |some k=>right;rw[e];simp
  ·exact Or.inl e
  ·exact Or.inr (ax7 e)
 ·exact own_ne (λk e=>by have:=(r4.lt k e).2;simp;omega) r5 hl
 ·exact((Below.refl B w).grown fK (Nat.le_of_lt hlt) (λk e=>by have:=hge k e;omega)).trans (bU _ _ _ _)
theorem RI.afG(h:RI w B s σ on k1 k2){v4 v5:Value}(r1:w.cell? (J B 4)=some v4)(r2:w.cell? (J B 5)=some v5)(r3:w.ownsRow (B+1) 9 1 v4 σ.T.length (σ.T.map str))
 (r4:w.ownsRow (B+1) 9 1 v5 σ.C.length (σ.C.map str))(r5:v4.ownBlock=none\/v5.ownBlock=none\/v4.ownBlock≠v5.ownBlock)
 {t:List UInt8}{o:Obj}{v':Value}{w1:World}(aH:w1.ownsRow (B+1) 9 1 v' (σ.C.length+1) (σ.C.map str++[str t]))(hg:(w.alloc o).grownBy w1 v5.ownBlock)(hl:v'.ownBlock=v5.ownBlock\/v'.ownBlock=some (w.alloc o).heap.size) :
  RI (w1.setCell (J B 5) v') B s {σ with C:=σ.C++[t]} on k1 k2/\Below B w (w1.setCell (J B 5) v'):=by
 have hlt:=h.lt;have hge:∀k,v5.ownBlock=some k->B+1<=k:=λk e=>(r4.lt k e).1;have Pj:some B≠v5.ownBlock:=λe=>by have:=hge B e.symm;omega
 have fK:=(World.grownBy_alloc w o v5.ownBlock).trans hg;have hb:∀i,w1.cell? (J B i)=w.cell? (J B i):=λi=>World.cell?_of_block (fK.block B hlt Pj);have hf:∀i,w1.frozen? (J B i)=w.frozen? (J B i):=λi=>World.frozen?_of_block (fK.block B hlt Pj);have hc:∀i,i≠5->(w1.setCell (J B 5) v').cell? (J B i)=w.cell? (J B i):=λi hi=>(aI _ _ _ (ax7 hi)).trans (hb i);have r5':v5.ownBlock=none\/v4.ownBlock=none\/v5.ownBlock≠v4.ownBlock:=by
  obtain e|e|e:=r5
  ·exact Or.inr (Or.inl e)
  ·exact Or.inl e
  ·exact Or.inr (Or.inr (ax7 e))
 refine⟨⟨(hc 0 O).trans h.c0,(hc 1 O).trans h.c1,(hc 2 O).trans h.c2,(hc 3 O).trans h.c3,(hc 6 O).trans h.c6,(hc 7 O).trans h.c7,(hc 8 O).trans h.c8,
  λi=>by rw[World.frozen?_setCell,hf];exact h.fz i,v4,v',(hc 4 O).trans r1,bH _ ((hb 5).trans r2),?_,?_,?_⟩,?_⟩
 ·refine oq ?_ (Nat.lt_succ_self _) v';refine World.ownsRow.kept (r3.alloc o) hg ?_;obtain e|e|e:=r5'
  ·cases h5:v4.ownBlock with
   |none=>exact Or.inl rfl
   |some k=>right;rw[e];simp
  ·exact Or.inl e
  ·exact Or.inr (ax7 e)
 ·have:=oq aH (a:=(J B 5)) (Nat.lt_succ_self _) v';simpa using this
 ·rcases own_ne (λk e=>by have:=(r3.lt k e).2;simp;omega) r5' hl with e|e|e
  ·exact Or.inr (Or.inl e)
  ·exact Or.inl e
  ·exact Or.inr (Or.inr (ax7 e))
 ·exact((Below.refl B w).grown fK (Nat.le_of_lt hlt) (λk e=>by have:=hge k e;omega)).trans (bU _ _ _ _)
end
def wV(B:Nat)(s:ByteArray)(on:Bool)(k1 k2:Value)(n:Nat):Prop:=
 ∀(w:World) (σ:St),au.kV s.size σ->au.need s.size σ<=n->RI w B s σ on k1 k2->
  Calls prog 172 #[Aa B 0] w λe w'=>e=.returned (A (au.aN s.data.toList (pk s) n σ).2)/\RI w' B s (au.aN s.data.toList (pk s) n σ).1 on k1 k2/\Below B w w'
theorem Jt{l:List UInt8}{x:Nat}{τ:St}(h:τ.E≠0):au.iJ l x τ=(τ,0):=by unfold au.iJ;rw[an8 h]
theorem Jr{l:List UInt8}{x:Nat}{τ:St}(h:τ.E=0)(hc:τ.T.contains (au.cut l x τ.a)=true):au.iJ l x τ=(τ,τ.T.idxOf (au.cut l x τ.a)):=by
 unfold au.iJ;rw[ao4 h];unfold put;rw[ao4 hc]
theorem Js{l:List UInt8}{x:Nat}{τ:St}(h:τ.E=0)(hc:τ.T.contains (au.cut l x τ.a)=false):au.iJ l x τ=({τ with T:=τ.T++[au.cut l x τ.a]},τ.T.length):=by
 have hn:¬au.cut l x τ.a∈τ.T:=by simpa using hc
 unfold au.iJ;rw[ao4 h];unfold put;rw[hc,as3 hn];rfl
theorem lW{T:List (List UInt8)}{t:List UInt8}(h:T.contains t=true):atIdx T t=(T.idxOf t:Int):=by unfold atIdx;rw[ao4 h]
theorem nX{T:List (List UInt8)}{t:List UInt8}(h:T.contains t=false):atIdx T t = -1:=by unfold atIdx;rw[h];rfl
theorem iZ{W w3:World}{o:Obj}{v:Value}{B n:Nat}{xs:List Value}(hg:(W.alloc o).grownBy w3 v.ownBlock)(hlt:B<W.heap.size)(r:W.ownsRow (B+1) 9 1 v n xs)(i:Nat):w3.cell? (J B i)=W.cell? (J B i):=
 World.cell?_of_block (((World.grownBy_alloc W o v.ownBlock).trans hg).block B hlt (λe=>by have:=(r.lt B e.symm).1;omega))
theorem lJ{W w3:World}{o:Obj}{v:Value}{B n:Nat}{xs:List Value}(hg:(W.alloc o).grownBy w3 v.ownBlock)(hlt:B<W.heap.size)(r:W.ownsRow (B+1) 9 1 v n xs)(i:Nat):w3.frozen? (J B i)=W.frozen? (J B i):=
 World.frozen?_of_block (((World.grownBy_alloc W o v.ownBlock).trans hg).block B hlt (λe=>by have:=(r.lt B e.symm).1;omega))
theorem bD{w:World}{base n:Nat}{v:Value}{xs:List Value}(h:w.ownsRow base 9 1 v n xs):∃ao cap,v=.slice ao n cap:=by
 obtain⟨_,M⟩:=h;obtain⟨e,e2⟩|⟨g,cap,cur,e,_⟩:=M
 ·exact⟨none,0,by rw[e2];exact e⟩
 ·exact⟨_,_,e⟩
section
variable (w:World) (B:Nat) (s:ByteArray) (σ:St) (on:Bool) (k1 k2:Value)
theorem KT(hs:s.size<=100)(hr:au.kV s.size σ)(τ:St)(c:Int)(HO:Hid (au.bF (pk s) au.letters σ=(τ,c)))(aaQ:(c==102)=false)(aaP:(c==103)=false)(HE:Hid (τ.E≠0))(h:RI w B s σ on k1 k2) :
  Calls prog 172 #[Aa B 0] w λe w'=>e=.returned (A (((τ,0):St×Nat)).2)/\RI w' B s (((τ,0):St×Nat)).1 on k1 k2/\Below B w w':=by
 go_in
 have FN:=h.c1
 go_wp2_with fail
 refine(eF w B s σ on k1 k2 _ au.letters DN ane ane hs hr.top h).mono ?_;rw[Z HO];rintro e w1 ⟨rfl,hI,hB⟩;simp only at hI;have c3:=hI.c3;have bg:(τ.E != 0)=true:=by simpa using Z HE
 go_wp2_with fail
 go_ret
 exact⟨rfl,hI,hB⟩
theorem KQ(hs:s.size<=100)(hr:au.kV s.size σ)(τ:St)(c:Int)(HO:Hid (au.bF (pk s) au.letters σ=(τ,c)))(aaQ:(c==102)=false)(aaP:(c==103)=false)(HE:Hid (τ.E=0))(hle:σ.a<=τ.a)(wE:τ.a<=s.size)(hT:τ.T.length<=500)(tx:List UInt8)(HX:Hid (au.cut s.data.toList σ.a τ.a=tx))(HC:Hid (τ.T.contains tx=true))(h:RI w B s σ on k1 k2) :
  Calls prog 172 #[Aa B 0] w λe w'=>e=.returned (A (((τ,τ.T.idxOf tx):St×Nat)).2)/\RI w' B s (((τ,τ.T.idxOf tx):St×Nat)).1 on k1 k2/\Below B w w':=by
 go_in
 have FN:=h.c1
 go_wp2_with fail
 refine(eF w B s σ on k1 k2 _ au.letters DN ane ane hs hr.top h).mono ?_;rw[Z HO];rintro e w1 ⟨rfl,hI,hB⟩;simp only at hI;have c0:=hI.c0;have c1:=hI.c1;have c3:=hI.c3;rw[Z HE]at c3;obtain⟨v4,v5,r1,r2,r3,r4,r5⟩:=hI.rows;have nN:(σ.a:Int)<=(τ.a:Int):=O
 have mM:(τ.a:Int)<=(s.size:Int):=O
 go_wp2_with fail
 go_quiet (fail)
 go_wp2_with fail
 rw[iH,Z HX];refine(kS _ tx τ.T v4 (B+1) O (by exact r3)).mono ?_;rw[lW (Z HC)];rintro e w2 ⟨rfl,eu⟩;subst eu;have Ih:decide (((τ.T.idxOf tx:Nat):Int)<0)=false:=R
 go_wp2_with fail
 go_ret
 exact⟨rfl,hI.drewN _,hB.trans (below_drewN _ _ _)⟩
theorem KR(hs:s.size<=100)(hr:au.kV s.size σ)(τ:St)(c:Int)(HO:Hid (au.bF (pk s) au.letters σ=(τ,c)))(aaQ:(c==102)=false)(aaP:(c==103)=false)(HE:Hid (τ.E=0))(hle:σ.a<=τ.a)(wE:τ.a<=s.size)(hT:τ.T.length<=500)(tx:List UInt8)(HX:Hid (au.cut s.data.toList σ.a τ.a=tx))(HC:Hid (τ.T.contains tx=false))(h:RI w B s σ on k1 k2) :
  Calls prog 172 #[Aa B 0] w λe w'=>e=.returned (A ((({τ with T:=τ.T++[tx]},τ.T.length):St×Nat)).2)/\RI w' B s ((({τ with T:=τ.T++[tx]},τ.T.length):St×Nat)).1 on k1 k2/\Below B w w':=by
 go_in
 have FN:=h.c1
 go_wp2_with fail
 refine(eF w B s σ on k1 k2 _ au.letters DN ane ane hs hr.top h).mono ?_;rw[Z HO];rintro e w1 ⟨rfl,hI,hB⟩;simp only at hI;have c0:=hI.c0;have c1:=hI.c1;have c3:=hI.c3;rw[Z HE]at c3;obtain⟨v4,v5,r1,r2,r3,r4,r5⟩:=hI.rows;have nN:(σ.a:Int)<=(τ.a:Int):=O
 have mM:(τ.a:Int)<=(s.size:Int):=O
 go_wp2_with fail
 go_quiet (fail)
 go_wp2_with fail
 rw[iH,Z HX];refine(kS _ tx τ.T v4 (B+1) O (by exact r3)).mono ?_;rw[nX (Z HC)];rintro e w2 ⟨rfl,eu⟩;subst eu;obtain⟨i0,hi,jR,ig,jy⟩:=info_parts DR;obtain⟨ao,cap,hv4⟩:=bD r3;subst hv4;have hlt:=hI.lt;have f4:=hI.fz 4;have E8:str tx=.string ⟨tx.toArray⟩:=rfl;rw[E8]
 go_wp2_with (at_builtin;refine wpList_append_own_at _ rfl _ _ 163 rfl (B+1) 9 i0 (.string ⟨#[]⟩) 1 16 underlying163 hi jR ig jy rfl ane (.slice ao τ.T.length cap) τ.T.length (τ.T.map str) rfl (by exact World.ownsRow.alloc (by exact r3) _) (J w1.heap.size 0) 1 1 [str tx] rfl rfl (cell_one_new _ _ _) (vJ tx) anj O anf ?_;intro v' w3 aH dG fC AB;obtain⟨ao2,xO,BD⟩:=bD aH;subst BD;have c4':=(iZ dG (by exact hlt) (by exact r3) 4).trans (by exact r1);have f4':=(lJ dG (by exact hlt) (by exact r3) 4).trans (by exact f4);clear fC)
 have P:=RI.ah2 (hI.drewN _) (by exact r1) (by exact r2) (by exact r3) (by exact r4) r5 aH dG AB
 go_ret
 exact⟨rfl,P.1,hB.trans ((below_drewN _ _ _).trans P.2)⟩
end
section
variable (w:World) (B:Nat) (s:ByteArray) (σ:St) (on:Bool) (k1 k2:Value)
theorem Uz(hs:s.size<=100)(hr:au.kV s.size σ)(n:Nat)(σ1:St)(HO:Hid (au.bF (pk s) au.letters σ=(σ1,102)))(BX:σ1.a<=s.size)(h1d:σ1.d<=8)(BJ:au.kV s.size (au.aG (pk s) σ1))(EC:au.need s.size (au.aG (pk s) σ1)<=n)(hT:wV B s on k1 k2 n)(σ3:St)(H3:Hid ((au.aN s.data.toList (pk s) n (au.aG (pk s) σ1)).1=σ3))(h3a:σ3.a<=s.size)(h3d:1<=σ3.d/\σ3.d<=9)(τ:St)(HT:Hid (au.dA (pk s) σ3=τ))(HE:Hid (τ.E≠0))(h:RI w B s σ on k1 k2) :
  Calls prog 172 #[Aa B 0] w λe w'=>e=.returned (A (((τ,0):St×Nat)).2)/\RI w' B s (((τ,0):St×Nat)).1 on k1 k2/\Below B w w':=by
 go_in
 have FN:=h.c1
 go_wp2_with fail
 refine(eF w B s σ on k1 k2 _ au.letters DN ane ane hs hr.top h).mono ?_;rw[Z HO];rintro e w1 ⟨rfl,JX,NZ⟩;simp only at JX
 go_wp2_with fail
 refine(dV w1 B s σ1 on k1 k2 hs BX h1d JX).mono ?_;rintro e w2 ⟨rfl,dD,BQ⟩
 go_wp2_with fail
 refine(hT w2 _ BJ EC dD).mono ?_;rw[Z H3];generalize (au.aN s.data.toList (pk s) n (au.aG (pk s) σ1)).2=z3;rintro e w3 ⟨rfl,MI,uQ⟩
 go_wp2_with fail
 refine(dU w3 B s σ3 on k1 k2 hs h3a h3d.2 h3d.1 MI).mono ?_;rw[Z HT];rintro e w4 ⟨rfl,hI,TR⟩;have hB:=((NZ.trans BQ).trans uQ).trans TR;have c3:=hI.c3;have bg:(τ.E != 0)=true:=by simpa using Z HE
 go_wp2_with fail
 go_ret
 exact⟨rfl,hI,hB⟩
theorem Ux(hs:s.size<=100)(hr:au.kV s.size σ)(n:Nat)(σ1:St)(HO:Hid (au.bF (pk s) au.letters σ=(σ1,102)))(BX:σ1.a<=s.size)(h1d:σ1.d<=8)(BJ:au.kV s.size (au.aG (pk s) σ1))(EC:au.need s.size (au.aG (pk s) σ1)<=n)(hT:wV B s on k1 k2 n)(σ3:St)(H3:Hid ((au.aN s.data.toList (pk s) n (au.aG (pk s) σ1)).1=σ3))(h3a:σ3.a<=s.size)(h3d:1<=σ3.d/\σ3.d<=9)(τ:St)(HT:Hid (au.dA (pk s) σ3=τ))(HE:Hid (τ.E=0))(hle:σ.a<=τ.a)(wE:τ.a<=s.size)(YB:τ.T.length<=500)(tx:List UInt8)(HX:Hid (au.cut s.data.toList σ.a τ.a=tx))(HC:Hid (τ.T.contains tx=true))(h:RI w B s σ on k1 k2) :
  Calls prog 172 #[Aa B 0] w λe w'=>e=.returned (A (((τ,τ.T.idxOf tx):St×Nat)).2)/\RI w' B s (((τ,τ.T.idxOf tx):St×Nat)).1 on k1 k2/\Below B w w':=by
 go_in
 have FN:=h.c1
 go_wp2_with fail
 refine(eF w B s σ on k1 k2 _ au.letters DN ane ane hs hr.top h).mono ?_;rw[Z HO];rintro e w1 ⟨rfl,JX,NZ⟩;simp only at JX
 go_wp2_with fail
 refine(dV w1 B s σ1 on k1 k2 hs BX h1d JX).mono ?_;rintro e w2 ⟨rfl,dD,BQ⟩
 go_wp2_with fail
 refine(hT w2 _ BJ EC dD).mono ?_;rw[Z H3];generalize (au.aN s.data.toList (pk s) n (au.aG (pk s) σ1)).2=z3;rintro e w3 ⟨rfl,MI,uQ⟩
 go_wp2_with fail
 refine(dU w3 B s σ3 on k1 k2 hs h3a h3d.2 h3d.1 MI).mono ?_;rw[Z HT];rintro e w4 ⟨rfl,hI,TR⟩;have hB:=((NZ.trans BQ).trans uQ).trans TR;have c0:=hI.c0;have c1:=hI.c1;have c3:=hI.c3;rw[Z HE]at c3;obtain⟨v4,v5,r1,r2,r3,r4,r5⟩:=hI.rows;have nN:(σ.a:Int)<=(τ.a:Int):=O
 have mM:(τ.a:Int)<=(s.size:Int):=O
 go_wp2_with fail
 go_quiet (fail)
 go_wp2_with fail
 rw[iH,Z HX];refine(kS _ tx τ.T v4 (B+1) O (by exact r3)).mono ?_;rw[lW (Z HC)];rintro e w2 ⟨rfl,eu⟩;subst eu;have Ih:decide (((τ.T.idxOf tx:Nat):Int)<0)=false:=R
 go_wp2_with fail
 go_ret
 exact⟨rfl,hI.drewN _,hB.trans (below_drewN _ _ _)⟩
theorem Uy(hs:s.size<=100)(hr:au.kV s.size σ)(n:Nat)(σ1:St)(HO:Hid (au.bF (pk s) au.letters σ=(σ1,102)))(BX:σ1.a<=s.size)(h1d:σ1.d<=8)(BJ:au.kV s.size (au.aG (pk s) σ1))(EC:au.need s.size (au.aG (pk s) σ1)<=n)(hT:wV B s on k1 k2 n)(σ3:St)(H3:Hid ((au.aN s.data.toList (pk s) n (au.aG (pk s) σ1)).1=σ3))(h3a:σ3.a<=s.size)(h3d:1<=σ3.d/\σ3.d<=9)(τ:St)(HT:Hid (au.dA (pk s) σ3=τ))(HE:Hid (τ.E=0))(hle:σ.a<=τ.a)(wE:τ.a<=s.size)(YB:τ.T.length<=500)(tx:List UInt8)(HX:Hid (au.cut s.data.toList σ.a τ.a=tx))(HC:Hid (τ.T.contains tx=false))(h:RI w B s σ on k1 k2) :
  Calls prog 172 #[Aa B 0] w λe w'=>e=.returned (A ((({τ with T:=τ.T++[tx]},τ.T.length):St×Nat)).2)/\RI w' B s ((({τ with T:=τ.T++[tx]},τ.T.length):St×Nat)).1 on k1 k2/\Below B w w':=by
 go_in
 have FN:=h.c1
 go_wp2_with fail
 refine(eF w B s σ on k1 k2 _ au.letters DN ane ane hs hr.top h).mono ?_;rw[Z HO];rintro e w1 ⟨rfl,JX,NZ⟩;simp only at JX
 go_wp2_with fail
 refine(dV w1 B s σ1 on k1 k2 hs BX h1d JX).mono ?_;rintro e w2 ⟨rfl,dD,BQ⟩
 go_wp2_with fail
 refine(hT w2 _ BJ EC dD).mono ?_;rw[Z H3];generalize (au.aN s.data.toList (pk s) n (au.aG (pk s) σ1)).2=z3;rintro e w3 ⟨rfl,MI,uQ⟩
 go_wp2_with fail
 refine(dU w3 B s σ3 on k1 k2 hs h3a h3d.2 h3d.1 MI).mono ?_;rw[Z HT];rintro e w4 ⟨rfl,hI,TR⟩;have hB:=((NZ.trans BQ).trans uQ).trans TR;have c0:=hI.c0;have c1:=hI.c1;have c3:=hI.c3;rw[Z HE]at c3;obtain⟨v4,v5,r1,r2,r3,r4,r5⟩:=hI.rows;have nN:(σ.a:Int)<=(τ.a:Int):=O
 have mM:(τ.a:Int)<=(s.size:Int):=O
 go_wp2_with fail
 go_quiet (fail)
 go_wp2_with fail
 rw[iH,Z HX];refine(kS _ tx τ.T v4 (B+1) O (by exact r3)).mono ?_;rw[nX (Z HC)];rintro e w2 ⟨rfl,eu⟩;subst eu;obtain⟨i0,hi,jR,ig,jy⟩:=info_parts DR;obtain⟨ao,cap,hv4⟩:=bD r3;subst hv4;have hlt:=hI.lt;have f4:=hI.fz 4;have E8:str tx=.string ⟨tx.toArray⟩:=rfl;rw[E8]
 go_wp2_with (at_builtin;refine wpList_append_own_at _ rfl _ _ 163 rfl (B+1) 9 i0 (.string ⟨#[]⟩) 1 16 underlying163 hi jR ig jy rfl ane (.slice ao τ.T.length cap) τ.T.length (τ.T.map str) rfl (by exact World.ownsRow.alloc (by exact r3) _) (J w4.heap.size 0) 1 1 [str tx] rfl rfl (cell_one_new _ _ _) (vJ tx) anj O anf ?_;intro v' w3 aH dG fC AB;obtain⟨ao2,xO,BD⟩:=bD aH;subst BD;have c4':=(iZ dG (by exact hlt) (by exact r3) 4).trans (by exact r1);have f4':=(lJ dG (by exact hlt) (by exact r3) 4).trans (by exact f4);clear fC)
 have P:=RI.ah2 (hI.drewN _) (by exact r1) (by exact r2) (by exact r3) (by exact r4) r5 aH dG AB
 go_ret
 exact⟨rfl,P.1,hB.trans ((below_drewN _ _ _).trans P.2)⟩
end
section
variable (w:World) (B:Nat) (s:ByteArray) (σ:St) (on:Bool) (k1 k2:Value)
theorem Uw(hs:s.size<=100)(hr:au.kV s.size σ)(n:Nat)(σ1:St)(HO:Hid (au.bF (pk s) au.letters σ=(σ1,103)))(BX:σ1.a<=s.size)(h1d:σ1.d<=8)(BJ:au.kV s.size (au.aG (pk s) σ1))(EC:au.need s.size (au.aG (pk s) σ1)<=n)(hT:wV B s on k1 k2 n)(σ3:St)(H3:Hid ((au.aN s.data.toList (pk s) n (au.aG (pk s) σ1)).1=σ3))(h3a:σ3.a<=s.size)(σ4:St)(c4:Int)(H4:Hid (au.bF (pk s) [44] σ3=(σ4,c4)))(rE:au.kV s.size σ4)(uK:au.need s.size σ4<=n)(σ5:St)(H5:Hid ((au.aN s.data.toList (pk s) n σ4).1=σ5))(D9:σ5.a<=s.size)(xq:1<=σ5.d/\σ5.d<=9)(τ:St)(HT:Hid (au.dA (pk s) σ5=τ))(HE:Hid (τ.E≠0))(h:RI w B s σ on k1 k2) :
  Calls prog 172 #[Aa B 0] w λe w'=>e=.returned (A (((τ,0):St×Nat)).2)/\RI w' B s (((τ,0):St×Nat)).1 on k1 k2/\Below B w w':=by
 go_in
 have FN:=h.c1
 go_wp2_with fail
 refine(eF w B s σ on k1 k2 _ au.letters DN ane ane hs hr.top h).mono ?_;rw[Z HO];rintro e w1 ⟨rfl,JX,NZ⟩;simp only at JX
 go_wp2_with fail
 refine(dV w1 B s σ1 on k1 k2 hs BX h1d JX).mono ?_;rintro e w2 ⟨rfl,dD,BQ⟩
 go_wp2_with fail
 refine(hT w2 _ BJ EC dD).mono ?_;rw[Z H3];generalize (au.aN s.data.toList (pk s) n (au.aG (pk s) σ1)).2=z3;rintro e w3 ⟨rfl,MI,uQ⟩
 go_wp2_with fail
 refine(eF w3 B s σ3 on k1 k2 _ [44] VH ane ane hs h3a MI).mono ?_;rw[Z H4];rintro e w4 ⟨rfl,YG,TR⟩;simp only at YG
 go_wp2_with fail
 refine(hT w4 _ rE uK YG).mono ?_;rw[Z H5];generalize (au.aN s.data.toList (pk s) n σ4).2=z5;rintro e w5 ⟨rfl,hI5,YJ⟩
 go_wp2_with fail
 refine(dU w5 B s σ5 on k1 k2 hs D9 xq.2 xq.1 hI5).mono ?_;rw[Z HT];rintro e w6 ⟨rfl,hI,hB6⟩;have hB:=((((NZ.trans BQ).trans uQ).trans TR).trans YJ).trans hB6;have c3:=hI.c3;have bg:(τ.E != 0)=true:=by simpa using Z HE
 go_wp2_with fail
 go_ret
 exact⟨rfl,hI,hB⟩
theorem Ut(hs:s.size<=100)(hr:au.kV s.size σ)(n:Nat)(σ1:St)(HO:Hid (au.bF (pk s) au.letters σ=(σ1,103)))(BX:σ1.a<=s.size)(h1d:σ1.d<=8)(BJ:au.kV s.size (au.aG (pk s) σ1))(EC:au.need s.size (au.aG (pk s) σ1)<=n)(hT:wV B s on k1 k2 n)(σ3:St)(H3:Hid ((au.aN s.data.toList (pk s) n (au.aG (pk s) σ1)).1=σ3))(h3a:σ3.a<=s.size)(σ4:St)(c4:Int)(H4:Hid (au.bF (pk s) [44] σ3=(σ4,c4)))(rE:au.kV s.size σ4)(uK:au.need s.size σ4<=n)(σ5:St)(H5:Hid ((au.aN s.data.toList (pk s) n σ4).1=σ5))(D9:σ5.a<=s.size)(xq:1<=σ5.d/\σ5.d<=9)(τ:St)(HT:Hid (au.dA (pk s) σ5=τ))(HE:Hid (τ.E=0))(hle:σ.a<=τ.a)(wE:τ.a<=s.size)(YB:τ.T.length<=500)(tx:List UInt8)(HX:Hid (au.cut s.data.toList σ.a τ.a=tx))(HC:Hid (τ.T.contains tx=true))(h:RI w B s σ on k1 k2) :
  Calls prog 172 #[Aa B 0] w λe w'=>e=.returned (A (((τ,τ.T.idxOf tx):St×Nat)).2)/\RI w' B s (((τ,τ.T.idxOf tx):St×Nat)).1 on k1 k2/\Below B w w':=by
 go_in
 have FN:=h.c1
 go_wp2_with fail
 refine(eF w B s σ on k1 k2 _ au.letters DN ane ane hs hr.top h).mono ?_;rw[Z HO];rintro e w1 ⟨rfl,JX,NZ⟩;simp only at JX
 go_wp2_with fail
 refine(dV w1 B s σ1 on k1 k2 hs BX h1d JX).mono ?_;rintro e w2 ⟨rfl,dD,BQ⟩
 go_wp2_with fail
 refine(hT w2 _ BJ EC dD).mono ?_;rw[Z H3];generalize (au.aN s.data.toList (pk s) n (au.aG (pk s) σ1)).2=z3;rintro e w3 ⟨rfl,MI,uQ⟩
 go_wp2_with fail
 refine(eF w3 B s σ3 on k1 k2 _ [44] VH ane ane hs h3a MI).mono ?_;rw[Z H4];rintro e w4 ⟨rfl,YG,TR⟩;simp only at YG
 go_wp2_with fail
 refine(hT w4 _ rE uK YG).mono ?_;rw[Z H5];generalize (au.aN s.data.toList (pk s) n σ4).2=z5;rintro e w5 ⟨rfl,hI5,YJ⟩
 go_wp2_with fail
 refine(dU w5 B s σ5 on k1 k2 hs D9 xq.2 xq.1 hI5).mono ?_;rw[Z HT];rintro e w6 ⟨rfl,hI,hB6⟩;have hB:=((((NZ.trans BQ).trans uQ).trans TR).trans YJ).trans hB6;have c0:=hI.c0;have c1:=hI.c1;have c3:=hI.c3;rw[Z HE]at c3;obtain⟨v4,v5,r1,r2,r3,r4,r5⟩:=hI.rows;have nN:(σ.a:Int)<=(τ.a:Int):=O
 have mM:(τ.a:Int)<=(s.size:Int):=O
 go_wp2_with fail
 go_quiet (fail)
 go_wp2_with fail
 rw[iH,Z HX];refine(kS _ tx τ.T v4 (B+1) O (by exact r3)).mono ?_;rw[lW (Z HC)];rintro e w2 ⟨rfl,eu⟩;subst eu;have Ih:decide (((τ.T.idxOf tx:Nat):Int)<0)=false:=R
 go_wp2_with fail
 go_ret
 exact⟨rfl,hI.drewN _,hB.trans (below_drewN _ _ _)⟩
theorem Uu(hs:s.size<=100)(hr:au.kV s.size σ)(n:Nat)(σ1:St)(HO:Hid (au.bF (pk s) au.letters σ=(σ1,103)))(BX:σ1.a<=s.size)(h1d:σ1.d<=8)(BJ:au.kV s.size (au.aG (pk s) σ1))(EC:au.need s.size (au.aG (pk s) σ1)<=n)(hT:wV B s on k1 k2 n)(σ3:St)(H3:Hid ((au.aN s.data.toList (pk s) n (au.aG (pk s) σ1)).1=σ3))(h3a:σ3.a<=s.size)(σ4:St)(c4:Int)(H4:Hid (au.bF (pk s) [44] σ3=(σ4,c4)))(rE:au.kV s.size σ4)(uK:au.need s.size σ4<=n)(σ5:St)(H5:Hid ((au.aN s.data.toList (pk s) n σ4).1=σ5))(D9:σ5.a<=s.size)(xq:1<=σ5.d/\σ5.d<=9)(τ:St)(HT:Hid (au.dA (pk s) σ5=τ))(HE:Hid (τ.E=0))(hle:σ.a<=τ.a)(wE:τ.a<=s.size)(YB:τ.T.length<=500)(tx:List UInt8)(HX:Hid (au.cut s.data.toList σ.a τ.a=tx))(HC:Hid (τ.T.contains tx=false))(h:RI w B s σ on k1 k2) :
  Calls prog 172 #[Aa B 0] w λe w'=>e=.returned (A ((({τ with T:=τ.T++[tx]},τ.T.length):St×Nat)).2)/\RI w' B s ((({τ with T:=τ.T++[tx]},τ.T.length):St×Nat)).1 on k1 k2/\Below B w w':=by
 go_in
 have FN:=h.c1
 go_wp2_with fail
 refine(eF w B s σ on k1 k2 _ au.letters DN ane ane hs hr.top h).mono ?_;rw[Z HO];rintro e w1 ⟨rfl,JX,NZ⟩;simp only at JX
 go_wp2_with fail
 refine(dV w1 B s σ1 on k1 k2 hs BX h1d JX).mono ?_;rintro e w2 ⟨rfl,dD,BQ⟩
 go_wp2_with fail
 refine(hT w2 _ BJ EC dD).mono ?_;rw[Z H3];generalize (au.aN s.data.toList (pk s) n (au.aG (pk s) σ1)).2=z3;rintro e w3 ⟨rfl,MI,uQ⟩
 go_wp2_with fail
 refine(eF w3 B s σ3 on k1 k2 _ [44] VH ane ane hs h3a MI).mono ?_;rw[Z H4];rintro e w4 ⟨rfl,YG,TR⟩;simp only at YG
 go_wp2_with fail
 refine(hT w4 _ rE uK YG).mono ?_;rw[Z H5];generalize (au.aN s.data.toList (pk s) n σ4).2=z5;rintro e w5 ⟨rfl,hI5,YJ⟩
 go_wp2_with fail
 refine(dU w5 B s σ5 on k1 k2 hs D9 xq.2 xq.1 hI5).mono ?_;rw[Z HT];rintro e w6 ⟨rfl,hI,hB6⟩;have hB:=((((NZ.trans BQ).trans uQ).trans TR).trans YJ).trans hB6;have c0:=hI.c0;have c1:=hI.c1;have c3:=hI.c3;rw[Z HE]at c3;obtain⟨v4,v5,r1,r2,r3,r4,r5⟩:=hI.rows;have nN:(σ.a:Int)<=(τ.a:Int):=O
 have mM:(τ.a:Int)<=(s.size:Int):=O
 go_wp2_with fail
 go_quiet (fail)
 go_wp2_with fail
 rw[iH,Z HX];refine(kS _ tx τ.T v4 (B+1) O (by exact r3)).mono ?_;rw[nX (Z HC)];rintro e w2 ⟨rfl,eu⟩;subst eu;obtain⟨i0,hi,jR,ig,jy⟩:=info_parts DR;obtain⟨ao,cap,hv4⟩:=bD r3;subst hv4;have hlt:=hI.lt;have f4:=hI.fz 4;have E8:str tx=.string ⟨tx.toArray⟩:=rfl;rw[E8]
 go_wp2_with (at_builtin;refine wpList_append_own_at _ rfl _ _ 163 rfl (B+1) 9 i0 (.string ⟨#[]⟩) 1 16 underlying163 hi jR ig jy rfl ane (.slice ao τ.T.length cap) τ.T.length (τ.T.map str) rfl (by exact World.ownsRow.alloc (by exact r3) _) (J w6.heap.size 0) 1 1 [str tx] rfl rfl (cell_one_new _ _ _) (vJ tx) anj O anf ?_;intro v' w3 aH dG fC AB;obtain⟨ao2,xO,BD⟩:=bD aH;subst BD;have c4':=(iZ dG (by exact hlt) (by exact r3) 4).trans (by exact r1);have f4':=(lJ dG (by exact hlt) (by exact r3) 4).trans (by exact f4);clear fC)
 have P:=RI.ah2 (hI.drewN _) (by exact r1) (by exact r2) (by exact r3) (by exact r4) r5 aH dG AB
 go_ret
 exact⟨rfl,P.1,hB.trans ((below_drewN _ _ _).trans P.2)⟩
end
theorem Vp(s:ByteArray):∀a,pk s a≠0->a<s.size:=λ_ h=>dW h
theorem kH{N n:Nat}{σ:St}(I:1<=n)(M:σ.E=0->N+1-σ.a<=n):au.need N σ<=n:=by
 unfold au.need;split
 ·exact M ‹_›
 ·exact I
theorem Xv(B:Nat)(s:ByteArray)(on:Bool)(k1 k2:Value)(n:Nat)(hs:s.size<=100)(hT:wV B s on k1 k2 n):wV B s on k1 k2 (n+1):=by
 intro w σ hr hn h;have bY:=Vp s;unfold au.aN;cases hO:au.bF (pk s) au.letters σ with
 |mk σ1 c=>
  have f1:=au.kZ bY au.RJ hr.top;have d1:=au.wY (pk s) au.letters σ;rw[hO]at f1 d1;simp only at f1 d1;have gX:∀τ:St,au.Fw s.size σ τ->τ.T.length<=500:=λτ f=>by
   have:=f.t;have:=f.top;have:=hr.t;have:=f.le;omega
  by_cases aaQ:c=102
  ·subst aaQ;obtain⟨q1,q2⟩:=au.afW (pk s) au.letters σ (by rw[hO];simp);obtain⟨q3,q4,q5⟩:=au.Dp (pk s) au.letters σ q1;rw[hO]at q5;have e1:σ1={σ with a:=σ.a+1}:=ax1 Prod.fst q5;have hlt:σ.a<s.size:=bY _ (λe=>by rw[e]at q4;simp[au.letters]at q4);have hE1:σ1.E=0:=(by rw[e1];exact q3);have Wi:σ1.d<=8:=(by rw[d1];exact hr.d8 q3);have DX:au.kV s.size σ1:=hr.fw f1 d1;have BJ:=DX.open bY Wi;have hn':s.size+1-σ.a<=n+1:=(by unfold au.need at hn;rw[ao4 q3]at hn;exact hn);have EC:au.need s.size (au.aG (pk s) σ1)<=n:=kH O (λe=>by
    have:=au.nH (pk s) σ1 e;rw[this.2.2.2,e1];simp;omega)
   have f2:=au.jV bY DX.top;have f3:=au.jU bY s.data.toList n (au.aG (pk s) σ1) f2.top;have hIn:au.Hy (pk s) (λτ=>(au.aN s.data.toList (pk s) n τ).1) 102 σ1=au.dA (pk s) (au.aN s.data.toList (pk s) n (au.aG (pk s) σ1)).1:=(by unfold au.Hy;rw[ao4 rfl]);simp only[hIn];obtain⟨f3,d3⟩:=f3;rw[au.pF]at d3;generalize h3:(au.aN s.data.toList (pk s) n (au.aG (pk s) σ1)).1=σ3 at f3 d3;have f4:=au.mF bY f3.top;have ff:=((f1.trans f2).trans f3).trans f4;generalize ht:au.dA (pk s) σ3=τ at f4 ff;have hd3:1<=σ3.d/\σ3.d<=9:=O;by_cases hE:τ.E=0
   ·cases hc:τ.T.contains (au.cut s.data.toList σ.a τ.a)with
    |true=>
     rw[Jr hE hc];exact Ux w B s σ on k1 k2 hs hr n σ1 (F hO) DX.top Wi BJ EC hT σ3 (F h3) f3.top hd3 τ (F ht) (F hE) ff.le ff.top (gX τ ff) _ (F rfl) (F hc) h
    |false=>
     rw[Js hE hc];exact Uy w B s σ on k1 k2 hs hr n σ1 (F hO) DX.top Wi BJ EC hT σ3 (F h3) f3.top hd3 τ (F ht) (F hE) ff.le ff.top (gX τ ff) _ (F rfl) (F hc) h
   ·rw[Jt hE];exact Uz w B s σ on k1 k2 hs hr n σ1 (F hO) DX.top Wi BJ EC hT σ3 (F h3) f3.top hd3 τ (F ht) (F hE) h
  ·by_cases aaP:c=103
   ·subst aaP;obtain⟨q1,q2⟩:=au.afW (pk s) au.letters σ (by rw[hO];simp);obtain⟨q3,q4,q5⟩:=au.Dp (pk s) au.letters σ q1;rw[hO]at q5;have e1:σ1={σ with a:=σ.a+1}:=ax1 Prod.fst q5;have hlt:σ.a<s.size:=bY _ (λe=>by rw[e]at q4;simp[au.letters]at q4);have hE1:σ1.E=0:=(by rw[e1];exact q3);have Wi:σ1.d<=8:=(by rw[d1];exact hr.d8 q3);have DX:au.kV s.size σ1:=hr.fw f1 d1;have BJ:=DX.open bY Wi;have hn':s.size+1-σ.a<=n+1:=(by unfold au.need at hn;rw[ao4 q3]at hn;exact hn);have ha1:σ1.a=σ.a+1:=(by rw[e1]);have EC:au.need s.size (au.aG (pk s) σ1)<=n:=kH O (λe=>by
     have:=au.nH (pk s) σ1 e;rw[this.2.2.2,e1];simp;omega)
    have f2:=au.jV bY DX.top;have f3:=au.jU bY s.data.toList n (au.aG (pk s) σ1) f2.top;have hIn:au.Hy (pk s) (λτ=>(au.aN s.data.toList (pk s) n τ).1) 103 σ1=au.dA (pk s) (au.aN s.data.toList (pk s) n (au.bF (pk s) [44] (au.aN s.data.toList (pk s) n (au.aG (pk s) σ1)).1).1).1:=by
     unfold au.Hy;rw[an8 ane,ao4 rfl]
    simp only[hIn];have UG:=BJ.fw f3.1 f3.2;obtain⟨f3,d3⟩:=f3;rw[au.pF]at d3;generalize h3:(au.aN s.data.toList (pk s) n (au.aG (pk s) σ1)).1=σ3 at f3 d3 UG;have f4:=au.kZ bY (l:=[44]) (by rfl) f3.top;have d4:=au.wY (pk s) [44] σ3;have rE:=UG.fw f4 d4;cases h4:au.bF (pk s) [44] σ3 with
    |mk σ4 c4=>
     rw[h4]at f4 d4 rE;simp only at f4 d4 rE;have uK:au.need s.size σ4<=n:=kH O (λ_=>by have:=f4.le;have:=f3.le;have:=f2.le;omega);have f5:=au.jU bY s.data.toList n σ4 f4.top;obtain⟨f5,d5⟩:=f5;simp only;generalize h5:(au.aN s.data.toList (pk s) n σ4).1=σ5 at f5 d5;have f6:=au.mF bY f5.top;have ff:=((((f1.trans f2).trans f3).trans f4).trans f5).trans f6;generalize ht:au.dA (pk s) σ5=τ at f6 ff;have Wh:1<=σ5.d/\σ5.d<=9:=O;by_cases hE:τ.E=0
     ·cases hc:τ.T.contains (au.cut s.data.toList σ.a τ.a)with
      |true=>
       rw[Jr hE hc];exact Ut w B s σ on k1 k2 hs hr n σ1 (F hO) DX.top Wi BJ EC hT σ3 (F h3) f3.top σ4 c4 (F h4) rE uK σ5 (F h5) f5.top Wh τ (F ht) (F hE) ff.le ff.top (gX τ ff) _ (F rfl) (F hc) h
      |false=>
       rw[Js hE hc];exact Uu w B s σ on k1 k2 hs hr n σ1 (F hO) DX.top Wi BJ EC hT σ3 (F h3) f3.top σ4 c4 (F h4) rE uK σ5 (F h5) f5.top Wh τ (F ht) (F hE) ff.le ff.top (gX τ ff) _ (F rfl) (F hc) h
     ·rw[Jt hE];exact Uw w B s σ on k1 k2 hs hr n σ1 (F hO) DX.top Wi BJ EC hT σ3 (F h3) f3.top σ4 c4 (F h4) rE uK σ5 (F h5) f5.top Wh τ (F ht) (F hE) h
   ·have hIn:au.Hy (pk s) (λτ=>(au.aN s.data.toList (pk s) n τ).1) c σ1=σ1:=(by unfold au.Hy;rw[an8 aaQ,an8 aaP]);simp only[hIn];have b1:(c==102)=false:=(by simpa using aaQ);have b2:(c==103)=false:=(by simpa using aaP);by_cases hE:σ1.E=0
    ·cases hc:σ1.T.contains (au.cut s.data.toList σ.a σ1.a)with
     |true=>
      rw[Jr hE hc];exact KQ w B s σ on k1 k2 hs hr σ1 c (F hO) b1 b2 (F hE) f1.le f1.top (gX _ f1) _ (F rfl) (F hc) h
     |false=>
      rw[Js hE hc];exact KR w B s σ on k1 k2 hs hr σ1 c (F hO) b1 b2 (F hE) f1.le f1.top (gX _ f1) _ (F rfl) (F hc) h
    ·rw[Jt hE];exact KT w B s σ on k1 k2 hs hr σ1 c (F hO) b1 b2 (F hE) h
theorem Jh{N:Nat}{σ:St}(h:σ.a<=N):1<=au.need N σ:=by unfold au.need;split<;>omega
theorem fJ(B:Nat)(s:ByteArray)(on:Bool)(k1 k2:Value)(hs:s.size<=100):∀n,wV B s on k1 k2 n
 |0=>λw σ hr hn h=>absurd hn (by have:=Jh hr.top;omega)
 |n+1=>Xv B s on k1 k2 n hs (fJ B s on k1 k2 hs n)
namespace au
section
variable {pk:Nat->Int} {N:Nat}
theorem jE{pk:Nat->Int}{σ:St}{c:Int}(h:aJ pk σ c=true):σ.E=0/\pk σ.a=c:=by simpa[aJ]using h
theorem wS(bY:∀a,pk a≠0->a<N){σ:St}{c:Int}(hc:c≠0)(h:aJ pk σ c=true):Fw N σ {σ with a:=σ.a+1}:=by
 obtain⟨I,M⟩:=jE h;have:=bY σ.a O;exact⟨R,anf,R,R,λe=>by simpa using e⟩
theorem acS{l:List UInt8}{σ τ:St}{x:Nat}(f:Fw N {σ with a:=σ.a+1} τ):Fw N σ (iK l x τ)/\(iK l x τ).d=τ.d:=by
 have I:=f.le;have M:=f.t;have h3:=f.c;have h4:=f.dead
 simp at I M h3 h4;unfold iK;split
 ·have:=gu τ.C (cut l x τ.a);exact⟨⟨anf,f.top,anf,anf,λe=>by simpa using h4 e⟩,rfl⟩
 ·exact⟨⟨O,f.top,O,O,h4⟩,rfl⟩
theorem sN(bY:∀a,pk a≠0->a<N)(l:List UInt8):∀(n:Nat) (σ:St),σ.a<=N->Fw N σ (aK l pk n σ)/\(aK l pk n σ).d=σ.d:=by
 intro n
 induction n with
 |zero=>intro σ h;exact⟨Fw.refl h,rfl⟩
 |succ n ih=>
  intro σ h;unfold aK;split
  ·rename_i mV;have f1:=wS bY O mV;have g:=ih _ f1.top;exact⟨f1.trans g.1,g.2⟩
  ·split
   ·rename_i h8;have f1:Fw N σ {σ with a:=σ.a+1}:=by
     simp at h8;obtain h8|h8:=h8
     ·exact wS bY O h8
     ·exact wS bY O h8
    have f2:=jV bY f1.top;have f3:=jU bY l (n+1) _ f2.top;have f4:=mF bY f3.1.top;have k:=acS (l:=l) (x:=σ.a) ((f2.trans f3.1).trans f4);refine⟨k.1,?_⟩;rw[k.2,Ox,f3.2,pF];simp
   ·split
    ·have f2:=jV bY h;have f3:=ih _ f2.top;have f4:=kZ bY (l:=[38,124,62,45]) (by rfl) f3.1.top;have f5:=ih _ f4.top;have f6:=mF bY f5.1.top;refine⟨(((f2.trans f3.1).trans f4).trans f5.1).trans f6,?_⟩;rw[Ox,f5.2,wY,f3.2,pF];omega
    ·have f3:=jU bY l (n+1) _ h;have f4:=kZ bY (l:=[61]) (by rfl) f3.1.top;have f5:=jU bY l (n+1) _ f4.top;refine⟨(f3.1.trans f4).trans f5.1,?_⟩;rw[f5.2,wY,f3.2]
end
end au
def KP(B:Nat)(s:ByteArray)(k1 k2:Value)(n:Nat):Prop:=
 ∀(w:World) (σ:St),au.kV s.size σ->au.need s.size σ<=n->RI w B s σ false k1 k2->
  Calls prog 132 #[Aa B 0] w λe w'=>(∃b:Bool,e=.returned (.bool b))/\RI w' B s (au.aK s.data.toList (pk s) n σ) false k1 k2/\Below B w w'
section
variable (w:World) (B:Nat) (s:ByteArray) (σ:St) (k1 k2:Value)
theorem ah6(hs:s.size<=100)(_hr:au.kV s.size σ)(n:Nat)(CB:Hid (au.aJ (pk s) σ 33=true))(hlt:σ.a<s.size)(DX:au.kV s.size {σ with a:=σ.a+1})(hn1:au.need s.size {σ with a:=σ.a+1}<=n)(hF:KP B s k1 k2 n)(h:RI w B s σ false k1 k2) :
  Calls prog 132 #[Aa B 0] w λe w'=>(∃b:Bool,e=.returned (.bool b))/\RI w' B s (au.aK s.data.toList (pk s) n {σ with a:=σ.a+1}) false k1 k2/\Below B w w':=by
 have FN:=h.c1
 go_in
 go_wp2_with fail
 refine(aQ w B s σ false k1 k2 33 O h).mono ?_;rw[Z CB];rintro e w1 ⟨rfl,I,b1⟩;have c1:=I.c1;have f1:=I.fz 1
 go_wp2_with fail
 refine(hF _ {σ with a:=σ.a+1} DX hn1 (I.set1 O)).mono ?_;rintro e w2 ⟨⟨b,rfl⟩,hI,hB⟩
 go_wp2_with fail
 go_ret
 exact⟨⟨_,rfl⟩,hI,(b1.trans (bU _ _ _ _)).trans hB⟩
theorem akH(hs:s.size<=100)(hr:au.kV s.size σ)(n:Nat)(CB:Hid (au.aJ (pk s) σ 33=false))(FW:Hid (au.aJ (pk s) σ 80=false))(UD:Hid (au.aJ (pk s) σ 81=false))(H40:Hid (au.aJ (pk s) σ 40=false))(hn:au.need s.size σ<=n+1)(σ5:St)(H5:Hid ((au.aN s.data.toList (pk s) (n+1) σ).1=σ5))(D9:σ5.a<=s.size)(σ6:St)(c6':Int)(H6:Hid (au.bF (pk s) [61] σ5=(σ6,c6')))(NQ:au.kV s.size σ6)(hn6:au.need s.size σ6<=n+1)(h:RI w B s σ false k1 k2) :
  Calls prog 132 #[Aa B 0] w λe w'=>(∃b:Bool,e=.returned (.bool b))/\RI w' B s ((au.aN s.data.toList (pk s) (n+1) σ6).1) false k1 k2/\Below B w w':=by
 have FN:=h.c1
 go_in
 go_wp2_with fail
 refine(aQ w B s σ false k1 k2 33 O h).mono ?_;rw[Z CB];rintro e w1 ⟨rfl,I,b1⟩
 go_wp2_with fail
 refine(aQ w1 B s σ false k1 k2 80 O I).mono ?_;rw[Z FW];rintro e w2 ⟨rfl,M,b2⟩
 go_wp2_with fail
 refine(aQ w2 B s σ false k1 k2 81 O M).mono ?_;rw[Z UD];rintro e w3 ⟨rfl,h3,b3⟩
 go_wp2_with fail
 refine(aQ w3 B s σ false k1 k2 40 O h3).mono ?_;rw[Z H40];rintro e w4 ⟨rfl,h4,b4⟩
 go_wp2_with fail
 refine(fJ B s false k1 k2 hs (n+1) w4 σ hr hn h4).mono ?_;rw[Z H5];generalize (au.aN s.data.toList (pk s) (n+1) σ).2=z5;rintro e w5 ⟨rfl,h5,b5⟩
 go_wp2_with fail
 refine(eF w5 B s σ5 false k1 k2 _ [61] acY ane ane hs D9 h5).mono ?_;rw[Z H6];rintro e w6 ⟨rfl,h6,b6⟩;simp only at h6
 go_wp2_with fail
 refine(fJ B s false k1 k2 hs (n+1) w6 σ6 NQ hn6 h6).mono ?_;generalize (au.aN s.data.toList (pk s) (n+1) σ6).2=z7;rintro e w7 ⟨rfl,h7,b7⟩;have c6:=h7.c6;have hB:=(((((b1.trans b2).trans b3).trans b4).trans b5).trans b6).trans b7
 go_wp2_with fail
 go_quiet (fail)
 go_wp2_with fail
 go_ret
 exact⟨⟨_,rfl⟩,h7.drewN _,hB.trans (below_drewN _ _ _)⟩
end
section
variable (w:World) (B:Nat) (s:ByteArray) (σ:St) (k1 k2:Value)
theorem akI(hs:s.size<=100)(hr:au.kV s.size σ)(n:Nat)(CB:Hid (au.aJ (pk s) σ 33=false))(FW:Hid (au.aJ (pk s) σ 80=false))(UD:Hid (au.aJ (pk s) σ 81=false))(H40:Hid (au.aJ (pk s) σ 40=true))(tJ:σ.d<=8)(JD:au.kV s.size (au.aG (pk s) σ))(hn5:au.need s.size (au.aG (pk s) σ)<=n)(hF:KP B s k1 k2 n)(σ6:St)(H6:Hid (au.aK s.data.toList (pk s) n (au.aG (pk s) σ)=σ6))(h6a:σ6.a<=s.size)(σ7:St)(c7:Int)(H7:Hid (au.bF (pk s) [38,124,62,45] σ6=(σ7,c7)))(Yo:au.kV s.size σ7)(hn7:au.need s.size σ7<=n)(σ8:St)(H8:Hid (au.aK s.data.toList (pk s) n σ7=σ8))(h8a:σ8.a<=s.size)(h8d:1<=σ8.d/\σ8.d<=9)(h:RI w B s σ false k1 k2) :
  Calls prog 132 #[Aa B 0] w λe w'=>(∃b:Bool,e=.returned (.bool b))/\RI w' B s (au.dA (pk s) σ8) false k1 k2/\Below B w w':=by
 have FN:=h.c1
 go_in
 go_wp2_with fail
 refine(aQ w B s σ false k1 k2 33 O h).mono ?_;rw[Z CB];rintro e w1 ⟨rfl,I,b1⟩
 go_wp2_with fail
 refine(aQ w1 B s σ false k1 k2 80 O I).mono ?_;rw[Z FW];rintro e w2 ⟨rfl,M,b2⟩
 go_wp2_with fail
 refine(aQ w2 B s σ false k1 k2 81 O M).mono ?_;rw[Z UD];rintro e w3 ⟨rfl,h3,b3⟩
 go_wp2_with fail
 refine(aQ w3 B s σ false k1 k2 40 O h3).mono ?_;rw[Z H40];rintro e w4 ⟨rfl,h4,b4⟩
 go_wp2_with fail
 refine(dV w4 B s σ false k1 k2 hs hr.top tJ h4).mono ?_;rintro e w5 ⟨rfl,h5,b5⟩
 go_wp2_with fail
 refine(hF w5 _ JD hn5 h5).mono ?_;rw[Z H6];rintro e w6 ⟨⟨x6,rfl⟩,h6,b6⟩
 go_wp2_with fail
 refine(eF w6 B s σ6 false k1 k2 _ [38,124,62,45] afY ane ane hs h6a h6).mono ?_;rw[Z H7];rintro e w7 ⟨rfl,h7,b7⟩;simp only at h7
 go_wp2_with fail
 refine(hF w7 _ Yo hn7 h7).mono ?_;rw[Z H8];rintro e w8 ⟨⟨x8,rfl⟩,h8,b8⟩
 go_wp2_with fail
 refine(dU w8 B s σ8 false k1 k2 hs h8a h8d.2 h8d.1 h8).mono ?_;rintro e w9 ⟨rfl,h9,b9⟩;have hB:=(((((((b1.trans b2).trans b3).trans b4).trans b5).trans b6).trans b7).trans b8).trans b9
 go_wp2_with fail
 all_goals
  go_ret
  exact⟨⟨_,rfl⟩,h9,hB⟩
end
end Go.Proofs.YthcppbmkacbbiabGreat
