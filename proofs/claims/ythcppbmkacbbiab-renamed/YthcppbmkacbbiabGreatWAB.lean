import Derived.Test.YthcppbmkacbbiabGreatChecked
import Derived.Test.YthcppbmkacbbiabGreatWAA
import Derived.WalkKit
import Derived.WalkSpells
import Derived.WalkLawsBesides
import Derived.Maps.OwnSet
import Derived.DeepKeys4
import Derived.ProofKit
set_option linter.unusedSimpArgs false
set_option maxHeartbeats 400000
set_option maxRecDepth 100000
namespace Go.Proofs.YthcppbmkacbbiabGreat
open Go.Proofs.Tryz
open Go.RowKit Go.Maps Go.WideMaps
open aB (Key put)
theorem aj{p:Prop}(h:p):Hid p:=h
theorem ah{p:Prop}(h:Hid p):p:=h
theorem laidOut:laidOutB prog=true:=by kernel_rfl
theorem rowT:(76:TypeId)<prog.types.size:=al2 (by kernel_rfl)
theorem rowP:(82:TypeId)<prog.types.size:=al2 (by kernel_rfl)
theorem V7:(79:TypeId)<prog.types.size:=al2 (by kernel_rfl)
theorem Ye:(match prog.underlying 76 with|some (.array _ _)|some (.struct _)=>true|_=>false)=true:=by kernel_rfl
theorem Yf:(match prog.underlying 82 with|some (.array _ _)|some (.struct _)=>true|_=>false)=true:=by kernel_rfl
theorem Yg:(match prog.underlying 79 with|some (.array _ _)|some (.struct _)=>true|_=>false)=true:=by kernel_rfl
theorem qO:Keyed prog 76:=Keyed.of_law (deep_law_laid laidOut (m:=2) (by omega) rowT (by kernel_rfl) Ye)
theorem oh:Keyed prog 82:=Keyed.of_law (deep_law_laid laidOut (m:=2) (by omega) rowP (by kernel_rfl) Yf)
theorem qP:Keyed prog 79:=Keyed.of_law (deep_law_laid laidOut (m:=2) (by omega) V7 (by kernel_rfl) Yg)
theorem zeroE(w:World):(zeroValue 3).run prog w=.ok (.int .i64 0) w:=by kernel_rfl
def aS(k:Key):Value:=.agg #[.int .u8 k.1,.int .i64 k.2.1,.int .i64 k.2.2]
def iT(k:Int×Nat):Value:=.agg #[.int .u8 k.1,.int .i64 k.2]
theorem qF{a b:Key}(h:aS a=aS b):a=b:=by
 obtain⟨a1,a2,a3⟩:=a;obtain⟨b1,b2,b3⟩:=b;simp[aS]at h;obtain⟨h1,h2,h3⟩:=h;simp;omega
theorem CU{a b:Int×Nat}(h:iT a=iT b):a=b:=by
 obtain⟨a1,a2⟩:=a;obtain⟨b1,b2⟩:=b;simp[iT]at h;obtain⟨h1,h2⟩:=h;simp;omega
theorem DY:prog.cellsOf 76=3:=by kernel_rfl
theorem DZ:prog.cellsOf 82=3:=by kernel_rfl
theorem D5:prog.cellsOf 79=2:=by kernel_rfl
theorem vO:prog.cellsOf 3=1:=by kernel_rfl
theorem vN:prog.cellsOf 5=1:=by kernel_rfl
theorem PI(n:Nat)(a:Int)(w1:(Lit.int .u8 a).wf=true):prog.keyLits (n+1) 5 [.int .u8 a]=some [.int .u8 a]:=by
 simp only[Program.keyLits,underlying5,w1,and_self,al0]
theorem EZ(n:Nat)(a:Int)(w1:(Lit.int .i64 a).wf=true):prog.keyLits (n+1) 3 [.int .i64 a]=some [.int .i64 a]:=by
 simp only[Program.keyLits,underlying3,w1,and_self,al0]
theorem Yv(n:Nat)(a b c:Int)(w1:(Lit.int .u8 a).wf=true)(w2:(Lit.int .i64 b).wf=true)(w3:(Lit.int .i64 c).wf=true) :
  prog.keyLits (n+2) 76 [.int .u8 a,.int .i64 b,.int .i64 c]=some [.int .u8 a,.int .i64 b,.int .i64 c]:=by
 unfold Program.keyLits;simp only[underlying76,DY];rw[af6 ⟨rfl,by kernel_rfl⟩];simp only[as1,as4,vO,vN,List.drop,List.take,PI _ a w1,EZ _ b w2,EZ _ c w3];rfl
theorem Yw(n:Nat)(a b c:Int)(w1:(Lit.int .u8 a).wf=true)(w2:(Lit.int .i64 b).wf=true)(w3:(Lit.int .i64 c).wf=true) :
  prog.keyLits (n+2) 82 [.int .u8 a,.int .i64 b,.int .i64 c]=some [.int .u8 a,.int .i64 b,.int .i64 c]:=by
 unfold Program.keyLits;simp only[underlying82,DZ];rw[af6 ⟨rfl,by kernel_rfl⟩];simp only[as1,as4,vO,vN,List.drop,List.take,PI _ a w1,EZ _ b w2,EZ _ c w3];rfl
theorem Yx(n:Nat)(a b:Int)(w1:(Lit.int .u8 a).wf=true)(w2:(Lit.int .i64 b).wf=true) :
  prog.keyLits (n+2) 79 [.int .u8 a,.int .i64 b]=some [.int .u8 a,.int .i64 b]:=by
 unfold Program.keyLits;simp only[underlying79,D5];rw[af6 ⟨rfl,by kernel_rfl⟩];simp only[as1,as4,vO,vN,List.drop,List.take,PI _ a w1,EZ _ b w2];rfl
theorem ktT:prog.keyType 76=true:=by kernel_rfl
theorem ktP:prog.keyType 82=true:=by kernel_rfl
theorem ktC:prog.keyType 79=true:=by kernel_rfl
theorem VT(x:Nat)(h:0<x):∃n,x+1=n+2:=⟨x-1,by omega⟩
theorem uO:∃n,prog.types.size+1=n+2:=VT _ (Nat.lt_of_le_of_lt (ah2 _) rowT)
theorem ny{P:Program}{k:TypeId}{fs:Array Field}{v:Value}{ls:List Lit}(hu:P.underlying k=some (.struct fs))(hk:P.keyType k=true)(hf:v.formed P k=true)
 (hl:P.keyLits (P.types.size+1) k v.cells.toList=some ls):keyOf P k v=some (.string (keyBytes ls)):=by
 simp[keyOf,hu,hk,hf,hl]
theorem MN(k:Key)(h1:0<=k.1/\k.1<=255)(h2:k.2.1<=1000)(h3:k.2.2<=1000):∃l,keyOf prog 76 (aS k)=some l:=by
 have w1:(Lit.int .u8 k.1).wf=true:=WalkArith.wf_u8 (by omega);have w2:(Lit.int .i64 k.2.1).wf=true:=WalkArith.wf_i64 (by omega);have w3:(Lit.int .i64 k.2.2).wf=true:=WalkArith.wf_i64 (by omega);obtain⟨n,hn⟩:=uO;have hf:(aS k).formed prog 76=true:=by simp only[aS,Value.formed,underlying76,DY];rfl
 exact⟨_,ny underlying76 ktT hf (by rw[hn];exact Yv n _ _ _ w1 w2 w3)⟩
theorem MO(k:Key)(h1:0<=k.1/\k.1<=255)(h2:k.2.1<=1000)(h3:k.2.2<=1000):∃l,keyOf prog 82 (aS k)=some l:=by
 have w1:(Lit.int .u8 k.1).wf=true:=WalkArith.wf_u8 (by omega);have w2:(Lit.int .i64 k.2.1).wf=true:=WalkArith.wf_i64 (by omega);have w3:(Lit.int .i64 k.2.2).wf=true:=WalkArith.wf_i64 (by omega);obtain⟨n,hn⟩:=uO;have hf:(aS k).formed prog 82=true:=by simp only[aS,Value.formed,underlying82,DZ];rfl
 exact⟨_,ny underlying82 ktP hf (by rw[hn];exact Yw n _ _ _ w1 w2 w3)⟩
theorem Uj(k:Int×Nat)(h1:0<=k.1/\k.1<=255)(h2:k.2<=1000):∃l,keyOf prog 79 (iT k)=some l:=by
 have w1:(Lit.int .u8 k.1).wf=true:=WalkArith.wf_u8 (by omega);have w2:(Lit.int .i64 k.2).wf=true:=WalkArith.wf_i64 (by omega);obtain⟨n,hn⟩:=uO;have hf:(iT k).formed prog 79=true:=by simp only[iT,Value.formed,underlying79,D5];rfl
 exact⟨_,ny underlying79 ktC hf (by rw[hn];exact Yx n _ _ w1 w2)⟩
def aH{α:Type}[BEq α](w:World)(k b:Nat)(kv:α->Value)(ts:List α):Prop:=
 ∃D:DataW Unit,w.ownsMap prog k (plainElem prog 3) b ts.length D/\Maps.size D=ts.length/\
  (∀x l,keyOf prog k (kv x)=some l->Maps.has D l=ts.contains x/\(ts.contains x=true->D.atKey l (.lit (.int .i64 0))=.lit (.int .i64 (ts.idxOf x))))/\
  ∀l,Maps.has D l=true->∃x,ts.contains x=true/\keyOf prog k (kv x)=some l
section
variable {α:Type} [BEq α] {w w':World} {k b:Nat} {kv:α->Value} {ts:List α}
theorem aH.lt(h:aH w k b kv ts):b<w.heap.size:=by
 obtain⟨D,h1,_⟩:=h;exact h1.lt
theorem aH.kept(h:aH w k b kv ts)(hb:w'.heap[b]?=w.heap[b]?):aH w' k b kv ts:=by
 obtain⟨D,⟨es,clock,h1,h2⟩,h3⟩:=h;exact⟨D,⟨es,clock,hb.trans h1,h2⟩,h3⟩
theorem jd(w:World)(k:Nat)(kv:α->Value):aH (w.alloc (.map #[] 0)) k w.heap.size kv ([]:List α):=
 ⟨.map [],World.ownsMap_made w _ _ _,rfl,λx l _=>⟨rfl,λh=>by simp at h⟩,λl h=>by cases h⟩
theorem qC[LawfulBEq α]{D:DataW Unit}(hinj:∀a b:α,kv a=kv b->a=b)(K:Keyed prog k)
 (h2:Maps.size D=ts.length)(h3:∀x l,keyOf prog k (kv x)=some l->Maps.has D l=ts.contains x/\(ts.contains x=true->D.atKey l (.lit (.int .i64 0))=.lit (.int .i64 (ts.idxOf x))))
 (h3':∀l,Maps.has D l=true->∃x,ts.contains x=true/\keyOf prog k (kv x)=some l)(h4:Tidy D){x:α}{l:Lit}(hl:keyOf prog k (kv x)=some l)(hx:ts.contains x=false)
 (h5:w'.ownsMap prog k (plainElem prog 3) b (ts.length+1) (D.put l (.lit (.int .i64 ts.length)))) :
  aH w' k b kv (ts++[x]):=by
 have hx':¬x∈ts:=by simpa using hx
 refine⟨_,by simpa using h5,?_,?_,?_⟩
 ·rw[size_put h4,(h3 x l hl).1,hx];simp[h2]
 ·intro y m hm;by_cases e:m=l
  ·subst e;have:y=x:=hinj _ _ (K.inj hm hl);subst this;refine⟨by rw[has_put_same h4.isMap (K.key hl)];simp,λ_=>?_⟩;rw[atKey_put_same h4.isMap (K.key hl)];simp[al3,hx']
  ·have hne:y≠x:=λe'=>e (by subst e';rw[hm]at hl;exact ak1 hl);rw[has_put_other e,atKey_put_other e,(h3 y m hm).1];refine⟨by simp[hne],λhy=>?_⟩;have hy':y∈ts:=(by simpa[hne]using hy);rw[(h3 y m hm).2 (by simpa using hy')];simp[al3,hy']
 ·intro m hm;by_cases e:m=l
  ·subst e;exact⟨x,by simp,hl⟩
  ·rw[has_put_other e]at hm;obtain⟨y,hy,hk⟩:=h3' m hm;exact⟨y,by simp at hy ⊢;exact Or.inl hy,hk⟩
end
theorem gQ{k:IntKind}{a b:Int}(h:a=b):Ending.returned (.int k a)=.returned (.int k b):=by rw[h]
theorem Pj(BT:Nat)(ts:List Key)(c:Int)(x y:Nat)(w:World)(h1:0<=c/\c<=255)(h2:x<=1000)(h3:y<=1000)(hl:ts.length<=1000)(hM:aH w 76 BT aS ts) :
  Calls prog 141 #[.map (some BT),.agg #[.int .u8 c,.int .i64 x,.int .i64 y]] w λe w'=>
   e=.returned (.int .i64 (ts.idxOf (c,x,y)))/\aH w' 76 BT aS (put ts (c,x,y))/\w.grownBy w' (some BT):=by
 obtain⟨l,hkey⟩:=MN (c,x,y) h1 h2 h3;obtain⟨D,hown,hsz,hall,hback⟩:=hM;have hk0:=hall _ _ hkey;have fD:=hown.tidy qO;have hkey':keyOf prog 76 (.agg #[.int .u8 c,.int .i64 x,.int .i64 y])=some l:=hkey;have gB:=aj hall;have jD:=aj hback;have nZ:=aj hsz;have HK:=aj hkey;clear hall hsz hkey hback;cases hc:ts.contains (c,x,y)
 ·rw[hc]at hk0;have hhas:Maps.has D l=false:=hk0.1;clear hk0;have HC:=aj hc;clear hc
  go_enter func141,ntmps141
  go_wp2_with (first
   |(at_lookup;refine wpList_lookup_own_ok_int _ rfl _ _ 65 rfl 76 3 .i64 qO underlying65 underlying3 (zeroE _) BT ts.length D rfl (hown.alloc _) _ l rfl hkey' ?_;intro c0 hat hwc)
   |(at_len;refine wpList_len_own _ rfl _ 65 rfl 76 3 underlying65 _ BT ts.length D rfl (hown.alloc _) ?_)
   |(at_mapUpdate;refine wpList_mapUpdate_own _ rfl _ _ _ 65 rfl 76 3 qO underlying65 _ BT ts.length D rfl (hown.alloc _) (by unfold maxLen;omega) _ _ l rfl rfl hkey' _ [] (plainElem_int underlying3 (WalkArith.wf_i64 (by have:=ah nZ;omega))) ?_;intro w1 hown1 hgrow1))
  go_ret
  have hsz:=ah nZ;have hc:=ah HC;have hn:¬(c,x,y)∈ts:=by simpa using hc
  refine⟨gQ ?_,?_,(World.grownBy_alloc _ _ _).trans hgrow1⟩
  ·rw[hsz,ai9 hn]
  ·have hp:put ts (c,x,y)=ts++[(c,x,y)]:=(by unfold put;rw[hc];rfl);rw[hp];rw[hsz]at hown1;exact qC (λ_ _=>qF) qO hsz (ah gB) (ah jD) fD (ah HK) hc hown1
 ·rw[hc]at hk0;have hhas:Maps.has D l=true:=hk0.1;have HAT:=aj (hk0.2 rfl);clear hk0;have HC:=aj hc;clear hc
  go_enter func141,ntmps141
  go_wp2_with (first
   |(at_lookup;refine wpList_lookup_own_ok_int _ rfl _ _ 65 rfl 76 3 .i64 qO underlying65 underlying3 (zeroE _) BT ts.length D rfl (hown.alloc _) _ l rfl hkey' ?_;intro c0 hat hwc))
  go_ret
  have hc:=ah HC;refine⟨gQ ?_,?_,World.grownBy_alloc _ _ _⟩
  ·have h:=hat.symm.trans (ah HAT);simpa using h
  ·have hp:put ts (c,x,y)=ts:=(by unfold put;rw[hc];rfl);rw[hp];exact⟨D,hown.alloc _,ah nZ,ah gB,ah jD⟩
theorem ES(BT:Nat)(ts:List Key)(c:Int)(x y:Nat)(w:World)(h1:0<=c/\c<=255)(h2:x<=1000)(h3:y<=1000)(hl:ts.length<=1000)(hM:aH w 82 BT aS ts) :
  Calls prog 50 #[.map (some BT),.agg #[.int .u8 c,.int .i64 x,.int .i64 y]] w λe w'=>
   e=.returned (.int .i64 (ts.idxOf (c,x,y)))/\aH w' 82 BT aS (put ts (c,x,y))/\w.grownBy w' (some BT):=by
 obtain⟨l,hkey⟩:=MO (c,x,y) h1 h2 h3;obtain⟨D,hown,hsz,hall,hback⟩:=hM;have hk0:=hall _ _ hkey;have fD:=hown.tidy oh;have hkey':keyOf prog 82 (.agg #[.int .u8 c,.int .i64 x,.int .i64 y])=some l:=hkey;have gB:=aj hall;have jD:=aj hback;have nZ:=aj hsz;have HK:=aj hkey;clear hall hsz hkey hback;cases hc:ts.contains (c,x,y)
 ·rw[hc]at hk0;have hhas:Maps.has D l=false:=hk0.1;clear hk0;have HC:=aj hc;clear hc
  go_enter func50,ntmps50
  go_wp2_with (first
   |(at_lookup;refine wpList_lookup_own_ok_int _ rfl _ _ 69 rfl 82 3 .i64 oh underlying69 underlying3 (zeroE _) BT ts.length D rfl (hown.alloc _) _ l rfl hkey' ?_;intro c0 hat hwc)
   |(at_len;refine wpList_len_own _ rfl _ 69 rfl 82 3 underlying69 _ BT ts.length D rfl (hown.alloc _) ?_)
   |(at_mapUpdate;refine wpList_mapUpdate_own _ rfl _ _ _ 69 rfl 82 3 oh underlying69 _ BT ts.length D rfl (hown.alloc _) (by unfold maxLen;omega) _ _ l rfl rfl hkey' _ [] (plainElem_int underlying3 (WalkArith.wf_i64 (by have:=ah nZ;omega))) ?_;intro w1 hown1 hgrow1))
  go_ret
  have hsz:=ah nZ;have hc:=ah HC;have hn:¬(c,x,y)∈ts:=by simpa using hc
  refine⟨gQ ?_,?_,(World.grownBy_alloc _ _ _).trans hgrow1⟩
  ·rw[hsz,ai9 hn]
  ·have hp:put ts (c,x,y)=ts++[(c,x,y)]:=(by unfold put;rw[hc];rfl);rw[hp];rw[hsz]at hown1;exact qC (λ_ _=>qF) oh hsz (ah gB) (ah jD) fD (ah HK) hc hown1
 ·rw[hc]at hk0;have hhas:Maps.has D l=true:=hk0.1;have HAT:=aj (hk0.2 rfl);clear hk0;have HC:=aj hc;clear hc
  go_enter func50,ntmps50
  go_wp2_with (first
   |(at_lookup;refine wpList_lookup_own_ok_int _ rfl _ _ 69 rfl 82 3 .i64 oh underlying69 underlying3 (zeroE _) BT ts.length D rfl (hown.alloc _) _ l rfl hkey' ?_;intro c0 hat hwc))
  go_ret
  have hc:=ah HC;refine⟨gQ ?_,?_,World.grownBy_alloc _ _ _⟩
  ·have h:=hat.symm.trans (ah HAT);simpa using h
  ·have hp:put ts (c,x,y)=ts:=(by unfold put;rw[hc];rfl);rw[hp];exact⟨D,hown.alloc _,ah nZ,ah gB,ah jD⟩
theorem Po(BT:Nat)(ts:List (Int×Nat))(c:Int)(x:Nat)(w:World)(h1:0<=c/\c<=255)(h2:x<=1000)(hl:ts.length<=1000)(hM:aH w 79 BT iT ts) :
  Calls prog 95 #[.map (some BT),.agg #[.int .u8 c,.int .i64 x]] w λe w'=>
   e=.returned (.int .i64 (ts.idxOf (c,x)))/\aH w' 79 BT iT (put ts (c,x))/\w.grownBy w' (some BT):=by
 obtain⟨l,hkey⟩:=Uj (c,x) h1 h2;obtain⟨D,hown,hsz,hall,hback⟩:=hM;have hk0:=hall _ _ hkey;have fD:=hown.tidy qP;have hkey':keyOf prog 79 (.agg #[.int .u8 c,.int .i64 x])=some l:=hkey;have gB:=aj hall;have jD:=aj hback;have nZ:=aj hsz;have HK:=aj hkey;clear hall hsz hkey hback;cases hc:ts.contains (c,x)
 ·rw[hc]at hk0;have hhas:Maps.has D l=false:=hk0.1;clear hk0;have HC:=aj hc;clear hc
  go_enter func95,ntmps95
  go_wp2_with (first
   |(at_lookup;refine wpList_lookup_own_ok_int _ rfl _ _ 67 rfl 79 3 .i64 qP underlying67 underlying3 (zeroE _) BT ts.length D rfl (hown.alloc _) _ l rfl hkey' ?_;intro c0 hat hwc)
   |(at_len;refine wpList_len_own _ rfl _ 67 rfl 79 3 underlying67 _ BT ts.length D rfl (hown.alloc _) ?_)
   |(at_mapUpdate;refine wpList_mapUpdate_own _ rfl _ _ _ 67 rfl 79 3 qP underlying67 _ BT ts.length D rfl (hown.alloc _) (by unfold maxLen;omega) _ _ l rfl rfl hkey' _ [] (plainElem_int underlying3 (WalkArith.wf_i64 (by have:=ah nZ;omega))) ?_;intro w1 hown1 hgrow1))
  go_ret
  have hsz:=ah nZ;have hc:=ah HC;have hn:¬(c,x)∈ts:=by simpa using hc
  refine⟨gQ ?_,?_,(World.grownBy_alloc _ _ _).trans hgrow1⟩
  ·rw[hsz,ai9 hn]
  ·have hp:put ts (c,x)=ts++[(c,x)]:=(by unfold put;rw[hc];rfl);rw[hp];rw[hsz]at hown1;exact qC (λ_ _=>CU) qP hsz (ah gB) (ah jD) fD (ah HK) hc hown1
 ·rw[hc]at hk0;have hhas:Maps.has D l=true:=hk0.1;have HAT:=aj (hk0.2 rfl);clear hk0;have HC:=aj hc;clear hc
  go_enter func95,ntmps95
  go_wp2_with (first
   |(at_lookup;refine wpList_lookup_own_ok_int _ rfl _ _ 67 rfl 79 3 .i64 qP underlying67 underlying3 (zeroE _) BT ts.length D rfl (hown.alloc _) _ l rfl hkey' ?_;intro c0 hat hwc))
  go_ret
  have hc:=ah HC;refine⟨gQ ?_,?_,World.grownBy_alloc _ _ _⟩
  ·have h:=hat.symm.trans (ah HAT);simpa using h
  ·have hp:put ts (c,x)=ts:=(by unfold put;rw[hc];rfl);rw[hp];exact⟨D,hown.alloc _,ah nZ,ah gB,ah jD⟩
end Go.Proofs.YthcppbmkacbbiabGreat
