import Derived.Test.YthcppbmkacbbiaaGreatChecked
import Derived.Test.YthcppbmkacbbiaaGreatXAA
import Derived.WalkKit
import Derived.WalkSpells
import Derived.WalkLawsBesides
import Derived.Maps.OwnSet
import Derived.DeepKeys4
import Derived.ProofKit
set_option linter.unusedSimpArgs false
set_option maxHeartbeats 400000
set_option maxRecDepth 100000
namespace Go.Proofs.YthcppbmkacbbiaaGreat
open Go.Proofs.Tryz
open Go.RowKit Go.Maps Go.WideMaps
open aB (Key put)
theorem aj{p:Prop}(h:p):Hid p:=h
theorem ah{p:Prop}(h:Hid p):p:=h
theorem laidOut:laidOutB prog=true:=by kernel_rfl
theorem rowT:(87:TypeId)<prog.types.size:=of_decide_eq_true (by kernel_rfl)
theorem rowP:(93:TypeId)<prog.types.size:=of_decide_eq_true (by kernel_rfl)
theorem UY:(90:TypeId)<prog.types.size:=of_decide_eq_true (by kernel_rfl)
theorem WW:(match prog.underlying 87 with|some (.array _ _)|some (.struct _)=>true|_=>false)=true:=by kernel_rfl
theorem WX:(match prog.underlying 93 with|some (.array _ _)|some (.struct _)=>true|_=>false)=true:=by kernel_rfl
theorem WY:(match prog.underlying 90 with|some (.array _ _)|some (.struct _)=>true|_=>false)=true:=by kernel_rfl
theorem qH:Keyed prog 87:=Keyed.of_law (deep_law_laid laidOut (m:=2) (by omega) rowT (by kernel_rfl) WW)
theorem nV:Keyed prog 93:=Keyed.of_law (deep_law_laid laidOut (m:=2) (by omega) rowP (by kernel_rfl) WX)
theorem qI:Keyed prog 90:=Keyed.of_law (deep_law_laid laidOut (m:=2) (by omega) UY (by kernel_rfl) WY)
theorem zeroE(w:World):(zeroValue 3).run prog w=.ok (.int .i64 0) w:=by kernel_rfl
def aQ(k:Key):Value:=.agg #[.int .u8 k.1,.int .i64 k.2.1,.int .i64 k.2.2]
def iT(k:Int×Nat):Value:=.agg #[.int .u8 k.1,.int .i64 k.2]
theorem qA{a b:Key}(h:aQ a=aQ b):a=b:=by
 obtain⟨a1,a2,a3⟩:=a;obtain⟨b1,b2,b3⟩:=b;simp[aQ]at h;obtain⟨h1,h2,h3⟩:=h;simp;omega
theorem BJ{a b:Int×Nat}(h:iT a=iT b):a=b:=by
 obtain⟨a1,a2⟩:=a;obtain⟨b1,b2⟩:=b;simp[iT]at h;obtain⟨h1,h2⟩:=h;simp;omega
theorem Dk:prog.cellsOf 87=3:=by kernel_rfl
theorem Dl:prog.cellsOf 93=3:=by kernel_rfl
theorem Dn:prog.cellsOf 90=2:=by kernel_rfl
theorem uV:prog.cellsOf 3=1:=by kernel_rfl
theorem uU:prog.cellsOf 5=1:=by kernel_rfl
theorem OD(n:Nat)(a:Int)(w1:(Lit.int .u8 a).wf=true):prog.keyLits (n+1) 5 [.int .u8 a]=some [.int .u8 a]:=by
 simp only[Program.keyLits,underlying5,w1,and_self,ah9]
theorem Ew(n:Nat)(a:Int)(w1:(Lit.int .i64 a).wf=true):prog.keyLits (n+1) 3 [.int .i64 a]=some [.int .i64 a]:=by
 simp only[Program.keyLits,underlying3,w1,and_self,ah9]
theorem Xn(n:Nat)(a b c:Int)(w1:(Lit.int .u8 a).wf=true)(w2:(Lit.int .i64 b).wf=true)(w3:(Lit.int .i64 c).wf=true) :
  prog.keyLits (n+2) 87 [.int .u8 a,.int .i64 b,.int .i64 c]=some [.int .u8 a,.int .i64 b,.int .i64 c]:=by
 unfold Program.keyLits;simp only[underlying87,Dk];rw[ad3 ⟨rfl,by kernel_rfl⟩];simp only[ao7,ap2,uV,uU,List.drop,List.take,OD _ a w1,Ew _ b w2,Ew _ c w3];rfl
theorem Xo(n:Nat)(a b c:Int)(w1:(Lit.int .u8 a).wf=true)(w2:(Lit.int .i64 b).wf=true)(w3:(Lit.int .i64 c).wf=true) :
  prog.keyLits (n+2) 93 [.int .u8 a,.int .i64 b,.int .i64 c]=some [.int .u8 a,.int .i64 b,.int .i64 c]:=by
 unfold Program.keyLits;simp only[underlying93,Dl];rw[ad3 ⟨rfl,by kernel_rfl⟩];simp only[ao7,ap2,uV,uU,List.drop,List.take,OD _ a w1,Ew _ b w2,Ew _ c w3];rfl
theorem Xp(n:Nat)(a b:Int)(w1:(Lit.int .u8 a).wf=true)(w2:(Lit.int .i64 b).wf=true) :
  prog.keyLits (n+2) 90 [.int .u8 a,.int .i64 b]=some [.int .u8 a,.int .i64 b]:=by
 unfold Program.keyLits;simp only[underlying90,Dn];rw[ad3 ⟨rfl,by kernel_rfl⟩];simp only[ao7,ap2,uV,uU,List.drop,List.take,OD _ a w1,Ew _ b w2];rfl
theorem ktT:prog.keyType 87=true:=by kernel_rfl
theorem ktP:prog.keyType 93=true:=by kernel_rfl
theorem ktC:prog.keyType 90=true:=by kernel_rfl
theorem UM(x:Nat)(h:0<x):∃n,x+1=n+2:=⟨x-1,by omega⟩
theorem uj:∃n,prog.types.size+1=n+2:=UM _ (Nat.lt_of_le_of_lt (af4 _) rowT)
theorem mY{P:Program}{k:TypeId}{fs:Array Field}{v:Value}{ls:List Lit}(hu:P.underlying k=some (.struct fs))(hk:P.keyType k=true)(hf:v.formed P k=true)
 (hl:P.keyLits (P.types.size+1) k v.cells.toList=some ls):keyOf P k v=some (.string (keyBytes ls)):=by
 simp[keyOf,hu,hk,hf,hl]
theorem La(k:Key)(h1:0<=k.1/\k.1<=255)(h2:k.2.1<=1000)(h3:k.2.2<=1000):∃l,keyOf prog 87 (aQ k)=some l:=by
 have w1:(Lit.int .u8 k.1).wf=true:=WalkArith.wf_u8 (by omega);have w2:(Lit.int .i64 k.2.1).wf=true:=WalkArith.wf_i64 (by omega);have w3:(Lit.int .i64 k.2.2).wf=true:=WalkArith.wf_i64 (by omega);obtain⟨n,hn⟩:=uj;have hf:(aQ k).formed prog 87=true:=by simp only[aQ,Value.formed,underlying87,Dk];rfl
 exact⟨_,mY underlying87 ktT hf (by rw[hn];exact Xn n _ _ _ w1 w2 w3)⟩
theorem Lc(k:Key)(h1:0<=k.1/\k.1<=255)(h2:k.2.1<=1000)(h3:k.2.2<=1000):∃l,keyOf prog 93 (aQ k)=some l:=by
 have w1:(Lit.int .u8 k.1).wf=true:=WalkArith.wf_u8 (by omega);have w2:(Lit.int .i64 k.2.1).wf=true:=WalkArith.wf_i64 (by omega);have w3:(Lit.int .i64 k.2.2).wf=true:=WalkArith.wf_i64 (by omega);obtain⟨n,hn⟩:=uj;have hf:(aQ k).formed prog 93=true:=by simp only[aQ,Value.formed,underlying93,Dl];rfl
 exact⟨_,mY underlying93 ktP hf (by rw[hn];exact Xo n _ _ _ w1 w2 w3)⟩
theorem Sz(k:Int×Nat)(h1:0<=k.1/\k.1<=255)(h2:k.2<=1000):∃l,keyOf prog 90 (iT k)=some l:=by
 have w1:(Lit.int .u8 k.1).wf=true:=WalkArith.wf_u8 (by omega);have w2:(Lit.int .i64 k.2).wf=true:=WalkArith.wf_i64 (by omega);obtain⟨n,hn⟩:=uj;have hf:(iT k).formed prog 90=true:=by simp only[iT,Value.formed,underlying90,Dn];rfl
 exact⟨_,mY underlying90 ktC hf (by rw[hn];exact Xp n _ _ w1 w2)⟩
def aH{α:Type}[BEq α](w:World)(k b:Nat)(kv:α->Value)(ts:List α):Prop:=
 ∃D:DataW Unit,w.ownsMap prog k (plainElem prog 3) b ts.length D/\Maps.size D=ts.length/\
  (∀x l,keyOf prog k (kv x)=some l->Maps.has D l=ts.contains x/\(ts.contains x=true->D.atKey l (.lit (.int .i64 0))=.lit (.int .i64 (ts.idxOf x))))/\
  ∀l,Maps.has D l=true->∃x,ts.contains x=true/\keyOf prog k (kv x)=some l
section
variable {α:Type} [BEq α] {w w':World} {k b:Nat} {kv:α->Value} {ts:List α}
theorem aH.lt(h:aH w k b kv ts):b<w.heap.size:=by
 obtain⟨D,h1,_⟩:=h;exact h1.lt
theorem aH.kept(h:aH w k b kv ts)(hb:w'.heap[b]?=w.heap[b]?):aH w' k b kv ts:=by
 obtain⟨D,⟨es,clock,h1,h2⟩,h3⟩:=h;exact⟨D,⟨es,clock,hb.trans h1,h2⟩,h3⟩
theorem iY(w:World)(k:Nat)(kv:α->Value):aH (w.alloc (.map #[] 0)) k w.heap.size kv ([]:List α):=
 ⟨.map [],World.ownsMap_made w _ _ _,rfl,λx l _=>⟨rfl,λh=>by simp at h⟩,λl h=>by cases h⟩
theorem qo[LawfulBEq α]{D:DataW Unit}(hinj:∀a b:α,kv a=kv b->a=b)(K:Keyed prog k)
 (h2:Maps.size D=ts.length)(h3:∀x l,keyOf prog k (kv x)=some l->Maps.has D l=ts.contains x/\(ts.contains x=true->D.atKey l (.lit (.int .i64 0))=.lit (.int .i64 (ts.idxOf x))))
 (h3':∀l,Maps.has D l=true->∃x,ts.contains x=true/\keyOf prog k (kv x)=some l)(h4:Tidy D){x:α}{l:Lit}(hl:keyOf prog k (kv x)=some l)(hx:ts.contains x=false)
 (h5:w'.ownsMap prog k (plainElem prog 3) b (ts.length+1) (D.put l (.lit (.int .i64 ts.length)))) :
  aH w' k b kv (ts++[x]):=by
 have hx':¬x∈ts:=by simpa using hx
 refine⟨_,by simpa using h5,?_,?_,?_⟩
 ·rw[size_put h4,(h3 x l hl).1,hx];simp[h2]
 ·intro y m hm;by_cases e:m=l
  ·subst e;have:y=x:=hinj _ _ (K.inj hm hl);subst this;refine⟨by rw[has_put_same h4.isMap (K.key hl)];simp,λ_=>?_⟩;rw[atKey_put_same h4.isMap (K.key hl)];simp[ai1,hx']
  ·have hne:y≠x:=λe'=>e (by subst e';rw[hm]at hl;exact ai3 hl);rw[has_put_other e,atKey_put_other e,(h3 y m hm).1];refine⟨by simp[hne],λhy=>?_⟩;have hy':y∈ts:=(by simpa[hne]using hy);rw[(h3 y m hm).2 (by simpa using hy')];simp[ai1,hy']
 ·intro m hm;by_cases e:m=l
  ·subst e;exact⟨x,by simp,hl⟩
  ·rw[has_put_other e]at hm;obtain⟨y,hy,hk⟩:=h3' m hm;exact⟨y,by simp at hy ⊢;exact Or.inl hy,hk⟩
end
theorem gV{k:IntKind}{a b:Int}(h:a=b):Ending.returned (.int k a)=.returned (.int k b):=by rw[h]
theorem Om(BT:Nat)(ts:List Key)(c:Int)(x y:Nat)(w:World)(h1:0<=c/\c<=255)(h2:x<=1000)(h3:y<=1000)(hl:ts.length<=1000)(hM:aH w 87 BT aQ ts) :
  Calls prog 159 #[.map (some BT),.agg #[.int .u8 c,.int .i64 x,.int .i64 y]] w λe w'=>
   e=.returned (.int .i64 (ts.idxOf (c,x,y)))/\aH w' 87 BT aQ (put ts (c,x,y))/\w.grownBy w' (some BT):=by
 obtain⟨l,hkey⟩:=La (c,x,y) h1 h2 h3;obtain⟨D,hown,hsz,hall,hback⟩:=hM;have hk0:=hall _ _ hkey;have fP:=hown.tidy qH;have hkey':keyOf prog 87 (.agg #[.int .u8 c,.int .i64 x,.int .i64 y])=some l:=hkey;have gQ:=aj hall;have jw:=aj hback;have nR:=aj hsz;have HK:=aj hkey;clear hall hsz hkey hback;cases hc:ts.contains (c,x,y)
 ·rw[hc]at hk0;have hhas:Maps.has D l=false:=hk0.1;clear hk0;have HC:=aj hc;clear hc
  go_enter func159,ntmps159
  go_wp2_with (first
   |(at_lookup;refine wpList_lookup_own_ok_int _ rfl _ _ 76 rfl 87 3 .i64 qH underlying76 underlying3 (zeroE _) BT ts.length D rfl (hown.alloc _) _ l rfl hkey' ?_;intro c0 hat hwc)
   |(at_len;refine wpList_len_own _ rfl _ 76 rfl 87 3 underlying76 _ BT ts.length D rfl (hown.alloc _) ?_)
   |(at_mapUpdate;refine wpList_mapUpdate_own _ rfl _ _ _ 76 rfl 87 3 qH underlying76 _ BT ts.length D rfl (hown.alloc _) (by unfold maxLen;omega) _ _ l rfl rfl hkey' _ [] (plainElem_int underlying3 (WalkArith.wf_i64 (by have:=ah nR;omega))) ?_;intro w1 hown1 hgrow1))
  go_ret
  have hsz:=ah nR;have hc:=ah HC;have hn:¬(c,x,y)∈ts:=by simpa using hc
  refine⟨gV ?_,?_,(World.grownBy_alloc _ _ _).trans hgrow1⟩
  ·rw[hsz,ag0 hn]
  ·have hp:put ts (c,x,y)=ts++[(c,x,y)]:=(by unfold put;rw[hc];rfl);rw[hp];rw[hsz]at hown1;exact qo (λ_ _=>qA) qH hsz (ah gQ) (ah jw) fP (ah HK) hc hown1
 ·rw[hc]at hk0;have hhas:Maps.has D l=true:=hk0.1;have HAT:=aj (hk0.2 rfl);clear hk0;have HC:=aj hc;clear hc
  go_enter func159,ntmps159
  go_wp2_with (first
   |(at_lookup;refine wpList_lookup_own_ok_int _ rfl _ _ 76 rfl 87 3 .i64 qH underlying76 underlying3 (zeroE _) BT ts.length D rfl (hown.alloc _) _ l rfl hkey' ?_;intro c0 hat hwc))
  go_ret
  have hc:=ah HC;refine⟨gV ?_,?_,World.grownBy_alloc _ _ _⟩
  ·have h:=hat.symm.trans (ah HAT);simpa using h
  ·have hp:put ts (c,x,y)=ts:=(by unfold put;rw[hc];rfl);rw[hp];exact⟨D,hown.alloc _,ah nR,ah gQ,ah jw⟩
theorem Ej(BT:Nat)(ts:List Key)(c:Int)(x y:Nat)(w:World)(h1:0<=c/\c<=255)(h2:x<=1000)(h3:y<=1000)(hl:ts.length<=1000)(hM:aH w 93 BT aQ ts) :
  Calls prog 67 #[.map (some BT),.agg #[.int .u8 c,.int .i64 x,.int .i64 y]] w λe w'=>
   e=.returned (.int .i64 (ts.idxOf (c,x,y)))/\aH w' 93 BT aQ (put ts (c,x,y))/\w.grownBy w' (some BT):=by
 obtain⟨l,hkey⟩:=Lc (c,x,y) h1 h2 h3;obtain⟨D,hown,hsz,hall,hback⟩:=hM;have hk0:=hall _ _ hkey;have fP:=hown.tidy nV;have hkey':keyOf prog 93 (.agg #[.int .u8 c,.int .i64 x,.int .i64 y])=some l:=hkey;have gQ:=aj hall;have jw:=aj hback;have nR:=aj hsz;have HK:=aj hkey;clear hall hsz hkey hback;cases hc:ts.contains (c,x,y)
 ·rw[hc]at hk0;have hhas:Maps.has D l=false:=hk0.1;clear hk0;have HC:=aj hc;clear hc
  go_enter func67,ntmps67
  go_wp2_with (first
   |(at_lookup;refine wpList_lookup_own_ok_int _ rfl _ _ 80 rfl 93 3 .i64 nV underlying80 underlying3 (zeroE _) BT ts.length D rfl (hown.alloc _) _ l rfl hkey' ?_;intro c0 hat hwc)
   |(at_len;refine wpList_len_own _ rfl _ 80 rfl 93 3 underlying80 _ BT ts.length D rfl (hown.alloc _) ?_)
   |(at_mapUpdate;refine wpList_mapUpdate_own _ rfl _ _ _ 80 rfl 93 3 nV underlying80 _ BT ts.length D rfl (hown.alloc _) (by unfold maxLen;omega) _ _ l rfl rfl hkey' _ [] (plainElem_int underlying3 (WalkArith.wf_i64 (by have:=ah nR;omega))) ?_;intro w1 hown1 hgrow1))
  go_ret
  have hsz:=ah nR;have hc:=ah HC;have hn:¬(c,x,y)∈ts:=by simpa using hc
  refine⟨gV ?_,?_,(World.grownBy_alloc _ _ _).trans hgrow1⟩
  ·rw[hsz,ag0 hn]
  ·have hp:put ts (c,x,y)=ts++[(c,x,y)]:=(by unfold put;rw[hc];rfl);rw[hp];rw[hsz]at hown1;exact qo (λ_ _=>qA) nV hsz (ah gQ) (ah jw) fP (ah HK) hc hown1
 ·rw[hc]at hk0;have hhas:Maps.has D l=true:=hk0.1;have HAT:=aj (hk0.2 rfl);clear hk0;have HC:=aj hc;clear hc
  go_enter func67,ntmps67
  go_wp2_with (first
   |(at_lookup;refine wpList_lookup_own_ok_int _ rfl _ _ 80 rfl 93 3 .i64 nV underlying80 underlying3 (zeroE _) BT ts.length D rfl (hown.alloc _) _ l rfl hkey' ?_;intro c0 hat hwc))
  go_ret
  have hc:=ah HC;refine⟨gV ?_,?_,World.grownBy_alloc _ _ _⟩
  ·have h:=hat.symm.trans (ah HAT);simpa using h
  ·have hp:put ts (c,x,y)=ts:=(by unfold put;rw[hc];rfl);rw[hp];exact⟨D,hown.alloc _,ah nR,ah gQ,ah jw⟩
theorem Ot(BT:Nat)(ts:List (Int×Nat))(c:Int)(x:Nat)(w:World)(h1:0<=c/\c<=255)(h2:x<=1000)(hl:ts.length<=1000)(hM:aH w 90 BT iT ts) :
  Calls prog 108 #[.map (some BT),.agg #[.int .u8 c,.int .i64 x]] w λe w'=>
   e=.returned (.int .i64 (ts.idxOf (c,x)))/\aH w' 90 BT iT (put ts (c,x))/\w.grownBy w' (some BT):=by
 obtain⟨l,hkey⟩:=Sz (c,x) h1 h2;obtain⟨D,hown,hsz,hall,hback⟩:=hM;have hk0:=hall _ _ hkey;have fP:=hown.tidy qI;have hkey':keyOf prog 90 (.agg #[.int .u8 c,.int .i64 x])=some l:=hkey;have gQ:=aj hall;have jw:=aj hback;have nR:=aj hsz;have HK:=aj hkey;clear hall hsz hkey hback;cases hc:ts.contains (c,x)
 ·rw[hc]at hk0;have hhas:Maps.has D l=false:=hk0.1;clear hk0;have HC:=aj hc;clear hc
  go_enter func108,ntmps108
  go_wp2_with (first
   |(at_lookup;refine wpList_lookup_own_ok_int _ rfl _ _ 78 rfl 90 3 .i64 qI underlying78 underlying3 (zeroE _) BT ts.length D rfl (hown.alloc _) _ l rfl hkey' ?_;intro c0 hat hwc)
   |(at_len;refine wpList_len_own _ rfl _ 78 rfl 90 3 underlying78 _ BT ts.length D rfl (hown.alloc _) ?_)
   |(at_mapUpdate;refine wpList_mapUpdate_own _ rfl _ _ _ 78 rfl 90 3 qI underlying78 _ BT ts.length D rfl (hown.alloc _) (by unfold maxLen;omega) _ _ l rfl rfl hkey' _ [] (plainElem_int underlying3 (WalkArith.wf_i64 (by have:=ah nR;omega))) ?_;intro w1 hown1 hgrow1))
  go_ret
  have hsz:=ah nR;have hc:=ah HC;have hn:¬(c,x)∈ts:=by simpa using hc
  refine⟨gV ?_,?_,(World.grownBy_alloc _ _ _).trans hgrow1⟩
  ·rw[hsz,ag0 hn]
  ·have hp:put ts (c,x)=ts++[(c,x)]:=(by unfold put;rw[hc];rfl);rw[hp];rw[hsz]at hown1;exact qo (λ_ _=>BJ) qI hsz (ah gQ) (ah jw) fP (ah HK) hc hown1
 ·rw[hc]at hk0;have hhas:Maps.has D l=true:=hk0.1;have HAT:=aj (hk0.2 rfl);clear hk0;have HC:=aj hc;clear hc
  go_enter func108,ntmps108
  go_wp2_with (first
   |(at_lookup;refine wpList_lookup_own_ok_int _ rfl _ _ 78 rfl 90 3 .i64 qI underlying78 underlying3 (zeroE _) BT ts.length D rfl (hown.alloc _) _ l rfl hkey' ?_;intro c0 hat hwc))
  go_ret
  have hc:=ah HC;refine⟨gV ?_,?_,World.grownBy_alloc _ _ _⟩
  ·have h:=hat.symm.trans (ah HAT);simpa using h
  ·have hp:put ts (c,x)=ts:=(by unfold put;rw[hc];rfl);rw[hp];exact⟨D,hown.alloc _,ah nR,ah gQ,ah jw⟩
end Go.Proofs.YthcppbmkacbbiaaGreat
