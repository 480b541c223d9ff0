import Derived.Test.YthcppbmkacbbiabGreatVAB
import Derived.OrdersIn
import Derived.Laws.OwnMore
import Derived.ScopeJumps
set_option linter.unusedSimpArgs false
set_option maxHeartbeats 1000000
set_option maxRecDepth 100000
namespace Go.Proofs.YthcppbmkacbbiabGreat
open Go.Proofs.Tryz
section
open Go.RowKit
def XD(lo hi:Int):Prop:=∀(w:World) (k n:Int) (s t:ByteArray),lo<=k->k<=hi->s.size<=maxLen->t.size<=maxLen->
 Calls prog 22 #[.agg #[A k,A n,.string s,.string t]] w λe w'=>e=.returned (.bool true)/\Ag w w'
theorem Zf(lo hi:Int)(hp:XD lo hi)(w:World)(b off len cap:Nat)(K Nn:Nat->Int)(S Tt:Nat->ByteArray)(hb:b<w.heap.size)(hlen:len<=9223372036854775807)
 (hS:∀i,i<len->(S i).size<=maxLen)(hTt:∀i,i<len->(Tt i).size<=maxLen)
 (c0:∀i,i<len->w.cell? ⟨b,off+i*4,none⟩=some (A (K i)))(c1:∀i,i<len->w.cell? ⟨b,off+i*4+1,none⟩=some (A (Nn i)))
 (c2:∀i,i<len->w.cell? ⟨b,off+i*4+2,none⟩=some (.string (S i)))(c3:∀i,i<len->w.cell? ⟨b,off+i*4+3,none⟩=some (.string (Tt i))) :
  Calls prog 15 #[Ac b off len cap,A lo,A hi] w λe w'=>e=.returned (A (-1))/\Ag w w':=by
 go_in
 go_wp2_with fail
 go_loopw [7] (λi wr=>∃k:Nat,k<=len/\i=A k/\Ag w wr) (λi _=>len-(intOf i).toNat)
 case atStart=>exact⟨0,ap7 _,rfl,Below.refl _ _⟩
 case round=>
  obtain⟨k,hk,rfl,mg⟩:=hrel;by_cases hlt:k<len
  ·have d0:=(mg.cell (p:=⟨b,off+k*4,none⟩) hb).trans (c0 k hlt);have d1:=(mg.cell (p:=⟨b,off+k*4+1,none⟩) hb).trans (c1 k hlt);have d2:=(mg.cell (p:=⟨b,off+k*4+2,none⟩) hb).trans (c2 k hlt);have d3:=(mg.cell (p:=⟨b,off+k*4+3,none⟩) hb).trans (c3 k hlt);have hSk:Hid _:=hS k hlt;have hTk:Hid _:=hTt k hlt;generalize S k=s at d2 hSk;generalize Tt k=t at d3 hTk;generalize K k=kd at d0;generalize Nn k=nn at d1;have adu:Below w.heap.size w (wr.alloc (.cells #[A kd,A nn,.string s,.string t] 61)):=mg.alloc mg.size _;by_cases gK:lo<=kd/\kd<=hi
   ·have e1:decide (lo<=kd)=true:=(by simpa using gK.1);have e2:decide (kd<=hi)=true:=(by simpa using gK.2);have alq:=gK.1;have alp:=gK.2
    go_wp2_with fail
    refine(hp _ kd nn s t alq alp hSk hTk).mono ?_;rintro e w1 ⟨rfl,b1⟩;have aaK:=adu.trans (b1.mono (by have:=mg.size;simp;omega))
    go_wp2_with fail
    go_roundw
    case rel=>exact⟨k+1,O,by go_num,aaK⟩
    case measure=>simp[intOf];omega
   ·go_wp2_with fail
    all_goals
     go_roundw
     case rel=>exact⟨k+1,O,by go_num,adu⟩
     case measure=>simp[intOf];omega
  ·clear c0 c1 c2 c3 hS hTt
   go_wp2_with fail
   go_ret
   exact⟨rfl,mg⟩
theorem Zg(lo hi:Int)(w:World)(ao:Option Addr)(cap:Nat) :
  Calls prog 15 #[.slice ao 0 cap,A lo,A hi] w λe w'=>e=.returned (A (-1))/\Ag w w':=by
 go_in
 go_wp2_with fail
 refine wp_loop_rounds 1 ?_;rw[rounds_succ]
 go_wp2_with fail
 go_ret
 exact⟨rfl,Below.refl _ _⟩
end
section
open Go.RowKit Go.Maps Go.WideMaps
theorem yH{i:Nat}(h:i<=1000):keyOf prog 3 (.int .i64 i)=some (.int .i64 i):=by
 have hw:(Lit.int .i64 i).wf=true:=aA0 O;simp[keyOf,mapKey,underlying3,hw]
theorem iO:Keyed prog 3:=int_keyed underlying3
def gY(w:World)(b:Nat)(f:Nat->Nat)(n c:Nat):Prop:=
 ∃(D:DataW Unit) (nn:Nat),nn<=c/\w.ownsMap prog 3 (plainElem prog 3) b nn D/\
  ∀i,i<n->Maps.has D (.int .i64 i)=decide (f i≠i)/\(f i≠i->D.atKey (.int .i64 i) (.lit (.int .i64 0))=.lit (.int .i64 (f i)))
theorem gY.lt{w:World}{b n c:Nat}{f:Nat->Nat}(h:gY w b f n c):b<w.heap.size:=by
 obtain⟨D,nn,_,I,_⟩:=h;exact I.lt
theorem gY.kept{w w':World}{b n c:Nat}{f:Nat->Nat}(h:gY w b f n c)(hb:w'.heap[b]?=w.heap[b]?):gY w' b f n c:=by
 obtain⟨D,nn,h0,⟨es,clock,I,M⟩,h3⟩:=h;exact⟨D,nn,h0,⟨es,clock,hb.trans I,M⟩,h3⟩
theorem gY.congr{w:World}{b n c:Nat}{f g:Nat->Nat}(h:gY w b f n c)(e:∀i,i<n->f i=g i):gY w b g n c:=by
 obtain⟨D,nn,h0,I,M⟩:=h;exact⟨D,nn,h0,I,λi hi=>by rw[<-e i hi];exact M i hi⟩
theorem Ja(w:World)(b n c:Nat)(f:Nat->Nat)(i:Nat)(hM:gY w b f n c)(hi:i<n)(hn:n<=1000)(hle:f i<=i)(hff:f (f i)=f i) :
  Calls prog 73 #[.map (some b),.int .i64 i] w λe w'=>e=.returned (.int .i64 (f i))/\w'=w:=by
 obtain⟨D,nn,h0,aH,aX⟩:=hM;by_cases e:f i=i
 ·have hk:=aX i hi;have wI:Maps.has D (.int .i64 i)=false:=by rw[hk.1];simp[e]
  have aV:keyOf prog 3 (.int .i64 i)=some (.int .i64 i):=yH O;have E:=F e
  go_in
  go_wp2_with fail
  refine wp_loop_rounds 1 ?_;rw[az3]
  go_wp2_with (at_lookup;refine ax9 _ rfl _ _ 53 rfl 3 3 .i64 iO underlying53 underlying3 (zeroE _) b nn D rfl aH _ (.int .i64 i) rfl aV ?_;intro c0 gU EZ)
  go_ret
  exact⟨jM (by rw[Z E]),rfl⟩
 ·have hk:=aX i hi;have sH:=aX (f i) O;have wI:Maps.has D (.int .i64 i)=true:=by rw[hk.1];simp[e]
  have ajJ:Maps.has D (.int .i64 (f i))=false:=by rw[sH.1];simp[hff]
  have aV:keyOf prog 3 (.int .i64 i)=some (.int .i64 i):=yH O;have aga:keyOf prog 3 (.int .i64 (f i))=some (.int .i64 (f i)):=yH O;have Ew:=F (hk.2 e);generalize f i=j at ajJ aga Ew
  go_in
  go_wp2_with fail
  refine wp_loop_rounds 2 ?_;rw[az3]
  go_wp2_with (at_lookup;refine ax9 _ rfl _ _ 53 rfl 3 3 .i64 iO underlying53 underlying3 (zeroE _) b nn D rfl aH _ (.int .i64 i) rfl aV ?_;intro c0 gU EZ;have zO:c0=(j:Int):=by {have h:=gU.symm.trans (Z Ew);simpa using h};subst zO;clear gU EZ)
  rw[az3]
  go_wp2_with (at_lookup;refine ax9 _ rfl _ _ 53 rfl 3 3 .i64 iO underlying53 underlying3 (zeroE _) b nn D rfl aH _ (.int .i64 j) rfl aga ?_;intro c0 gU EZ)
  go_ret
  exact⟨rfl,rfl⟩
theorem abX(w:World)(b n c:Nat)(f:Nat->Nat)(i j:Nat)(hM:gY w b f n c)(hi:i<n)(hj:j<n)(hn:n<=1000)(hle:∀i,i<n->f i<=i/\f (f i)=f i) :
  Calls prog 77 #[.map (some b),A i,A j] w λe w'=>e=.returned (.bool (decide (f i=f j)))/\w'=w:=by
 have I:=Ja w b n c f i hM hi hn (hle i hi).1 (hle i hi).2;have M:=Ja w b n c f j hM hj hn (hle j hj).1 (hle j hj).2;generalize f i=x at I ⊢;generalize f j=y at M ⊢
 go_in
 go_wp2_with fail
 refine I.mono ?_;rintro e w1 ⟨rfl,rfl⟩
 go_wp2_with fail
 refine M.mono ?_;rintro e w2 ⟨rfl,rfl⟩
 go_wp2_with fail
 go_ret
 refine⟨?_,rfl⟩;by_cases e:x=y
 ·subst e;simp
 ·have:(x:Int)≠y:=O
  simp[e,this]
theorem Si(w:World)(b n c:Nat)(f:Nat->Nat)(i j:Nat)(hM:gY w b f n c)(hi:i<n)(hj:j<n)(hn:n<=500)(hc:c<=500)(bg:i≠j)(fi:f i=i)(fj:f j=j) :
  Calls prog 70 #[.map (some b),.int .i64 i,.int .i64 j] w λe w'=>(∃v,e=.returned v)/\w.grownBy w' (some b)/\gY w' b (λk=>if k=j then i else f k) n (c+1):=by
 have I:=Ja w b n c f i hM hi O O (by rw[fi,fi]);have M:=Ja w b n c f j hM hj O O (by rw[fj,fj]);rw[fi]at I;rw[fj]at M;obtain⟨D,nn,h0,aH,aX⟩:=hM;have jO:=aH.tidy iO;have hb:((i:Int) != (j:Int))=true:=anf
 have aV:keyOf prog 3 (.int .i64 j)=some (.int .i64 j):=yH O;have jQ:=F aX
 go_in
 go_wp2_with fail
 refine I.mono ?_;rintro e w1 ⟨rfl,rfl⟩
 go_wp2_with fail
 refine M.mono ?_;rintro e w2 ⟨rfl,rfl⟩
 go_wp2_with (at_mapUpdate;refine wpList_mapUpdate_own _ rfl _ _ _ 53 rfl 3 3 iO underlying53 _ b nn D rfl aH anj _ _ (.int .i64 j) rfl rfl aV _ [] (aB2 underlying3 (aA0 O)) ?_;intro w1 lU rO)
 go_end0
 refine⟨⟨_,rfl⟩,rO,_,nn+1,O,lU,λk hk=>?_⟩;by_cases e:k=j
 ·subst e;simp only[av8];rw[has_put_same jO.isMap (iO.key aV),atKey_put_same jO.isMap (iO.key aV)];simp[bg]
 ·have e1:(λq=>if q=j then i else f q) k=f k:=an8 e;simp only[e1];rw[has_put_other anf,atKey_put_other anf];exact Z jQ k hk
def kM(w:World)(b:Nat)(f:Nat->Nat)(n c:Nat):Prop:=
 ∃g d:Nat->Nat,gY w b g n c/\∀i,i<n->g i<n/\(g i=i->f i=i)/\(g i≠i->d (g i)<d i/\f (g i)=f i)
theorem kM.lt{w:World}{b n c:Nat}{f:Nat->Nat}(h:kM w b f n c):b<w.heap.size:=by
 obtain⟨g,d,I,_⟩:=h;exact I.lt
theorem kM.kept{w w':World}{b n c:Nat}{f:Nat->Nat}(h:kM w b f n c)(hb:w'.heap[b]?=w.heap[b]?):kM w' b f n c:=by
 obtain⟨g,d,I,M⟩:=h;exact⟨g,d,I.kept hb,M⟩
theorem kM.of{w:World}{b n c:Nat}{f:Nat->Nat}(h:gY w b f n c)(hf:∀i,i<n->f i<=i/\f (f i)=f i):kM w b f n c:=
 ⟨f,id,h,λi hi=>⟨by have:=(hf i hi).1;omega,id,λbg=>⟨by have:=(hf i hi).1;simp;omega,(hf i hi).2⟩⟩⟩
theorem J6{g d f:Nat->Nat}{n:Nat}(h:∀i,i<n->g i<n/\(g i=i->f i=i)/\(g i≠i->d (g i)<d i/\f (g i)=f i)):∀m i,d i<m->i<n->f i<n/\g (f i)=f i/\f (f i)=f i:=by
 intro m
 induction m with
 |zero=>intro i hd;omega
 |succ m ih=>
  intro i hd hi;obtain⟨k1,k2,k3⟩:=h i hi;by_cases e:g i=i
  ·rw[k2 e];exact⟨hi,e,k2 e⟩
  ·obtain⟨k4,k5⟩:=k3 e;have:=ih (g i) O k1
   rwa [k5]at this
theorem kM.root{w:World}{b n c:Nat}{f:Nat->Nat}(h:kM w b f n c){i:Nat}(hi:i<n):f i<n/\f (f i)=f i:=by
 obtain⟨g,d,I,M⟩:=h;have:=J6 M (d i+1) i O hi;exact⟨this.1,this.2.2⟩
theorem yB(w:World)(b n c:Nat)(f:Nat->Nat)(i:Nat)(hM:kM w b f n c)(hi:i<n)(hn:n<=1000) :
  Calls prog 73 #[.map (some b),.int .i64 i] w λe w'=>e=.returned (.int .i64 (f i))/\w'=w:=by
 obtain⟨g,d,⟨D,nn,h0,aH,aX⟩,hg⟩:=hM;have jQ:=F aX;have HG:=F hg
 go_in
 go_wp2_with fail
 go_loopw [1] (λkey wr=>∃k:Nat,key=.int .i64 k/\k<n/\f k=f i/\wr=w) (λkey _=>d (intOf key).toNat)
 case atStart=>exact⟨i,rfl,hi,rfl,rfl⟩
 case round=>
  obtain⟨k,rfl,hk,hfk,rfl⟩:=hrel;have Fg:=(Z jQ) k hk;obtain⟨g1,g2,g3⟩:=(Z HG) k hk;have aV:keyOf prog 3 (.int .i64 k)=some (.int .i64 k):=yH O;by_cases e:g k=k
  ·have wI:Maps.has D (.int .i64 k)=false:=(by rw[Fg.1];simp[e]);have mQ:Hid (f i=k):=by unfold Hid;rw[<-hfk];exact g2 e
   go_wp2_with (at_lookup;refine ax9 _ rfl _ _ 53 rfl 3 3 .i64 iO underlying53 underlying3 (zeroE _) b nn D rfl aH _ (.int .i64 k) rfl aV ?_;intro c0 gU EZ)
   exact aq0 (v:=.int .i64 k) (by simp[results,results73,go_sem]) rfl ⟨by rw[Z mQ],rfl⟩
  ·have wI:Maps.has D (.int .i64 k)=true:=(by rw[Fg.1];simp[e]);have Ew:=F (Fg.2 e);obtain⟨g4,g5⟩:=g3 e;have HFK:=F (g5.trans hfk);generalize g k=j at Ew g1 g4 HFK
   go_wp2_with (at_lookup;refine ax9 _ rfl _ _ 53 rfl 3 3 .i64 iO underlying53 underlying3 (zeroE _) b nn D rfl aH _ (.int .i64 k) rfl aV ?_;intro c0 gU EZ;have zO:c0=(j:Int):=by {have h:=gU.symm.trans (Z Ew);simpa using h};subst zO;clear gU EZ)
   exact⟨⟨j,rfl,g1,Z HFK,by first|rfl|trivial⟩,by simpa[intOf]using g4⟩
theorem QV(w:World)(b n c:Nat)(f:Nat->Nat)(i j:Nat)(hM:kM w b f n c)(hi:i<n)(hj:j<n)(hn:n<=1000) :
  Calls prog 77 #[.map (some b),A i,A j] w λe w'=>e=.returned (.bool (decide (f i=f j)))/\w'=w:=by
 have I:=yB w b n c f i hM hi hn;have M:=yB w b n c f j hM hj hn;generalize f i=x at I ⊢;generalize f j=y at M ⊢
 go_in
 go_wp2_with fail
 refine I.mono ?_;rintro e w1 ⟨rfl,rfl⟩
 go_wp2_with fail
 refine M.mono ?_;rintro e w2 ⟨rfl,rfl⟩
 go_wp2_with fail
 go_ret
 refine⟨?_,rfl⟩;by_cases e:x=y
 ·subst e;simp
 ·have:(x:Int)≠y:=O
  simp[e,this]
def wZ(f:Nat->Nat)(i j:Nat):Nat->Nat:=λk=>if f k=f j then f i else f k
theorem yI{f:Nat->Nat}{i j:Nat}(h:f i=f j):wZ f i j=f:=by
 funext k;unfold wZ;by_cases e:f k=f j
 ·rw[ao4 e,h,e]
 ·rw[an8 e]
theorem RZ(w:World)(b n c:Nat)(f:Nat->Nat)(i j:Nat)(hM:kM w b f n c)(hi:i<n)(hj:j<n)(hn:n<=500)(hc:c<=500) :
  Calls prog 70 #[.map (some b),.int .i64 i,.int .i64 j] w λe w'=>(∃v,e=.returned v)/\w.grownBy w' (some b)/\kM w' b (wZ f i j) n (if f i=f j then c else c+1):=by
 have I:=yB w b n c f i hM hi O;have M:=yB w b n c f j hM hj O;by_cases e:f i=f j
 ·rw[ao4 e,yI e];rw[<-e]at M;have HM:=F hM;generalize f i=x at I M
  go_in
  go_wp2_with fail
  refine I.mono ?_;rintro e w1 ⟨rfl,rfl⟩
  go_wp2_with fail
  refine M.mono ?_;rintro e w2 ⟨rfl,rfl⟩
  go_wp2_with fail
  go_end0
  exact⟨⟨_,rfl⟩,as8 _ _,Z HM⟩
 ·rw[an8 e];obtain⟨xK,aly⟩:=hM.root hi;obtain⟨hfj,alx⟩:=hM.root hj;obtain⟨g,d,⟨D,nn,h0,aH,aX⟩,hg⟩:=hM;obtain⟨_,hgi,_⟩:=J6 hg (d i+1) i O hi;obtain⟨_,hgj,_⟩:=J6 hg (d j+1) j O hj;have jO:=aH.tidy iO;have hb:((f i:Int) != (f j:Int))=true:=anf
  have aV:keyOf prog 3 (.int .i64 (f j))=some (.int .i64 (f j)):=yH O;have gB:Hid (∀w' nn',nn'<=c+1->w'.ownsMap prog 3 (plainElem prog 3) b nn' (D.put (.int .i64 (f j)) (.lit (.int .i64 (f i))))->kM w' b (wZ f i j) n (c+1)):=by
   intro w' nn' Ih fA;refine⟨λk=>if k=f j then f i else g k,λk=>if f k=f j then d k+d (f i)+1 else d k,⟨_,nn',Ih,fA,λk hk=>?_⟩,λk hk=>?_⟩
   ·by_cases e2:k=f j
    ·subst e2;simp only[av8];rw[has_put_same jO.isMap (iO.key aV),atKey_put_same jO.isMap (iO.key aV)];simp[e]
    ·have e1:(λq=>if q=f j then f i else g q) k=g k:=an8 e2;simp only[e1];rw[has_put_other anf,atKey_put_other anf];exact aX k hk
   ·by_cases e2:k=f j
    ·subst e2;simp only[av8,wZ,aly,alx,an8 e];exact⟨xK,λh=>absurd h e,λ_=>⟨O,by first|rfl|trivial⟩⟩
    ·obtain⟨k1,k2,k3⟩:=hg k hk;simp only[an8 e2];refine⟨k1,λh=>?_,λh=>?_⟩
     ·have h3:=k2 h;unfold wZ;rw[h3,an8 e2]
     ·obtain⟨k4,k5⟩:=k3 h;unfold wZ;rw[k5];refine⟨?_,rfl⟩;split<;>omega
  generalize f i=x at I xK hb gB;generalize f j=y at M hfj aV hb gB
  go_in
  go_wp2_with fail
  refine I.mono ?_;rintro e w1 ⟨rfl,rfl⟩
  go_wp2_with fail
  refine M.mono ?_;rintro e w2 ⟨rfl,rfl⟩
  go_wp2_with (at_mapUpdate;refine wpList_mapUpdate_own _ rfl _ _ _ 53 rfl 3 3 iO underlying53 _ b nn D rfl aH anj _ _ (.int .i64 y) rfl rfl aV _ [] (aB2 underlying3 (aA0 O)) ?_;intro w1 lU rO)
  go_end0
  exact⟨⟨_,rfl⟩,rO,(Z gB) _ _ O lU⟩
end
section
open Go.RowKit
def tq(aj:Fence)(n:Nat)(P:Program)(g:Nat)(lb:Array Value)(xs:List (Array Value))(Kp:World->World->Prop)(w:World):Prop:=
 ∀(l:Nat) (Af:Nat->World->Prop) (Jx:World->Prop) (W:World),Below w.heap.size w W->AbidesFrom W.heap.size Af->AbidesFrom W.heap.size (fun(_:Unit) V=>Jx V)->
  (∀k (hk:k<xs.length) W1,Af k W1->YieldAt aj (n-1) P l xs[k] W1 λe W'=>(e=.returned (.bool true)/\Af (k+1) W'/\Kp W1 W')\/(e=.returned (.bool false)/\Jx W'))->
  Af 0 W->
  CallsIn aj n P g (#[.func (.yield l) #[] #[]]++lb) W λe W'=>(∃v,e=.returned v)/\(Af xs.length W'\/Jx W')
theorem tq.all{aj:Fence}{n:Nat}{P:Program}{g:Nat}{lb:Array Value}{xs:List (Array Value)}{Kp:World->World->Prop}{w:World}(h:tq aj n P g lb xs Kp w):FQ aj n P g lb xs Kp w:=by
 intro l Af W hW hJ hY h0;refine(h l Af (λ_=>False) W hW hJ (λ_ _ _ _ hf _ _=>hf) (λk hk W1 zQ=>(hY k hk W1 zQ).mono λe W' he=>Or.inl he) h0).mono ?_;rintro e W' ⟨I,M|M⟩
 ·exact⟨I,M⟩
 ·exact M.elim
def afq(B:Nat)(Kp:World->World->Prop)(h1 Ix:World->Prop)(W:World):Exit->Act->World->Prop
 |.normal,_,W'=>KeepsFrom B W W'/\Kp W W'/\h1 W'
 |.ret,_,W'=>KeepsFrom B W W'/\Ix W'
 |_,_,_=>False
theorem iP{aj:Fence}{n:Nat}{P:Program}{g:Operand}{ps:Array Tmp}{assign body:Code}{Q:Exit->Act->World->Prop}{a:Act}{w:World}
 (yK:aj.round=none)(I:1<=n){gf:Nat}{lb:Array Value}(hg:a.eval g=.func (.func gf) #[] lb)(TQ:aj.fn gf)(eg:∀args w,(callFunc gf args).run P w=.ok (.enter gf args) w)
 {xs:List (Array Value)}{Kp:World->World->Prop}{w0:World}(dK:tq aj (n-1) P gf lb xs Kp w0)
 (Pe:∀{Ad B C:World},Kp Ad B->Kp B C->Kp Ad C)(YE:∀(W:World) (l:Nat) (o o':Obj),w.heap.size<=l->W.heap[l]?=some o->o.isCells=false->o.isWalk=false->Kp W (W.putObj l o'))
 (kQ:Below w0.heap.size w0 w)(oQ:∀k (hk:k<xs.length),xs[k].size=ps.size)
 (h1:Nat->World->Prop)(Ix:World->Prop)(hI:OwnFrom w.heap.size h1)(hIx:OwnFrom w.heap.size (fun(_:Unit) W=>Ix W))(h0:h1 0 w)(Ax:Nat->Act->World->Prop)(hAx:∀k a',OwnFrom w.heap.size (fun(_:Unit) W=>Ax k a' W))
 (qm:∀(l k:Nat) (hk:k<xs.length) (W:World) (K:Act->World->Prop),h1 k W->(∀a' W',KeepsFrom w.heap.size W W'->Kp W W'->h1 k W'->Ax k a' W'->K a' W')->
   assign.wpIn (aj.inRound l) (n-1-1) P (Exit.then K (λ_ _ _=>False)) {tmps:=(ps.zip xs[k]).foldl (λt (p,v)=>t.setIfInBounds p v) a.tmps,defers:=[]} W)
 (D6:∀(l k:Nat) (a':Act) (W:World),k<xs.length->w.heap.size<=l->h1 k W->Ax k a' W->body.wpIn (aj.inRound l) (n-1-1) P (afq w.heap.size Kp (h1 (k+1)) Ix W) a' W)
 (nD:∀(D:Nat) (W:World),w.heap.size<=D->h1 xs.length W->W.heap[D]?=some (.deferred (some []))->Q .normal {a with defers:={target:=.collected D,args:=#[]}::a.defers} W)
 (ai2:∀(D:Nat) (W:World),w.heap.size<=D->Ix W->W.heap[D]?=some (.deferred (some []))->Code.ret.wpIn aj n P Q {a with defers:={target:=.collected D,args:=#[]}::a.defers} W) :
  (Code.rangeFunc g ps assign body).wpIn aj n P Q a w:=by
 refine wpIn_rangeFunc ?_;intro fn hfn;rw[yK];obtain⟨lp,qI⟩:∃lp:LoopState->Option Code->Loop,lp=λst pe=>{state:=st,pending:=pe,fn,tmps:=a.tmps,params:=ps,assign,body,defers:=w.heap.size}:=⟨_,rfl⟩;obtain⟨W1,dO⟩:∃W1,(w.alloc (.deferred (some []))).alloc (.loop (lp .ready none))=W1:=⟨_,rfl⟩;have vZ:W1.heap.size=w.heap.size+2:=by rw[<-dO];simp
 have DF:W1.heap[w.heap.size+1]?=some (.loop (lp .ready none)):=by
  have h:=aC3 (w.alloc (.deferred (some []))) (.loop (lp .ready none));rw[World.size_alloc]at h;rw[<-dO];exact h
 have Cb:W1.heap[w.heap.size]?=some (.deferred (some [])):=by
  rw[<-dO];exact(ao3 _ _ _ R).trans (aC3 w _)
 have inv1:h1 0 W1:=by rw[<-dO];exact hI.alloc _ (hI.alloc _ h0)
 have wR:Below w0.heap.size w0 W1:=by
  rw[<-dO];exact kQ.trans ((((aq1 _ w).alloc (an2 _) _).alloc R _).mono kQ.size)
 have abide:AbidesFrom W1.heap.size (λk W=>h1 k W/\W.heap[w.heap.size+1]?=some (.loop (lp .ready none))/\W.heap[w.heap.size]?=some (.deferred (some []))):=by
  intro k Ad B row hk jS hr;refine⟨hI k Ad B row hk.1 jS (λr e=>?_),(grownBy_keeps jS (λr e=>(hr r e).2) hk.2.1 rfl).trans hk.2.1,(grownBy_keeps jS (λr e=>(hr r e).2) hk.2.2 rfl).trans hk.2.2⟩;obtain⟨M,o,ho,hw⟩:=hr r e;exact⟨O,o,ho,Obj.not_cells_of_walk hw⟩
 have ah3:AbidesFrom W1.heap.size (fun(_:Unit) W=>Ix W/\W.heap[w.heap.size+1]?=some (.loop (lp .done (some .ret)))/\W.heap[w.heap.size]?=some (.deferred (some []))):=by
  intro k Ad B row hk jS hr;refine⟨hIx () Ad B row hk.1 jS (λr e=>?_),(grownBy_keeps jS (λr e=>(hr r e).2) hk.2.1 rfl).trans hk.2.1,(grownBy_keeps jS (λr e=>(hr r e).2) hk.2.2 rfl).trans hk.2.2⟩;obtain⟨M,o,ho,hw⟩:=hr r e;exact⟨O,o,ho,Obj.not_cells_of_walk hw⟩
 refine⟨w.heap.size+1,[{target:=.collected w.heap.size,args:=#[]}],W1,{target:=.fn (.func gf) lb,args:=#[.func (.yield (w.heap.size+1)) #[] #[]]},W1,gf,
  #[.func (.yield (w.heap.size+1)) #[] #[]]++lb,W1,?_,?_,?_,?_,λ_=>I,?_⟩
 ·rw[<-dO,qI];exact run_enterLoop_outer _ _ _ _ _
 ·simp only[resolve,hg];simp[go_sem]
 ·intro f' O5;simp[Target.leads]at O5;subst O5;exact TQ
 ·simp[invoke,go_sem,eg]
 ·refine(dK (w.heap.size+1) _ _ W1 wR abide ah3 ?_ ⟨inv1,DF,Cb⟩).mono ?_
  ·rintro k hk W ⟨hi,hl,hd⟩;have hy:=run_yield (P:=P) (args:=xs[k]) hl (by rw[qI];exact oQ k hk);rw[qI]at hy;refine⟨fn,_,assign,body,hy,roundIn_of_wpIn hfn (qm _ k hk W _ hi ?_)⟩;intro a' Wa ru kpA iA ax;have lH:=ru.same _ _ O hl rfl;have hd2:=ru.same _ _ (an2 _) hd rfl;have hlt:w.heap.size+1<Wa.heap.size:=(an0.1 lH).1;refine⟨_,run_beginRound lH (by rw[qI]),?_⟩;have Tc:(Wa.putObj (w.heap.size+1) (.loop {lp .ready none with state:=.busy})).heap[w.heap.size+1]?=some (.loop {lp .ready none with state:=.busy}):=ay8 hlt;have hd3:(Wa.putObj (w.heap.size+1) (.loop {lp .ready none with state:=.busy})).heap[w.heap.size]?=some (.deferred (some [])):=(ap1 O).trans hd2;have kp3:Kp Wa (Wa.putObj (w.heap.size+1) (.loop {lp .ready none with state:=.busy})):=YE _ _ _ _ O lH rfl rfl;refine wpIn_mono (D6 (w.heap.size+1) k a' _ hk O (hI.putObj _ iA O lH rfl) ((hAx k a').putObj (s:=()) _ ax O lH rfl)) ?_;rintro e a3 W3 hp;cases e with
   |normal=>
    obtain⟨ni,kp4,i3⟩:=hp;have ED:=ni.same _ _ O Tc rfl;have hr:=run_endRound (P:=P) none ED;rw[qI]at hr;refine⟨_,_,hr,Or.inl ⟨rfl,⟨hI.putObj _ i3 O ED rfl,?_,?_⟩,Pe kpA (Pe (Pe kp3 kp4) (YE _ _ _ _ O ED rfl rfl))⟩⟩
    ·rw[qI];exact ay8 (an0.1 ED).1
    ·exact(ap1 O).trans (ni.same _ _ (an2 _) hd3 rfl)
   |ret=>
    obtain⟨ni,i3⟩:=hp;have ED:=ni.same _ _ O Tc rfl;have hr:=run_endRound (P:=P) (some .ret) ED;rw[qI]at hr;refine⟨_,_,hr,Or.inr ⟨rfl,hIx.putObj (s:=()) _ i3 O ED rfl,?_,?_⟩⟩
    ·rw[qI];exact ay8 (an0.1 ED).1
    ·exact(ap1 O).trans (ni.same _ _ (an2 _) hd3 rfl)
   |exit id=>exact hp.elim
   |goto t=>exact hp.elim
   |panic ch=>exact hp.elim
   |outgrown=>exact hp.elim
  ·rintro e W2 ⟨⟨v,rfl⟩,⟨hi,hl,hd⟩|⟨hi,hl,hd⟩⟩
   ·have hr:=run_endLoop (P:=P) hl (by rw[qI];simp);rw[qI]at hr;exact⟨none,_,hr,nD _ _ (an2 _) (hI.putObj _ hi O hl rfl) ((ap1 O).trans hd)⟩
   ·have hr:=run_endLoop (P:=P) hl (by rw[qI];simp);rw[qI]at hr;exact⟨some .ret,_,hr,ai2 _ _ (an2 _) (hIx.putObj (s:=()) _ hi O hl rfl) ((ap1 O).trans hd)⟩
end
section
open Go.RowKit Go.Maps Go.WideMaps
section
variable {α:Type} [BEq α]
def bI(keys:List α):Nat->List (Nat×Nat)
 |0=>[]
 |k+1=>match keys[k]? with
  |some x=>if (keys.take k).contains x then bI keys k++[((keys.take k).idxOf x,k)]else bI keys k
  |none=>bI keys k
theorem qW{keys:List α}{k:Nat}(hk:k<keys.length):bI keys (k+1)=if (keys.take k).contains keys[k]then bI keys k++[((keys.take k).idxOf keys[k],k)]else bI keys k:=by
 rw[bI,an3 hk]
theorem Vm{keys:List α}{k m:Nat}(h:k<=m):bI keys k <+: bI keys m:=by
 induction m with
 |zero=>
      have:k=0:=O;subst this;exact av9 _
 |succ m ih=>
  by_cases e:k=m+1
  ·subst e;exact av9 _
  ·have I:=ih O;refine I.trans ?_;rw[bI];split
   ·split
    ·exact aB0 _ _
    ·exact av9 _
   ·exact av9 _
theorem OD{keys:List α}{k:Nat}(hk:k<keys.length)(hc:(keys.take k).contains keys[k]=true) :
  ∃h:(bI keys k).length<(bI keys keys.length).length,(bI keys keys.length)[(bI keys k).length]=((keys.take k).idxOf keys[k],k):=by
 have hp:=Vm (keys:=keys) (k:=k+1) (m:=keys.length) hk;rw[qW hk,ao4 hc]at hp;obtain⟨r,hr⟩:=hp;refine⟨by rw[<-hr];simp,?_⟩;rw[List.getElem_of_eq hr.symm];simp
def uY(w:World)(k b:Nat)(kv:α->Value)(l:List α):Prop:=
 ∃(D:DataW Unit) (nn:Nat),nn<=l.length/\w.ownsMap prog k (plainElem prog 3) b nn D/\
  ∀x lt,keyOf prog k (kv x)=some lt->Maps.has D lt=l.contains x/\(l.contains x=true->D.atKey lt (.lit (.int .i64 0))=.lit (.int .i64 (l.idxOf x)))
theorem uY.kept{w w':World}{k b:Nat}{kv:α->Value}{l:List α}(h:uY w k b kv l)(hb:w'.heap[b]?=w.heap[b]?):uY w' k b kv l:=by
 obtain⟨D,nn,h0,⟨es,clock,I,M⟩,h3⟩:=h;exact⟨D,nn,h0,⟨es,clock,hb.trans I,M⟩,h3⟩
theorem uY.lt{w:World}{k b:Nat}{kv:α->Value}{l:List α}(h:uY w k b kv l):b<w.heap.size:=by
 obtain⟨D,nn,_,I,_⟩:=h;exact I.lt
theorem uY.walk{w:World}{k b:Nat}{kv:α->Value}{l:List α}(h:uY w k b kv l):∃o:Obj,w.heap[b]?=some o/\o.isWalk=true:=by
 obtain⟨D,nn,_,⟨es,clock,I,_⟩,_⟩:=h;exact⟨_,I,rfl⟩
theorem zS(w:World)(k:Nat)(kv:α->Value):uY (w.alloc (.map #[] 0)) k w.heap.size kv ([]:List α):=
 ⟨.map [],0,an2 _,aB6 w _ _ _,λx l _=>⟨rfl,λh=>by simp at h⟩⟩
theorem uY.again[LawfulBEq α]{w:World}{k b:Nat}{kv:α->Value}{l:List α}(h:uY w k b kv l){x:α}(hx:l.contains x=true):uY w k b kv (l++[x]):=by
 obtain⟨D,nn,h0,I,M⟩:=h;have hx':x∈l:=by simpa using hx
 refine⟨D,nn,anf,I,λy lt hy=>?_⟩;have h3:=M y lt hy;by_cases e:y∈l
 ·have e1:(l++[x]).contains y=true:=by simp[e]
  have e2:l.contains y=true:=by simpa using e
  rw[e1];refine⟨by rw[h3.1];exact e2,λ_=>?_⟩;rw[h3.2 e2];simp[aw0,e]
 ·have bg:y≠x:=λe'=>e (by rw[e'];exact hx');have e1:(l++[x]).contains y=false:=by simp[e,bg]
  have e2:l.contains y=false:=by simpa using e
  rw[e1];exact⟨by rw[h3.1];exact e2,λh=>by cases h⟩
theorem Ea[LawfulBEq α]{w':World}{k b nn:Nat}{kv:α->Value}{l:List α}{D:DataW Unit}(adl:∀a b:α,kv a=kv b->a=b)(K:Keyed prog k)(h0:nn<=l.length)
 (M:∀x lt,keyOf prog k (kv x)=some lt->Maps.has D lt=l.contains x/\(l.contains x=true->D.atKey lt (.lit (.int .i64 0))=.lit (.int .i64 (l.idxOf x))))
 (h4:Tidy D){x:α}{lx:Lit}(hl:keyOf prog k (kv x)=some lx)(hx:l.contains x=false)
 (h5:w'.ownsMap prog k (plainElem prog 3) b (nn+1) (D.put lx (.lit (.int .i64 l.length)))):uY w' k b kv (l++[x]):=by
 have hx':¬x∈l:=by simpa using hx
 refine⟨_,nn+1,anf,h5,λy m hm=>?_⟩;by_cases e:m=lx
 ·subst e;have:y=x:=adl _ _ (K.inj hm hl);subst this;refine⟨by rw[has_put_same h4.isMap (K.key hl)];simp,λ_=>?_⟩;rw[atKey_put_same h4.isMap (K.key hl)];simp[aw0,hx']
 ·have bg:y≠x:=λe'=>e (by subst e';rw[hm]at hl;exact at7 hl);rw[has_put_other e,atKey_put_other e,(M y m hm).1];refine⟨by simp[bg],λhy=>?_⟩;have hy':y∈l:=by simpa[bg]using hy
  rw[(M y m hm).2 (by simpa using hy')];simp[aw0,hy']
end
def KA(m0 X G:Nat)(W W':World):Prop:=(∀(k:Nat) (o:Obj),m0<=k->W.heap[k]?=some o->(o.isCells=true\/o.isWalk=true)->W'.heap[k]?=some o)/\W'.heap[X]?=W.heap[X]?/\W'.heap[G]?=W.heap[G]?
theorem KA.trans{m0 X G:Nat}{Ad B C:World}(h:KA m0 X G Ad B)(g:KA m0 X G B C):KA m0 X G Ad C:=⟨λk o hk ho hc=>g.1 k o hk (h.1 k o hk ho hc) hc,g.2.1.trans h.2.1,g.2.2.trans h.2.2⟩
end
section
open Go.RowKit Go.Maps Go.WideMaps
open au (Key put)
theorem fG{P:Program}{t k e:TypeId}(hu:P.underlying t=some (.map k e))(q:IntKind)(z:Int)(w:World):(Instr.makeMap t (some (.int q z))).run P w=.ok (.map (some w.heap.size)) (w.alloc (.map #[] 0)):=by
 simp[Instr.makeMap,run_underlying hu,asInt];rfl
def kN(x:Nat):Value:=A x
def kvB(x:UInt8):Value:=Ae x.toNat
theorem OL{a b:Nat}(h:kN a=kN b):a=b:=by simp[kN]at h;omega
theorem ae8{a b:UInt8}(h:kvB a=kvB b):a=b:=by
 simp[kvB]at h;exact UInt8.toNat_inj.1 O
theorem acL:Keyed prog 5:=int_keyed underlying5
theorem akW(x:UInt8):keyOf prog 5 (kvB x)=some (.int .u8 x.toNat):=by
 have hw:(Lit.int .u8 x.toNat).wf=true:=WalkArith.wf_u8 (by have:=UInt8.toNat_lt x;omega);simp[keyOf,mapKey,kvB,underlying5,hw]
def dS(w:World)(G:Nat)(Y:Ai):Prop:=G<w.heap.size/\∀i (hi:i<Y.length),w.cell? ⟨G,i*3,none⟩=some (Ae Y[i].1)/\w.cell? ⟨G,i*3+1,none⟩=some (A Y[i].2.1)/\w.cell? ⟨G,i*3+2,none⟩=some (A Y[i].2.2)
def gZ(w:World)(G:Nat)(cs:Ah):Prop:=G<w.heap.size/\∀i (hi:i<cs.length),w.cell? ⟨G,i*2,none⟩=some (Ae cs[i].1)/\w.cell? ⟨G,i*2+1,none⟩=some (A cs[i].2)
def Es(w:World)(G:Nat)(ks:List Nat):Prop:=G<w.heap.size/\∀i (hi:i<ks.length),w.cell? (J G i)=some (A ks[i])
def zn(w:World)(G:Nat)(ks:List UInt8):Prop:=G<w.heap.size/\∀i (hi:i<ks.length),w.cell? (J G i)=some (Ae ks[i].toNat)
theorem dS.below{w w':World}{b G:Nat}{Y:Ai}(h:dS w G Y)(hb:Below b w w')(hlt:G<b):dS w' G Y:=
 ⟨ap2 h.1 hb.size,λi hi=>⟨(hb.cell (p:=(J G _)) hlt).trans (h.2 i hi).1,(hb.cell (p:=(J G _)) hlt).trans (h.2 i hi).2.1,(hb.cell (p:=(J G _)) hlt).trans (h.2 i hi).2.2⟩⟩
theorem gZ.below{w w':World}{b G:Nat}{cs:Ah}(h:gZ w G cs)(hb:Below b w w')(hlt:G<b):gZ w' G cs:=
 ⟨ap2 h.1 hb.size,λi hi=>⟨(hb.cell (p:=(J G _)) hlt).trans (h.2 i hi).1,(hb.cell (p:=(J G _)) hlt).trans (h.2 i hi).2⟩⟩
theorem Es.below{w w':World}{b G:Nat}{ks:List Nat}(h:Es w G ks)(hb:Below b w w')(hlt:G<b):Es w' G ks:=
 ⟨ap2 h.1 hb.size,λi hi=>(hb.cell (p:=(J G _)) hlt).trans (h.2 i hi)⟩
theorem zn.below{w w':World}{b G:Nat}{ks:List UInt8}(h:zn w G ks)(hb:Below b w w')(hlt:G<b):zn w' G ks:=
 ⟨ap2 h.1 hb.size,λi hi=>(hb.cell (p:=(J G _)) hlt).trans (h.2 i hi)⟩
theorem dS.same{w w':World}{G:Nat}{Y:Ai}(h:dS w G Y)(hb:w'.heap[G]?=w.heap[G]?):dS w' G Y:=
 ⟨by have I:=h.1;rw[aq6 I]at hb;exact(an0.1 hb).1,λi hi=>⟨(an9 hb).trans (h.2 i hi).1,(an9 hb).trans (h.2 i hi).2.1,(an9 hb).trans (h.2 i hi).2.2⟩⟩
theorem gZ.same{w w':World}{G:Nat}{cs:Ah}(h:gZ w G cs)(hb:w'.heap[G]?=w.heap[G]?):gZ w' G cs:=
 ⟨by have I:=h.1;rw[aq6 I]at hb;exact(an0.1 hb).1,λi hi=>⟨(an9 hb).trans (h.2 i hi).1,(an9 hb).trans (h.2 i hi).2⟩⟩
theorem Es.same{w w':World}{G:Nat}{ks:List Nat}(h:Es w G ks)(hb:w'.heap[G]?=w.heap[G]?):Es w' G ks:=
 ⟨by have I:=h.1;rw[aq6 I]at hb;exact(an0.1 hb).1,λi hi=>(an9 hb).trans (h.2 i hi)⟩
theorem zn.same{w w':World}{G:Nat}{ks:List UInt8}(h:zn w G ks)(hb:w'.heap[G]?=w.heap[G]?):zn w' G ks:=
 ⟨by have I:=h.1;rw[aq6 I]at hb;exact(an0.1 hb).1,λi hi=>(an9 hb).trans (h.2 i hi)⟩
end
theorem Ns{P:Program}{ops:Array Oper}{Q:Exit->Act->World->Prop}{r n:Nat}(hd:∀(i:Nat) (o:Oper),ops[i]?=some o->∀c,o.op≠.defer c)(hQ:¬LetsOut Q) :
  ∀(l:List Nat) (a:Act) (w:World),wpOps P ops Q l a w->wpOpsIn (Fence.wide.inRound r) n P ops Q l a w:=by
 intro l
 induction l with
 |nil=>intro a w h;exact h
 |cons i rest ih=>
  intro a w h;simp only[wpOps]at h;simp only[wpOpsIn];cases ho:ops[i]? with
  |none=>simp only[ho]at h ⊢;exact ih _ _ h
  |some o=>
   simp only[ho]at h ⊢;by_cases hw:Region.wanted o (yielded ops a.tmps)=true
   ·simp only[hw,av8]at h ⊢;have h:=h.resolve_right (λhx=>hQ hx.2);unfold Oper.wp at h;unfold Oper.wpIn;refine⟨λ_ _=>trivial,?_⟩;rw[Oper.semAt_eq _ _ _ (hd i o ho)];generalize (execOp a.eval o).run P w=z at *;cases z with
    |ok x w'=>
     cases x<;>simp only[Oper.upon,Oper.uponIn]at h ⊢
     case value u=>exact ih _ _ h
     case skip=>exact ih _ _ h
     case defer d=>exact ih _ _ h
     case enter f args=>
      refine⟨λhx=>(by cases hx),aw1 r (aq2.2 (Calls.mono h λe w'' he=>?_))⟩;cases e with
      |returned u=>exact ih _ _ he
      |panicked c=>exact he
      |outgrown=>exact he
     case row row args=>
      refine⟨λhx=>(by cases hx),λc cs _=>?_⟩;obtain⟨v,w2,hv,hs⟩:=h c cs;exact⟨v,w2,ih _ _ hv,stepsIn_wide.2 hs⟩
    |halt x w'=>cases x<;>simp only[Oper.upon,Oper.uponIn]at h ⊢<;>exact h
   ·simp only[hw]at h ⊢;exact⟨λ_ _=>trivial,ih _ _ h⟩
section
variable {P:Program} {ops:Array Oper} {Q:Exit->Act->World->Prop} {md:Region.Mode} {S:World->Prop} {z:Nat}
def wpAnyL(P:Program)(md:Region.Mode)(ops:Array Oper)(Q:Exit->Act->World->Prop)(S:World->Prop)(z:Nat):Nat->Array Bool->Act->World->Prop
 |0,listed,a,w=>Region.ready md ops listed=[]/\Q .normal a w
 |fuel+1,listed,a,w=>
  (Region.ready md ops listed=[]->Q .normal a w)/\
  ∀i∈Region.ready md ops listed,wpOp P ops Q i (λa' w'=>(i≠z->S w')/\wpAnyL P md ops Q S z fuel (listed.setIfInBounds i true) a' w') a w
theorem iI:∀(fuel:Nat) (listed:Array Bool) (a:Act) (w:World),wpAnyL P md ops Q S z fuel listed a w->wpAny P md ops Q fuel listed a w
 |0,_,_,_,h=>h
 |fuel+1,_,_,_,h=>⟨h.1,λi hi=>wpOp_mono (λa' w' h'=>iI fuel _ a' w' h'.2) (h.2 i hi)⟩
def waits(md:Region.Mode)(ops:Array Oper)(z i:Nat):Bool:=match ops[z]? with|some o=>o.after.any λe=>Region.binds md e&&(e.on==i)|none=>false
theorem wpAnyL_first{i:Nat}{oi:Oper}{v:Value}(hi:ops[i]?=some oi)(hz:waits md ops z i=true)(ai7:∀(j:Nat) (o:Oper) cs b,ops[j]?=some o->o.op≠.select cs b)
 (hQ:∀c a w,Q (.panic c) (a.put oi.dst v) w->Q (.panic c) a w) :
  ∀(fuel:Nat) (listed:Array Bool) (a:Act) (w:World),
   (∀j oj,ops[j]?=some oj->j≠i->listed.getD j true=false->(∀e∈oj.after,Region.binds md e=true->e.on≠i)->oi.apart ops oj=true)->
   i∈Region.ready md ops listed->YieldsIf P ops S oi v a->S w->
   wpAnyL P md ops Q S z fuel (listed.setIfInBounds i true) (a.put oi.dst v) w->wpAnyL P md ops Q S z (fuel+1) listed a w:=by
 intro fuel
 induction fuel with
 |zero=>
  intro listed a w _ hr hy hS H;refine⟨λh=>(by rw[h]at hr;cases hr),λj hj=>?_⟩;by_cases hji:j=i
  ·subst hji;exact hy.wpOp hi hS ⟨λ_=>hS,H⟩
  ·have:=ready_mono hj hji;rw[H.1]at this;cases this
 |succ fuel ih=>
  intro listed a w agb hr hy hS H;refine⟨λh=>(by rw[h]at hr;cases hr),λj hj=>?_⟩;by_cases hji:j=i
  ·subst hji;exact hy.wpOp hi hS ⟨λ_=>hS,H⟩
  ·obtain⟨ajG,oj,hoj,aX⟩:=mem_ready.1 hj;have adg:∀e∈oj.after,Region.binds md e=true->e.on≠i:=λe he hb heq=>by
    have I:=aX e he hb;have h0:=(mem_ready.1 hr).1;rw[heq]at I;obtain h'|h':=Nat.lt_or_ge i listed.size
    ·simp[h']at h0 I;rw[h0]at I;cases I
    ·simp[Array.getElem?_eq_none h']at I
   have hjz:j≠z:=λe=>by
    subst e;unfold waits at hz;rw[hoj]at hz;simp only[Array.any_eq_true',ax0,beq_iff_eq]at hz;obtain⟨e,he,hb,hon⟩:=hz;exact adg e he hb hon
   have M:=wpOp_putIf hoj (agb j oj hoj hji ajG adg) (λcs b=>ai7 i oi cs b hi) (λcs b=>ai7 j oj cs b hoj) hQ hy (H.2 j (ready_mono hj hji));have ahl:∀k ok,ops[k]?=some ok->k≠i->(listed.setIfInBounds j true).getD k true=false->
     (∀e∈ok.after,Region.binds md e=true->e.on≠i)->oi.apart ops ok=true:=λk ok hk hki hun ny=>by
    refine agb k ok hk hki ?_ ny;by_cases hjk:j=k
    ·subst hjk;exact ajG
    ·rw[getD_set_ne true hjk]at hun;exact hun
   refine wpOp_mono (λa' w' h3=>⟨h3.2.1,ih (listed.setIfInBounds j true) a' w' ahl (ready_mono hr (ax7 hji)) h3.1 (h3.2.1 hjz) ?_⟩) M;rw[Array.setIfInBounds_comm _ _ hji];exact h3.2.2
theorem Qv{i:Nat}{oi:Oper}{v:Value}{fuel:Nat}{listed:Array Bool}{a:Act}{w:World}(hi:ops[i]?=some oi)(hz:waits md ops z i=true)
 (hs:Region.noSelect ops=true)(hf:Region.free md ops listed i=true)(hr:(Region.ready md ops listed).contains i=true)
 (hQ:∀c a w,Q (.panic c) (a.put oi.dst v) w->Q (.panic c) a w)(hw:Region.wanted oi (yielded ops a.tmps)=true)(hy:∀w,S w->(execOp a.eval oi).run P w=.ok (.value v) w)(hS:S w)
 (h:wpAnyL P md ops Q S z fuel (listed.setIfInBounds i true) (a.put oi.dst v) w):wpAnyL P md ops Q S z (fuel+1) listed a w:=
 wpAnyL_first hi hz (Region.noSelect_spec hs) hQ fuel listed a w (Region.free_spec hi hf) (by simpa using hr) (Or.inl ⟨hw,hy⟩) hS h
theorem UQ{i:Nat}{o:Oper}{fuel:Nat}{listed:Array Bool}{a:Act}{w:World}(hr:Region.ready md ops listed=[i])(ho:ops[i]?=some o)(hw:Region.wanted o (yielded ops a.tmps)=true)
 (h:∀K':Act->World->Prop,Shut (∀a w,(i≠z->S w)->wpAnyL P md ops Q S z fuel (listed.setIfInBounds i true) a w->K' a w)->Oper.wp P o a w K' Q) :
  wpAnyL P md ops Q S z (fuel+1) listed a w:=by
 refine⟨λh0=>(by rw[hr]at h0;cases h0),λj hj=>?_⟩;rw[hr]at hj;obtain rfl:j=i:=by simpa using hj
 refine wpOp_step ho (λK' hK=>?_);rw[ao4 hw];exact h K' (λa w hS hW=>hK a w ⟨hS,hW⟩)
theorem jh{listed:Array Bool}{a:Act}{w:World}(hr:Region.ready md ops listed=[])(h:Q .normal a w):∀fuel,wpAnyL P md ops Q S z fuel listed a w
 |0=>⟨hr,h⟩
 |_+1=>⟨λ_=>h,by rw[hr];simp⟩
theorem zq{o:Oper}{a:Act}{w:World}{K:Act->World->Prop}(s x:Operand)(t:TypeId)(VU:o.op=Op.call {callee:=Callee.builtin Builtin.append,args:=#[s,x],argTypes:=#[t,t]})
 (base:Nat)(e:TypeId)(i:TypeInfo)(size:Nat)(I:P.underlying t=some (.slice e))(M:P.info? e=some i)(h4:i.size=size)
 (g k cap:Nat)(xs:List Value)(hs:a.eval s=Ac g 0 k cap)(aH:w.ownsRow base e size (Ac g 0 k cap) k xs)(ad:Addr)(m c:Nat)(news:List Value)(hx:a.eval x=.slice (some ad) m c)(hn:news.length=m*size)
 (hc:∀j u,news[j]?=some u->w.cell? (ad.add j)=some u)(h1c:∀u∈news,u.oneCell'=true)(b1:k+m<=cap)
 (hK:∀w',w'.ownsRow base e size (Ac g 0 (k+m) cap) (k+m) (xs++news)->w.grownBy w' (some g)->K (a.put o.dst (Ac g 0 (k+m) cap)) w'):Oper.wp P o a w K Q:=by
 obtain⟨w',iW,r1,r2⟩:=run_append_fits (P:=P) w base t o.type e i size I M h4 g k cap xs aH ad m c news hn hc h1c b1;unfold Oper.wp;simp[execOp,VU,resolve,invoke,builtin,hs,hx,iW,Result.andThen];exact hK w' r1 r2
theorem yw{r n id:Nat}{a:Act}{w:World}(S:World->Prop)(z fuel:Nat)(listed:Array Bool)(hm:P.follows .mixedOrders=true)(hf:ops.size=fuel)(hl:Array.replicate ops.size false=listed)
 (hd:(ops.all λo=>match o.op with|.defer _=>false|_=>true)=true)(hQ:¬LetsOut Q)(h:wpAnyL P .any ops Q S z fuel listed a w.drew):(Code.region id ops true).wpIn (Fence.wide.inRound r) n P Q a w:=
 wpIn_region_draw λt=>by
  simp only[Region.schedule,hm,Bool.true_or,av8];subst hf;subst hl;refine Ns (λi o ho c hc=>?_) hQ _ _ _ (wpAny_sound ops.size t _ a _ (iI _ _ _ _ h));obtain⟨hlt,he⟩:=an0.1 ho;have:=(Array.all_eq_true.1 hd) i hlt;rw[he,hc]at this;cases this
end
theorem jq0{α:Type}{l:List α}{i:Nat}(h:i<l.toArray.size):l.toArray[i]=l[i]'(by simpa using h):=List.getElem_toArray h
theorem jq1{α:Type}{a:α}{l:List α}(h:0<(a::l).length):(a::l)[0]=a:=rfl
theorem jq2{α:Type}{a:α}{l:List α}{i:Nat}(h:i+1<(a::l).length):(a::l)[i+1]=l[i]'(by simpa using h):=rfl
theorem jq3(l:List Value)(d:List Deferred)(k:Nat)(v:Value):Act.put ⟨l.toArray,d⟩ (some k) v=⟨(l.set k v).toArray,d⟩:=by simp[Act.put]
theorem jq4{α:Type}{a b:α}{l:List α}:(a::l).set 0 b=b::l:=rfl
theorem jq5{α:Type}{a b:α}{l:List α}{i:Nat}:(a::l).set (i+1) b=a::l.set i b:=rfl
theorem aF:(∀{α:Type} {l:List α} {i:Nat} (h:i<l.toArray.size),l.toArray[i]=l[i]'(by simpa using h))/\(∀{α:Type} {a:α} {l:List α} (h:0<(a::l).length),(a::l)[0]=a)/\(∀{α:Type} {a:α} {l:List α} {i:Nat} (h:i+1<(a::l).length),(a::l)[i+1]=l[i]'(by simpa using h))/\(∀(l:List Value) (d:List Deferred) (k:Nat) (v:Value),Act.put ⟨l.toArray,d⟩ (some k) v=⟨(l.set k v).toArray,d⟩)/\(∀{α:Type} {a b:α} {l:List α},(a::l).set 0 b=b::l)/\(∀{α:Type} {a b:α} {l:List α} {i:Nat},(a::l).set (i+1) b=a::l.set i b):=⟨jq0,jq1,jq2,jq3,jq4,jq5⟩
theorem jq6(l:List Value)(d:List Deferred)(v:Value):Act.put ⟨l.toArray,d⟩ none v=⟨l.toArray,d⟩:=rfl
section
variable {P:Program} {ops:Array Oper} {Q:Exit->Act->World->Prop} {md:Region.Mode} {S:World->Prop} {z fuel:Nat} {listed:Array Bool} {a:Act} {w:World} {oi:Oper}
theorem tH(i:Nat)(v:Value)(hy:∀w,S w->(execOp a.eval oi).run P w=.ok (.value v) w)(hS:S w)(h:wpAnyH P md ops Q S fuel (listed.setIfInBounds i true) (a.put oi.dst v) w)
 (hi:ops[i]?=some oi:=by rfl)(hs:Region.noSelect ops=true:=by kernel_rfl)(hf:Region.free md ops listed i=true:=by kernel_rfl)(hr:(Region.ready md ops listed).contains i=true:=by kernel_rfl)
 (hQ:∀c a w,Q (.panic c) (a.put oi.dst v) w->Q (.panic c) a w:=by first|exact λ_ _ _ h=>h|exact λ_ _ _ h=>(by cases h.1))(hw:Region.wanted oi (yielded ops a.tmps)=true:=by rfl):wpAnyH P md ops Q S (fuel+1) listed a w:=
 wpAnyH_take hi hs hf hr hQ (Or.inl ⟨hw,hy⟩) hS h
theorem dF(i:Nat)(v:Value)(hS:S w)(h:wpAnyH P md ops Q S fuel (listed.setIfInBounds i true) (a.put oi.dst v) w)
 (hi:ops[i]?=some oi:=by rfl)(hs:Region.noSelect ops=true:=by kernel_rfl)(hf:Region.free md ops listed i=true:=by kernel_rfl)(hr:(Region.ready md ops listed).contains i=true:=by kernel_rfl)
 (hQ:∀c a w,Q (.panic c) (a.put oi.dst v) w->Q (.panic c) a w:=by first|exact λ_ _ _ h=>h|exact λ_ _ _ h=>(by cases h.1))(hw:Region.wanted oi (yielded ops a.tmps)=true:=by rfl)(hy:∀w,S w->(execOp a.eval oi).run P w=.ok (.value v) w:=by intro w' hS;go_simp):wpAnyH P md ops Q S (fuel+1) listed a w:=
 tH i v hy hS h hi hs hf hr hQ hw
theorem tL(i:Nat)(v:Value)(hy:∀w,S w->(execOp a.eval oi).run P w=.ok (.value v) w)(hS:S w)(h:wpAnyL P md ops Q S z fuel (listed.setIfInBounds i true) (a.put oi.dst v) w)
 (hi:ops[i]?=some oi:=by rfl)(hz:waits md ops z i=true:=by kernel_rfl)(hs:Region.noSelect ops=true:=by kernel_rfl)(hf:Region.free md ops listed i=true:=by kernel_rfl)(hr:(Region.ready md ops listed).contains i=true:=by kernel_rfl)
 (hQ:∀c a w,Q (.panic c) (a.put oi.dst v) w->Q (.panic c) a w:=by first|exact λ_ _ _ h=>h|exact λ_ _ _ h=>(by cases h.1))(hw:Region.wanted oi (yielded ops a.tmps)=true:=by rfl):wpAnyL P md ops Q S z (fuel+1) listed a w:=
 Qv hi hz hs hf hr hQ hw hy hS h
theorem oH(i:Nat)(h:∀K':Act->World->Prop,Shut (∀a w,S w->wpAnyH P md ops Q S fuel (listed.setIfInBounds i true) a w->K' a w)->Oper.wp P oi a w K' Q)
 (hr:Region.ready md ops listed=[i]:=by kernel_rfl)(ho:ops[i]?=some oi:=by rfl)(hw:Region.wanted oi (yielded ops a.tmps)=true:=by rfl):wpAnyH P md ops Q S (fuel+1) listed a w:=
 UR hr ho hw h
theorem oL(i:Nat)(h:∀K':Act->World->Prop,Shut (∀a w,(i≠z->S w)->wpAnyL P md ops Q S z fuel (listed.setIfInBounds i true) a w->K' a w)->Oper.wp P oi a w K' Q)
 (hr:Region.ready md ops listed=[i]:=by kernel_rfl)(ho:ops[i]?=some oi:=by rfl)(hw:Region.wanted oi (yielded ops a.tmps)=true:=by rfl):wpAnyL P md ops Q S z (fuel+1) listed a w:=
 UQ hr ho hw h
theorem oO{i:Nat}{K:Act->World->Prop}(h:∀K':Act->World->Prop,Shut (∀a w,K a w->K' a w)->Oper.wp P oi a w K' Q)(ho:ops[i]?=some oi:=by rfl)(hw:Region.wanted oi (yielded ops a.tmps)=true:=by rfl):wpOp P ops Q i K a w:=by
 refine wpOp_step ho (λK' hK=>?_);rw[ao4 hw];exact h K' hK
def pz(P:Program)(md:Region.Mode)(ops:Array Oper)(Q:Exit->Act->World->Prop)(S:World->Prop)(fuel:Nat)(listed:Array Bool)(i:Nat)(a:Act)(w:World):Prop:=
 wpOp P ops Q i (λa' w'=>S w'/\wpAnyH P md ops Q S fuel (listed.setIfInBounds i true) a' w') a w
theorem a1(i:Nat)(h:pz P md ops Q S fuel listed i a w)(hr:Region.ready md ops listed=[i]:=by kernel_rfl):wpAnyH P md ops Q S (fuel+1) listed a w:=
 wpAnyH_all hr R (λk hk=>by simp only[ar9,av3,aA4]at hk;subst hk;exact h)
theorem a2(i j:Nat)(h:pz P md ops Q S fuel listed i a w)(M:pz P md ops Q S fuel listed j a w)(hr:Region.ready md ops listed=[i,j]:=by kernel_rfl):wpAnyH P md ops Q S (fuel+1) listed a w:=
 wpAnyH_all hr R (λk hk=>by simp only[ar9,av3,aA4]at hk;obtain rfl|rfl:=hk<;>assumption)
theorem a3(i j l:Nat)(h:pz P md ops Q S fuel listed i a w)(M:pz P md ops Q S fuel listed j a w)(h3:pz P md ops Q S fuel listed l a w)(hr:Region.ready md ops listed=[i,j,l]:=by kernel_rfl):wpAnyH P md ops Q S (fuel+1) listed a w:=
 wpAnyH_all hr R (λk hk=>by simp only[ar9,av3,aA4]at hk;obtain rfl|rfl|rfl:=hk<;>assumption)
theorem a4(i j l m:Nat)(h:pz P md ops Q S fuel listed i a w)(M:pz P md ops Q S fuel listed j a w)(h3:pz P md ops Q S fuel listed l a w)(h4:pz P md ops Q S fuel listed m a w)(hr:Region.ready md ops listed=[i,j,l,m]:=by kernel_rfl):wpAnyH P md ops Q S (fuel+1) listed a w:=
 wpAnyH_all hr R (λk hk=>by simp only[ar9,av3,aA4]at hk;obtain rfl|rfl|rfl|rfl:=hk<;>assumption)
end
open Go
def mJ(Af:Nat->Act->World->Prop)(Q:Exit->Act->World->Prop):Exit->Act->World->Prop
 |.goto l,a,w=>Af l a w
 |e,a,w=>Q e a w
theorem LC{P:Program}{a:Act}{w:World}{Q:Exit->Act->World->Prop}{c:Code}(Af:Nat->Nat->Act->World->Prop)
 (first:c.wp P (mJ (λl a w=>∃r,Af r l a w) Q) a w)
 (pass:∀r l a w,Af r l a w->∃rest,findLabel c l=some rest/\rest.wp P (mJ (λl' a' w'=>∃r',r'<r/\Af r' l' a' w') Q) a w):(Code.scope c).wp P Q a w:=by
 intro b k cs;have key:∀r l a w,Af r l a w->∃rest e a' w',findLabel c l=some rest/\Q e a' w'/\Arrives P (lone (b.at a (.code rest::.inScope c::k)) cs w) b k cs e a' w':=by
  intro r
  induction r using Nat.strongRecOn with
  |_ r ih=>
   intro l a w hJ;obtain⟨rest,hf,hp⟩:=pass r l a w hJ;obtain⟨e,a1,w1,hq,Fp⟩:=hp b (.inScope c::k) cs;cases e with
   |normal=>exact⟨rest,.normal,a1,w1,hf,hq,Steps.trans Fp (.one step_inScope)⟩
   |exit id=>exact⟨rest,.exit id,a1,w1,hf,hq,λk' hk=>Fp k' (by simp[exitTo,hk])⟩
   |goto l'=>
    obtain⟨r',hlt,hJ'⟩:=hq;obtain⟨ab2,e2,a2,w2,tX,OX,adt⟩:=ih r' hlt l' a1 w1 hJ';have hg:gotoIn l' (.inScope c::k)=some (.code ab2::.inScope c::k):=(by simp[gotoIn,tX]);exact⟨rest,e2,a2,w2,hf,OX,.of_steps (Fp _ hg) adt⟩
   |ret=>exact⟨rest,_,a1,w1,hf,hq,Fp⟩
   |panic ch=>exact⟨rest,_,a1,w1,hf,hq,Fp⟩
   |outgrown=>exact⟨rest,_,a1,w1,hf,hq,Fp⟩
 obtain⟨e,a1,w1,hq,Fp⟩:=first b (.inScope c::k) cs
 cases e with
 |normal=>exact⟨.normal,a1,w1,hq,.head step_scope (Steps.trans Fp (.one step_inScope))⟩
 |exit id=>exact⟨.exit id,a1,w1,hq,λk' hk=>.head step_scope (Fp k' (by simp[exitTo,hk]))⟩
 |goto l'=>
  obtain⟨r,hJ⟩:=hq;obtain⟨ab2,e2,a2,w2,tX,OX,adt⟩:=key r l' a1 w1 hJ;have hg:gotoIn l' (.inScope c::k)=some (.code ab2::.inScope c::k):=by simp[gotoIn,tX]
  exact⟨e2,a2,w2,OX,.of_steps (.head step_scope (Fp _ hg)) adt⟩
 |ret=>exact⟨_,a1,w1,hq,.of_steps (.one step_scope) Fp⟩
 |panic ch=>exact⟨_,a1,w1,hq,.of_steps (.one step_scope) Fp⟩
 |outgrown=>exact⟨_,a1,w1,hq,.of_steps (.one step_scope) Fp⟩
theorem II{P:Program}{a:Act}{w:World}{Q:Exit->Act->World->Prop}{c c0 c1 c2:Code}(Af:Nat->Nat->Act->World->Prop)(h0:findLabel c 0=some (.seq .skip c0))(I:findLabel c 1=some (.seq .skip c1))(M:findLabel c 2=some (.seq .skip c2))
 (only:∀r l a w,Af r l a w->l=0\/l=1\/l=2)
 (p2:∀r a w,Af r 2 a w->c2.wp P (mJ (λl' a' w'=>∃r',r'<r/\Af r' l' a' w') Q) a w)
 (p1:∀r a w,Af r 1 a w->c1.wp P (mJ (λl' a' w'=>∃r',r'<r/\Af r' l' a' w') Q) a w)
 (p0:(∀r a w,Af r 1 a w->c1.wp P (mJ (λl' a' w'=>∃r',r'<r/\Af r' l' a' w') Q) a w)->∀r a w,Af r 0 a w->c0.wp P (mJ (λl' a' w'=>∃r',r'<r/\Af r' l' a' w') Q) a w)
 (first:(∀r a w,Af r 0 a w->c0.wp P (mJ (λl' a' w'=>∃r',r'<r/\Af r' l' a' w') Q) a w)->c.wp P (mJ (λl a w=>∃r,Af r l a w) Q) a w):(Code.scope c).wp P Q a w:=by
 refine LC Af (first (p0 p1)) (λr l a w h=>?_);obtain e|e|e:=only r l a w h
 ·subst e;exact⟨_,h0,wp_seq (wp_skip (p0 p1 r a w h))⟩
 ·subst e;exact⟨_,I,wp_seq (wp_skip (p1 r a w h))⟩
 ·subst e;exact⟨_,M,wp_seq (wp_skip (p2 r a w h))⟩
theorem DJ{Af J':Nat->Act->World->Prop}{Q:Exit->Act->World->Prop}(h:∀l a w,Af l a w->J' l a w):∀e a w,mJ Af Q e a w->mJ J' Q e a w:=by
 intro e a w hj;cases e<;>first|exact h _ _ _ hj|exact hj
end Go.Proofs.YthcppbmkacbbiabGreat
