import Derived.Test.YthcppbmkacbbiabGreatRows
import Derived.Test.YthcppbmkacbbiabGreatVAC
import Derived.Test.YthcppbmkacbbiabGreatVAJ
import Derived.Test.YthcppbmkacbbiabGreatShelf
import Derived.OpenShut
import Derived.ShutString
import Derived.ChangeOld
import Derived.Lib.SmallJoins
import Derived.Deep.Slices
import Derived.Lib.Join
import Derived.Deep.RegionWith
set_option linter.unusedSimpArgs false
set_option maxHeartbeats 1000000
set_option maxRecDepth 100000
namespace Go.Proofs.YthcppbmkacbbiabGreat
open Go.Proofs.Tryz
section
open Go.ChangeShapes Go.WideShapes Go.ChangeAt Go.RowKit
open Go.ChangeMaps (open_string shut_string)
theorem akT:ownKnob prog.godebug=none:=by kernel_rfl
theorem acN:laidOutB prog=true:=by kernel_rfl
theorem YZ:prog.cellsOf 61=4:=by kernel_rfl
theorem aa3:prog.cellsOf 3=1:=by kernel_rfl
theorem aa2:prog.cellsOf 9=1:=by kernel_rfl
def KZ(w:World)(v:Value):Prop:=
 (∃ao cap,v=.slice ao 0 cap)\/
 ∃(b off len cap:Nat) (K Nn:Nat->Int) (S Tt:Nat->ByteArray),v=Ac b off len cap/\b<w.heap.size/\len<=maxLen/\
  ∀i,i<len->(S i).size<=maxLen/\(Tt i).size<=maxLen/\w.cell? ⟨b,off+i*4,none⟩=some (A (K i))/\w.cell? ⟨b,off+i*4+1,none⟩=some (A (Nn i))/\
   w.cell? ⟨b,off+i*4+2,none⟩=some (.string (S i))/\w.cell? ⟨b,off+i*4+3,none⟩=some (.string (Tt i))
theorem aeV{H:Type}{enc:TypeId×Value->H}{w:World}{spare:Nat->Bool}{held:Bool}{n:Nat}{cs:List Value}{x:DataW H×List MemPlace}{a:Addr}
 (hc:w.cells? 0 a 4=some cs)(h:DataW.trod enc prog w 0 spare held n 61 cs=some x) :
  ∃(k m:Int) (s t:ByteArray),s.size<=maxLen/\t.size<=maxLen/\w.cell? (a.add 0)=some (.int .i64 k)/\w.cell? (a.add 1)=some (.int .i64 m)/\w.cell? (a.add 2)=some (.string s)/\w.cell? (a.add 3)=some (.string t):=by
 obtain⟨y0,y1,y2,y3,n',_,hl,h0,I,M,h3⟩:=Go.Joins.trod_struct4 underlying61 h;rw[YZ]at hl;simp only[aa3,aa2]at h0 I M h3
 match cs,hl with
 |[c0,c1,c2,c3],_=>
  obtain⟨k,e0,_,_⟩:=DataW.trod_int underlying3 h0;obtain⟨m,e1,_,_⟩:=DataW.trod_int underlying3 I;obtain⟨s,e2,_,hs⟩:=DataW.trod_string underlying9 M;obtain⟨t,e3,_,ht⟩:=DataW.trod_string underlying9 h3;simp at e0 e1 e2 e3;subst e0 e1 e2 e3;have hh:=(World.cells?_some hc).2.2;exact⟨k,m,s,t,hs,ht,by simpa using hh 0 O,by simpa using hh 1 O,by simpa using hh 2 O,by simpa using hh 3 O⟩
theorem aer(b off i:Nat):((J b off):Addr).add i=(J b (off+i)):=by
 unfold Addr.add;split
 ·rename_i h;subst h;rfl
 ·rfl
theorem open_script{H:Type}{enc:TypeId×Value->H}{w:World}{ao:Option Addr}{len cap:Nat}{d:DataW H}{ps:List MemPlace}(h:DataW.Trod enc prog w 0 (λ_=>true) true 36 (.slice ao len cap) d ps) :
  KZ w (.slice ao len cap):=by
 by_cases h0:len=0
 ·subst h0;exact Or.inl ⟨_,_,rfl⟩
 ·obtain⟨fuel,hf⟩:=h;obtain⟨hcs,_⟩|⟨a,len',qB,m,n,D,Pl,hcs,_,hl,hm,Ii,_,hx⟩:=Go.Deep.open_slice underlying36 hf
  ·simp[Value.cells]at hcs;exact absurd hcs.2.1 h0
  ·simp[Value.cells]at hcs;obtain⟨rfl,rfl,rfl⟩:=hcs;have hmc:m=cap:=(by simpa using Ii);subst hmc;rw[YZ]at hx;have aX:∀i,i<len->∃(k q:Int) (s t:ByteArray),s.size<=maxLen/\t.size<=maxLen/\w.cell? ((a.add (i*4)).add 0)=some (A k)/\w.cell? ((a.add (i*4)).add 1)=some (A q)/\w.cell? ((a.add (i*4)).add 2)=some (.string s)/\w.cell? ((a.add (i*4)).add 3)=some (.string t):=λi hi=>by
    obtain⟨cs',I,M⟩:=hx i O;exact aeV I M
   obtain⟨b,off,spot⟩:=a;obtain⟨k0,q0,s0,t0,_,_,zO,_⟩:=aX 0 O;have ai4:spot=none:=(by simpa[Addr.add]using World.cell?_spot zO);subst ai4;have hb:b<w.heap.size:=(by simpa[Addr.add]using World.block_lt_of_cell? w _ zO);simp only[aer]at aX;have TJ:∀i,∃(y:Int×Int×ByteArray×ByteArray),i<len->y.2.2.1.size<=maxLen/\y.2.2.2.size<=maxLen/\w.cell? ⟨b,off+i*4,none⟩=some (A y.1)/\w.cell? ⟨b,off+i*4+1,none⟩=some (A y.2.1)/\
     w.cell? ⟨b,off+i*4+2,none⟩=some (.string y.2.2.1)/\w.cell? ⟨b,off+i*4+3,none⟩=some (.string y.2.2.2):=λi=>by
    by_cases hi:i<len
    ·obtain⟨k,q,s,t,g1,g2,g3,g4,g5,g6⟩:=aX i hi;exact⟨(k,q,s,t),λ_=>⟨g1,g2,by simpa using g3,by simpa using g4,by simpa using g5,by simpa using g6⟩⟩
    ·exact⟨(0,0,ByteArray.empty,ByteArray.empty),λh=>absurd h hi⟩
   exact Or.inr ⟨b,off,len,_,λi=>(TJ i).choose.1,λi=>(TJ i).choose.2.1,λi=>(TJ i).choose.2.2.1,λi=>(TJ i).choose.2.2.2,rfl,hb,O,λi hi=>(TJ i).choose_spec hi⟩
theorem abD(lo hi:Int)(hp:XD lo hi)(w:World)(v:Value)(h:KZ w v) :
  Calls prog 15 #[v,A lo,A hi] w λe w'=>e=.returned (A (-1))/\Ag w w':=by
 obtain⟨ao,cap,rfl⟩|⟨b,off,len,cap,K,Nn,S,Tt,rfl,hb,hm,hx⟩:=h
 ·exact Zg lo hi w ao cap
 ·exact Zf lo hi hp w b off len cap K Nn S Tt hb (by unfold maxLen at hm;omega) (λi h=>(hx i h).1) (λi h=>(hx i h).2.1) (λi h=>(hx i h).2.2.1) (λi h=>(hx i h).2.2.2.1) (λi h=>(hx i h).2.2.2.2.1) (λi h=>(hx i h).2.2.2.2.2)
end
namespace Sat
abbrev View:Type:=Nat×Bool
abbrev Rule:Type:=List View
abbrev og:Type:=Bool×Nat×Rule
abbrev dN:Type:=Nat->Option og
def right(β:dN)(v:View):Prop:=∃b,β v.1=some b/\b.1=v.2
def wrong(β:dN)(v:View):Prop:=∃b,β v.1=some b/\b.1≠v.2
def kY(β:dN)(k:Nat)(v:View):Prop:=∃b,β v.1=some b/\b.1≠v.2/\b.2.1<k
def keeps(α:Nat->Bool)(r:Rule):Prop:=∃v∈r,α v.1=v.2
structure BInv(ak:List Rule)(β:dN)(n:Nat):Prop where
 lt:∀x b,β x=some b->b.2.1<n
 inj:∀x y b c,β x=some b->β y=some c->b.2.1=c.2.1->x=y
 by_:∀x i k r,β x=some (i,k,r)->r≠[]->r∈ak/\(x,i)∈r/\∀u∈r,u≠(x,i)->kY β k u
 free:∀x i k,β x=some (i,k,[])->∀r∈ak,∀j,(∀u∈r,u=(x,j)\/kY β k u)->(x,j)∉r
theorem aem(ak:List Rule):BInv ak (λ_=>none) 0:=
 ⟨λ_ _ h=>by(cases h),λ_ _ _ _ h=>by(cases h),λ_ _ _ _ h=>by(cases h),λ_ _ _ h=>by(cases h)⟩
def add(β:dN)(x:Nat)(b:og):dN:=λy=>if y=x then some b else β y
theorem add_same(β:dN)(x:Nat)(b:og):add β x b x=some b:=by simp[add]
theorem eG{β:dN}{x y:Nat}(b:og)(h:y≠x):add β x b y=β y:=by simp[add,h]
theorem xX{β:dN}{x k:Nat}{b:og}{v:View}(hx:β x=none)(h:kY β k v):kY (add β x b) k v:=by
 obtain⟨c,I,M,h3⟩:=h;refine⟨c,?_,M,h3⟩;rw[eG]
 ·exact I
 ·rintro rfl;rw[hx]at I;cases I
theorem qN{β:dN}{x k n:Nat}{i:Bool}{r:Rule}{v:View}(hk:k<=n)(h:kY (add β x (i,n,r)) k v):kY β k v:=by
 obtain⟨c,I,M,h3⟩:=h;by_cases e:v.1=x
 ·rw[e,add_same]at I;cases I;simp at h3;omega
 ·rw[eG _ e]at I;exact⟨c,I,M,h3⟩
theorem BInv.follow{ak:List Rule}{β:dN}{n:Nat}(h:BInv ak β n){r:Rule}(hr:r∈ak){x:Nat}{i:Bool}(hm:(x,i)∈r)(hx:β x=none)(ho:∀u∈r,u≠(x,i)->wrong β u):BInv ak (add β x (i,n,r)) (n+1):=by
 have hw:∀u,wrong β u->kY β n u:=λu ⟨b,I,M⟩=>⟨b,I,M,h.lt _ _ I⟩;refine⟨λy b hy=>?_,λy z b c hy hz e=>?_,λy j k q hy hq=>?_,λy j k hy q hq l hl=>?_⟩
 ·by_cases e:y=x
  ·rw[e,add_same]at hy;cases hy;simp
  ·rw[eG _ e]at hy;have:=h.lt _ _ hy;omega
 ·by_cases e1:y=x<;>by_cases e2:z=x
  ·rw[e1,e2]
  ·rw[e1,add_same]at hy;cases hy;rw[eG _ e2]at hz;have:=h.lt _ _ hz;simp at e;omega
  ·rw[e2,add_same]at hz;cases hz;rw[eG _ e1]at hy;have:=h.lt _ _ hy;simp at e;omega
  ·rw[eG _ e1]at hy;rw[eG _ e2]at hz;exact h.inj _ _ _ _ hy hz e
 ·by_cases e:y=x
  ·subst e;rw[add_same]at hy;cases hy;exact⟨hr,hm,λu hu bg=>xX hx (hw u (ho u hu bg))⟩
  ·rw[eG _ e]at hy;obtain⟨q1,q2,q3⟩:=h.by_ _ _ _ _ hy hq;exact⟨q1,q2,λu hu bg=>xX hx (q3 u hu bg)⟩
 ·by_cases e:y=x
  ·subst e;rw[add_same]at hy;cases hy;cases hm
  ·rw[eG _ e]at hy;have hk:=h.lt _ _ hy;exact h.free _ _ _ hy q hq l (λu hu=>(hl u hu).imp id (qN (by simp at hk;omega)))
def Done(ak:List Rule)(β:dN):Prop:=∀r∈ak,(∃v∈r,right β v)\/∃u∈r,∃v∈r,u≠v/\β u.1=none/\β v.1=none
theorem BInv.choose{ak:List Rule}{β:dN}{n:Nat}(h:BInv ak β n)(hd:Done ak β){x:Nat}(i:Bool)(hx:β x=none):BInv ak (add β x (i,n,[])) (n+1):=by
 refine⟨λy b hy=>?_,λy z b c hy hz e=>?_,λy j k q hy hq=>?_,λy j k hy q hq l hl=>?_⟩
 ·by_cases e:y=x
  ·rw[e,add_same]at hy;cases hy;simp
  ·rw[eG _ e]at hy;have:=h.lt _ _ hy;omega
 ·by_cases e1:y=x<;>by_cases e2:z=x
  ·rw[e1,e2]
  ·rw[e1,add_same]at hy;cases hy;rw[eG _ e2]at hz;have:=h.lt _ _ hz;simp at e;omega
  ·rw[e2,add_same]at hz;cases hz;rw[eG _ e1]at hy;have:=h.lt _ _ hy;simp at e;omega
  ·rw[eG _ e1]at hy;rw[eG _ e2]at hz;exact h.inj _ _ _ _ hy hz e
 ·by_cases e:y=x
  ·subst e;rw[add_same]at hy;cases hy;exact absurd rfl hq
  ·rw[eG _ e]at hy;obtain⟨q1,q2,q3⟩:=h.by_ _ _ _ _ hy hq;exact⟨q1,q2,λu hu bg=>xX hx (q3 u hu bg)⟩
 ·by_cases e:y=x
  ·subst e;rw[add_same]at hy;cases hy;intro hm;have hw:∀u∈q,u=(y,l)\/wrong β u:=λu hu=>(hl u hu).imp id (λg=>by
    obtain⟨b,I,M,_⟩:=qN (an2 _) g;exact⟨b,I,M⟩)
   obtain⟨v,hv,b,I,M⟩|⟨u,hu,v,hv,bg,I,M⟩:=hd q hq
   ·obtain rfl|⟨c,g1,g2⟩:=hw v hv
    ·rw[hx]at I;cases I
    ·rw[I]at g1;cases g1;exact g2 M
   ·obtain rfl|⟨c,g1,_⟩:=hw u hu
    ·obtain rfl|⟨c,g1,_⟩:=hw v hv
     ·exact bg rfl
     ·rw[M]at g1;cases g1
    ·rw[I]at g1;cases g1
  ·rw[eG _ e]at hy;have hk:=h.lt _ _ hy;exact h.free _ _ _ hy q hq l (λu hu=>(hl u hu).imp id (qN (by simp at hk;omega)))
theorem BInv.blame{ak:List Rule}{β:dN}{n:Nat}(h:BInv ak β n){broken:Rule}(hb:broken∈ak)(hw:∀v∈broken,wrong β v)(S:Nat->Prop)(h0:∀v∈broken,S v.1)
 (hS:∀x i k r,S x->β x=some (i,k,r)->∀u∈r,S u.1)(C:Rule)(hC:∀x i k,S x->β x=some (i,k,[])->(x,!i)∈C)(α:Nat->Bool)(hα:∀r∈ak,keeps α r):keeps α C:=by
 refine aq4 λhn=>?_;have Qn:∀x i k,S x->β x=some (i,k,[])->α x=i:=λx i k hs hx=>by
  refine aq4 λhe=>hn ⟨(x,!i),hC x i k hs hx,?_⟩
  show α x=!i
  cases hax:α x<;>cases i<;>simp_all
 have key:∀m x i k r,k<m->S x->β x=some (i,k,r)->α x=i:=by
  intro m
  induction m with
  |zero=>intro x i k r hk;omega
  |succ m ih=>
   intro x i k r hk hs hx;by_cases hr:r=[]
   ·subst hr;exact Qn x i k hs hx
   ·obtain⟨q1,q2,q3⟩:=h.by_ _ _ _ _ hx hr;obtain⟨v,hv,ha⟩:=hα r q1;by_cases e:v=(x,i)
    ·subst e;exact ha
    ·obtain⟨⟨ci,ck,cr⟩,g1,g2,g3⟩:=q3 v hv e;have:=ih v.1 ci ck cr (by simp at g3;omega) (hS x i k r hs hx v hv) g1;exact absurd (this.symm.trans ha) g2
 obtain⟨v,hv,ha⟩:=hα broken hb;obtain⟨⟨ci,ck,cr⟩,g1,g2⟩:=hw v hv;have:=key (ck+1) v.1 ci ck cr O (h0 v hv) g1;exact g2 (this.symm.trans ha)
def before(β:dN)(k:Nat):dN:=λx=>match β x with
 |some b=>if b.2.1<k then some b else none
 |none=>none
theorem fB{β:dN}{k x:Nat}{b:og}:before β k x=some b↔β x=some b/\b.2.1<k:=by
 unfold before;cases β x with
 |none=>simp
 |some c=>
  simp only;by_cases h:c.2.1<k
  ·rw[ao4 h];constructor
   ·rintro M;cases M;exact⟨rfl,h⟩
   ·rintro⟨M,_⟩;exact M
  ·rw[an8 h];constructor
   ·intro M;cases M
   ·rintro⟨M,h3⟩;cases M;exact absurd h3 h
theorem mD{β:dN}{k m:Nat}{v:View}(hm:m<=k):kY (before β k) m v↔kY β m v:=by
 constructor
 ·rintro⟨b,I,M,h3⟩;exact⟨b,(fB.1 I).1,M,h3⟩
 ·rintro⟨b,I,M,h3⟩;exact⟨b,fB.2 ⟨I,O⟩,M,h3⟩
structure jq(β:dN)(C:Rule)(x:Nat)(i:Bool)(k:Nat):Prop where
 top:β x=some (i,k,[])
 mem:(x,!i)∈C
 rest:∀u∈C,u=(x,!i)\/∃j m,β u.1=some (j,m,[])/\u.2=!j/\m<k
theorem BInv.fresh{ak:List Rule}{β:dN}{n:Nat}(h:BInv ak β n){C:Rule}{x:Nat}{i:Bool}{k:Nat}(hC:jq β C x i k){r:Rule}(hr:r∈ak)(he:∀v,v∈r↔v∈C):False:=by
 refine h.free x i k hC.top r hr (!i) (λu hu=>?_) ((he _).2 hC.mem);obtain e|⟨j,m,I,M,h3⟩:=hC.rest u ((he u).1 hu)
 ·exact Or.inl e
 ·exact Or.inr ⟨_,I,by rw[M];cases j<;>simp,h3⟩
theorem BInv.back{ak:List Rule}{β:dN}{n:Nat}(h:BInv ak β n){C:Rule}{x:Nat}{i:Bool}{k:Nat}(hC:jq β C x i k):BInv (ak++[C]) (before β k) k:=by
 refine⟨λy b hy=>(fB.1 hy).2,λy z b c hy hz e=>h.inj _ _ _ _ (fB.1 hy).1 (fB.1 hz).1 e,λy j m r hy hr=>?_,λy j m hy r hr l hl=>?_⟩
 ·obtain⟨I,M⟩:=fB.1 hy;obtain⟨q1,q2,q3⟩:=h.by_ _ _ _ _ I hr;exact⟨as9 _ q1,q2,λu hu bg=>(mD (by simp at M;omega)).2 (q3 u hu bg)⟩
 ·obtain⟨I,M⟩:=fB.1 hy;have wC:m<k:=M;obtain hr|hr:=aq7.1 hr
  ·exact h.free _ _ _ I r hr l (λu hu=>(hl u hu).imp id (mD O).1)
  ·rw[ap8.1 hr]at hl;exfalso;obtain e|⟨b,g1,_,g3⟩:=hl _ hC.mem
   ·have:x=y:=ax1 Prod.fst e;subst this;rw[hC.top]at I;injection I with I
    injection I with _ I
    injection I with I _
    omega
   ·obtain⟨g4,g5⟩:=fB.1 g1;have:=hC.top.symm.trans g4;cases this;simp at g3;omega
end Sat
section
open Go.RowKit
open au (St put)
def wW(T:List (List UInt8)):List UInt8:=Lib.join T [32]
theorem XR(T:List (List UInt8))(h:0<T.length):wW (T.take 1)=T[0]:=by
 cases T with
 |nil=>simp at h
 |cons x r=>simp[wW,Lib.join_one]
theorem QI(T:List (List UInt8))(k:Nat)(h0:0<k)(h:k<T.length):wW (T.take (k+1))=wW (T.take k)++32::T[k]:=by
 cases T with
 |nil=>simp at h
 |cons x r=>
  obtain⟨j,rfl⟩:∃j,k=j+1:=⟨k-1,O⟩;have hj:j<r.length:=by simpa using h
  simp only[wW,List.take_succ_cons,Lib.join_cons,List.getElem_cons_succ];rw[Lib.joinTail_take_succ [32] r j r[j] R];simp
theorem C9(T:List (List UInt8))(hT:∀t∈T,t.length<=100):∀k,k<=T.length->(wW (T.take k)).length<=101*k:=by
 intro k
 induction k with
 |zero=>intro _;simp[wW,Lib.join_nil]
 |succ k ih=>
  intro hk;have I:=ih O;have M:=hT T[k] (an5 _);by_cases h0:k=0
  ·subst h0;rw[XR T O];omega
  ·rw[QI T k O O];simp;omega
theorem aeM{a b c:Value}(h:a=b):Ending.returned (.tuple #[a,c])=.returned (.tuple #[b,c]):=by rw[h]
theorem jI(a b:List UInt8):(⟨a.toArray⟩:ByteArray)++⟨b.toArray⟩=⟨(a++b).toArray⟩:=by
 apply ByteArray.ext;simp
section
variable (w:World)
theorem IL(T:List (List UInt8))(v:Value)(base:Nat)(hT:T.length<=10)(hlen:∀t∈T,t.length<=100)(ho:w.ownsRow base 9 1 v T.length (T.map str)) :
  Calls prog 82 #[v] w λe w'=>e=.returned (str (wW T))/\w'=w:=by
 by_cases h0:0<T.length
 ·obtain⟨g,cap,rfl,hc⟩:=ug ho h0
  go_in
  go_wp2_with fail
  go_loop [3,4] (λx i=>∃k:Nat,k<=T.length/\i=A k/\x=.string ⟨(wW (T.take k)).toArray⟩) (λ_ i=>T.length-(intOf i).toNat)
  case atStart=>exact⟨0,ap7 _,rfl,rfl⟩
  case round=>
   obtain⟨k,hk,rfl,rfl⟩:=hrel;by_cases hlt:k<T.length
   ·have hck:=hc k hlt;unfold str at hck;clear hc;have zM:=C9 T hlen k O;have lH:=hlen T[k] (an5 _);by_cases kJ:k=0
    ·subst kJ;have hs:=F (XR T h0);have hn:Hid (wW (T.take 0)=[]):=rfl;generalize wW (T.take 0)=x at zM hn
     go_wp2_with fail
     go_round
     case rel=>
      refine⟨1,O,rfl,?_⟩;rw[Z hn,jI,Z hs];rfl
     case measure=>simp[intOf];omega
    ·have hb:decide ((0:Int)<(k:Int))=true:=anf;have hs:=F (QI T k O hlt);generalize wW (T.take k)=x at hs zM
     go_wp2_with fail
     go_round
     case rel=>
      refine⟨k+1,O,by go_num,?_⟩;have e32:(⟨#[32]⟩:ByteArray)=⟨[32].toArray⟩:=rfl;rw[Z hs,e32,jI,jI];simp
     case measure=>simp[intOf];omega
   ·have iQ:k=T.length:=O;have hx:Hid (wW (T.take k)=wW T):=(by rw[iQ,ar7];rfl);generalize wW (T.take k)=x at hx;clear hc iQ
    go_wp2_with fail
    go_ret
    refine⟨?_,rfl⟩;rw[<-Z hx];rfl
 ·have fC:T=[]:=aq9 O;subst fC;obtain⟨ao,cap,rfl⟩:=bD ho;have hm:str (wW [])=.string ⟨#[]⟩:=rfl;rw[hm]
  go_in
  go_wp2_with fail
  refine wp_loop_rounds 1 ?_;rw[rounds_succ]
  go_wp2_with fail
  go_ret
  exact⟨rfl,rfl⟩
def pts(τ:St):List UInt8:=wW τ.T++47::wW τ.C
theorem Xy(s:ByteArray)(hm:s.size<=maxLen)(hE:(yA s).1≠0) :
  Calls prog 40 #[.string s] w λe w'=>e=.returned (.tuple #[.string ⟨#[]⟩,A (yA s).1])/\Ag w w':=by
 have HR:=F (λw=>Aj w s hm);generalize yA s=c at HR hE;have hb:(c.1 != 0)=true:=by simpa using hE
 go_in
 go_wp2_with fail
 refine((Z HR) _).mono ?_;rintro e w1 ⟨rfl,I⟩
 go_wp2_with fail
 go_ret2
 exact⟨rfl,I⟩
theorem abl(s:ByteArray)(hs:s.size<=100)(τ:St)(HT:Hid (iV s=τ))(hE:τ.E=0)(hlt:¬τ.a<s.size)(h7:τ.T.length<=7)(h4:τ.C.length<=4)(YB:∀t∈τ.T,t.length<=100)(hCl:∀t∈τ.C,t.length<=100) :
  Calls prog 40 #[.string s] w λe w'=>e=.returned (.tuple #[str (pts τ),A 0])/\Ag w w':=by
 have HR:=F (Eo w s hs τ HT hE hlt h7 h4);have zM:=C9 τ.T YB τ.T.length (an2 _);have lH:=C9 τ.C hCl τ.C.length (an2 _);rw[ar7]at zM lH;have Q1:Hid (∀w' v4,w'.ownsRow (w.heap.size+1) 9 1 v4 τ.T.length (τ.T.map str)->Calls prog 82 #[v4] w' λe w2=>e=.returned (.string ⟨(wW τ.T).toArray⟩)/\w2=w'):=λw' v4 h=>IL w' τ.T v4 (w.heap.size+1) O YB h;have Q2:Hid (∀w' v5,w'.ownsRow (w.heap.size+1) 9 1 v5 τ.C.length (τ.C.map str)->Calls prog 82 #[v5] w' λe w2=>e=.returned (.string ⟨(wW τ.C).toArray⟩)/\w2=w'):=λw' v5 h=>IL w' τ.C v5 (w.heap.size+1) O hCl h;unfold pts;generalize wW τ.T=x at Q1 zM;generalize wW τ.C=y at Q2 lH
 go_in
 go_wp2_with fail
 refine(Z HR).mono ?_;rintro e w1 ⟨rfl,I,hI⟩;obtain⟨v4,v5,r1,r2,r3,r4,r5⟩:=hI.rows
 go_wp2_with fail
 go_quiet (first|(go_at_call_of 82 v4;exact Calls.quiet_of_same ((Z Q1) _ _ (by exact r3)))|(go_at_call_of 82 v5;exact Calls.quiet_of_same ((Z Q2) _ _ (by exact r4))))
 go_wp2_with fail
 go_ret2
 have e47:(⟨#[47]⟩:ByteArray)=⟨[47].toArray⟩:=rfl;refine⟨?_,I.trans (below_drewN _ _ _)⟩;refine aeM ?_;rw[e47,jI,jI];simp[str]
end
end
section
open Go.RowKit
def Em(c:UInt8)(T:List (List UInt8)):List UInt8:=c::40::(Lib.join T [44]++[41])
theorem Xn(c:UInt8)(x:List UInt8):(⟨#[c]⟩++⟨#[40]⟩++⟨x.toArray⟩++⟨#[41]⟩:ByteArray)=⟨(c::40::(x++[41])).toArray⟩:=by
 have e1:(⟨#[c]⟩:ByteArray)=⟨[c].toArray⟩:=rfl;have e2:(⟨#[40]⟩:ByteArray)=⟨[40].toArray⟩:=rfl;have e3:(⟨#[41]⟩:ByteArray)=⟨[41].toArray⟩:=rfl;rw[e1,e2,e3,jI,jI,jI];simp
theorem zf(c:UInt8)(hc:c=80\/c=81\/c=102\/c=103)(T:List (List UInt8))(bk cap:Nat)(w:World)(hT:T.length<=10)(hcap:T.length<=cap)(hlen:(Lib.join T [44]).length<=2000)(hbk:bk<w.heap.size)
 (hcells:∀j (hj:j<T.length),w.cell? (J bk j)=some (str T[j])) :
  Calls prog 134 #[Ae c.toNat,Ac bk 0 T.length cap] w λe w'=>e=.returned (str (Em c T))/\Ag w w':=by
 have HJ:Hid (Calls prog 135 #[Ac bk 0 T.length cap,.string ⟨#[44]⟩] w λe w'=>e=.returned (.string ⟨(Lib.join T [44]).toArray⟩)/\Ag w w'):=by
  have e1:(T.map (λt=>(⟨t.toArray⟩:ByteArray))).map (·.data.toList)=T:=by simp[List.map_map,Function.comp_def]
  have e2:(T.map (λt=>(⟨t.toArray⟩:ByteArray))).length=T.length:=R
  have h:=strings_Join bk 0 cap (T.map (λt=>(⟨t.toArray⟩:ByteArray))) ⟨#[44]⟩ w (λj x hx=>by
   rw[as1]at hx;by_cases hj:j<T.length
   ·rw[an3 hj]at hx;simp at hx;subst hx;rw[aw8];exact hcells j hj
   ·rw[List.getElem?_eq_none O]at hx;simp at hx) hbk O O (by rw[e1];exact ap3 hlen O)
  rw[e1,e2]at h;exact h
 unfold Em;generalize Lib.join T [44]=x at HJ hlen;have u1:Utf8.encode 80=⟨#[80]⟩:=by kernel_rfl
 have u2:Utf8.encode 81=⟨#[81]⟩:=by kernel_rfl
 have u3:Utf8.encode 102=⟨#[102]⟩:=by kernel_rfl
 have u4:Utf8.encode 103=⟨#[103]⟩:=by kernel_rfl
 obtain rfl|rfl|rfl|rfl:=hc
 all_goals
  go_in
  go_wp2_with fail
  refine(Z HJ).mono ?_;rintro e w1 ⟨rfl,I⟩
  go_wp2_with fail
  go_ret
  refine⟨?_,I⟩;exact ax1 (λb=>Ending.returned (.string b)) (Xn _ x)
end
open au (Key put)
def gI(b:UInt8):Bool:=decide ((b.toNat:Int)<48)||decide ((57:Int)<(b.toNat:Int))
def fU(t:ByteArray):Bool:=decide (60<t.size)||t.data.toList.any gI
theorem zi{t:ByteArray}{k:Nat}(hk:k<t.size):(t.data.toList.take (k+1)).any gI=((t.data.toList.take k).any gI||gI t[k]):=by
 have iQ:k<t.data.toList.length:=by simpa using hk
 rw[aq3,an3 iQ,List.any_append];simp[ar4]
theorem any_true{t:ByteArray}{k:Nat}(h:(decide (60<t.size)||(t.data.toList.take k).any gI)=true):fU t=true:=by
 unfold fU;rw[Bool.or_eq_true]at h ⊢;obtain h|h:=h
 ·exact Or.inl h
 ·refine Or.inr ?_;rw[ay4]at h ⊢;obtain⟨x,hx,hp⟩:=h;exact⟨x,au8 hx,hp⟩
theorem EN{Y:Ai}{cs:Ah}{ps:Ai}(hc:au.kD Y cs)(hp:au.bJ Y.length cs.length ps)(h:0<ps.length):0<Y.length:=by
 obtain⟨_,q,_⟩|⟨_,q,_⟩|⟨_,q,_⟩|⟨_,q,_⟩:=hp.ok 0 h
 ·omega
 ·omega
 ·have:=(hc cs[ps[0].2.1] (an5 q)).2;omega
 ·omega
end Go.Proofs.YthcppbmkacbbiabGreat
