import Derived.Test.YthcppbmkacbbiabGreatWAJ
import Derived.Test.YthcppbmkacbbiabGreatWAP
import Derived.Shelf.Strings.Builder1
import Derived.Shelf.Strings.Builder2
import Derived.Shelf.Strings.OnBuilder
import Derived.Shelf.Small.Bits
import Derived.Shelf.Strings.BuilderF
import Derived.Shelf.Strings.BuilderK
import Derived.Shelf.Strconv.Itoa0
import Derived.Shelf.SlSortCmp.Insertion
import Derived.Shelf.SlSortCmp.SiftDown1
import Derived.Shelf.SlSortCmp.HeapSort1
import Derived.Shelf.SlSortCmp.Insertion1
import Derived.Shelf.SlSortCmp.Median1
import Derived.Shelf.SlSortCmp.Pivot1
import Derived.Shelf.SlSortCmp.ReverseRange1
import Derived.Shelf.SlSortCmp.PartialInsertion1
import Derived.Shelf.SlSortCmp.PartitionEqual1
import Derived.Shelf.SlSortCmp.Partition1
import Derived.Shelf.SlSortCmp.Pdq1
import Derived.Shelf.SlSortCmp.Whole1
import Derived.Lib.Join
set_option linter.unusedSimpArgs false
set_option maxHeartbeats 4000000
set_option maxRecDepth 100000
namespace Go.Proofs.YthcppbmkacbbiabGreat
open Go.Proofs.Tryz
open Go.RowKit Go.Maps Go.WideMaps
section
open Sat (View Rule jk bG)
structure But(S:Nat->Prop)(w w':World):Prop where
 os:w'.os=w.os
 tape:w'.tape=w.tape
 output:w'.output=w.output
 size:w.heap.size<=w'.heap.size
 block:∀k,k<w.heap.size->¬S k->w'.heap[k]?=w.heap[k]?
theorem But.refl(S:Nat->Prop)(w:World):But S w w:=⟨rfl,rfl,rfl,ad5 _,λ_ _ _=>rfl⟩
theorem But.trans{S:Nat->Prop}{a b c:World}(h:But S a b)(k:But S b c):But S a c:=
 ⟨k.os.trans h.os,k.tape.trans h.tape,k.output.trans h.output,af7 h.size k.size,λi hi hn=>(k.block i (af5 hi h.size) hn).trans (h.block i hi hn)⟩
theorem But.mono{S T:Nat->Prop}{a b:World}(h:But S a b)(hS:∀k,k<a.heap.size->S k->T k):But T a b:=
 ⟨h.os,h.tape,h.output,h.size,λk hk hn=>h.block k hk (λe=>hn (hS k hk e))⟩
theorem But.aA{row:Option Nat}{a b:World}(h:a.grownBy b row):But (λk=>some k=row) a b:=
 ⟨h.os,h.tape,h.output,h.size,λk hk hn=>h.block k hk hn⟩
theorem But.of_below{a b:World}(h:Below a.heap.size a b)(S:Nat->Prop):But S a b:=
 ⟨h.os,h.tape,h.output,h.size,λk hk _=>h.block k hk⟩
theorem But.below{S:Nat->Prop}{a b:World}(h:But S a b){n:Nat}(hn:n<=a.heap.size)(hS:∀k,k<n->¬S k):Below n a b:=
 ⟨h.os,h.tape,h.output,h.size,λk hk=>h.block k (by omega) (hS k hk)⟩
theorem But.then{S T:Nat->Prop}{a b c:World}(h:But S a b)(k:But T b c)(hT:∀i,i<a.heap.size->T i->S i):But S a c:=
 ⟨k.os.trans h.os,k.tape.trans h.tape,k.output.trans h.output,af7 h.size k.size,λi hi hn=>(k.block i (af5 hi h.size) (λe=>hn (hT i hi e))).trans (h.block i hi hn)⟩
theorem But.drew{S:Nat->Prop}{a b:World}(h:But S a b):But S a b.drew:=⟨h.os,h.tape,h.output,h.size,h.block⟩
def aP(w:World)(v:Value)(r:Rule):Prop:=
 (r=[]/\v=.slice none 0 0)\/∃g cap cur x,v=.slice (some ⟨g,0,none⟩) r.length cap/\w.heap[g]?=some (.cells cur 207 x)/\r≠[]/\
  ∀i (hi:i<r.length),cur[i*2]?=some (.int .i64 r[i].1)/\cur[i*2+1]?=some (.bool r[i].2)
def jC(w:World)(k:Nat):Prop:=∀cur x,w.heap[k]?≠some (.cells cur 207 x)
theorem aP.but{S:Nat->Prop}{w w':World}{v:Value}{r:Rule}(h:aP w v r)(hb:But S w w')(hS:∀k,S k->jC w k):aP w' v r:=by
 rcases h with h|⟨g,cap,cur,x,h1,h2,h3⟩
 ·exact Or.inl h
 ·have hlt:g<w.heap.size:=(ad3.1 h2).1;exact Or.inr ⟨g,cap,cur,x,h1,(hb.block g hlt (λe=>hS g e cur x h2)).trans h2,h3⟩
theorem aP.len{w:World}{v:Value}{r:Rule}(h:aP w v r):∃p cap,v=.slice p r.length cap:=by
 rcases h with⟨rfl,rfl⟩|⟨g,cap,cur,x,h1,h2,h3⟩
 ·exact⟨_,_,rfl⟩
 ·exact⟨_,_,h1⟩
def nX(w:World)(b:Nat)(U:Nat)(rv ov:Value)(tp:List UInt8)(m:Option Nat):Prop:=
 w.heap[b]?=some (.cells #[.int .i64 U,rv,ov,.string ⟨tp.toArray⟩,.map m] 137 (0,0))
theorem nX.lt{w:World}{b U:Nat}{rv ov:Value}{tp:List UInt8}{m:Option Nat}(h:nX w b U rv ov tp m):b<w.heap.size:=(ad3.1 h).1
theorem nX.kept{w w':World}{b U:Nat}{rv ov:Value}{tp:List UInt8}{m:Option Nat}(h:nX w b U rv ov tp m)(hb:w'.heap[b]?=w.heap[b]?):nX w' b U rv ov tp m:=hb.trans h
theorem nX.og{w:World}{b U:Nat}{rv ov:Value}{tp:List UInt8}{m:Option Nat}(h:nX w b U rv ov tp m):jC w b:=by
 intro cur y e;have q:=h.symm.trans e;simp at q
theorem cell_of{w:World}{b:Nat}{cur:Array Value}{t:TypeId}{x:Nat×Nat}(h:w.heap[b]?=some (.cells cur t x))(i:Nat):w.cell? ⟨b,i,none⟩=cur[i]?:=by
 simp[World.cell?,h]
theorem nX.cells{w:World}{b U:Nat}{rv ov:Value}{tp:List UInt8}{m:Option Nat}(h:nX w b U rv ov tp m) :
  w.cell? ⟨b,0,none⟩=some (.int .i64 U)/\w.cell? ⟨b,1,none⟩=some rv/\w.cell? ⟨b,2,none⟩=some ov/\w.cell? ⟨b,3,none⟩=some (.string ⟨tp.toArray⟩)/\w.cell? ⟨b,4,none⟩=some (.map m):=by
 refine⟨?_,?_,?_,?_,?_⟩<;>(rw[cell_of h];rfl)
theorem nX.thaw{w:World}{b U:Nat}{rv ov:Value}{tp:List UInt8}{m:Option Nat}(h:nX w b U rv ov tp m)(i:Nat):w.frozen? ⟨b,i,none⟩=false:=by
 unfold nX at h;simp[World.frozen?,h]
theorem nX.mk{w:World}{b U:Nat}{rv ov:Value}{tp:List UInt8}{m:Option Nat}(h:w.heap[b]?=some (.cells #[.int .i64 U,rv,ov,.string ⟨tp.toArray⟩,.map m] 137 (0,0))):nX w b U rv ov tp m:=h
theorem nX.out{w:World}{b U:Nat}{rv ov:Value}{tp:List UInt8}{m:Option Nat}(h:nX w b U rv ov tp m):w.heap[b]?=some (.cells #[.int .i64 U,rv,ov,.string ⟨tp.toArray⟩,.map m] 137 (0,0)):=h
theorem But.setCell{S:Nat->Prop}{a b:World}(h:But S a b){p:Addr}(hp:p.block<a.heap.size->S p.block)(u:Value):But S a (b.setCell p u):=
 ⟨h.os,h.tape,h.output,af7 h.size (by simp[World.setCell]),λk hk hn=>by
  have e:k≠p.block:=λe=>hn (by subst e;exact hp hk);rw[af4 _ _ _ _ e];exact h.block k hk hn⟩
theorem heap_setCell_same{w:World}{b i:Nat}{cur:Array Value}{t:TypeId}{x:Nat×Nat}{u:Value}(h:w.heap[b]?=some (.cells cur t x)):(w.setCell ⟨b,i,none⟩ u).heap[b]?=some (.cells (cur.setIfInBounds i u) t x):=by
 simp[World.setCell,ap0,h]
def dg:List UInt8->Nat
 |[]=>0
 |c::_=>c.toNat-48
def xg(tp:List UInt8):Prop:=∀c∈tp,48<=c.toNat/\c.toNat<=57
theorem BH(w:World)(b U:Nat)(rv ov:Value)(tp:List UInt8)(m:Option Nat)(h:nX w b U rv ov tp m)(hd:xg tp) :
  Calls prog 118 #[.pointer (some ⟨b,0,none⟩)] w λe w'=>e=.returned (.int .i64 (dg tp))/\nX w' b U rv ov tp.tail m/\But (λk=>k=b) w w':=by
 obtain⟨c0,c1,c2,c3,c4⟩:=h.cells;have H:=aj h;have hz:=h.thaw 3;clear h;cases tp with
 |nil=>
  go_enter func118,ntmps118
  go_wp2_with fail
  go_ret
  exact⟨rfl,ah H,But.refl _ _⟩
 |cons c tp=>
  go_enter func118,ntmps118
  go_wp2_with fail
  go_ret
  have h:=ah H;refine⟨gQ ?_,?_,But.setCell (S:=λk=>k=b) (But.refl _ _) (λ_=>rfl) _⟩
  ·have:=hd c (by simp)
   show(((c.toNat:Nat):Int)-48)%256=((c.toNat-48:Nat):Int)
   omega
  ·refine nX.mk ?_;rw[heap_setCell_same h.out]
   congr 2
   simp only[List.setIfInBounds_toArray,List.set_cons_zero,List.set_cons_succ,List.tail_cons]
   congr 5
   have e:(⟨(c::tp).toArray⟩:ByteArray).extract 1 (tp.length+1)=⟨tp.toArray⟩:=by
    apply ByteArray.ext;simp
   rw[e]
abbrev Tr:Type:=Nat×Bool×Value×Rule
def uU(v:Value):Option (DataW Value×List MemPlace):=some (.held v,[])
def oC(q:Tr)(k:Nat):Value:=.agg #[.bool q.2.1,.int .i64 k,q.2.2.1]
def I7(q:Tr×Nat):Lit×DataW Value:=(.int .i64 q.1.1,.held (oC q.1 q.2))
def ents(τ:List Tr):List (Lit×DataW Value):=τ.zipIdx.map I7
def mD(τ:List Tr)(x:Nat):Option (Tr×Nat):=τ.zipIdx.find? λq=>q.1.1==x
def bel(τ:List Tr):bG:=λx=>(mD τ x).map λq=>(q.1.2.1,q.2,q.1.2.2.2)
def uN(τ:List Tr)(x:Nat):Value:=match mD τ x with
 |some q=>oC q.1 q.2
 |none=>.agg #[.bool false,.int .i64 0,.slice none 0 0]
def kX(τ:List Tr)(x:Nat):Bool:=(mD τ x).isSome
structure bD(w:World)(m:Nat)(τ:List Tr):Prop where
 map:∃es,w.ownsMap prog 3 uU m τ.length (.map es)/\es.Perm (ents τ)
 le:∀q∈τ,q.1<=1000
 NY:∀q∈τ,aP w q.2.2.1 q.2.2.2
 nodup:(τ.map (·.1)).Nodup
theorem bD.lt{w:World}{m:Nat}{τ:List Tr}(h:bD w m τ):m<w.heap.size:=by
 obtain⟨es,h1,_⟩:=h.map;exact h1.lt
theorem bD.og{w:World}{m:Nat}{τ:List Tr}(h:bD w m τ):jC w m:=by
 obtain⟨es,⟨_,_,h1,_⟩,_⟩:=h.map;intro cur x e;rw[h1]at e;cases e
theorem bD.but{S:Nat->Prop}{w w':World}{m:Nat}{τ:List Tr}(h:bD w m τ)(hb:But S w w')(hS:∀k,S k->jC w k)(hm:¬S m):bD w' m τ:=by
 refine⟨?_,h.le,λq hq=>(h.NY q hq).but hb hS,h.nodup⟩;have hlt:=h.lt;obtain⟨es,⟨e1,c1,h1,h2⟩,h3⟩:=h.map;exact⟨es,⟨e1,c1,(hb.block m hlt hm).trans h1,h2⟩,h3⟩
theorem NI(τ:List Tr)(q:Tr):ents (τ++[q])=ents τ++[I7 (q,τ.length)]:=by
 simp[ents,List.zipIdx_append]
theorem zq{τ:List Tr}{q:Tr}{x:Nat}(h:x≠q.1):mD (τ++[q]) x=mD τ x:=by
 have e:(q.1==x)=false:=by simp;omega
 simp[mD,List.zipIdx_append,List.find?_append,e]
theorem Am{τ:List Tr}{q:Tr}(h:q.1∉τ.map (·.1)):mD (τ++[q]) q.1=some (q,τ.length):=by
 have e:List.find? (λp:Tr×Nat=>p.1.1==q.1) τ.zipIdx=none:=by
  rw[as2];intro p hp;have:=(ar5 hp).2.2;simp only[beq_iff_eq];intro e;refine h (af9.2 ⟨p.1,?_,e⟩);rw[this];simp
 simp[mD,List.zipIdx_append,List.find?_append,e]
theorem Gn{τ:List Tr}{q:Tr}(h:q.1∉τ.map (·.1)):bel (τ++[q])=Sat.add (bel τ) q.1 (q.2.1,τ.length,q.2.2.2):=by
 funext x;by_cases e:x=q.1
 ·subst e;rw[Sat.add_same];simp[bel,Am h]
 ·rw[Sat.bM _ e];simp[bel,zq e]
theorem dG{τ:List Tr}{x:Nat}{q:Tr}{k:Nat}(h:mD τ x=some (q,k)):q.1=x/\∃hk:k<τ.length,τ[k]=q:=by
 have h1:=List.find?_some h;have h2:=List.mem_of_find?_eq_some h;have h3:=ar5 h2;refine⟨by simpa using h1,by have:=h3.2.1;omega,?_⟩;simpa using h3.2.2.symm
theorem jA{τ:List Tr}{x:Nat}:mD τ x=none↔x∉τ.map (·.1):=by
 constructor
 ·intro h hx;obtain⟨q,hq,rfl⟩:=af9.1 hx;obtain⟨k,hk,e⟩:=ai0 hq;have h1:=as2.1 h (q,k) (by rw[List.mk_mem_zipIdx_iff_getElem?];rw[ad6 hk,e]);simp at h1
 ·intro h;unfold mD;rw[as2];intro p hp;have:=(ar5 hp).2.2;simp only[beq_iff_eq];intro e;refine h (af9.2 ⟨p.1,?_,e⟩);rw[this];simp
theorem jg{τ:List Tr}(hn:(τ.map (·.1)).Nodup){k:Nat}(hk:k<τ.length):mD τ τ[k].1=some (τ[k],k):=by
 cases e:mD τ τ[k].1 with
 |none=>
  exact absurd (af9.2 ⟨τ[k],ad8 hk,rfl⟩) (jA.1 e)
 |some q=>
  obtain⟨q,j⟩:=q;obtain⟨h1,hj,h2⟩:=dG e;subst h2;have:=(List.getElem?_inj (l:=τ.map (λq=>q.1)) (i:=j) (j:=k) (by simpa using hj) hn).1 (by simp[hj,hk,h1]);subst this;rfl
theorem XJ{τ:List Tr}{x:Nat}{b:jk}(h:bel τ x=some b):b.2.1<τ.length:=by
 unfold bel at h;cases e:mD τ x with
 |none=>rw[e]at h;cases h
 |some q=>
  rw[e]at h;obtain⟨q,k⟩:=q;cases h;exact(dG e).2.1
theorem zJ{τ:List Tr}{x:Nat}:bel τ x=none↔x∉τ.map (·.1):=by
 rw[<-jA];simp[bel]
theorem mJ{τ:List Tr}(hn:(τ.map (·.1)).Nodup)(k:Nat):bel (τ.take k)=Sat.before (bel τ) k:=by
 funext x;have hn':((τ.take k).map (·.1)).Nodup:=by rw[List.map_take];exact hn.sublist (List.take_sublist _ _)
 cases e:bel (τ.take k) x with
 |none=>
  have h1:=zJ.1 e;unfold Sat.before;cases e2:bel τ x with
  |none=>rfl
  |some b=>
   simp only;by_cases hb:b.2.1<k
   ·exfalso;unfold bel at e2;cases e3:mD τ x with
    |none=>rw[e3]at e2;cases e2
    |some q=>
     rw[e3]at e2;obtain⟨q,j⟩:=q;cases e2;obtain⟨h2,hj,h3⟩:=dG e3;refine h1 (af9.2 ⟨q,?_,h2⟩);rw[<-h3];have hb':j<k:=hb;have:j<(τ.take k).length:=(by simp;omega);have e4:(τ.take k)[j]=τ[j]:=(by simp);rw[<-e4];exact ad8 _
   ·rw[af2 hb]
 |some b=>
  symm;rw[Sat.bZ];have hl:=XJ e;simp at hl;unfold bel at e;cases e3:mD (τ.take k) x with
  |none=>rw[e3]at e;cases e
  |some q=>
   rw[e3]at e;obtain⟨q,j⟩:=q;cases e;obtain⟨h2,hj,h3⟩:=dG e3;have hj':j<τ.length/\j<k:=(by simp at hj;omega);have h4:τ[j]=q:=(by rw[<-h3];simp);refine⟨?_,hj'.2⟩;have:=jg hn hj'.1;rw[h4,h2]at this;simp[bel,this]
theorem atKey_mem:∀{es:List (Lit×DataW Value)},es.Pairwise (λp q=>p.1≠q.1)->∀{x:Nat} {d:DataW Value},(.int .i64 x,d)∈es->∀z,(DataW.map es).atKey (.int .i64 x) z=d
 |[],_,_,_,h,_=>by cases h
 |p::es,hp,x,d,h,z=>by
  have hp':=List.pairwise_cons.1 hp;have self:(Lit.int .i64 x).sameKey (Lit.int .i64 x)=true:=by simp[Lit.sameKey]
  rcases ah8.1 h with e|h
  ·subst e;simp only[DataW.atKey];rw[List.find?_cons_of_pos (by exact self)]
  ·have hne:=hp'.1 _ h;have e:p.1.sameKey (.int .i64 x)=false:=by
    cases hs:p.1.sameKey (.int .i64 x)
    ·rfl
    ·exact absurd (WideAt.sameKey_eq hs) hne
   have ih:=atKey_mem hp'.2 h z;simp only[DataW.atKey]at ih ⊢;rw[List.find?_cons_of_neg (by rw[e];simp)];exact ih
theorem Oi(w:World):(zeroValue 215).run prog w=.ok (.agg #[.bool false,.int .i64 0,.slice none 0 0]) w:=by kernel_rfl
theorem bD.has{τ:List Tr}{es:List (Lit×DataW Value)}(hp:es.Perm (ents τ))(x:Nat):Maps.has (.map es) (.int .i64 x)=kX τ x:=by
 have key:Maps.has (.map es) (.int .i64 x)=true↔kX τ x=true:=by
  constructor
  ·intro h1;obtain⟨p,hp1,hp2⟩:=an1.1 h1;have hp3:=hp.mem_iff.1 hp1;obtain⟨⟨q,k⟩,hq,rfl⟩:=af9.1 hp3;have e:=WideAt.sameKey_eq hp2;have e2:q.1=x:=(by simp[I7]at e;omega);cases e3:mD τ x with
   |none=>
    refine absurd ?_ (jA.1 e3);have:=(ar5 hq).2.2;refine af9.2 ⟨q,?_,e2⟩;rw[this];simp
   |some _=>simp[kX,e3]
  ·intro h1;cases e3:mD τ x with
   |none=>simp[kX,e3]at h1
   |some q=>
    obtain⟨q,k⟩:=q;obtain⟨h2,hk,h3⟩:=dG e3;refine an1.2 ⟨I7 (q,k),hp.mem_iff.2 (af9.2 ⟨(q,k),?_,rfl⟩),?_⟩
    ·rw[List.mk_mem_zipIdx_iff_getElem?,ad6 hk,h3]
    ·subst h2;simp[I7,Lit.sameKey]
 cases h1:Maps.has (.map es) (.int .i64 x)<;>cases h2:kX τ x<;>simp_all
theorem bD.atKey{τ:List Tr}{es:List (Lit×DataW Value)}(hp:es.Perm (ents τ))(hd:es.Pairwise (λp q=>p.1≠q.1))(x:Nat) :
  (DataW.map es).atKey (.int .i64 x) (.held (.agg #[.bool false,.int .i64 0,.slice none 0 0]))=.held (uN τ x):=by
 cases e3:mD τ x with
 |none=>
  have h0:=bD.has hp x;have h1:Maps.has (.map es) (.int .i64 x)=false:=by rw[h0];simp[kX,e3]
  have h2:(es.find? λp=>p.1.sameKey (.int .i64 x))=none:=by
   rw[as2];intro p hp1 hp2;have:Maps.has (.map es) (.int .i64 x)=true:=an1.2 ⟨p,hp1,hp2⟩;rw[h1]at this;cases this
  simp only[DataW.atKey];rw[h2];simp[uN,e3]
 |some q=>
  obtain⟨q,k⟩:=q;obtain⟨h2,hk,h3⟩:=dG e3;have:uN τ x=oC q k:=by simp[uN,e3]
  rw[this];refine atKey_mem hd (hp.mem_iff.2 (af9.2 ⟨(q,k),?_,?_⟩)) _
  ·rw[List.mk_mem_zipIdx_iff_getElem?,ad6 hk,h3]
  ·subst h2;rfl
theorem bD.look{w:World}{m:Nat}{τ:List Tr}(h:bD w m τ){x:Nat}(hx:x<=1000):(Instr.lookup 128 (.map (some m)) (.int .i64 x) true).run prog w=.ok (.tuple #[uN τ x,.bool (kX τ x)]) w:=by
 obtain⟨es,h1,h2⟩:=h.map;obtain⟨es',e1,e2,_⟩:=h1.entries dV;cases e1;obtain⟨v,ps,hrun,hv⟩:=h1.look_ok dV underlying128 (Oi w) (zd:=.held (.agg #[.bool false,.int .i64 0,.slice none 0 0])) (zp:=[]) rfl (pJ hx);rw[bD.atKey h2 e2 x]at hv;cases hv;rw[hrun,bD.has h2 x]
theorem bD.look1{w:World}{m:Nat}{τ:List Tr}(h:bD w m τ){x:Nat}(hx:x<=1000):(Instr.lookup 128 (.map (some m)) (.int .i64 x) false).run prog w=.ok (uN τ x) w:=by
 obtain⟨es,h1,h2⟩:=h.map;obtain⟨es',e1,e2,_⟩:=h1.entries dV;cases e1;obtain⟨v,ps,hrun,hv⟩:=h1.lookup dV underlying128 (Oi w) (zd:=.held (.agg #[.bool false,.int .i64 0,.slice none 0 0])) (zp:=[]) rfl (pJ hx);rw[bD.atKey h2 e2 x]at hv;cases hv;exact hrun
theorem bD.len{w:World}{m:Nat}{τ:List Tr}(h:bD w m τ)(ty:TypeId):(Builtin.len_ #[128] ty #[.map (some m)]).run prog w=.ok (.int .i64 τ.length) w:=by
 obtain⟨es,h1,h2⟩:=h.map;rw[h1.len underlying128 ty];have:Maps.size (.map es:DataW Value)=τ.length:=by
  show es.length=_
  rw[h2.length_eq];simp[ents]
 rw[this]
theorem bD.made(w:World):bD (w.alloc (.map #[] 0)) w.heap.size []:=
 ⟨⟨[],aq9 w _ _ _,List.Perm.nil⟩,λ_ h=>(by cases h),λ_ h=>(by cases h),by simp⟩
theorem bD.put{w:World}{m:Nat}{τ:List Tr}(h:bD w m τ)(hl:τ.length<=1000){q:Tr}(hx:q.1<=1000)(hq:q.1∉τ.map (·.1))(hv:aP w q.2.2.1 q.2.2.2) :
  ∃w',(Instr.mapUpdate 128 (.map (some m)) (.int .i64 q.1) (oC q τ.length)).run prog w=.ok () w'/\bD w' m (τ++[q])/\w.grownBy w' (some m):=by
 have hnv:=h.og;obtain⟨es,h1,h2⟩:=h.map;obtain⟨es',e1,e2,_⟩:=h1.entries dV;cases e1;obtain⟨w',hrun,hown,hg⟩:=h1.update dV underlying128 (by unfold maxLen;omega) (pJ hx) (d:=.held (oC q τ.length)) (ps:=[]) rfl;have hb:=But.aA hg;have hS:∀k,some k=some m->jC w k:=λk e=>by cases e;exact hnv
 refine⟨w',hrun,⟨⟨DataW.insert (.int .i64 q.1,.held (oC q τ.length)) (es.filter λp=>!p.1.sameKey (.int .i64 q.1)),?_,?_⟩,?_,?_,?_⟩,hg⟩
 ·rw[af8];exact hown
 ·have hfil:(es.filter λp=>!p.1.sameKey (.int .i64 q.1))=es:=by
   rw[List.filter_eq_self];intro p hp;have h0:=bD.has h2 q.1;have h3:kX τ q.1=false:=(by simp[kX,jA.2 hq]);cases hs:p.1.sameKey (.int .i64 q.1)
   ·rfl
   ·have:Maps.has (.map es) (.int .i64 q.1)=true:=an1.2 ⟨p,hp,hs⟩;rw[h0,h3]at this;cases this
  rw[hfil,NI];refine((WideShapes.insert_perm _ _).trans (h2.cons _)).trans ?_;exact(List.perm_append_comm (l₁:=[I7 (q,τ.length)]))
 ·intro p hp;rcases ag9.1 hp with hp|hp
  ·exact h.le p hp
  ·rw[ag0.1 hp];exact hx
 ·intro p hp;rcases ag9.1 hp with hp|hp
  ·exact(h.NY p hp).but hb hS
  ·rw[ag0.1 hp];exact hv.but hb hS
 ·rw[ak3,an7];refine⟨h.nodup,by simp,λa ha b hb e=>?_⟩;simp at hb;subst e;subst hb;exact hq ha
theorem wO(w:World)(b U:Nat)(rv ov:Value)(tp:List UInt8)(m:Nat)(τ:List Tr)(q:Tr)(h:nX w b U rv ov tp (some m))(hB:bD w m τ)(hl:τ.length<=1000)(hx:q.1<=1000)(hq:q.1∉τ.map (·.1))(hv:aP w q.2.2.1 q.2.2.2) :
  Calls prog 156 #[.pointer (some ⟨b,0,none⟩),.agg #[.int .i64 q.1,.bool q.2.1],q.2.2.1] w λe w'=>(∃v,e=.returned v)/\bD w' m (τ++[q])/\w.grownBy w' (some m):=by
 obtain⟨x,i,v,r⟩:=q;obtain⟨rp,rc,hvr⟩:=hv.len;simp only at hvr;subst hvr;obtain⟨W1,hW1⟩:∃W1,(w.alloc (.cells #[.int .i64 x,.bool i] 207)).drew=W1:=⟨_,rfl⟩;have hg0:w.grownBy (w.alloc (.cells #[.int .i64 x,.bool i] 207)) none:=ad4 _ _ none;have hg1:w.grownBy W1 none:=by rw[<-hW1];exact hg0.trans ⟨rfl,rfl,rfl,ad5 _,λ_ _ _=>rfl⟩
 have hb1:=But.aA hg1;have hno:∀k,some k=none->jC w k:=λk e=>by cases e
 have hB1:bD W1 m τ:=hB.but hb1 hno (by simp);have h1:nX W1 b U rv ov tp (some m):=h.kept (hg1.block b h.lt (by simp));obtain⟨c0,c1,c2,c3,c4⟩:=h1.cells;have k0:W1.cell? ⟨w.heap.size,0,none⟩=some (.int .i64 x):=by rw[<-hW1];simp[go_sem]
 have k1:W1.cell? ⟨w.heap.size,1,none⟩=some (.bool i):=by rw[<-hW1];simp[go_sem]
 have hlen:=hB1.len 3;obtain⟨w2,hrun,hB2,hg2⟩:=hB1.put (q:=(x,i,.slice rp r.length rc,r)) hl hx hq (hv.but hb1 hno);have HB2:=aj hB2;have HG2:=aj ((hg1.but (some m)).trans hg2);clear hB hB1 h h1 hv hno hb1 hg0 hg1 hB2 hg2 hq
 go_enter func156,ntmps156
 go_wp2_with fail
 refine wp_region_any rfl (jl (S:=λW'=>W'=W1) (z:=15) _ _ _ _ ?_);have hS0:W1=W1:=rfl;simp only[ae2,ae1,ae8,Nat.reduceAdd,ae0,ad9,ae4,ae7,ae6];change wpAnyL prog .any _ _ _ _ _ _ _ (w.alloc (.cells #[.int .i64 x,.bool i] 207)).drew;rw[hW1];clear hW1;refine tL 0 (.pointer (some ⟨b,0,none⟩)) (λw' hS=>?_) hS0 ?_
 ·subst hS;go_simp
 simp only[aC];refine tL 1 (.pointer (some ⟨b,0,none⟩)) (λw' hS=>?_) hS0 ?_
 ·subst hS;go_simp
 simp only[aC];refine tL 2 (.pointer (some ⟨b,4,none⟩)) (λw' hS=>?_) hS0 ?_
 ·subst hS;go_simp
 simp only[aC];refine tL 3 (.map (some m)) (λw' hS=>?_) hS0 ?_
 ·subst hS;go_simp
 simp only[aC];refine tL 4 (.pointer (some ⟨w.heap.size,0,none⟩)) (λw' hS=>?_) hS0 ?_
 ·subst hS;go_simp
 simp only[aC];refine tL 5 (.int .i64 x) (λw' hS=>?_) hS0 ?_
 ·subst hS;go_simp
 simp only[aC];refine tL 6 (.pointer (some ⟨w.heap.size,1,none⟩)) (λw' hS=>?_) hS0 ?_
 ·subst hS;go_simp
 simp only[aC];refine tL 7 (.bool i) (λw' hS=>?_) hS0 ?_
 ·subst hS;go_simp
 simp only[aC];refine tL 8 (.pointer (some ⟨b,0,none⟩)) (λw' hS=>?_) hS0 ?_
 ·subst hS;go_simp
 simp only[aC];refine tL 9 (.pointer (some ⟨b,0,none⟩)) (λw' hS=>?_) hS0 ?_
 ·subst hS;go_simp
 simp only[aC];refine tL 10 (.pointer (some ⟨b,4,none⟩)) (λw' hS=>?_) hS0 ?_
 ·subst hS;go_simp
 simp only[aC];refine tL 11 (.map (some m)) (λw' hS=>?_) hS0 ?_
 ·subst hS;go_simp
 simp only[aC];refine tL 12 (.int .i64 τ.length) (λw' hS=>?_) hS0 ?_
 ·subst hS;simp[execOp,resolve,invoke,builtin,hlen,Result.andThen,go_sem]
 simp only[aC];refine tL 13 (.slice rp r.length rc) (λw' hS=>?_) hS0 ?_
 ·subst hS;go_simp
 simp only[aC];refine tL 14 (.agg #[.bool i,.int .i64 τ.length,.slice rp r.length rc]) (λw' hS=>?_) hS0 ?_
 ·subst hS;go_simp
 simp only[aC];refine oL 15 (λK hK=>?_);have hrun':(Instr.mapUpdate 128 (.map (some m)) (.int .i64 x) (.agg #[.bool i,.int .i64 τ.length,.slice rp r.length rc])).run prog W1=.ok () w2:=hrun;clear hrun;go_simp;refine hK.out _ _ (λh=>absurd rfl h) (jq (by kernel_rfl) ?_ _)
 go_end0
 exact⟨⟨_,rfl⟩,ah HB2,ah HG2⟩
def unk(τ:List Tr)(v:View):Bool:=!kX τ v.1
def EH(τ:List Tr)(v:View):Bool:=match mD τ v.1 with
 |some q=>q.1.2.1==v.2
 |none=>false
def dM(τ:List Tr)(r:Rule):View:=(r.filter (unk τ)).getLastD (0,false)
theorem Ia{τ:List Tr}{r:Rule}{k:Nat}(hk:k<r.length):dM τ (r.take (k+1))=if unk τ r[k]then r[k]else dM τ (r.take k):=by
 unfold dM;rw[ah1,ad6 hk,an3];by_cases h:unk τ r[k]=true<;>simp[h]
theorem NQ{τ:List Tr}{r:Rule}{k:Nat}(hk:k<r.length):((r.take (k+1)).filter (unk τ)).length=((r.take k).filter (unk τ)).length+if unk τ r[k]then 1 else 0:=by
 rw[ah1,ad6 hk,an3];by_cases h:unk τ r[k]=true<;>simp[h]
theorem N8{α:Type}{p:α->Bool}{r:List α}{k:Nat}(hk:k<r.length):(r.take (k+1)).any p=((r.take k).any p||p r[k]):=by
 rw[ah1,ad6 hk,List.any_append];simp
theorem bD.Bf{w:World}{m:Nat}{τ:List Tr}(h:bD w m τ)(x:Nat):∃bi bk p l c,uN τ x=.agg #[.bool bi,.int .i64 bk,.slice p l c]/\∀i,EH τ (x,i)=(kX τ x&&(bi==i)):=by
 cases e:mD τ x with
 |none=>exact⟨false,0,none,0,0,by simp[uN,e],λi=>by simp[EH,kX,e]⟩
 |some q=>
  obtain⟨q,k⟩:=q;obtain⟨h1,hk,h2⟩:=dG e;obtain⟨p,c,h3⟩:=(h.NY q (h2▸ad8 hk)).len;exact⟨q.2.1,k,p,q.2.2.2.length,c,by simp[uN,e,oC,h3],λi=>by simp[EH,kX,e]⟩
def opE(τ:List Tr)(r:Rule)(e:Ending):Prop:=
 (r.any (EH τ)=true/\∃v:View,e=.returned (.tuple #[.agg #[.int .i64 v.1,.bool v.2],.int .i64 (-1)]))\/
 (r.any (EH τ)=false/\e=.returned (.tuple #[.agg #[.int .i64 (dM τ r).1,.bool (dM τ r).2],.int .i64 (r.filter (unk τ)).length]))
theorem open_any(w:World)(b U:Nat)(rv ov:Value)(tp:List UInt8)(m:Nat)(τ:List Tr)(h:nX w b U rv ov tp (some m))(hB:bD w m τ)(v:Value)(r:Rule)(hv:aP w v r)(hr:r≠[])(hr5:r.length<=1000)(hx:∀u∈r,u.1<=1000) :
  Calls prog 155 #[.pointer (some ⟨b,0,none⟩),v] w λe w'=>opE τ r e/\Below w.heap.size w w':=by
 rcases hv with⟨hv,_⟩|⟨g,cap,cur,x,rfl,hg,_,hcur⟩
 ·exact absurd hv hr
 have hgl:g<w.heap.size:=(ad3.1 hg).1;have hc:∀W:World,Below w.heap.size w W->∀k (hk:k<r.length),W.cell? ⟨g,k*2,none⟩=some (.int .i64 r[k].1)/\W.cell? ⟨g,k*2+1,none⟩=some (.bool r[k].2):=λW hW k hk=>by
  rw[hW.cell (p:=⟨g,_,none⟩) hgl,hW.cell (p:=⟨g,_,none⟩) hgl,cell_of hg,cell_of hg];exact hcur k hk
 have hc4:∀W:World,Below w.heap.size w W->W.cell? ⟨b,4,none⟩=some (.map (some m)):=λW hW=>by
  rw[hW.cell (p:=⟨b,_,none⟩) h.lt];exact h.cells.2.2.2.2
 have hlook:∀W:World,Below w.heap.size w W->∀k (hk:k<r.length),(Instr.lookup 128 (.map (some m)) (.int .i64 r[k].1) true).run prog W=.ok (.tuple #[uN τ r[k].1,.bool (kX τ r[k].1)]) W:=λW hW k hk=>
  (hB.but (But.of_below hW (λ_=>False)) (λ_ h=>h.elim) (λh=>h)).look (hx _ (ad8 hk))
 have hsh:=λx=>hB.Bf x;have HSH:=aj hsh;clear hsh;have HC:=aj hc;have HC4:=aj hc4;have HL:=aj hlook;have hbl:=h.lt;clear hc hc4 hlook hcur hg hB h hx
 go_enter func155,ntmps155
 go_wp2_with fail
 go_loopw [5,12] (λo i wr=>∃k:Nat,k<=r.length/\i=.int .i64 k/\o=.int .i64 ((r.take k).filter (unk τ)).length/\(r.take k).any (EH τ)=false/\wr.heap[w.heap.size]?=some (.cells #[.int .i64 (dM τ (r.take k)).1,.bool (dM τ (r.take k)).2] 207 (0,0))/\Below w.heap.size w wr) (λ_ i _=>r.length-(intOf i).toNat)
 case atStart=>
  refine⟨0,ah2 _,rfl,rfl,rfl,?_,(ag6 _ _).alloc (ad5 _) _⟩;rw[ae9];rfl
 case round=>
  obtain⟨k,hk,rfl,rfl,hany,hlast,hbw⟩:=hrel;by_cases hlt:k<r.length
  ·have hbd:(k:Int)<(r.length:Int):=(by omega);obtain⟨d0,d1⟩:=ah HC wr hbw k hlt;have hl1:=Ia (τ:=τ) hlt;have hl2:=NQ (τ:=τ) hlt;have hl3:=N8 (p:=EH τ) hlt;rw[hany,Bool.false_or]at hl3;have HL1:=aj hl1;have HL2:=aj hl2;have HL3:=aj hl3;have HBW:=aj hbw;have HLA:=aj hlast;clear hl1 hl2 hl3 hbw hlast hany;have hlk:Hid (∀W:World,Below w.heap.size w W->(Instr.lookup 128 (.map (some m)) (.int .i64 r[k].1) true).run prog W=.ok (.tuple #[uN τ r[k].1,.bool (kX τ r[k].1)]) W):=λW hW=>ah HL W hW k hlt;generalize r[k]=u at d0 d1 HL1 HL2 HL3 hlk;obtain⟨ux,ui⟩:=u;simp only at d0 d1 hlk;obtain⟨bi,bk,bp,bl,bc,hsh,hrg⟩:=ah HSH ux;rw[hsh]at hlk;have HRG:=aj hrg;have hun:unk τ (ux,ui)=!kX τ ux:=rfl;rw[hun]at HL1 HL2;rw[hrg]at HL3;clear hsh hrg hun;generalize kX τ ux=ko at hlk HRG HL1 HL2 HL3
   go_wp2_with fail
   obtain⟨W1,hW1⟩:∃W1,wr.alloc (.cells #[.int .i64 ux,.bool ui] 207)=W1:=⟨_,rfl⟩;have hbW:Below w.heap.size w W1:=(by rw[<-hW1];exact(ah HBW).alloc (ah HBW).size _);have hsW:W1.heap.size=wr.heap.size+1:=(by rw[<-hW1];simp);have k0:W1.cell? ⟨wr.heap.size,0,none⟩=some (.int .i64 ux):=(by rw[<-hW1];simp[go_sem]);have k1:W1.cell? ⟨wr.heap.size,1,none⟩=some (.bool ui):=(by rw[<-hW1];simp[go_sem]);have hlW:W1.heap[w.heap.size]?=some (.cells #[.int .i64 (dM τ (r.take k)).1,.bool (dM τ (r.take k)).2] 207 (0,0)):=by
    rw[<-hW1,ae3 _ _ _ (ad3.1 (ah HLA)).1];exact ah HLA
   have hwl:w.heap.size<wr.heap.size:=(ad3.1 (ah HLA)).1;have HLW:=aj hlW;have hc4:=ah HC4 W1 hbW;have HSW:=aj hsW;have X0:=aj hbW;rw[hW1];clear hW1 hlW hsW hbW HLA HBW d0 d1;refine ah0 (S:=λW'=>W1.grownBy W' none) rfl ?_;have hS0:W1.grownBy W1.drew none:=⟨rfl,rfl,rfl,ad5 _,λ_ _ _=>rfl⟩;have hSb:Hid (∀W',W1.grownBy W' none->Below w.heap.size w W'):=λW' h=>(ah X0).grown h (ah X0).size (λk e=>by cases e);simp only[ae2,ae1,ae8,Nat.reduceAdd,ae0,ad9,ae4,ae7,ae6];change wpAnyH prog .any _ _ _ _ _ _ W1.drew;refine tH 0 (.pointer (some ⟨b,0,none⟩)) (λw' hS=>?_) hS0 ?_
   ·go_simp
   simp only[aC];refine tH 1 (.pointer (some ⟨b,0,none⟩)) (λw' hS=>?_) hS0 ?_
   ·go_simp
   simp only[aC];refine tH 2 (.pointer (some ⟨b,4,none⟩)) (λw' hS=>?_) hS0 ?_
   ·go_simp
   simp only[aC];refine tH 3 (.map (some m)) (λw' hS=>?_) hS0 ?_
   ·have q:=hS.cell hc4 (by simp);go_simp
   simp only[aC];refine tH 4 (.pointer (some ⟨wr.heap.size,0,none⟩)) (λw' hS=>?_) hS0 ?_
   ·go_simp
   simp only[aC];refine tH 5 (.int .i64 ux) (λw' hS=>?_) hS0 ?_
   ·have q:=hS.cell k0 (by simp);go_simp
   simp only[aC];refine tH 6 (.tuple #[.agg #[.bool bi,.int .i64 bk,.slice bp bl bc],.bool ko]) (λw' hS=>?_) hS0 ?_
   ·have q:=ah hlk w' (ah hSb w' hS);go_simp
   simp only[aC];refine tH 7 (.tuple #[.agg #[.bool bi,.int .i64 bk,.slice bp bl bc],.bool ko]) (λw' hS=>?_) hS0 ?_
   ·go_simp
   simp only[aC];refine tH 8 (.agg #[.bool bi,.int .i64 bk,.slice bp bl bc]) (λw' hS=>?_) hS0 ?_
   ·go_simp
   simp only[aC];refine tH 9 (.bool ko) (λw' hS=>?_) hS0 ?_
   ·go_simp
   simp only[aC];refine oH 10 (λK hK=>?_);go_simp;have hS1:W1.grownBy (W1.alloc (.cells #[.bool false,.int .i64 0,.slice none 0 0] 215)).drew none:=(ad4 _ _ none).trans ⟨rfl,rfl,rfl,ad5 _,λ_ _ _=>rfl⟩;refine hK.out _ _ hS1 ?_;clear hK K;refine oH 11 (λK hK=>?_);go_simp;have hS2:W1.grownBy (W1.alloc (.cells #[.bool bi,.int .i64 bk,.slice bp bl bc] 215)).drew none:=(ad4 _ _ none).trans ⟨rfl,rfl,rfl,ad5 _,λ_ _ _=>rfl⟩;refine hK.out _ _ hS2 ?_;clear hK K;refine oH 12 (λK hK=>?_);go_simp;refine hK.out _ _ hS2 (ag5 (by kernel_rfl) ?_ _);clear hK K;obtain⟨W2,hW2⟩:∃W2,(W1.alloc (.cells #[.bool bi,.int .i64 bk,.slice bp bl bc] 215)).drew=W2:=⟨_,rfl⟩;have n0:W2.cell? ⟨W1.heap.size,0,none⟩=some (.bool bi):=(by rw[<-hW2];simp[go_sem]);have b2:Below w.heap.size w W2:=(by rw[<-hW2];exact ah hSb _ hS2);have q0:W2.cell? ⟨wr.heap.size,0,none⟩=some (.int .i64 ux):=(by rw[<-hW2];exact hS2.cell k0 (by simp));have q1:W2.cell? ⟨wr.heap.size,1,none⟩=some (.bool ui):=(by rw[<-hW2];exact hS2.cell k1 (by simp));have hl2:W2.heap[w.heap.size]?=some (.cells #[.int .i64 (dM τ (r.take k)).1,.bool (dM τ (r.take k)).2] 207 (0,0)):=by
    rw[<-hW2,hS2.block _ (by have:=ah HSW;omega) (by simp)];exact ah HLW
   have fz0:W2.frozen? ⟨w.heap.size,0,none⟩=false:=(by simp[World.frozen?,hl2]);have fz1:W2.frozen? ⟨w.heap.size,1,none⟩=false:=(by simp[World.frozen?,hl2]);have lc0:W2.cell? ⟨w.heap.size,0,none⟩=some (.int .i64 (dM τ (r.take k)).1):=(by rw[cell_of hl2];rfl);have lc1:W2.cell? ⟨w.heap.size,1,none⟩=some (.bool (dM τ (r.take k)).2):=(by rw[cell_of hl2];rfl);have HB2:=aj b2;have HL4:=aj hl2;rw[hW2];clear hW2 hS0 hS1 hS2 k0 k1 hc4 b2 hl2;cases ko
   ·simp only[Bool.not_false,al0,Bool.false_and]at HL1 HL2 HL3
    go_wp2_with fail
    refine⟨⟨k+1,hlt,by go_num,?_,ah HL3,?_,((ah HB2).setCell (ad5 _) _).setCell (ad5 _) _⟩,by simp[intOf];omega⟩
    ·have hcb:((r.take k).filter (unk τ)).length<=1000:=af7 (List.length_filter_le _ _) (af7 (List.length_take_le' _ _) hr5);rw[ah HL2];congr 1;unfold wrap64;omega
    ·rw[ah HL1,heap_setCell_same (heap_setCell_same (ah HL4))];rfl
   ·simp only[Bool.not_true,an4,an6,Bool.true_and]at HL1 HL2 HL3;cases hbb:bi==ui
    ·rw[hbb]at HL3;have hbn:(bi=ui)=False:=by simpa using hbb
     go_wp2_with fail
     exact⟨⟨k+1,hlt,by go_num,by rw[ah HL2];rfl,ah HL3,by rw[ah HL1];exact ah HL4,ah HB2⟩,by simp[intOf];omega⟩
    ·rw[hbb]at HL3;obtain rfl:bi=ui:=(by simpa using hbb);clear hbb;have hany:r.any (EH τ)=true:=by
      rw[<-List.take_append_drop (k+1) r,List.any_append,ah HL3];rfl
     have HA:=aj hany;clear hany
     go_wp2_with fail
     have hF:=heap_setCell_same (i:=1) (u:=.bool bi) (heap_setCell_same (i:=0) (u:=.int .i64 ux) (ah HL4));have hbF:=((ah HB2).setCell (p:=⟨w.heap.size,0,none⟩) (ad5 _) (.int .i64 ux)).setCell (p:=⟨w.heap.size,1,none⟩) (ad5 _) (.bool bi);generalize (W2.setCell ⟨w.heap.size,0,none⟩ (.int .i64 ux)).setCell ⟨w.heap.size,1,none⟩ (.bool bi)=WF at hF hbF ⊢;have f0:WF.cell? ⟨w.heap.size,0,none⟩=some (.int .i64 ux):=(by rw[cell_of hF];rfl);have f1:WF.cell? ⟨w.heap.size,1,none⟩=some (.bool bi):=(by rw[cell_of hF];rfl);refine ag3 (v:=.tuple #[.agg #[.int .i64 ux,.bool bi],.int .i64 (-1)]) (by simp[results,results155,go_sem,f0,f1]) rfl ⟨Or.inl ⟨ah HA,(ux,bi),rfl⟩,hbF⟩
  ·have hkk:k=r.length:=(by omega);have hbd:¬(k:Int)<(r.length:Int):=(by omega);rw[hkk,ai7]at hany hlast;have lc0:wr.cell? ⟨w.heap.size,0,none⟩=some (.int .i64 (dM τ r).1):=(by rw[cell_of hlast];rfl);have lc1:wr.cell? ⟨w.heap.size,1,none⟩=some (.bool (dM τ r).2):=(by rw[cell_of hlast];rfl);have fz0:wr.frozen? ⟨w.heap.size,0,none⟩=false:=(by simp[World.frozen?,hlast]);have fz1:wr.frozen? ⟨w.heap.size,1,none⟩=false:=(by simp[World.frozen?,hlast]);have HA:=aj hany;have HBW:=aj hbw;have hfl:(List.filter (unk τ) (r.take k)).length=(r.filter (unk τ)).length:=(by rw[hkk,ai7]);rw[hfl];have HLA:=aj hlast;clear hany hlast hbw hfl hkk;generalize hlu:dM τ r=lu at lc0 lc1 HLA;generalize hcu:(r.filter (unk τ)).length=cu;have HLU:=aj hlu;have HCU:=aj hcu;clear hlu hcu;obtain⟨lx,li⟩:=lu;simp only at lc0 lc1 HLA
   go_wp2_with fail
   have hF:=heap_setCell_same (i:=1) (u:=.bool li) (heap_setCell_same (i:=0) (u:=.int .i64 lx) (ah HLA));have hbF:=((ah HBW).setCell (p:=⟨w.heap.size,0,none⟩) (ad5 _) (.int .i64 lx)).setCell (p:=⟨w.heap.size,1,none⟩) (ad5 _) (.bool li);generalize (wr.setCell ⟨w.heap.size,0,none⟩ (.int .i64 lx)).setCell ⟨w.heap.size,1,none⟩ (.bool li)=WF at hF hbF ⊢;have f0:WF.cell? ⟨w.heap.size,0,none⟩=some (.int .i64 lx):=(by rw[cell_of hF];rfl);have f1:WF.cell? ⟨w.heap.size,1,none⟩=some (.bool li):=(by rw[cell_of hF];rfl);refine ag3 (v:=.tuple #[.agg #[.int .i64 lx,.bool li],.int .i64 cu]) (by simp[results,results155,go_sem,f0,f1]) rfl ⟨Or.inr ⟨ah HA,?_⟩,hbF⟩;rw[ah HLU,ah HCU]
end
open aB (Key put)
theorem JX{i n sz j:Nat}(hi:i<n)(hj:j<sz):i*sz+j<n*sz:=by
 have h1:(i+1)*sz<=n*sz:=Nat.mul_le_mul_right sz hi;rw[an0]at h1;omega
theorem qm{w:World}{base e G:Nat}{ts:List Key}(h:w.ownsRow base e 3 (.slice (some ⟨G,0,none⟩) ts.length ts.length) ts.length (ts.flatMap iR)):bQ w G ts:=by
 refine⟨(h.lt G rfl).2,λi hi=>?_⟩;have hc:∀c,c<3->w.cell? ⟨G,i*3+c,none⟩=(iR ts[i])[c]?:=λc hc=>by
  rw[h.cellAt (i*3+c) (JX hi hc)];exact flat_get (k:=3) (λ_=>rfl) (by decide) ts i hi c hc
 exact⟨hc 0 (by decide),hc 1 (by decide),hc 2 (by decide)⟩
theorem Ci{w:World}{base e G:Nat}{cs:List (Int×Nat)}(h:w.ownsRow base e 2 (.slice (some ⟨G,0,none⟩) cs.length cs.length) cs.length (cs.flatMap lH)):eF w G cs:=by
 refine⟨(h.lt G rfl).2,λi hi=>?_⟩;have hc:∀c,c<2->w.cell? ⟨G,i*2+c,none⟩=(lH cs[i])[c]?:=λc hc=>by
  rw[h.cellAt (i*2+c) (JX hi hc)];exact flat_get (k:=2) (λ_=>rfl) (by decide) cs i hi c hc
 exact⟨hc 0 (by decide),hc 1 (by decide)⟩
theorem Oj{w wr W2 w4:World}{G:Nat}(hb:Below w.heap.size w wr)(hg:wr.grownBy W2 none)(r2:W2.grownBy w4 (some G))(hG:w.heap.size<=G):Below w.heap.size w w4:=
 (hb.grown hg hb.size (λk e=>by cases e)).grown r2 (af7 hb.size hg.size) (λk e=>by cases e;exact hG)
end Go.Proofs.YthcppbmkacbbiabGreat
