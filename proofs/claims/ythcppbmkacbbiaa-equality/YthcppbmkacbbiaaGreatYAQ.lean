import Derived.Test.YthcppbmkacbbiaaGreatYAO
import Derived.Test.YthcppbmkacbbiaaGreatYAI
import Derived.Shelf.Strings.Builder1
import Derived.Shelf.Strings.Builder2
import Derived.Shelf.Strings.OnBuilder
import Derived.Shelf.Small.Bits
import Derived.Shelf.Strings.BuilderF
import Derived.Shelf.Strings.BuilderK
import Derived.Shelf.Strconv.Itoa0
import Derived.Shelf.SlSortCmp.Insertion
import Derived.Shelf.SlSortCmp.SiftDown1
import Derived.Shelf.SlSortCmp.HeapSort1
import Derived.Shelf.SlSortCmp.Insertion1
import Derived.Shelf.SlSortCmp.Median1
import Derived.Shelf.SlSortCmp.Pivot1
import Derived.Shelf.SlSortCmp.ReverseRange1
import Derived.Shelf.SlSortCmp.PartialInsertion1
import Derived.Shelf.SlSortCmp.PartitionEqual1
import Derived.Shelf.SlSortCmp.Partition1
import Derived.Shelf.SlSortCmp.Pdq1
import Derived.Shelf.SlSortCmp.Whole1
import Derived.Lib.Join
set_option linter.unusedSimpArgs false
set_option maxHeartbeats 1000000
namespace Go.Proofs.YthcppbmkacbbiaaGreat
open Go.Proofs.Tryz
open Go.RowKit Go.Maps Go.WideMaps
section
open aB (Key put)
theorem Jr{i n sz j:Nat}(hi:i<n)(hj:j<sz):i*sz+j<n*sz:=by
 have h1:(i+1)*sz<=n*sz:=Nat.mul_le_mul_right sz hi;rw[am0]at h1;omega
theorem xB{w:World}{base e G:Nat}{ts:List Key}(h:w.ownsRow base e 3 (.slice (some ⟨G,0,none⟩) ts.length ts.length) ts.length (ts.flatMap je)):cO w G ts:=by
 refine⟨(h.lt G rfl).2,λi hi=>?_⟩;have hc:∀c,c<3->w.cell? ⟨G,i*3+c,none⟩=(je ts[i])[c]?:=λc hc=>by
  rw[h.cellAt (i*3+c) (Jr hi hc)];exact flat_get (k:=3) (λ_=>rfl) (by decide) ts i hi c hc
 exact⟨hc 0 (by decide),hc 1 (by decide),hc 2 (by decide)⟩
theorem Jh{w:World}{base e G:Nat}{cs:List (Int×Nat)}(h:w.ownsRow base e 2 (.slice (some ⟨G,0,none⟩) cs.length cs.length) cs.length (cs.flatMap lX)):eP w G cs:=by
 refine⟨(h.lt G rfl).2,λi hi=>?_⟩;have hc:∀c,c<2->w.cell? ⟨G,i*2+c,none⟩=(lX cs[i])[c]?:=λc hc=>by
  rw[h.cellAt (i*2+c) (Jr hi hc)];exact flat_get (k:=2) (λ_=>rfl) (by decide) cs i hi c hc
 exact⟨hc 0 (by decide),hc 1 (by decide)⟩
theorem NT{w wr W2 w4:World}{G:Nat}(hb:Below w.heap.size w wr)(hg:wr.grownBy W2 none)(r2:W2.grownBy w4 (some G))(hG:w.heap.size<=G):Below w.heap.size w w4:=
 (hb.grown hg hb.size (λk e=>by cases e)).grown r2 (ae4 hb.size hg.size) (λk e=>by cases e;exact hG)
end
open Sat (View Rule jw bI)
structure But(S:Nat->Prop)(w w':World):Prop where
 os:w'.os=w.os
 tape:w'.tape=w.tape
 output:w'.output=w.output
 size:w.heap.size<=w'.heap.size
 block:∀k,k<w.heap.size->¬S k->w'.heap[k]?=w.heap[k]?
theorem But.refl(S:Nat->Prop)(w:World):But S w w:=⟨rfl,rfl,rfl,ac2 _,λ_ _ _=>rfl⟩
theorem But.trans{S:Nat->Prop}{a b c:World}(h:But S a b)(k:But S b c):But S a c:=
 ⟨k.os.trans h.os,k.tape.trans h.tape,k.output.trans h.output,ae4 h.size k.size,λi hi hn=>(k.block i (ac8 hi h.size) hn).trans (h.block i hi hn)⟩
theorem But.mono{S T:Nat->Prop}{a b:World}(h:But S a b)(hS:∀k,k<a.heap.size->S k->T k):But T a b:=
 ⟨h.os,h.tape,h.output,h.size,λk hk hn=>h.block k hk (λe=>hn (hS k hk e))⟩
theorem But.aA{row:Option Nat}{a b:World}(h:a.grownBy b row):But (λk=>some k=row) a b:=
 ⟨h.os,h.tape,h.output,h.size,λk hk hn=>h.block k hk hn⟩
theorem But.of_below{a b:World}(h:Below a.heap.size a b)(S:Nat->Prop):But S a b:=
 ⟨h.os,h.tape,h.output,h.size,λk hk _=>h.block k hk⟩
theorem But.below{S:Nat->Prop}{a b:World}(h:But S a b){n:Nat}(hn:n<=a.heap.size)(hS:∀k,k<n->¬S k):Below n a b:=
 ⟨h.os,h.tape,h.output,h.size,λk hk=>h.block k (by omega) (hS k hk)⟩
theorem But.then{S T:Nat->Prop}{a b c:World}(h:But S a b)(k:But T b c)(hT:∀i,i<a.heap.size->T i->S i):But S a c:=
 ⟨k.os.trans h.os,k.tape.trans h.tape,k.output.trans h.output,ae4 h.size k.size,λi hi hn=>(k.block i (ac8 hi h.size) (λe=>hn (hT i hi e))).trans (h.block i hi hn)⟩
theorem But.drew{S:Nat->Prop}{a b:World}(h:But S a b):But S a b.drew:=⟨h.os,h.tape,h.output,h.size,h.block⟩
def aQ(w:World)(v:Value)(r:Rule):Prop:=
 (r=[]/\v=.slice none 0 0)\/∃g cap cur x,v=.slice (some ⟨g,0,none⟩) r.length cap/\w.heap[g]?=some (.cells cur 214 x)/\r≠[]/\
  ∀i (hi:i<r.length),cur[i*2]?=some (.int .i64 r[i].1)/\cur[i*2+1]?=some (.bool r[i].2)
def jI(w:World)(k:Nat):Prop:=∀cur x,w.heap[k]?≠some (.cells cur 214 x)
theorem aQ.but{S:Nat->Prop}{w w':World}{v:Value}{r:Rule}(h:aQ w v r)(hb:But S w w')(hS:∀k,S k->jI w k):aQ w' v r:=by
 rcases h with h|⟨g,cap,cur,x,h1,h2,h3⟩
 ·exact Or.inl h
 ·have hlt:g<w.heap.size:=(ac0.1 h2).1;exact Or.inr ⟨g,cap,cur,x,h1,(hb.block g hlt (λe=>hS g e cur x h2)).trans h2,h3⟩
theorem aQ.len{w:World}{v:Value}{r:Rule}(h:aQ w v r):∃p cap,v=.slice p r.length cap:=by
 rcases h with⟨rfl,rfl⟩|⟨g,cap,cur,x,h1,h2,h3⟩
 ·exact⟨_,_,rfl⟩
 ·exact⟨_,_,h1⟩
def oI(w:World)(b:Nat)(U:Nat)(rv ov:Value)(tp:List UInt8)(m:Option Nat):Prop:=
 w.heap[b]?=some (.cells #[.int .i64 U,rv,ov,.string ⟨tp.toArray⟩,.map m] 169 (0,0))
theorem oI.lt{w:World}{b U:Nat}{rv ov:Value}{tp:List UInt8}{m:Option Nat}(h:oI w b U rv ov tp m):b<w.heap.size:=(ac0.1 h).1
theorem oI.kept{w w':World}{b U:Nat}{rv ov:Value}{tp:List UInt8}{m:Option Nat}(h:oI w b U rv ov tp m)(hb:w'.heap[b]?=w.heap[b]?):oI w' b U rv ov tp m:=hb.trans h
theorem oI.oM{w:World}{b U:Nat}{rv ov:Value}{tp:List UInt8}{m:Option Nat}(h:oI w b U rv ov tp m):jI w b:=by
 intro cur y e;have q:=h.symm.trans e;simp at q
theorem cell_of{w:World}{b:Nat}{cur:Array Value}{t:TypeId}{x:Nat×Nat}(h:w.heap[b]?=some (.cells cur t x))(i:Nat):w.cell? ⟨b,i,none⟩=cur[i]?:=by
 simp[World.cell?,h]
theorem oI.cells{w:World}{b U:Nat}{rv ov:Value}{tp:List UInt8}{m:Option Nat}(h:oI w b U rv ov tp m) :
  w.cell? ⟨b,0,none⟩=some (.int .i64 U)/\w.cell? ⟨b,1,none⟩=some rv/\w.cell? ⟨b,2,none⟩=some ov/\w.cell? ⟨b,3,none⟩=some (.string ⟨tp.toArray⟩)/\w.cell? ⟨b,4,none⟩=some (.map m):=by
 refine⟨?_,?_,?_,?_,?_⟩<;>(rw[cell_of h];rfl)
theorem oI.thaw{w:World}{b U:Nat}{rv ov:Value}{tp:List UInt8}{m:Option Nat}(h:oI w b U rv ov tp m)(i:Nat):w.frozen? ⟨b,i,none⟩=false:=by
 unfold oI at h;simp[World.frozen?,h]
theorem oI.mk{w:World}{b U:Nat}{rv ov:Value}{tp:List UInt8}{m:Option Nat}(h:w.heap[b]?=some (.cells #[.int .i64 U,rv,ov,.string ⟨tp.toArray⟩,.map m] 169 (0,0))):oI w b U rv ov tp m:=h
theorem oI.out{w:World}{b U:Nat}{rv ov:Value}{tp:List UInt8}{m:Option Nat}(h:oI w b U rv ov tp m):w.heap[b]?=some (.cells #[.int .i64 U,rv,ov,.string ⟨tp.toArray⟩,.map m] 169 (0,0)):=h
theorem But.setCell{S:Nat->Prop}{a b:World}(h:But S a b){p:Addr}(hp:p.block<a.heap.size->S p.block)(u:Value):But S a (b.setCell p u):=
 ⟨h.os,h.tape,h.output,ae4 h.size (by simp[World.setCell]),λk hk hn=>by
  have e:k≠p.block:=λe=>hn (by subst e;exact hp hk);rw[ae3 _ _ _ _ e];exact h.block k hk hn⟩
theorem heap_setCell_same{w:World}{b i:Nat}{cur:Array Value}{t:TypeId}{x:Nat×Nat}{u:Value}(h:w.heap[b]?=some (.cells cur t x)):(w.setCell ⟨b,i,none⟩ u).heap[b]?=some (.cells (cur.setIfInBounds i u) t x):=by
 simp[World.setCell,ao1,h]
def dg:List UInt8->Nat
 |[]=>0
 |c::_=>c.toNat-48
def xg(tp:List UInt8):Prop:=∀c∈tp,48<=c.toNat/\c.toNat<=57
theorem Bg(w:World)(b U:Nat)(rv ov:Value)(tp:List UInt8)(m:Option Nat)(h:oI w b U rv ov tp m)(hd:xg tp) :
  Calls prog 136 #[.pointer (some ⟨b,0,none⟩)] w λe w'=>e=.returned (.int .i64 (dg tp))/\oI w' b U rv ov tp.tail m/\But (λk=>k=b) w w':=by
 obtain⟨c0,c1,c2,c3,c4⟩:=h.cells;have H:=aj h;have hz:=h.thaw 3;clear h;cases tp with
 |nil=>
  go_enter func136,ntmps136
  go_wp2_with fail
  go_ret
  exact⟨rfl,ah H,But.refl _ _⟩
 |cons c tp=>
  go_enter func136,ntmps136
  go_wp2_with fail
  go_ret
  have h:=ah H;refine⟨gZ ?_,?_,But.setCell (S:=λk=>k=b) (But.refl _ _) (λ_=>rfl) _⟩
  ·have:=hd c (by simp)
   show(((c.toNat:Nat):Int)-48)%256=((c.toNat-48:Nat):Int)
   omega
  ·refine oI.mk ?_;rw[heap_setCell_same h.out]
   congr 2
   simp only[List.setIfInBounds_toArray,List.set_cons_zero,List.set_cons_succ,List.tail_cons]
   congr 5
   have e:(⟨(c::tp).toArray⟩:ByteArray).extract 1 (tp.length+1)=⟨tp.toArray⟩:=by
    apply ByteArray.ext;simp
   rw[e]
abbrev Tr:Type:=Nat×Bool×Value×Rule
def uP(v:Value):Option (DataW Value×List MemPlace):=some (.held v,[])
def oV(q:Tr)(k:Nat):Value:=.agg #[.bool q.2.1,.int .i64 k,q.2.2.1]
def Iu(q:Tr×Nat):Lit×DataW Value:=(.int .i64 q.1.1,.held (oV q.1 q.2))
def ents(τ:List Tr):List (Lit×DataW Value):=τ.zipIdx.map Iu
def mX(τ:List Tr)(x:Nat):Option (Tr×Nat):=τ.zipIdx.find? λq=>q.1.1==x
def bel(τ:List Tr):bI:=λx=>(mX τ x).map λq=>(q.1.2.1,q.2,q.1.2.2.2)
def uH(τ:List Tr)(x:Nat):Value:=match mX τ x with
 |some q=>oV q.1 q.2
 |none=>.agg #[.bool false,.int .i64 0,.slice none 0 0]
def lG(τ:List Tr)(x:Nat):Bool:=(mX τ x).isSome
structure bG(w:World)(m:Nat)(τ:List Tr):Prop where
 map:∃es,w.ownsMap prog 3 uP m τ.length (.map es)/\es.Perm (ents τ)
 le:∀q∈τ,q.1<=1000
 Ny:∀q∈τ,aQ w q.2.2.1 q.2.2.2
 nodup:(τ.map (·.1)).Nodup
theorem bG.lt{w:World}{m:Nat}{τ:List Tr}(h:bG w m τ):m<w.heap.size:=by
 obtain⟨es,h1,_⟩:=h.map;exact h1.lt
theorem bG.oM{w:World}{m:Nat}{τ:List Tr}(h:bG w m τ):jI w m:=by
 obtain⟨es,⟨_,_,h1,_⟩,_⟩:=h.map;intro cur x e;rw[h1]at e;cases e
theorem bG.but{S:Nat->Prop}{w w':World}{m:Nat}{τ:List Tr}(h:bG w m τ)(hb:But S w w')(hS:∀k,S k->jI w k)(hm:¬S m):bG w' m τ:=by
 refine⟨?_,h.le,λq hq=>(h.Ny q hq).but hb hS,h.nodup⟩;have hlt:=h.lt;obtain⟨es,⟨e1,c1,h1,h2⟩,h3⟩:=h.map;exact⟨es,⟨e1,c1,(hb.block m hlt hm).trans h1,h2⟩,h3⟩
theorem Nj(τ:List Tr)(q:Tr):ents (τ++[q])=ents τ++[Iu (q,τ.length)]:=by
 simp[ents,List.zipIdx_append]
theorem zl{τ:List Tr}{q:Tr}{x:Nat}(h:x≠q.1):mX (τ++[q]) x=mX τ x:=by
 have e:(q.1==x)=false:=by simp;omega
 simp[mX,List.zipIdx_append,List.find?_append,e]
theorem Af{τ:List Tr}{q:Tr}(h:q.1∉τ.map (·.1)):mX (τ++[q]) q.1=some (q,τ.length):=by
 have e:List.find? (λp:Tr×Nat=>p.1.1==q.1) τ.zipIdx=none:=by
  rw[aq9];intro p hp;have:=(aq0 hp).2.2;simp only[beq_iff_eq];intro e;refine h (ae8.2 ⟨p.1,?_,e⟩);rw[this];simp
 simp[mX,List.zipIdx_append,List.find?_append,e]
theorem FT{τ:List Tr}{q:Tr}(h:q.1∉τ.map (·.1)):bel (τ++[q])=Sat.add (bel τ) q.1 (q.2.1,τ.length,q.2.2.2):=by
 funext x;by_cases e:x=q.1
 ·subst e;rw[Sat.add_same];simp[bel,Af h]
 ·rw[Sat.bQ _ e];simp[bel,zl e]
theorem dI{τ:List Tr}{x:Nat}{q:Tr}{k:Nat}(h:mX τ x=some (q,k)):q.1=x/\∃hk:k<τ.length,τ[k]=q:=by
 have h1:=List.find?_some h;have h2:=List.mem_of_find?_eq_some h;have h3:=aq0 h2;refine⟨by simpa using h1,by have:=h3.2.1;omega,?_⟩;simpa using h3.2.2.symm
theorem jF{τ:List Tr}{x:Nat}:mX τ x=none↔x∉τ.map (·.1):=by
 constructor
 ·intro h hx;obtain⟨q,hq,rfl⟩:=ae8.1 hx;obtain⟨k,hk,e⟩:=ah1 hq;have h1:=aq9.1 h (q,k) (by rw[List.mk_mem_zipIdx_iff_getElem?];rw[ac3 hk,e]);simp at h1
 ·intro h;unfold mX;rw[aq9];intro p hp;have:=(aq0 hp).2.2;simp only[beq_iff_eq];intro e;refine h (ae8.2 ⟨p.1,?_,e⟩);rw[this];simp
theorem jq{τ:List Tr}(hn:(τ.map (·.1)).Nodup){k:Nat}(hk:k<τ.length):mX τ τ[k].1=some (τ[k],k):=by
 cases e:mX τ τ[k].1 with
 |none=>
  exact absurd (ae8.2 ⟨τ[k],ac4 hk,rfl⟩) (jF.1 e)
 |some q=>
  obtain⟨q,j⟩:=q;obtain⟨h1,hj,h2⟩:=dI e;subst h2;have:=(List.getElem?_inj (l:=τ.map (λq=>q.1)) (i:=j) (j:=k) (by simpa using hj) hn).1 (by simp[hj,hk,h1]);subst this;rfl
theorem WV{τ:List Tr}{x:Nat}{b:jw}(h:bel τ x=some b):b.2.1<τ.length:=by
 unfold bel at h;cases e:mX τ x with
 |none=>rw[e]at h;cases h
 |some q=>
  rw[e]at h;obtain⟨q,k⟩:=q;cases h;exact(dI e).2.1
theorem zJ{τ:List Tr}{x:Nat}:bel τ x=none↔x∉τ.map (·.1):=by
 rw[<-jF];simp[bel]
theorem ni{τ:List Tr}(hn:(τ.map (·.1)).Nodup)(k:Nat):bel (τ.take k)=Sat.before (bel τ) k:=by
 funext x;have hn':((τ.take k).map (·.1)).Nodup:=by rw[List.map_take];exact hn.sublist (List.take_sublist _ _)
 cases e:bel (τ.take k) x with
 |none=>
  have h1:=zJ.1 e;unfold Sat.before;cases e2:bel τ x with
  |none=>rfl
  |some b=>
   simp only;by_cases hb:b.2.1<k
   ·exfalso;unfold bel at e2;cases e3:mX τ x with
    |none=>rw[e3]at e2;cases e2
    |some q=>
     rw[e3]at e2;obtain⟨q,j⟩:=q;cases e2;obtain⟨h2,hj,h3⟩:=dI e3;refine h1 (ae8.2 ⟨q,?_,h2⟩);rw[<-h3];have hb':j<k:=hb;have:j<(τ.take k).length:=(by simp;omega);have e4:(τ.take k)[j]=τ[j]:=(by simp);rw[<-e4];exact ac4 _
   ·rw[ad6 hb]
 |some b=>
  symm;rw[Sat.cZ];have hl:=WV e;simp at hl;unfold bel at e;cases e3:mX (τ.take k) x with
  |none=>rw[e3]at e;cases e
  |some q=>
   rw[e3]at e;obtain⟨q,j⟩:=q;cases e;obtain⟨h2,hj,h3⟩:=dI e3;have hj':j<τ.length/\j<k:=(by simp at hj;omega);have h4:τ[j]=q:=(by rw[<-h3];simp);refine⟨?_,hj'.2⟩;have:=jq hn hj'.1;rw[h4,h2]at this;simp[bel,this]
theorem atKey_mem:∀{es:List (Lit×DataW Value)},es.Pairwise (λp q=>p.1≠q.1)->∀{x:Nat} {d:DataW Value},(.int .i64 x,d)∈es->∀z,(DataW.map es).atKey (.int .i64 x) z=d
 |[],_,_,_,h,_=>by cases h
 |p::es,hp,x,d,h,z=>by
  have hp':=List.pairwise_cons.1 hp;have self:(Lit.int .i64 x).sameKey (Lit.int .i64 x)=true:=by simp[Lit.sameKey]
  rcases ah0.1 h with e|h
  ·subst e;simp only[DataW.atKey];rw[List.find?_cons_of_pos (by exact self)]
  ·have hne:=hp'.1 _ h;have e:p.1.sameKey (.int .i64 x)=false:=by
    cases hs:p.1.sameKey (.int .i64 x)
    ·rfl
    ·exact absurd (WideAt.sameKey_eq hs) hne
   have ih:=atKey_mem hp'.2 h z;simp only[DataW.atKey]at ih ⊢;rw[List.find?_cons_of_neg (by rw[e];simp)];exact ih
theorem NS(w:World):(zeroValue 229).run prog w=.ok (.agg #[.bool false,.int .i64 0,.slice none 0 0]) w:=by kernel_rfl
theorem bG.has{τ:List Tr}{es:List (Lit×DataW Value)}(hp:es.Perm (ents τ))(x:Nat):Maps.has (.map es) (.int .i64 x)=lG τ x:=by
 have key:Maps.has (.map es) (.int .i64 x)=true↔lG τ x=true:=by
  constructor
  ·intro h1;obtain⟨p,hp1,hp2⟩:=am1.1 h1;have hp3:=hp.mem_iff.1 hp1;obtain⟨⟨q,k⟩,hq,rfl⟩:=ae8.1 hp3;have e:=WideAt.sameKey_eq hp2;have e2:q.1=x:=(by simp[Iu]at e;omega);cases e3:mX τ x with
   |none=>
    refine absurd ?_ (jF.1 e3);have:=(aq0 hq).2.2;refine ae8.2 ⟨q,?_,e2⟩;rw[this];simp
   |some _=>simp[lG,e3]
  ·intro h1;cases e3:mX τ x with
   |none=>simp[lG,e3]at h1
   |some q=>
    obtain⟨q,k⟩:=q;obtain⟨h2,hk,h3⟩:=dI e3;refine am1.2 ⟨Iu (q,k),hp.mem_iff.2 (ae8.2 ⟨(q,k),?_,rfl⟩),?_⟩
    ·rw[List.mk_mem_zipIdx_iff_getElem?,ac3 hk,h3]
    ·subst h2;simp[Iu,Lit.sameKey]
 cases h1:Maps.has (.map es) (.int .i64 x)<;>cases h2:lG τ x<;>simp_all
theorem bG.atKey{τ:List Tr}{es:List (Lit×DataW Value)}(hp:es.Perm (ents τ))(hd:es.Pairwise (λp q=>p.1≠q.1))(x:Nat) :
  (DataW.map es).atKey (.int .i64 x) (.held (.agg #[.bool false,.int .i64 0,.slice none 0 0]))=.held (uH τ x):=by
 cases e3:mX τ x with
 |none=>
  have h0:=bG.has hp x;have h1:Maps.has (.map es) (.int .i64 x)=false:=by rw[h0];simp[lG,e3]
  have h2:(es.find? λp=>p.1.sameKey (.int .i64 x))=none:=by
   rw[aq9];intro p hp1 hp2;have:Maps.has (.map es) (.int .i64 x)=true:=am1.2 ⟨p,hp1,hp2⟩;rw[h1]at this;cases this
  simp only[DataW.atKey];rw[h2];simp[uH,e3]
 |some q=>
  obtain⟨q,k⟩:=q;obtain⟨h2,hk,h3⟩:=dI e3;have:uH τ x=oV q k:=by simp[uH,e3]
  rw[this];refine atKey_mem hd (hp.mem_iff.2 (ae8.2 ⟨(q,k),?_,?_⟩)) _
  ·rw[List.mk_mem_zipIdx_iff_getElem?,ac3 hk,h3]
  ·subst h2;rfl
theorem bG.look{w:World}{m:Nat}{τ:List Tr}(h:bG w m τ){x:Nat}(hx:x<=1000):(Instr.lookup 159 (.map (some m)) (.int .i64 x) true).run prog w=.ok (.tuple #[uH τ x,.bool (lG τ x)]) w:=by
 obtain⟨es,h1,h2⟩:=h.map;obtain⟨es',e1,e2,_⟩:=h1.entries fG;cases e1;obtain⟨v,ps,hrun,hv⟩:=h1.look_ok fG underlying159 (NS w) (zd:=.held (.agg #[.bool false,.int .i64 0,.slice none 0 0])) (zp:=[]) rfl (qY hx);rw[bG.atKey h2 e2 x]at hv;cases hv;rw[hrun,bG.has h2 x]
theorem bG.look1{w:World}{m:Nat}{τ:List Tr}(h:bG w m τ){x:Nat}(hx:x<=1000):(Instr.lookup 159 (.map (some m)) (.int .i64 x) false).run prog w=.ok (uH τ x) w:=by
 obtain⟨es,h1,h2⟩:=h.map;obtain⟨es',e1,e2,_⟩:=h1.entries fG;cases e1;obtain⟨v,ps,hrun,hv⟩:=h1.lookup fG underlying159 (NS w) (zd:=.held (.agg #[.bool false,.int .i64 0,.slice none 0 0])) (zp:=[]) rfl (qY hx);rw[bG.atKey h2 e2 x]at hv;cases hv;exact hrun
theorem bG.len{w:World}{m:Nat}{τ:List Tr}(h:bG w m τ)(ty:TypeId):(Builtin.len_ #[159] ty #[.map (some m)]).run prog w=.ok (.int .i64 τ.length) w:=by
 obtain⟨es,h1,h2⟩:=h.map;rw[h1.len underlying159 ty];have:Maps.size (.map es:DataW Value)=τ.length:=by
  show es.length=_
  rw[h2.length_eq];simp[ents]
 rw[this]
theorem bG.made(w:World):bG (w.alloc (.map #[] 0)) w.heap.size []:=
 ⟨⟨[],World.ownsMap_made w _ _ _,List.Perm.nil⟩,λ_ h=>(by cases h),λ_ h=>(by cases h),by simp⟩
theorem bG.put{w:World}{m:Nat}{τ:List Tr}(h:bG w m τ)(hl:τ.length<=1000){q:Tr}(hx:q.1<=1000)(hq:q.1∉τ.map (·.1))(hv:aQ w q.2.2.1 q.2.2.2) :
  ∃w',(Instr.mapUpdate 159 (.map (some m)) (.int .i64 q.1) (oV q τ.length)).run prog w=.ok () w'/\bG w' m (τ++[q])/\w.grownBy w' (some m):=by
 have hnv:=h.oM;obtain⟨es,h1,h2⟩:=h.map;obtain⟨es',e1,e2,_⟩:=h1.entries fG;cases e1;obtain⟨w',hrun,hown,hg⟩:=h1.update fG underlying159 (by unfold maxLen;omega) (qY hx) (d:=.held (oV q τ.length)) (ps:=[]) rfl;have hb:=But.aA hg;have hS:∀k,some k=some m->jI w k:=λk e=>by cases e;exact hnv
 refine⟨w',hrun,⟨⟨DataW.insert (.int .i64 q.1,.held (oV q τ.length)) (es.filter λp=>!p.1.sameKey (.int .i64 q.1)),?_,?_⟩,?_,?_,?_⟩,hg⟩
 ·rw[ae9];exact hown
 ·have hfil:(es.filter λp=>!p.1.sameKey (.int .i64 q.1))=es:=by
   rw[List.filter_eq_self];intro p hp;have h0:=bG.has h2 q.1;have h3:lG τ q.1=false:=(by simp[lG,jF.2 hq]);cases hs:p.1.sameKey (.int .i64 q.1)
   ·rfl
   ·have:Maps.has (.map es) (.int .i64 q.1)=true:=am1.2 ⟨p,hp,hs⟩;rw[h0,h3]at this;cases this
  rw[hfil,Nj];refine((WideShapes.insert_perm _ _).trans (h2.cons _)).trans ?_;exact(List.perm_append_comm (l₁:=[Iu (q,τ.length)]))
 ·intro p hp;rcases af7.1 hp with hp|hp
  ·exact h.le p hp
  ·rw[ae5.1 hp];exact hx
 ·intro p hp;rcases af7.1 hp with hp|hp
  ·exact(h.Ny p hp).but hb hS
  ·rw[ae5.1 hp];exact hv.but hb hS
 ·rw[ak0,am9];refine⟨h.nodup,by simp,λa ha b hb e=>?_⟩;simp at hb;subst e;subst hb;exact hq ha
end Go.Proofs.YthcppbmkacbbiaaGreat
