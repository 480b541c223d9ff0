import Derived.Test.YthcppbmkacbbiabGreatVAQ
import Derived.Test.YthcppbmkacbbiabGreatVAO
set_option linter.unusedSimpArgs false
set_option maxHeartbeats 4000000
set_option maxRecDepth 100000
namespace Go.Proofs.YthcppbmkacbbiabGreat
open Go.Proofs.Tryz
section
open Go.RowKit Go.Maps Go.WideMaps
open Sat (View Rule og dN)
structure But(S:Nat->Prop)(w w':World):Prop where
 os:w'.os=w.os
 tape:w'.tape=w.tape
 output:w'.output=w.output
 size:w.heap.size<=w'.heap.size
 block:∀k,k<w.heap.size->¬S k->w'.heap[k]?=w.heap[k]?
theorem But.refl(S:Nat->Prop)(w:World):But S w w:=⟨rfl,rfl,rfl,an2 _,λ_ _ _=>rfl⟩
theorem But.trans{S:Nat->Prop}{a b c:World}(h:But S a b)(k:But S b c):But S a c:=
 ⟨k.os.trans h.os,k.tape.trans h.tape,k.output.trans h.output,ap3 h.size k.size,λi hi hn=>(k.block i (ap2 hi h.size) hn).trans (h.block i hi hn)⟩
theorem But.mono{S T:Nat->Prop}{a b:World}(h:But S a b)(hS:∀k,k<a.heap.size->S k->T k):But T a b:=
 ⟨h.os,h.tape,h.output,h.size,λk hk hn=>h.block k hk (λe=>hn (hS k hk e))⟩
theorem But.aC{row:Option Nat}{a b:World}(h:a.grownBy b row):But (λk=>some k=row) a b:=
 ⟨h.os,h.tape,h.output,h.size,λk hk hn=>h.block k hk hn⟩
theorem But.of_below{a b:World}(h:Below a.heap.size a b)(S:Nat->Prop):But S a b:=
 ⟨h.os,h.tape,h.output,h.size,λk hk _=>h.block k hk⟩
theorem But.below{S:Nat->Prop}{a b:World}(h:But S a b){n:Nat}(hn:n<=a.heap.size)(hS:∀k,k<n->¬S k):Below n a b:=
 ⟨h.os,h.tape,h.output,h.size,λk hk=>h.block k O (hS k hk)⟩
theorem But.then{S T:Nat->Prop}{a b c:World}(h:But S a b)(k:But T b c)(hT:∀i,i<a.heap.size->T i->S i):But S a c:=
 ⟨k.os.trans h.os,k.tape.trans h.tape,k.output.trans h.output,ap3 h.size k.size,λi hi hn=>(k.block i (ap2 hi h.size) (λe=>hn (hT i hi e))).trans (h.block i hi hn)⟩
def bQ(w:World)(v:Value)(r:Rule):Prop:=
 (r=[]/\v=.slice none 0 0)\/∃g cap cur x,v=Ac g 0 r.length cap/\w.heap[g]?=some (.cells cur 207 x)/\r≠[]/\
  ∀i (hi:i<r.length),cur[i*2]?=some (A r[i].1)/\cur[i*2+1]?=some (.bool r[i].2)
def o9(w:World)(k:Nat):Prop:=∀cur x,w.heap[k]?≠some (.cells cur 207 x)
theorem bQ.but{S:Nat->Prop}{w w':World}{v:Value}{r:Rule}(h:bQ w v r)(hb:But S w w')(hS:∀k,S k->o9 w k):bQ w' v r:=by
 obtain h|⟨g,cap,cur,x,I,M,h3⟩:=h
 ·exact Or.inl h
 ·have hlt:g<w.heap.size:=(an0.1 M).1;exact Or.inr ⟨g,cap,cur,x,I,(hb.block g hlt (λe=>hS g e cur x M)).trans M,h3⟩
theorem bQ.len{w:World}{v:Value}{r:Rule}(h:bQ w v r):∃p cap,v=.slice p r.length cap:=by
 obtain⟨rfl,rfl⟩|⟨g,cap,cur,x,I,M,h3⟩:=h
 ·exact⟨_,_,rfl⟩
 ·exact⟨_,_,I⟩
def xB(w:World)(b:Nat)(U:Nat)(rv ov:Value)(tp:List UInt8)(m:Option Nat):Prop:=
 w.heap[b]?=some (.cells #[A U,rv,ov,.string ⟨tp.toArray⟩,.map m] 137 (0,0))
theorem xB.lt{w:World}{b U:Nat}{rv ov:Value}{tp:List UInt8}{m:Option Nat}(h:xB w b U rv ov tp m):b<w.heap.size:=(an0.1 h).1
theorem xB.kept{w w':World}{b U:Nat}{rv ov:Value}{tp:List UInt8}{m:Option Nat}(h:xB w b U rv ov tp m)(hb:w'.heap[b]?=w.heap[b]?):xB w' b U rv ov tp m:=hb.trans h
theorem xB.xG{w:World}{b U:Nat}{rv ov:Value}{tp:List UInt8}{m:Option Nat}(h:xB w b U rv ov tp m):o9 w b:=by
 intro cur y e;have q:=h.symm.trans e;simp at q
theorem cell_of{w:World}{b:Nat}{cur:Array Value}{t:TypeId}{x:Nat×Nat}(h:w.heap[b]?=some (.cells cur t x))(i:Nat):w.cell? (J b i)=cur[i]?:=by
 simp[World.cell?,h]
theorem xB.cells{w:World}{b U:Nat}{rv ov:Value}{tp:List UInt8}{m:Option Nat}(h:xB w b U rv ov tp m) :
  w.cell? (J b 0)=some (A U)/\w.cell? (J b 1)=some rv/\w.cell? (J b 2)=some ov/\w.cell? (J b 3)=some (.string ⟨tp.toArray⟩)/\w.cell? (J b 4)=some (.map m):=by
 refine⟨?_,?_,?_,?_,?_⟩<;>(rw[cell_of h];rfl)
theorem xB.thaw{w:World}{b U:Nat}{rv ov:Value}{tp:List UInt8}{m:Option Nat}(h:xB w b U rv ov tp m)(i:Nat):w.frozen? (J b i)=false:=by
 unfold xB at h;simp[World.frozen?,h]
theorem xB.mk{w:World}{b U:Nat}{rv ov:Value}{tp:List UInt8}{m:Option Nat}(h:w.heap[b]?=some (.cells #[A U,rv,ov,.string ⟨tp.toArray⟩,.map m] 137 (0,0))):xB w b U rv ov tp m:=h
theorem xB.out{w:World}{b U:Nat}{rv ov:Value}{tp:List UInt8}{m:Option Nat}(h:xB w b U rv ov tp m):w.heap[b]?=some (.cells #[A U,rv,ov,.string ⟨tp.toArray⟩,.map m] 137 (0,0)):=h
theorem But.setCell{S:Nat->Prop}{a b:World}(h:But S a b){p:Addr}(hp:p.block<a.heap.size->S p.block)(u:Value):But S a (b.setCell p u):=
 ⟨h.os,h.tape,h.output,ap3 h.size (by simp[World.setCell]),λk hk hn=>by
  have e:k≠p.block:=λe=>hn (by subst e;exact hp hk);rw[ao9 _ _ _ _ e];exact h.block k hk hn⟩
theorem heap_setCell_same{w:World}{b i:Nat}{cur:Array Value}{t:TypeId}{x:Nat×Nat}{u:Value}(h:w.heap[b]?=some (.cells cur t x)):(w.setCell (J b i) u).heap[b]?=some (.cells (cur.setIfInBounds i u) t x):=by
 simp[World.setCell,aA3,h]
def dg:List UInt8->Nat
 |[]=>0
 |c::_=>c.toNat-48
def Hl(tp:List UInt8):Prop:=∀c∈tp,48<=c.toNat/\c.toNat<=57
theorem Oc(w:World)(b U:Nat)(rv ov:Value)(tp:List UInt8)(m:Option Nat)(h:xB w b U rv ov tp m)(hd:Hl tp) :
  Calls prog 118 #[Aa b 0] w λe w'=>e=.returned (A (dg tp))/\xB w' b U rv ov tp.tail m/\But (λk=>k=b) w w':=by
 obtain⟨c0,c1,c2,c3,c4⟩:=h.cells;have H:=F h;have hz:=h.thaw 3;cases tp with
 |nil=>
  go_in
  go_wp2_with fail
  go_ret
  exact⟨rfl,Z H,But.refl _ _⟩
 |cons c tp=>
  go_in
  go_wp2_with fail
  go_ret
  have h:=Z H;refine⟨jM ?_,?_,But.setCell (S:=λk=>k=b) (But.refl _ _) (λ_=>rfl) _⟩
  ·have:=hd c R
   show(((c.toNat:Nat):Int)-48)%256=((c.toNat-48:Nat):Int)
   omega
  ·refine xB.mk ?_;rw[heap_setCell_same h.out]
   congr 2
   simp only[List.setIfInBounds_toArray,List.set_cons_zero,List.set_cons_succ,List.tail_cons]
   congr 5
   have e:(⟨(c::tp).toArray⟩:ByteArray).extract 1 (tp.length+1)=⟨tp.toArray⟩:=by
    apply ByteArray.ext;simp
   rw[e]
abbrev Tr:Type:=Nat×Bool×Value×Rule
def ES(v:Value):Option (DataW Value×List MemPlace):=some (.held v,[])
def xP(q:Tr)(k:Nat):Value:=.agg #[.bool q.2.1,A k,q.2.2.1]
def WU(q:Tr×Nat):Lit×DataW Value:=(.int .i64 q.1.1,.held (xP q.1 q.2))
def ents(τ:List Tr):List (Lit×DataW Value):=τ.zipIdx.map WU
def uS(τ:List Tr)(x:Nat):Option (Tr×Nat):=τ.zipIdx.find? λq=>q.1.1==x
def bel(τ:List Tr):dN:=λx=>(uS τ x).map λq=>(q.1.2.1,q.2,q.1.2.2.2)
def Ez(τ:List Tr)(x:Nat):Value:=match uS τ x with
 |some q=>xP q.1 q.2
 |none=>.agg #[.bool false,A 0,.slice none 0 0]
def sS(τ:List Tr)(x:Nat):Bool:=(uS τ x).isSome
structure dJ(w:World)(m:Nat)(τ:List Tr):Prop where
 map:∃es,w.ownsMap prog 3 ES m τ.length (.map es)/\es.Perm (ents τ)
 le:∀q∈τ,q.1<=1000
 by_:∀q∈τ,bQ w q.2.2.1 q.2.2.2
 nodup:(τ.map (·.1)).Nodup
theorem dJ.lt{w:World}{m:Nat}{τ:List Tr}(h:dJ w m τ):m<w.heap.size:=by
 obtain⟨es,I,_⟩:=h.map;exact I.lt
theorem dJ.xG{w:World}{m:Nat}{τ:List Tr}(h:dJ w m τ):o9 w m:=by
 obtain⟨es,⟨_,_,I,_⟩,_⟩:=h.map;intro cur x e;rw[I]at e;cases e
theorem dJ.but{S:Nat->Prop}{w w':World}{m:Nat}{τ:List Tr}(h:dJ w m τ)(hb:But S w w')(hS:∀k,S k->o9 w k)(hm:¬S m):dJ w' m τ:=by
 refine⟨?_,h.le,λq hq=>(h.by_ q hq).but hb hS,h.nodup⟩;have hlt:=h.lt;obtain⟨es,⟨e1,c1,I,M⟩,h3⟩:=h.map;exact⟨es,⟨e1,c1,(hb.block m hlt hm).trans I,M⟩,h3⟩
theorem aaU(τ:List Tr)(q:Tr):ents (τ++[q])=ents τ++[WU (q,τ.length)]:=by
 simp[ents,List.zipIdx_append]
theorem J7{τ:List Tr}{q:Tr}{x:Nat}(h:x≠q.1):uS (τ++[q]) x=uS τ x:=by
 have e:(q.1==x)=false:=anf
 simp[uS,List.zipIdx_append,List.find?_append,e]
theorem MO{τ:List Tr}{q:Tr}(h:q.1∉τ.map (·.1)):uS (τ++[q]) q.1=some (q,τ.length):=by
 have e:List.find? (λp:Tr×Nat=>p.1.1==q.1) τ.zipIdx=none:=by
  rw[aC5];intro p hp;have:=(aC0 hp).2.2;simp only[beq_iff_eq];intro e;refine h (ap6.2 ⟨p.1,?_,e⟩);rw[this];simp
 simp[uS,List.zipIdx_append,List.find?_append,e]
theorem Ul{τ:List Tr}{q:Tr}(h:q.1∉τ.map (·.1)):bel (τ++[q])=Sat.add (bel τ) q.1 (q.2.1,τ.length,q.2.2.2):=by
 funext x;by_cases e:x=q.1
 ·subst e;rw[Sat.add_same];simp[bel,MO h]
 ·rw[Sat.eG _ e];simp[bel,J7 e]
theorem fV{τ:List Tr}{x:Nat}{q:Tr}{k:Nat}(h:uS τ x=some (q,k)):q.1=x/\∃hk:k<τ.length,τ[k]=q:=by
 have I:=List.find?_some h;have M:=List.mem_of_find?_eq_some h;have h3:=aC0 M;refine⟨by simpa using I,by have:=h3.2.1;omega,?_⟩;simpa using h3.2.2.symm
theorem oW{τ:List Tr}{x:Nat}:uS τ x=none↔x∉τ.map (·.1):=by
 constructor
 ·intro h hx;obtain⟨q,hq,rfl⟩:=ap6.1 hx;obtain⟨k,hk,e⟩:=ar6 hq;have I:=aC5.1 h (q,k) (by rw[List.mk_mem_zipIdx_iff_getElem?];rw[an3 hk,e]);simp at I
 ·intro h;unfold uS;rw[aC5];intro p hp;have:=(aC0 hp).2.2;simp only[beq_iff_eq];intro e;refine h (ap6.2 ⟨p.1,?_,e⟩);rw[this];simp
theorem nU{τ:List Tr}(hn:(τ.map (·.1)).Nodup){k:Nat}(hk:k<τ.length):uS τ τ[k].1=some (τ[k],k):=by
 cases e:uS τ τ[k].1 with
 |none=>
  exact absurd (ap6.2 ⟨τ[k],an5 hk,rfl⟩) (oW.1 e)
 |some q=>
  obtain⟨q,j⟩:=q;obtain⟨I,hj,M⟩:=fV e;subst M;have:=(List.getElem?_inj (l:=τ.map (λq=>q.1)) (i:=j) (j:=k) (by simpa using hj) hn).1 (by simp[hj,hk,I]);subst this;rfl
theorem ah1{τ:List Tr}{x:Nat}{b:og}(h:bel τ x=some b):b.2.1<τ.length:=by
 unfold bel at h;cases e:uS τ x with
 |none=>rw[e]at h;cases h
 |some q=>
  rw[e]at h;obtain⟨q,k⟩:=q;cases h;exact(fV e).2.1
theorem KC{τ:List Tr}{x:Nat}:bel τ x=none↔x∉τ.map (·.1):=by
 rw[<-oW];simp[bel]
theorem uV{τ:List Tr}(hn:(τ.map (·.1)).Nodup)(k:Nat):bel (τ.take k)=Sat.before (bel τ) k:=by
 funext x;have hn':((τ.take k).map (·.1)).Nodup:=by rw[List.map_take];exact hn.sublist (List.take_sublist _ _)
 cases e:bel (τ.take k) x with
 |none=>
  have I:=KC.1 e;unfold Sat.before;cases e2:bel τ x with
  |none=>rfl
  |some b=>
   simp only;by_cases hb:b.2.1<k
   ·exfalso;unfold bel at e2;cases e3:uS τ x with
    |none=>rw[e3]at e2;cases e2
    |some q=>
     rw[e3]at e2;obtain⟨q,j⟩:=q;cases e2;obtain⟨M,hj,h3⟩:=fV e3;refine I (ap6.2 ⟨q,?_,M⟩);rw[<-h3];have TF:j<k:=hb;have:j<(τ.take k).length:=anf;have e4:(τ.take k)[j]=τ[j]:=R;rw[<-e4];exact an5 _
   ·rw[an8 hb]
 |some b=>
  symm;rw[Sat.fB];have hl:=ah1 e;simp at hl;unfold bel at e;cases e3:uS (τ.take k) x with
  |none=>rw[e3]at e;cases e
  |some q=>
   rw[e3]at e;obtain⟨q,j⟩:=q;cases e;obtain⟨M,hj,h3⟩:=fV e3;have nR:j<τ.length/\j<k:=(by simp at hj;omega);have h4:τ[j]=q:=(by rw[<-h3];simp);refine⟨?_,nR.2⟩;have:=nU hn nR.1;rw[h4,M]at this;simp[bel,this]
theorem atKey_mem:∀{es:List (Lit×DataW Value)},es.Pairwise (λp q=>p.1≠q.1)->∀{x:Nat} {d:DataW Value},(.int .i64 x,d)∈es->∀z,(DataW.map es).atKey (.int .i64 x) z=d
 |[],_,_,_,h,_=>by cases h
 |p::es,hp,x,d,h,z=>by
  have hp':=List.pairwise_cons.1 hp;have self:(Lit.int .i64 x).sameKey (Lit.int .i64 x)=true:=by simp[Lit.sameKey]
  obtain e|h:=ar9.1 h
  ·subst e;simp only[DataW.atKey];rw[List.find?_cons_of_pos (by exact self)]
  ·have bg:=hp'.1 _ h;have e:p.1.sameKey (.int .i64 x)=false:=by
    cases hs:p.1.sameKey (.int .i64 x)
    ·rfl
    ·exact absurd (WideAt.sameKey_eq hs) bg
   have ih:=atKey_mem hp'.2 h z;simp only[DataW.atKey]at ih ⊢;rw[List.find?_cons_of_neg (by rw[e];simp)];exact ih
theorem abB(w:World):(zeroValue 215).run prog w=.ok (.agg #[.bool false,A 0,.slice none 0 0]) w:=by kernel_rfl
theorem dJ.has{τ:List Tr}{es:List (Lit×DataW Value)}(hp:es.Perm (ents τ))(x:Nat):Maps.has (.map es) (.int .i64 x)=sS τ x:=by
 have key:Maps.has (.map es) (.int .i64 x)=true↔sS τ x=true:=by
  constructor
  ·intro I;obtain⟨p,Ig,uZ⟩:=ay4.1 I;have hp3:=hp.mem_iff.1 Ig;obtain⟨⟨q,k⟩,hq,rfl⟩:=ap6.1 hp3;have e:=WideAt.sameKey_eq uZ;have e2:q.1=x:=(by simp[WU]at e;omega);cases e3:uS τ x with
   |none=>
    refine absurd ?_ (oW.1 e3);have:=(aC0 hq).2.2;refine ap6.2 ⟨q,?_,e2⟩;rw[this];simp
   |some _=>simp[sS,e3]
  ·intro I;cases e3:uS τ x with
   |none=>simp[sS,e3]at I
   |some q=>
    obtain⟨q,k⟩:=q;obtain⟨M,hk,h3⟩:=fV e3;refine ay4.2 ⟨WU (q,k),hp.mem_iff.2 (ap6.2 ⟨(q,k),?_,rfl⟩),?_⟩
    ·rw[List.mk_mem_zipIdx_iff_getElem?,an3 hk,h3]
    ·subst M;simp[WU,Lit.sameKey]
 cases I:Maps.has (.map es) (.int .i64 x)<;>cases M:sS τ x<;>simp_all
theorem dJ.atKey{τ:List Tr}{es:List (Lit×DataW Value)}(hp:es.Perm (ents τ))(hd:es.Pairwise (λp q=>p.1≠q.1))(x:Nat) :
  (DataW.map es).atKey (.int .i64 x) (.held (.agg #[.bool false,.int .i64 0,.slice none 0 0]))=.held (Ez τ x):=by
 cases e3:uS τ x with
 |none=>
  have h0:=dJ.has hp x;have I:Maps.has (.map es) (.int .i64 x)=false:=by rw[h0];simp[sS,e3]
  have M:(es.find? λp=>p.1.sameKey (.int .i64 x))=none:=by
   rw[aC5];intro p Ig uZ;have:Maps.has (.map es) (.int .i64 x)=true:=ay4.2 ⟨p,Ig,uZ⟩;rw[I]at this;cases this
  simp only[DataW.atKey];rw[M];simp[Ez,e3]
 |some q=>
  obtain⟨q,k⟩:=q;obtain⟨M,hk,h3⟩:=fV e3;have:Ez τ x=xP q k:=by simp[Ez,e3]
  rw[this];refine atKey_mem hd (hp.mem_iff.2 (ap6.2 ⟨(q,k),?_,?_⟩)) _
  ·rw[List.mk_mem_zipIdx_iff_getElem?,an3 hk,h3]
  ·subst M;rfl
theorem dJ.look{w:World}{m:Nat}{τ:List Tr}(h:dJ w m τ){x:Nat}(hx:x<=1000):(Instr.lookup 128 (.map (some m)) (A x) true).run prog w=.ok (.tuple #[Ez τ x,.bool (sS τ x)]) w:=by
 obtain⟨es,I,M⟩:=h.map;obtain⟨es',e1,e2,_⟩:=I.entries iO;cases e1;obtain⟨v,ps,iW,hv⟩:=I.look_ok iO underlying128 (abB w) (zd:=.held (.agg #[.bool false,A 0,.slice none 0 0])) (zp:=[]) rfl (yH hx);rw[dJ.atKey M e2 x]at hv;cases hv;rw[iW,dJ.has M x]
theorem dJ.look1{w:World}{m:Nat}{τ:List Tr}(h:dJ w m τ){x:Nat}(hx:x<=1000):(Instr.lookup 128 (.map (some m)) (A x) false).run prog w=.ok (Ez τ x) w:=by
 obtain⟨es,I,M⟩:=h.map;obtain⟨es',e1,e2,_⟩:=I.entries iO;cases e1;obtain⟨v,ps,iW,hv⟩:=I.lookup iO underlying128 (abB w) (zd:=.held (.agg #[.bool false,A 0,.slice none 0 0])) (zp:=[]) rfl (yH hx);rw[dJ.atKey M e2 x]at hv;cases hv;exact iW
theorem dJ.len{w:World}{m:Nat}{τ:List Tr}(h:dJ w m τ)(ty:TypeId):(Builtin.len_ #[128] ty #[.map (some m)]).run prog w=.ok (A τ.length) w:=by
 obtain⟨es,I,M⟩:=h.map;rw[I.len underlying128 ty];have:Maps.size (.map es:DataW Value)=τ.length:=by
  show es.length=_
  rw[M.length_eq];simp[ents]
 rw[this]
theorem dJ.made(w:World):dJ (w.alloc (.map #[] 0)) w.heap.size []:=
 ⟨⟨[],aB6 w _ _ _,List.Perm.nil⟩,λ_ h=>(by cases h),λ_ h=>(by cases h),R⟩
theorem dJ.put{w:World}{m:Nat}{τ:List Tr}(h:dJ w m τ)(hl:τ.length<=1000){q:Tr}(hx:q.1<=1000)(hq:q.1∉τ.map (·.1))(hv:bQ w q.2.2.1 q.2.2.2) :
  ∃w',(Instr.mapUpdate 128 (.map (some m)) (A q.1) (xP q τ.length)).run prog w=.ok () w'/\dJ w' m (τ++[q])/\w.grownBy w' (some m):=by
 have hnv:=h.xG;obtain⟨es,I,M⟩:=h.map;obtain⟨es',e1,e2,_⟩:=I.entries iO;cases e1;obtain⟨w',iW,aH,hg⟩:=I.update iO underlying128 anj (yH hx) (d:=.held (xP q τ.length)) (ps:=[]) rfl;have hb:=But.aC hg;have hS:∀k,some k=some m->o9 w k:=λk e=>by cases e;exact hnv
 refine⟨w',iW,⟨⟨DataW.insert (.int .i64 q.1,.held (xP q τ.length)) (es.filter λp=>!p.1.sameKey (.int .i64 q.1)),?_,?_⟩,?_,?_,?_⟩,hg⟩
 ·rw[ap4];exact aH
 ·have alv:(es.filter λp=>!p.1.sameKey (.int .i64 q.1))=es:=by
   rw[List.filter_eq_self];intro p hp;have h0:=dJ.has M q.1;have h3:sS τ q.1=false:=(by simp[sS,oW.2 hq]);cases hs:p.1.sameKey (.int .i64 q.1)
   ·rfl
   ·have:Maps.has (.map es) (.int .i64 q.1)=true:=ay4.2 ⟨p,hp,hs⟩;rw[h0,h3]at this;cases this
  rw[alv,aaU];refine((WideShapes.insert_perm _ _).trans (M.cons _)).trans ?_;exact(List.perm_append_comm (l₁:=[WU (q,τ.length)]))
 ·intro p hp;obtain hp|hp:=aq7.1 hp
  ·exact h.le p hp
  ·rw[ap8.1 hp];exact hx
 ·intro p hp;obtain hp|hp:=aq7.1 hp
  ·exact(h.by_ p hp).but hb hS
  ·rw[ap8.1 hp];exact hv.but hb hS
 ·rw[au0,az1];refine⟨h.nodup,R,λa ha b hb e=>?_⟩;simp at hb;subst e;subst hb;exact hq ha
theorem Gy(w:World)(b U:Nat)(rv ov:Value)(tp:List UInt8)(m:Nat)(τ:List Tr)(q:Tr)(h:xB w b U rv ov tp (some m))(hB:dJ w m τ)(hl:τ.length<=1000)(hx:q.1<=1000)(hq:q.1∉τ.map (·.1))(hv:bQ w q.2.2.1 q.2.2.2) :
  Calls prog 156 #[Aa b 0,.agg #[A q.1,.bool q.2.1],q.2.2.1] w λe w'=>(∃v,e=.returned v)/\dJ w' m (τ++[q])/\w.grownBy w' (some m):=by
 obtain⟨x,i,v,r⟩:=q;obtain⟨rp,rc,hvr⟩:=hv.len;simp only at hvr;subst hvr;obtain⟨W1,dO⟩:∃W1,(w.alloc (.cells #[A x,.bool i] 207)).drew=W1:=⟨_,rfl⟩;have Ql:w.grownBy (w.alloc (.cells #[A x,.bool i] 207)) none:=an1 _ _ none;have bG:w.grownBy W1 none:=by rw[<-dO];exact Ql.trans ⟨rfl,rfl,rfl,an2 _,λ_ _ _=>rfl⟩
 have iD:=But.aC bG;have ny:∀k,some k=none->o9 w k:=λk e=>by cases e
 have NZ:dJ W1 m τ:=hB.but iD ny R;have I:xB W1 b U rv ov tp (some m):=h.kept (bG.block b h.lt R);obtain⟨c0,c1,c2,c3,c4⟩:=I.cells;have k0:W1.cell? (J w.heap.size 0)=some (A x):=by rw[<-dO];simp[go_sem]
 have k1:W1.cell? (J w.heap.size 1)=some (.bool i):=by rw[<-dO];simp[go_sem]
 have hlen:=NZ.len 3;obtain⟨w2,iW,BQ,dh⟩:=NZ.put (q:=(x,i,.slice rp r.length rc,r)) hl hx hq (hv.but iD ny);have Lu:=F BQ;have HG2:=F ((bG.but (some m)).trans dh)
 go_in
 go_wp2_with fail
 refine wp_region_any rfl (iI (S:=λW'=>W'=W1) (z:=15) _ _ _ _ ?_);have aA:W1=W1:=rfl;simp only[ao5,ao1,ap0,Nat.reduceAdd,an7,an6,ao6,ao8,ao7];change wpAnyL prog .any _ _ _ _ _ _ _ (w.alloc (.cells #[A x,.bool i] 207)).drew;rw[dO];refine tL 0 (Aa b 0) (λw' hS=>?_) aA ?_
 ·subst hS;go_simp
 simp only[aF];refine tL 1 (Aa b 0) (λw' hS=>?_) aA ?_
 ·subst hS;go_simp
 simp only[aF];refine tL 2 (Aa b 4) (λw' hS=>?_) aA ?_
 ·subst hS;go_simp
 simp only[aF];refine tL 3 (.map (some m)) (λw' hS=>?_) aA ?_
 ·subst hS;go_simp
 simp only[aF];refine tL 4 (Aa w.heap.size 0) (λw' hS=>?_) aA ?_
 ·subst hS;go_simp
 simp only[aF];refine tL 5 (A x) (λw' hS=>?_) aA ?_
 ·subst hS;go_simp
 simp only[aF];refine tL 6 (Aa w.heap.size 1) (λw' hS=>?_) aA ?_
 ·subst hS;go_simp
 simp only[aF];refine tL 7 (.bool i) (λw' hS=>?_) aA ?_
 ·subst hS;go_simp
 simp only[aF];refine tL 8 (Aa b 0) (λw' hS=>?_) aA ?_
 ·subst hS;go_simp
 simp only[aF];refine tL 9 (Aa b 0) (λw' hS=>?_) aA ?_
 ·subst hS;go_simp
 simp only[aF];refine tL 10 (Aa b 4) (λw' hS=>?_) aA ?_
 ·subst hS;go_simp
 simp only[aF];refine tL 11 (.map (some m)) (λw' hS=>?_) aA ?_
 ·subst hS;go_simp
 simp only[aF];refine tL 12 (A τ.length) (λw' hS=>?_) aA ?_
 ·subst hS;simp[execOp,resolve,invoke,builtin,hlen,Result.andThen,go_sem]
 simp only[aF];refine tL 13 (.slice rp r.length rc) (λw' hS=>?_) aA ?_
 ·subst hS;go_simp
 simp only[aF];refine tL 14 (.agg #[.bool i,A τ.length,.slice rp r.length rc]) (λw' hS=>?_) aA ?_
 ·subst hS;go_simp
 simp only[aF];refine oL 15 (λK hK=>?_);have amB:(Instr.mapUpdate 128 (.map (some m)) (A x) (.agg #[.bool i,A τ.length,.slice rp r.length rc])).run prog W1=.ok () w2:=iW;go_simp;refine hK.out _ _ (λh=>absurd rfl h) (jh (by kernel_rfl) ?_ _)
 go_end0
 exact⟨⟨_,rfl⟩,Z Lu,Z HG2⟩
def unk(τ:List Tr)(v:View):Bool:=!sS τ v.1
def QZ(τ:List Tr)(v:View):Bool:=match uS τ v.1 with
 |some q=>q.1.2.1==v.2
 |none=>false
def gQ(τ:List Tr)(r:Rule):View:=(r.filter (unk τ)).getLastD (0,false)
theorem VD{τ:List Tr}{r:Rule}{k:Nat}(hk:k<r.length):gQ τ (r.take (k+1))=if unk τ r[k]then r[k]else gQ τ (r.take k):=by
 unfold gQ;rw[aq3,an3 hk,ay6];by_cases h:unk τ r[k]=true<;>simp[h]
theorem aa0{τ:List Tr}{r:Rule}{k:Nat}(hk:k<r.length):((r.take (k+1)).filter (unk τ)).length=((r.take k).filter (unk τ)).length+if unk τ r[k]then 1 else 0:=by
 rw[aq3,an3 hk,ay6];by_cases h:unk τ r[k]=true<;>simp[h]
theorem abd{α:Type}{p:α->Bool}{r:List α}{k:Nat}(hk:k<r.length):(r.take (k+1)).any p=((r.take k).any p||p r[k]):=by
 rw[aq3,an3 hk,List.any_append];simp
theorem dJ.Ny{w:World}{m:Nat}{τ:List Tr}(h:dJ w m τ)(x:Nat):∃bi bk p l c,Ez τ x=.agg #[.bool bi,A bk,.slice p l c]/\∀i,QZ τ (x,i)=(sS τ x&&(bi==i)):=by
 cases e:uS τ x with
 |none=>exact⟨false,0,none,0,0,by simp[Ez,e],λi=>by simp[QZ,sS,e]⟩
 |some q=>
  obtain⟨q,k⟩:=q;obtain⟨I,hk,M⟩:=fV e;obtain⟨p,c,h3⟩:=(h.by_ q (M▸an5 hk)).len;exact⟨q.2.1,k,p,q.2.2.2.length,c,by simp[Ez,e,xP,h3],λi=>by simp[QZ,sS,e]⟩
def opE(τ:List Tr)(r:Rule)(e:Ending):Prop:=
 (r.any (QZ τ)=true/\∃v:View,e=.returned (.tuple #[.agg #[A v.1,.bool v.2],A (-1)]))\/
 (r.any (QZ τ)=false/\e=.returned (.tuple #[.agg #[A (gQ τ r).1,.bool (gQ τ r).2],A (r.filter (unk τ)).length]))
theorem open_any(w:World)(b U:Nat)(rv ov:Value)(tp:List UInt8)(m:Nat)(τ:List Tr)(h:xB w b U rv ov tp (some m))(hB:dJ w m τ)(v:Value)(r:Rule)(hv:bQ w v r)(hr:r≠[])(JD:r.length<=1000)(hx:∀u∈r,u.1<=1000) :
  Calls prog 155 #[Aa b 0,v] w λe w'=>opE τ r e/\Ag w w':=by
 obtain⟨hv,_⟩|⟨g,cap,cur,x,rfl,hg,_,nS⟩:=hv
 ·exact absurd hv hr
 have D5:g<w.heap.size:=(an0.1 hg).1;have hc:∀W:World,Below w.heap.size w W->∀k (hk:k<r.length),W.cell? ⟨g,k*2,none⟩=some (A r[k].1)/\W.cell? ⟨g,k*2+1,none⟩=some (.bool r[k].2):=λW hW k hk=>by
  rw[hW.cell (p:=(J g _)) D5,hW.cell (p:=(J g _)) D5,cell_of hg,cell_of hg];exact nS k hk
 have Tz:∀W:World,Below w.heap.size w W->W.cell? (J b 4)=some (.map (some m)):=λW hW=>by
  rw[hW.cell (p:=(J b _)) h.lt];exact h.cells.2.2.2.2
 have af8:∀W:World,Below w.heap.size w W->∀k (hk:k<r.length),(Instr.lookup 128 (.map (some m)) (A r[k].1) true).run prog W=.ok (.tuple #[Ez τ r[k].1,.bool (sS τ r[k].1)]) W:=λW hW k hk=>
  (hB.but (But.of_below hW (λ_=>False)) (λ_ h=>h.elim) (λh=>h)).look (hx _ (an5 hk))
 have hsh:=λx=>hB.Ny x;have HSH:=F hsh;clear hsh;have HC:=F hc;have HC4:=F Tz;have HL:=F af8;have mg:=h.lt;clear hc Tz af8 nS hg hB h hx
 go_in
 go_wp2_with fail
 go_loopw [5,12] (λo i wr=>∃k:Nat,k<=r.length/\i=A k/\o=A ((r.take k).filter (unk τ)).length/\(r.take k).any (QZ τ)=false/\wr.heap[w.heap.size]?=some (.cells #[A (gQ τ (r.take k)).1,.bool (gQ τ (r.take k)).2] 207 (0,0))/\Ag w wr) (λ_ i _=>r.length-(intOf i).toNat)
 case atStart=>
  refine⟨0,ap7 _,rfl,rfl,rfl,?_,(aq1 _ _).alloc (an2 _) _⟩;rw[ap5];rfl
 case round=>
  obtain⟨k,hk,rfl,rfl,TG,pU,rQ⟩:=hrel;by_cases hlt:k<r.length
  ·have iF:(k:Int)<(r.length:Int):=O;obtain⟨d0,d1⟩:=Z HC wr rQ k hlt;have zM:=VD (τ:=τ) hlt;have lH:=aa0 (τ:=τ) hlt;have Tc:=abd (p:=QZ τ) hlt;rw[TG,Bool.false_or]at Tc;have HL1:=F zM;have HL2:=F lH;have HL3:=F Tc;have FV:=F rQ;have HLA:=F pU;clear zM lH Tc rQ pU TG;have qJ:Hid (∀W:World,Below w.heap.size w W->(Instr.lookup 128 (.map (some m)) (A r[k].1) true).run prog W=.ok (.tuple #[Ez τ r[k].1,.bool (sS τ r[k].1)]) W):=λW hW=>Z HL W hW k hlt;generalize r[k]=u at d0 d1 HL1 HL2 HL3 qJ;obtain⟨ux,ui⟩:=u;simp only at d0 d1 qJ;obtain⟨bi,bk,bp,bl,bc,hsh,Yn⟩:=Z HSH ux;rw[hsh]at qJ;have HRG:=F Yn;have hun:unk τ (ux,ui)=!sS τ ux:=rfl;rw[hun]at HL1 HL2;rw[Yn]at HL3;clear hsh Yn hun;generalize sS τ ux=ko at qJ HRG HL1 HL2 HL3
   go_wp2_with fail
   obtain⟨W1,dO⟩:∃W1,wr.alloc (.cells #[A ux,.bool ui] 207)=W1:=⟨_,rfl⟩;have hbW:Below w.heap.size w W1:=(by rw[<-dO];exact(Z FV).alloc (Z FV).size _);have Gh:W1.heap.size=wr.heap.size+1:=(by rw[<-dO];simp);have k0:W1.cell? (J wr.heap.size 0)=some (A ux):=(by rw[<-dO];simp[go_sem]);have k1:W1.cell? (J wr.heap.size 1)=some (.bool ui):=(by rw[<-dO];simp[go_sem]);have hlW:W1.heap[w.heap.size]?=some (.cells #[A (gQ τ (r.take k)).1,.bool (gQ τ (r.take k)).2] 207 (0,0)):=by
    rw[<-dO,ao3 _ _ _ (an0.1 (Z HLA)).1];exact Z HLA
   have hwl:w.heap.size<wr.heap.size:=(an0.1 (Z HLA)).1;have HLW:=F hlW;have Tz:=Z HC4 W1 hbW;have HSW:=F Gh;have aij:=F hbW;rw[dO];clear dO hlW Gh hbW HLA FV d0 d1;refine aq8 (S:=λW'=>W1.grownBy W' none) rfl ?_;have aA:W1.grownBy W1.drew none:=⟨rfl,rfl,rfl,an2 _,λ_ _ _=>rfl⟩;have hSb:Hid (∀W',W1.grownBy W' none->Below w.heap.size w W'):=λW' h=>(Z aij).grown h (Z aij).size (λk e=>by cases e);simp only[ao5,ao1,ap0,Nat.reduceAdd,an7,an6,ao6,ao8,ao7];change wpAnyH prog .any _ _ _ _ _ _ W1.drew;refine dF 0 (Aa b 0) aA ?_
   simp only[aF];refine dF 1 (Aa b 0) aA ?_
   simp only[aF];refine dF 2 (Aa b 4) aA ?_
   simp only[aF];refine tH 3 (.map (some m)) (λw' hS=>?_) aA ?_
   ·have q:=hS.cell Tz R;go_simp
   simp only[aF];refine dF 4 (Aa wr.heap.size 0) aA ?_
   simp only[aF];refine tH 5 (A ux) (λw' hS=>?_) aA ?_
   ·have q:=hS.cell k0 R;go_simp
   simp only[aF];refine tH 6 (.tuple #[.agg #[.bool bi,A bk,.slice bp bl bc],.bool ko]) (λw' hS=>?_) aA ?_
   ·have q:=Z qJ w' (Z hSb w' hS);go_simp
   simp only[aF];refine dF 7 (.tuple #[.agg #[.bool bi,A bk,.slice bp bl bc],.bool ko]) aA ?_
   simp only[aF];refine dF 8 (.agg #[.bool bi,A bk,.slice bp bl bc]) aA ?_
   simp only[aF];refine dF 9 (.bool ko) aA ?_
   simp only[aF];refine oH 10 (λK hK=>?_);go_simp;have MH:W1.grownBy (W1.alloc (.cells #[.bool false,A 0,.slice none 0 0] 215)).drew none:=(an1 _ _ none).trans ⟨rfl,rfl,rfl,an2 _,λ_ _ _=>rfl⟩;refine hK.out _ _ MH ?_;clear hK K;refine oH 11 (λK hK=>?_);go_simp;have JU:W1.grownBy (W1.alloc (.cells #[.bool bi,A bk,.slice bp bl bc] 215)).drew none:=(an1 _ _ none).trans ⟨rfl,rfl,rfl,an2 _,λ_ _ _=>rfl⟩;refine hK.out _ _ JU ?_;clear hK K;refine oH 12 (λK hK=>?_);go_simp;refine hK.out _ _ JU (ar2 (by kernel_rfl) ?_ _);clear hK K;obtain⟨W2,Il⟩:∃W2,(W1.alloc (.cells #[.bool bi,A bk,.slice bp bl bc] 215)).drew=W2:=⟨_,rfl⟩;have n0:W2.cell? (J W1.heap.size 0)=some (.bool bi):=(by rw[<-Il];simp[go_sem]);have b2:Below w.heap.size w W2:=(by rw[<-Il];exact Z hSb _ JU);have q0:W2.cell? (J wr.heap.size 0)=some (A ux):=(by rw[<-Il];exact JU.cell k0 R);have q1:W2.cell? (J wr.heap.size 1)=some (.bool ui):=(by rw[<-Il];exact JU.cell k1 R);have lH:W2.heap[w.heap.size]?=some (.cells #[A (gQ τ (r.take k)).1,.bool (gQ τ (r.take k)).2] 207 (0,0)):=by
    rw[<-Il,JU.block _ (by have:=Z HSW;omega) R];exact Z HLW
   have fz0:W2.frozen? (J w.heap.size 0)=false:=(by simp[World.frozen?,lH]);have fz1:W2.frozen? (J w.heap.size 1)=false:=(by simp[World.frozen?,lH]);have lc0:W2.cell? (J w.heap.size 0)=some (A (gQ τ (r.take k)).1):=(by rw[cell_of lH];rfl);have lc1:W2.cell? (J w.heap.size 1)=some (.bool (gQ τ (r.take k)).2):=(by rw[cell_of lH];rfl);have Lu:=F b2;have HL4:=F lH;rw[Il];clear Il aA MH JU k0 k1 Tz b2 lH;cases ko
   ·simp only[Bool.not_false,av8,Bool.false_and]at HL1 HL2 HL3
    go_wp2_with fail
    refine⟨⟨k+1,hlt,by go_num,?_,Z HL3,?_,((Z Lu).setCell (an2 _) _).setCell (an2 _) _⟩,by simp[intOf];omega⟩
    ·have yP:((r.take k).filter (unk τ)).length<=1000:=ap3 (List.length_filter_le _ _) (ap3 (List.length_take_le' _ _) JD);rw[Z HL2];congr 1;unfold wrap64;omega
    ·rw[Z HL1,heap_setCell_same (heap_setCell_same (Z HL4))];rfl
   ·simp only[Bool.not_true,ay7,az0,Bool.true_and]at HL1 HL2 HL3;cases qK:bi==ui
    ·rw[qK]at HL3;have Gq:(bi=ui)=False:=by simpa using qK
     go_wp2_with fail
     exact⟨⟨k+1,hlt,by go_num,by rw[Z HL2];rfl,Z HL3,by rw[Z HL1];exact Z HL4,Z Lu⟩,by simp[intOf];omega⟩
    ·rw[qK]at HL3;obtain rfl:bi=ui:=(by simpa using qK);clear qK;have TG:r.any (QZ τ)=true:=by
      rw[<-List.take_append_drop (k+1) r,List.any_append,Z HL3];rfl
     have HA:=F TG;clear TG
     go_wp2_with fail
     have hF:=heap_setCell_same (i:=1) (u:=.bool bi) (heap_setCell_same (i:=0) (u:=A ux) (Z HL4));have O6:=((Z Lu).setCell (p:=(J w.heap.size 0)) (an2 _) (A ux)).setCell (p:=(J w.heap.size 1)) (an2 _) (.bool bi);generalize (W2.setCell (J w.heap.size 0) (A ux)).setCell (J w.heap.size 1) (.bool bi)=WF at hF O6 ⊢;have f0:WF.cell? (J w.heap.size 0)=some (A ux):=(by rw[cell_of hF];rfl);have f1:WF.cell? (J w.heap.size 1)=some (.bool bi):=(by rw[cell_of hF];rfl);refine aq0 (v:=.tuple #[.agg #[A ux,.bool bi],A (-1)]) (by simp[results,results155,go_sem,f0,f1]) rfl ⟨Or.inl ⟨Z HA,(ux,bi),rfl⟩,O6⟩
  ·have gW:k=r.length:=O;have iF:¬(k:Int)<(r.length:Int):=O;rw[gW,ar7]at TG pU;have lc0:wr.cell? (J w.heap.size 0)=some (A (gQ τ r).1):=(by rw[cell_of pU];rfl);have lc1:wr.cell? (J w.heap.size 1)=some (.bool (gQ τ r).2):=(by rw[cell_of pU];rfl);have fz0:wr.frozen? (J w.heap.size 0)=false:=(by simp[World.frozen?,pU]);have fz1:wr.frozen? (J w.heap.size 1)=false:=(by simp[World.frozen?,pU]);have HA:=F TG;have FV:=F rQ;have hfl:(List.filter (unk τ) (r.take k)).length=(r.filter (unk τ)).length:=(by rw[gW,ar7]);rw[hfl];have HLA:=F pU;clear TG pU rQ hfl gW;generalize hlu:gQ τ r=lu at lc0 lc1 HLA;generalize hcu:(r.filter (unk τ)).length=cu;have HLU:=F hlu;have HCU:=F hcu;clear hlu hcu;obtain⟨lx,li⟩:=lu;simp only at lc0 lc1 HLA
   go_wp2_with fail
   have hF:=heap_setCell_same (i:=1) (u:=.bool li) (heap_setCell_same (i:=0) (u:=A lx) (Z HLA));have O6:=((Z FV).setCell (p:=(J w.heap.size 0)) (an2 _) (A lx)).setCell (p:=(J w.heap.size 1)) (an2 _) (.bool li);generalize (wr.setCell (J w.heap.size 0) (A lx)).setCell (J w.heap.size 1) (.bool li)=WF at hF O6 ⊢;have f0:WF.cell? (J w.heap.size 0)=some (A lx):=(by rw[cell_of hF];rfl);have f1:WF.cell? (J w.heap.size 1)=some (.bool li):=(by rw[cell_of hF];rfl);refine aq0 (v:=.tuple #[.agg #[A lx,.bool li],A cu]) (by simp[results,results155,go_sem,f0,f1]) rfl ⟨Or.inr ⟨Z HA,?_⟩,O6⟩;rw[Z HLU,Z HCU]
end
section
open au (Key)
def lY(f:Nat->Nat)(l:List (Nat×Nat)):Nat->Nat:=l.foldl (λf p=>wZ f p.1 p.2) f
theorem NG(f:Nat->Nat)(l:List (Nat×Nat))(p:Nat×Nat):lY f (l++[p])=wZ (lY f l) p.1 p.2:=by
 unfold lY;rw[az2];rfl
def rts(f:Nat->Nat)(n:Nat):Nat:=(List.range n).countP λi=>decide (f i=i)
def lX(f:Nat->Nat)(n:Nat):Prop:=∀i,i<n->f i<n/\f (f i)=f i
theorem ab1(n:Nat):lX id n:=λ_ h=>⟨h,rfl⟩
theorem lX.wZ{f:Nat->Nat}{n:Nat}(h:lX f n){i j:Nat}(hi:i<n):lX (wZ f i j) n:=by
 intro k hk;have I:=h k hk;have M:=h i hi;unfold Proofs.YthcppbmkacbbiabGreat.wZ;by_cases e:f k=f j
 ·rw[ao4 e];refine⟨M.1,?_⟩;rw[M.2];by_cases e2:f i=f j
  ·rw[ao4 e2]
  ·rw[an8 e2]
 ·rw[an8 e];refine⟨I.1,?_⟩;rw[I.2,an8 e]
theorem lX.lY{f:Nat->Nat}{n:Nat}{l:List (Nat×Nat)}:lX f n->(∀p∈l,p.1<n)->lX (lY f l) n:=by
 induction l generalizing f with
 |nil=>intro h _;exact h
 |cons p l ih=>intro h hl;exact ih (h.wZ (hl p R)) (λq hq=>hl q (by simp[hq]))
theorem DK(f:Nat->Nat)(i j k:Nat)(h:f k=f j):wZ f i j k=f i:=by unfold wZ;rw[ao4 h]
theorem uF(f:Nat->Nat)(i j k:Nat)(h:f k≠f j):wZ f i j k=f k:=by unfold wZ;rw[an8 h]
theorem afb{f:Nat->Nat}{i j a b:Nat}(h:f a=f b):wZ f i j a=wZ f i j b:=by unfold wZ;rw[h]
theorem aap(f:Nat->Nat)(i j:Nat):wZ f i j i=wZ f i j j:=by
 unfold wZ;rw[ao4 rfl];split<;>rfl
theorem Sj{l:List (Nat×Nat)}:∀{f:Nat->Nat} {a b:Nat},f a=f b->lY f l a=lY f l b:=by
 induction l with
 |nil=>intro f a b h;exact h
 |cons p l ih=>intro f a b h;exact ih (afb h)
theorem Ju{l:List (Nat×Nat)}:∀{f:Nat->Nat} {p:Nat×Nat},p∈l->lY f l p.1=lY f l p.2:=by
 induction l with
 |nil=>intro f p h;cases h
 |cons q l ih=>
  intro f p h;obtain e|h:=ar9.1 h
  ·subst e;exact Sj (l:=l) (aap f p.1 p.2)
  ·exact ih h
structure Eqv(anc:Nat->Nat->Prop):Prop where
 refl:∀a,anc a a
 symm:∀a b,anc a b->anc b a
 trans:∀a b c,anc a b->anc b c->anc a c
theorem Pz(f:Nat->Nat):Eqv (λa b=>f a=f b):=⟨λ_=>rfl,λ_ _ h=>h.symm,λ_ _ _ h k=>h.trans k⟩
theorem agL{anc:Nat->Nat->Prop}(hR:Eqv anc){f:Nat->Nat}{n i j:Nat}(hi:i<n)(hj:j<n)(h:∀a b,a<n->b<n->f a=f b->anc a b)(hij:anc i j):∀a b,a<n->b<n->wZ f i j a=wZ f i j b->anc a b:=by
 intro a b ha hb e;by_cases e1:f a=f j<;>by_cases e2:f b=f j
 ·exact h a b ha hb (e1.trans e2.symm)
 ·rw[DK _ _ _ _ e1,uF _ _ _ _ e2]at e;exact hR.trans _ _ _ (h a j ha hj e1) (hR.trans _ _ _ (hR.symm _ _ hij) (h i b hi hb e))
 ·rw[uF _ _ _ _ e1,DK _ _ _ _ e2]at e;exact hR.trans _ _ _ (h a i ha hi e) (hR.trans _ _ _ hij (h j b hj hb e2.symm))
 ·rw[uF _ _ _ _ e1,uF _ _ _ _ e2]at e;exact h a b ha hb e
theorem OQ{anc:Nat->Nat->Prop}(hR:Eqv anc){n:Nat}{l:List (Nat×Nat)}:∀{f:Nat->Nat},(∀p∈l,p.1<n/\p.2<n/\anc p.1 p.2)->(∀a b,a<n->b<n->f a=f b->anc a b)->∀a b,a<n->b<n->lY f l a=lY f l b->anc a b:=by
 induction l with
 |nil=>intro f _ h;exact h
 |cons p l ih=>
  intro f hl h;obtain⟨I,M,h3⟩:=hl p R;exact ih (λq hq=>hl q (by simp[hq])) (agL hR I M h h3)
theorem aaZ{n:Nat}{p q:Nat->Bool}(hpq:∀i,i<n->p i=true->q i=true){x:Nat}(hx:x<n)(I:p x=false)(M:q x=true):(List.range n).countP p+1<=(List.range n).countP q:=by
 induction n with
 |zero=>omega
 |succ n ih=>
  rw[aA8,List.countP_append,List.countP_append];by_cases e:x=n
  ·subst e;have hle:(List.range x).countP p<=(List.range x).countP q:=by
    apply List.countP_mono_left;intro i hi;exact hpq i (by have:=as2.1 hi;omega)
   simp[I,M];omega
  ·have:=ih (λi hi=>hpq i O) O;have hn:=hpq n O;have:([n]:List Nat).countP p<=([n]:List Nat).countP q:=by
    simp only[az7,List.countP_nil];cases hp:p n
    ·simp
    ·simp[hn hp]
   omega
theorem Hu{f:Nat->Nat}{n i j:Nat}(h:lX f n)(hi:i<n)(hj:j<n)(bg:f i≠f j):rts (wZ f i j) n+1<=rts f n:=by
 unfold rts;refine aaZ (x:=f j) (λk hk e=>?_) (h j hj).1 ?_ ?_
 ·have e:wZ f i j k=k:=by simpa using e
  have:f k=k:=by
   by_cases e2:f k=f j
   ·rw[DK _ _ _ _ e2]at e;rw[<-e]at e2;rw[(h i hi).2]at e2;exact absurd e2 bg
   ·rw[uF _ _ _ _ e2]at e;exact e
  simpa using this
 ·have:wZ f i j (f j)≠f j:=by rw[DK _ _ _ _ (h j hj).2];exact bg
  simpa using this
 ·simpa using (h j hj).2
theorem Ve{f:Nat->Nat}{n i j:Nat}(h:lX f n)(hi:i<n)(hj:j<n):rts (wZ f i j) n<=rts f n:=by
 by_cases e:f i=f j
 ·rw[yI e];exact an2 _
 ·have:=Hu h hi hj e;omega
theorem agD(f:Nat->Nat)(n:Nat):rts f n<=n:=by
 unfold rts;have:=List.countP_le_length (p:=λi=>decide (f i=i)) (l:=List.range n);simpa using this
def GI(f:Nat->Nat)(Y:Ai):Prop:=∀p∈bI (mkd f Y) Y.length,f p.1=f p.2
def Y8(anc:Nat->Nat->Prop)(Y:Ai):Prop:=
 ∀i j (hi:i<Y.length) (hj:j<Y.length),Y[i].1=Y[j].1->anc Y[i].2.1 Y[j].2.1->anc Y[i].2.2 Y[j].2.2->anc i j
theorem qM(f:Nat->Nat)(Y:Ai):GI f Y↔Y8 (λa b=>f a=f b) Y:=by
 have hA:=Dl (mkd f Y) (λi j=>f i=f j) (λ_=>rfl) (λ_ _ e=>e.symm) (λ_ _ _ e1 e2=>e1.trans e2);rw[bM]at hA;unfold GI;rw[hA];constructor
 ·intro h i j hi hj e1 e2 e3;refine h i j hi hj ?_;simp[mkd,hi,hj,e1,e2,e3]
 ·intro h i j hi hj e;simp only[mkd,as1,an3 hi,an3 hj,ay9,as4,aA7]at e;exact h i j hi hj e.1 e.2.1 e.2.2
theorem acf{anc:Nat->Nat->Prop}{f:Nat->Nat}{Y:Ai}(hR:Y8 anc Y)(ht:∀i (hi:i<Y.length),Y[i].2.1<Y.length/\Y[i].2.2<Y.length)(h:∀a b,a<Y.length->b<Y.length->f a=f b->anc a b) :
  ∀p∈bI (mkd f Y) Y.length,p.1<Y.length/\p.2<Y.length/\anc p.1 p.2:=by
 intro p hp;have hm:=(lq (mkd f Y) Y.length (by rw[bM];exact an2 _) p).1 hp;obtain⟨I,M,h3⟩:=hm;have Ig:p.1<Y.length:=O
 refine⟨Ig,I,?_⟩;have e:(mkd f Y)[p.1]'(by rw[bM];exact Ig)=(mkd f Y)[p.2]'(by rw[bM];exact I):=by
  refine(Gt (by rw[bM];exact Ig) (by rw[bM];exact I)).1 ?_;rw[M,TV _ _ (by rw[bM];exact I)]
 simp only[mkd,ax5,aA7]at e;obtain⟨a1,a2⟩:=ht p.1 Ig;obtain⟨b1,b2⟩:=ht p.2 I;exact hR p.1 p.2 Ig I e.1 (h _ _ a1 b1 e.2.1) (h _ _ a2 b2 e.2.2)
end
open Go.RowKit Go.Maps Go.WideMaps
open au (Key put RT Lp RF RP RQ)
theorem IZ{w w':World}{base b e k n:Nat}{v:Value}{xs:List Value}(h:w.ownsRow base e k v n xs)(hb:Below b w w')(hlt:w.heap.size<=b):w'.ownsRow base e k v n xs:=
 h.kept (row:=none) ⟨hb.os,hb.tape,hb.output,hb.size,λj hj _=>hb.block j (ap2 hj hlt)⟩ (by
  cases v<;>first|exact Or.inl rfl|skip
  rename_i p n c;cases p
  ·exact Or.inl rfl
  ·exact Or.inr (by simp[Value.ownBlock]))
theorem pW{w:World}{base e k n X i:Nat}{v x:Value}{xs:List Value}(h:w.ownsRow base e k v n xs)(hX:X<base):(w.setCell (J X i) x).ownsRow base e k v n xs:=by
 have hg:w.grownBy (w.setCell (J X i) x) (some X):=⟨rfl,rfl,rfl,by simp[World.setCell],λj _ hj=>ao9 _ _ _ _ (λe=>hj (by rw[e]))⟩;refine h.kept hg ?_;obtain⟨rfl,_⟩|⟨g,cap,cur,rfl,hb,_⟩:=h.2
 ·exact Or.inl rfl
 ·refine Or.inr (λe=>?_);simp only[Value.ownBlock,as4]at e;omega
section
variable (w:World) (s:ByteArray)
theorem aeN(hs:s.size<=100)(a1:Nat)(Y:Ai)(cs:Ah)(ps:Ai)(m:Nat)(HR:Hid (au.lG (pk s) (s.size+1) 0 0 [] [] []=.ok (a1,Y,cs,ps,m)))(heq:a1=s.size)(h7:Y.length<=7)(h4:cs.length<=4)
 (hnT:Y.Nodup)(hnC:cs.Nodup)(hnP:ps.Nodup)(hp:ps.length<=100)(hvT:∀x∈Y,∃l,keyOf prog 76 (bZ x)=some l)(hvC:∀x∈cs,∃l,keyOf prog 79 (mZ x)=some l)(hvP:∀x∈ps,∃l,keyOf prog 82 (bZ x)=some l) :
  Calls prog 17 #[.string s] w λe w'=>∃GT GC GP,e=.returned (.tuple #[fv GT GC GP Y.length cs.length ps.length,.int .i64 0,.int .i64 0])/\Ag w w'/\FR w' (w.heap.size+1) GT GC GP Y cs ps:=by
 have Ii:=@aC9 prog;have hb:decide ((100:Int)<(s.size:Int))=false:=anf
 go_in
 go_wp2_with fail
 refine(oV _ _ _ _ s hs (s.size+1) (start w s) 0 0 [] [] [] O O R R R O (CY w s)).mono ?_;rw[Z HR];rintro e w1 ⟨k1,rfl,I⟩
 go_wp2_with fail
 refine(YS w1 _ _ _ _ s a1 0 Y cs ps heq I).mono ?_;rintro e w2 ⟨rfl,M,k2⟩;have k3:=k1.trans k2;have r0:=jv k3 0;have r1:=jv k3 1;have r2:=jv k3 2;have q0:=gq k3 0;have q1:=gq k3 1;have q2:=gq k3 2;simp at r0 r1 r2;have c4:=M.c4;have c5:=M.c5;have c6:=M.c6;have aaF:=M.lt;have mt:=F M.mt;have mc:=F M.mc;have mp:=F M.mp;obtain⟨D,aH,eH,aX,_⟩:=M.mt;obtain⟨D2,lT,E5,aj1,_⟩:=M.mc;have xF:=F eH;have aic:=F E5;have hb7:decide ((7:Int)<(Maps.size D:Int))=false:=by rw[Z xF];simp;omega
 have sD:decide ((4:Int)<(Maps.size D2:Int))=false:=by rw[Z aic];simp;omega
 have lH:=λty=>lT.len underlying67 ty
 go_wp2_with (at_len;refine wpList_len_own _ rfl (.tmp 33) 65 rfl 76 3 underlying65 _ _ Y.length D rfl aH ?_)
 have agS:w.heap.size+5<=w2.heap.size:=by have:=k3.size;rw[vK]at this;exact this
 refine aq8 (S:=λW'=>W'.cell? (J (w.heap.size+1+1+1+1) 4)=some (.map (some (w.heap.size+1)))/\W'.cell? (J (w.heap.size+1+1+1+1) 5)=some (.map (some (w.heap.size+1+1)))/\W'.cell? (J (w.heap.size+1+1+1+1) 6)=some (.map (some (w.heap.size+1+1+1)))) rfl ?_;have aA:w2.drew.cell? (J (w.heap.size+1+1+1+1) 4)=some (.map (some (w.heap.size+1)))/\w2.drew.cell? (J (w.heap.size+1+1+1+1) 5)=some (.map (some (w.heap.size+1+1)))/\w2.drew.cell? (J (w.heap.size+1+1+1+1) 6)=some (.map (some (w.heap.size+1+1+1))):=⟨c4,c5,c6⟩;change wpAnyH prog .any _ _ _ 13 #[false,false,false,false,false,false,false,false,false,false,false,false,false] _ w2.drew;refine tH 0 (Aa (w.heap.size+1+1+1+1) 4) (λw' hS=>?_) aA ?_
 ·obtain⟨s4,s5,s6⟩:=hS;go_simp
 simp only[aF];refine tH 1 (.map (some (w.heap.size+1))) (λw' hS=>?_) aA ?_
 ·obtain⟨s4,s5,s6⟩:=hS;go_simp
 simp only[aF];refine tH 3 (Aa (w.heap.size+1+1+1+1) 5) (λw' hS=>?_) aA ?_
 ·obtain⟨s4,s5,s6⟩:=hS;go_simp
 simp only[aF];refine tH 4 (.map (some (w.heap.size+1+1))) (λw' hS=>?_) aA ?_
 ·obtain⟨s4,s5,s6⟩:=hS;go_simp
 simp only[aF];refine tH 6 (Aa (w.heap.size+1+1+1+1) 6) (λw' hS=>?_) aA ?_
 ·obtain⟨s4,s5,s6⟩:=hS;go_simp
 simp only[aF];refine tH 7 (.map (some (w.heap.size+1+1+1))) (λw' hS=>?_) aA ?_
 ·obtain⟨s4,s5,s6⟩:=hS;go_simp
 simp only[aF];refine oH 2 (λK hK=>?_);go_simp;refine(Z4 (w.heap.size+1) Y _ O hnT (by exact(Z mt).kept rfl) hvT).mono ?_;rintro e w3 ⟨GT,rfl,hGT,bT,rowT⟩;have Wv:w3.cell? (J (w.heap.size+1+1+1+1) 4)=some (.map (some (w.heap.size+1)))/\w3.cell? (J (w.heap.size+1+1+1+1) 5)=some (.map (some (w.heap.size+1+1)))/\w3.cell? (J (w.heap.size+1+1+1+1) 6)=some (.map (some (w.heap.size+1+1+1))):=⟨(bT.cell (p:=(J (w.heap.size+1+1+1+1) 4)) (an4 _ _ aA.1)).trans aA.1,(bT.cell (p:=(J (w.heap.size+1+1+1+1) 5)) (an4 _ _ aA.2.1)).trans aA.2.1,(bT.cell (p:=(J (w.heap.size+1+1+1+1) 6)) (an4 _ _ aA.2.2)).trans aA.2.2⟩;refine hK.out _ _ Wv ?_;have mc3:aT w3 79 (w.heap.size+1+1) mZ cs:=(Z mc).kept (bT.block _ (Z mc).lt);refine oH 5 (λK hK=>?_);go_simp;refine(Z5 (w.heap.size+1+1) cs w3 O hnC mc3 hvC).mono ?_;rintro e w4 ⟨GC,rfl,hGC,bC,agF⟩;have hSC:w4.cell? (J (w.heap.size+1+1+1+1) 4)=some (.map (some (w.heap.size+1)))/\w4.cell? (J (w.heap.size+1+1+1+1) 5)=some (.map (some (w.heap.size+1+1)))/\w4.cell? (J (w.heap.size+1+1+1+1) 6)=some (.map (some (w.heap.size+1+1+1))):=⟨(bC.cell (p:=(J (w.heap.size+1+1+1+1) 4)) (an4 _ _ Wv.1)).trans Wv.1,(bC.cell (p:=(J (w.heap.size+1+1+1+1) 5)) (an4 _ _ Wv.2.1)).trans Wv.2.1,(bC.cell (p:=(J (w.heap.size+1+1+1+1) 6)) (an4 _ _ Wv.2.2)).trans Wv.2.2⟩;refine hK.out _ _ hSC ?_;have mp4:aT w4 82 (w.heap.size+1+1+1) bZ ps:=(Z mp).kept ((bC.block _ (ap2 (Z mp).lt bT.size)).trans (bT.block _ (Z mp).lt));refine oH 8 (λK hK=>?_);go_simp;refine(NC (w.heap.size+1+1+1) ps w4 O hnP mp4 hvP).mono ?_;rintro e w5 ⟨GP,rfl,hGP,bP,rowP⟩;have hSP:w5.cell? (J (w.heap.size+1+1+1+1) 4)=some (.map (some (w.heap.size+1)))/\w5.cell? (J (w.heap.size+1+1+1+1) 5)=some (.map (some (w.heap.size+1+1)))/\w5.cell? (J (w.heap.size+1+1+1+1) 6)=some (.map (some (w.heap.size+1+1+1))):=⟨(bP.cell (p:=(J (w.heap.size+1+1+1+1) 4)) (an4 _ _ hSC.1)).trans hSC.1,(bP.cell (p:=(J (w.heap.size+1+1+1+1) 5)) (an4 _ _ hSC.2.1)).trans hSC.2.1,(bP.cell (p:=(J (w.heap.size+1+1+1+1) 6)) (an4 _ _ hSC.2.2)).trans hSC.2.2⟩;refine hK.out _ _ hSP ?_;have sT:=bT.size;have sC:=bC.size;have sP:=bP.size;have sT':w2.heap.size<=w3.heap.size:=sT;have AP:Below w2.heap.size w2 w5:=(⟨bT.os,bT.tape,bT.output,bT.size,bT.block⟩:Below w2.heap.size w2 w3).trans ((bC.mono sT').trans (bP.mono (ap3 sT' sC)));have r0':w5.cell? (J w.heap.size 0)=some (.slice none 0 0):=(AP.cell (p:=(J w.heap.size 0)) (by show w.heap.size<w2.heap.size;omega)).trans r0;have r1':w5.cell? (J w.heap.size 1)=some (.slice none 0 0):=(AP.cell (p:=(J w.heap.size 1)) (by show w.heap.size<w2.heap.size;omega)).trans r1;have r2':w5.cell? (J w.heap.size 2)=some (.slice none 0 0):=(AP.cell (p:=(J w.heap.size 2)) (by show w.heap.size<w2.heap.size;omega)).trans r2;have q0':w5.frozen? (J w.heap.size 0)=false:=(ar5 (AP.block _ (by show w.heap.size<w2.heap.size;omega))).trans q0;have q1':w5.frozen? (J w.heap.size 1)=false:=(ar5 (AP.block _ (by show w.heap.size<w2.heap.size;omega))).trans q1;have q2':w5.frozen? (J w.heap.size 2)=false:=(ar5 (AP.block _ (by show w.heap.size<w2.heap.size;omega))).trans q2;refine oH 9 (λK hK=>?_);go_simp;refine hK.out _ _ hSP ?_;refine oH 10 (λK hK=>?_);go_simp;have hSF:∀(a b c:Value),(((w5.setCell (J w.heap.size 0) a).setCell (J w.heap.size 1) b).setCell (J w.heap.size 2) c).cell? (J (w.heap.size+1+1+1+1) 4)=some (.map (some (w.heap.size+1)))/\
   (((w5.setCell (J w.heap.size 0) a).setCell (J w.heap.size 1) b).setCell (J w.heap.size 2) c).cell? (J (w.heap.size+1+1+1+1) 5)=some (.map (some (w.heap.size+1+1)))/\
   (((w5.setCell (J w.heap.size 0) a).setCell (J w.heap.size 1) b).setCell (J w.heap.size 2) c).cell? (J (w.heap.size+1+1+1+1) 6)=some (.map (some (w.heap.size+1+1+1))):=λa b c=>by
  have hk:∀(u:World) (i j:Nat) (x:Value),(u.setCell (J w.heap.size i) x).cell? (J (w.heap.size+1+1+1+1) j)=u.cell? (J (w.heap.size+1+1+1+1) j):=λu i j x=>an9 (ao9 _ _ _ _ (by show w.heap.size+1+1+1+1≠w.heap.size;omega));simp only[hk];exact hSP
 refine hK.out _ _ (hSF _ _ _) ?_;refine oH 11 (λK hK=>?_);go_simp;refine hK.out _ _ (hSF _ _ _) ?_;refine oH 12 (λK hK=>?_);go_simp;refine hK.out _ _ (hSF _ _ _) (ar2 (by kernel_rfl) ?_ _)
 go_wp2_with fail
 have rQ:Below w.heap.size w w5:=(uj k3).trans (AP.mono O);refine aq0 (v:=.tuple #[fv GT GC GP Y.length cs.length ps.length,.int .i64 0,.int .i64 0]) (by simp[results,results17,go_sem,fv,r0',r1',r2']) rfl ⟨GT,GC,GP,rfl,?_,?_⟩
 ·exact((rQ.setCell (an2 _) _).setCell (an2 _) _).setCell (an2 _) _
 ·have gT:w.heap.size+1<=w2.heap.size:=O
  have g3:w.heap.size+1<=w3.heap.size:=O
  have g4:w.heap.size+1<=w4.heap.size:=O
  refine⟨pW (pW (pW (fO (IZ (IZ rowT bC (an2 _)) bP (an2 _)) gT) O) O) O,
   pW (pW (pW (fO (IZ agF bP (an2 _)) g3) O) O) O,pW (pW (pW (fO rowP g4) O) O) O⟩
end
end Go.Proofs.YthcppbmkacbbiabGreat
