import Derived.Test.YthcppbmkacbbiaaGreatXAJ
import Derived.Test.YthcppbmkacbbiaaGreatXAP
set_option linter.unusedSimpArgs false
set_option maxHeartbeats 2000000
namespace Go.Proofs.YthcppbmkacbbiaaGreat
open Go.Proofs.Tryz
open Go.RowKit Go.Maps Go.WideMaps
open Sat (View Rule je bG)
structure But(S:Nat->Prop)(w w':World):Prop where
 os:w'.os=w.os
 tape:w'.tape=w.tape
 output:w'.output=w.output
 size:w.heap.size<=w'.heap.size
 block:∀k,k<w.heap.size->¬S k->w'.heap[k]?=w.heap[k]?
theorem But.refl(S:Nat->Prop)(w:World):But S w w:=⟨rfl,rfl,rfl,ab3 _,λ_ _ _=>rfl⟩
theorem But.trans{S:Nat->Prop}{a b c:World}(h:But S a b)(k:But S b c):But S a c:=
 ⟨k.os.trans h.os,k.tape.trans h.tape,k.output.trans h.output,ad6 h.size k.size,λi hi hn=>(k.block i (ac7 hi h.size) hn).trans (h.block i hi hn)⟩
theorem But.mono{S T:Nat->Prop}{a b:World}(h:But S a b)(hS:∀k,k<a.heap.size->S k->T k):But T a b:=
 ⟨h.os,h.tape,h.output,h.size,λk hk hn=>h.block k hk (λe=>hn (hS k hk e))⟩
theorem But.aA{row:Option Nat}{a b:World}(h:a.grownBy b row):But (λk=>some k=row) a b:=
 ⟨h.os,h.tape,h.output,h.size,λk hk hn=>h.block k hk hn⟩
theorem But.of_below{a b:World}(h:Below a.heap.size a b)(S:Nat->Prop):But S a b:=
 ⟨h.os,h.tape,h.output,h.size,λk hk _=>h.block k hk⟩
theorem But.below{S:Nat->Prop}{a b:World}(h:But S a b){n:Nat}(hn:n<=a.heap.size)(hS:∀k,k<n->¬S k):Below n a b:=
 ⟨h.os,h.tape,h.output,h.size,λk hk=>h.block k (by omega) (hS k hk)⟩
theorem But.then{S T:Nat->Prop}{a b c:World}(h:But S a b)(k:But T b c)(hT:∀i,i<a.heap.size->T i->S i):But S a c:=
 ⟨k.os.trans h.os,k.tape.trans h.tape,k.output.trans h.output,ad6 h.size k.size,λi hi hn=>(k.block i (ac7 hi h.size) (λe=>hn (hT i hi e))).trans (h.block i hi hn)⟩
theorem But.drew{S:Nat->Prop}{a b:World}(h:But S a b):But S a b.drew:=⟨h.os,h.tape,h.output,h.size,h.block⟩
def aP(w:World)(v:Value)(r:Rule):Prop:=
 (r=[]/\v=.slice none 0 0)\/∃g cap cur x,v=.slice (some ⟨g,0,none⟩) r.length cap/\w.heap[g]?=some (.cells cur 214 x)/\r≠[]/\
  ∀i (hi:i<r.length),cur[i*2]?=some (.int .i64 r[i].1)/\cur[i*2+1]?=some (.bool r[i].2)
def jv(w:World)(k:Nat):Prop:=∀cur x,w.heap[k]?≠some (.cells cur 214 x)
theorem aP.but{S:Nat->Prop}{w w':World}{v:Value}{r:Rule}(h:aP w v r)(hb:But S w w')(hS:∀k,S k->jv w k):aP w' v r:=by
 rcases h with h|⟨g,cap,cur,x,h1,h2,h3⟩
 ·exact Or.inl h
 ·have hlt:g<w.heap.size:=(ab1.1 h2).1;exact Or.inr ⟨g,cap,cur,x,h1,(hb.block g hlt (λe=>hS g e cur x h2)).trans h2,h3⟩
theorem aP.len{w:World}{v:Value}{r:Rule}(h:aP w v r):∃p cap,v=.slice p r.length cap:=by
 rcases h with⟨rfl,rfl⟩|⟨g,cap,cur,x,h1,h2,h3⟩
 ·exact⟨_,_,rfl⟩
 ·exact⟨_,_,h1⟩
def nN(w:World)(b:Nat)(U:Nat)(rv ov:Value)(tp:List UInt8)(m:Option Nat):Prop:=
 w.heap[b]?=some (.cells #[.int .i64 U,rv,ov,.string ⟨tp.toArray⟩,.map m] 169 (0,0))
theorem nN.lt{w:World}{b U:Nat}{rv ov:Value}{tp:List UInt8}{m:Option Nat}(h:nN w b U rv ov tp m):b<w.heap.size:=(ab1.1 h).1
theorem nN.kept{w w':World}{b U:Nat}{rv ov:Value}{tp:List UInt8}{m:Option Nat}(h:nN w b U rv ov tp m)(hb:w'.heap[b]?=w.heap[b]?):nN w' b U rv ov tp m:=hb.trans h
theorem nN.nU{w:World}{b U:Nat}{rv ov:Value}{tp:List UInt8}{m:Option Nat}(h:nN w b U rv ov tp m):jv w b:=by
 intro cur y e;have q:=h.symm.trans e;simp at q
theorem cell_of{w:World}{b:Nat}{cur:Array Value}{t:TypeId}{x:Nat×Nat}(h:w.heap[b]?=some (.cells cur t x))(i:Nat):w.cell? ⟨b,i,none⟩=cur[i]?:=by
 simp[World.cell?,h]
theorem nN.cells{w:World}{b U:Nat}{rv ov:Value}{tp:List UInt8}{m:Option Nat}(h:nN w b U rv ov tp m) :
  w.cell? ⟨b,0,none⟩=some (.int .i64 U)/\w.cell? ⟨b,1,none⟩=some rv/\w.cell? ⟨b,2,none⟩=some ov/\w.cell? ⟨b,3,none⟩=some (.string ⟨tp.toArray⟩)/\w.cell? ⟨b,4,none⟩=some (.map m):=by
 refine⟨?_,?_,?_,?_,?_⟩<;>(rw[cell_of h];rfl)
theorem nN.thaw{w:World}{b U:Nat}{rv ov:Value}{tp:List UInt8}{m:Option Nat}(h:nN w b U rv ov tp m)(i:Nat):w.frozen? ⟨b,i,none⟩=false:=by
 unfold nN at h;simp[World.frozen?,h]
theorem nN.mk{w:World}{b U:Nat}{rv ov:Value}{tp:List UInt8}{m:Option Nat}(h:w.heap[b]?=some (.cells #[.int .i64 U,rv,ov,.string ⟨tp.toArray⟩,.map m] 169 (0,0))):nN w b U rv ov tp m:=h
theorem nN.out{w:World}{b U:Nat}{rv ov:Value}{tp:List UInt8}{m:Option Nat}(h:nN w b U rv ov tp m):w.heap[b]?=some (.cells #[.int .i64 U,rv,ov,.string ⟨tp.toArray⟩,.map m] 169 (0,0)):=h
theorem But.setCell{S:Nat->Prop}{a b:World}(h:But S a b){p:Addr}(hp:p.block<a.heap.size->S p.block)(u:Value):But S a (b.setCell p u):=
 ⟨h.os,h.tape,h.output,ad6 h.size (by simp[World.setCell]),λk hk hn=>by
  have e:k≠p.block:=λe=>hn (by subst e;exact hp hk);rw[ad5 _ _ _ _ e];exact h.block k hk hn⟩
theorem heap_setCell_same{w:World}{b i:Nat}{cur:Array Value}{t:TypeId}{x:Nat×Nat}{u:Value}(h:w.heap[b]?=some (.cells cur t x)):(w.setCell ⟨b,i,none⟩ u).heap[b]?=some (.cells (cur.setIfInBounds i u) t x):=by
 simp[World.setCell,am5,h]
def dg:List UInt8->Nat
 |[]=>0
 |c::_=>c.toNat-48
def wO(tp:List UInt8):Prop:=∀c∈tp,48<=c.toNat/\c.toNat<=57
theorem AX(w:World)(b U:Nat)(rv ov:Value)(tp:List UInt8)(m:Option Nat)(h:nN w b U rv ov tp m)(hd:wO tp) :
  Calls prog 136 #[.pointer (some ⟨b,0,none⟩)] w λe w'=>e=.returned (.int .i64 (dg tp))/\nN w' b U rv ov tp.tail m/\But (λk=>k=b) w w':=by
 obtain⟨c0,c1,c2,c3,c4⟩:=h.cells;have H:=aj h;have hz:=h.thaw 3;clear h;cases tp with
 |nil=>
  go_enter func136,ntmps136
  go_wp2_with fail
  go_ret
  exact⟨rfl,ah H,But.refl _ _⟩
 |cons c tp=>
  go_enter func136,ntmps136
  go_wp2_with fail
  go_ret
  have h:=ah H;refine⟨gV ?_,?_,But.setCell (S:=λk=>k=b) (But.refl _ _) (λ_=>rfl) _⟩
  ·have:=hd c (by simp)
   show(((c.toNat:Nat):Int)-48)%256=((c.toNat-48:Nat):Int)
   omega
  ·refine nN.mk ?_;rw[heap_setCell_same h.out]
   congr 2
   simp only[List.setIfInBounds_toArray,List.set_cons_zero,List.set_cons_succ,List.tail_cons]
   congr 5
   have e:(⟨(c::tp).toArray⟩:ByteArray).extract 1 (tp.length+1)=⟨tp.toArray⟩:=by
    apply ByteArray.ext;simp
   rw[e]
abbrev Tr:Type:=Nat×Bool×Value×Rule
def uz(v:Value):Option (DataW Value×List MemPlace):=some (.held v,[])
def og(q:Tr)(k:Nat):Value:=.agg #[.bool q.2.1,.int .i64 k,q.2.2.1]
def Ig(q:Tr×Nat):Lit×DataW Value:=(.int .i64 q.1.1,.held (og q.1 q.2))
def ents(τ:List Tr):List (Lit×DataW Value):=τ.zipIdx.map Ig
def lZ(τ:List Tr)(x:Nat):Option (Tr×Nat):=τ.zipIdx.find? λq=>q.1.1==x
def bel(τ:List Tr):bG:=λx=>(lZ τ x).map λq=>(q.1.2.1,q.2,q.1.2.2.2)
def uh(τ:List Tr)(x:Nat):Value:=match lZ τ x with
 |some q=>og q.1 q.2
 |none=>.agg #[.bool false,.int .i64 0,.slice none 0 0]
def kT(τ:List Tr)(x:Nat):Bool:=(lZ τ x).isSome
structure bD(w:World)(m:Nat)(τ:List Tr):Prop where
 map:∃es,w.ownsMap prog 3 uz m τ.length (.map es)/\es.Perm (ents τ)
 le:∀q∈τ,q.1<=1000
 MW:∀q∈τ,aP w q.2.2.1 q.2.2.2
 nodup:(τ.map (·.1)).Nodup
theorem bD.lt{w:World}{m:Nat}{τ:List Tr}(h:bD w m τ):m<w.heap.size:=by
 obtain⟨es,h1,_⟩:=h.map;exact h1.lt
theorem bD.nU{w:World}{m:Nat}{τ:List Tr}(h:bD w m τ):jv w m:=by
 obtain⟨es,⟨_,_,h1,_⟩,_⟩:=h.map;intro cur x e;rw[h1]at e;cases e
theorem bD.but{S:Nat->Prop}{w w':World}{m:Nat}{τ:List Tr}(h:bD w m τ)(hb:But S w w')(hS:∀k,S k->jv w k)(hm:¬S m):bD w' m τ:=by
 refine⟨?_,h.le,λq hq=>(h.MW q hq).but hb hS,h.nodup⟩;have hlt:=h.lt;obtain⟨es,⟨e1,c1,h1,h2⟩,h3⟩:=h.map;exact⟨es,⟨e1,c1,(hb.block m hlt hm).trans h1,h2⟩,h3⟩
theorem MI(τ:List Tr)(q:Tr):ents (τ++[q])=ents τ++[Ig (q,τ.length)]:=by
 simp[ents,List.zipIdx_append]
theorem yV{τ:List Tr}{q:Tr}{x:Nat}(h:x≠q.1):lZ (τ++[q]) x=lZ τ x:=by
 have e:(q.1==x)=false:=by simp;omega
 simp[lZ,List.zipIdx_append,List.find?_append,e]
theorem zV{τ:List Tr}{q:Tr}(h:q.1∉τ.map (·.1)):lZ (τ++[q]) q.1=some (q,τ.length):=by
 have e:List.find? (λp:Tr×Nat=>p.1.1==q.1) τ.zipIdx=none:=by
  rw[ao9];intro p hp;have:=(ao2 hp).2.2;simp only[beq_iff_eq];intro e;refine h (ad9.2 ⟨p.1,?_,e⟩);rw[this];simp
 simp[lZ,List.zipIdx_append,List.find?_append,e]
theorem FB{τ:List Tr}{q:Tr}(h:q.1∉τ.map (·.1)):bel (τ++[q])=Sat.add (bel τ) q.1 (q.2.1,τ.length,q.2.2.2):=by
 funext x;by_cases e:x=q.1
 ·subst e;rw[Sat.add_same];simp[bel,zV h]
 ·rw[Sat.bK _ e];simp[bel,yV e]
theorem dH{τ:List Tr}{x:Nat}{q:Tr}{k:Nat}(h:lZ τ x=some (q,k)):q.1=x/\∃hk:k<τ.length,τ[k]=q:=by
 have h1:=List.find?_some h;have h2:=List.mem_of_find?_eq_some h;have h3:=ao2 h2;refine⟨by simpa using h1,by have:=h3.2.1;omega,?_⟩;simpa using h3.2.2.symm
theorem jq{τ:List Tr}{x:Nat}:lZ τ x=none↔x∉τ.map (·.1):=by
 constructor
 ·intro h hx;obtain⟨q,hq,rfl⟩:=ad9.1 hx;obtain⟨k,hk,e⟩:=ag2 hq;have h1:=ao9.1 h (q,k) (by rw[List.mk_mem_zipIdx_iff_getElem?];rw[ab4 hk,e]);simp at h1
 ·intro h;unfold lZ;rw[ao9];intro p hp;have:=(ao2 hp).2.2;simp only[beq_iff_eq];intro e;refine h (ad9.2 ⟨p.1,?_,e⟩);rw[this];simp
theorem jc{τ:List Tr}(hn:(τ.map (·.1)).Nodup){k:Nat}(hk:k<τ.length):lZ τ τ[k].1=some (τ[k],k):=by
 cases e:lZ τ τ[k].1 with
 |none=>
  exact absurd (ad9.2 ⟨τ[k],ab5 hk,rfl⟩) (jq.1 e)
 |some q=>
  obtain⟨q,j⟩:=q;obtain⟨h1,hj,h2⟩:=dH e;subst h2;have:=(List.getElem?_inj (l:=τ.map (λq=>q.1)) (i:=j) (j:=k) (by simpa using hj) hn).1 (by simp[hj,hk,h1]);subst this;rfl
theorem Wj{τ:List Tr}{x:Nat}{b:je}(h:bel τ x=some b):b.2.1<τ.length:=by
 unfold bel at h;cases e:lZ τ x with
 |none=>rw[e]at h;cases h
 |some q=>
  rw[e]at h;obtain⟨q,k⟩:=q;cases h;exact(dH e).2.1
theorem zu{τ:List Tr}{x:Nat}:bel τ x=none↔x∉τ.map (·.1):=by
 rw[<-jq];simp[bel]
theorem mD{τ:List Tr}(hn:(τ.map (·.1)).Nodup)(k:Nat):bel (τ.take k)=Sat.before (bel τ) k:=by
 funext x;have hn':((τ.take k).map (·.1)).Nodup:=by rw[List.map_take];exact hn.sublist (List.take_sublist _ _)
 cases e:bel (τ.take k) x with
 |none=>
  have h1:=zu.1 e;unfold Sat.before;cases e2:bel τ x with
  |none=>rfl
  |some b=>
   simp only;by_cases hb:b.2.1<k
   ·exfalso;unfold bel at e2;cases e3:lZ τ x with
    |none=>rw[e3]at e2;cases e2
    |some q=>
     rw[e3]at e2;obtain⟨q,j⟩:=q;cases e2;obtain⟨h2,hj,h3⟩:=dH e3;refine h1 (ad9.2 ⟨q,?_,h2⟩);rw[<-h3];have hb':j<k:=hb;have:j<(τ.take k).length:=(by simp;omega);have e4:(τ.take k)[j]=τ[j]:=(by simp);rw[<-e4];exact ab5 _
   ·rw[ac2 hb]
 |some b=>
  symm;rw[Sat.bY];have hl:=Wj e;simp at hl;unfold bel at e;cases e3:lZ (τ.take k) x with
  |none=>rw[e3]at e;cases e
  |some q=>
   rw[e3]at e;obtain⟨q,j⟩:=q;cases e;obtain⟨h2,hj,h3⟩:=dH e3;have hj':j<τ.length/\j<k:=(by simp at hj;omega);have h4:τ[j]=q:=(by rw[<-h3];simp);refine⟨?_,hj'.2⟩;have:=jc hn hj'.1;rw[h4,h2]at this;simp[bel,this]
theorem atKey_mem:∀{es:List (Lit×DataW Value)},es.Pairwise (λp q=>p.1≠q.1)->∀{x:Nat} {d:DataW Value},(.int .i64 x,d)∈es->∀z,(DataW.map es).atKey (.int .i64 x) z=d
 |[],_,_,_,h,_=>by cases h
 |p::es,hp,x,d,h,z=>by
  have hp':=List.pairwise_cons.1 hp;have self:(Lit.int .i64 x).sameKey (Lit.int .i64 x)=true:=by simp[Lit.sameKey]
  rcases ag1.1 h with e|h
  ·subst e;simp only[DataW.atKey];rw[List.find?_cons_of_pos (by exact self)]
  ·have hne:=hp'.1 _ h;have e:p.1.sameKey (.int .i64 x)=false:=by
    cases hs:p.1.sameKey (.int .i64 x)
    ·rfl
    ·exact absurd (WideAt.sameKey_eq hs) hne
   have ih:=atKey_mem hp'.2 h z;simp only[DataW.atKey]at ih ⊢;rw[List.find?_cons_of_neg (by rw[e];simp)];exact ih
theorem Nq(w:World):(zeroValue 229).run prog w=.ok (.agg #[.bool false,.int .i64 0,.slice none 0 0]) w:=by kernel_rfl
theorem bD.has{τ:List Tr}{es:List (Lit×DataW Value)}(hp:es.Perm (ents τ))(x:Nat):Maps.has (.map es) (.int .i64 x)=kT τ x:=by
 have key:Maps.has (.map es) (.int .i64 x)=true↔kT τ x=true:=by
  constructor
  ·intro h1;obtain⟨p,hp1,hp2⟩:=ak7.1 h1;have hp3:=hp.mem_iff.1 hp1;obtain⟨⟨q,k⟩,hq,rfl⟩:=ad9.1 hp3;have e:=WideAt.sameKey_eq hp2;have e2:q.1=x:=(by simp[Ig]at e;omega);cases e3:lZ τ x with
   |none=>
    refine absurd ?_ (jq.1 e3);have:=(ao2 hq).2.2;refine ad9.2 ⟨q,?_,e2⟩;rw[this];simp
   |some _=>simp[kT,e3]
  ·intro h1;cases e3:lZ τ x with
   |none=>simp[kT,e3]at h1
   |some q=>
    obtain⟨q,k⟩:=q;obtain⟨h2,hk,h3⟩:=dH e3;refine ak7.2 ⟨Ig (q,k),hp.mem_iff.2 (ad9.2 ⟨(q,k),?_,rfl⟩),?_⟩
    ·rw[List.mk_mem_zipIdx_iff_getElem?,ab4 hk,h3]
    ·subst h2;simp[Ig,Lit.sameKey]
 cases h1:Maps.has (.map es) (.int .i64 x)<;>cases h2:kT τ x<;>simp_all
theorem bD.atKey{τ:List Tr}{es:List (Lit×DataW Value)}(hp:es.Perm (ents τ))(hd:es.Pairwise (λp q=>p.1≠q.1))(x:Nat) :
  (DataW.map es).atKey (.int .i64 x) (.held (.agg #[.bool false,.int .i64 0,.slice none 0 0]))=.held (uh τ x):=by
 cases e3:lZ τ x with
 |none=>
  have h0:=bD.has hp x;have h1:Maps.has (.map es) (.int .i64 x)=false:=by rw[h0];simp[kT,e3]
  have h2:(es.find? λp=>p.1.sameKey (.int .i64 x))=none:=by
   rw[ao9];intro p hp1 hp2;have:Maps.has (.map es) (.int .i64 x)=true:=ak7.2 ⟨p,hp1,hp2⟩;rw[h1]at this;cases this
  simp only[DataW.atKey];rw[h2];simp[uh,e3]
 |some q=>
  obtain⟨q,k⟩:=q;obtain⟨h2,hk,h3⟩:=dH e3;have:uh τ x=og q k:=by simp[uh,e3]
  rw[this];refine atKey_mem hd (hp.mem_iff.2 (ad9.2 ⟨(q,k),?_,?_⟩)) _
  ·rw[List.mk_mem_zipIdx_iff_getElem?,ab4 hk,h3]
  ·subst h2;rfl
theorem bD.look{w:World}{m:Nat}{τ:List Tr}(h:bD w m τ){x:Nat}(hx:x<=1000):(Instr.lookup 159 (.map (some m)) (.int .i64 x) true).run prog w=.ok (.tuple #[uh τ x,.bool (kT τ x)]) w:=by
 obtain⟨es,h1,h2⟩:=h.map;obtain⟨es',e1,e2,_⟩:=h1.entries fD;cases e1;obtain⟨v,ps,hrun,hv⟩:=h1.look_ok fD underlying159 (Nq w) (zd:=.held (.agg #[.bool false,.int .i64 0,.slice none 0 0])) (zp:=[]) rfl (qJ hx);rw[bD.atKey h2 e2 x]at hv;cases hv;rw[hrun,bD.has h2 x]
theorem bD.look1{w:World}{m:Nat}{τ:List Tr}(h:bD w m τ){x:Nat}(hx:x<=1000):(Instr.lookup 159 (.map (some m)) (.int .i64 x) false).run prog w=.ok (uh τ x) w:=by
 obtain⟨es,h1,h2⟩:=h.map;obtain⟨es',e1,e2,_⟩:=h1.entries fD;cases e1;obtain⟨v,ps,hrun,hv⟩:=h1.lookup fD underlying159 (Nq w) (zd:=.held (.agg #[.bool false,.int .i64 0,.slice none 0 0])) (zp:=[]) rfl (qJ hx);rw[bD.atKey h2 e2 x]at hv;cases hv;exact hrun
theorem bD.len{w:World}{m:Nat}{τ:List Tr}(h:bD w m τ)(ty:TypeId):(Builtin.len_ #[159] ty #[.map (some m)]).run prog w=.ok (.int .i64 τ.length) w:=by
 obtain⟨es,h1,h2⟩:=h.map;rw[h1.len underlying159 ty];have:Maps.size (.map es:DataW Value)=τ.length:=by
  show es.length=_
  rw[h2.length_eq];simp[ents]
 rw[this]
theorem bD.made(w:World):bD (w.alloc (.map #[] 0)) w.heap.size []:=
 ⟨⟨[],World.ownsMap_made w _ _ _,List.Perm.nil⟩,λ_ h=>(by cases h),λ_ h=>(by cases h),by simp⟩
theorem bD.put{w:World}{m:Nat}{τ:List Tr}(h:bD w m τ)(hl:τ.length<=1000){q:Tr}(hx:q.1<=1000)(hq:q.1∉τ.map (·.1))(hv:aP w q.2.2.1 q.2.2.2) :
  ∃w',(Instr.mapUpdate 159 (.map (some m)) (.int .i64 q.1) (og q τ.length)).run prog w=.ok () w'/\bD w' m (τ++[q])/\w.grownBy w' (some m):=by
 have hnv:=h.nU;obtain⟨es,h1,h2⟩:=h.map;obtain⟨es',e1,e2,_⟩:=h1.entries fD;cases e1;obtain⟨w',hrun,hown,hg⟩:=h1.update fD underlying159 (by unfold maxLen;omega) (qJ hx) (d:=.held (og q τ.length)) (ps:=[]) rfl;have hb:=But.aA hg;have hS:∀k,some k=some m->jv w k:=λk e=>by cases e;exact hnv
 refine⟨w',hrun,⟨⟨DataW.insert (.int .i64 q.1,.held (og q τ.length)) (es.filter λp=>!p.1.sameKey (.int .i64 q.1)),?_,?_⟩,?_,?_,?_⟩,hg⟩
 ·rw[ae0];exact hown
 ·have hfil:(es.filter λp=>!p.1.sameKey (.int .i64 q.1))=es:=by
   rw[List.filter_eq_self];intro p hp;have h0:=bD.has h2 q.1;have h3:kT τ q.1=false:=(by simp[kT,jq.2 hq]);cases hs:p.1.sameKey (.int .i64 q.1)
   ·rfl
   ·have:Maps.has (.map es) (.int .i64 q.1)=true:=ak7.2 ⟨p,hp,hs⟩;rw[h0,h3]at this;cases this
  rw[hfil,MI];refine((WideShapes.insert_perm _ _).trans (h2.cons _)).trans ?_;exact(List.perm_append_comm (l₁:=[Ig (q,τ.length)]))
 ·intro p hp;rcases ae6.1 hp with hp|hp
  ·exact h.le p hp
  ·rw[ad8.1 hp];exact hx
 ·intro p hp;rcases ae6.1 hp with hp|hp
  ·exact(h.MW p hp).but hb hS
  ·rw[ad8.1 hp];exact hv.but hb hS
 ·rw[ai5,al4];refine⟨h.nodup,by simp,λa ha b hb e=>?_⟩;simp at hb;subst e;subst hb;exact hq ha
theorem wB(w:World)(b U:Nat)(rv ov:Value)(tp:List UInt8)(m:Nat)(τ:List Tr)(q:Tr)(h:nN w b U rv ov tp (some m))(hB:bD w m τ)(hl:τ.length<=1000)(hx:q.1<=1000)(hq:q.1∉τ.map (·.1))(hv:aP w q.2.2.1 q.2.2.2) :
  Calls prog 176 #[.pointer (some ⟨b,0,none⟩),.agg #[.int .i64 q.1,.bool q.2.1],q.2.2.1] w λe w'=>(∃v,e=.returned v)/\bD w' m (τ++[q])/\w.grownBy w' (some m):=by
 obtain⟨x,i,v,r⟩:=q;obtain⟨rp,rc,hvr⟩:=hv.len;simp only at hvr;subst hvr;obtain⟨W1,hW1⟩:∃W1,(w.alloc (.cells #[.int .i64 x,.bool i] 214)).drew=W1:=⟨_,rfl⟩;have hg0:w.grownBy (w.alloc (.cells #[.int .i64 x,.bool i] 214)) none:=ab2 _ _ none;have hg1:w.grownBy W1 none:=by rw[<-hW1];exact hg0.trans ⟨rfl,rfl,rfl,ab3 _,λ_ _ _=>rfl⟩
 have hb1:=But.aA hg1;have hno:∀k,some k=none->jv w k:=λk e=>by cases e
 have hB1:bD W1 m τ:=hB.but hb1 hno (by simp);have h1:nN W1 b U rv ov tp (some m):=h.kept (hg1.block b h.lt (by simp));obtain⟨c0,c1,c2,c3,c4⟩:=h1.cells;have k0:W1.cell? ⟨w.heap.size,0,none⟩=some (.int .i64 x):=by rw[<-hW1];simp[go_sem]
 have k1:W1.cell? ⟨w.heap.size,1,none⟩=some (.bool i):=by rw[<-hW1];simp[go_sem]
 have hlen:=hB1.len 3;obtain⟨w2,hrun,hB2,hg2⟩:=hB1.put (q:=(x,i,.slice rp r.length rc,r)) hl hx hq (hv.but hb1 hno);have HB2:=aj hB2;have HG2:=aj ((hg1.but (some m)).trans hg2);clear hB hB1 h h1 hv hno hb1 hg0 hg1 hB2 hg2 hq
 go_enter func176,ntmps176
 go_wp2_with fail
 refine wp_region_any rfl (jg (S:=λW'=>W'=W1) (z:=15) _ _ _ _ ?_);have hS0:W1=W1:=rfl;simp only[ac0,ab9,ac9,Nat.reduceAdd,ab8,ab7,ac3,ac6,ac5];change wpAnyL prog .any _ _ _ _ _ _ _ (w.alloc (.cells #[.int .i64 x,.bool i] 214)).drew;rw[hW1];clear hW1;refine tL 0 (.pointer (some ⟨b,0,none⟩)) (λw' hS=>?_) hS0 ?_
 ·subst hS;go_simp
 simp only[aC];refine tL 1 (.pointer (some ⟨b,0,none⟩)) (λw' hS=>?_) hS0 ?_
 ·subst hS;go_simp
 simp only[aC];refine tL 2 (.pointer (some ⟨b,4,none⟩)) (λw' hS=>?_) hS0 ?_
 ·subst hS;go_simp
 simp only[aC];refine tL 3 (.map (some m)) (λw' hS=>?_) hS0 ?_
 ·subst hS;go_simp
 simp only[aC];refine tL 4 (.pointer (some ⟨w.heap.size,0,none⟩)) (λw' hS=>?_) hS0 ?_
 ·subst hS;go_simp
 simp only[aC];refine tL 5 (.int .i64 x) (λw' hS=>?_) hS0 ?_
 ·subst hS;go_simp
 simp only[aC];refine tL 6 (.pointer (some ⟨w.heap.size,1,none⟩)) (λw' hS=>?_) hS0 ?_
 ·subst hS;go_simp
 simp only[aC];refine tL 7 (.bool i) (λw' hS=>?_) hS0 ?_
 ·subst hS;go_simp
 simp only[aC];refine tL 8 (.pointer (some ⟨b,0,none⟩)) (λw' hS=>?_) hS0 ?_
 ·subst hS;go_simp
 simp only[aC];refine tL 9 (.pointer (some ⟨b,0,none⟩)) (λw' hS=>?_) hS0 ?_
 ·subst hS;go_simp
 simp only[aC];refine tL 10 (.pointer (some ⟨b,4,none⟩)) (λw' hS=>?_) hS0 ?_
 ·subst hS;go_simp
 simp only[aC];refine tL 11 (.map (some m)) (λw' hS=>?_) hS0 ?_
 ·subst hS;go_simp
 simp only[aC];refine tL 12 (.int .i64 τ.length) (λw' hS=>?_) hS0 ?_
 ·subst hS;simp[execOp,resolve,invoke,builtin,hlen,Result.andThen,go_sem]
 simp only[aC];refine tL 13 (.slice rp r.length rc) (λw' hS=>?_) hS0 ?_
 ·subst hS;go_simp
 simp only[aC];refine tL 14 (.agg #[.bool i,.int .i64 τ.length,.slice rp r.length rc]) (λw' hS=>?_) hS0 ?_
 ·subst hS;go_simp
 simp only[aC];refine oL 15 (λK hK=>?_);have hrun':(Instr.mapUpdate 159 (.map (some m)) (.int .i64 x) (.agg #[.bool i,.int .i64 τ.length,.slice rp r.length rc])).run prog W1=.ok () w2:=hrun;clear hrun;go_simp;refine hK.out _ _ (λh=>absurd rfl h) (jl (by kernel_rfl) ?_ _)
 go_end0
 exact⟨⟨_,rfl⟩,ah HB2,ah HG2⟩
end Go.Proofs.YthcppbmkacbbiaaGreat
