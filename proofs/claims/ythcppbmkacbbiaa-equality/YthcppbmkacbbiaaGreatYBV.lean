import Derived.Test.YthcppbmkacbbiaaGreatYBU
import Derived.SizedLaws
set_option linter.unusedSimpArgs false
set_option maxHeartbeats 4000000
set_option maxRecDepth 100000
namespace Go.Proofs.YthcppbmkacbbiaaGreat
open Go.Proofs.Tryz
section
open aB (Key put Inv jv texts dP eH aP)
open Ast
theorem gW:Good [] []:=⟨λi h=>absurd h (by simp),al6,λi h=>absurd h (by simp),al6⟩
theorem QN(s:ByteArray):ku s = -1\/ku s=0\/ku s=1:=by
 unfold ku;by_cases h:(UK s).2=0
 ·rw[ae2 h];by_cases g:(UK s).1=0
  ·rw[ae2 g];exact Or.inr (Or.inl rfl)
  ·rw[ad6 g];exact Or.inr (Or.inr rfl)
 ·rw[ad6 h];exact Or.inl rfl
theorem QL{s:ByteArray}(h:0<=ku s):s.size<=100/\(chk s).1=0:=ag1 λn=>by
 have hE:=FH n;unfold ku at h;rw[Jy n]at h;simp[hE]at h
section
variable {s:ByteArray} {txt:List UInt8} {dep:Nat} {run:List Key->List (Int×Nat)->List Key×List (Int×Nat)} {val:List Int->List Bool->List Key->List (Int×Nat)->Bool}
theorem vZ(h:Am txt dep run val)(e:s.data.toList=txt)(n:∀f hl,Snd f hl (run [] []).1 (run [] []).2->val (JR f (run [] []).1.length) hl [] []=true->False):ku s≠1:=λc=>by
 obtain⟨a,b⟩:=QL (s:=s) (by omega);obtain⟨f,hl,g1,g2⟩:=(QM h e a b).1.1 c;exact n f hl g1 g2
theorem Rq(h:Am txt dep run val)(e:s.data.toList=txt)(m:Md (run [] []).1 (run [] []).2 (λcl hl=>val cl hl [] [])):ku s≠0:=λc=>by
 obtain⟨a,b⟩:=QL (s:=s) (by omega);have:=(QM h e a b).1.2 m;omega
end
theorem lV(x y:Bool):aB.jn (((38:UInt8).toNat:Nat):Int) x y=(x&&y):=rfl
theorem lU{α:Type}[BEq α][LawfulBEq α]{l m:List α}{k:α}(h:put l k <+: m):∃g:l.idxOf k<m.length,m[l.idxOf k]=k:=by
 obtain⟨a,b⟩:=lF l k;exact⟨ac8 a h.length_le,(h.getElem a).symm.trans b⟩
section
variable {s t u:List UInt8} {d1 d2 d3:Nat} {r1 r2 r3:List Key->List Key×Nat} {X:ByteArray}
theorem abl(h:eG s d1 r1)(e:X.data.toList=33::(s++61::s)):ku X≠1:=vZ (oz (jh h h)) e λf hl _ hv=>by
 have e1:=h.fJ [] _ (ag6 _);simp only[e1]at hv;simp at hv
theorem abk(h:eG s d1 r1)(g:eG t d2 r2)(e:X.data.toList=40::((s++61::t)++38::(33::(t++61::s)++[41]))):ku X≠1:=vZ (mY (c:=38) (by decide) (jh h g) (oz (jh g h))) e λf hl _ hv=>by
 have e1:=h.fJ [] _ (g.grow _);have e2:=g.fJ (r1 []).1 _ (ag6 _);simp only[e2,e1,lV,al0]at hv;obtain⟨p,q⟩:=hv;simp only[ah4]at p;rw[p]at q;simp at q
theorem abj(h:eG s d1 r1)(g:eG t d2 r2)(k:eG u d3 r3)(e:X.data.toList=40::(40::((s++61::t)++38::((t++61::u)++[41]))++38::(33::(s++61::u)++[41]))):ku X≠1:=vZ (mY (c:=38) (by decide) (mY (c:=38) (by decide) (jh h g) (jh g k)) (oz (jh h k))) e λf hl _ hv=>by
 have e2:=g.fJ (r1 []).1 _ (ag6 _);simp only[e2]at hv;have e1:=h.fJ [] (r3 (r2 (r1 []).1).1).1 ((g.grow _).trans (k.grow _));have e3:=k.fJ (r2 (r1 []).1).1 _ (ag6 _);simp only[e1,e3,lV,al0]at hv;obtain⟨⟨p,o⟩,q⟩:=hv;simp only[ah4]at p o;rw[p,o]at q;simp at q
theorem abh(h:eG s d1 r1)(g:eG t d2 r2)(e:X.data.toList=40::((s++61::t)++38::(33::(102::40::(s++[41])++61::102::40::(t++[41]))++[41]))):ku X≠1:=vZ (mY (c:=38) (by decide) (jh h g) (oz (jh (J8 h) (J8 g)))) e λf hl hS hv=>by
 have e1:=h.fJ [] _ (g.grow _);simp only[e1]at hv hS;have e2:=g.fJ (r1 []).1 (put (r2 (r1 []).1).1 (102,(r1 []).2,0)) (aN _ _);simp only[e2,lV,al0]at hv hS;obtain⟨x1,x2⟩:=lU (aN (put (r2 (r1 []).1).1 (102,(r1 []).2,0)) ((102,(r2 (r1 []).1).2,0):Key));obtain⟨y1,y2⟩:=lU (ag6 (put (put (r2 (r1 []).1).1 (102,(r1 []).2,0)) ((102,(r2 (r1 []).1).2,0):Key)));have ha:=(h.good [] ⟨gW.key,gW.nt⟩);have hb:=(g.good _ ha.1);have l1:=(g.grow (r1 []).1).length_le;have l2:=((aN (r2 (r1 []).1).1 ((102,(r1 []).2,0):Key)).trans (aN _ ((102,(r2 (r1 []).1).2,0):Key))).length_le;obtain⟨p,q⟩:=hv;simp only[ah4]at p;rw[aT f (ac8 ha.2 (ae4 l1 l2)),aT f (ac8 hb.2 l2)]at p;rw[aT f x1,aT f y1]at q;have c:=hS.2.1 _ _ x1 y1 (by rw[x2,y2]) (by rw[x2,y2];exact Int.ofNat.inj p) (by rw[x2,y2]);simp at q;exact q (am8 Int.ofNat c)
theorem abg(h:eG s d1 r1)(g:eG t d2 r2)(k:eG u d3 r3)(e:X.data.toList=40::((s++61::t)++38::(33::(103::40::(s++44::(u++[41]))++61::103::40::(t++44::(u++[41])))++[41]))):ku X≠1:=vZ (mY (c:=38) (by decide) (jh h g) (oz (jh (J7 h k) (J7 g k)))) e λf hl hS hv=>by
 have e1:=h.fJ [] _ (g.grow _);simp only[e1]at hv hS;have ha:=(h.good [] ⟨gW.key,gW.nt⟩);have hb:=(g.good _ ha.1);have l1:=(g.grow (r1 []).1).length_le;have l3:=(k.grow (r2 (r1 []).1).1);have e3:=k.fJ (r2 (r1 []).1).1;have e2:=g.fJ (r1 []).1;generalize r1 []=A at *;generalize r2 A.1=B at *;generalize r3 B.1=C at *;have e2:=e2 (put C.1 (103,A.2,C.2)) (l3.trans (aN _ _));simp only[e2]at hv hS;have e3:=e3 (put C.1 (103,A.2,C.2)) (aN _ _);simp only[e3,lV,al0]at hv hS;obtain⟨x1,x2⟩:=lU (aN (put C.1 (103,A.2,C.2)) ((103,B.2,C.2):Key));obtain⟨y1,y2⟩:=lU (ag6 (put (put C.1 (103,A.2,C.2)) ((103,B.2,C.2):Key)));have l2:=(l3.trans ((aN C.1 ((103,A.2,C.2):Key)).trans (aN _ ((103,B.2,C.2):Key)))).length_le;obtain⟨p,q⟩:=hv;simp only[ah4]at p;rw[aT f (ac8 ha.2 (ae4 l1 l2)),aT f (ac8 hb.2 l2)]at p;rw[aT f x1,aT f y1]at q;have c:=hS.2.1 _ _ x1 y1 (by rw[x2,y2]) (by rw[x2,y2];exact Int.ofNat.inj p) (by rw[x2,y2]);simp at q;exact q (am8 Int.ofNat c)
theorem abf(h:eG s d1 r1)(g:eG t d2 r2)(k:eG u d3 r3)(e:X.data.toList=40::((s++61::t)++38::(33::(103::40::(u++44::(s++[41]))++61::103::40::(u++44::(t++[41])))++[41]))):ku X≠1:=vZ (mY (c:=38) (by decide) (jh h g) (oz (jh (J7 k h) (J7 k g)))) e λf hl hS hv=>by
 have ha:=(h.good [] ⟨gW.key,gW.nt⟩);have hb:=(g.good _ ha.1);have l1:=(g.grow (r1 []).1);have l3:=(k.grow (r2 (r1 []).1).1);have e1:=h.fJ [];have e3:=k.fJ (r2 (r1 []).1).1;have e2:=g.fJ (r1 []).1;generalize r1 []=A at *;generalize r2 A.1=B at *;generalize r3 B.1=C at *;have e1:=e1 C.1 (l1.trans l3);simp only[e1]at hv hS;have e3:=e3 (put C.1 (103,C.2,A.2)) (aN _ _);simp only[e3]at hv hS;have e2:=e2 (put C.1 (103,C.2,A.2)) (l3.trans (aN _ _));simp only[e2,lV,al0]at hv hS;obtain⟨x1,x2⟩:=lU (aN (put C.1 (103,C.2,A.2)) ((103,C.2,B.2):Key));obtain⟨y1,y2⟩:=lU (ag6 (put (put C.1 (103,C.2,A.2)) ((103,C.2,B.2):Key)));have l2:=(l3.trans ((aN C.1 ((103,C.2,A.2):Key)).trans (aN _ ((103,C.2,B.2):Key)))).length_le;obtain⟨p,q⟩:=hv;simp only[ah4]at p;rw[aT f (ac8 ha.2 (ae4 l1.length_le l2)),aT f (ac8 hb.2 l2)]at p;rw[aT f x1,aT f y1]at q;have c:=hS.2.1 _ _ x1 y1 (by rw[x2,y2]) (by rw[x2,y2]) (by rw[x2,y2];exact Int.ofNat.inj p);simp at q;exact q (am8 Int.ofNat c)
theorem abe(h:eG s d1 r1)(g:eG t d2 r2)(e:X.data.toList=40::(40::((s++61::t)++38::(80::40::(s++[41])++[41]))++38::(33::80::40::(t++[41])++[41]))):ku X≠1:=vZ (mY (c:=38) (by decide) (mY (c:=38) (by decide) (jh h g) (wH (c:=80) (by decide) h)) (oz (wH (c:=80) (by decide) g))) e λf hl hS hv=>by
 have ha:=(h.good [] ⟨gW.key,gW.nt⟩);have hb:=(g.good _ ha.1);have l1:=(g.grow (r1 []).1);have e1:=h.fJ [];have e2:=g.fJ (r1 []).1;generalize r1 []=A at *;generalize r2 A.1=B at *;have e1:=e1 B.1 l1;have e2:=e2 B.1 (ag6 _);simp only[e1,e2,lV,al0]at hv hS;obtain⟨x1,x2⟩:=lU (aN (put [] ((((80:UInt8).toNat:Nat):Int),A.2)) ((((80:UInt8).toNat:Nat):Int),B.2));obtain⟨y1,y2⟩:=lU (ag6 (put (put [] ((((80:UInt8).toNat:Nat):Int),A.2)) ((((80:UInt8).toNat:Nat):Int),B.2)));obtain⟨⟨p,o⟩,q⟩:=hv;simp only[ah4]at p;rw[aT f (ac8 ha.2 l1.length_le),aT f hb.2]at p;have c:=hS.2.2 _ _ x1 y1 (by rw[x2,y2]) (by rw[x2,y2];exact Int.ofNat.inj p);rw[<-c,o]at q;simp at q
theorem abd(h:eG s d1 r1)(g:eG t d2 r2)(e:X.data.toList=40::(40::((s++61::t)++38::(33::81::40::(s++[41])++[41]))++38::(81::40::(t++[41])++[41]))):ku X≠1:=vZ (mY (c:=38) (by decide) (mY (c:=38) (by decide) (jh h g) (oz (wH (c:=81) (by decide) h))) (wH (c:=81) (by decide) g)) e λf hl hS hv=>by
 have ha:=(h.good [] ⟨gW.key,gW.nt⟩);have hb:=(g.good _ ha.1);have l1:=(g.grow (r1 []).1);have e1:=h.fJ [];have e2:=g.fJ (r1 []).1;generalize r1 []=A at *;generalize r2 A.1=B at *;have e1:=e1 B.1 l1;have e2:=e2 B.1 (ag6 _);simp only[e1,e2,lV,al0]at hv hS;obtain⟨x1,x2⟩:=lU (aN (put [] ((((81:UInt8).toNat:Nat):Int),A.2)) ((((81:UInt8).toNat:Nat):Int),B.2));obtain⟨y1,y2⟩:=lU (ag6 (put (put [] ((((81:UInt8).toNat:Nat):Int),A.2)) ((((81:UInt8).toNat:Nat):Int),B.2)));obtain⟨⟨p,o⟩,q⟩:=hv;simp only[ah4]at p;rw[aT f (ac8 ha.2 l1.length_le),aT f hb.2]at p;have c:=hS.2.2 _ _ x1 y1 (by rw[x2,y2]) (by rw[x2,y2];exact Int.ofNat.inj p);rw[c,q]at o;simp at o
end
end
section
open aB (Key put Inv jv texts dP eH aP rend iR bY lI)
open Ast
def TT(txt:List UInt8)(run:List Key->List Key×Nat):Prop:=
 ∀ts,aB.Inv ts->aB.Inv (run ts).1/\(run ts).2<(run ts).1.length/\(texts (run ts).1).getD (run ts).2 []=txt/\∀i,i<(run ts).1.length->i<ts.length\/((texts (run ts).1).getD i []).length<=txt.length
theorem iQ{ts T:List Key}(h:ts <+: T){i:Nat}(hi:i<ts.length):(texts T).getD i []=(texts ts).getD i []:=lI (iR h) (by rw[bY];exact hi)
theorem F7{ts:List Key}{k:Key}(h:Inv ts)(hk:eH ts.length k):Inv (put ts k)/\ts.idxOf k<(put ts k).length/\(texts (put ts k)).getD (ts.idxOf k) []=rend (texts ts) k/\∀i,i<(put ts k).length->i<ts.length\/(texts (put ts k)).getD i []=rend (texts ts) k:=by
 have I:=(h.put hk).1;obtain⟨a,b⟩:=lF ts k;have e:rend (texts (put ts k)) k=rend (texts ts) k:=by
  obtain⟨R,hR⟩:=iR (aN ts k);rw[<-hR];exact aB.uO (by rw[bY];exact hk)
 have g:(texts (put ts k)).getD (ts.idxOf k) []=rend (texts ts) k:=by rw[I.get _ a,b,e]
 refine⟨I,a,g,λi hi=>?_⟩;by_cases hm:k∈ts
 ·rw[nN hm]at hi;exact Or.inl hi
 ·rw[jO hm]at hi;simp at hi;by_cases q:i<ts.length
  ·exact Or.inl q
  ·have:i=ts.idxOf k:=(by rw[ag4 hm];omega);rw[this];exact Or.inr g
theorem XB{c:UInt8}(h1:97<=c.toNat)(h2:c.toNat<=101):TT [c] (λts=>(put ts ((c.toNat:Int),0,0),ts.idxOf ((c.toNat:Int),0,0))):=λts h=>by
 have e:rend (texts ts) ((c.toNat:Int),0,0)=[c]:=by
  unfold rend;rw[ad6 (by show(c.toNat:Int)≠102;omega),ad6 (by show(c.toNat:Int)≠103;omega)];simp
 obtain⟨a,b,c1,d⟩:=F7 h (k:=((c.toNat:Int),0,0)) (Or.inl ⟨by show(97:Int)<=(c.toNat:Int);omega,by show(c.toNat:Int)<=101;omega,rfl,rfl⟩);rw[e]at c1 d;exact⟨a,b,c1,λi hi=>(d i hi).imp id λq=>by rw[q];simp⟩
theorem Si{t:List UInt8}{run:List Key->List Key×Nat}(h:TT t run):TT (102::40::(t++[41])) (λts=>(put (run ts).1 (102,(run ts).2,0),(run ts).1.idxOf (102,(run ts).2,0))):=λts hI=>by
 obtain⟨a,b,c,d⟩:=h ts hI;have e:rend (texts (run ts).1) (102,(run ts).2,0)=102::40::(t++[41]):=by
  unfold rend;rw[ae2 rfl,c]
 obtain⟨a1,b1,c1,d1⟩:=F7 a (k:=(102,(run ts).2,0)) (Or.inr (Or.inl ⟨rfl,b,rfl⟩));rw[e]at c1 d1;refine⟨a1,b1,c1,λi hi=>?_⟩;rcases d1 i hi with q|q
 ·rcases d i q with p|p
  ·exact Or.inl p
  ·right
   show((texts (put (run ts).1 (102,(run ts).2,0))).getD i []).length<=_
   rw[iQ (aN _ _) q];refine ae4 p ?_;simp;omega
 ·right
  show((texts (put (run ts).1 (102,(run ts).2,0))).getD i []).length<=_
  rw[q];exact ac2 _
theorem XC{t u:List UInt8}{d2:Nat}{r1 r2:List Key->List Key×Nat}(h:TT t r1)(g:TT u r2)(gO:eG u d2 r2) :
  TT (103::40::(t++44::(u++[41]))) (λts=>(put (r2 (r1 ts).1).1 (103,(r1 ts).2,(r2 (r1 ts).1).2),(r2 (r1 ts).1).1.idxOf (103,(r1 ts).2,(r2 (r1 ts).1).2))):=λts hI=>by
 obtain⟨a,b,c,d⟩:=h ts hI;have gr:=gO.grow (r1 ts).1;obtain⟨a2,b2,c2,d2⟩:=g _ a;have e:rend (texts (r2 (r1 ts).1).1) (103,(r1 ts).2,(r2 (r1 ts).1).2)=103::40::(t++44::(u++[41])):=by
  unfold rend;rw[ad6 (by show ¬(103:Int)=102;decide),ae2 rfl]
  show 103::40::((texts (r2 (r1 ts).1).1).getD (r1 ts).2 []++44::((texts (r2 (r1 ts).1).1).getD (r2 (r1 ts).1).2 []++[41]))=_
  rw[iQ gr b,c,c2]
 obtain⟨a1,b1,c1,d1⟩:=F7 a2 (k:=(103,(r1 ts).2,(r2 (r1 ts).1).2)) (Or.inr (Or.inr ⟨rfl,ac8 b gr.length_le,b2⟩));rw[e]at c1 d1;refine⟨a1,b1,c1,λi hi=>?_⟩;rcases d1 i hi with q|q
 ·rcases d2 i q with p|p
  ·rcases d i p with o|o
   ·exact Or.inl o
   ·right
    show((texts (put (r2 (r1 ts).1).1 (103,(r1 ts).2,(r2 (r1 ts).1).2))).getD i []).length<=_
    rw[iQ (gr.trans (aN _ _)) p];refine ae4 o ?_;simp;omega
  ·right
   show((texts (put (r2 (r1 ts).1).1 (103,(r1 ts).2,(r2 (r1 ts).1).2))).getD i []).length<=_
   rw[iQ (aN _ _) q];refine ae4 p ?_;simp;omega
 ·right
  show((texts (put (r2 (r1 ts).1).1 (103,(r1 ts).2,(r2 (r1 ts).1).2))).getD i []).length<=_
  rw[q];exact ac2 _
theorem qO{T:List Key}(hI:Inv T){l m:Nat}(hmax:∀i,i<T.length->((texts T).getD i []).length<=((texts T).getD l []).length) :
  zO (λa b=>(if a=l then m else a)=(if b=l then m else b)) T:=by
 have no:∀i (hi:i<T.length),(T[i].1=102\/T[i].1=103)->T[i].2.1≠l:=λi hi q e=>by
  have h1:=hmax i hi;rw[hI.get i hi]at h1;unfold rend at h1;rcases q with q|q
  ·rw[ae2 q,e]at h1;simp at h1;omega
  ·rw[ad6 (by omega),ae2 q,e]at h1;simp at h1;omega
 have no2:∀i (hi:i<T.length),T[i].1=103->T[i].2.2≠l:=λi hi q e=>by
  have h1:=hmax i hi;rw[hI.get i hi]at h1;unfold rend at h1;rw[ad6 (by omega),ae2 q,e]at h1;simp at h1;omega
 intro i j hi hj e1 e2 e3;have k:T[i]=T[j]:=by
  have ki:=hI.key i hi;have kj:=hI.key j hj;have n1:=no i hi;have n2:=no2 i hi;have n3:=no j hj;have n4:=no2 j hj;generalize T[i]=x at *;generalize T[j]=y at *;obtain⟨x1,x2,x3⟩:=x;obtain⟨y1,y2,y3⟩:=y;simp only at *;subst e1;rcases ki with⟨p1,p2,p3,p4⟩|⟨p1,p2,p3⟩|⟨p1,p2,p3⟩<;>rcases kj with⟨q1,q2,q3,q4⟩|⟨q1,q2,q3⟩|⟨q1,q2,q3⟩<;>simp only at *<;>first|(exfalso;omega)|skip
  ·rw[p3,p4,q3,q4]
  ·rw[ad6 (n1 (Or.inl p1)),ad6 (n3 (Or.inl p1))]at e2;rw[e2,p3,q3]
  ·rw[ad6 (n1 (Or.inr p1)),ad6 (n3 (Or.inr p1))]at e2;rw[ad6 (n2 p1),ad6 (n4 p1)]at e3;rw[e2,e3]
 have:i=j:=aB.jX hI.nodup hi hj k;subst this;rfl
theorem Ci{T:List Key}(hn:T.Nodup):zO (λa b=>id a=id b) T:=λ_ _ hi hj e1 e2 e3=>
 aB.jX hn hi hj (Prod.ext e1 (Prod.ext e2 e3))
theorem Pq{cs:List (Int×Nat)}(hn:cs.Nodup)(hl:List Bool):NM id cs hl:=λi j hi hj e1 e2=>by
 have:i=j:=aB.jX hn hi hj (Prod.ext e1 e2);subst this;rfl
section
variable {s t P Q:List UInt8} {d1 d2 d3 d4:Nat} {r1 r2 r3 r4:List Key->List Key×Nat} {X:ByteArray}
theorem abb(h:eG s d1 r1)(g:eG t d2 r2)(hs:TT s r1)(ht:TT t r2)(e:X.data.toList=s++61::t):ku X≠0:=Rq (jh h g) e <|by
 obtain⟨i1,l1,x1,m1⟩:=hs [] aB.qP;obtain⟨i2,l2,x2,m2⟩:=ht _ i1;have gr:=g.grow (r1 []).1;have l1':=ac8 l1 gr.length_le;have x1':=(iQ gr l1).trans x1;have mx:∀i,i<(r2 (r1 []).1).1.length->((texts (r2 (r1 []).1).1).getD i []).length<=s.length\/((texts (r2 (r1 []).1).1).getD i []).length<=t.length:=λi hi=>by
  rcases m2 i hi with q|q
  ·rcases m1 i q with p|p
   ·simp at p
   ·left;rw[iQ gr q];exact p
  ·exact Or.inr q
 generalize r1 []=A at *;generalize r2 A.1=B at *;by_cases c:t.length<=s.length
 ·refine⟨λi=>if i=A.2 then B.2 else i,[],⟨rfl,qO i2 λi hi=>?_,λi j hi=>absurd hi (by simp)⟩,?_⟩
  ·rw[x1'];have:=mx i hi;omega
  ·show decide (_=_)=true
   rw[aT _ l1',aT _ l2];simp
 ·refine⟨λi=>if i=B.2 then A.2 else i,[],⟨rfl,qO i2 λi hi=>?_,λi j hi=>absurd hi (by simp)⟩,?_⟩
  ·rw[x2];have:=mx i hi;omega
  ·show decide (_=_)=true
   rw[aT _ l1',aT _ l2];simp
theorem aa9(h:eG s d1 r1)(hs:TT s r1)(e:X.data.toList=40::(80::40::(s++[41])++38::(33::81::40::(s++[41])++[41]))):ku X≠0:=Rq (mY (c:=38) (by decide) (wH (c:=80) (by decide) h) (oz (wH (c:=81) (by decide) h))) e <|by
 obtain⟨i1,l1,x1,m1⟩:=hs [] aB.qP;have e1:=h.fJ [] _ (ag6 _);simp only[e1,lV];generalize r1 []=A at *;have e2:put ([]:List (Int×Nat)) ((((80:UInt8).toNat:Nat):Int),A.2)=[((((80:UInt8).toNat:Nat):Int),A.2)]:=rfl;have e3:put [((((80:UInt8).toNat:Nat):Int),A.2)] ((((81:UInt8).toNat:Nat):Int),A.2)=[((((80:UInt8).toNat:Nat):Int),A.2),((((81:UInt8).toNat:Nat):Int),A.2)]:=jO (by simp);rw[e2,e3];refine⟨id,[true,false],⟨rfl,Ci i1.nodup,Pq (by simp) _⟩,?_⟩;have e4:[((((80:UInt8).toNat:Nat):Int),A.2)].idxOf ((((81:UInt8).toNat:Nat):Int),A.2)=1:=by
  rw[ag4 (by simp)];rfl
 show(_&&_)=true
 rw[e4];rfl
theorem aa8(h:eG s d1 r1)(g:eG t d2 r2)(hs:TT s r1)(ht:TT t r2)(n:s≠t)(e:X.data.toList=40::(80::40::(s++[41])++38::(33::80::40::(t++[41])++[41]))):ku X≠0:=Rq (mY (c:=38) (by decide) (wH (c:=80) (by decide) h) (oz (wH (c:=80) (by decide) g))) e <|by
 obtain⟨i1,l1,x1,m1⟩:=hs [] aB.qP;obtain⟨i2,l2,x2,m2⟩:=ht _ i1;have gr:=g.grow (r1 []).1;have x1':=(iQ gr l1).trans x1;simp only[lV];generalize r1 []=A at *;generalize r2 A.1=B at *;have e2:put ([]:List (Int×Nat)) ((((80:UInt8).toNat:Nat):Int),A.2)=[((((80:UInt8).toNat:Nat):Int),A.2)]:=rfl;have ne:((((80:UInt8).toNat:Nat):Int),A.2)≠((((80:UInt8).toNat:Nat):Int),B.2):=λq=>by
  have:=(Prod.mk.inj q).2;rw[this,x2]at x1';exact n x1'.symm
 have e3:put [((((80:UInt8).toNat:Nat):Int),A.2)] ((((80:UInt8).toNat:Nat):Int),B.2)=[((((80:UInt8).toNat:Nat):Int),A.2),((((80:UInt8).toNat:Nat):Int),B.2)]:=jO (by intro q;rw[ae5]at q;exact ne q.symm);rw[e2,e3];refine⟨id,[true,false],⟨rfl,Ci i2.nodup,Pq (List.nodup_cons.2 ⟨by intro q;rw[ae5]at q;exact ne q,by simp⟩) _⟩,?_⟩;have e4:[((((80:UInt8).toNat:Nat):Int),A.2)].idxOf ((((80:UInt8).toNat:Nat):Int),B.2)=1:=by
  rw[ag4 (by intro q;rw[ae5]at q;exact ne q.symm)];rfl
 show(_&&_)=true
 rw[e4];rfl
theorem Zm(h:eG s d1 r1)(g:eG t d2 r2)(hs:TT s r1)(ht:TT t r2)(n:s≠t)(e:X.data.toList=33::(s++61::t)):ku X≠0:=Rq (oz (jh h g)) e <|by
 obtain⟨i1,l1,x1,m1⟩:=hs [] aB.qP;obtain⟨i2,l2,x2,m2⟩:=ht _ i1;have gr:=g.grow (r1 []).1;have l1':=ac8 l1 gr.length_le;have x1':=(iQ gr l1).trans x1;generalize r1 []=A at *;generalize r2 A.1=B at *;refine⟨id,[],⟨rfl,Ci i2.nodup,λi j hi=>absurd hi (by simp)⟩,?_⟩
 show(!decide (_=_))=true
 rw[aT _ l1',aT _ l2];simp only[id,Bool.not_eq_true',decide_eq_false_iff_not];intro q;have q':A.2=B.2:=by omega
 rw[q',x2]at x1';exact n x1'.symm
theorem aa7(h:eG s d1 r1)(g:eG t d2 r2)(k:eG P d3 r3)(o:eG Q d4 r4)(hs:TT s r1)(ht:TT t r2)(hP:TT P r3)(hQ:TT Q r4)(n:s≠t)(n1:s.length<P.length)(n2:t.length<Q.length)
 (e:X.data.toList=40::(33::(s++61::t)++38::((P++61::Q)++[41]))):ku X≠0:=Rq (mY (c:=38) (by decide) (oz (jh h g)) (jh k o)) e <|by
 obtain⟨i1,l1,x1,m1⟩:=hs [] aB.qP;obtain⟨i2,l2,x2,m2⟩:=ht _ i1;obtain⟨i3,l3,x3,m3⟩:=hP _ i2;obtain⟨i4,l4,x4,m4⟩:=hQ _ i3;have g2:=g.grow (r1 []).1;have g3:=k.grow (r2 (r1 []).1).1;have g4:=o.grow (r3 (r2 (r1 []).1).1).1;simp only[lV];generalize r1 []=A at *;generalize r2 A.1=B at *;generalize r3 B.1=C at *;generalize r4 C.1=D at *;have mx:∀i,i<D.1.length->((texts D.1).getD i []).length<=P.length\/((texts D.1).getD i []).length<=Q.length:=λi hi=>by
  rcases m4 i hi with q4|q4
  ·rw[iQ g4 q4];rcases m3 i q4 with q3|q3
   ·rw[iQ g3 q3];rcases m2 i q3 with q2|q2
    ·rw[iQ g2 q2];rcases m1 i q2 with q1|q1
     ·simp at q1
     ·left;omega
    ·right;omega
   ·exact Or.inl q3
  ·exact Or.inr q4
 have y1:=(iQ ((g2.trans g3).trans g4) l1).trans x1;have y2:=(iQ (g3.trans g4) l2).trans x2;have y3:=(iQ g4 l3).trans x3;have k1:=ac8 l1 ((g2.trans g3).trans g4).length_le;have k2:=ac8 l2 (g3.trans g4).length_le;have k3:=ac8 l3 g4.length_le;have nab:A.2≠B.2:=λq=>by rw[q,y2]at y1;exact n y1.symm
 by_cases c:Q.length<=P.length
 ·have na:A.2≠C.2:=λq=>by rw[q,y3]at y1;rw[y1]at n1;omega
  have nb:B.2≠C.2:=λq=>by rw[q,y3]at y2;rw[<-y2]at n2;omega
  refine⟨λi=>if i=C.2 then D.2 else i,[],⟨rfl,qO i4 λi hi=>?_,λi j hi=>absurd hi (by simp)⟩,?_⟩
  ·rw[y3];have:=mx i hi;omega
  ·show(!decide (_=_)&&decide (_=_))=true
   rw[aT _ k1,aT _ k2,aT _ k3,aT _ l4,ad6 na,ad6 nb];simp;omega
 ·have na:A.2≠D.2:=λq=>by rw[q,x4]at y1;rw[<-y1]at n1;omega
  have nb:B.2≠D.2:=λq=>by rw[q,x4]at y2;rw[<-y2]at n2;omega
  refine⟨λi=>if i=D.2 then C.2 else i,[],⟨rfl,qO i4 λi hi=>?_,λi j hi=>absurd hi (by simp)⟩,?_⟩
  ·rw[x4];have:=mx i hi;omega
  ·show(!decide (_=_)&&decide (_=_))=true
   rw[aT _ k1,aT _ k2,aT _ k3,aT _ l4,ad6 na,ad6 nb];simp;omega
end
end
section
open Go.RowKit
theorem Zw:ku ⟨#[40,102,40,102,40,97,41,41,61,97,38,33,102,40,97,41,61,97,41]⟩=1:=by kernel_rfl
theorem Zv:ku ⟨#[33,97,61,98]⟩=1:=by kernel_rfl
theorem Zu:ku ⟨#[40,80,40,97,41,38,33,80,40,98,41,41]⟩=1:=by kernel_rfl
theorem Zt:ku ⟨#[40,97,61,98,38,33,102,40,97,41,61,102,40,98,41,41]⟩=0:=by kernel_rfl
theorem Zr:ku ⟨#[40,80,40,97,41,38,40,33,80,40,98,41,38,97,61,98,41,41]⟩=0:=by kernel_rfl
theorem Zq:ku ⟨#[40,102,40,102,40,102,40,97,41,41,41,61,97,38,40,102,40,102,40,97,41,41,61,97,38,33,102,40,97,41,61,97,41,41]⟩=0:=by kernel_rfl
theorem vN(s t:ByteArray){v:Int}(hv:ku s=v)(hm:s.size<=maxLen)(ht:dU t=false)(w:World)(way:Int)(hw:way=0\/way=1) :
  Calls prog 24 #[.string s,.int .i64 way,.string t] w λe w'=>e=.returned (.int .i64 v)/\Below w.heap.size w w':=by
 subst hv;exact DC w s t way hm hw ht
theorem Bq(w:World):Calls prog 22 #[] w λe w'=>e=.returned (.bool true)/\Below w.heap.size w w':=by
 have H1:=aj (vN _ ⟨#[]⟩ Zw (by decide) (by decide));have H2:=aj (vN _ ⟨#[55]⟩ Zv (by decide) (by decide));have H3:=aj (vN _ ⟨#[57,49]⟩ Zu (by decide) (by decide));have H4:=aj (vN _ ⟨#[]⟩ Zt (by decide) (by decide));have H5:=aj (vN _ ⟨#[51]⟩ Zr (by decide) (by decide));have H6:=aj (vN _ ⟨#[49,57]⟩ Zq (by decide) (by decide))
 go_enter func22,ntmps22
 go_wp2_with fail
 go_loopw [1] (λiv wr=>∃k:Nat,k<=2/\iv=.int .i64 k/\Below w.heap.size w wr) (λiv wr=>2-(intOf iv).toNat)
 case atStart=>exact⟨0,by omega,rfl,af5 _ _⟩
 case round=>
  obtain⟨k,hk,rfl,hb⟩:=hrel;by_cases hlt:k<2
  ·have hbk:(k:Int)<2:=(by omega);have hw:(k:Int)=0\/(k:Int)=1:=by omega
   go_wp2_with fail
   refine(ah H1 wr k hw).mono ?_;rintro e w1 ⟨rfl,b1⟩;replace b1:=hb.trans (b1.mono hb.size)
   go_wp2_with fail
   refine(ah H2 w1 k hw).mono ?_;rintro e w2 ⟨rfl,b2⟩;replace b2:=b1.trans (b2.mono b1.size)
   go_wp2_with fail
   refine(ah H3 w2 k hw).mono ?_;rintro e w3 ⟨rfl,b3⟩;replace b3:=b2.trans (b3.mono b2.size)
   go_wp2_with fail
   refine(ah H4 w3 k hw).mono ?_;rintro e w4 ⟨rfl,b4⟩;replace b4:=b3.trans (b4.mono b3.size)
   go_wp2_with fail
   refine(ah H5 w4 k hw).mono ?_;rintro e w5 ⟨rfl,b5⟩;replace b5:=b4.trans (b5.mono b4.size)
   go_wp2_with fail
   refine(ah H6 w5 k hw).mono ?_;rintro e w6 ⟨rfl,b6⟩;replace b6:=b5.trans (b6.mono b5.size)
   go_wp2_with fail
   exact⟨⟨k+1,by omega,by go_num,b6⟩,by simp[intOf];omega⟩
  ·have hbk:¬(k:Int)<2:=by omega
   go_wp2_with fail
   exact af2 (v:=.bool true) (by simp[results,results22,go_sem]) rfl ⟨rfl,hb⟩
end
open Go.ChangeShapes Go.WideShapes Go.ChangeAt Go.RowKit
open Ast
def I64(n:Int):Prop:=-9223372036854775808<=n/\n<=9223372036854775807
theorem UH(c:Int)(n:Nat)(hn:0<n):∃k:Nat,k<n/\c%(n:Int)=k:=
 ⟨(c%n).toNat,by have:=Int.emod_lt_of_pos c (show(0:Int)<n by omega);have:=Int.emod_nonneg c (show(n:Int)≠0 by omega);omega,by have:=Int.emod_nonneg c (show(n:Int)≠0 by omega);omega⟩
theorem kN(w:World)(c:Int)(n:Nat)(hn:0<n)(hn2:n<=9223372036854775807)(hc:I64 c) :
  Calls prog 19 #[.int .i64 c,.int .i64 n] w λe w'=>(∃k:Nat,k<n/\e=.returned (.int .i64 k))/\w'=w:=by
 obtain⟨h1,h2⟩:=hc;by_cases hc:c<0
 ·obtain⟨k,hk,e⟩:=UH (-(c+1)) n hn;have e2 : -(c+1).tmod (n:Int)=k:=by rw[<-Int.neg_tmod,Int.tmod_eq_emod_of_nonneg (by omega)];exact e
  have E2:=aj e2;clear e e2
  go_enter func19,ntmps19
  go_wp2_with fail
  go_ret
  exact⟨⟨k,hk,by rw[<-ah E2];rfl⟩,rfl⟩
 ·obtain⟨k,hk,e⟩:=UH c n hn;have E2:=aj e;clear e
  go_enter func19,ntmps19
  go_wp2_with fail
  go_ret
  exact⟨⟨k,hk,by rw[<-ah E2];rfl⟩,rfl⟩
def jd(w:World)(ao:Option Addr)(len:Nat):Prop:=len<=140737488355328/\(0<len->∃(b off:Nat) (S A B:Nat->Int),ao=some ⟨b,off,none⟩/\b<w.heap.size/\
 ∀i,i<len->I64 (S i)/\I64 (A i)/\I64 (B i)/\w.cell? ⟨b,off+i*3,none⟩=some (.int .i64 (S i))/\w.cell? ⟨b,off+i*3+1,none⟩=some (.int .i64 (A i))/\w.cell? ⟨b,off+i*3+2,none⟩=some (.int .i64 (B i)))
theorem jd.keep{w w':World}{ao:Option Addr}{len:Nat}(h:jd w ao len)(hb:Below w.heap.size w w'):jd w' ao len:=by
 refine⟨h.1,λq=>?_⟩;obtain⟨b,off,S,A,B,rfl,h1,h2⟩:=h.2 q;refine⟨b,off,S,A,B,rfl,ac8 h1 hb.size,λi hi=>?_⟩;obtain⟨a1,a2,a3,a4,a5,a6⟩:=h2 i hi;exact⟨a1,a2,a3,(hb.cell (p:=⟨b,off+i*3,none⟩) h1).trans a4,(hb.cell (p:=⟨b,off+i*3+1,none⟩) h1).trans a5,(hb.cell (p:=⟨b,off+i*3+2,none⟩) h1).trans a6⟩
def rC(s:ByteArray):Prop:=∃d r,eG s.data.toList d r/\TT s.data.toList r
theorem nS{c:UInt8}(h1:97<=c.toNat)(h2:c.toNat<=101):rC ⟨#[c]⟩:=⟨_,_,XD h1 h2,XB h1 h2⟩
theorem Vw{s:ByteArray}(h:rC s):rC (⟨#[102,40]⟩++s++⟨#[41]⟩):=by
 obtain⟨d,r,a,b⟩:=h;have e:(⟨#[102,40]⟩++s++⟨#[41]⟩:ByteArray).data.toList=102::40::(s.data.toList++[41]):=by simp[ah8,ai2]
 exact⟨_,_,by rw[e];exact J8 a,by rw[e];exact Si b⟩
theorem Vu{s t:ByteArray}(h:rC s)(g:rC t):rC (⟨#[103,40]⟩++s++⟨#[44]⟩++t++⟨#[41]⟩):=by
 obtain⟨d,r,a,b⟩:=h;obtain⟨d2,r2,a2,b2⟩:=g;have e:(⟨#[103,40]⟩++s++⟨#[44]⟩++t++⟨#[41]⟩:ByteArray).data.toList=103::40::(s.data.toList++44::(t.data.toList++[41])):=by simp[ah8,ai2]
 exact⟨_,_,by rw[e];exact J7 a a2,by rw[e];exact XC b b2 a2⟩
theorem dN(a:Array UInt8):(⟨a⟩:ByteArray).size=a.size:=rfl
theorem Jz{k:Nat}(h:k<5):rC ((⟨#[97,98,99,100,101]⟩:ByteArray).extract k (k+1))/\((⟨#[97,98,99,100,101]⟩:ByteArray).extract k (k+1)).size=1:=by
 have e:k=0\/k=1\/k=2\/k=3\/k=4:=by omega
 rcases e with rfl|rfl|rfl|rfl|rfl
 ·exact⟨(nS (c:=97) (by decide) (by decide) :),by decide⟩
 ·exact⟨(nS (c:=98) (by decide) (by decide) :),by decide⟩
 ·exact⟨(nS (c:=99) (by decide) (by decide) :),by decide⟩
 ·exact⟨(nS (c:=100) (by decide) (by decide) :),by decide⟩
 ·exact⟨(nS (c:=101) (by decide) (by decide) :),by decide⟩
def OZ:Nat->Nat
 |0=>1
 |n+1=>2*OZ n+4
theorem Jv:∀(n deep:Nat),n+deep=3->∀(w:World) (ao:Option Addr) (len cap i:Nat),jd w ao len->i<=len->
  Calls prog 26 #[.slice ao len cap,.int .i64 i,.int .i64 deep] w λe w'=>(∃s:ByteArray,e=.returned (.string s)/\rC s/\s.size<=OZ n)/\Below w.heap.size w w':=by
 intro n
 induction n with
 |zero=>
  intro deep hd w ao len cap i hT hi;have hd3:deep=3:=by omega
  subst hd3;have hm:=hT.1;have R:Hid (rC ⟨#[97]⟩):=nS (c:=97) (by decide) (by decide);clear hT;by_cases hc:(len:Int)<=(i:Int)
  ·go_enter func26,ntmps26
   go_wp2_with fail
   go_ret
   exact⟨⟨_,rfl,ah R,by decide⟩,af5 _ _⟩
  ·go_enter func26,ntmps26
   go_wp2_with fail
   go_ret
   exact⟨⟨_,rfl,ah R,by decide⟩,af5 _ _⟩
 |succ n ih=>
  intro deep hd w ao len cap i hT hi;have hm:=hT.1;have R:Hid (rC ⟨#[97]⟩):=nS (c:=97) (by decide) (by decide);have hd2:(deep:Int)<=2:=by omega
  have hL:1<=OZ (n+1):=by unfold OZ;omega
  have HL:=aj hL;clear hL;by_cases hc:(len:Int)<=(i:Int)
  ·clear hT ih
   go_enter func26,ntmps26
   go_wp2_with fail
   go_ret
   exact⟨⟨_,rfl,ah R,ah HL⟩,af5 _ _⟩
  ·have hil:i<len:=(by omega);obtain⟨b,off,S,A,B,rfl,hb,hx⟩:=hT.2 (by omega);have HT:Hid (jd w (some ⟨b,off,none⟩) len):=hT;obtain⟨s1,s2,s3,c1,c2,c3⟩:=hx i hil;generalize S i=sg at s1 c1;generalize A i=av at s2 c2;generalize B i=bv at s3 c3;have P7:=aj (λw=>kN w sg 7 (by omega) (by omega) s1);have P5:=aj (λw=>kN w sg 5 (by omega) (by omega) s1);have S2:=aj s2;have S3:=aj s3;have IH:Hid (∀(w:World) (x:Nat),jd w (some ⟨b,off,none⟩) len->x<i->Calls prog 26 #[.slice (some ⟨b,off,none⟩) len cap,.int .i64 x,.int .i64 ((deep:Int)+1)] w λe w'=>(∃s:ByteArray,e=.returned (.string s)/\rC s/\s.size<=OZ n)/\Below w.heap.size w w'):=λw x hw hx=>by
    have:=ih (deep+1) (by omega) w (some ⟨b,off,none⟩) len cap x hw (by omega)
    rwa [show((deep+1:Nat):Int)=(deep:Int)+1 by omega]at this
   have Hn:Hid (OZ n<=16):=by
    have:n=0\/n=1\/n=2:=by omega
    show OZ n<=16
    rcases this with rfl|rfl|rfl<;>decide
   have HN:Hid (OZ (n+1)=2*OZ n+4):=rfl;generalize OZ (n+1)=L1 at *;generalize OZ n=L0 at *;clear hx s1 s2 s3 hT ih hc hd;have yS:Hid (Below w.heap.size w (w.alloc (.cells #[.int .i64 sg,.int .i64 av,.int .i64 bv] 64))):=(af5 _ _).alloc (ac2 _) _
   go_enter func26,ntmps26
   go_wp2_with fail
   refine(ah P7 _).mono ?_;rintro e w1 ⟨⟨k,hk,rfl⟩,rfl⟩;by_cases hk5:(k:Int)<5
   ·go_wp2_with fail
    refine(ah P5 _).mono ?_;rintro e w1 ⟨⟨k5,hk5,rfl⟩,rfl⟩;have E5:=aj (Jz hk5)
    go_wp2_with fail
    go_ret
    exact⟨⟨_,rfl,(ah E5).1,by rw[(ah E5).2];exact ah HL⟩,ah yS⟩
   ·by_cases hi0:(i:Int)=0
    ·go_wp2_with fail
     refine(ah P5 _).mono ?_;rintro e w1 ⟨⟨k5,hk5,rfl⟩,rfl⟩;have E5:=aj (Jz hk5)
     go_wp2_with fail
     go_ret
     exact⟨⟨_,rfl,(ah E5).1,by rw[(ah E5).2];exact ah HL⟩,ah yS⟩
    ·have PA:=aj (λw=>kN w av i (by omega) (by omega) (ah S2));have PB:=aj (λw=>kN w bv i (by omega) (by omega) (ah S3));have hib:((i:Int)==0)=false:=by simpa using hi0
     go_wp2_with fail
     refine(ah PA _).mono ?_;rintro e w1 ⟨⟨x,hx,rfl⟩,rfl⟩;have T1:=aj ((ah HT).keep (ah yS))
     go_wp2_with fail
     refine(ah IH _ x (ah T1) hx).mono ?_;rintro e w2 ⟨⟨s,rfl,hs,hz⟩,b2⟩;have B2:=aj ((ah yS).trans (b2.mono (ah yS).size));have HS:=aj hs;have hz2:s.size<=16:=ae4 hz (ah Hn);have HZ:=aj hz;clear hs hz;by_cases hk5:(k:Int)=5
     ·clear hx
      go_wp2_with fail
      go_ret
      refine⟨⟨_,rfl,Vw (ah HS),?_⟩,ah B2⟩;have h1:=ah HZ;have h2:=ah HN;simp only[ah7,dN];simp;omega
     ·have T2:=aj ((ah HT).keep (ah B2));clear hx;have d3:=(b2.cell (p:=⟨w.heap.size,2,none⟩) (by simp)).trans (show(w.alloc (.cells #[.int .i64 sg,.int .i64 av,.int .i64 bv] 64)).cell? ⟨w.heap.size,2,none⟩=some (.int .i64 bv) by go_simp);clear b2
      go_wp2_with fail
      refine(ah PB _).mono ?_;rintro e w1 ⟨⟨x,hx,rfl⟩,rfl⟩
      go_wp2_with fail
      refine(ah IH _ x (ah T2) hx).mono ?_;rintro e w3 ⟨⟨t,rfl,ht,hz⟩,b3⟩;have B3:=aj ((ah B2).trans (b3.mono (ah B2).size));have HT':=aj ht;have hz3:t.size<=16:=ae4 hz (ah Hn);have HZ2:=aj hz;clear ht hz hx b3 d3
      go_wp2_with fail
      go_ret
      refine⟨⟨_,rfl,Vu (ah HS) (ah HT'),?_⟩,ah B3⟩;have h1:=ah HZ;have h3:=ah HZ2;have h2:=ah HN;simp only[ah7,dN];simp;omega
theorem IU(w:World)(s:ByteArray)(way:Int)(hm:s.size<=1000)(hw:way=0\/way=1)(h:ku s≠1) :
  Calls prog 27 #[.string s,.int .i64 way] w λe w'=>e=.returned (.bool true)/\Below w.heap.size w w':=by
 have H:=aj (DC w s ⟨#[]⟩ way (by unfold maxLen;omega) hw (by decide));have h3:=QN s;generalize ku s=c at *;rcases h3 with rfl|rfl|rfl
 ·go_enter func27,ntmps27
  go_wp2_with fail
  refine(ah H).mono ?_;rintro e w1 ⟨rfl,b1⟩
  go_wp2_with fail
  go_ret
  exact⟨rfl,b1⟩
 ·go_enter func27,ntmps27
  go_wp2_with fail
  refine(ah H).mono ?_;rintro e w1 ⟨rfl,b1⟩
  go_wp2_with fail
  go_ret
  exact⟨rfl,b1⟩
 ·exact absurd rfl h
theorem OX(w:World)(s:ByteArray)(way:Int)(hm:s.size<=1000)(hw:way=0\/way=1)(h:ku s≠0) :
  Calls prog 28 #[.string s,.int .i64 way] w λe w'=>e=.returned (.bool true)/\Below w.heap.size w w':=by
 have H:=aj (DC w s ⟨#[]⟩ way (by unfold maxLen;omega) hw (by decide));have h3:=QN s;generalize ku s=c at *;rcases h3 with rfl|rfl|rfl
 ·go_enter func28,ntmps28
  go_wp2_with fail
  refine(ah H).mono ?_;rintro e w1 ⟨rfl,b1⟩
  go_wp2_with fail
  go_ret
  exact⟨rfl,b1⟩
 ·exact absurd rfl h
 ·go_enter func28,ntmps28
  go_wp2_with fail
  refine(ah H).mono ?_;rintro e w1 ⟨rfl,b1⟩
  go_wp2_with fail
  go_ret
  exact⟨rfl,b1⟩
def UA(s:ByteArray):Prop:=s.size<=1000/\ku s≠1
def Xb(s:ByteArray):Prop:=s.size<=1000/\ku s≠0
theorem jG{s:ByteArray}(h:UA s)(way:Int)(hw:way=0\/way=1)(w:World):Calls prog 27 #[.string s,.int .i64 way] w λe w'=>e=.returned (.bool true)/\Below w.heap.size w w':=IU w s way h.1 hw h.2
theorem uS{s:ByteArray}(h:Xb s)(way:Int)(hw:way=0\/way=1)(w:World):Calls prog 28 #[.string s,.int .i64 way] w λe w'=>e=.returned (.bool true)/\Below w.heap.size w w':=OX w s way h.1 hw h.2
theorem JV:prog.cellsOf 64=3:=by kernel_rfl
theorem wf_i64{n:Int}(h:(Lit.int .i64 n).wf=true):I64 n:=by
 simp[Lit.wf,IntKind.min,IntKind.max,IntKind.bits,IntKind.signed]at h;unfold I64;omega
theorem La{H:Type}{enc:TypeId×Value->H}{w:World}{spare:Nat->Bool}{held:Bool}{n:Nat}{cs:List Value}{x:DataW H×List MemPlace}{a:Addr}
 (hc:w.cells? 0 a 3=some cs)(h:DataW.trod enc prog w 0 spare held n 64 cs=some x) :
  ∃(k m l:Int),I64 k/\I64 m/\I64 l/\w.cell? (a.add 0)=some (.int .i64 k)/\w.cell? (a.add 1)=some (.int .i64 m)/\w.cell? (a.add 2)=some (.int .i64 l):=by
 obtain⟨xs,n',_,rfl,hl,hlen,hf⟩:=DataW.trod_struct underlying64 h;rw[JV]at hl
 match xs,hlen with
 |[y0,y1,y2],_=>
 have h0:DataW.trod enc prog w 0 spare held n' 3 ((cs.drop 0).take (prog.cellsOf 3))=some y0:=hf 0 _ rfl;have h1:DataW.trod enc prog w 0 spare held n' 3 ((cs.drop 1).take (prog.cellsOf 3))=some y1:=hf 1 _ rfl;have h2:DataW.trod enc prog w 0 spare held n' 3 ((cs.drop 2).take (prog.cellsOf 3))=some y2:=hf 2 _ rfl;simp only[Ns]at h0 h1 h2
 match cs,hl with
 |[c0,c1,c2],_=>
  obtain⟨k,e0,_,z0⟩:=DataW.trod_int underlying3 h0;obtain⟨m,e1,_,z1⟩:=DataW.trod_int underlying3 h1;obtain⟨l,e2,_,z2⟩:=DataW.trod_int underlying3 h2;simp at e0 e1 e2;subst e0 e1 e2;have hh:=(World.cells?_some hc).2.2;exact⟨k,m,l,wf_i64 z0,wf_i64 z1,wf_i64 z2,by simpa using hh 0 (by omega),by simpa using hh 1 (by omega),by simpa using hh 2 (by omega)⟩
theorem Um:prog.bytesOf 64=24:=by kernel_rfl
theorem yj{H:Type}{enc:TypeId×Value->H}{w:World}{ao:Option Addr}{len cap:Nat}{d:DataW H}{ps:List MemPlace}(h:DataW.Trod enc prog w 0 (λ_=>true) true 42 (.slice ao len cap) d ps)
 (hz:∀elems spare,d=.slice elems spare->(elems.length+spare.length)*prog.bytesOf 64<=reachBytes):jd w ao len:=by
 by_cases h0:len=0
 ·subst h0;exact⟨by omega,λh=>absurd h (by omega)⟩
 ·obtain⟨fuel,hf⟩:=h;rcases Go.Deep.open_slice underlying42 hf with⟨hcs,_⟩|⟨a,len',cap',m,n,D,Pl,hcs,_,hl,hm,hmm,hd,hx⟩
  ·simp[Value.cells]at hcs;exact absurd hcs.2.1 h0
  ·simp[Value.cells]at hcs;obtain⟨rfl,rfl,rfl⟩:=hcs;have hd1:=hz _ _ (Prod.mk.inj hd).1;rw[Um]at hd1;simp only[aj7,ar1]at hd1;have hrb:=reachBytes_lt;have hlen:len<=140737488355328:=(by omega);have hmc:m=cap:=(by simpa using hmm);subst hmc;rw[JV]at hx;have hall:∀i,i<len->∃(k q l:Int),I64 k/\I64 q/\I64 l/\w.cell? ((a.add (i*3)).add 0)=some (.int .i64 k)/\w.cell? ((a.add (i*3)).add 1)=some (.int .i64 q)/\w.cell? ((a.add (i*3)).add 2)=some (.int .i64 l):=λi hi=>by
    obtain⟨cs',h1,h2⟩:=hx i (by omega);exact La h1 h2
   obtain⟨b,off,spot⟩:=a;obtain⟨k0,q0,l0,_,_,_,hc0,_⟩:=hall 0 (by omega);have hspot:spot=none:=(by simpa[Addr.add]using World.cell?_spot hc0);subst hspot;have hb:b<w.heap.size:=(by simpa[Addr.add]using ac5 w _ hc0);simp only[Ro]at hall;have JF:∀i,∃(y:Int×Int×Int),i<len->I64 y.1/\I64 y.2.1/\I64 y.2.2/\w.cell? ⟨b,off+i*3,none⟩=some (.int .i64 y.1)/\w.cell? ⟨b,off+i*3+1,none⟩=some (.int .i64 y.2.1)/\w.cell? ⟨b,off+i*3+2,none⟩=some (.int .i64 y.2.2):=λi=>by
    by_cases hi:i<len
    ·obtain⟨k,q,l,g1,g2,g3,g4,g5,g6⟩:=hall i hi;exact⟨(k,q,l),λ_=>⟨g1,g2,g3,by simpa using g4,by simpa using g5,by simpa using g6⟩⟩
    ·exact⟨(0,0,0),λh=>absurd h hi⟩
   exact⟨hlen,λ_=>⟨b,off,λi=>(JF i).choose.1,λi=>(JF i).choose.2.1,λi=>(JF i).choose.2.2,rfl,hb,λi hi=>(JF i).choose_spec hi⟩⟩
end Go.Proofs.YthcppbmkacbbiaaGreat
