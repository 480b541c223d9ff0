import Derived.Test.YthcppbmkacbbiaaGreatZAT
import Derived.Shelf.Strings.Builder1
import Derived.Shelf.Strings.Builder2
import Derived.Shelf.Strings.OnBuilder
import Derived.Shelf.Small.Bits
import Derived.Shelf.Strings.BuilderF
import Derived.Shelf.Strings.BuilderK
import Derived.Shelf.Strconv.Itoa0
import Derived.Shelf.SlSortCmp.Insertion
import Derived.Shelf.SlSortCmp.SiftDown1
import Derived.Shelf.SlSortCmp.HeapSort1
import Derived.Shelf.SlSortCmp.Insertion1
import Derived.Shelf.SlSortCmp.Median1
import Derived.Shelf.SlSortCmp.Pivot1
import Derived.Shelf.SlSortCmp.ReverseRange1
import Derived.Shelf.SlSortCmp.PartialInsertion1
import Derived.Shelf.SlSortCmp.PartitionEqual1
import Derived.Shelf.SlSortCmp.Partition1
import Derived.Shelf.SlSortCmp.Pdq1
import Derived.Shelf.SlSortCmp.Whole1
import Derived.Lib.Join
set_option linter.unusedSimpArgs false
namespace Go.Proofs.YthcppbmkacbbiaaGreat
open Go.Proofs.Tryz
section
open Go.RowKit Go.Maps Go.WideMaps
open au (Key put)
theorem MR{i n sz j:Nat}(hi:i<n)(hj:j<sz):i*sz+j<n*sz:=by
 have h1:(i+1)*sz<=n*sz:=Nat.mul_le_mul_right sz hi;rw[ap5]at h1;omega
theorem MK{w:World}{base e G:Nat}{ts:List Key}(h:w.ownsRow base e 3 (.slice (some ⟨G,0,none⟩) ts.length ts.length) ts.length (ts.flatMap jF)):dU w G ts:=by
 refine⟨(h.lt G rfl).2,λi hi=>?_⟩;have hc:∀c,c<3->w.cell? ⟨G,i*3+c,none⟩=(jF ts[i])[c]?:=λc hc=>by
  rw[h.cellAt (i*3+c) (MR hi hc)];exact flat_get (k:=3) (λ_=>rfl) (by decide) ts i hi c hc
 exact⟨hc 0 (by decide),hc 1 (by decide),hc 2 (by decide)⟩
theorem Wq{w:World}{base e G:Nat}{cs:List (Int×Nat)}(h:w.ownsRow base e 2 (.slice (some ⟨G,0,none⟩) cs.length cs.length) cs.length (cs.flatMap pK)):iF w G cs:=by
 refine⟨(h.lt G rfl).2,λi hi=>?_⟩;have hc:∀c,c<2->w.cell? ⟨G,i*2+c,none⟩=(pK cs[i])[c]?:=λc hc=>by
  rw[h.cellAt (i*2+c) (MR hi hc)];exact flat_get (k:=2) (λ_=>rfl) (by decide) cs i hi c hc
 exact⟨hc 0 (by decide),hc 1 (by decide)⟩
end
namespace au
def qY(cl:List Int)(hl:List Bool)(acc:List Bool)(q:Key):Bool:=
 if q.1=61 then decide (cl.getD q.2.1 0=cl.getD q.2.2 0)
 else if q.1=80\/q.1=81 then hl.getD q.2.1 false
 else if q.1=33 then !(acc.getD q.2.1 false)
 else jn q.1 (acc.getD q.2.1 false) (acc.getD q.2.2 false)
def iG(cl:List Int)(hl:List Bool)(ps:List Key):List Bool:=ps.foldl (λacc q=>acc++[qY cl hl acc q]) []
section
variable {cl:List Int} {hl:List Bool}
theorem lI(ps:List Key)(q:Key):iG cl hl (ps++[q])=iG cl hl ps++[qY cl hl (iG cl hl ps) q]:=by
 unfold iG;rw[aq5];rfl
theorem Jq(ps:List Key):∀qs:List Key,iG cl hl ps <+: iG cl hl (ps++qs):=by
 intro qs
 induction qs generalizing ps with
 |nil=>simp
 |cons q qs ih=>
  have h:=ih (ps++[q]);rw[lI]at h;have e:ps++q::qs=(ps++[q])++qs:=by simp
  rw[e];exact(as6 _ _).trans h
theorem nZ{ps ps1:List Key}(h:ps <+: ps1):iG cl hl ps <+: iG cl hl ps1:=by
 obtain⟨qs,rfl⟩:=h;exact Jq ps qs
theorem og(ps:List Key):(iG cl hl ps).length=ps.length:=by
 have h:∀qs:List Key,∀ps:List Key,(iG cl hl ps).length=ps.length->(iG cl hl (ps++qs)).length=(ps++qs).length:=by
  intro qs
  induction qs with
  |nil=>intro ps h;simpa using h
  |cons q qs ih=>
   intro ps h;have e:ps++q::qs=(ps++[q])++qs:=(by simp);rw[e];exact ih _ (by rw[lI];simp[h])
 simpa using h ps [] rfl
theorem lU{L L1:List Bool}(h:L <+: L1){i:Nat}(hi:i<L.length):L1.getD i false=L.getD i false:=by
 obtain⟨R,rfl⟩:=h;simp[ag8,ak3 hi]
theorem WH{L L1:List Bool}{nt nc:Nat}{q:Key}(h:L <+: L1)(hq:dX nt nc L.length q):qY cl hl L1 q=qY cl hl L q:=by
 unfold qY;rcases hq with⟨a,b,_⟩|⟨a,b,c⟩|⟨a,_,_⟩|⟨a,_,_⟩
 ·rw[lU h b,a];simp
 ·rw[lU h b,lU h c]
 ·have h1:q.1≠61:=by omega
  rw[af6 h1,af6 h1,af9 a,af9 a]
 ·rw[af9 a,af9 a]
theorem WE{nt nc:Nat}{ps:List Key}(h:bI nt nc ps){j:Nat}(hj:j<ps.length):(iG cl hl ps).getD j false=qY cl hl (iG cl hl ps) ps[j]:=by
 have e:ps.take (j+1)=ps.take j++[ps[j]]:=by rw[ai4,af2 hj];rfl
 have hp:iG cl hl (ps.take (j+1)) <+: iG cl hl ps:=nZ (List.take_prefix _ _);have hp0:iG cl hl (ps.take j) <+: iG cl hl ps:=nZ (List.take_prefix _ _);have hl0:(iG cl hl (ps.take j)).length=j:=by rw[og,al0];omega
 rw[e,lI]at hp;rw[lU hp (by simp[hl0]),WH hp0 (by rw[hl0];exact h.ok j hj)];simp[ag8,hl0]
theorem WC{nt nc:Nat}{ps:List Key}(h:bI nt nc ps){q:Key}(_hq:dX nt nc ps.length q):(iG cl hl (put ps q)).getD (ps.idxOf q) false=qY cl hl (iG cl hl ps) q:=by
 by_cases hm:q∈ps
 ·have e:put ps q=ps:=by unfold au.put;rw[af9 (by simpa using hm)]
  have hlt:=ai5 hm;rw[e,WE h hlt,aj6 hlt]
 ·have e:put ps q=ps++[q]:=by unfold au.put;rw[af6 (by simpa using hm)]
  rw[e,lI,ak0 hm];simp[ag8,og]
end
theorem acN{ts:List Key}(h:Inv ts){cs:List (Int×Nat)}(hcs:iZ ts cs){c:Int×Nat}(hc:WW ts.length c):(cs.map (dw (texts ts))).idxOf (dw (texts ts) c)=cs.idxOf c:=by
 induction cs with
 |nil=>rfl
 |cons x r ih=>
  have hr:iZ ts r:=λy hy=>hcs y (List.mem_cons_of_mem _ hy);rw[aq6,List.idxOf_cons,List.idxOf_cons,ih hr];by_cases e:x=c
  ·subst e;simp
  ·have e1:dw (texts ts) x≠dw (texts ts) c:=λe'=>e (Dp h (hcs x (List.mem_cons_self ..)) hc e');have e2:(dw (texts ts) x==dw (texts ts) c)=false:=(by simpa using e1);have e3:(x==c)=false:=(by simpa using e);rw[e2,e3]
section
variable {l:List UInt8} {cl:List Int} {hl:List Bool}
def VH(cl:List Int)(hl:List Bool)(r:RP)(b:Bool):Prop:=
 match r with
 |.ok (_,_,_,ps1,m)=>b=(iG cl hl ps1).getD m false
 |.error _=>True
theorem uI{ps1:List Key}{a1:Nat}{aK:List Key}{cs1:List (Int×Nat)}{q:Key}{b:Bool}(h:bI aK.length cs1.length ps1)(hq:dX aK.length cs1.length ps1.length q)(hb:b=qY cl hl (iG cl hl ps1) q) :
  VH cl hl (sF (.ok (a1,aK,cs1,ps1,q))) b:=by
 show b=(iG cl hl (put ps1 q)).getD (ps1.idxOf q) false
 rw[WC h hq];exact hb
theorem FW:∀(n a d:Nat) (ts:List Key) (cs:List (Int×Nat)) (ps:List Key),a<=l.length->l.length<a+n->Inv ts->iZ ts cs->bI ts.length cs.length ps->
  VH cl hl (jq (aY l) n a d ts cs ps) (vF l (aY l) cl hl n ⟨a,d,0,texts ts,cs.map (dw (texts ts))⟩):=by
 intro n
 induction n with
 |zero=>intro a d ts cs ps ha hn;omega
 |succ n ih=>
  intro a d ts cs ps ha hn hi hcs hps;unfold jq vF;simp only[MH];by_cases h33:aY l a=33
  ·have hlt:=dQ (l:=l) (a:=a) (by omega);rw[af9 h33,af9 (show decide (aY l a=33)=true by simpa using h33)];have h:=ih (a+1) d ts cs ps (by omega) (by omega) hi hcs hps;have hf:=lW (pk:=aY l) (N:=l.length) (λa h=>dQ h) n (a+1) d ts cs ps (by omega) hps;rcases hR:jq (aY l) n (a+1) d ts cs ps with e|⟨a1,aK,cs1,ps1,m⟩
   ·trivial
   ·rw[hR]at h hf;obtain⟨f1,f2,_⟩:=hf;refine uI f1 (Or.inl ⟨rfl,f2,rfl⟩) ?_;have h':vF l (aY l) cl hl n ⟨a+1,d,0,texts ts,cs.map (dw (texts ts))⟩=(iG cl hl ps1).getD m false:=h;rw[h'];simp[qY]
  ·rw[af6 h33,af6 (show ¬(decide (aY l a=33)=true) by simpa using h33)];by_cases h40:aY l a=40
   ·have hlt:=dQ (l:=l) (a:=a) (by omega);rw[af9 h40,af6 (show ¬((decide (aY l a=80)||decide (aY l a=81))=true) by simp;omega),af9 (show decide (aY l a=40)=true by simpa using h40)];unfold Oy;by_cases h8:d=8
    ·rw[af9 h8];trivial
    ·rw[af6 h8,dM h40 h8];have h:=ih (a+1) (d+1) ts cs ps (by omega) (by omega) hi hcs hps;have hs:=uF (l:=l) n (a+1) (d+1) ts cs (by omega) (by omega) hi hcs;have hok:=ou (pk:=aY l) (N:=l.length) (λa h=>dQ h) n (a+1) (d+1) ts cs (by omega);have hf:=lW (pk:=aY l) (N:=l.length) (λa h=>dQ h) n (a+1) (d+1) ts cs ps (by omega) hps;rw[<-lM (aY l) n (a+1) (d+1) ts cs ps]at hs hok;rcases hR:jq (aY l) n (a+1) (d+1) ts cs ps with e|⟨a1,aK,cs1,ps1,m1⟩
     ·trivial
     ·rw[hR]at h hs hok hf;obtain⟨s1,s2,s3⟩:=hs;obtain⟨o1,o2,_⟩:=hok;obtain⟨f1,f2,f3,f4,f5⟩:=hf;have h':vF l (aY l) cl hl n ⟨a+1,d+1,0,texts ts,cs.map (dw (texts ts))⟩=(iG cl hl ps1).getD m1 false:=h;rw[s1,h']
      show VH cl hl (sF (if aA (aY l a1)=true then _ else _)) _
      by_cases hj:aA (aY l a1)=true
      ·have hlt1:=dQ (l:=l) (a:=a1) (λe=>by rw[e]at hj;simp[aA]at hj);rw[af9 hj];have hjj:List.contains [38,124,62,45] (aY l a1)=true:=(by simpa[aA,or_assoc]using hj);rw[kR hjj];have g:=ih (a1+1) (d+1) aK cs1 ps1 (by omega) (by omega) s2 s3 f1;have gf:=lW (pk:=aY l) (N:=l.length) (λa h=>dQ h) n (a1+1) (d+1) aK cs1 ps1 (by omega) f1;rcases hR2:jq (aY l) n (a1+1) (d+1) aK cs1 ps1 with e|⟨a2,ts2,cs2,ps2,m2⟩
       ·trivial
       ·rw[hR2]at g gf;obtain⟨g1,g2,g3,g4,g5⟩:=gf;have g':vF l (aY l) cl hl n ⟨a1+1,d+1,0,texts aK,cs1.map (dw (texts aK))⟩=(iG cl hl ps2).getD m2 false:=g;rw[g']
        show VH cl hl (sF (if aY l a2=41 then _ else _)) _
        by_cases h41:aY l a2=41
        ·rw[af9 h41];have hle:=g5.length_le;refine uI g1 (Or.inr (Or.inl ⟨hj,by show m1<ps2.length;omega,g2⟩)) ?_;have e1:(iG cl hl ps2).getD m1 false=(iG cl hl ps1).getD m1 false:=lU (nZ g5) (by rw[og];exact f2);have n1:aY l a1≠61:=λe=>by rw[e]at hj;simp[aA]at hj
         have n2:¬(aY l a1=80\/aY l a1=81):=λe=>by rcases e with e|e<;>(rw[e]at hj;simp[aA]at hj)
         have n3:aY l a1≠33:=λe=>by rw[e]at hj;simp[aA]at hj
         unfold qY;rw[af6 n1,af6 n2,af6 n3];simp only;rw[e1]
        ·rw[af6 h41];trivial
      ·rw[af6 hj];trivial
   ·rw[af6 h40];by_cases h8:aY l a=80\/aY l a=81
    ·have hlt:=dQ (l:=l) (a:=a) (by omega);rw[af9 h8,af9 (show(decide (aY l a=80)||decide (aY l a=81))=true by simpa using h8)];have h:=wL (l:=l) (C:=cs.map (dw (texts ts))) (n:=n+1) (d:=d) (kX _) (a:=a+1) (by omega) (by omega) hi;have hok:=jd (pk:=aY l) (N:=l.length) (λa h=>dQ h) (rec:=fF (aY l) (n+1)) (a:=a+1) (d:=d) (ts:=ts) (by omega) (λh40=>dI (λa h=>dQ h) _ _ _ _ (by have:=dQ (l:=l) (a:=a+1) (by omega);omega));unfold Wv;rcases hR:arg1 (aY l) (fF (aY l) (n+1)) (a+1) d ts with e|⟨a1,aK,m⟩
     ·trivial
     ·rw[hR]at h hok;obtain⟨h1,h2,h3,h4,h5,h6⟩:=h;obtain⟨p1,p2,p3,p4,p5⟩:=hok;rw[h1];have hc:WW aK.length (aY l a,m):=⟨h8,h4⟩;have hcut:cut l a a1=dw (texts aK) (aY l a,m):=by
       have hg:=jW (l:=l) (a:=a) (c:=UInt8.ofNat (aY l a).toNat) (by simp;omega) (λe=>by have:=ap7 UInt8.toNat e;simp at this;omega);rw[ku l (show a<=a+1 by omega) (show a+1<=a1 by omega),jZ hg,h5];rfl
      have q:=dW cs (aY l a,m);refine uI (hps.more p3 q.1) (Or.inr (Or.inr (Or.inl ⟨h8,iM _ _,rfl⟩))) ?_;unfold qY;rw[af6 (show(aY l a,cs.idxOf (aY l a,m),0).1≠(61:Int) by show aY l a≠61;omega),af9 h8];simp only[hcut];rw[<-qO h3 hcs,acN h2 (hcs.more h3) hc]
    ·rw[af6 h8,af6 (show ¬((decide (aY l a=80)||decide (aY l a=81))=true) by simpa using h8),af6 (show ¬(decide (aY l a=40)=true) by simpa using h40)];unfold Eh;have h:=kX (l:=l) (C:=cs.map (dw (texts ts))) (n+1) a d ts ha (by omega) hi;have hok:=dI (pk:=aY l) (N:=l.length) (λa h=>dQ h) (n+1) a d ts ha;rcases hR:fF (aY l) (n+1) a d ts with e|⟨a1,aK,m1⟩
     ·trivial
     ·rw[hR]at h hok;obtain⟨h1,h2,h3,h4,h5,h6⟩:=h;obtain⟨p1,p2,p3,p4,p5⟩:=hok
      show VH cl hl (sF (if aY l a1=61 then _ else _)) _
      rw[h1];by_cases h61:aY l a1=61
      ·rw[af9 h61];have hlt:=dQ (l:=l) (a:=a1) (by omega);simp only;rw[kR (by simpa using h61)];have g:=kX (l:=l) (C:=cs.map (dw (texts ts))) (n+1) (a1+1) d aK (by omega) (by omega) h2;have gok:=dI (pk:=aY l) (N:=l.length) (λa h=>dQ h) (n+1) (a1+1) d aK (by omega);rcases hR2:fF (aY l) (n+1) (a1+1) d aK with e|⟨a2,ts2,m2⟩
       ·trivial
       ·rw[hR2]at g gok;obtain⟨g1,g2,g3,g4,g5,g6⟩:=g;obtain⟨q1,q2,q3,q4,q5⟩:=gok;rw[g1];refine uI (hps.more (by omega) (af0 _)) (Or.inr (Or.inr (Or.inr ⟨rfl,by show m1<ts2.length;omega,q5⟩))) ?_;simp[qY]
      ·rw[af6 h61];trivial
end
end au
section
open Go.RowKit Go.Maps Go.WideMaps
open au (Key put dX qY jn aA)
attribute [local go_sem] Oper.semAt_some
theorem NZ(w:World)(o p:Obj):Below w.heap.size w ((w.alloc o).alloc p):=by
 have h:w.grownBy ((w.alloc o).alloc p) none:=(ae9 _ _ none).trans (ae9 _ _ none);exact⟨h.os,h.tape,h.output,h.size,λj hj=>h.block j hj (by simp)⟩
end
section
open Go.RowKit Go.Maps Go.WideMaps
open au (Key put dX qY jn aA iG bI)
attribute [local go_sem] Oper.semAt_some
theorem Nc:(prog.info? 4).map (λi=>(i.zero,i.size,i.bytes))=some (some (.bool false),1,1):=by kernel_rfl
theorem zQ(w:World)(x:Bool)(t:TypeId)(n:Nat)(hn:w.heap.size=n):∀j u,[Value.bool x][j]?=some u->(w.alloc (.cells #[.bool x] t)).cell? ((⟨n,0,none⟩:Addr).add j)=some u:=by
 subst hn;intro j u hj;cases j with
 |zero=>simp at hj;subst hj;simp[Addr.add]
 |succ j=>simp at hj
theorem YR(x:Bool):∀u∈[Value.bool x],u.oneCell'=true:=by intro u hu;simp at hu;subst hu;rfl
end
section
open Go.RowKit Go.Maps Go.WideMaps
open au (Key put dX qY jn aA iG bI)
def isM(f:Nat->Nat)(ts:List Key)(cs:List (Int×Nat))(ps:List Key)(cl:List Int)(hl:List Bool):Bool:=
 decide (∀p∈dJ (mkd f ts) ts.length,f p.1=f p.2)&&decide (∀p∈dJ (OO f cs) cs.length,hl.getD p.1 false=hl.getD p.2 false)&&(iG cl hl ps).getD (ps.length-1) false
end
open au (Key Inv iZ texts rend dw jy Bal inn kT rO)
theorem F5{ts:List Key}(h:Inv ts){x:Nat}(hx:x<ts.length):(texts ts).getD x []≠[]:=by
 rw[h.get x hx];rcases au.jJ (T:=texts ts) (h.key x hx)with⟨c,e,_⟩|⟨_,_,e⟩|⟨_,_,_,e⟩<;>rw[e]<;>simp
theorem Df{ts:List Key}(h:Inv ts){x:Nat}(hx:x<ts.length):(texts ts).idxOf ((texts ts).getD x [])=x:=by
 have hx':x<(texts ts).length:=by rw[au.aW];exact hx
 have e:(texts ts).getD x []=(texts ts)[x]:=by rw[ag8,af2 hx'];rfl
 rw[e];have hm:(texts ts)[x]∈texts ts:=af4 hx';have hlt:(texts ts).idxOf (texts ts)[x]<(texts ts).length:=ai5 hm;have he:(texts ts)[(texts ts).idxOf (texts ts)[x]]=(texts ts)[x]:=aj6 hlt;have hp:=an5.1 h.nd;rcases as7 ((texts ts).idxOf (texts ts)[x]) x with h1|h1|h1
 ·exact absurd he (hp _ _ hlt hx' h1)
 ·exact h1
 ·exact absurd he.symm (hp _ _ hx' hlt h1)
theorem ER{ts:List Key}(h:Inv ts)(cl:List Int){x y:Nat}(hx:x<ts.length)(hy:y<ts.length):FM (texts ts) cl ((texts ts).getD x []) ((texts ts).getD y [])=decide (cl.getD x 0=cl.getD y 0):=by
 unfold FM;rw[af6 (by intro e;rcases e with e|e;exact F5 h hx e;exact F5 h hy e),Df h hx,Df h hy]
theorem XB(T:List (List UInt8))(cl:List Int):FM T cl [] []=true:=by unfold FM;simp
theorem IJ{ts:List Key}(h:Inv ts){cl:List Int}{f:Nat->Nat}(hcl:∀i j,i<ts.length->j<ts.length->(f i=f j↔cl.getD i 0=cl.getD j 0)){i k:Nat}(hi:i<ts.length)(hk:k<ts.length) :
  yF (texts ts) cl i k=true↔(ts[i].1=ts[k].1/\f ts[i].2.1=f ts[k].2.1/\f ts[i].2.2=f ts[k].2.2)/\f i≠f k:=by
 unfold yF;rw[h.get i hi,h.get k hk];have k1:=h.key i hi;have k2:=h.key k hk;have b:∀x,x<ts.length->Bal ((texts ts).getD x []):=λx hx=>h.bal (x+1) x (by omega) hx;have hne:f i≠f k↔cl.getD i 0≠cl.getD k 0:=not_congr (hcl i k hi hk);rcases k1 with⟨a1,a2,a3,a4⟩|⟨a1,a2,a3⟩|⟨a1,a2,a3⟩
 ·have e1:rend (texts ts) ts[i]=[UInt8.ofNat ts[i].1.toNat]:=by unfold rend;rw[af6 (by omega),af6 (by omega)]
  rw[e1];constructor
  ·intro e;simp at e
  ·rintro⟨⟨q1,_,_⟩,q4⟩;exfalso;rcases k2 with⟨c1,c2,c3,c4⟩|⟨c1,c2,c3⟩|⟨c1,c2,c3⟩
   ·apply q4;have he:ts[i]=ts[k]:=Prod.ext q1 (Prod.ext (by omega) (by omega));have hp:=an5.1 h.nodup;rcases as7 i k with h1|h1|h1
    ·exact absurd he (hp _ _ hi hk h1)
    ·rw[h1]
    ·exact absurd he.symm (hp _ _ hk hi h1)
   ·omega
   ·omega
 ·have e1:rend (texts ts) ts[i]=102::40::((texts ts).getD ts[i].2.1 []++[41]):=by unfold rend;rw[af9 a1]
  rw[e1];rcases k2 with⟨c1,c2,c3,c4⟩|⟨c1,c2,c3⟩|⟨c1,c2,c3⟩
  ·have e2:rend (texts ts) ts[k]=[UInt8.ofNat ts[k].1.toNat]:=(by unfold rend;rw[af6 (by omega),af6 (by omega)]);rw[e2];constructor
   ·intro e;simp at e
   ·rintro⟨⟨q1,_,_⟩,_⟩;omega
  ·have e2:rend (texts ts) ts[k]=102::40::((texts ts).getD ts[k].2.1 []++[41]):=(by unfold rend;rw[af9 c1]);rw[e2,kT (b _ (by omega)),kT (b _ (by omega)),XB,ER h cl (by omega) (by omega),hne,hcl _ _ (by omega) (by omega),a1,c1,a3,c3];simp[and_comm]
  ·have e2:rend (texts ts) ts[k]=103::40::((texts ts).getD ts[k].2.1 []++44::((texts ts).getD ts[k].2.2 []++[41])):=(by unfold rend;rw[af6 (by omega),af9 c1]);rw[e2];constructor
   ·intro e;simp at e
   ·rintro⟨⟨q1,_,_⟩,_⟩;omega
 ·have e1:rend (texts ts) ts[i]=103::40::((texts ts).getD ts[i].2.1 []++44::((texts ts).getD ts[i].2.2 []++[41])):=by unfold rend;rw[af6 (by omega),af9 a1]
  rw[e1];rcases k2 with⟨c1,c2,c3,c4⟩|⟨c1,c2,c3⟩|⟨c1,c2,c3⟩
  ·have e2:rend (texts ts) ts[k]=[UInt8.ofNat ts[k].1.toNat]:=(by unfold rend;rw[af6 (by omega),af6 (by omega)]);rw[e2];constructor
   ·intro e;simp at e
   ·rintro⟨⟨q1,_,_⟩,_⟩;omega
  ·have e2:rend (texts ts) ts[k]=102::40::((texts ts).getD ts[k].2.1 []++[41]):=(by unfold rend;rw[af9 c1]);rw[e2];constructor
   ·intro e;simp at e
   ·rintro⟨⟨q1,_,_⟩,_⟩;omega
  ·have e2:rend (texts ts) ts[k]=103::40::((texts ts).getD ts[k].2.1 []++44::((texts ts).getD ts[k].2.2 []++[41])):=(by unfold rend;rw[af6 (by omega),af9 c1]);rw[e2,rO (b _ (by omega)),rO (b _ (by omega)),ER h cl (by omega) (by omega),ER h cl (by omega) (by omega),hne,hcl _ _ (by omega) (by omega),hcl _ _ (by omega) (by omega),a1,c1];simp[and_comm,and_assoc]
end Go.Proofs.YthcppbmkacbbiaaGreat
