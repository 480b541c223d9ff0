import Derived.Test.YthcppbmkacbbiabGreatWBG
set_option linter.unusedSimpArgs false
set_option maxHeartbeats 4000000
set_option maxRecDepth 100000
namespace Go.Proofs.YthcppbmkacbbiabGreat
open Go.Proofs.Tryz
open Go.RowKit Go.Maps Go.WideMaps
open Sat (View Rule jk bG)
section
open aB (Key put dJ au)
theorem Jb(w:World)(lb:Nat)(Us:List Key)(acc:List aU)(x y g vc:Nat)(hV:rZ w g (acc.map (vw Us)))(hx:x<acc.length) :
  Calls prog 123 #[.pointer (some ⟨lb,0,none⟩),aS (33,x,y),.slice (some ⟨g,0,none⟩) acc.length vc] w λe w'=>e=.returned (vV (vw Us (nl acc[x])))/\w.grownBy w' none:=by
 obtain⟨cur,cx,bV,hcur⟩:=hV;have hcf:=hcur x (by simpa using hx);simp only[ak0]at hcf;have hvn:vw Us (nl acc[x])=((vw Us acc[x]).1,!(vw Us acc[x]).2):=rfl;rw[hvn];generalize vw Us acc[x]=u at hcf;obtain⟨xf,jf⟩:=u;simp only at hcf ⊢;have hgx:=(ad3.1 bV).1;have hxi:(x:Int)<(acc.length:Int):=by omega
 have hgA:w.grownBy ((w.alloc (.cells #[.int .u8 33,.int .i64 x,.int .i64 y] 82)).alloc (.cells #[.int .i64 0,.bool false] 207)) none:=(ad4 _ _ none).trans (ad4 _ _ none);have bA:=(hgA.block g hgx (by simp)).trans bV;have b6:((w.alloc (.cells #[.int .u8 33,.int .i64 x,.int .i64 y] 82)).alloc (.cells #[.int .i64 0,.bool false] 207)).heap[w.heap.size+1]?=some (.cells #[.int .i64 0,.bool false] 207 (0,0)):=by
  have e:w.heap.size+1=(w.alloc (.cells #[.int .u8 33,.int .i64 x,.int .i64 y] 82)).heap.size:=by simp
  rw[e,ae9]
 have a0:=(cell_of bA (x*2)).trans hcf.1;have a1:=(cell_of bA (x*2+1)).trans hcf.2;have p0:((w.alloc (.cells #[.int .u8 33,.int .i64 x,.int .i64 y] 82)).alloc (.cells #[.int .i64 0,.bool false] 207)).cell? ⟨w.heap.size,0,none⟩=some (.int .u8 33):=by simp[go_sem]
 have p1:((w.alloc (.cells #[.int .u8 33,.int .i64 x,.int .i64 y] 82)).alloc (.cells #[.int .i64 0,.bool false] 207)).cell? ⟨w.heap.size,1,none⟩=some (.int .i64 x):=by simp[go_sem]
 obtain⟨W0,hW0⟩:∃W0,(w.alloc (.cells #[.int .u8 33,.int .i64 x,.int .i64 y] 82)).alloc (.cells #[.int .i64 0,.bool false] 207)=W0:=⟨_,rfl⟩;rw[hW0]at hgA bA b6 a0 a1 p0 p1;have aaC:=fJ xf jf W0;unfold vV;simp only[aS];clear hcur hcf bV
 go_enter func123,ntmps123
 go_wp2_with fail
 clear hW0;refine aaC.mono ?_;rintro e w1 ⟨rfl,hg1⟩;have b63:=(hg1.block _ (ad3.1 b6).1 (by simp)).trans b6;have s0:w1.cell? ⟨w.heap.size+1,0,none⟩=some (.int .i64 0):=by rw[cell_of b63];rfl
 have s1:w1.cell? ⟨w.heap.size+1,1,none⟩=some (.bool false):=by rw[cell_of b63];rfl
 have f0:w1.frozen? ⟨w.heap.size+1,0,none⟩=false:=by simp[World.frozen?,b63]
 have f1:w1.frozen? ⟨w.heap.size+1,1,none⟩=false:=by simp[World.frozen?,b63]
 have hs3:w.heap.size+1<w1.heap.size:=(ad3.1 b63).1;have hbF:((w1.setCell ⟨w.heap.size+1,0,none⟩ (.int .i64 xf)).setCell ⟨w.heap.size+1,1,none⟩ (.bool (!jf))).heap[w.heap.size+1]?=some (.cells #[.int .i64 xf,.bool (!jf)] 207 (0,0)):=by
  rw[heap_setCell_same (heap_setCell_same b63)]
  congr 2
 have hgF:w.grownBy ((w1.setCell ⟨w.heap.size+1,0,none⟩ (.int .i64 xf)).setCell ⟨w.heap.size+1,1,none⟩ (.bool (!jf))) none:=iF (iF (hgA.trans hg1) (by show w.heap.size<=w.heap.size+1;omega) _) (by show w.heap.size<=w.heap.size+1;omega) _;have Q1:=aj hbF;have Q2:=aj hgF;clear hgA hg1 hbF hgF
 go_wp2_with fail
 obtain⟨WF,hWF⟩:∃WF,(w1.setCell ⟨w.heap.size+1,0,none⟩ (.int .i64 xf)).setCell ⟨w.heap.size+1,1,none⟩ (.bool (!jf))=WF:=⟨_,rfl⟩;rw[hWF]at Q1 Q2 ⊢;have x0:WF.cell? ⟨w.heap.size+1,0,none⟩=some (.int .i64 xf):=by rw[cell_of (ah Q1)];rfl
 have x1:WF.cell? ⟨w.heap.size+1,1,none⟩=some (.bool (!jf)):=by rw[cell_of (ah Q1)];rfl
 exact ag3 (v:=.agg #[.int .i64 xf,.bool (!jf)]) (by simp[results,results123,go_sem,x0,x1]) rfl ⟨rfl,ah Q2⟩
theorem F8(n0:Nat)(w:World)(lb BU BS:Nat)(f:Key->Key)(dom:Key->Prop)(Us:List Key)(ak:List Rule)(X:Nat->Prop)(p:Key)(v:Value)(h:LG n0 w lb BU BS f dom Us ak X)(hUs:Us.length<=1000)(hp:dom p)(hfp:dom (f p))(hff:f (f p)=f p)
 (hb:(0<=p.1/\p.1<=255)/\p.2.1<=1000/\p.2.2<=1000)(hbf:(0<=(f p).1/\(f p).1<=255)/\(f p).2.1<=1000/\(f p).2.2<=1000)(hs:p.1=61\/p.1=80\/p.1=81) :
  Calls prog 123 #[.pointer (some ⟨lb,0,none⟩),aS p,v] w λe w'=>e=.returned (vV (Us.idxOf (f p),true))/\LG n0 w' lb BU BS f dom (put Us (f p)) ak X/\w.grownBy w' (some BU):=by
 have hgA:w.grownBy ((w.alloc (.cells #[.int .u8 p.1,.int .i64 p.2.1,.int .i64 p.2.2] 82)).alloc (.cells #[.int .i64 0,.bool false] 207)) none:=(ad4 _ _ none).trans (ad4 _ _ none);have hso:=uP n0 _ lb BU BS f dom Us ak X p (h.grow hgA) hUs hp hfp hff hb hbf;have b6:((w.alloc (.cells #[.int .u8 p.1,.int .i64 p.2.1,.int .i64 p.2.2] 82)).alloc (.cells #[.int .i64 0,.bool false] 207)).heap[w.heap.size+1]?=some (.cells #[.int .i64 0,.bool false] 207 (0,0)):=by
  have e:w.heap.size+1=(w.alloc (.cells #[.int .u8 p.1,.int .i64 p.2.1,.int .i64 p.2.2] 82)).heap.size:=by simp
  rw[e,ae9]
 have bP:((w.alloc (.cells #[.int .u8 p.1,.int .i64 p.2.1,.int .i64 p.2.2] 82)).alloc (.cells #[.int .i64 0,.bool false] 207)).heap[w.heap.size]?=some (.cells #[.int .u8 p.1,.int .i64 p.2.1,.int .i64 p.2.2] 82 (0,0)):=by
  rw[ae3 _ _ _ (by simp),ae9]
 have hBl:=h.us.lt;have HLG:=aj h;have hnb:p.1≠33/\p.1≠38/\p.1≠124/\p.1≠62/\p.1≠45:=by omega
 clear h hp hfp hff hs;generalize f p=q at hso hbf ⊢;generalize Us.idxOf q=ix at hso ⊢;obtain⟨pc,px,py⟩:=p;simp only at hnb hgA b6 bP hb;obtain⟨n1,n2,n3,n4,n5⟩:=hnb;unfold vV at hso ⊢;simp only[aS]at hso ⊢
 go_enter func123,ntmps123
 go_wp2_with fail
 refine hso.mono ?_;rintro e w1 ⟨rfl,iK,hg1⟩;have hM1:=iK.us;have b63:=(hg1.block _ (ad3.1 b6).1 (by simp;omega)).trans b6;have bP3:=(hg1.block _ (ad3.1 bP).1 (by simp;omega)).trans bP;obtain⟨w2,hw2⟩:∃w2,w1.alloc (.cells #[.int .i64 ix,.bool true] 207)=w2:=⟨_,rfl⟩;have hg2:w1.grownBy w2 none:=by rw[<-hw2];exact ad4 _ _ none
 have bW2:w2.heap[w1.heap.size]?=some (.cells #[.int .i64 ix,.bool true] 207 (0,0)):=by rw[<-hw2,ae9]
 have b64:=(hg2.block _ (ad3.1 b63).1 (by simp)).trans b63;have bP4:=(hg2.block _ (ad3.1 bP3).1 (by simp)).trans bP3;have k0:w2.cell? ⟨w.heap.size,0,none⟩=some (.int .u8 pc):=by rw[cell_of bP4];rfl
 have r0:w2.cell? ⟨w1.heap.size,0,none⟩=some (.int .i64 ix):=by rw[cell_of bW2];rfl
 have r1:w2.cell? ⟨w1.heap.size,1,none⟩=some (.bool true):=by rw[cell_of bW2];rfl
 have s0:w2.cell? ⟨w.heap.size+1,0,none⟩=some (.int .i64 0):=by rw[cell_of b64];rfl
 have s1:w2.cell? ⟨w.heap.size+1,1,none⟩=some (.bool false):=by rw[cell_of b64];rfl
 have f0:w2.frozen? ⟨w.heap.size+1,0,none⟩=false:=by simp[World.frozen?,b64]
 have f1:w2.frozen? ⟨w.heap.size+1,1,none⟩=false:=by simp[World.frozen?,b64]
 have hs3:w.heap.size+1<w2.heap.size:=(ad3.1 b64).1;have hs4:w1.heap.size<w2.heap.size:=(ad3.1 bW2).1;have hbF:((w2.setCell ⟨w.heap.size+1,0,none⟩ (.int .i64 ix)).setCell ⟨w.heap.size+1,1,none⟩ (.bool true)).heap[w.heap.size+1]?=some (.cells #[.int .i64 ix,.bool true] 207 (0,0)):=by
  rw[heap_setCell_same (heap_setCell_same b64)]
  congr 2
 have hgF:w.grownBy ((w2.setCell ⟨w.heap.size+1,0,none⟩ (.int .i64 ix)).setCell ⟨w.heap.size+1,1,none⟩ (.bool true)) (some BU):=iF (iF (((hgA.but (some BU)).trans hg1).trans (hg2.but (some BU))) (by show w.heap.size<=w.heap.size+1;omega) _) (by show w.heap.size<=w.heap.size+1;omega) _;have hMF:aH ((w2.setCell ⟨w.heap.size+1,0,none⟩ (.int .i64 ix)).setCell ⟨w.heap.size+1,1,none⟩ (.bool true)) 82 BU aS (put Us q):=hM1.kept (by rw[af4 _ _ _ _ (by show BU≠w.heap.size+1;omega),af4 _ _ _ _ (by show BU≠w.heap.size+1;omega)];exact hg2.block BU hM1.lt (by simp));have Q1:=aj hbF;have Q2:=aj hgF;have Q3:=aj hMF;clear hgA hg1 hbF hgF hMF iK hM1 hso b6 bP b63 bP3 hg2
 go_wp2_with fail
 obtain⟨WF,hWF⟩:∃WF,(w2.setCell ⟨w.heap.size+1,0,none⟩ (.int .i64 ix)).setCell ⟨w.heap.size+1,1,none⟩ (.bool true)=WF:=⟨_,rfl⟩;rw[hWF]at Q1 Q2 Q3 ⊢;have x0:WF.cell? ⟨w.heap.size+1,0,none⟩=some (.int .i64 ix):=by rw[cell_of (ah Q1)];rfl
 have x1:WF.cell? ⟨w.heap.size+1,1,none⟩=some (.bool true):=by rw[cell_of (ah Q1)];rfl
 exact ag3 (v:=.agg #[.int .i64 ix,.bool true]) (by simp[results,results123,go_sem,x0,x1]) rfl ⟨rfl,(ah HLG).unk (ah Q2) (ah Q3),ah Q2⟩
end
open aB (Key put dJ au aQ)
structure Vh(f:Key->Key)(dom:Key->Prop)(nt:Nat):Prop where
 I8:∀p:Key,(p.1=61->p.2.1<nt/\p.2.2<nt)->dom p
 eq:∀a b,a<nt->b<nt->∃c d,f (61,a,b)=(61,c,d)/\c<nt/\d<nt/\f (61,c,d)=(61,c,d)
 other:∀p:Key,p.1≠61->f p=p
def DF(f:Key->Key)(Us:List Key)(p:Key):List Key:=if p.1=33 then Us else put Us (f p)
def zB(f:Key->Key)(acc:List aU)(p:Key):aU:=if p.1=33 then nl (acc.getD p.2.1 ((0,0,0),false))else(f p,true)
theorem DC(f:Key->Key)(Us:List Key)(p:Key):Us <+: DF f Us p:=by
 unfold DF;by_cases e:p.1=33
 ·rw[af6 e];exact al1 _
 ·rw[af2 e];exact fH _ _
theorem Je(X:Nat->Prop)(n0:Nat)(w:World)(lb BU BS:Nat)(f:Key->Key)(dom:Key->Prop)(Us:List Key)(ak:List Rule)(L:List (List aU))(acc:List aU)(p:Key)(g vc nt nc:Nat)(iQ:LG n0 w lb BU BS f dom Us ak X)(hX:∀k,X k->k<w.heap.size)(kY:jW Us ak L)(hUs:Us.length<=900)
 (hacc:∀l∈acc,l.1∈Us)(hV:rZ w g (acc.map (vw Us)))(hal:acc.length<=500)(hp:dJ nt nc acc.length p)(hnt:nt<=1000)(hnc:nc<=1000)(hsm:Vh f dom nt)(hn:n0<=w.heap.size)(hR:L.length<=80000) :
  Calls prog 123 #[.pointer (some ⟨lb,0,none⟩),aS p,.slice (some ⟨g,0,none⟩) acc.length vc] w λe w'=>∃aK,e=.returned (vV (vw (DF f Us p) (zB f acc p)))/\LG n0 w' lb BU BS f dom (DF f Us p) aK X/\jW (DF f Us p) aK (L++xM f acc p)/\Below n0 w w'/\VK w w':=by
 have hbd:=hp.bd hnt hnc (by omega:acc.length<=1000);have atom:(p.1=61\/p.1=80\/p.1=81)->dom p->dom (f p)->f (f p)=f p->((0<=(f p).1/\(f p).1<=255)/\(f p).2.1<=1000/\(f p).2.2<=1000)->
   Calls prog 123 #[.pointer (some ⟨lb,0,none⟩),aS p,.slice (some ⟨g,0,none⟩) acc.length vc] w λe w'=>∃aK,e=.returned (vV (vw (DF f Us p) (zB f acc p)))/\LG n0 w' lb BU BS f dom (DF f Us p) aK X/\jW (DF f Us p) aK (L++xM f acc p)/\Below n0 w w'/\VK w w':=λhs h1 h2 h3 h4=>by
  have e33:p.1≠33:=by omega
  have ed:xM f acc p=[]:=by
   unfold xM;rw[af2 (by omega),af2 (by omega),af2 (by omega),af2 (by omega)]
  have e1:DF f Us p=put Us (f p):=af2 e33;have e2:zB f acc p=(f p,true):=af2 e33;rw[e1,e2,ed,ak9];refine(F8 n0 w lb BU BS f dom Us ak X p _ iQ (by omega) h1 h2 h3 hbd h4 hs).mono ?_;rintro e w' ⟨rfl,g1,g2⟩;refine⟨ak,?_,g1,kY.so _,iQ.below hn g2,VK.map g2 iQ.us.Oe⟩
  show Ending.returned (vV (Us.idxOf (f p),true))=Ending.returned (vV ((put Us (f p)).idxOf (f p),true))
  rw[gq]
 rcases hp with⟨a,b,_⟩|⟨a,b,c⟩|⟨a,b,c⟩|⟨a,b,c⟩
 ·obtain⟨pc,px,py⟩:=p;simp only at a b;subst a;have e1:DF f Us (33,px,py)=Us:=by simp[DF]
  have e2:zB f acc (33,px,py)=nl acc[px]:=by
   show(if (33:Int)=33 then nl (acc.getD px ((0,0,0),false))else _)=_
   rw[af6 rfl,aG b]
  have ed:xM f acc (33,px,py)=[]:=by simp[xM]
  rw[e1,e2,ed,ak9];refine(Jb w lb Us acc px py g vc hV b).mono ?_;rintro e w' ⟨rfl,hg⟩;exact⟨ak,rfl,iQ.grow hg,kY,(But.aA hg).below hn (λk _ e=>by cases e),VK.grown hg⟩
 ·have h61:p.1≠61:=by intro e;rw[e]at a;simp[au]at a
  have h33:p.1≠33:=by intro e;rw[e]at a;simp[au]at a
  have hfp:=hsm.other p h61;have hdp:=hsm.I8 p (λe=>absurd e h61);have e1:DF f Us p=put Us p:=by unfold DF;rw[af2 h33,hfp]
  have e2:zB f acc p=(p,true):=by unfold zB;rw[af2 h33,hfp]
  rw[e1,e2];obtain⟨pc,px,py⟩:=p;simp only at a b c h61 h33;have hj:pc=38\/pc=124\/pc=62\/pc=45:=by simpa[au,or_assoc]using a
  rcases hj with e|e|e|e
  ·subst e;exact Jf X n0 w lb BU BS f dom Us ak L acc px py g vc iQ hX kY hUs hacc hV b c hal hdp hfp hn hR
  ·subst e;exact NJ X n0 w lb BU BS f dom Us ak L acc px py g vc iQ hX kY hUs hacc hV b c hal hdp hfp hn hR
  ·subst e;exact Jc X n0 w lb BU BS f dom Us ak L acc px py g vc iQ hX kY hUs hacc hV b c hal hdp hfp hn hR
  ·subst e;exact Jd X n0 w lb BU BS f dom Us ak L acc px py g vc iQ hX kY hUs hacc hV b c hal hdp hfp hn hR
 ·have hfp:=hsm.other p (by omega);have hdp:=hsm.I8 p (λe=>by omega);exact atom (Or.inr a) hdp (by rw[hfp];exact hdp) (by rw[hfp,hfp]) (by rw[hfp];exact hbd)
 ·obtain⟨c',d',q1,q2,q3,q4⟩:=hsm.eq p.2.1 p.2.2 b c;have hpe:p=(61,p.2.1,p.2.2):=by rw[<-a]
  rw[<-hpe]at q1;have hdp:=hsm.I8 p (λ_=>⟨b,c⟩);refine atom (Or.inl a) hdp (by rw[q1];exact hsm.I8 _ (λ_=>⟨q2,q3⟩)) (by rw[q1,q4]) (by rw[q1];exact⟨by simp,by show c'<=1000;omega,by show d'<=1000;omega⟩)
def mV(f:Key->Key)(Us:List Key)(ps:List Key)(k:Nat):List Key:=(ps.take k).foldl (DF f) Us
theorem lJ{f:Key->Key}{Us ps:List Key}{k:Nat}(hk:k<ps.length):mV f Us ps (k+1)=DF f (mV f Us ps k) ps[k]:=by
 unfold mV;rw[ah1,ad6 hk,an8];rfl
theorem Tc(f:Key->Key)(Us ps:List Key):∀k,(mV f Us ps k).length<=Us.length+k:=by
 intro k
 induction k with
 |zero=>simp[mV]
 |succ k ih=>
  by_cases hk:k<ps.length
  ·rw[lJ hk];unfold DF;split
   ·omega
   ·have:=JO (mV f Us ps k) (f ps[k]);omega
  ·have:mV f Us ps (k+1)=mV f Us ps k:=by
    unfold mV;rw[ah5 (by omega),ah5 (by omega)]
   rw[this];omega
theorem Bg{f:Key->Key}{ps:List Key}{k:Nat}(hk:k<ps.length):lits f (ps.take (k+1))=lits f (ps.take k)++[zB f (lits f (ps.take k)) ps[k]]:=by
 have e:ps.take (k+1)=ps.take k++[ps[k]]:=by rw[ah1,ad6 hk];rfl
 rw[e,uY];rfl
theorem PG{f:Key->Key}{Us ps:List Key}{nt nc:Nat}(hi:aQ nt nc ps):∀k,k<=ps.length->∀l∈lits f (ps.take k),l.1∈mV f Us ps k:=by
 intro k
 induction k with
 |zero=>intro _ l hl;simp[lits]at hl
 |succ k ih=>
  intro hk l hl;have hk':k<ps.length:=by omega
  rw[Bg hk']at hl;rw[lJ hk'];rcases ag9.1 hl with hl|hl
  ·exact(DC _ _ _).mem (ih (by omega) l hl)
  ·rw[ag0.1 hl];unfold zB DF;by_cases e:ps[k].1=33
   ·rw[af6 e,af6 e];rcases hi.ok k hk' with⟨_,b,_⟩|⟨a,_⟩|⟨a,_⟩|⟨a,_⟩
    ·have hlen:ps[k].2.1<(lits f (ps.take k)).length:=(by rw[iE];simp;omega);rw[aG hlen];have:=ih (by omega) _ (ad8 hlen);exact this
    ·rw[e]at a;simp[au]at a
    ·omega
    ·omega
   ·rw[af2 e,af2 e];exact aT _ _
theorem OH{w w':World}{base:Nat}{v:Value}{n:Nat}{xs:List Value}(h:w.ownsRow base 207 2 v n xs)(hk:VK w w'):w'.ownsRow base 207 2 v n xs:=by
 obtain⟨h1,h2⟩:=h;refine⟨h1,?_⟩;rcases h2 with h2|⟨g,cap,cur,e,q1,q2,q3⟩
 ·exact Or.inl h2
 ·exact Or.inr ⟨g,cap,cur,e,q1,aI hk q2,q3⟩
theorem VP(vs:List View):∀i (hi:i<vs.length),(vcs vs)[i*2]?=some (.int .i64 vs[i].1)/\(vcs vs)[i*2+1]?=some (.bool vs[i].2):=by
 induction vs with
 |nil=>intro i hi;simp at hi
 |cons v vs ih=>
  intro i hi;cases i with
  |zero=>simp[vcs,BD]
  |succ i=>
   have:=ih i (by simpa using hi);have e:vcs (v::vs)=.int .i64 v.1::.bool v.2::vcs vs:=(by simp[vcs,BD]);rw[e];have e1:(i+1)*2=i*2+1+1:=(by omega);rw[e1];simpa using this
theorem AQ{w:World}{base g n cap:Nat}{vs:List View}(h:w.ownsRow base 207 2 (.slice (some ⟨g,0,none⟩) n cap) n (vcs vs))(hn:vs.length=n):rZ w g vs:=by
 obtain⟨h1,h2⟩:=h;rcases h2 with⟨e,_⟩|⟨g',cap',cur,e,q1,q2,q3,q4,q5,q6⟩
 ·cases e
 ·cases e;refine⟨cur,_,q2,λi hi=>?_⟩;obtain⟨a1,a2⟩:=VP vs i hi;rw[<-q6,an2]at a1 a2;rw[af6 (by omega)]at a1 a2;exact⟨by simpa using a1,by simpa using a2⟩
theorem UZ(f:Key->Key)(acc:List aU)(q:Key):(xM f acc q).length<=4:=by
 unfold xM lC pX;split
 ·simp
 ·split
  ·simp
  ·split
   ·simp
   ·split
    ·simp
    ·simp
theorem F9(f:Key->Key)(ps:List Key):∀k,(uD f k ps).length<=4*k:=by
 intro k
 induction k with
 |zero=>simp[uD]
 |succ k ih=>
  unfold uD;rw[af8];split
  ·have:=UZ f (lits f (ps.take k)) (by assumption);omega
  ·simp;omega
structure SG(w:World)(n0 lb BU BS:Nat)(f:Key->Key)(dom:Key->Prop)(Us:List Key)(L:List (List aU))(ps:List Key)(X:Nat->Prop)(k:Nat)(W:World):Prop where
 lg:∃ak,LG n0 W lb BU BS f dom (mV f Us ps k) ak (λq=>X q\/(w.heap.size<=q/\q<w.heap.size+2))/\jW (mV f Us ps k) ak (L++uD f k ps)
 row:W.ownsRow 0 207 2 (.slice (some ⟨w.heap.size+1,0,none⟩) k ps.length) k (vcs ((lits f (ps.take k)).map (vw (mV f Us ps k))))
 below:Below n0 w W
 size:w.heap.size+2<=W.heap.size
 keep:VK w W
theorem AB(X:Nat->Prop)(n0:Nat)(w:World)(lb BU BS:Nat)(f:Key->Key)(dom:Key->Prop)(Us:List Key)(ak:List Rule)(L:List (List aU))(GT GC GP nt nc:Nat)(ps:List Key)(iQ:LG n0 w lb BU BS f dom Us ak X)(hX:∀k,X k->k<w.heap.size)(kY:jW Us ak L)(hUs:Us.length<=100)(hL:L.length<=1000)
 (hrt:bQ w GP ps)(hG:GP<n0)(hi:aQ nt nc ps)(h0:0<ps.length)(h100:ps.length<=100)(hnt:nt<=7)(hnc:nc<=4)(hsm:Vh f dom nt)(hn:n0<=w.heap.size) :
  Calls prog 65 #[.pointer (some ⟨lb,0,none⟩),fv GT GC GP nt nc ps.length] w λe w'=>(∃z,e=.returned z)/\∃aK,LG n0 w' lb BU BS f dom (mV f Us ps ps.length) aK X/\jW (mV f Us ps ps.length) aK (L++lK f ps)/\Below n0 w w'/\VK w w':=by
 unfold fv;obtain⟨wb,hwb⟩:∃wb,wb=w.alloc (.cells #[.slice (some ⟨GT,0,none⟩) nt nt,.slice (some ⟨GC,0,none⟩) nc nc,.slice (some ⟨GP,0,none⟩) ps.length ps.length] 46):=⟨_,rfl⟩;obtain⟨i0,hin,hz0,hz1,hz2⟩:=ak7 J5;obtain⟨w1,hmk,hrow,hg1⟩:=as3 (P:=prog) wb wb.heap.size 129 207 i0 (.agg #[.int .i64 0,.bool false]) 2 underlying129 hin hz0 hz1 .i64 .i64 ps.length (by rw[hz2];omega) (by unfold maxLen;omega) (ad5 _);have Fz:wb.heap.size=w.heap.size+1:=by rw[hwb];simp
 have hgb:w.grownBy wb none:=by rw[hwb];exact ad4 _ _ none
 have hc1:w1.cell? ⟨w.heap.size,2,none⟩=some (.slice (some ⟨GP,0,none⟩) ps.length ps.length):=hg1.cell (by rw[hwb];simp[go_sem]) (by simp);have hlt1:w.heap.size+1<w1.heap.size:=by have h:=(hrow.lt wb.heap.size rfl).2;rw[Fz]at h;exact h
 rw[Fz]at hrow;have hrow0:w1.ownsRow 0 207 2 (.slice (some ⟨w.heap.size+1,0,none⟩) 0 ps.length) 0 []:=fK hrow (ah2 _);have abm:SG w n0 lb BU BS f dom Us L ps X 0 w1:=by
  refine⟨⟨ak,?_,?_⟩,hrow0,(But.aA (hgb.trans hg1)).below hn (λk _ e=>by cases e),by omega,VK.grown (hgb.trans hg1)⟩
  ·exact(iQ.other (λk hk h=>h.elim id (λh=>by omega))).grow (hgb.trans hg1)
  ·show jW Us ak (L++[])
   rw[ak9];exact kY
 rw[hwb]at hmk;have hX':Hid (∀W:World,w.heap.size+2<=W.heap.size->∀q,(X q\/(w.heap.size<=q/\q<w.heap.size+2))->q<W.heap.size):=λW h q e=>by
  rcases e with e|e
  ·have:=hX q e;omega
  ·omega
 have HI:=aj hi;have HRT:=aj hrt;have HSM:=aj hsm;clear hwb hi hrt hg1 hgb iQ kY hrow hrow0 hsm Fz
 go_enter func65,ntmps65
 go_wp2_with fail
 clear hmk
 go_loopw [4,14] (λt i wr=>∃k:Nat,k<=ps.length/\i=.int .i64 k/\t=.slice (some ⟨w.heap.size+1,0,none⟩) k ps.length/\SG w n0 lb BU BS f dom Us L ps X k wr) (λ_ i _=>ps.length-(intOf i).toNat)
 case atStart=>exact⟨0,ah2 _,rfl,rfl,abm⟩
 case round=>
  obtain⟨k,hk,rfl,rfl,hS⟩:=hrel;have Dh:(lits f (ps.take k)).length=k:=by rw[iE];simp;omega
  have hul:=Tc f Us ps k;obtain⟨rk,UG,QE⟩:=hS.lg;have hdl:(L++uD f k ps).length<=1000+4*k:=by
   have:=F9 f ps k;simp;omega
  have hmem:=PG (f:=f) (Us:=Us) (ah HI) k hk;have YJ:=hS.size;by_cases hlt:k<ps.length
  ·have hbd:(k:Int)<(ps.length:Int):=(by omega);obtain⟨c0,c1,c2⟩:=((ah HRT).below hS.below hG).2 k hlt;have hfit:k+1<=ps.length:=hlt;have hdef:Hid (∀W2,wr.grownBy W2 none->Calls prog 123 #[.pointer (some ⟨lb,0,none⟩),aS ps[k],.slice (some ⟨w.heap.size+1,0,none⟩) k ps.length] W2 λe w'=>∃aK,e=.returned (vV (vw (mV f Us ps (k+1)) (zB f (lits f (ps.take k)) ps[k])))/\LG n0 w' lb BU BS f dom (mV f Us ps (k+1)) aK (λq=>X q\/(w.heap.size<=q/\q<w.heap.size+2))/\jW (mV f Us ps (k+1)) aK (L++uD f (k+1) ps)/\Below n0 W2 w'/\VK W2 w'):=λW2 hg=>by
    have hr:=OH hS.row (VK.grown hg);have hv:=AQ hr (by simp[Dh]);have hok:=(ah HI).ok k hlt;have h:=Je _ n0 W2 lb BU BS f dom (mV f Us ps k) rk (L++uD f k ps) (lits f (ps.take k)) ps[k] (w.heap.size+1) ps.length nt nc (UG.grow hg) (λq e=>af5 (ah hX' wr YJ q e) hg.size) QE (by omega) hmem hv (by omega) (by rw[Dh];exact hok) (by omega) (by omega) (ah HSM) (af7 hn (af7 (by omega) hg.size)) (by omega);rw[Dh,<-lJ hlt,ak2,<-BI hlt]at h;exact h
   have hnew:vcs ((lits f (ps.take (k+1))).map (vw (mV f Us ps (k+1))))=vcs ((lits f (ps.take k)).map (vw (mV f Us ps k)))++BD (vw (mV f Us ps (k+1)) (zB f (lits f (ps.take k)) ps[k])):=by
    rw[Bg hlt,ak3];have e:(lits f (ps.take k)).map (vw (mV f Us ps (k+1)))=(lits f (ps.take k)).map (vw (mV f Us ps k)):=List.map_congr_left (λl hl=>mO (by rw[lJ hlt];exact DC _ _ _) (hmem l hl));rw[e];simp[vcs]
   have aao:=aj hnew;have HS:=aj hS;clear hnew hS UG QE hmem hdl;generalize vw (mV f Us ps (k+1)) (zB f (lits f (ps.take k)) ps[k])=u at hdef aao;obtain⟨vx,vi⟩:=u;generalize ps[k]=key at c0 c1 c2 hdef;obtain⟨kl,kf,ks⟩:=key;simp only at c0 c1 c2;unfold vV at hdef;simp only[aS]at hdef;have hga:wr.grownBy (wr.alloc (.cells #[.int .u8 kl,.int .i64 kf,.int .i64 ks] 82)) none:=ad4 _ _ none
   go_wp2_with fail
   refine(ah hdef _ hga).mono ?_;rintro e w3 ⟨dS,rfl,iD,iC,hb3,hk3⟩;have hrow3:=OH (ah HS).row ((VK.grown hga).trans hk3);have hs3:=hb3.size;have eX:=aj hrow3;have aci:=aj iD;have ach:=aj iC;have HB3:=aj hb3;have HK3:=aj hk3;clear hrow3 iD iC hb3 hk3
   go_wp2_with (refine wpList_append_fits _ rfl (.tmp 18) (.tmp 23) 129 rfl 0 207 i0 2 underlying129 hin hz1 _ _ _ _ rfl ((ah eX).alloc _) _ 1 1 (BD (vx,vi)) rfl rfl (tu _ _ _ _ _ rfl) (TW _) hfit ?_;intro w4 r1 r2)
   have hgn:w3.grownBy (w3.alloc (.cells #[.int .i64 vx,.bool vi] 207)) none:=ad4 _ _ none;obtain⟨cur,hcur⟩:∃cur,(w3.alloc (.cells #[.int .i64 vx,.bool vi] 207)).heap[w.heap.size+1]?=some (Obj.cells cur 207 (0,0)):=by
    rcases((ah eX).alloc (.cells #[.int .i64 vx,.bool vi] 207)).2 with⟨e,_⟩|⟨g',cap',cur,e,_,q,_⟩
    ·cases e
    ·cases e;exact⟨cur,q⟩
   have hs4:=r2.size;have hsa:wr.heap.size<=w3.heap.size:=af7 hga.size hs3;have hb03:Below n0 w w3:=((ah HS).below.trans ((But.aA hga).below (af7 hn (by omega)) (λk _ e=>by cases e))).trans (ah HB3);have aaS:VK w w3:=((ah HS).keep.trans (VK.grown hga)).trans (ah HK3);refine⟨⟨k+1,hfit,by go_num,rfl,⟨dS,?_,ah ach⟩,?_,?_,?_,?_⟩,by simp[intOf];omega⟩
   ·exact((ah aci).grow hgn).NZ (But.aA r2) (λq e=>by cases e;exact⟨Or.inr (by omega),cur,207,(0,0),hcur,by decide,by decide⟩)
   ·rw[ah aao];exact r1
   ·exact(hb03.trans ((But.aA hgn).below (by omega) (λk _ e=>by cases e))).trans ((But.aA r2).below (by simp;omega) (λk hk e=>by cases e;omega))
   ·simp at hs4;omega
   ·intro q cu t xx t1 t2 e;have hq:=(ad3.1 e).1;have e3:=(VK.grown hgn) _ _ _ _ t1 t2 (aaS _ _ _ _ t1 t2 e);exact(r2.block q (ad3.1 e3).1 (by simp;omega)).trans e3
  ·have hkk:k=ps.length:=(by omega);subst hkk;have hbd:¬(ps.length:Int)<(ps.length:Int):=(by omega);rw[ai7]at Dh hmem;have hvw:=AQ hS.row (by rw[ai7];simp[Dh]);rw[ai7]at hvw;obtain⟨cur,cx,bV,hcur⟩:=hvw;have hla:ps.length-1<(lits f ps).length:=(by omega);obtain⟨a0,a1⟩:=hcur (ps.length-1) (by simpa using hla);have hgl:(lits f ps).getD (ps.length-1) ((0,0,0),false)=(lits f ps)[ps.length-1]:=aG hla _;have hml:=hmem _ (ad8 hla);simp only[ak0]at a0 a1;have d0:=(cell_of bV ((ps.length-1)*2)).trans a0;have d1:=(cell_of bV ((ps.length-1)*2+1)).trans a1;have hst:lK f ps=uD f ps.length ps++[[(lits f ps)[ps.length-1]]]:=(by unfold lK;rw[hgl]);have HST:=aj hst;clear hst hgl;generalize (lits f ps)[ps.length-1]=ll at hml d0 d1 HST;have hvv:vw (mV f Us ps ps.length) ll=((mV f Us ps ps.length).idxOf ll.1,ll.2):=rfl;rw[hvv]at d0 d1;simp only at d0 d1;have hdi:((ps.length:Int)-1)=((ps.length-1:Nat):Int):=(by omega);have hle1:((ps.length-1:Nat):Int)<(ps.length:Int):=(by omega);have hdm:=dA _ n0 (wr.alloc (.cells #[.int .i64 ((mV f Us ps ps.length).idxOf ll.1),.bool ll.2] 207)) lb BU BS f dom (mV f Us ps ps.length) rk (L++uD f ps.length ps) _ [ll] (UG.grow (ad4 _ _ none)) (λq e=>by have:=ah hX' wr YJ q e;simp;omega) QE (RX wr (vw (mV f Us ps ps.length) ll)) (by simp) (by simp) (by simpa using hml) (by simp;omega) (by rw[QE.len];omega);rw[ak2]at hdm;have ade:w.heap.size+1<wr.heap.size:=(by omega);have HS:=aj hS;clear hS UG QE hmem hcur a0 a1 bV hvv hdl hml;generalize (mV f Us ps ps.length).idxOf ll.1=xl at d0 d1 hdm;obtain⟨lk,li⟩:=ll;simp only at d0 d1 hdm
   go_wp2_with fail
   refine hdm.mono ?_;rintro e w3 ⟨⟨z3,rfl⟩,dS,iD,iC,hb3,hk3⟩;have hgn:wr.grownBy (wr.alloc (.cells #[.int .i64 xl,.bool li] 207)) none:=ad4 _ _ none;have Q1:=aj (iD.other (λk _ h=>Or.inl h):LG n0 w3 lb BU BS f dom (mV f Us ps ps.length) dS X);have Q2:=aj iC;have Q3:=aj (((ah HS).below.trans ((But.aA hgn).below (by omega) (λk _ e=>by cases e))).trans hb3);have Q4:=aj (((ah HS).keep.trans (VK.grown hgn)).trans hk3);clear iD iC hb3 hk3 hdm hgn
   go_wp2_with fail
   go_end0
   exact⟨⟨_,rfl⟩,dS,ah Q1,by rw[ah HST];exact ah Q2,ah Q3,ah Q4⟩
theorem gW(a b:Nat)(w:World):Calls prog 153 #[.int .i64 a,.int .i64 b] w λe w'=>e=.returned (.agg #[.int .u8 61,.int .i64 a,.int .i64 b])/\w.grownBy w' none:=by
 go_enter func153,ntmps153
 go_wp2_with fail
 refine ag3 (v:=.agg #[.int .u8 61,.int .i64 a,.int .i64 b]) (by simp[results,results153,go_sem]) rfl ⟨rfl,?_⟩;exact ad4 _ _ none
theorem qB{α:Type}[BEq α][LawfulBEq α]:∀(m l:List α),l.Nodup->(∀x∈l,x∈m)->l.length<=m.length
 |[],l,_,h=>by
  cases l with
  |nil=>simp
  |cons a l=>have:=h a (by simp);cases this
 |a::m,l,hn,h=>by
  have h1:=qB m (l.erase a) (hn.sublist List.erase_sublist) (λx hx=>by
   have h2:=(hn.mem_erase_iff).1 hx;rcases ah8.1 (h x h2.2)with e|e
   ·exact absurd e h2.1
   ·exact e)
  have h2:l.length<=(l.erase a).length+1:=by
   rw[List.length_erase];split<;>omega
  simp;omega
theorem dO{α:Type}(g:Nat->List α)(k:Nat):(List.range (k+1)).flatMap g=(List.range k).flatMap g++g k:=by
 rw[aq0,List.flatMap_append];simp
theorem LZ{α:Type}(g:Nat->α)(k:Nat):(List.range (k+1)).map g=(List.range k).map g++[g k]:=by
 rw[aq0,ak3];rfl
def LS(n0 lb BU BS:Nat)(f:Key->Key)(dom:Key->Prop)(X:Nat->Prop)(aN:List Key)(L':List (List aU))(W:World):Prop:=
 ∃Us ak,LG n0 W lb BU BS f dom Us ak X/\jW Us ak L'/\∀p∈Us,p∈aN
theorem RJ{Us:List Key}{ak:List Rule}{L:List (List aU)}(h:jW Us ak L){aN:List Key}(hc:∀p∈Us,p∈aN)(h9:aN.length<=900):Us.length<=900:=af7 (qB aN Us h.lp.nodup hc) h9
structure Ask(f:Key->Key)(dom:Key->Prop)(aN:List Key)(p:Key):Prop where
 d:dom p
 fd:dom (f p)
 ff:f (f p)=f p
 b:(0<=p.1/\p.1<=255)/\p.2.1<=1000/\p.2.2<=1000
 bf:(0<=(f p).1/\(f p).1<=255)/\(f p).2.1<=1000/\(f p).2.2<=1000
 c:f p∈aN
theorem Vh.ask{f:Key->Key}{dom:Key->Prop}{nt:Nat}(h:Vh f dom nt){aN:List Key}(hc:∀a b,a<nt->b<nt->f (61,a,b)∈aN)(hnt:nt<=1000){a b:Nat}(ha:a<nt)(hb:b<nt):Ask f dom aN (61,a,b):=by
 obtain⟨c,d,q1,q2,q3,q4⟩:=h.eq a b ha hb;refine⟨h.I8 _ (λ_=>⟨ha,hb⟩),?_,?_,⟨by simp,by show a<=1000;omega,by show b<=1000;omega⟩,?_,hc a b ha hb⟩
 ·rw[q1];exact h.I8 _ (λ_=>⟨q2,q3⟩)
 ·rw[q1,q4]
 ·rw[q1];exact⟨by simp,by show c<=1000;omega,by show d<=1000;omega⟩
theorem EM{Us aN:List Key}{p:Key}(h:∀q∈Us,q∈aN)(hp:p∈aN):∀q∈put Us p,q∈aN:=λq hq=>by
 rcases tJ.1 hq with e|e
 ·exact h q e
 ·rw[e];exact hp
theorem GR(n0:Nat)(w:World)(lb BU BS:Nat)(f:Key->Key)(dom:Key->Prop)(X:Nat->Prop)(aN Us:List Key)(ak:List Rule)(L':List (List aU))(p:Key)(hA:Ask f dom aN p)(h:LG n0 w lb BU BS f dom Us ak X)(hP:jW Us ak L')(hc:∀q∈Us,q∈aN)(h9:aN.length<=900)(hn:n0<=w.heap.size) :
  Calls prog 154 #[.pointer (some ⟨lb,0,none⟩),.agg #[.int .u8 p.1,.int .i64 p.2.1,.int .i64 p.2.2]] w λe w'=>e=.returned (.agg #[.int .i64 ((put Us (f p)).idxOf (f p)),.bool true])/\LG n0 w' lb BU BS f dom (put Us (f p)) ak X/\jW (put Us (f p)) ak L'/\(∀q∈put Us (f p),q∈aN)/\Below n0 w w'/\VK w w':=by
 have hU:=RJ hP hc h9;refine(uP n0 w lb BU BS f dom Us ak X p h (by omega) hA.d hA.fd hA.ff hA.b hA.bf).mono ?_;rintro e w' ⟨rfl,h1,h2⟩;refine⟨?_,h1,hP.so _,EM hc hA.c,h.below hn h2,VK.map h2 h.us.Oe⟩;rw[gq];rfl
end Go.Proofs.YthcppbmkacbbiabGreat
