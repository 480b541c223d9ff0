import Derived.Test.YthcppbmkacbbiaaGreatZBI
set_option linter.unusedSimpArgs false
set_option maxHeartbeats 4000000
set_option maxRecDepth 100000
namespace Go.Proofs.YthcppbmkacbbiaaGreat
open Go.Proofs.Tryz
open Go.RowKit Go.Maps Go.WideMaps
open Sat (View Rule jT cZ)
section
open au (Key put dX aA)
theorem KT(w:World)(lb:Nat)(Us:List Key)(acc:List bG)(x y g vc:Nat)(hV:tZ w g (acc.map (vw Us)))(hx:x<acc.length) :
  Calls prog 144 #[.pointer (some ⟨lb,0,none⟩),bD (33,x,y),.slice (some ⟨g,0,none⟩) acc.length vc] w λe w'=>e=.returned (vV (vw Us (nl acc[x])))/\w.grownBy w' none:=by
 obtain⟨cur,cx,bV,hcur⟩:=hV;have hcf:=hcur x (by simpa using hx);simp only[am8]at hcf;have hvn:vw Us (nl acc[x])=((vw Us acc[x]).1,!(vw Us acc[x]).2):=rfl;rw[hvn];generalize vw Us acc[x]=u at hcf;obtain⟨xf,jf⟩:=u;simp only at hcf ⊢;have hgx:=(ae8.1 bV).1;have hxi:(x:Int)<(acc.length:Int):=by omega
 have hgA:w.grownBy ((w.alloc (.cells #[.int .u8 33,.int .i64 x,.int .i64 y] 93)).alloc (.cells #[.int .i64 0,.bool false] 214)) none:=(ae9 _ _ none).trans (ae9 _ _ none);have bA:=(hgA.block g hgx (by simp)).trans bV;have b6:((w.alloc (.cells #[.int .u8 33,.int .i64 x,.int .i64 y] 93)).alloc (.cells #[.int .i64 0,.bool false] 214)).heap[w.heap.size+1]?=some (.cells #[.int .i64 0,.bool false] 214 (0,0)):=by
  have e:w.heap.size+1=(w.alloc (.cells #[.int .u8 33,.int .i64 x,.int .i64 y] 93)).heap.size:=by simp
  rw[e,ag4]
 have a0:=(cell_of bA (x*2)).trans hcf.1;have a1:=(cell_of bA (x*2+1)).trans hcf.2;have p0:((w.alloc (.cells #[.int .u8 33,.int .i64 x,.int .i64 y] 93)).alloc (.cells #[.int .i64 0,.bool false] 214)).cell? ⟨w.heap.size,0,none⟩=some (.int .u8 33):=by simp[go_sem]
 have p1:((w.alloc (.cells #[.int .u8 33,.int .i64 x,.int .i64 y] 93)).alloc (.cells #[.int .i64 0,.bool false] 214)).cell? ⟨w.heap.size,1,none⟩=some (.int .i64 x):=by simp[go_sem]
 obtain⟨W0,hW0⟩:∃W0,(w.alloc (.cells #[.int .u8 33,.int .i64 x,.int .i64 y] 93)).alloc (.cells #[.int .i64 0,.bool false] 214)=W0:=⟨_,rfl⟩;rw[hW0]at hgA bA b6 a0 a1 p0 p1;have acS:=gV xf jf W0;unfold vV;simp only[bD];clear hcur hcf bV
 go_enter func144,ntmps144
 go_wp2_with fail
 clear hW0;refine acS.mono ?_;rintro e w1 ⟨rfl,hg1⟩;have b63:=(hg1.block _ (ae8.1 b6).1 (by simp)).trans b6;have s0:w1.cell? ⟨w.heap.size+1,0,none⟩=some (.int .i64 0):=by rw[cell_of b63];rfl
 have s1:w1.cell? ⟨w.heap.size+1,1,none⟩=some (.bool false):=by rw[cell_of b63];rfl
 have f0:w1.frozen? ⟨w.heap.size+1,0,none⟩=false:=by simp[World.frozen?,b63]
 have f1:w1.frozen? ⟨w.heap.size+1,1,none⟩=false:=by simp[World.frozen?,b63]
 have hs3:w.heap.size+1<w1.heap.size:=(ae8.1 b63).1;have hbF:((w1.setCell ⟨w.heap.size+1,0,none⟩ (.int .i64 xf)).setCell ⟨w.heap.size+1,1,none⟩ (.bool (!jf))).heap[w.heap.size+1]?=some (.cells #[.int .i64 xf,.bool (!jf)] 214 (0,0)):=by
  rw[hsQ (hsQ b63)]
  congr 2
 have hgF:w.grownBy ((w1.setCell ⟨w.heap.size+1,0,none⟩ (.int .i64 xf)).setCell ⟨w.heap.size+1,1,none⟩ (.bool (!jf))) none:=jg (jg (hgA.trans hg1) (by show w.heap.size<=w.heap.size+1;omega) _) (by show w.heap.size<=w.heap.size+1;omega) _;have Q1:=aj hbF;have Q2:=aj hgF;clear hgA hg1 hbF hgF
 go_wp2_with fail
 obtain⟨WF,hWF⟩:∃WF,(w1.setCell ⟨w.heap.size+1,0,none⟩ (.int .i64 xf)).setCell ⟨w.heap.size+1,1,none⟩ (.bool (!jf))=WF:=⟨_,rfl⟩;rw[hWF]at Q1 Q2 ⊢;have x0:WF.cell? ⟨w.heap.size+1,0,none⟩=some (.int .i64 xf):=by rw[cell_of (ah Q1)];rfl
 have x1:WF.cell? ⟨w.heap.size+1,1,none⟩=some (.bool (!jf)):=by rw[cell_of (ah Q1)];rfl
 exact ah7 (v:=.agg #[.int .i64 xf,.bool (!jf)]) (by simp[results,results144,go_sem,x0,x1]) rfl ⟨rfl,ah Q2⟩
theorem Ir(n0:Nat)(w:World)(lb BU BS:Nat)(f:Key->Key)(dom:Key->Prop)(Us:List Key)(ak:List Rule)(X:Nat->Prop)(p:Key)(v:Value)(h:LG n0 w lb BU BS f dom Us ak X)(hUs:Us.length<=1000)(hp:dom p)(hfp:dom (f p))(hff:f (f p)=f p)
 (hb:(0<=p.1/\p.1<=255)/\p.2.1<=1000/\p.2.2<=1000)(hbf:(0<=(f p).1/\(f p).1<=255)/\(f p).2.1<=1000/\(f p).2.2<=1000)(hs:p.1=61\/p.1=80\/p.1=81) :
  Calls prog 144 #[.pointer (some ⟨lb,0,none⟩),bD p,v] w λe w'=>e=.returned (vV (Us.idxOf (f p),true))/\LG n0 w' lb BU BS f dom (put Us (f p)) ak X/\w.grownBy w' (some BU):=by
 have hgA:w.grownBy ((w.alloc (.cells #[.int .u8 p.1,.int .i64 p.2.1,.int .i64 p.2.2] 93)).alloc (.cells #[.int .i64 0,.bool false] 214)) none:=(ae9 _ _ none).trans (ae9 _ _ none);have hso:=wI n0 _ lb BU BS f dom Us ak X p (h.grow hgA) hUs hp hfp hff hb hbf;have b6:((w.alloc (.cells #[.int .u8 p.1,.int .i64 p.2.1,.int .i64 p.2.2] 93)).alloc (.cells #[.int .i64 0,.bool false] 214)).heap[w.heap.size+1]?=some (.cells #[.int .i64 0,.bool false] 214 (0,0)):=by
  have e:w.heap.size+1=(w.alloc (.cells #[.int .u8 p.1,.int .i64 p.2.1,.int .i64 p.2.2] 93)).heap.size:=by simp
  rw[e,ag4]
 have bP:((w.alloc (.cells #[.int .u8 p.1,.int .i64 p.2.1,.int .i64 p.2.2] 93)).alloc (.cells #[.int .i64 0,.bool false] 214)).heap[w.heap.size]?=some (.cells #[.int .u8 p.1,.int .i64 p.2.1,.int .i64 p.2.2] 93 (0,0)):=by
  rw[ag1 _ _ _ (by simp),ag4]
 have hBl:=h.us.lt;have HLG:=aj h;have hnb:p.1≠33/\p.1≠38/\p.1≠124/\p.1≠62/\p.1≠45:=by omega
 clear h hp hfp hff hs;generalize f p=q at hso hbf ⊢;generalize Us.idxOf q=ix at hso ⊢;obtain⟨pc,px,py⟩:=p;simp only at hnb hgA b6 bP hb;obtain⟨n1,n2,n3,n4,n5⟩:=hnb;unfold vV at hso ⊢;simp only[bD]at hso ⊢
 go_enter func144,ntmps144
 go_wp2_with fail
 refine hso.mono ?_;rintro e w1 ⟨rfl,jm,hg1⟩;have hM1:=jm.us;have b63:=(hg1.block _ (ae8.1 b6).1 (by simp;omega)).trans b6;have bP3:=(hg1.block _ (ae8.1 bP).1 (by simp;omega)).trans bP;obtain⟨w2,hw2⟩:∃w2,w1.alloc (.cells #[.int .i64 ix,.bool true] 214)=w2:=⟨_,rfl⟩;have hg2:w1.grownBy w2 none:=by rw[<-hw2];exact ae9 _ _ none
 have bW2:w2.heap[w1.heap.size]?=some (.cells #[.int .i64 ix,.bool true] 214 (0,0)):=by rw[<-hw2,ag4]
 have b64:=(hg2.block _ (ae8.1 b63).1 (by simp)).trans b63;have bP4:=(hg2.block _ (ae8.1 bP3).1 (by simp)).trans bP3;have k0:w2.cell? ⟨w.heap.size,0,none⟩=some (.int .u8 pc):=by rw[cell_of bP4];rfl
 have r0:w2.cell? ⟨w1.heap.size,0,none⟩=some (.int .i64 ix):=by rw[cell_of bW2];rfl
 have r1:w2.cell? ⟨w1.heap.size,1,none⟩=some (.bool true):=by rw[cell_of bW2];rfl
 have s0:w2.cell? ⟨w.heap.size+1,0,none⟩=some (.int .i64 0):=by rw[cell_of b64];rfl
 have s1:w2.cell? ⟨w.heap.size+1,1,none⟩=some (.bool false):=by rw[cell_of b64];rfl
 have f0:w2.frozen? ⟨w.heap.size+1,0,none⟩=false:=by simp[World.frozen?,b64]
 have f1:w2.frozen? ⟨w.heap.size+1,1,none⟩=false:=by simp[World.frozen?,b64]
 have hs3:w.heap.size+1<w2.heap.size:=(ae8.1 b64).1;have hs4:w1.heap.size<w2.heap.size:=(ae8.1 bW2).1;have hbF:((w2.setCell ⟨w.heap.size+1,0,none⟩ (.int .i64 ix)).setCell ⟨w.heap.size+1,1,none⟩ (.bool true)).heap[w.heap.size+1]?=some (.cells #[.int .i64 ix,.bool true] 214 (0,0)):=by
  rw[hsQ (hsQ b64)]
  congr 2
 have hgF:w.grownBy ((w2.setCell ⟨w.heap.size+1,0,none⟩ (.int .i64 ix)).setCell ⟨w.heap.size+1,1,none⟩ (.bool true)) (some BU):=jg (jg (((hgA.but (some BU)).trans hg1).trans (hg2.but (some BU))) (by show w.heap.size<=w.heap.size+1;omega) _) (by show w.heap.size<=w.heap.size+1;omega) _;have hMF:aP ((w2.setCell ⟨w.heap.size+1,0,none⟩ (.int .i64 ix)).setCell ⟨w.heap.size+1,1,none⟩ (.bool true)) 93 BU bD (put Us q):=hM1.kept (by rw[ag6 _ _ _ _ (by show BU≠w.heap.size+1;omega),ag6 _ _ _ _ (by show BU≠w.heap.size+1;omega)];exact hg2.block BU hM1.lt (by simp));have Q1:=aj hbF;have Q2:=aj hgF;have Q3:=aj hMF;clear hgA hg1 hbF hgF hMF jm hM1 hso b6 bP b63 bP3 hg2
 go_wp2_with fail
 obtain⟨WF,hWF⟩:∃WF,(w2.setCell ⟨w.heap.size+1,0,none⟩ (.int .i64 ix)).setCell ⟨w.heap.size+1,1,none⟩ (.bool true)=WF:=⟨_,rfl⟩;rw[hWF]at Q1 Q2 Q3 ⊢;have x0:WF.cell? ⟨w.heap.size+1,0,none⟩=some (.int .i64 ix):=by rw[cell_of (ah Q1)];rfl
 have x1:WF.cell? ⟨w.heap.size+1,1,none⟩=some (.bool true):=by rw[cell_of (ah Q1)];rfl
 exact ah7 (v:=.agg #[.int .i64 ix,.bool true]) (by simp[results,results144,go_sem,x0,x1]) rfl ⟨rfl,(ah HLG).unk (ah Q2) (ah Q3),ah Q2⟩
end
open au (Key put dX aA bI)
structure XV(f:Key->Key)(dom:Key->Prop)(nt:Nat):Prop where
 KQ:∀p:Key,(p.1=61->p.2.1<nt/\p.2.2<nt)->dom p
 eq:∀a b,a<nt->b<nt->∃c d,f (61,a,b)=(61,c,d)/\c<nt/\d<nt/\f (61,c,d)=(61,c,d)
 other:∀p:Key,p.1≠61->f p=p
def E8(f:Key->Key)(Us:List Key)(p:Key):List Key:=if p.1=33 then Us else put Us (f p)
def Bh(f:Key->Key)(acc:List bG)(p:Key):bG:=if p.1=33 then nl (acc.getD p.2.1 ((0,0,0),false))else(f p,true)
theorem E5(f:Key->Key)(Us:List Key)(p:Key):Us <+: E8 f Us p:=by
 unfold E8;by_cases e:p.1=33
 ·rw[af9 e];exact am7 _
 ·rw[af6 e];exact gK _ _
theorem KX(X:Nat->Prop)(n0:Nat)(w:World)(lb BU BS:Nat)(f:Key->Key)(dom:Key->Prop)(Us:List Key)(ak:List Rule)(L:List (List bG))(acc:List bG)(p:Key)(g vc nt nc:Nat)(jC:LG n0 w lb BU BS f dom Us ak X)(hX:∀k,X k->k<w.heap.size)(mF:lC Us ak L)(hUs:Us.length<=900)
 (hacc:∀l∈acc,l.1∈Us)(hV:tZ w g (acc.map (vw Us)))(hal:acc.length<=500)(hp:dX nt nc acc.length p)(hnt:nt<=1000)(hnc:nc<=1000)(hsm:XV f dom nt)(hn:n0<=w.heap.size)(hR:L.length<=80000) :
  Calls prog 144 #[.pointer (some ⟨lb,0,none⟩),bD p,.slice (some ⟨g,0,none⟩) acc.length vc] w λe w'=>∃aT,e=.returned (vV (vw (E8 f Us p) (Bh f acc p)))/\LG n0 w' lb BU BS f dom (E8 f Us p) aT X/\lC (E8 f Us p) aT (L++yY f acc p)/\Below n0 w w'/\VK w w':=by
 have hbd:=hp.bd hnt hnc (by omega:acc.length<=1000);have atom:(p.1=61\/p.1=80\/p.1=81)->dom p->dom (f p)->f (f p)=f p->((0<=(f p).1/\(f p).1<=255)/\(f p).2.1<=1000/\(f p).2.2<=1000)->
   Calls prog 144 #[.pointer (some ⟨lb,0,none⟩),bD p,.slice (some ⟨g,0,none⟩) acc.length vc] w λe w'=>∃aT,e=.returned (vV (vw (E8 f Us p) (Bh f acc p)))/\LG n0 w' lb BU BS f dom (E8 f Us p) aT X/\lC (E8 f Us p) aT (L++yY f acc p)/\Below n0 w w'/\VK w w':=λhs h1 h2 h3 h4=>by
  have e33:p.1≠33:=by omega
  have ed:yY f acc p=[]:=by
   unfold yY;rw[af6 (by omega),af6 (by omega),af6 (by omega),af6 (by omega)]
  have e1:E8 f Us p=put Us (f p):=af6 e33;have e2:Bh f acc p=(f p,true):=af6 e33;rw[e1,e2,ed,an2];refine(Ir n0 w lb BU BS f dom Us ak X p _ jC (by omega) h1 h2 h3 hbd h4 hs).mono ?_;rintro e w' ⟨rfl,g1,g2⟩;refine⟨ak,?_,g1,mF.so _,jC.below hn g2,VK.map g2 jC.us.QM⟩
  show Ending.returned (vV (Us.idxOf (f p),true))=Ending.returned (vV ((put Us (f p)).idxOf (f p),true))
  rw[iC]
 rcases hp with⟨a,b,_⟩|⟨a,b,c⟩|⟨a,b,c⟩|⟨a,b,c⟩
 ·obtain⟨pc,px,py⟩:=p;simp only at a b;subst a;have e1:E8 f Us (33,px,py)=Us:=by simp[E8]
  have e2:Bh f acc (33,px,py)=nl acc[px]:=by
   show(if (33:Int)=33 then nl (acc.getD px ((0,0,0),false))else _)=_
   rw[af9 rfl,aN b]
  have ed:yY f acc (33,px,py)=[]:=by simp[yY]
  rw[e1,e2,ed,an2];refine(KT w lb Us acc px py g vc hV b).mono ?_;rintro e w' ⟨rfl,hg⟩;exact⟨ak,rfl,jC.grow hg,mF,(But.aB hg).below hn (λk _ e=>by cases e),VK.grown hg⟩
 ·have h61:p.1≠61:=by intro e;rw[e]at a;simp[aA]at a
  have h33:p.1≠33:=by intro e;rw[e]at a;simp[aA]at a
  have hfp:=hsm.other p h61;have hdp:=hsm.KQ p (λe=>absurd e h61);have e1:E8 f Us p=put Us p:=by unfold E8;rw[af6 h33,hfp]
  have e2:Bh f acc p=(p,true):=by unfold Bh;rw[af6 h33,hfp]
  rw[e1,e2];obtain⟨pc,px,py⟩:=p;simp only at a b c h61 h33;have hj:pc=38\/pc=124\/pc=62\/pc=45:=by simpa[aA,or_assoc]using a
  rcases hj with e|e|e|e
  ·subst e;exact KY X n0 w lb BU BS f dom Us ak L acc px py g vc jC hX mF hUs hacc hV b c hal hdp hfp hn hR
  ·subst e;exact P9 X n0 w lb BU BS f dom Us ak L acc px py g vc jC hX mF hUs hacc hV b c hal hdp hfp hn hR
  ·subst e;exact KU X n0 w lb BU BS f dom Us ak L acc px py g vc jC hX mF hUs hacc hV b c hal hdp hfp hn hR
  ·subst e;exact KW X n0 w lb BU BS f dom Us ak L acc px py g vc jC hX mF hUs hacc hV b c hal hdp hfp hn hR
 ·have hfp:=hsm.other p (by omega);have hdp:=hsm.KQ p (λe=>by omega);exact atom (Or.inr a) hdp (by rw[hfp];exact hdp) (by rw[hfp,hfp]) (by rw[hfp];exact hbd)
 ·obtain⟨c',d',q1,q2,q3,q4⟩:=hsm.eq p.2.1 p.2.2 b c;have hpe:p=(61,p.2.1,p.2.2):=by rw[<-a]
  rw[<-hpe]at q1;have hdp:=hsm.KQ p (λ_=>⟨b,c⟩);refine atom (Or.inl a) hdp (by rw[q1];exact hsm.KQ _ (λ_=>⟨q2,q3⟩)) (by rw[q1,q4]) (by rw[q1];exact⟨by simp,by show c'<=1000;omega,by show d'<=1000;omega⟩)
def nS(f:Key->Key)(Us:List Key)(ps:List Key)(k:Nat):List Key:=(ps.take k).foldl (E8 f) Us
theorem mW{f:Key->Key}{Us ps:List Key}{k:Nat}(hk:k<ps.length):nS f Us ps (k+1)=E8 f (nS f Us ps k) ps[k]:=by
 unfold nS;rw[ai4,af2 hk,aq5];rfl
theorem VY(f:Key->Key)(Us ps:List Key):∀k,(nS f Us ps k).length<=Us.length+k:=by
 intro k
 induction k with
 |zero=>simp[nS]
 |succ k ih=>
  by_cases hk:k<ps.length
  ·rw[mW hk];unfold E8;split
   ·omega
   ·have:=ML (nS f Us ps k) (f ps[k]);omega
  ·have:nS f Us ps (k+1)=nS f Us ps k:=by
    unfold nS;rw[ai2 (by omega),ai2 (by omega)]
   rw[this];omega
theorem DF{f:Key->Key}{ps:List Key}{k:Nat}(hk:k<ps.length):lits f (ps.take (k+1))=lits f (ps.take k)++[Bh f (lits f (ps.take k)) ps[k]]:=by
 have e:ps.take (k+1)=ps.take k++[ps[k]]:=by rw[ai4,af2 hk];rfl
 rw[e,wQ];rfl
theorem Tf{f:Key->Key}{Us ps:List Key}{nt nc:Nat}(hi:bI nt nc ps):∀k,k<=ps.length->∀l∈lits f (ps.take k),l.1∈nS f Us ps k:=by
 intro k
 induction k with
 |zero=>intro _ l hl;simp[lits]at hl
 |succ k ih=>
  intro hk l hl;have hk':k<ps.length:=by omega
  rw[DF hk']at hl;rw[mW hk'];rcases ai3.1 hl with hl|hl
  ·exact(E5 _ _ _).mem (ih (by omega) l hl)
  ·rw[ah6.1 hl];unfold Bh E8;by_cases e:ps[k].1=33
   ·rw[af9 e,af9 e];rcases hi.ok k hk' with⟨_,b,_⟩|⟨a,_⟩|⟨a,_⟩|⟨a,_⟩
    ·have hlen:ps[k].2.1<(lits f (ps.take k)).length:=(by rw[je];simp;omega);rw[aN hlen];have:=ih (by omega) _ (af4 hlen);exact this
    ·rw[e]at a;simp[aA]at a
    ·omega
    ·omega
   ·rw[af6 e,af6 e];exact bF _ _
theorem Rt{w w':World}{base:Nat}{v:Value}{n:Nat}{xs:List Value}(h:w.ownsRow base 214 2 v n xs)(hk:VK w w'):w'.ownsRow base 214 2 v n xs:=by
 obtain⟨h1,h2⟩:=h;refine⟨h1,?_⟩;rcases h2 with h2|⟨g,cap,cur,e,q1,q2,q3⟩
 ·exact Or.inl h2
 ·exact Or.inr ⟨g,cap,cur,e,q1,aQ hk q2,q3⟩
theorem YA(vs:List View):∀i (hi:i<vs.length),(vcs vs)[i*2]?=some (.int .i64 vs[i].1)/\(vcs vs)[i*2+1]?=some (.bool vs[i].2):=by
 induction vs with
 |nil=>intro i hi;simp at hi
 |cons v vs ih=>
  intro i hi;cases i with
  |zero=>simp[vcs,DU]
  |succ i=>
   have:=ih i (by simpa using hi);have e:vcs (v::vs)=.int .i64 v.1::.bool v.2::vcs vs:=(by simp[vcs,DU]);rw[e];have e1:(i+1)*2=i*2+1+1:=(by omega);rw[e1];simpa using this
theorem Dk{w:World}{base g n cap:Nat}{vs:List View}(h:w.ownsRow base 214 2 (.slice (some ⟨g,0,none⟩) n cap) n (vcs vs))(hn:vs.length=n):tZ w g vs:=by
 obtain⟨h1,h2⟩:=h;rcases h2 with⟨e,_⟩|⟨g',cap',cur,e,q1,q2,q3,q4,q5,q6⟩
 ·cases e
 ·cases e;refine⟨cur,_,q2,λi hi=>?_⟩;obtain⟨a1,a2⟩:=YA vs i hi;rw[<-q6,ao7]at a1 a2;rw[af9 (by omega)]at a1 a2;exact⟨by simpa using a1,by simpa using a2⟩
theorem XD(f:Key->Key)(acc:List bG)(q:Key):(yY f acc q).length<=4:=by
 unfold yY mM qR;split
 ·simp
 ·split
  ·simp
  ·split
   ·simp
   ·split
    ·simp
    ·simp
theorem Iu(f:Key->Key)(ps:List Key):∀k,(vW f k ps).length<=4*k:=by
 intro k
 induction k with
 |zero=>simp[vW]
 |succ k ih=>
  unfold vW;rw[ah1];split
  ·have:=XD f (lits f (ps.take k)) (by assumption);omega
  ·simp;omega
structure SG(w:World)(n0 lb BU BS:Nat)(f:Key->Key)(dom:Key->Prop)(Us:List Key)(L:List (List bG))(ps:List Key)(X:Nat->Prop)(k:Nat)(W:World):Prop where
 lg:∃ak,LG n0 W lb BU BS f dom (nS f Us ps k) ak (λq=>X q\/(w.heap.size<=q/\q<w.heap.size+2))/\lC (nS f Us ps k) ak (L++vW f k ps)
 row:W.ownsRow 0 214 2 (.slice (some ⟨w.heap.size+1,0,none⟩) k ps.length) k (vcs ((lits f (ps.take k)).map (vw (nS f Us ps k))))
 below:Below n0 w W
 size:w.heap.size+2<=W.heap.size
 keep:VK w W
theorem Dh(X:Nat->Prop)(n0:Nat)(w:World)(lb BU BS:Nat)(f:Key->Key)(dom:Key->Prop)(Us:List Key)(ak:List Rule)(L:List (List bG))(GT GC GP nt nc:Nat)(ps:List Key)(jC:LG n0 w lb BU BS f dom Us ak X)(hX:∀k,X k->k<w.heap.size)(mF:lC Us ak L)(hUs:Us.length<=100)(hL:L.length<=1000)
 (hrt:dU w GP ps)(hG:GP<n0)(hi:bI nt nc ps)(h0:0<ps.length)(h100:ps.length<=100)(hnt:nt<=7)(hnc:nc<=4)(hsm:XV f dom nt)(hn:n0<=w.heap.size) :
  Calls prog 93 #[.pointer (some ⟨lb,0,none⟩),fv GT GC GP nt nc ps.length] w λe w'=>(∃z,e=.returned z)/\∃aT,LG n0 w' lb BU BS f dom (nS f Us ps ps.length) aT X/\lC (nS f Us ps ps.length) aT (L++mY f ps)/\Below n0 w w'/\VK w w':=by
 unfold fv;obtain⟨wb,hwb⟩:∃wb,wb=w.alloc (.cells #[.slice (some ⟨GT,0,none⟩) nt nt,.slice (some ⟨GC,0,none⟩) nc nc,.slice (some ⟨GP,0,none⟩) ps.length ps.length] 54):=⟨_,rfl⟩;obtain⟨i0,hin,hz0,hz1,hz2⟩:=am6 Nb;obtain⟨w1,hmk,hrow,hg1⟩:=run_make_own (P:=prog) wb wb.heap.size 160 214 i0 (.agg #[.int .i64 0,.bool false]) 2 underlying160 hin hz0 hz1 .i64 .i64 ps.length (by rw[hz2];omega) (by unfold maxLen;omega) (af0 _);have Y1:wb.heap.size=w.heap.size+1:=by rw[hwb];simp
 have hgb:w.grownBy wb none:=by rw[hwb];exact ae9 _ _ none
 have hc1:w1.cell? ⟨w.heap.size,2,none⟩=some (.slice (some ⟨GP,0,none⟩) ps.length ps.length):=hg1.cell (by rw[hwb];simp[go_sem]) (by simp);have hlt1:w.heap.size+1<w1.heap.size:=by have h:=(hrow.lt wb.heap.size rfl).2;rw[Y1]at h;exact h
 rw[Y1]at hrow;have hrow0:w1.ownsRow 0 214 2 (.slice (some ⟨w.heap.size+1,0,none⟩) 0 ps.length) 0 []:=fE hrow (ah9 _);have adz:SG w n0 lb BU BS f dom Us L ps X 0 w1:=by
  refine⟨⟨ak,?_,?_⟩,hrow0,(But.aB (hgb.trans hg1)).below hn (λk _ e=>by cases e),by omega,VK.grown (hgb.trans hg1)⟩
  ·exact(jC.other (λk hk h=>h.elim id (λh=>by omega))).grow (hgb.trans hg1)
  ·show lC Us ak (L++[])
   rw[an2];exact mF
 rw[hwb]at hmk;have hX':Hid (∀W:World,w.heap.size+2<=W.heap.size->∀q,(X q\/(w.heap.size<=q/\q<w.heap.size+2))->q<W.heap.size):=λW h q e=>by
  rcases e with e|e
  ·have:=hX q e;omega
  ·omega
 have HI:=aj hi;have HRT:=aj hrt;have HSM:=aj hsm;clear hwb hi hrt hg1 hgb jC mF hrow hrow0 hsm Y1
 go_enter func93,ntmps93
 go_wp2_with fail
 clear hmk
 go_loopw [4,14] (λt i wr=>∃k:Nat,k<=ps.length/\i=.int .i64 k/\t=.slice (some ⟨w.heap.size+1,0,none⟩) k ps.length/\SG w n0 lb BU BS f dom Us L ps X k wr) (λ_ i _=>ps.length-(intOf i).toNat)
 case atStart=>exact⟨0,ah9 _,rfl,rfl,adz⟩
 case round=>
  obtain⟨k,hk,rfl,rfl,hS⟩:=hrel;have Uk:(lits f (ps.take k)).length=k:=by rw[je];simp;omega
  have hul:=VY f Us ps k;obtain⟨rk,Xo,Uw⟩:=hS.lg;have hdl:(L++vW f k ps).length<=1000+4*k:=by
   have:=Iu f ps k;simp;omega
  have hmem:=Tf (f:=f) (Us:=Us) (ah HI) k hk;have aaO:=hS.size;by_cases hlt:k<ps.length
  ·have hbd:(k:Int)<(ps.length:Int):=(by omega);obtain⟨c0,c1,c2⟩:=((ah HRT).below hS.below hG).2 k hlt;have hfit:k+1<=ps.length:=hlt;have hdef:Hid (∀W2,wr.grownBy W2 none->Calls prog 144 #[.pointer (some ⟨lb,0,none⟩),bD ps[k],.slice (some ⟨w.heap.size+1,0,none⟩) k ps.length] W2 λe w'=>∃aT,e=.returned (vV (vw (nS f Us ps (k+1)) (Bh f (lits f (ps.take k)) ps[k])))/\LG n0 w' lb BU BS f dom (nS f Us ps (k+1)) aT (λq=>X q\/(w.heap.size<=q/\q<w.heap.size+2))/\lC (nS f Us ps (k+1)) aT (L++vW f (k+1) ps)/\Below n0 W2 w'/\VK W2 w'):=λW2 hg=>by
    have hr:=Rt hS.row (VK.grown hg);have hv:=Dk hr (by simp[Uk]);have hok:=(ah HI).ok k hlt;have h:=KX _ n0 W2 lb BU BS f dom (nS f Us ps k) rk (L++vW f k ps) (lits f (ps.take k)) ps[k] (w.heap.size+1) ps.length nt nc (Xo.grow hg) (λq e=>ah4 (ah hX' wr aaO q e) hg.size) Uw (by omega) hmem hv (by omega) (by rw[Uk];exact hok) (by omega) (by omega) (ah HSM) (ah2 hn (ah2 (by omega) hg.size)) (by omega);rw[Uk,<-mW hlt,ak6,<-DX hlt]at h;exact h
   have hnew:vcs ((lits f (ps.take (k+1))).map (vw (nS f Us ps (k+1))))=vcs ((lits f (ps.take k)).map (vw (nS f Us ps k)))++DU (vw (nS f Us ps (k+1)) (Bh f (lits f (ps.take k)) ps[k])):=by
    rw[DF hlt,al7];have e:(lits f (ps.take k)).map (vw (nS f Us ps (k+1)))=(lits f (ps.take k)).map (vw (nS f Us ps k)):=au3 (λl hl=>nR (by rw[mW hlt];exact E5 _ _ _) (hmem l hl));rw[e];simp[vcs]
   have acB:=aj hnew;have HS:=aj hS;clear hnew hS Xo Uw hmem hdl;generalize vw (nS f Us ps (k+1)) (Bh f (lits f (ps.take k)) ps[k])=u at hdef acB;obtain⟨vx,vi⟩:=u;generalize ps[k]=key at c0 c1 c2 hdef;obtain⟨kl,kf,ks⟩:=key;simp only at c0 c1 c2;unfold vV at hdef;simp only[bD]at hdef;have hga:wr.grownBy (wr.alloc (.cells #[.int .u8 kl,.int .i64 kf,.int .i64 ks] 93)) none:=ae9 _ _ none
   go_wp2_with fail
   refine(ah hdef _ hga).mono ?_;rintro e w3 ⟨fA,rfl,iV,iU,hb3,hk3⟩;have hrow3:=Rt (ah HS).row ((VK.grown hga).trans hk3);have hs3:=hb3.size;have gU:=aj hrow3;have ad8:=aj iV;have ad7:=aj iU;have HB3:=aj hb3;have HK3:=aj hk3;clear hrow3 iV iU hb3 hk3
   go_wp2_with (refine wpList_append_fits _ rfl (.tmp 18) (.tmp 23) 160 rfl 0 214 i0 2 underlying160 hin hz1 _ _ _ _ rfl ((ah gU).alloc _) _ 1 1 (DU (vx,vi)) rfl rfl (uS _ _ _ _ _ rfl) (WO _) hfit ?_;intro w4 r1 r2)
   have hgn:w3.grownBy (w3.alloc (.cells #[.int .i64 vx,.bool vi] 214)) none:=ae9 _ _ none;obtain⟨cur,hcur⟩:∃cur,(w3.alloc (.cells #[.int .i64 vx,.bool vi] 214)).heap[w.heap.size+1]?=some (Obj.cells cur 214 (0,0)):=by
    rcases((ah gU).alloc (.cells #[.int .i64 vx,.bool vi] 214)).2 with⟨e,_⟩|⟨g',cap',cur,e,_,q,_⟩
    ·cases e
    ·cases e;exact⟨cur,q⟩
   have hs4:=r2.size;have hsa:wr.heap.size<=w3.heap.size:=ah2 hga.size hs3;have hb03:Below n0 w w3:=((ah HS).below.trans ((But.aB hga).below (ah2 hn (by omega)) (λk _ e=>by cases e))).trans (ah HB3);have ac8:VK w w3:=((ah HS).keep.trans (VK.grown hga)).trans (ah HK3);refine⟨⟨k+1,hfit,by go_num,rfl,⟨fA,?_,ah ad7⟩,?_,?_,?_,?_⟩,by simp[intOf];omega⟩
   ·exact((ah ad8).grow hgn).Qn (But.aB r2) (λq e=>by cases e;exact⟨Or.inr (by omega),cur,214,(0,0),hcur,by decide,by decide⟩)
   ·rw[ah acB];exact r1
   ·exact(hb03.trans ((But.aB hgn).below (by omega) (λk _ e=>by cases e))).trans ((But.aB r2).below (by simp;omega) (λk hk e=>by cases e;omega))
   ·simp at hs4;omega
   ·intro q cu t xx t1 t2 e;have hq:=(ae8.1 e).1;have e3:=(VK.grown hgn) _ _ _ _ t1 t2 (ac8 _ _ _ _ t1 t2 e);exact(r2.block q (ae8.1 e3).1 (by simp;omega)).trans e3
  ·have hkk:k=ps.length:=(by omega);subst hkk;have hbd:¬(ps.length:Int)<(ps.length:Int):=(by omega);rw[ak8]at Uk hmem;have hvw:=Dk hS.row (by rw[ak8];simp[Uk]);rw[ak8]at hvw;obtain⟨cur,cx,bV,hcur⟩:=hvw;have hla:ps.length-1<(lits f ps).length:=(by omega);obtain⟨a0,a1⟩:=hcur (ps.length-1) (by simpa using hla);have hgl:(lits f ps).getD (ps.length-1) ((0,0,0),false)=(lits f ps)[ps.length-1]:=aN hla _;have hml:=hmem _ (af4 hla);simp only[am8]at a0 a1;have d0:=(cell_of bV ((ps.length-1)*2)).trans a0;have d1:=(cell_of bV ((ps.length-1)*2+1)).trans a1;have hst:mY f ps=vW f ps.length ps++[[(lits f ps)[ps.length-1]]]:=(by unfold mY;rw[hgl]);have HST:=aj hst;clear hst hgl;generalize (lits f ps)[ps.length-1]=ll at hml d0 d1 HST;have hvv:vw (nS f Us ps ps.length) ll=((nS f Us ps ps.length).idxOf ll.1,ll.2):=rfl;rw[hvv]at d0 d1;simp only at d0 d1;have hdi:((ps.length:Int)-1)=((ps.length-1:Nat):Int):=(by omega);have hle1:((ps.length-1:Nat):Int)<(ps.length:Int):=(by omega);have hdm:=dN _ n0 (wr.alloc (.cells #[.int .i64 ((nS f Us ps ps.length).idxOf ll.1),.bool ll.2] 214)) lb BU BS f dom (nS f Us ps ps.length) rk (L++vW f ps.length ps) _ [ll] (Xo.grow (ae9 _ _ none)) (λq e=>by have:=ah hX' wr aaO q e;simp;omega) Uw (Vw wr (vw (nS f Us ps ps.length) ll)) (by simp) (by simp) (by simpa using hml) (by simp;omega) (by rw[Uw.len];omega);rw[ak6]at hdm;have ae0:w.heap.size+1<wr.heap.size:=(by omega);have HS:=aj hS;clear hS Xo Uw hmem hcur a0 a1 bV hvv hdl hml;generalize (nS f Us ps ps.length).idxOf ll.1=xl at d0 d1 hdm;obtain⟨lk,li⟩:=ll;simp only at d0 d1 hdm
   go_wp2_with fail
   refine hdm.mono ?_;rintro e w3 ⟨⟨z3,rfl⟩,fA,iV,iU,hb3,hk3⟩;have hgn:wr.grownBy (wr.alloc (.cells #[.int .i64 xl,.bool li] 214)) none:=ae9 _ _ none;have Q1:=aj (iV.other (λk _ h=>Or.inl h):LG n0 w3 lb BU BS f dom (nS f Us ps ps.length) fA X);have Q2:=aj iU;have Q3:=aj (((ah HS).below.trans ((But.aB hgn).below (by omega) (λk _ e=>by cases e))).trans hb3);have Q4:=aj (((ah HS).keep.trans (VK.grown hgn)).trans hk3);clear iV iU hb3 hk3 hdm hgn
   go_wp2_with fail
   go_end0
   exact⟨⟨_,rfl⟩,fA,ah Q1,by rw[ah HST];exact ah Q2,ah Q3,ah Q4⟩
theorem iO(a b:Nat)(w:World):Calls prog 173 #[.int .i64 a,.int .i64 b] w λe w'=>e=.returned (.agg #[.int .u8 61,.int .i64 a,.int .i64 b])/\w.grownBy w' none:=by
 go_enter func173,ntmps173
 go_wp2_with fail
 refine ah7 (v:=.agg #[.int .u8 61,.int .i64 a,.int .i64 b]) (by simp[results,results173,go_sem]) rfl ⟨rfl,?_⟩;exact ae9 _ _ none
theorem rD{α:Type}[BEq α][LawfulBEq α]:∀(m l:List α),l.Nodup->(∀x∈l,x∈m)->l.length<=m.length
 |[],l,_,h=>by
  cases l with
  |nil=>simp
  |cons a l=>have:=h a (by simp);cases this
 |a::m,l,hn,h=>by
  have h1:=rD m (l.erase a) (hn.sublist List.erase_sublist) (λx hx=>by
   have h2:=(hn.mem_erase_iff).1 hx;rcases aj8.1 (h x h2.2)with e|e
   ·exact absurd e h2.1
   ·exact e)
  have h2:l.length<=(l.erase a).length+1:=by
   rw[List.length_erase];split<;>omega
  simp;omega
theorem eP{α:Type}(g:Nat->List α)(k:Nat):(List.range (k+1)).flatMap g=(List.range k).flatMap g++g k:=by
 rw[au0,List.flatMap_append];simp
theorem OT{α:Type}(g:Nat->α)(k:Nat):(List.range (k+1)).map g=(List.range k).map g++[g k]:=by
 rw[au0,al7];rfl
def LS(n0 lb BU BS:Nat)(f:Key->Key)(dom:Key->Prop)(X:Nat->Prop)(aU:List Key)(L':List (List bG))(W:World):Prop:=
 ∃Us ak,LG n0 W lb BU BS f dom Us ak X/\lC Us ak L'/\∀p∈Us,p∈aU
theorem Vp{Us:List Key}{ak:List Rule}{L:List (List bG)}(h:lC Us ak L){aU:List Key}(hc:∀p∈Us,p∈aU)(h9:aU.length<=900):Us.length<=900:=ah2 (rD aU Us h.lp.nodup hc) h9
structure Ask(f:Key->Key)(dom:Key->Prop)(aU:List Key)(p:Key):Prop where
 d:dom p
 fd:dom (f p)
 ff:f (f p)=f p
 b:(0<=p.1/\p.1<=255)/\p.2.1<=1000/\p.2.2<=1000
 bf:(0<=(f p).1/\(f p).1<=255)/\(f p).2.1<=1000/\(f p).2.2<=1000
 c:f p∈aU
theorem XV.ask{f:Key->Key}{dom:Key->Prop}{nt:Nat}(h:XV f dom nt){aU:List Key}(hc:∀a b,a<nt->b<nt->f (61,a,b)∈aU)(hnt:nt<=1000){a b:Nat}(ha:a<nt)(hb:b<nt):Ask f dom aU (61,a,b):=by
 obtain⟨c,d,q1,q2,q3,q4⟩:=h.eq a b ha hb;refine⟨h.KQ _ (λ_=>⟨ha,hb⟩),?_,?_,⟨by simp,by show a<=1000;omega,by show b<=1000;omega⟩,?_,hc a b ha hb⟩
 ·rw[q1];exact h.KQ _ (λ_=>⟨q2,q3⟩)
 ·rw[q1,q4]
 ·rw[q1];exact⟨by simp,by show c<=1000;omega,by show d<=1000;omega⟩
theorem Gy{Us aU:List Key}{p:Key}(h:∀q∈Us,q∈aU)(hp:p∈aU):∀q∈put Us p,q∈aU:=λq hq=>by
 rcases uY.1 hq with e|e
 ·exact h q e
 ·rw[e];exact hp
theorem Jh(n0:Nat)(w:World)(lb BU BS:Nat)(f:Key->Key)(dom:Key->Prop)(X:Nat->Prop)(aU Us:List Key)(ak:List Rule)(L':List (List bG))(p:Key)(hA:Ask f dom aU p)(h:LG n0 w lb BU BS f dom Us ak X)(hP:lC Us ak L')(hc:∀q∈Us,q∈aU)(h9:aU.length<=900)(hn:n0<=w.heap.size) :
  Calls prog 174 #[.pointer (some ⟨lb,0,none⟩),.agg #[.int .u8 p.1,.int .i64 p.2.1,.int .i64 p.2.2]] w λe w'=>e=.returned (.agg #[.int .i64 ((put Us (f p)).idxOf (f p)),.bool true])/\LG n0 w' lb BU BS f dom (put Us (f p)) ak X/\lC (put Us (f p)) ak L'/\(∀q∈put Us (f p),q∈aU)/\Below n0 w w'/\VK w w':=by
 have hU:=Vp hP hc h9;refine(wI n0 w lb BU BS f dom Us ak X p h (by omega) hA.d hA.fd hA.ff hA.b hA.bf).mono ?_;rintro e w' ⟨rfl,h1,h2⟩;refine⟨?_,h1,hP.so _,Gy hc hA.c,h.below hn h2,VK.map h2 h.us.QM⟩;rw[iC];rfl
end Go.Proofs.YthcppbmkacbbiaaGreat
