import Derived.Test.YthcppbmkacbbiaaGreatXBJ
set_option linter.unusedSimpArgs false
set_option maxHeartbeats 8000000
set_option maxRecDepth 100000
namespace Go.Proofs.YthcppbmkacbbiaaGreat
open Go.Proofs.Tryz
section
open aB (Key put Inv jA texts)
open Ast
theorem Uh(s:ByteArray):At (pk s) 0 s.data.toList:=λi hi=>by
 have hi':i<s.size:=by simpa using hi
 unfold pk;rw[ak2,dif_pos hi'];simp[al2]
theorem at_eq{s:ByteArray}{txt:List UInt8}(h:At (pk s) 0 txt)(hl:txt.length=s.size):s.data.toList=txt:=by
 have hls:s.data.toList.length=s.size:=by simp
 refine List.ext_getElem (by omega) λi h1 h2=>?_;have e1:=Uh s i h1;have e2:=h i h2;exact UInt8.toNat.inj (by omega)
theorem UA(s:ByteArray)(hs:s.size<=100)(h0:(chk s).1=0):∃dep run val,mF s.data.toList dep run val:=by
 obtain⟨ts,cs,ps,h1,_⟩:=kS s hs h0;have h2:=aB.kD (pk s) (s.size+1) 0 0 [] [] [];rw[h1]at h2;obtain⟨txt,dep,run,val,q1,q2,q3⟩:=UZ (N9 s) _ _ _ _ _ _ _ _ h2.symm;rw[at_eq q2 (by omega)];exact⟨dep,run,val,q1⟩
end
section
open Sat (View Rule je bG)
open aB (Key put lD dR jn au aO dF fA)
def eqs(said:List aT):List (Nat×Nat):=(said.filter λl=>l.2&&decide (l.1.1=61)).map λl=>l.1.2
def aW(said:List aT):Nat->Nat:=iH id (eqs said)
theorem wY{said:List aT}{p:Nat×Nat}:p∈eqs said↔((61,p),true)∈said:=by
 unfold eqs;rw[ad9];constructor
 ·rintro⟨l,hl,rfl⟩;obtain⟨h1,h2⟩:=ag5.1 hl;simp at h2;obtain⟨⟨c,q⟩,b⟩:=l;simp at h2;obtain⟨rfl,rfl⟩:=h2;exact h1
 ·intro h;exact⟨_,ag5.2 ⟨h,by simp⟩,rfl⟩
structure Closed(ts:List Key)(f f':Nat->Nat):Prop where
 roots:iG f' ts.length
 CZ:wE f' ts
 Xr:∀a b,f a=f b->f' a=f' b
 least:∀R:Nat->Nat->Prop,WU R->uf R ts->(∀a b,a<ts.length->b<ts.length->f a=f b->R a b)->∀a b,a<ts.length->b<ts.length->f' a=f' b->R a b
def cb(f':Nat->Nat)(cs:List (Int×Nat))(said:List aT):Prop:=
 (∀l∈said,l.1.1=61->l.2=false->f' l.1.2.1≠f' l.1.2.2)/\
 (∀l∈said,∀m∈said,l.1.1≠61->m.1.1≠61->l.1.1=m.1.1->f' (cs.getD l.1.2.1 (0,0)).2=f' (cs.getD m.1.2.1 (0,0)).2->l.2=m.2)
def aaO(g:Nat->Nat)(hl:List Bool)(said:List aT):Prop:=
 ∀l∈said,(l.1.1=61->(g l.1.2.1=g l.1.2.2↔l.2=true))/\(l.1.1≠61->hl.getD l.1.2.1 false=l.2)
def nG(ts:List Key)(cs:List (Int×Nat))(said:List aT):Prop:=
 ∀l∈said,(l.1.1=61/\l.1.2.1<ts.length/\l.1.2.2<ts.length)\/((l.1.1=80\/l.1.1=81)/\∃h:l.1.2.1<cs.length,cs[l.1.2.1].1=l.1.1)
theorem QC{ts:List Key}{cs:List (Int×Nat)}{said:List aT}{f' g:Nat->Nat}{hl:List Bool}(hs:nG ts cs said)(hc:Closed ts (aW said) f')(hct:∀x∈cs,(x.1=80\/x.1=81)/\x.2<ts.length)
 (hg:wE g ts)(ha:Du g cs hl)(h:aaO g hl said):cb f' cs said:=by
 have hle:=hc.least (λa b=>g a=g b) (CJ g) ((iF g ts).1 hg) (λa b h1 h2 e=>by
  refine BL (CJ g) (l:=eqs said) (f:=id) (λp hp=>?_) (λx y _ _ e=>by rw[show x=y from e]) a b h1 h2 e;have hm:=wY.1 hp;have hb:p.1<ts.length/\p.2<ts.length:=by
   rcases hs _ hm with⟨_,q1,q2⟩|⟨q,_⟩
   ·exact⟨q1,q2⟩
   ·simp at q
  exact⟨hb.1,hb.2,((h _ hm).1 rfl).2 rfl⟩)
 refine⟨λl hl' h61 hf e=>?_,λl hl' m hm h61 Hz hlet e=>?_⟩
 ·rcases hs l hl' with⟨_,q1,q2⟩|⟨q,_⟩
  ·have:=((h l hl').1 h61).1 (hle _ _ q1 q2 e);rw[hf]at this;cases this
  ·omega
 ·rcases hs l hl' with⟨q,_⟩|⟨_,p1,p2⟩
  ·exact absurd q h61
  ·rcases hs m hm with⟨q,_⟩|⟨_,r1,r2⟩
   ·exact absurd q Hz
   ·rw[aG p1,aG r1]at e;have:=ha _ _ p1 r1 (by rw[p2,r2];exact hlet) (hle _ _ (hct _ (ab5 p1)).2 (hct _ (ab5 r1)).2 e);rw[<-(h l hl').2 h61,<-(h m hm).2 Hz];exact this
theorem Fp{v:Key->Bool}{ts:List Key}{cs:List (Int×Nat)}{ps:List Key}{hl:List Bool}{said:List aT}{f':Nat->Nat}(hi:aO ts.length cs.length ps)(hk:fA cs ps)(h0:0<ps.length)(hct:∀x∈cs,(x.1=80\/x.1=81)/\x.2<ts.length)
 (h:Hold v (lG id ps))(hall:∀q∈ps,q.1=61\/q.1=80\/q.1=81->(q,v q)∈said)(hc:Closed ts (aW said) f')(hcb:cb f' cs said)(hh:∀c (h:c<cs.length),hl.getD c false=v (cs[c].1,c,0)):Aa f' ts cs ps hl:=by
 refine FP hi hk h0 h hc.CZ (λi j hi' hj' e1 e2=>?_) (λq hq h61=>?_) hh
 ·rw[hh i hi',hh j hj'];have a1:=hct _ (ab5 hi');have b1:=hct _ (ab5 hj');have m1:=hall _ (hk.has i hi') (Or.inr a1.1);have m2:=hall _ (hk.has j hj') (Or.inr b1.1);exact hcb.2 _ m1 _ m2 (by show cs[i].1≠61;omega) (by show cs[j].1≠61;omega) e1 (by simp only;rw[aG hi',aG hj'];exact e2)
 ·have hm:=hall q hq (Or.inl h61);constructor
  ·intro e;cases hv:v q
   ·rw[hv]at hm;exact absurd e (hcb.1 _ hm h61 rfl)
   ·rfl
  ·intro hv;rw[hv]at hm;have:q.2∈eqs said:=wY.2 (by rw[<-h61];exact hm);exact hc.Xr _ _ (yA this)
end
section
open Go.RowKit Go.Maps Go.WideMaps
open aB (Key put)
abbrev jB:Type:=Nat×Bool×Key
def dB(s:jB):aT:=(s.2.2,s.2.1)
def CQ(s:jB):List Value:=[.int .i64 s.1,.bool s.2.1,.int .u8 s.2.2.1,.int .i64 s.2.2.2.1,.int .i64 s.2.2.2.2]
def fV(w:World)(v:Value)(ss:List jB):Prop:=
 ∃(p:Option Addr) (cap:Nat),v=.slice p ss.length cap/\ss.length<=cap/\(ss≠[]->∃(g off:Nat) (cur:Array Value) (x:Nat×Nat),p=some ⟨g,off,none⟩/\w.heap[g]?=some (Obj.cells cur 224 x)/\
  ∀i (hi:i<ss.length) j,j<5->cur[off+i*5+j]?=(CQ ss[i])[j]?)
theorem fV.below{w w':World}{v:Value}{ss:List jB}(h:fV w v ss)(hb:Below w.heap.size w w'):fV w' v ss:=by
 obtain⟨p,cap,h1,h2,h3⟩:=h;refine⟨p,cap,h1,h2,λhne=>?_⟩;obtain⟨g,off,cur,x,q1,q2,q3⟩:=h3 hne;exact⟨g,off,cur,x,q1,(hb.block g (ab1.1 q2).1).trans q2,q3⟩
theorem fV.cells{w:World}{v:Value}{ss:List jB}(h:fV w v ss):∃p cap,v=.slice p ss.length cap/\ss.length<=cap/\(ss≠[]->∃g off,p=some ⟨g,off,none⟩/\g<w.heap.size/\∀W:World,Below w.heap.size w W->∀k (hk:k<ss.length),
  W.cell? ⟨g,off+k*5,none⟩=some (.int .i64 ss[k].1)/\W.cell? ⟨g,off+k*5+1,none⟩=some (.bool ss[k].2.1)/\W.cell? ⟨g,off+k*5+2,none⟩=some (.int .u8 ss[k].2.2.1)/\W.cell? ⟨g,off+k*5+3,none⟩=some (.int .i64 ss[k].2.2.2.1)/\W.cell? ⟨g,off+k*5+4,none⟩=some (.int .i64 ss[k].2.2.2.2)):=by
 obtain⟨p,cap,h1,h2,h3⟩:=h;refine⟨p,cap,h1,h2,λhne=>?_⟩;obtain⟨g,off,cur,x,q1,q2,q3⟩:=h3 hne;have hg:=(ab1.1 q2).1;refine⟨g,off,q1,hg,λW hW k hk=>?_⟩;have hb:=(hW.block g hg).trans q2;refine⟨?_,?_,?_,?_,?_⟩<;>rw[cell_of hb]
 ·exact(q3 k hk 0 (by omega)).trans rfl
 ·exact(q3 k hk 1 (by omega)).trans rfl
 ·exact(q3 k hk 2 (by omega)).trans rfl
 ·exact(q3 k hk 3 (by omega)).trans rfl
 ·exact(q3 k hk 4 (by omega)).trans rfl
theorem gJ.made(w:World)(n:Nat):gJ (w.alloc (.map #[] 0)) w.heap.size id n 0:=
 ⟨id,λ_=>0,⟨.map [],0,ab3 _,World.ownsMap_made w _ _ _,λi _=>⟨by simp[Maps.has],λh=>absurd rfl h⟩⟩,λi hi=>⟨hi,λh=>h,λh=>absurd rfl h⟩⟩
theorem UW(n:Nat):rts id n=n:=by
 unfold rts;rw[List.countP_eq_length.2 (by simp)];simp
theorem Qa{L:List aT}{k:Nat}(hk:k<L.length):eqs (L.take (k+1))=eqs (L.take k)++if (L[k].2&&decide (L[k].1.1=61))=true then [L[k].1.2]else []:=by
 unfold eqs;rw[af6,ab4 hk,al0,ai5]
 congr 1
 show([L[k]].filter _).map _=_
 rw[List.filter_cons];split<;>rfl
structure JG(w:World)(f:Nat->Nat)(n b:Nat)(W:World):Prop where
 m:∃c,gJ W b f n c/\c+rts f n<=n
 roots:iG f n
 below:Below w.heap.size w W
 lo:w.heap.size<=b
theorem JG.grow{w:World}{f:Nat->Nat}{n b:Nat}{W W':World}(h:JG w f n b W)(hg:W.grownBy W' none):JG w f n b W':=by
 obtain⟨c,h1,h2⟩:=h.m;exact⟨⟨c,h1.kept (hg.block b h1.lt (by simp)),h2⟩,h.roots,h.below.grown hg h.below.size (λk e=>by cases e),h.lo⟩
theorem JG.join{w:World}{f:Nat->Nat}{n b:Nat}{W:World}(h:JG w f n b W)(hn:n<=500){i j:Nat}(hi:i<n)(hj:j<n) :
  Calls prog 126 #[.map (some b),.int .i64 i,.int .i64 j] W λe W'=>(∃v,e=.returned v)/\JG w (nJ f i j) n b W'/\W.grownBy W' (some b):=by
 obtain⟨c,h1,h2⟩:=h.m;refine(EG W b n c f i j h1 hi hj hn (by omega)).mono ?_;rintro e W' ⟨he,hg,hc⟩;refine⟨he,⟨⟨_,hc,?_⟩,h.roots.nJ hi,h.below.grown hg h.below.size (λk e=>by cases e;exact h.lo),h.lo⟩,hg⟩;by_cases e:f i=f j
 ·rw[ad3 e,pq e];exact h2
 ·rw[ac2 e];have:=wS h.roots hi hj e;omega
theorem vO(w:World)(v:Value)(ss:List jB)(n:Nat)(hs:fV w v ss)(hn:n<=500)(hl:ss.length<=1000)(hok:∀s∈ss,s.2.2.1=61->s.2.2.2.1<n/\s.2.2.2.2<n) :
  Calls prog 141 #[v] w λe w'=>∃b,e=.returned (.map (some b))/\JG w (aW (ss.map dB)) n b w':=by
 obtain⟨vp,vc,rfl,hvc,hvs⟩:=hs.cells;have hmm:=@ap4 prog;have HVS:=aj hvs;have HOK:=aj hok;clear hvs hs hok
 go_enter func141,ntmps141
 go_wp2_with fail
 go_loopw [9] (λi wr=>∃k:Nat,k<=ss.length/\i=.int .i64 k/\JG w (aW ((ss.map dB).take k)) n w.heap.size wr) (λi _=>ss.length-(intOf i).toNat)
 case atStart=>
  refine⟨0,af4 _,rfl,⟨0,gJ.made w n,?_⟩,NQ n,(af0 _ _).alloc (ab3 _) _,ab3 _⟩;rw[al8]
  show 0+rts id n<=n
  rw[UW];omega
 case round=>
  obtain⟨k,hk,rfl,hJ⟩:=hrel;by_cases hlt:k<ss.length
  ·have hbd:(k:Int)<(ss.length:Int):=(by omega);have hne:ss≠[]:=(by intro e;rw[e]at hlt;simp at hlt);obtain⟨g,off,rfl,hgl,hcs⟩:=ah HVS hne;obtain⟨d0,d1,d2,d3,d4⟩:=hcs wr hJ.below k hlt;have hok:=ah HOK ss[k] (ab5 hlt);have htk:aW ((ss.map dB).take (k+1))=if (ss[k].2.1&&decide (ss[k].2.2.1=61))=true then nJ (aW ((ss.map dB).take k)) ss[k].2.2.2.1 ss[k].2.2.2.2 else aW ((ss.map dB).take k):=by
    unfold aW;rw[Qa (by simpa using hlt)];simp only[aj8,dB];split
    ·rw[AB]
    ·rw[ai7]
   have fE:=aj htk;have HJ:=aj hJ;clear htk hJ hcs;generalize ss[k]=s at d0 d1 d2 d3 d4 hok fE;obtain⟨sx,si,sc,s1,s2⟩:=s;simp only at d0 d1 d2 d3 d4 hok fE;generalize aW ((ss.map dB).take k)=F at fE HJ;have hga:wr.grownBy (wr.alloc (.cells #[.int .i64 sx,.bool si,.int .u8 sc,.int .i64 s1,.int .i64 s2] 224)) none:=ab2 _ _ none;have hJ1:=(ah HJ).grow hga;by_cases hc:si=true/\sc=61
   ·obtain⟨rfl,rfl⟩:=hc;obtain⟨o1,o2⟩:=hok rfl;have hjn:=hJ1.join hn o1 o2;rw[ad3 (by simp)]at fE;have HJN:=aj hjn;clear hjn hJ1 hga
    go_wp2_with fail
    refine(ah HJN).mono ?_;rintro e w2 ⟨⟨v2,rfl⟩,hJ2,hg2⟩;have HJ2:=aj hJ2;clear hJ2 hg2
    go_wp2_with fail
    refine⟨⟨k+1,hlt,by go_num,?_⟩,by simp[intOf];omega⟩;rw[ah fE];exact ah HJ2
   ·have hcf:¬(si&&decide (sc=61))=true:=(by simpa using hc);rw[ac2 hcf]at fE;have HJ2:=aj hJ1;clear hJ1 hga hcf;by_cases h1:si=true
    ·have h2:¬sc=61:=λe=>hc ⟨h1,e⟩;subst h1
     go_wp2_with fail
     refine⟨⟨k+1,hlt,by go_num,?_⟩,by simp[intOf];omega⟩;rw[ah fE];exact ah HJ2
    ·have h1':si=false:=(by simpa using h1);subst h1'
     go_wp2_with fail
     refine⟨⟨k+1,hlt,by go_num,?_⟩,by simp[intOf];omega⟩;rw[ah fE];exact ah HJ2
  ·have hkk:k=ss.length:=(by omega);have hbd:¬(k:Int)<(ss.length:Int):=(by omega);have ht:(ss.map dB).take k=ss.map dB:=(by rw[ag3 (by simp;omega)]);rw[ht]at hJ;have HJ:=aj hJ;clear hJ ht hkk
   go_wp2_with fail
   exact ae3 (v:=.map (some w.heap.size)) (by simp[results,results141,go_sem]) rfl ⟨w.heap.size,rfl,ah HJ⟩
end
section
open Go.RowKit Go.Maps Go.WideMaps
open Sat (View Rule je bG)
open aB (Key put dF au aO)
def pI(nt:Nat)(p:Key):Prop:=p.1=61->p.2.1<nt/\p.2.2<nt
def rJ(a:Nat)(d:Bool)(b:Nat)(q:Key):Key:=if q.1=61/\(q.2.1<a\/(q.2.1=a/\((d=true/\q.2.2=a)\/q.2.2<b)))then fZ q else q
theorem oI{x y:Nat}(h:x<y):fZ (61,x,y)=(61,x,y):=by
 unfold fZ;simp only[ah9];rw[ac2 (by omega),ac2 (by omega)]
theorem rW{x y:Nat}(h:y<x):fZ (61,x,y)=(61,y,x):=by
 unfold fZ;simp only[ah9];rw[ac2 (by omega),ad3 h]
theorem oJ(x:Nat):fZ (61,x,x)=(61,0,0):=by simp[fZ]
theorem Af(q:Key):rJ 0 false 0 q=q:=by
 unfold rJ;rw[ac2];rintro⟨_,h|⟨_,h|h⟩⟩
 ·omega
 ·simp at h
 ·omega
theorem Nz(a:Nat)(d:Bool)(b:Nat):rJ a d b (61,0,0)=(61,0,0):=by
 unfold rJ;split
 ·exact oJ 0
 ·rfl
theorem NG(a:Nat):rJ a false 0 (61,a,a)=(61,a,a):=by
 unfold rJ;rw[ac2];rintro⟨_,h|⟨_,h|h⟩⟩
 ·simp at h
 ·simp at h
 ·omega
theorem UN{a b:Nat}(d:Bool)(h:b<a)(c:Nat):rJ a d c (61,b,a)=(61,b,a):=by
 unfold rJ;split
 ·exact oI h
 ·rfl
theorem ND{a b:Nat}(h:b<a):rJ a true b (61,a,b)=(61,a,b):=by
 unfold rJ;rw[ac2];rintro⟨_,h1|⟨_,h1|h1⟩⟩
 ·simp at h1
 ·simp at h1;omega
 ·simp at h1
theorem J3(a:Nat)(q:Key):(if q=(61,a,a)then(61,0,0)else rJ a false 0 q)=rJ a true 0 q:=by
 obtain⟨c,x,y⟩:=q;by_cases e:(c,x,y)=((61,a,a):Key)
 ·rw[ad3 e];cases e;unfold rJ;rw[ad3 ⟨rfl,Or.inr ⟨rfl,Or.inl ⟨rfl,rfl⟩⟩⟩,oJ]
 ·rw[ac2 e];unfold rJ;by_cases h:c=61/\x<a
  ·rw[ad3 ⟨h.1,Or.inl h.2⟩,ad3 ⟨h.1,Or.inl h.2⟩]
  ·rw[ac2,ac2]
   ·rintro⟨h1,h2|⟨h2,h3|h3⟩⟩
    ·exact h ⟨h1,h2⟩
    ·simp only at h1 h2 h3;exact e (by rw[h1,h2,h3.2])
    ·omega
   ·rintro⟨h1,h2|⟨h2,h3|h3⟩⟩
    ·exact h ⟨h1,h2⟩
    ·simp at h3
    ·omega
theorem NC(a b:Nat)(hb:b<a)(q:Key):(if q=(61,a,b)then(61,b,a)else rJ a true b q)=rJ a true (b+1) q:=by
 obtain⟨c,x,y⟩:=q;by_cases e:(c,x,y)=((61,a,b):Key)
 ·rw[ad3 e];cases e;unfold rJ;rw[ad3 ⟨rfl,Or.inr ⟨rfl,Or.inr (Nat.lt_succ_self _)⟩⟩,rW hb]
 ·rw[ac2 e];unfold rJ;by_cases h:c=61/\(x<a\/(x=a/\((true=true/\y=a)\/y<b)))
  ·rw[ad3 h,ad3];refine⟨h.1,h.2.imp id (λg=>⟨g.1,g.2.imp id (λg2=>by show y<b+1;omega)⟩)⟩
  ·rw[ac2 h,ac2];rintro⟨h1,h2|⟨h2,h3|h3⟩⟩
   ·exact h ⟨h1,Or.inl h2⟩
   ·exact h ⟨h1,Or.inr ⟨h2,Or.inl h3⟩⟩
   ·simp only at h1 h2 h3;by_cases hy:y=b
    ·exact e (by rw[h1,h2,hy])
    ·exact h ⟨h1,Or.inr ⟨h2,Or.inr (by show y<b;omega)⟩⟩
theorem Rq(a:Nat)(q:Key):rJ a true a q=rJ (a+1) false 0 q:=by
 obtain⟨c,x,y⟩:=q;unfold rJ;by_cases h:c=61/\x<a+1
 ·rw[ad3 (c:=_/\(x<a+1\/_)) ⟨h.1,Or.inl h.2⟩];by_cases h2:c=61/\(x<a\/(x=a/\((true=true/\y=a)\/y<a)))
  ·rw[ad3 h2]
  ·rw[ac2 h2];have hx:x=a:=by
    refine af2 λhn=>h2 ⟨h.1,Or.inl ?_⟩
    show x<a
    have:=h.2;omega
   have hy:x<y:=by
    refine af2 λhn=>h2 ⟨h.1,Or.inr ⟨hx,?_⟩⟩;by_cases e:y=a
    ·exact Or.inl ⟨rfl,e⟩
    ·right;show y<a;omega
   have:=h.1;rw[this,oI hy]
 ·rw[ac2,ac2]
  ·rintro⟨h1,h2|⟨_,h3|h3⟩⟩
   ·exact h ⟨h1,h2⟩
   ·simp at h3
   ·omega
  ·rintro⟨h1,h2|⟨h2,_⟩⟩
   ·exact h ⟨h1,by show x<a+1;simp only at h2;omega⟩
   ·exact h ⟨h1,by show x<a+1;simp only at h2;omega⟩
theorem Rt(n:Nat)(q:Key)(hq:pI n q):rJ n false 0 q=fZ q:=by
 unfold rJ;by_cases h:q.1=61
 ·rw[ad3 ⟨h,Or.inl (hq h).1⟩]
 ·rw[ac2 (λg=>h g.1),eH.other q h]
theorem LG.cls{n0:Nat}{w w':World}{lb BU BS:Nat}{f f':Key->Key}{dom:Key->Prop}{Us:List Key}{ak:List Rule}{X:Nat->Prop}(h:LG n0 w lb BU BS f dom Us ak X)(hg:w.grownBy w' (some BS))(hp:gB w' BS f' dom 500):LG n0 w' lb BU BS f' dom Us ak X:=by
 obtain⟨rv,h1,h2,h3⟩:=h.rv;exact⟨⟨rv,h1.kept (hg.block lb h1.lt (by simpa using h1.yg h.sm)),h2.but (But.aA hg) (λk e=>by cases e;exact h.sm.nU) (λk hk e=>h2.v.yg h.sm k hk (by cases e;rfl)),h3⟩,h.us.kept (hg.block BU h.us.lt (by simpa using h.ne)),hp,h.ne,h.lo⟩
theorem gB.le{w:World}{b c c':Nat}{f:Key->Key}{dom:Key->Prop}(h:gB w b f dom c)(hc:c<=c'):gB w b f dom c':=by
 obtain⟨D,nn,h0,h1,h2⟩:=h;exact⟨D,nn,by omega,h1,h2⟩
theorem gB.Nl{w:World}{b c:Nat}{f:Key->Key}{dom:Key->Prop}(h:gB w b f dom c):∀cur t x,w.heap[b]?≠some (Obj.cells cur t x):=by
 obtain⟨D,nn,_,⟨es,c,h1,_⟩,_⟩:=h;intro cur t x e;rw[h1]at e;cases e
structure JI(w:World)(n0 lb BU BS:Nat)(nt:Nat)(Us:List Key)(ak:List Rule)(X:Nat->Prop)(a:Nat)(d:Bool)(b:Nat)(c:Nat)(W:World):Prop where
 lg:LG n0 W lb BU BS (rJ a d b) (pI nt) Us ak X
 p:gB W BS (rJ a d b) (pI nt) c
 below:Below n0 w W
 keep:VK w W
 size:w.heap.size<=W.heap.size
theorem JI.grow{w:World}{n0 lb BU BS nt:Nat}{Us:List Key}{ak:List Rule}{X:Nat->Prop}{a:Nat}{d:Bool}{b c:Nat}{W W':World}(h:JI w n0 lb BU BS nt Us ak X a d b c W)(hn:n0<=w.heap.size)(hg:W.grownBy W' none):JI w n0 lb BU BS nt Us ak X a d b c W':=
 ⟨h.lg.grow hg,h.p.kept (hg.block BS h.p.lt (by simp)),h.below.trans ((But.aA hg).below (ad6 hn h.size) (λk _ e=>by cases e)),h.keep.trans (VK.grown hg),ad6 h.size hg.size⟩
theorem JI.join{w:World}{n0 lb BU BS nt:Nat}{Us:List Key}{ak:List Rule}{X:Nat->Prop}{a:Nat}{d:Bool}{b c:Nat}{W W':World}(h:JI w n0 lb BU BS nt Us ak X a d b c W)(hn:n0<=w.heap.size)(hg:W.grownBy W' (some BS)){d':Bool}{b':Nat}(hp:gB W' BS (rJ a d' b') (pI nt) (c+1))(hc:c+1<=500):JI w n0 lb BU BS nt Us ak X a d' b' (c+1) W':=
 ⟨h.lg.cls hg (hp.le hc),hp,h.below.trans ((But.aA hg).below (ad6 hn h.size) (λk hk e=>by cases e;have:=h.lg.lo.2.2;omega)),h.keep.trans (VK.map hg h.p.Nl),ad6 h.size hg.size⟩
theorem GI(X:Nat->Prop)(n0:Nat)(w:World)(lb BU BS nt:Nat)(Us:List Key)(ak:List Rule)(iQ:LG n0 w lb BU BS id (pI nt) Us ak X)(hP:gB w BS id (pI nt) 0)(hnt:nt<=7)(hn:n0<=w.heap.size) :
  Calls prog 129 #[.pointer (some ⟨lb,0,none⟩),.int .i64 nt] w λe w'=>(∃z,e=.returned z)/\LG n0 w' lb BU BS fZ (pI nt) Us ak X/\Below n0 w w'/\VK w w'/\w.heap.size<=w'.heap.size:=by
 have hJ0:JI w n0 lb BU BS nt Us ak X 0 false 0 0 w:=⟨iQ.cls (af9 _ _) ((hP.congr (λk _=>(Af k).symm)).le (by omega)),hP.congr (λk _=>(Af k).symm),af0 _ _,VK.refl _,ab3 _⟩;have HJ0:=aj hJ0;clear iQ hP hJ0
 go_enter func129,ntmps129
 go_wp2_with fail
 go_loopw [7] (λi wr=>∃a c:Nat,a<=nt/\c<=a*8/\i=.int .i64 a/\JI w n0 lb BU BS nt Us ak X a false 0 c wr) (λi _=>nt-(intOf i).toNat)
 case atStart=>exact⟨0,0,af4 _,ab3 _,rfl,ah HJ0⟩
 case round=>
  obtain⟨a,c,ha,hc8,rfl,hJ⟩:=hrel;by_cases hlt:a<nt
  ·have hbd:(a:Int)<(nt:Int):=(by omega);obtain⟨rv,hL,_,_⟩:=hJ.lg.rv;have c1:=hL.cells.2.1;have hll:=hL.lt;have hne:lb≠BS:=hL.yg hJ.lg.sm;have HJ:=aj hJ;have hBl:=hJ.p.lt;clear hJ hL
   go_wp2_with fail
   obtain⟨V,hVd⟩:∃V,wr.drew=V:=⟨_,rfl⟩;have jm:wr.grownBy V none:=(by rw[<-hVd];exact⟨rfl,rfl,rfl,ab3 _,λ_ _ _=>rfl⟩);refine ae9 (S:=λW'=>V.grownBy W' (some BS)) rfl ?_;have hS0:V.grownBy V (some BS):=af9 _ _;simp only[ac0,ab9,ac9,Nat.reduceAdd,ab8,ab7,ac3,ac6,ac5];change wpAnyH prog .any _ _ _ _ _ _ wr.drew;rw[hVd];clear hVd;have c1V:=jm.cell c1 (by simp);have hlB:(some lb:Option Nat)≠some BS:=(by simpa using hne);have hJV:=(ah HJ).grow hn jm;refine tH 0 (.pointer (some ⟨lb,0,none⟩)) (λw' hS=>?_) hS0 ?_
   ·go_simp
   simp only[aC];refine tH 1 (.pointer (some ⟨lb,0,none⟩)) (λw' hS=>?_) hS0 ?_
   ·go_simp
   simp only[aC];refine tH 2 (.pointer (some ⟨lb,1,none⟩)) (λw' hS=>?_) hS0 ?_
   ·go_simp
   simp only[aC];refine tH 3 (.map (some BS)) (λw' hS=>?_) hS0 ?_
   ·have q:=hS.cell c1V hlB;go_simp
   simp only[aC];refine tH 5 (.int .i64 a) (λw' hS=>?_) hS0 ?_
   ·go_simp
   simp only[aC];refine tH 6 (.int .i64 a) (λw' hS=>?_) hS0 ?_
   ·go_simp
   simp only[aC];have he0:=gW 0 0 V;simp only[Int.natCast_zero]at he0;refine oH 4 (λK hK=>?_);go_simp;refine(he0).mono ?_;rintro e w1 ⟨rfl,hg1⟩;replace hS0:=hS0.trans (hg1.but (some BS));refine hK.out _ _ hS0 ?_;clear hK K;refine oH 7 (λK hK=>?_);go_simp;refine(gW a a w1).mono ?_;rintro e w2 ⟨rfl,hg2⟩;replace hS0:=hS0.trans (hg2.but (some BS));refine hK.out _ _ hS0 ?_;clear hK K;have hJ2:=(hJV.grow hn hg1).grow hn hg2;have hjp:=AA w2 BS c (rJ a false 0) (pI nt) (61,0,0) (61,a,a) hJ2.p (by omega) (λ_=>⟨by show 0<nt;omega,by show 0<nt;omega⟩) (λ_=>⟨hlt,hlt⟩) (Nz _ _ _) (NG a) ⟨by simp,by simp,by simp⟩ ⟨by simp,by show a<=1000;omega,by show a<=1000;omega⟩;simp only[aQ,Int.natCast_zero]at hjp;refine oH 8 (λK hK=>?_);go_simp;refine(hjp).mono ?_;rintro e w3 ⟨⟨z3,rfl⟩,hg3,hP3⟩;refine hK.out _ _ (hS0.trans hg3) (ae4 (by kernel_rfl) ?_ _);clear hK K;have hJ3:=hJ2.join (d':=true) (b':=0) hn hg3 (hP3.congr (λk _=>J3 a k)) (by omega);have HJ3:=aj hJ3;clear hJ3 hJ2 hJV hS0 hg1 hg2 hg3 hP3 hjp he0 HJ
   go_wp2_with fail
   go_loopw [20] (λi wq=>∃b c':Nat,b<=a/\c'<=a*8+1+b/\i=.int .i64 b/\JI w n0 lb BU BS nt Us ak X a true b c' wq) (λi _=>a-(intOf i).toNat)
   case atStart=>exact⟨0,c+1,af4 _,by omega,rfl,ah HJ3⟩
   case round=>
    clear HJ3 c1 c1V hll hBl hne hlB;obtain⟨b,c',hb,hc9,rfl,hJ⟩:=hrel;by_cases hlb:b<a
    ·have hbd2:(b:Int)<(a:Int):=(by omega);obtain⟨rv,hL,_,_⟩:=hJ.lg.rv;have c1:=hL.cells.2.1;have hll:=hL.lt;have hne:lb≠BS:=hL.yg hJ.lg.sm;have HJ:=aj hJ;have hBl:=hJ.p.lt;clear hJ hL
     go_wp2_with fail
     obtain⟨V,hVd⟩:∃V,wr.drew=V:=⟨_,rfl⟩;have jm:wr.grownBy V none:=(by rw[<-hVd];exact⟨rfl,rfl,rfl,ab3 _,λ_ _ _=>rfl⟩);refine ae9 (S:=λW'=>V.grownBy W' (some BS)) rfl ?_;have hS0:V.grownBy V (some BS):=af9 _ _;simp only[ac0,ab9,ac9,Nat.reduceAdd,ab8,ab7,ac3,ac6,ac5];change wpAnyH prog .any _ _ _ _ _ _ wr.drew;rw[hVd];clear hVd;have c1V:=jm.cell c1 (by simp);have hlB:(some lb:Option Nat)≠some BS:=(by simpa using hne);have hJV:=(ah HJ).grow hn jm;refine tH 0 (.pointer (some ⟨lb,0,none⟩)) (λw' hS=>?_) hS0 ?_
     ·go_simp
     simp only[aC];refine tH 1 (.pointer (some ⟨lb,0,none⟩)) (λw' hS=>?_) hS0 ?_
     ·go_simp
     simp only[aC];refine tH 2 (.pointer (some ⟨lb,1,none⟩)) (λw' hS=>?_) hS0 ?_
     ·go_simp
     simp only[aC];refine tH 3 (.map (some BS)) (λw' hS=>?_) hS0 ?_
     ·have q:=hS.cell c1V hlB;go_simp
     simp only[aC];refine tH 4 (.int .i64 b) (λw' hS=>?_) hS0 ?_
     ·go_simp
     simp only[aC];refine tH 5 (.int .i64 a) (λw' hS=>?_) hS0 ?_
     ·go_simp
     simp only[aC];refine tH 7 (.int .i64 a) (λw' hS=>?_) hS0 ?_
     ·go_simp
     simp only[aC];refine tH 8 (.int .i64 b) (λw' hS=>?_) hS0 ?_
     ·go_simp
     simp only[aC];refine oH 6 (λK hK=>?_);go_simp;refine(gW b a V).mono ?_;rintro e w1 ⟨rfl,hg1⟩;replace hS0:=hS0.trans (hg1.but (some BS));refine hK.out _ _ hS0 ?_;clear hK K;refine oH 9 (λK hK=>?_);go_simp;refine(gW a b w1).mono ?_;rintro e w2 ⟨rfl,hg2⟩;replace hS0:=hS0.trans (hg2.but (some BS));refine hK.out _ _ hS0 ?_;clear hK K;have hJ2:=(hJV.grow hn hg1).grow hn hg2;have hjp:=AA w2 BS c' (rJ a true b) (pI nt) (61,b,a) (61,a,b) hJ2.p (by omega) (λ_=>⟨by show b<nt;omega,hlt⟩) (λ_=>⟨hlt,by show b<nt;omega⟩) (UN true hlb b) (ND hlb) ⟨by simp,by show b<=1000;omega,by show a<=1000;omega⟩ ⟨by simp,by show a<=1000;omega,by show b<=1000;omega⟩;simp only[aQ]at hjp;refine oH 10 (λK hK=>?_);go_simp;refine(hjp).mono ?_;rintro e w3 ⟨⟨z3,rfl⟩,hg3,hP3⟩;refine hK.out _ _ (hS0.trans hg3) (ae4 (by kernel_rfl) ?_ _);clear hK K;have hJ3:=hJ2.join (d':=true) (b':=b+1) hn hg3 (hP3.congr (λk _=>NC a b hlb k)) (by omega);have HJ3:=aj hJ3;clear hJ3 hJ2 hJV hS0 hg1 hg2 hg3 hP3 hjp HJ
     go_wp2_with fail
     exact⟨⟨b+1,c'+1,hlb,by omega,by go_num,ah HJ3⟩,by simp[intOf];omega⟩
    ·have hbb:b=a:=(by omega);subst hbb;have hbd2:¬(b:Int)<(b:Int):=(by omega);have hJ2:JI w n0 lb BU BS nt Us ak X (b+1) false 0 c' wr:=by
      have e:rJ b true b=rJ (b+1) false 0:=funext (Rq b);exact⟨by rw[<-e];exact hJ.lg,by rw[<-e];exact hJ.p,hJ.below,hJ.keep,hJ.size⟩
     have HJ2:=aj hJ2;clear hJ hJ2
     go_wp2_with fail
     exact⟨⟨b+1,c',hlt,by omega,by go_num,ah HJ2⟩,by simp[intOf];omega⟩
  ·have haa:a=nt:=(by omega);subst haa;have hbd:¬(a:Int)<(a:Int):=(by omega);have hLF:LG n0 wr lb BU BS fZ (pI a) Us ak X:=hJ.lg.cls (af9 _ _) (hJ.lg.sm.congr (λk hk=>Rt a k hk));have Q1:=aj hLF;have Q2:=aj hJ;clear hJ hLF
   go_wp2_with fail
   go_end0
   exact⟨⟨_,rfl⟩,ah Q1,(ah Q2).below,(ah Q2).keep,(ah Q2).size⟩
end
open Go.RowKit
theorem uQ(m:Option Nat)(w:World):Calls prog 87 #[.map m] w λe w'=>e=.returned (.slice none 0 0)/\w'=w:=by
 go_enter func87,ntmps87
 go_wp2_with fail
 go_ret
 exact⟨rfl,rfl⟩
end Go.Proofs.YthcppbmkacbbiaaGreat
