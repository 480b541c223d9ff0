import Derived.Test.YthcppbmkacbbiabGreatWBI
set_option linter.unusedSimpArgs false
set_option maxHeartbeats 4000000
set_option maxRecDepth 100000
namespace Go.Proofs.YthcppbmkacbbiabGreat
open Go.Proofs.Tryz
section
open Sat (View Rule jk bG)
open aB (Key put oJ dY jn au aQ dJ fE)
def eqs(said:List aU):List (Nat×Nat):=(said.filter λl=>l.2&&decide (l.1.1=61)).map λl=>l.1.2
def aX(said:List aU):Nat->Nat:=iI id (eqs said)
theorem xF{said:List aU}{p:Nat×Nat}:p∈eqs said↔((61,p),true)∈said:=by
 unfold eqs;rw[af9];constructor
 ·rintro⟨l,hl,rfl⟩;obtain⟨h1,h2⟩:=ai3.1 hl;simp at h2;obtain⟨⟨c,q⟩,b⟩:=l;simp at h2;obtain⟨rfl,rfl⟩:=h2;exact h1
 ·intro h;exact⟨_,ai3.2 ⟨h,by simp⟩,rfl⟩
structure Closed(ts:List Key)(f f':Nat->Nat):Prop where
 roots:iH f' ts.length
 DI:qh f' ts
 Yz:∀a b,f a=f b->f' a=f' b
 least:∀R:Nat->Nat->Prop,Yc R->KF R ts->(∀a b,a<ts.length->b<ts.length->f a=f b->R a b)->∀a b,a<ts.length->b<ts.length->f' a=f' b->R a b
def cb(f':Nat->Nat)(cs:List (Int×Nat))(said:List aU):Prop:=
 (∀l∈said,l.1.1=61->l.2=false->f' l.1.2.1≠f' l.1.2.2)/\
 (∀l∈said,∀m∈said,l.1.1≠61->m.1.1≠61->l.1.1=m.1.1->f' (cs.getD l.1.2.1 (0,0)).2=f' (cs.getD m.1.2.1 (0,0)).2->l.2=m.2)
def ab9(g:Nat->Nat)(hl:List Bool)(said:List aU):Prop:=
 ∀l∈said,(l.1.1=61->(g l.1.2.1=g l.1.2.2↔l.2=true))/\(l.1.1≠61->hl.getD l.1.2.1 false=l.2)
def nN(ts:List Key)(cs:List (Int×Nat))(said:List aU):Prop:=
 ∀l∈said,(l.1.1=61/\l.1.2.1<ts.length/\l.1.2.2<ts.length)\/((l.1.1=80\/l.1.1=81)/\∃h:l.1.2.1<cs.length,cs[l.1.2.1].1=l.1.1)
theorem RS{ts:List Key}{cs:List (Int×Nat)}{said:List aU}{f' g:Nat->Nat}{hl:List Bool}(hs:nN ts cs said)(hc:Closed ts (aX said) f')(hct:∀x∈cs,(x.1=80\/x.1=81)/\x.2<ts.length)
 (hg:qh g ts)(ha:Vp g cs hl)(h:ab9 g hl said):cb f' cs said:=by
 have hle:=hc.least (λa b=>g a=g b) (Dt g) ((iG g ts).1 hg) (λa b h1 h2 e=>by
  refine CY (Dt g) (l:=eqs said) (f:=id) (λp hp=>?_) (λx y _ _ e=>by rw[show x=y from e]) a b h1 h2 e;have hm:=xF.1 hp;have hb:p.1<ts.length/\p.2<ts.length:=by
   rcases hs _ hm with⟨_,q1,q2⟩|⟨q,_⟩
   ·exact⟨q1,q2⟩
   ·simp at q
  exact⟨hb.1,hb.2,((h _ hm).1 rfl).2 rfl⟩)
 refine⟨λl hl' h61 hf e=>?_,λl hl' m hm h61 IU hlet e=>?_⟩
 ·rcases hs l hl' with⟨_,q1,q2⟩|⟨q,_⟩
  ·have:=((h l hl').1 h61).1 (hle _ _ q1 q2 e);rw[hf]at this;cases this
  ·omega
 ·rcases hs l hl' with⟨q,_⟩|⟨_,p1,p2⟩
  ·exact absurd q h61
  ·rcases hs m hm with⟨q,_⟩|⟨_,r1,r2⟩
   ·exact absurd q IU
   ·rw[aG p1,aG r1]at e;have:=ha _ _ p1 r1 (by rw[p2,r2];exact hlet) (hle _ _ (hct _ (ad8 p1)).2 (hct _ (ad8 r1)).2 e);rw[<-(h l hl').2 h61,<-(h m hm).2 IU];exact this
theorem Gi{v:Key->Bool}{ts:List Key}{cs:List (Int×Nat)}{ps:List Key}{hl:List Bool}{said:List aU}{f':Nat->Nat}(hi:aQ ts.length cs.length ps)(hk:fE cs ps)(h0:0<ps.length)(hct:∀x∈cs,(x.1=80\/x.1=81)/\x.2<ts.length)
 (h:Hold v (lK id ps))(hall:∀q∈ps,q.1=61\/q.1=80\/q.1=81->(q,v q)∈said)(hc:Closed ts (aX said) f')(hcb:cb f' cs said)(hh:∀c (h:c<cs.length),hl.getD c false=v (cs[c].1,c,0)):xP f' ts cs ps hl:=by
 refine Gx hi hk h0 h hc.DI (λi j hi' hj' e1 e2=>?_) (λq hq h61=>?_) hh
 ·rw[hh i hi',hh j hj'];have a1:=hct _ (ad8 hi');have b1:=hct _ (ad8 hj');have m1:=hall _ (hk.has i hi') (Or.inr a1.1);have m2:=hall _ (hk.has j hj') (Or.inr b1.1);exact hcb.2 _ m1 _ m2 (by show cs[i].1≠61;omega) (by show cs[j].1≠61;omega) e1 (by simp only;rw[aG hi',aG hj'];exact e2)
 ·have hm:=hall q hq (Or.inl h61);constructor
  ·intro e;cases hv:v q
   ·rw[hv]at hm;exact absurd e (hcb.1 _ hm h61 rfl)
   ·rfl
  ·intro hv;rw[hv]at hm;have:q.2∈eqs said:=xF.2 (by rw[<-h61];exact hm);exact hc.Yz _ _ (yO this)
end
section
open Go.RowKit Go.Maps Go.WideMaps
open aB (Key put)
abbrev jH:Type:=Nat×Bool×Key
def dD(s:jH):aU:=(s.2.2,s.2.1)
def Dv(s:jH):List Value:=[.int .i64 s.1,.bool s.2.1,.int .u8 s.2.2.1,.int .i64 s.2.2.2.1,.int .i64 s.2.2.2.2]
def fV(w:World)(v:Value)(ss:List jH):Prop:=
 ∃(p:Option Addr) (cap:Nat),v=.slice p ss.length cap/\ss.length<=cap/\(ss≠[]->∃(g off:Nat) (cur:Array Value) (x:Nat×Nat),p=some ⟨g,off,none⟩/\w.heap[g]?=some (Obj.cells cur 210 x)/\
  ∀i (hi:i<ss.length) j,j<5->cur[off+i*5+j]?=(Dv ss[i])[j]?)
theorem fV.below{w w':World}{v:Value}{ss:List jH}(h:fV w v ss)(hb:Below w.heap.size w w'):fV w' v ss:=by
 obtain⟨p,cap,h1,h2,h3⟩:=h;refine⟨p,cap,h1,h2,λhne=>?_⟩;obtain⟨g,off,cur,x,q1,q2,q3⟩:=h3 hne;exact⟨g,off,cur,x,q1,(hb.block g (ad3.1 q2).1).trans q2,q3⟩
theorem fV.cells{w:World}{v:Value}{ss:List jH}(h:fV w v ss):∃p cap,v=.slice p ss.length cap/\ss.length<=cap/\(ss≠[]->∃g off,p=some ⟨g,off,none⟩/\g<w.heap.size/\∀W:World,Below w.heap.size w W->∀k (hk:k<ss.length),
  W.cell? ⟨g,off+k*5,none⟩=some (.int .i64 ss[k].1)/\W.cell? ⟨g,off+k*5+1,none⟩=some (.bool ss[k].2.1)/\W.cell? ⟨g,off+k*5+2,none⟩=some (.int .u8 ss[k].2.2.1)/\W.cell? ⟨g,off+k*5+3,none⟩=some (.int .i64 ss[k].2.2.2.1)/\W.cell? ⟨g,off+k*5+4,none⟩=some (.int .i64 ss[k].2.2.2.2)):=by
 obtain⟨p,cap,h1,h2,h3⟩:=h;refine⟨p,cap,h1,h2,λhne=>?_⟩;obtain⟨g,off,cur,x,q1,q2,q3⟩:=h3 hne;have hg:=(ad3.1 q2).1;refine⟨g,off,q1,hg,λW hW k hk=>?_⟩;have hb:=(hW.block g hg).trans q2;refine⟨?_,?_,?_,?_,?_⟩<;>rw[cell_of hb]
 ·exact(q3 k hk 0 (by omega)).trans rfl
 ·exact(q3 k hk 1 (by omega)).trans rfl
 ·exact(q3 k hk 2 (by omega)).trans rfl
 ·exact(q3 k hk 3 (by omega)).trans rfl
 ·exact(q3 k hk 4 (by omega)).trans rfl
theorem gG.made(w:World)(n:Nat):gG (w.alloc (.map #[] 0)) w.heap.size id n 0:=
 ⟨id,λ_=>0,⟨.map [],0,ad5 _,aq9 w _ _ _,λi _=>⟨by simp[Maps.has],λh=>absurd rfl h⟩⟩,λi hi=>⟨hi,λh=>h,λh=>absurd rfl h⟩⟩
theorem V6(n:Nat):rts id n=n:=by
 unfold rts;rw[List.countP_eq_length.2 (by simp)];simp
theorem QV{L:List aU}{k:Nat}(hk:k<L.length):eqs (L.take (k+1))=eqs (L.take k)++if (L[k].2&&decide (L[k].1.1=61))=true then [L[k].1.2]else []:=by
 unfold eqs;rw[ah1,ad6 hk,an3,ak3]
 congr 1
 show([L[k]].filter _).map _=_
 rw[List.filter_cons];split<;>rfl
structure JG(w:World)(f:Nat->Nat)(n b:Nat)(W:World):Prop where
 m:∃c,gG W b f n c/\c+rts f n<=n
 roots:iH f n
 below:Below w.heap.size w W
 lo:w.heap.size<=b
theorem JG.grow{w:World}{f:Nat->Nat}{n b:Nat}{W W':World}(h:JG w f n b W)(hg:W.grownBy W' none):JG w f n b W':=by
 obtain⟨c,h1,h2⟩:=h.m;exact⟨⟨c,h1.kept (hg.block b h1.lt (by simp)),h2⟩,h.roots,h.below.grown hg h.below.size (λk e=>by cases e),h.lo⟩
theorem JG.join{w:World}{f:Nat->Nat}{n b:Nat}{W:World}(h:JG w f n b W)(hn:n<=500){i j:Nat}(hi:i<n)(hj:j<n) :
  Calls prog 70 #[.map (some b),.int .i64 i,.int .i64 j] W λe W'=>(∃v,e=.returned v)/\JG w (nS f i j) n b W'/\W.grownBy W' (some b):=by
 obtain⟨c,h1,h2⟩:=h.m;refine(Fh W b n c f i j h1 hi hj hn (by omega)).mono ?_;rintro e W' ⟨he,hg,hc⟩;refine⟨he,⟨⟨_,hc,?_⟩,h.roots.nS hi,h.below.grown hg h.below.size (λk e=>by cases e;exact h.lo),h.lo⟩,hg⟩;by_cases e:f i=f j
 ·rw[af6 e,pK e];exact h2
 ·rw[af2 e];have:=xB h.roots hi hj e;omega
theorem wG(w:World)(v:Value)(ss:List jH)(n:Nat)(hs:fV w v ss)(hn:n<=500)(hl:ss.length<=1000)(hok:∀s∈ss,s.2.2.1=61->s.2.2.2.1<n/\s.2.2.2.2<n) :
  Calls prog 120 #[v] w λe w'=>∃b,e=.returned (.map (some b))/\JG w (aX (ss.map dD)) n b w':=by
 obtain⟨vp,vc,rfl,hvc,hvs⟩:=hs.cells;have hmm:=@as6 prog;have HVS:=aj hvs;have HOK:=aj hok;clear hvs hs hok
 go_enter func120,ntmps120
 go_wp2_with fail
 go_loopw [9] (λi wr=>∃k:Nat,k<=ss.length/\i=.int .i64 k/\JG w (aX ((ss.map dD).take k)) n w.heap.size wr) (λi _=>ss.length-(intOf i).toNat)
 case atStart=>
  refine⟨0,ah2 _,rfl,⟨0,gG.made w n,?_⟩,OJ n,(ag6 _ _).alloc (ad5 _) _,ad5 _⟩;rw[ao2]
  show 0+rts id n<=n
  rw[V6];omega
 case round=>
  obtain⟨k,hk,rfl,hJ⟩:=hrel;by_cases hlt:k<ss.length
  ·have hbd:(k:Int)<(ss.length:Int):=(by omega);have hne:ss≠[]:=(by intro e;rw[e]at hlt;simp at hlt);obtain⟨g,off,rfl,hgl,hcs⟩:=ah HVS hne;obtain⟨d0,d1,d2,d3,d4⟩:=hcs wr hJ.below k hlt;have hok:=ah HOK ss[k] (ad8 hlt);have htk:aX ((ss.map dD).take (k+1))=if (ss[k].2.1&&decide (ss[k].2.2.1=61))=true then nS (aX ((ss.map dD).take k)) ss[k].2.2.2.1 ss[k].2.2.2.2 else aX ((ss.map dD).take k):=by
    unfold aX;rw[QV (by simpa using hlt)];simp only[ak0,dD];split
    ·rw[Bl]
    ·rw[ak9]
   have eG:=aj htk;have HJ:=aj hJ;clear htk hJ hcs;generalize ss[k]=s at d0 d1 d2 d3 d4 hok eG;obtain⟨sx,si,sc,s1,s2⟩:=s;simp only at d0 d1 d2 d3 d4 hok eG;generalize aX ((ss.map dD).take k)=F at eG HJ;have hga:wr.grownBy (wr.alloc (.cells #[.int .i64 sx,.bool si,.int .u8 sc,.int .i64 s1,.int .i64 s2] 210)) none:=ad4 _ _ none;have hJ1:=(ah HJ).grow hga;by_cases hc:si=true/\sc=61
   ·obtain⟨rfl,rfl⟩:=hc;obtain⟨o1,o2⟩:=hok rfl;have hjn:=hJ1.join hn o1 o2;rw[af6 (by simp)]at eG;have HJN:=aj hjn;clear hjn hJ1 hga
    go_wp2_with fail
    refine(ah HJN).mono ?_;rintro e w2 ⟨⟨v2,rfl⟩,hJ2,hg2⟩;have HJ2:=aj hJ2;clear hJ2 hg2
    go_wp2_with fail
    refine⟨⟨k+1,hlt,by go_num,?_⟩,by simp[intOf];omega⟩;rw[ah eG];exact ah HJ2
   ·have hcf:¬(si&&decide (sc=61))=true:=(by simpa using hc);rw[af2 hcf]at eG;have HJ2:=aj hJ1;clear hJ1 hga hcf;by_cases h1:si=true
    ·have h2:¬sc=61:=λe=>hc ⟨h1,e⟩;subst h1
     go_wp2_with fail
     refine⟨⟨k+1,hlt,by go_num,?_⟩,by simp[intOf];omega⟩;rw[ah eG];exact ah HJ2
    ·have h1':si=false:=(by simpa using h1);subst h1'
     go_wp2_with fail
     refine⟨⟨k+1,hlt,by go_num,?_⟩,by simp[intOf];omega⟩;rw[ah eG];exact ah HJ2
  ·have hkk:k=ss.length:=(by omega);have hbd:¬(k:Int)<(ss.length:Int):=(by omega);have ht:(ss.map dD).take k=ss.map dD:=(by rw[ah5 (by simp;omega)]);rw[ht]at hJ;have HJ:=aj hJ;clear hJ ht hkk
   go_wp2_with fail
   exact ag3 (v:=.map (some w.heap.size)) (by simp[results,results120,go_sem]) rfl ⟨w.heap.size,rfl,ah HJ⟩
end
section
open Sat (View Rule jk bG)
open aB (Key put oJ dY jn au aQ dJ fE isAtom)
def Jq(τ:List Tr)(x:Nat):Bool:=match mD τ x with
 |some q=>q.1.2.1
 |none=>false
theorem Va{τ:List Tr}{x:Nat}{b:jk}(h:bel τ x=some b):Jq τ x=b.1:=by
 unfold bel at h;unfold Jq;cases e:mD τ x with
 |none=>rw[e]at h;cases h
 |some q=>
  rw[e]at h;simp only[ap9,ai4]at h;rw[<-h]
theorem U9{τ:List Tr}{U x:Nat}(hlt:∀q∈τ,q.1<U)(hx:U<=x):Jq τ x=false:=by
 have:mD τ x=none:=jA.2 (λh=>by
  obtain⟨q,hq,rfl⟩:=af9.1 h;have:=hlt q hq;omega)
 unfold Jq;rw[this]
theorem JZ{τ:List Tr}{x:Nat}(h:kX τ x=true):∃b,bel τ x=some b/\b.1=Jq τ x:=by
 unfold kX at h;cases e:mD τ x with
 |none=>rw[e]at h;cases h
 |some q=>exact⟨(q.1.2.1,q.2,q.1.2.2.2),by simp[bel,e],by simp[Jq,e]⟩
theorem zA{U:Nat}{aJ ak:List Rule}{τ:List Tr}(hd:Sat.Done ak (bel τ))(hs:∀r∈aJ,r∈ak)(hlt:∀r∈aJ,∀u∈r,u.1<U)(hall:∀x,x<U->kX τ x=true):∀r∈aJ,Sat.keeps (Jq τ) r:=by
 intro r hr;rcases hd r (hs r hr)with⟨v,hv,b,h1,h2⟩|⟨u,hu,_,_,_,h1,_⟩
 ·exact⟨v,hv,(Va h1).trans h2⟩
 ·obtain⟨b,h2,_⟩:=JZ (hall u.1 (hlt r hr u hu));rw[h2]at h1;cases h1
def wR(Us:List Key)(τ:List Tr)(x:Nat):List jH:=if isAtom (Us.getD x (0,0,0)).1=true then [(x,Jq τ x,Us.getD x (0,0,0))]else []
def rC(Us:List Key)(τ:List Tr)(k:Nat):List jH:=(List.range k).flatMap (wR Us τ)
def fA(Us:List Key)(τ:List Tr):List jH:=rC Us τ Us.length
theorem uS(Us:List Key)(τ:List Tr)(k:Nat):rC Us τ (k+1)=rC Us τ k++wR Us τ k:=by
 unfold rC;rw[aq0,List.flatMap_append];simp
theorem OD(Us:List Key)(τ:List Tr)(x:Nat):(wR Us τ x).length<=1:=by
 unfold wR;split<;>simp
theorem oW(Us:List Key)(τ:List Tr):∀k,(rC Us τ k).length<=k
 |0=>by simp[rC]
 |k+1=>by
  have:=oW Us τ k;have:=OD Us τ k;rw[uS,af8];omega
theorem yL{Us:List Key}{τ:List Tr}{s:jH}:s∈fA Us τ↔∃h:s.1<Us.length,isAtom Us[s.1].1=true/\s.2.1=Jq τ s.1/\s.2.2=Us[s.1]:=by
 unfold fA rC wR;rw[al8];constructor
 ·rintro⟨x,hx,hs⟩;have hx:=aj2.1 hx;rw[aG hx]at hs;split at hs
  ·rename_i ha;have e:=ag0.1 hs;subst e;exact⟨hx,ha,rfl,rfl⟩
  ·cases hs
 ·rintro⟨h,ha,e1,e2⟩;refine⟨s.1,aj2.2 h,?_⟩;rw[aG h,af6 ha,ag0,<-e1,<-e2]
theorem GV(Us:List Key)(τ:List Tr):((fA Us τ).map (·.1)).Nodup:=by
 have key:∀k,((rC Us τ k).map (·.1)).Nodup/\∀x∈(rC Us τ k).map (·.1),x<k:=by
  intro k
  induction k with
  |zero=>exact⟨by simp[rC],by simp[rC]⟩
  |succ k ih=>
   rw[uS,ak3];have ho:∀x∈(wR Us τ k).map (·.1),x=k:=by
    unfold wR;split<;>simp
   have hn:((wR Us τ k).map (·.1)).Nodup:=by
    unfold wR;split<;>simp
   refine⟨an7.2 ⟨ih.1,hn,λx hx y hy e=>?_⟩,λx hx=>?_⟩
   ·have h1:=ih.2 x hx;have h2:=ho y hy;omega
   ·rcases ag9.1 hx with hx|hx
    ·have:=ih.2 x hx;omega
    ·have:=ho x hx;omega
 exact(key _).1
def kQ(ss:List jH)(n:Nat):List Bool:=ss.foldl (λh s=>if s.2.2.1=61 then h else h.set s.2.2.2.1 s.2.1) (List.replicate n false)
theorem Dc(ss:List jH):∀h:List Bool,(ss.foldl (λh s=>if s.2.2.1=61 then h else h.set s.2.2.2.1 s.2.1) h).length=h.length:=by
 induction ss with
 |nil=>intro h;rfl
 |cons s ss ih=>
  intro h;rw[List.foldl_cons,ih];split<;>simp
theorem yT(ss:List jH)(n:Nat):(kQ ss n).length=n:=by
 unfold kQ;rw[Dc];simp
theorem Ns{ss:List jH}{n k:Nat}(hk:k<ss.length):kQ (ss.take (k+1)) n=if ss[k].2.2.1=61 then kQ (ss.take k) n else(kQ (ss.take k) n).set ss[k].2.2.2.1 ss[k].2.1:=by
 unfold kQ;rw[ah1,ad6 hk,an8];rfl
theorem Df{c:Nat}{bv:Bool}(ss:List jH):∀h:List Bool,c<h.length->(∀s∈ss,s.2.2.1≠61->s.2.2.2.1=c->s.2.1=bv)->(h.getD c false=bv\/∃s∈ss,s.2.2.1≠61/\s.2.2.2.1=c)->
  (ss.foldl (λh s=>if s.2.2.1=61 then h else h.set s.2.2.2.1 s.2.1) h).getD c false=bv:=by
 induction ss with
 |nil=>
  intro h _ _ h2;rcases h2 with h2|⟨s,hs,_⟩
  ·exact h2
  ·cases hs
 |cons s ss ih=>
  intro h hc h1 h2;rw[List.foldl_cons];refine ih _ (by split<;>simpa using hc) (λt ht=>h1 t (List.mem_cons_of_mem _ ht)) ?_;by_cases e:s.2.2.1=61
  ·rw[af6 e];rcases h2 with h2|⟨t,ht,g1,g2⟩
   ·exact Or.inl h2
   ·rcases ah8.1 ht with e2|ht
    ·subst e2;exact absurd e g1
    ·exact Or.inr ⟨t,ht,g1,g2⟩
  ·rw[af2 e];by_cases e2:s.2.2.2.1=c
   ·left;subst e2;rw[ag2,List.getElem?_set_self hc];exact h1 s (by simp) e rfl
   ·rcases h2 with h2|⟨t,ht,g1,g2⟩
    ·left;rw[ag2,List.getElem?_set_ne e2,<-ag2];exact h2
    ·rcases ah8.1 ht with e3|ht
     ·subst e3;exact absurd g2 e2
     ·exact Or.inr ⟨t,ht,g1,g2⟩
theorem FQ{c n:Nat}{bv:Bool}{ss:List jH}(hc:c<n)(h1:∀s∈ss,s.2.2.1≠61->s.2.2.2.1=c->s.2.1=bv)(h2:bv=false\/∃s∈ss,s.2.2.1≠61/\s.2.2.2.1=c):(kQ ss n).getD c false=bv:=by
 refine Df ss _ (by simpa using hc) h1 ?_;rcases h2 with h2|h2
 ·left;rw[h2,aG (by simpa using hc)];simp
 ·exact Or.inr h2
def SQ(Us:List Key)(τ:List Tr)(p:Key):Bool:=Jq τ (Us.idxOf p)
theorem JB{Us:List Key}{τ:List Tr}{p:Key}(hlt:∀q∈τ,q.1<Us.length)(h:SQ Us τ p=true):p∈Us:=by
 refine ah3 λhn=>?_;unfold SQ at h;rw[ai9 hn,U9 hlt (ad5 _)]at h;cases h
theorem Cc{Us:List Key}{τ:List Tr}{p:Key}(hp:p∈Us)(ha:isAtom p.1=true):(Us.idxOf p,SQ Us τ p,p)∈fA Us τ:=by
 have hl:=ak6.2 hp;have e:Us[Us.idxOf p]=p:=ai2 hl;exact yL.2 ⟨hl,by simp only[e];exact ha,rfl,e.symm⟩
theorem rF{Us:List Key}{τ:List Tr}(hn:Us.Nodup){s:jH}(h:s∈fA Us τ):s.2.2∈Us/\isAtom s.2.2.1=true/\s.2.1=SQ Us τ s.2.2/\s.1=Us.idxOf s.2.2:=by
 obtain⟨hl,ha,h1,h2⟩:=yL.1 h;have e:s.1=Us.idxOf s.2.2:=by
  rw[h2];exact(hn.idxOf_getElem s.1 hl).symm
 refine⟨by rw[h2];exact ad8 hl,by rw[h2];exact ha,?_,e⟩;unfold SQ;rw[h1,<-e]
end
section
open aB (Key put dJ au isAtom cnt aQ fE)
def kZ(nt:Nat):List Key:=(61,0,0)::(List.range nt).flatMap λy=>(List.range y).map λx=>(61,x,y)
def nI(cs:List (Int×Nat)):List Key:=(List.range cs.length).map λc=>((cs.getD c (0,0)).1,c,0)
def tY(ps:List Key):List Key:=ps.filter λq=>au q.1
def jB(nt:Nat)(cs:List (Int×Nat))(ps:List Key):List Key:=kZ nt++nI cs++tY ps
def nU(ps:List Key):List Key:=ps.filter λq=>au q.1||isAtom q.1
theorem F7{nt:Nat}(h:nt<=7):(kZ nt).length<=22:=by
 have key:∀k,k<=7->((List.range k).flatMap λy=>(List.range y).map λx=>((61,x,y):Key)).length<=k*(k-1)/2:=by
  intro k hk
  match k,hk with
  |0,_=>decide
  |1,_=>decide
  |2,_=>decide
  |3,_=>decide
  |4,_=>decide
  |5,_=>decide
  |6,_=>decide
  |7,_=>decide
 have h1:=key nt h;have h2:nt*(nt-1)/2<=21:=by
  match nt,h with
  |0,_=>decide
  |1,_=>decide
  |2,_=>decide
  |3,_=>decide
  |4,_=>decide
  |5,_=>decide
  |6,_=>decide
  |7,_=>decide
 unfold kZ;rw[ae1];omega
theorem wI{nt a b:Nat}(ha:a<nt)(hb:b<nt):fZ (61,a,b)∈kZ nt:=by
 unfold kZ;by_cases e:a=b
 ·subst e;rw[oU];simp
 ·by_cases h:a<b
  ·rw[oQ h];refine List.mem_cons_of_mem _ (al8.2 ⟨b,aj2.2 hb,af9.2 ⟨a,aj2.2 h,rfl⟩⟩)
  ·have h':b<a:=(by omega);rw[sN h'];refine List.mem_cons_of_mem _ (al8.2 ⟨a,aj2.2 ha,af9.2 ⟨b,aj2.2 h',rfl⟩⟩)
theorem wL{cs:List (Int×Nat)}{c:Nat}(h:c<cs.length):(cs[c].1,c,0)∈nI cs:=by
 refine af9.2 ⟨c,aj2.2 h,?_⟩;rw[aG h]
theorem BJ{nt:Nat}{cs:List (Int×Nat)}{ps:List Key}(h7:nt<=7)(h4:cs.length<=4)(hj:6*cnt au ps+3<=100):(jB nt cs ps).length<=42:=by
 have h1:=F7 h7;have h2:(nI cs).length=cs.length:=by simp[nI]
 have h3:(tY ps).length=cnt au ps:=by
  unfold tY cnt;rw[List.countP_eq_length_filter]
 unfold jB;rw[af8,af8];omega
theorem NV{ps:List Key}(hj:3*(cnt au ps+cnt isAtom ps)<=100):(nU ps).length<=33:=by
 have h:(nU ps).length<=cnt au ps+cnt isAtom ps:=by
  unfold nU cnt
  induction ps with
  |nil=>simp
  |cons q ps ih=>
   have hp:3*(cnt au ps+cnt isAtom ps)<=100:=by
    unfold cnt at hj ⊢;rw[ap5,ap5]at hj;omega
   have:=ih hp;rw[List.filter_cons,ap5,ap5];cases h1:au q.1<;>cases h2:isAtom q.1<;>simp<;>omega
 omega
theorem Ei{f:Key->Key}{Us ps aN:List Key}(h0:∀p∈Us,p∈aN)(h:∀q∈ps,q.1≠33->f q∈aN):∀k,∀p∈mV f Us ps k,p∈aN:=by
 intro k
 induction k with
 |zero=>simpa[mV]using h0
 |succ k ih=>
  by_cases hk:k<ps.length
  ·rw[lJ hk];unfold DF;by_cases e:ps[k].1=33
   ·rw[af6 e];exact ih
   ·rw[af2 e];exact EM ih (h _ (ad8 hk) e)
  ·have:mV f Us ps (k+1)=mV f Us ps k:=by
    unfold mV;rw[ah5 (by omega),ah5 (by omega)]
   rw[this];exact ih
theorem EP{nt:Nat}{cs:List (Int×Nat)}{ps:List Key}(hi:aQ nt cs.length ps)(hk:fE cs ps):∀q∈ps,q.1≠33->fZ q∈jB nt cs ps:=by
 intro q hq h33;obtain⟨i,hlt,e⟩:=ai0 hq;have ho:=hi.ok i hlt;rw[e]at ho;unfold jB;rcases ho with⟨a,_⟩|⟨a,_⟩|⟨a,b,c⟩|⟨a,b,c⟩
 ·exact absurd a h33
 ·rw[eU.other q (by intro e;rw[e]at a;simp[au]at a)];exact ao7 _ (ai3.2 ⟨hq,a⟩)
 ·rw[eU.other q (by omega)];obtain⟨h1,h2⟩:=hk.letter q hq a;have:=wL h1;have eq:q=(cs[q.2.1].1,q.2.1,0):=by rw[h2,<-c]
  rw[<-eq]at this;exact ai5 _ (ao7 _ this)
 ·have eq:q=(61,q.2.1,q.2.2):=by rw[<-a]
  rw[eq];exact ai5 _ (ai5 _ (wI b c))
theorem EO{nt nc:Nat}{ps:List Key}(hi:aQ nt nc ps):∀q∈ps,q.1≠33->id q∈nU ps:=by
 intro q hq h33;obtain⟨i,hlt,e⟩:=ai0 hq;have ho:=hi.ok i hlt;rw[e]at ho;refine ai3.2 ⟨hq,?_⟩;rcases ho with⟨a,_⟩|⟨a,_⟩|⟨a,b,c⟩|⟨a,b,c⟩
 ·exact absurd a h33
 ·simp[a]
 ·have:isAtom q.1=true:=by rcases a with a|a<;>(rw[a];decide)
  simp[this]
 ·have:isAtom q.1=true:=by rw[a];decide
  simp[this]
theorem JE(nt:Nat):Vh fZ (pV nt) nt:=by
 refine⟨λp h=>h,λa b ha hb=>?_,λp h=>eU.other p h⟩;by_cases e:a=b
 ·subst e;exact⟨0,0,oU a,by omega,by omega,oU 0⟩
 ·by_cases h:a<b
  ·exact⟨a,b,oQ h,ha,hb,oQ h⟩
  ·have h':b<a:=(by omega);exact⟨b,a,sN h',hb,ha,oQ h'⟩
theorem VY(dom:Key->Prop)(nt:Nat)(hd:∀p,dom p):Vh id dom nt:=
 ⟨λp _=>hd p,λa b ha hb=>⟨a,b,rfl,ha,hb,rfl⟩,λ_ _=>rfl⟩
end
section
open Go.RowKit
theorem vJ(m:Option Nat)(w:World):Calls prog 60 #[.map m] w λe w'=>e=.returned (.slice none 0 0)/\w'=w:=by
 go_enter func60,ntmps60
 go_wp2_with fail
 go_ret
 exact⟨rfl,rfl⟩
end
section
open Go.RowKit Go.Maps Go.WideMaps
open aB (Key put)
attribute [local go_sem] Oper.semAt_some
structure Vo(ts:List Key)(f f':Nat->Nat):Prop where
 roots:iH f' ts.length
 Yz:∀a b,f a=f b->f' a=f' b
 least:∀R:Nat->Nat->Prop,Yc R->KF R ts->(∀a b,a<ts.length->b<ts.length->f a=f b->R a b)->∀a b,a<ts.length->b<ts.length->f' a=f' b->R a b
theorem Vo.start{ts:List Key}{f:Nat->Nat}(h:iH f ts.length):Vo ts f f:=⟨h,λ_ _ e=>e,λ_ _ _ h=>h⟩
theorem Ho{f:Nat->Nat}{ts:List Key}:∀p∈aO (mkd f ts) ts.length,p.1<ts.length/\p.2<ts.length:=λp hp=>by
 have h:=(gU (mkd f ts) ts.length (by rw[aV];exact ad5 _) p).1 hp;exact⟨by omega,h.1⟩
theorem Vo.step{ts:List Key}{f f':Nat->Nat}(h:Vo ts f f')(ht:∀i (hi:i<ts.length),ts[i].2.1<ts.length/\ts[i].2.2<ts.length):Vo ts f (iI f' (aO (mkd f' ts) ts.length)):=by
 refine⟨h.roots.iI (λp hp=>(Ho p hp).1),λa b e=>Fp (h.Yz a b e),λR hR hC hf=>?_⟩;have h2:=h.least R hR hC hf;exact CY hR (λp hp=>OZ hC ht h2 p hp) h2
theorem Vo.closed{ts:List Key}{f f':Nat->Nat}(h:Vo ts f f')(hc:qh f' ts):Closed ts f f':=⟨h.roots,hc,h.Yz,h.least⟩
theorem EF{n:Nat}{l:List (Nat×Nat)}:∀{f:Nat->Nat},iH f n->(∀p∈l,p.1<n/\p.2<n)->rts (iI f l) n<=rts f n:=by
 induction l with
 |nil=>intro f _ _;exact ad5 _
 |cons p l ih=>
  intro f h hl;have h1:=hl p (by simp);have h2:=ih (h.nS (j:=p.2) h1.1) (λq hq=>hl q (by simp[hq]));have h3:=GX h h1.1 h1.2;exact af7 h2 h3
theorem vZ{n:Nat}{l:List (Nat×Nat)}:∀{f:Nat->Nat},iH f n->(∀p∈l,p.1<n/\p.2<n)->(∃p∈l,f p.1≠f p.2)->rts (iI f l) n+1<=rts f n:=by
 induction l with
 |nil=>intro f _ _ ⟨p,hp,_⟩;cases hp
 |cons p l ih=>
  intro f h hl ⟨q,hq,hne⟩;have h1:=hl p (by simp);have h2:∀q∈l,q.1<n/\q.2<n:=λq hq=>hl q (by simp[hq]);by_cases e:f p.1=f p.2
  ·have e1:iI f (p::l)=iI f l:=by
    show iI (nS f p.1 p.2) l=iI f l
    rw[pK e]
   rw[e1];rcases ah8.1 hq with e2|hq
   ·subst e2;exact absurd e hne
   ·exact ih h h2 ⟨q,hq,hne⟩
  ·have h3:=EF (h.nS (j:=p.2) h1.1) h2;have h4:=xB h h1.1 h1.2 e
   show rts (iI (nS f p.1 p.2) l) n+1<=rts f n
   omega
theorem gG.Yt{W:World}{b n c:Nat}{f:Nat->Nat}(h:gG W b f n c):∃o:Obj,W.heap[b]?=some o/\∀c t fz,o≠.cells c t fz:=by
 obtain⟨g,d,⟨D,nn,_,⟨es,clock,h1,_⟩,_⟩,_⟩:=h;exact⟨_,h1,λ_ _ _ e=>by cases e⟩
def mkD(D:Nat):Deferred:={target:=.collected D,args:=#[]}
theorem wE{F:Fence}{n:Nat}{P:Program}{fn:Func}{tmps:Array Value}{R:Ending->World->Prop}:∀(Ds:List Nat) (W:World),Ds.Nodup->(∀D∈Ds,W.heap[D]?=some (.deferred (some [])))->
  (∀W',But (λk=>k∈Ds) W W'->LeavesInM F n P fn tmps R [] .returning W')->LeavesInM F n P fn tmps R (Ds.map mkD) .returning W
 |[],W,_,_,h=>h W (But.refl _ _)
 |D::Ds,W,hn,hd,h=>by
  have hn':=List.nodup_cons.1 hn;refine⟨by simp,.inl ⟨D,W.putObj D (.deferred none),rfl,aj6 (hd D (by simp)),?_⟩⟩;have hb:But (λk=>some k=some D) W (W.putObj D (.deferred none)):=But.aA (ak4 _ D _);refine wE Ds _ hn'.2 (λE hE=>?_) (λW' hW'=>h W' ?_)
  ·have hne:E≠D:=λe=>hn'.1 (e▸hE);rw[af0 hne];exact hd E (by simp[hE])
  ·exact(hb.mono (λk _ e=>by cases e;simp)).trans (hW'.mono (λk _ e=>by simp[e]))
structure CL(w:World)(ts:List Key)(f':Nat->Nat)(b GT GC GP nc np:Nat)(Ds:List Nat)(W:World):Prop where
 m:∃c,gG W b f' ts.length c/\c+rts f' ts.length<=ts.length
 but:But (λk=>k=b) w W
 x0:W.heap[w.heap.size]?=some (.cells #[.slice (some ⟨GT,0,none⟩) ts.length ts.length,.slice (some ⟨GC,0,none⟩) nc nc,.slice (some ⟨GP,0,none⟩) np np] 46 (0,0))
 x1:W.heap[w.heap.size+1]?=some (.cells #[.map (some b)] 53 (0,0))
 ds:∀D∈Ds,W.heap[D]?=some (.deferred (some []))
 lo:∀D∈Ds,w.heap.size<=D
theorem CL.grow{w:World}{ts:List Key}{f':Nat->Nat}{b GT GC GP nc np:Nat}{Ds:List Nat}{W W':World}(h:CL w ts f' b GT GC GP nc np Ds W)(hg:W.grownBy W' none):CL w ts f' b GT GC GP nc np Ds W':=by
 obtain⟨c,h1,h2⟩:=h.m;have k:∀(j:Nat) (o:Obj),W.heap[j]?=some o->W'.heap[j]?=some o:=λj o hj=>(hg.block j (ad3.1 hj).1 (by simp)).trans hj;exact⟨⟨c,h1.kept (hg.block b h1.lt (by simp)),h2⟩,h.but.then (But.aA hg) (λi _ e=>by cases e),k _ _ h.x0,k _ _ h.x1,λD hD=>k _ _ (h.ds D hD),h.lo⟩
theorem CL.keep{w:World}{ts:List Key}{f':Nat->Nat}{b GT GC GP nc np:Nat}{Ds:List Nat}{W W':World}{row:Option Nat}{B:Nat}(h:CL w ts f' b GT GC GP nc np Ds W)(hg:W.grownBy W' row)(hb:b<B)(hw:w.heap.size+1<B)(hD:∀D∈Ds,D<B)
 (hr:∀r,row=some r->B<=r/\∃o:Obj,W.heap[r]?=some o/\o.isCells=false):CL w ts f' b GT GC GP nc np Ds W':=by
 obtain⟨c,h1,h2⟩:=h.m;have k:∀j,j<B->j<W.heap.size->W'.heap[j]?=W.heap[j]?:=λj hj hl=>hg.block j hl (λe=>by have:=(hr j e.symm).1;omega);refine⟨⟨c,h1.kept (k b hb h1.lt),h2⟩,h.but.then (But.aA hg) (λi hi e=>?_),(k _ (by omega) (ad3.1 h.x0).1).trans h.x0,(k _ hw (ad3.1 h.x1).1).trans h.x1,λD hD'=>(k _ (hD D hD') (ad3.1 (h.ds D hD')).1).trans (h.ds D hD'),h.lo⟩;have:=(hr i e.symm).1;omega
theorem CL.yE{w:World}{ts:List Key}{f':Nat->Nat}{b GT GC GP nc np:Nat}{Ds:List Nat}{W:World}(h:CL w ts f' b GT GC GP nc np Ds W):∃es cl,W.heap[b]?=some (.map es cl):=by
 obtain⟨c,⟨g,d,⟨D,nn,_,⟨es,clock,h1,_⟩,_⟩,_⟩,_⟩:=h.m;exact⟨es,clock,h1⟩
theorem CL.join{w:World}{ts:List Key}{f':Nat->Nat}{b GT GC GP nc np:Nat}{Ds:List Nat}{W:World}(h:CL w ts f' b GT GC GP nc np Ds W)(hr:iH f' ts.length)(hn:ts.length<=7){i j:Nat}(hi:i<ts.length)(hj:j<ts.length) :
  Calls prog 70 #[.map (some b),.int .i64 i,.int .i64 j] W λe W'=>(∃v,e=.returned v)/\CL w ts (nS f' i j) b GT GC GP nc np Ds W'/\W.grownBy W' (some b):=by
 obtain⟨c,h1,h2⟩:=h.m;obtain⟨es,cl,hb⟩:=h.yE;refine(Fh W b ts.length c f' i j h1 hi hj (by omega) (by omega)).mono ?_;rintro e W' ⟨he,hg,hc⟩;have k:∀(j:Nat) (o:Obj),W.heap[j]?=some o->(∀es cl,o≠.map es cl)->W'.heap[j]?=some o:=λj o hj hne=>(hg.block j (ad3.1 hj).1 (λe=>by
  cases e;rw[hb]at hj;cases hj;exact hne _ _ rfl)).trans hj
 refine⟨he,⟨⟨_,hc,?_⟩,h.but.then (But.aA hg) (λi _ e=>by cases e;rfl),k _ _ h.x0 (λ_ _ e=>by cases e),k _ _ h.x1 (λ_ _ e=>by cases e),λD hD=>k _ _ (h.ds D hD) (λ_ _ e=>by cases e),h.lo⟩,hg⟩;by_cases e:f' i=f' j
 ·rw[af6 e,pK e];exact h2
 ·rw[af2 e];have:=xB hr hi hj e;omega
theorem MX{f:Nat->Nat}{l:List (Nat×Nat)}{k:Nat}(hk:k<l.length):iI f (l.take (k+1))=nS (iI f (l.take k)) l[k].1 l[k].2:=by
 rw[ah1,ad6 hk]
 show iI f (l.take k++[l[k]])=_
 rw[Bl]
theorem close_any(GT GC GP nc np b c0:Nat)(f:Nat->Nat)(ts:List Key)(w:World)(hl:ts.length<=7)(hrt:bQ w GT ts)(hi:aB.Inv ts)(hM:gG w b f ts.length c0)(hc0:c0+rts f ts.length<=ts.length)(hro:iH f ts.length)(ht:∀i (hi:i<ts.length),ts[i].2.1<ts.length/\ts[i].2.2<ts.length) :
  Calls prog 68 #[fv GT GC GP ts.length nc np,.map (some b)] w λe w'=>(∃v,e=.returned v)/\∃f',Closed ts f f'/\(∃c,gG w' b f' ts.length c/\c+rts f' ts.length<=ts.length)/\w.grownBy w' (some b):=by
 refine(ag4 (n:=5)).1 ?_;have hbl:=hM.lt;have hgt:=hrt.1;have ZG:GT≠b\/ts.length=0:=by
  by_cases h0:ts.length=0
  ·exact Or.inr h0
  ·refine Or.inl (λe=>?_);obtain⟨g,d,⟨D,nn,_,⟨es,clock,h1,_⟩,_⟩,_⟩:=hM;have h2:=(hrt.2 0 (by omega)).1;rw[e]at h2;simp[World.cell?,h1]at h2
 have YM:Hid (∀W,But (λk=>k=b) w W->bQ W GT ts):=λW hW=>by
  refine⟨af5 hgt hW.size,λi hi'=>?_⟩;have hne:GT≠b:=ZG.resolve_right (by omega);have hbk:=hW.block GT hgt hne;exact⟨(ae5 hbk).trans (hrt.2 i hi').1,(ae5 hbk).trans (hrt.2 i hi').2.1,(ae5 hbk).trans (hrt.2 i hi').2.2⟩
 have HMD:Hid (∀(W:World) (f':Nat->Nat) (Ds:List Nat),CL w ts f' b GT GC GP nc np Ds W->iH f' ts.length->Calls prog 76 #[fv GT GC GP ts.length nc np,.map (some b)] W λe w'=>∃G,e=.returned (.slice (some ⟨G,0,none⟩) ts.length ts.length)/\W.heap.size<=G/\bQ w' G (mkd f' ts)/\Below W.heap.size W w'):=λW f' Ds h hr=>by
  obtain⟨c,h1,h2⟩:=h.m;exact EY GT GC GP nc np b c f' ts W hl (ah YM W h.but) hi (λi hi=>(hr i hi).1) h1
 have HCG:Hid (∀(W:World) (f':Nat->Nat) (Ds:List Nat),CL w ts f' b GT GC GP nc np Ds W->iH f' ts.length->Calls prog 33 #[fv GT GC GP ts.length nc np,.map (some b)] W λe w'=>e=.returned (.bool (decide (∀p∈aO (mkd f' ts) ts.length,f' p.1=f' p.2)))/\Below W.heap.size W w'):=λW f' Ds h hr=>by
  obtain⟨c,h1,h2⟩:=h.m;exact lI GT GC GP nc np b c f' ts W hl (ah YM W h.but) hi (λi hi=>(hr i hi).1) h1
 unfold fv at HMD HCG ⊢;refine ai6 func68 rfl trivial ?_ rfl;simp only[ntmps68,ae2,ae1,ae8,Nat.reduceAdd,Nat.reduceSub,ae0,ad9,ae4,ag1,ae7,ae6]
 gi_wp2
 obtain⟨wb,hwb⟩:∃wb,(w.alloc (.cells #[.slice (some ⟨GT,0,none⟩) ts.length ts.length,.slice (some ⟨GC,0,none⟩) nc nc,.slice (some ⟨GP,0,none⟩) np np] 46)).alloc (.cells #[.map (some b)] 53)=wb:=⟨_,rfl⟩;have hgb:w.grownBy wb none:=by rw[<-hwb];exact(ad4 _ _ none).trans (ad4 _ _ none)
 have hcl0:CL w ts f b GT GC GP nc np [] wb:=by
  refine⟨⟨c0,hM.kept (hgb.block b hbl (by simp)),hc0⟩,(But.aA hgb).mono (λk _ e=>by cases e),?_,?_,λD hD=>(by cases hD),λD hD=>(by cases hD)⟩
  ·rw[<-hwb,ae3 _ _ _ (by simp),ae9]
  ·rw[<-hwb];have:=ae9 (w.alloc (.cells #[.slice (some ⟨GT,0,none⟩) ts.length ts.length,.slice (some ⟨GC,0,none⟩) nc nc,.slice (some ⟨GP,0,none⟩) np np] 46)) (.cells #[.map (some b)] 53);simpa using this
 rw[hwb];clear hwb hgb;have HT:=aj ht;have HI:=aj hi;have HST:=aj (Vo.start hro);clear ht hi hM hrt hro ZG;refine wpIn_loop (λa W=>∃(u4 u5 u6 u7 u8 u9 u10 u11 u12 u13 u14 u15 u16 u17 u18 u19:Value) (f':Nat->Nat) (Ds:List Nat),a={tmps:=#[.agg #[.slice (some ⟨GT,0,none⟩) ts.length ts.length,.slice (some ⟨GC,0,none⟩) nc nc,.slice (some ⟨GP,0,none⟩) np np],.map (some b),.pointer (some ⟨w.heap.size,0,none⟩),.pointer (some ⟨w.heap.size+1,0,none⟩),u4,u5,u6,u7,u8,u9,u10,u11,u12,u13,u14,u15,u16,u17,u18,u19],defers:=Ds.map mkD}/\
   CL w ts f' b GT GC GP nc np Ds W/\Hid (Vo ts f f')/\Hid Ds.Nodup/\Hid (rts f' ts.length+Ds.length<=rts f ts.length)) (λa _=>ts.length+1-a.defers.length) ?start ?round
 case start=>exact⟨_,_,_,_,_,_,_,_,_,_,_,_,_,_,_,_,f,[],rfl,hcl0,HST,ap3,ad5 _⟩
 case round=>
  rintro _ W ⟨u4,u5,u6,u7,u8,u9,u10,u11,u12,u13,u14,u15,u16,u17,u18,u19,f',Ds,rfl,hcl,hC0,hDn,hrt⟩;have hx1:W.cell? ⟨w.heap.size+1,0,none⟩=some (.map (some b)):=by rw[cell_of hcl.x1];rfl
  have q0:W.cell? ⟨w.heap.size,0,none⟩=some (.slice (some ⟨GT,0,none⟩) ts.length ts.length):=by rw[cell_of hcl.x0];rfl
  have q1:W.cell? ⟨w.heap.size,1,none⟩=some (.slice (some ⟨GC,0,none⟩) nc nc):=by rw[cell_of hcl.x0];rfl
  have q2:W.cell? ⟨w.heap.size,2,none⟩=some (.slice (some ⟨GP,0,none⟩) np np):=by rw[cell_of hcl.x0];rfl
  have hcg:=ah HCG W f' Ds hcl (ah hC0).roots;have HCL:=aj hcl;clear hcl0 hcl;by_cases kS:∀p∈aO (mkd f' ts) ts.length,f' p.1=f' p.2
  ·rw[aq5 kS]at hcg;have SH:=aj kS;clear kS
   gi_wp2
   refine⟨trivial,(ag4.2 hcg).mono ?_⟩;rintro e w1 ⟨rfl,hb1⟩;have lG:=(ah HCL).grow (bI hb1);have SK:=aj lG;clear hcg lG hb1
   gi_wp2
   refine wE Ds w1 (ah hDn) (ah SK).ds (λW' hW'=>?_);have lG:=ah SK;obtain⟨c,hm1,hm2⟩:=lG.m;obtain⟨es,cl,hbm⟩:=lG.yE;have hbD:b∉Ds:=λhm=>by
    have:=lG.ds b hm;rw[hbm]at this;cases this
   refine⟨.tuple #[],by simp[results,results68,go_sem],⟨_,rfl⟩,f',(ah hC0).closed (ah SH),⟨c,hm1.kept (hW'.block b hm1.lt hbD),hm2⟩,?_⟩;refine⟨hW'.os.trans lG.but.os,hW'.tape.trans lG.but.tape,hW'.output.trans lG.but.output,af7 lG.but.size hW'.size,λj hj hn=>?_⟩;have hjD:j∉Ds:=λhm=>by have:=lG.lo j hm;omega
   exact(hW'.block j (af5 hj lG.but.size) hjD).trans (lG.but.block j hj (λe=>hn (by rw[e])))
  ·rw[ao5 kS]at hcg;have SH:=aj kS;clear kS
   gi_wp2
   refine⟨trivial,(ag4.2 hcg).mono ?_⟩;rintro e w1 ⟨rfl,hb1⟩;have lG:=(ah HCL).grow (bI hb1);have aay:w1.cell? ⟨w.heap.size+1,0,none⟩=some (.map (some b)):=(by rw[cell_of lG.x1];rfl);have q0':w1.cell? ⟨w.heap.size,0,none⟩=some (.slice (some ⟨GT,0,none⟩) ts.length ts.length):=(by rw[cell_of lG.x0];rfl);have q1':w1.cell? ⟨w.heap.size,1,none⟩=some (.slice (some ⟨GC,0,none⟩) nc nc):=(by rw[cell_of lG.x0];rfl);have q2':w1.cell? ⟨w.heap.size,2,none⟩=some (.slice (some ⟨GP,0,none⟩) np np):=(by rw[cell_of lG.x0];rfl);have hmd:=ah HMD w1 f' Ds lG (ah hC0).roots;have SK:=aj lG;clear hcg lG hb1 hx1 q0 q1 q2
   gi_wp2
   refine⟨trivial,(ag4.2 hmd).mono ?_⟩;rintro e wr ⟨G,rfl,abo,Af,hb2⟩;have Zm:=(ah SK).grow (bI hb2);have SI:=aj Zm;have HR2:=aj Af;clear hmd Zm hb2 Af aay q0' q1' q2'
   gi_wp2
   refine⟨trivial,(ag4.2 (zO (some ⟨G,0,none⟩) ts.length ts.length wr)).mono ?_⟩;rintro e w2 ⟨rfl,rfl⟩
   gi_wp2
   obtain⟨w2,hw2⟩:∃w2,wr.alloc (.cells #[.slice (some ⟨G,0,none⟩) ts.length ts.length] 42)=w2:=⟨_,rfl⟩;have hg2:wr.grownBy w2 none:=(by rw[<-hw2];exact ad4 _ _ none);have hs2:w2.heap.size=wr.heap.size+1:=(by rw[<-hw2];simp);have hX2:w2.cell? ⟨wr.heap.size,0,none⟩=some (.slice (some ⟨G,0,none⟩) ts.length ts.length):=(by rw[<-hw2];simp[go_sem]);have Zo:=(ah SI).grow hg2;have Un:=(ah hC0).roots;have hvm:∀x∈mkd f' ts,∃l,keyOf prog 76 (aS x)=some l:=by
    intro x hx;obtain⟨q,hq,rfl⟩:=af9.1 hx;obtain⟨i,hi,rfl⟩:=ai0 hq;have hkey:=(ah HI).key i hi;have hb':ts[i].2.1<ts.length/\ts[i].2.2<ts.length/\0<=ts[i].1/\ts[i].1<=255:=by
     rcases hkey with⟨_,_,h3,h4⟩|⟨_,h2,h3⟩|⟨_,h2,h3⟩<;>omega
    have e1:=(Un _ hb'.1).1;have e2:=(Un _ hb'.2.1).1;exact MN _ (by simp;omega) (by simp;omega) (by simp;omega)
   have FB:bQ w2 G (mkd f' ts):=(ah HR2).same (hg2.block _ (ah HR2).1 (by simp));have YW:G<wr.heap.size:=(ah HR2).1;have hseq:=zN 4 (by omega) wr.heap.size G ts.length w2.heap.size (mkd f' ts) w2 (ad5 _) (by rw[aV];omega) (by rw[aV];exact hX2) FB hvm;rw[aV]at hseq;rw[hw2];have Nj:wr.heap.size+1<=w2.heap.size:=(by omega);obtain⟨es0,cl0,Xe⟩:=(ah SI).yE;have hblt:b<wr.heap.size:=(ad3.1 Xe).1;have ac3:w.heap.size+1<wr.heap.size:=(ad3.1 (ah SI).x1).1;have hDlt:∀D∈Ds,D<w2.heap.size:=λD hD=>by have:=(ad3.1 ((ah SI).ds D hD)).1;omega
   have hbG:b≠G:=λe=>by
    by_cases h0:ts.length=0
    ·have:=(ah HR2).1;obtain⟨p,hp,_⟩:∃p∈aO (mkd f' ts) ts.length,f' p.1≠f' p.2:=ah3 λhn=>(ah SH) (λp hp=>ah3 λh=>hn ⟨p,hp,h⟩);have:=(Ho p hp).1;omega
    ·have h1:=((ah HR2).2 0 (by rw[aV];omega)).1;rw[<-e]at h1;simp[World.cell?,Xe]at h1
   clear hw2 hX2 FB hvm hs2 HR2 hg2 Xe SI SK HCL;have HRO:=aj Un;have HP:Hid (∀p∈(aO (mkd f' ts) ts.length),p.1<ts.length/\p.2<ts.length):=λp hp=>Ho p hp;have HDL:=aj hDlt;have hown:OwnFrom w2.heap.size (fun(k:Nat) W=>CL w ts (iI f' ((aO (mkd f' ts) ts.length).take k)) b GT GC GP nc np Ds W/\w2.heap.size<=W.heap.size):=λk W W' row h hg hr=>⟨h.1.keep hg (by omega) (by omega) (ah HDL) hr,af7 h.2 hg.size⟩;have qW:OwnFrom w2.heap.size (fun(_:Unit) (_:World)=>False):=λk W W' row h hg hr=>h;clear Un hDlt;refine dW rfl (by omega) rfl trivial (λ_ _=>by simp[go_sem]) hseq KA.trans ?_ (ag6 _ _) ?_ _ (λ_=>False) hown qW ⟨Zo,ad5 _⟩
    (λk a' W=>∃hk:k<(aO (mkd f' ts) ts.length).length,a'={tmps:=#[.agg #[.slice (some ⟨GT,0,none⟩) ts.length ts.length,.slice (some ⟨GC,0,none⟩) nc nc,.slice (some ⟨GP,0,none⟩) np np],.map (some b),.pointer (some ⟨w.heap.size,0,none⟩),.pointer (some ⟨w.heap.size+1,0,none⟩),
     .int .i64 ((aO (mkd f' ts) ts.length)[k]).1,.int .i64 ((aO (mkd f' ts) ts.length)[k]).2,.agg #[.slice (some ⟨GT,0,none⟩) ts.length ts.length,.slice (some ⟨GC,0,none⟩) nc nc,.slice (some ⟨GP,0,none⟩) np np],.map (some b),.bool false,.bool true,.agg #[.slice (some ⟨GT,0,none⟩) ts.length ts.length,.slice (some ⟨GC,0,none⟩) nc nc,.slice (some ⟨GP,0,none⟩) np np],.map (some b),.slice (some ⟨G,0,none⟩) ts.length ts.length,.func (.func 130) #[] #[.pointer (some ⟨wr.heap.size,0,none⟩)],.int .i64 ((aO (mkd f' ts) ts.length)[k]).1,.int .i64 ((aO (mkd f' ts) ts.length)[k]).2,u16,u17,u18,u19],defers:=[]}) ?own ?assign ?body ?done ?stop
   ·intro W l o o' hlw ho hc hwk;refine⟨λj x hj hx hxc=>(af0 (λe=>?_)).trans hx,af0 (by omega),af0 (by omega)⟩;subst e;rw[ho]at hx;cases hx;rcases hxc with h|h
    ·rw[hc]at h;cases h
    ·rw[hwk]at h;cases h
   ·intro k hk;simp
   case own=>
    rintro k a' ⟨⟩ W W' row h hg hr;exact h
   case assign=>
    intro l k hk W K hI hK;have hk':k<(aO (mkd f' ts) ts.length).length:=(by simpa using hk);have e1:((aO (mkd f' ts) ts.length).map λp:Nat×Nat=>#[Value.int .i64 p.1,Value.int .i64 p.2])[k]'hk=#[.int .i64 ((aO (mkd f' ts) ts.length)[k]).1,.int .i64 ((aO (mkd f' ts) ts.length)[k]).2]:=(by simp);rw[e1];have hK2:=hK _ W ((aq2 _).from _) ⟨λj o hj ho hc=>ho,rfl,rfl⟩ hI ⟨hk',rfl⟩;clear hK;generalize (aO (mkd f' ts) ts.length)[k]=pr at hK2 ⊢
    gi_wp2
    exact hK2
   case body=>
    rintro l k a' W hk hl' ⟨hI,hsW⟩ ⟨hk',rfl⟩;have hx1:W.cell? ⟨w.heap.size+1,0,none⟩=some (.map (some b)):=(by rw[cell_of hI.x1];rfl);have hpm:=ah HP _ (ad8 hk');have hrk:iH (iI f' ((aO (mkd f' ts) ts.length).take k)) ts.length:=(ah HRO).iI (λp hp=>(ah HP p (al5 hp)).1);have hjn:=hI.join hrk hl hpm.1 hpm.2;have htk:=MX (f:=f') hk';have eG:=aj htk;clear hI htk Zo hown qW hseq hrk;generalize (aO (mkd f' ts) ts.length)[k]=pr at hjn eG hpm ⊢;obtain⟨x,y⟩:=pr;simp only at hjn hpm eG ⊢
    gi_wp2
    refine⟨trivial,al4 l (ag4.2 (hjn.mono ?_))⟩;rintro e w3 ⟨⟨v3,rfl⟩,Zn,hg3⟩;have acj:=aj Zn;have HG3:=aj hg3;clear Zn hg3 hjn
    gi_wp2
    have hg3:=ah HG3;have hkp:∀(j:Nat),j≠b->j<W.heap.size->w3.heap[j]?=W.heap[j]?:=λj hj hl=>hg3.block j hl (λe=>hj (by cases e;rfl));refine⟨⟨hg3.size,λj o hj ho hc=>(hkp j (by omega) (ad3.1 ho).1).trans ho⟩,⟨λj o hj ho hc=>(hkp j (by omega) (ad3.1 ho).1).trans ho,?_,?_⟩,?_⟩
    ·exact hkp _ (by omega) (by omega)
    ·exact hkp _ (λe=>hbG e.symm) (by omega)
    ·refine⟨?_,af7 hsW hg3.size⟩
     show CL w ts (iI f' ((aO (mkd f' ts) ts.length).take (k+1))) b GT GC GP nc np Ds w3
     rw[ah eG];exact ah acj
   case done=>
    rintro D W hD ⟨hI,hsW⟩ hdef;rw[ai8,ai7]at hI
    gi_wp2
    refine⟨⟨_,_,_,_,_,_,_,_,_,_,_,_,_,_,_,_,iI f' (aO (mkd f' ts) ts.length),D::Ds,rfl,⟨hI.m,hI.but,hI.x0,hI.x1,λE hE=>?_,λE hE=>?_⟩,(ah hC0).step (ah HT),?_,?_⟩,?_⟩
    ·rcases ah8.1 hE with e|hE
     ·rw[e];exact hdef
     ·exact hI.ds E hE
    ·rcases ah8.1 hE with e|hE
     ·rw[e];omega
     ·exact hI.lo E hE
    ·exact List.nodup_cons.2 ⟨λhm=>by have:=ah HDL D hm;omega,ah hDn⟩
    ·have h1:=vZ (ah HRO) (ah HP) (ah3 λhn=>(ah SH) (λp hp=>ah3 λh=>hn ⟨p,hp,h⟩));have h2:=ah hrt
     show rts (iI f' (aO (mkd f' ts) ts.length)) ts.length+(D::Ds).length<=rts f ts.length
     simp only[ae1];omega
    ·have h1:=vZ (ah HRO) (ah HP) (ah3 λhn=>(ah SH) (λp hp=>ah3 λh=>hn ⟨p,hp,h⟩));have h2:rts f' ts.length+Ds.length<=rts f ts.length:=ah hrt;have h3:=V5 f ts.length;simp only[ae1,ai8];omega
   case stop=>
    intro D W hD hI hdef;exact hI.elim
end
section
open aB (Key put)
def lY(b:UInt8):Bool:=decide ((b.toNat:Int)<48)||decide ((57:Int)<(b.toNat:Int))
def dw(t:ByteArray):Bool:=decide (60<t.size)||t.data.toList.any lY
theorem Sr{t:ByteArray}{k:Nat}(hk:k<t.size):(t.data.toList.take (k+1)).any lY=((t.data.toList.take k).any lY||lY t[k]):=by
 have hk':k<t.data.toList.length:=by simpa using hk
 rw[ah1,ad6 hk',List.any_append];simp[am0]
theorem any_true{t:ByteArray}{k:Nat}(h:(decide (60<t.size)||(t.data.toList.take k).any lY)=true):dw t=true:=by
 unfold dw;rw[Bool.or_eq_true]at h ⊢;rcases h with h|h
 ·exact Or.inl h
 ·refine Or.inr ?_;rw[an1]at h ⊢;obtain⟨x,hx,hp⟩:=h;exact⟨x,al5 hx,hp⟩
theorem AL{ts:List Key}{cs:List (Int×Nat)}{ps:List Key}(hc:aB.jR ts cs)(hp:aB.aQ ts.length cs.length ps)(h:0<ps.length):0<ts.length:=by
 rcases hp.ok 0 h with⟨_,q,_⟩|⟨_,q,_⟩|⟨_,q,_⟩|⟨_,q,_⟩
 ·omega
 ·omega
 ·have:=(hc cs[ps[0].2.1] (ad8 q)).2;omega
 ·omega
end
open Go.RowKit Go.Maps Go.WideMaps
open aB (Key put RT wZ RF RP RQ)
theorem mZ(w:World)(s:ByteArray)(hs:s.size<=100)(ts:List Key)(cs:List (Int×Nat))(ps:List Key)(m:Nat)(hR:aB.gI (pk s) (s.size+1) 0 0 [] [] []=.ok (s.size,ts,cs,ps,m))(h7:ts.length<=7)(h4:cs.length<=4)
 (hi:aB.Inv ts)(hic:aB.jR ts cs)(hnc:cs.Nodup)(kR:aB.aQ ts.length cs.length ps)(hp:ps.length<=100) :
  Calls prog 17 #[.string s] w λe w'=>∃GT GC GP,e=.returned (.tuple #[fv GT GC GP ts.length cs.length ps.length,.int .i64 0,.int .i64 0])/\Below w.heap.size w w'/\FR w' (w.heap.size+1) GT GC GP ts cs ps:=
 TM w s hs s.size ts cs ps m (aj hR) rfl h7 h4 hi.nodup hnc kR.nd hp (Ui hi h7) (NR hic h7) (Lu kR (by omega) (by omega) (by omega))
theorem EK(w:World)(s:ByteArray)(hm:s.size<=maxLen) :
  Calls prog 17 #[.string s] w λe w'=>(∃p0 n0 c0 p1 n1 c1 p2 n2 c2,e=.returned (.tuple #[.agg #[.slice p0 n0 c0,.slice p1 n1 c1,.slice p2 n2 c2],.int .i64 (chk s).1,.int .i64 (chk s).2]))/\Below w.heap.size w w':=by
 by_cases hs:100<s.size
 ·unfold chk;rw[af6 hs];refine(Lm w s hs hm).mono ?_;rintro e w' ⟨rfl,h⟩;exact⟨⟨_,_,_,_,_,_,_,_,_,rfl⟩,h⟩
 ·have hs':s.size<=100:=by omega
  by_cases h0:(chk s).1=0
  ·obtain⟨ts,cs,ps,hR,h7,h4,hi,hic,_,_,_,hnc,kR,_,hp⟩:=jr s hs' h0;have h1:(chk s).2=0:=by
    unfold chk aB.check;rw[af2 hs,<-aB.jv (pk s) (s.size+1) 0 0 [] [] [],hR];simp[aB.less,show ¬(7<ts.length\/4<cs.length) by omega]
   rw[h0,h1];refine(mZ w s hs' ts cs ps _ hR h7 h4 hi hic hnc kR hp).mono ?_;rintro e w' ⟨GT,GC,GP,rfl,h,_⟩;exact⟨⟨_,_,_,_,_,_,_,_,_,rfl⟩,h⟩
  ·revert h0;unfold chk;rw[af2 hs];have hok:=aB.qA (pk:=pk s) (N:=s.size) (λa h=>bJ h) (s.size+1) 0 0 [] [] (by omega);have hls:=aB.jv (pk s) (s.size+1) 0 0 [] [] [];unfold aB.check;rw[<-hls]at hok ⊢;rcases hR:aB.gI (pk s) (s.size+1) 0 0 [] [] []with⟨E,p⟩|⟨a1,ts,cs,ps,m⟩
   ·intro _;refine(OU w s hs' E p (aj hR)).mono ?_;rintro e w' ⟨rfl,h⟩;exact⟨⟨_,_,_,_,_,_,_,_,_,rfl⟩,h⟩
   ·rw[hR]at hok;obtain⟨p1,p2,p3,p4,p5⟩:=hok;simp only[aB.less];by_cases h1:a1<s.size
    ·simp only[af6 h1];intro _;refine(OT w s hs' a1 ts cs ps m (aj hR) h1).mono ?_;rintro e w' ⟨rfl,h⟩;exact⟨⟨_,_,_,_,_,_,_,_,_,rfl⟩,h⟩
    ·simp only[af2 h1];by_cases h2:7<ts.length\/4<cs.length
     ·simp only[af6 h2];intro _;refine(Ll w s hs' a1 ts cs ps m (aj hR) (by omega) h2).mono ?_;rintro e w' ⟨rfl,h⟩;exact⟨⟨_,_,_,_,_,_,_,_,_,rfl⟩,h⟩
     ·simp only[af2 h2];intro h;exact absurd (by simp) h
end Go.Proofs.YthcppbmkacbbiabGreat
