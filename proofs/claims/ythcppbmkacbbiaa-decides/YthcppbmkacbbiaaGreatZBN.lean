import Derived.Test.YthcppbmkacbbiaaGreatZBL
import Derived.Test.YthcppbmkacbbiaaGreatZBJ
set_option linter.unusedSimpArgs false
set_option maxHeartbeats 8000000
set_option maxRecDepth 100000
namespace Go.Proofs.YthcppbmkacbbiaaGreat
open Go.Proofs.Tryz
section
open Sat (View Rule jT cZ)
open au (Key put qY iG jn aA bI dX gy)
def eqs(said:List bG):List (Nat×Nat):=(said.filter λl=>l.2&&decide (l.1.1=61)).map λl=>l.1.2
def bK(said:List bG):Nat->Nat:=jk id (eqs said)
theorem yR{said:List bG}{p:Nat×Nat}:p∈eqs said↔((61,p),true)∈said:=by
 unfold eqs;rw[ah3];constructor
 ·rintro⟨l,hl,rfl⟩;obtain⟨h1,h2⟩:=ak2.1 hl;simp at h2;obtain⟨⟨c,q⟩,b⟩:=l;simp at h2;obtain⟨rfl,rfl⟩:=h2;exact h1
 ·intro h;exact⟨_,ak2.2 ⟨h,by simp⟩,rfl⟩
structure Closed(ts:List Key)(f f':Nat->Nat):Prop where
 roots:ji f' ts.length
 Iy:yt f' ts
 ker:∀a b,f a=f b->f' a=f' b
 least:∀R:Nat->Nat->Prop,Eqv R->NK R ts->(∀a b,a<ts.length->b<ts.length->f a=f b->R a b)->∀a b,a<ts.length->b<ts.length->f' a=f' b->R a b
def cb(f':Nat->Nat)(cs:List (Int×Nat))(said:List bG):Prop:=
 (∀l∈said,l.1.1=61->l.2=false->f' l.1.2.1≠f' l.1.2.2)/\
 (∀l∈said,∀m∈said,l.1.1≠61->m.1.1≠61->l.1.1=m.1.1->f' (cs.getD l.1.2.1 (0,0)).2=f' (cs.getD m.1.2.1 (0,0)).2->l.2=m.2)
def adZ(g:Nat->Nat)(hl:List Bool)(said:List bG):Prop:=
 ∀l∈said,(l.1.1=61->(g l.1.2.1=g l.1.2.2↔l.2=true))/\(l.1.1≠61->hl.getD l.1.2.1 false=l.2)
def oM(ts:List Key)(cs:List (Int×Nat))(said:List bG):Prop:=
 ∀l∈said,(l.1.1=61/\l.1.2.1<ts.length/\l.1.2.2<ts.length)\/((l.1.1=80\/l.1.1=81)/\∃h:l.1.2.1<cs.length,cs[l.1.2.1].1=l.1.1)
theorem Vr{ts:List Key}{cs:List (Int×Nat)}{said:List bG}{f' g:Nat->Nat}{hl:List Bool}(hs:oM ts cs said)(hc:Closed ts (bK said) f')(hct:∀x∈cs,(x.1=80\/x.1=81)/\x.2<ts.length)
 (hg:yt g ts)(ha:X7 g cs hl)(h:adZ g hl said):cb f' cs said:=by
 have hle:=hc.least (λa b=>g a=g b) (EO g) ((lq g ts).1 hg) (λa b h1 h2 e=>by
  refine Et (EO g) (l:=eqs said) (f:=id) (λp hp=>?_) (λx y _ _ e=>by rw[show x=y from e]) a b h1 h2 e;have hm:=yR.1 hp;have hb:p.1<ts.length/\p.2<ts.length:=by
   rcases hs _ hm with⟨_,q1,q2⟩|⟨q,_⟩
   ·exact⟨q1,q2⟩
   ·simp at q
  exact⟨hb.1,hb.2,((h _ hm).1 rfl).2 rfl⟩)
 refine⟨λl hl' h61 hf e=>?_,λl hl' m hm h61 KE hlet e=>?_⟩
 ·rcases hs l hl' with⟨_,q1,q2⟩|⟨q,_⟩
  ·have:=((h l hl').1 h61).1 (hle _ _ q1 q2 e);rw[hf]at this;cases this
  ·omega
 ·rcases hs l hl' with⟨q,_⟩|⟨_,p1,p2⟩
  ·exact absurd q h61
  ·rcases hs m hm with⟨q,_⟩|⟨_,r1,r2⟩
   ·exact absurd q KE
   ·rw[aN p1,aN r1]at e;have:=ha _ _ p1 r1 (by rw[p2,r2];exact hlet) (hle _ _ (hct _ (af4 p1)).2 (hct _ (af4 r1)).2 e);rw[<-(h l hl').2 h61,<-(h m hm).2 KE];exact this
theorem IB{v:Key->Bool}{ts:List Key}{cs:List (Int×Nat)}{ps:List Key}{hl:List Bool}{said:List bG}{f':Nat->Nat}(hi:bI ts.length cs.length ps)(hk:gy cs ps)(h0:0<ps.length)(hct:∀x∈cs,(x.1=80\/x.1=81)/\x.2<ts.length)
 (h:Hold v (mY id ps))(hall:∀q∈ps,q.1=61\/q.1=80\/q.1=81->(q,v q)∈said)(hc:Closed ts (bK said) f')(hcb:cb f' cs said)(hh:∀c (h:c<cs.length),hl.getD c false=v (cs[c].1,c,0)):FH f' ts cs ps hl:=by
 refine I8 hi hk h0 h hc.Iy (λi j hi' hj' e1 e2=>?_) (λq hq h61=>?_) hh
 ·rw[hh i hi',hh j hj'];have a1:=hct _ (af4 hi');have b1:=hct _ (af4 hj');have m1:=hall _ (hk.has i hi') (Or.inr a1.1);have m2:=hall _ (hk.has j hj') (Or.inr b1.1);exact hcb.2 _ m1 _ m2 (by show cs[i].1≠61;omega) (by show cs[j].1≠61;omega) e1 (by simp only;rw[aN hi',aN hj'];exact e2)
 ·have hm:=hall q hq (Or.inl h61);constructor
  ·intro e;cases hv:v q
   ·rw[hv]at hm;exact absurd e (hcb.1 _ hm h61 rfl)
   ·rfl
  ·intro hv;rw[hv]at hm;have:q.2∈eqs said:=yR.2 (by rw[<-h61];exact hm);exact hc.ker _ _ (Af this)
end
section
open Go.RowKit Go.Maps Go.WideMaps
open au (Key put)
abbrev kP:Type:=Nat×Bool×Key
def dP(s:kP):bG:=(s.2.2,s.2.1)
def ES(s:kP):List Value:=[.int .i64 s.1,.bool s.2.1,.int .u8 s.2.2.1,.int .i64 s.2.2.2.1,.int .i64 s.2.2.2.2]
def gZ(w:World)(v:Value)(ss:List kP):Prop:=
 ∃(p:Option Addr) (cap:Nat),v=.slice p ss.length cap/\ss.length<=cap/\(ss≠[]->∃(g off:Nat) (cur:Array Value) (x:Nat×Nat),p=some ⟨g,off,none⟩/\w.heap[g]?=some (Obj.cells cur 224 x)/\
  ∀i (hi:i<ss.length) j,j<5->cur[off+i*5+j]?=(ES ss[i])[j]?)
theorem gZ.below{w w':World}{v:Value}{ss:List kP}(h:gZ w v ss)(hb:Below w.heap.size w w'):gZ w' v ss:=by
 obtain⟨p,cap,h1,h2,h3⟩:=h;refine⟨p,cap,h1,h2,λhne=>?_⟩;obtain⟨g,off,cur,x,q1,q2,q3⟩:=h3 hne;exact⟨g,off,cur,x,q1,(hb.block g (ae8.1 q2).1).trans q2,q3⟩
theorem gZ.cells{w:World}{v:Value}{ss:List kP}(h:gZ w v ss):∃p cap,v=.slice p ss.length cap/\ss.length<=cap/\(ss≠[]->∃g off,p=some ⟨g,off,none⟩/\g<w.heap.size/\∀W:World,Below w.heap.size w W->∀k (hk:k<ss.length),
  W.cell? ⟨g,off+k*5,none⟩=some (.int .i64 ss[k].1)/\W.cell? ⟨g,off+k*5+1,none⟩=some (.bool ss[k].2.1)/\W.cell? ⟨g,off+k*5+2,none⟩=some (.int .u8 ss[k].2.2.1)/\W.cell? ⟨g,off+k*5+3,none⟩=some (.int .i64 ss[k].2.2.2.1)/\W.cell? ⟨g,off+k*5+4,none⟩=some (.int .i64 ss[k].2.2.2.2)):=by
 obtain⟨p,cap,h1,h2,h3⟩:=h;refine⟨p,cap,h1,h2,λhne=>?_⟩;obtain⟨g,off,cur,x,q1,q2,q3⟩:=h3 hne;have hg:=(ae8.1 q2).1;refine⟨g,off,q1,hg,λW hW k hk=>?_⟩;have hb:=(hW.block g hg).trans q2;refine⟨?_,?_,?_,?_,?_⟩<;>rw[cell_of hb]
 ·exact(q3 k hk 0 (by omega)).trans rfl
 ·exact(q3 k hk 1 (by omega)).trans rfl
 ·exact(q3 k hk 2 (by omega)).trans rfl
 ·exact(q3 k hk 3 (by omega)).trans rfl
 ·exact(q3 k hk 4 (by omega)).trans rfl
theorem jE.made(w:World)(n:Nat):jE (w.alloc (.map #[] 0)) w.heap.size id n 0:=
 ⟨id,λ_=>0,⟨.map [],0,af0 _,World.ownsMap_made w _ _ _,λi _=>⟨by simp[Maps.has],λh=>absurd rfl h⟩⟩,λi hi=>⟨hi,λh=>h,λh=>absurd rfl h⟩⟩
theorem YK(n:Nat):rts id n=n:=by
 unfold rts;rw[List.countP_eq_length.2 (by simp)];simp
theorem UN{L:List bG}{k:Nat}(hk:k<L.length):eqs (L.take (k+1))=eqs (L.take k)++if (L[k].2&&decide (L[k].1.1=61))=true then [L[k].1.2]else []:=by
 unfold eqs;rw[ai4,af2 hk,ap9,al7]
 congr 1
 show([L[k]].filter _).map _=_
 rw[List.filter_cons];split<;>rfl
structure JG(w:World)(f:Nat->Nat)(n b:Nat)(W:World):Prop where
 m:∃c,jE W b f n c/\c+rts f n<=n
 roots:ji f n
 below:Below w.heap.size w W
 lo:w.heap.size<=b
theorem JG.grow{w:World}{f:Nat->Nat}{n b:Nat}{W W':World}(h:JG w f n b W)(hg:W.grownBy W' none):JG w f n b W':=by
 obtain⟨c,h1,h2⟩:=h.m;exact⟨⟨c,h1.kept (hg.block b h1.lt (by simp)),h2⟩,h.roots,h.below.grown hg h.below.size (λk e=>by cases e),h.lo⟩
theorem JG.join{w:World}{f:Nat->Nat}{n b:Nat}{W:World}(h:JG w f n b W)(hn:n<=500){i j:Nat}(hi:i<n)(hj:j<n) :
  Calls prog 126 #[.map (some b),.int .i64 i,.int .i64 j] W λe W'=>(∃v,e=.returned v)/\JG w (oV f i j) n b W'/\W.grownBy W' (some b):=by
 obtain⟨c,h1,h2⟩:=h.m;refine(Hg W b n c f i j h1 hi hj hn (by omega)).mono ?_;rintro e W' ⟨he,hg,hc⟩;refine⟨he,⟨⟨_,hc,?_⟩,h.roots.oV hi,h.below.grown hg h.below.size (λk e=>by cases e;exact h.lo),h.lo⟩,hg⟩;by_cases e:f i=f j
 ·rw[af9 e,qH e];exact h2
 ·rw[af6 e];have:=yL h.roots hi hj e;omega
theorem xR(w:World)(v:Value)(ss:List kP)(n:Nat)(hs:gZ w v ss)(hn:n<=500)(hl:ss.length<=1000)(hok:∀s∈ss,s.2.2.1=61->s.2.2.2.1<n/\s.2.2.2.2<n) :
  Calls prog 141 #[v] w λe w'=>∃b,e=.returned (.map (some b))/\JG w (bK (ss.map dP)) n b w':=by
 obtain⟨vp,vc,rfl,hvc,hvs⟩:=hs.cells;have hmm:=@av4 prog;have HVS:=aj hvs;have HOK:=aj hok;clear hvs hs hok
 go_enter func141,ntmps141
 go_wp2_with fail
 go_loopw [9] (λi wr=>∃k:Nat,k<=ss.length/\i=.int .i64 k/\JG w (bK ((ss.map dP).take k)) n w.heap.size wr) (λi _=>ss.length-(intOf i).toNat)
 case atStart=>
  refine⟨0,ah9 _,rfl,⟨0,jE.made w n,?_⟩,Rw n,(ai7 _ _).alloc (af0 _) _,af0 _⟩;rw[ar8]
  show 0+rts id n<=n
  rw[YK];omega
 case round=>
  obtain⟨k,hk,rfl,hJ⟩:=hrel;by_cases hlt:k<ss.length
  ·have hbd:(k:Int)<(ss.length:Int):=(by omega);have hne:ss≠[]:=(by intro e;rw[e]at hlt;simp at hlt);obtain⟨g,off,rfl,hgl,hcs⟩:=ah HVS hne;obtain⟨d0,d1,d2,d3,d4⟩:=hcs wr hJ.below k hlt;have hok:=ah HOK ss[k] (af4 hlt);have htk:bK ((ss.map dP).take (k+1))=if (ss[k].2.1&&decide (ss[k].2.2.1=61))=true then oV (bK ((ss.map dP).take k)) ss[k].2.2.2.1 ss[k].2.2.2.2 else bK ((ss.map dP).take k):=by
    unfold bK;rw[UN (by simpa using hlt)];simp only[am8,dP];split
    ·rw[DK]
    ·rw[an2]
   have jr:=aj htk;have HJ:=aj hJ;clear htk hJ hcs;generalize ss[k]=s at d0 d1 d2 d3 d4 hok jr;obtain⟨sx,si,sc,s1,s2⟩:=s;simp only at d0 d1 d2 d3 d4 hok jr;generalize bK ((ss.map dP).take k)=F at jr HJ;have hga:wr.grownBy (wr.alloc (.cells #[.int .i64 sx,.bool si,.int .u8 sc,.int .i64 s1,.int .i64 s2] 224)) none:=ae9 _ _ none;have hJ1:=(ah HJ).grow hga;by_cases hc:si=true/\sc=61
   ·obtain⟨rfl,rfl⟩:=hc;obtain⟨o1,o2⟩:=hok rfl;have hjn:=hJ1.join hn o1 o2;rw[af9 (by simp)]at jr;have HJN:=aj hjn;clear hjn hJ1 hga
    go_wp2_with fail
    refine(ah HJN).mono ?_;rintro e w2 ⟨⟨v2,rfl⟩,hJ2,hg2⟩;have HJ2:=aj hJ2;clear hJ2 hg2
    go_wp2_with fail
    refine⟨⟨k+1,hlt,by go_num,?_⟩,by simp[intOf];omega⟩;rw[ah jr];exact ah HJ2
   ·have hcf:¬(si&&decide (sc=61))=true:=(by simpa using hc);rw[af6 hcf]at jr;have HJ2:=aj hJ1;clear hJ1 hga hcf;by_cases h1:si=true
    ·have h2:¬sc=61:=λe=>hc ⟨h1,e⟩;subst h1
     go_wp2_with fail
     refine⟨⟨k+1,hlt,by go_num,?_⟩,by simp[intOf];omega⟩;rw[ah jr];exact ah HJ2
    ·have h1':si=false:=(by simpa using h1);subst h1'
     go_wp2_with fail
     refine⟨⟨k+1,hlt,by go_num,?_⟩,by simp[intOf];omega⟩;rw[ah jr];exact ah HJ2
  ·have hkk:k=ss.length:=(by omega);have hbd:¬(k:Int)<(ss.length:Int):=(by omega);have ht:(ss.map dP).take k=ss.map dP:=(by rw[ai2 (by simp;omega)]);rw[ht]at hJ;have HJ:=aj hJ;clear hJ ht hkk
   go_wp2_with fail
   exact ah7 (v:=.map (some w.heap.size)) (by simp[results,results141,go_sem]) rfl ⟨w.heap.size,rfl,ah HJ⟩
end
section
open Sat (View Rule jT cZ)
open au (Key put qY iG jn aA bI dX gy isAtom)
def Lu(τ:List Tr)(x:Nat):Bool:=match nK τ x with
 |some q=>q.1.2.1
 |none=>false
theorem XM{τ:List Tr}{x:Nat}{b:jT}(h:bel τ x=some b):Lu τ x=b.1:=by
 unfold bel at h;unfold Lu;cases e:nK τ x with
 |none=>rw[e]at h;cases h
 |some q=>
  rw[e]at h;simp only[aq2,ak5]at h;rw[<-h]
theorem XL{τ:List Tr}{U x:Nat}(hlt:∀q∈τ,q.1<U)(hx:U<=x):Lu τ x=false:=by
 have:nK τ x=none:=kF.2 (λh=>by
  obtain⟨q,hq,rfl⟩:=ah3.1 h;have:=hlt q hq;omega)
 unfold Lu;rw[this]
theorem MV{τ:List Tr}{x:Nat}(h:mD τ x=true):∃b,bel τ x=some b/\b.1=Lu τ x:=by
 unfold mD at h;cases e:nK τ x with
 |none=>rw[e]at h;cases h
 |some q=>exact⟨(q.1.2.1,q.2,q.1.2.2.2),by simp[bel,e],by simp[Lu,e]⟩
theorem Bc{U:Nat}{aS ak:List Rule}{τ:List Tr}(hd:Sat.Done ak (bel τ))(hs:∀r∈aS,r∈ak)(hlt:∀r∈aS,∀u∈r,u.1<U)(hall:∀x,x<U->mD τ x=true):∀r∈aS,Sat.keeps (Lu τ) r:=by
 intro r hr;rcases hd r (hs r hr)with⟨v,hv,b,h1,h2⟩|⟨u,hu,_,_,_,h1,_⟩
 ·exact⟨v,hv,(XM h1).trans h2⟩
 ·obtain⟨b,h2,_⟩:=MV (hall u.1 (hlt r hr u hu));rw[h2]at h1;cases h1
def yw(Us:List Key)(τ:List Tr)(x:Nat):List kP:=if isAtom (Us.getD x (0,0,0)).1=true then [(x,Lu τ x,Us.getD x (0,0,0))]else []
def sV(Us:List Key)(τ:List Tr)(k:Nat):List kP:=(List.range k).flatMap (yw Us τ)
def fU(Us:List Key)(τ:List Tr):List kP:=sV Us τ Us.length
theorem wK(Us:List Key)(τ:List Tr)(k:Nat):sV Us τ (k+1)=sV Us τ k++yw Us τ k:=by
 unfold sV;rw[au0,List.flatMap_append];simp
theorem Ro(Us:List Key)(τ:List Tr)(x:Nat):(yw Us τ x).length<=1:=by
 unfold yw;split<;>simp
theorem qj(Us:List Key)(τ:List Tr):∀k,(sV Us τ k).length<=k
 |0=>by simp[sV]
 |k+1=>by
  have:=qj Us τ k;have:=Ro Us τ k;rw[wK,ah1];omega
theorem zX{Us:List Key}{τ:List Tr}{s:kP}:s∈fU Us τ↔∃h:s.1<Us.length,isAtom Us[s.1].1=true/\s.2.1=Lu τ s.1/\s.2.2=Us[s.1]:=by
 unfold fU sV yw;rw[an4];constructor
 ·rintro⟨x,hx,hs⟩;have hx:=aj9.1 hx;rw[aN hx]at hs;split at hs
  ·rename_i ha;have e:=ah6.1 hs;subst e;exact⟨hx,ha,rfl,rfl⟩
  ·cases hs
 ·rintro⟨h,ha,e1,e2⟩;refine⟨s.1,aj9.2 h,?_⟩;rw[aN h,af9 ha,ah6,<-e1,<-e2]
theorem Jj(Us:List Key)(τ:List Tr):((fU Us τ).map (·.1)).Nodup:=by
 have key:∀k,((sV Us τ k).map (·.1)).Nodup/\∀x∈(sV Us τ k).map (·.1),x<k:=by
  intro k
  induction k with
  |zero=>exact⟨by simp[sV],by simp[sV]⟩
  |succ k ih=>
   rw[wK,al7];have ho:∀x∈(yw Us τ k).map (·.1),x=k:=by
    unfold yw;split<;>simp
   have hn:((yw Us τ k).map (·.1)).Nodup:=by
    unfold yw;split<;>simp
   refine⟨aq4.2 ⟨ih.1,hn,λx hx y hy e=>?_⟩,λx hx=>?_⟩
   ·have h1:=ih.2 x hx;have h2:=ho y hy;omega
   ·rcases ai3.1 hx with hx|hx
    ·have:=ih.2 x hx;omega
    ·have:=ho x hx;omega
 exact(key _).1
def lT(ss:List kP)(n:Nat):List Bool:=ss.foldl (λh s=>if s.2.2.1=61 then h else h.set s.2.2.2.1 s.2.1) (List.replicate n false)
theorem Ez(ss:List kP):∀h:List Bool,(ss.foldl (λh s=>if s.2.2.1=61 then h else h.set s.2.2.2.1 s.2.1) h).length=h.length:=by
 induction ss with
 |nil=>intro h;rfl
 |cons s ss ih=>
  intro h;rw[List.foldl_cons,ih];split<;>simp
theorem Ak(ss:List kP)(n:Nat):(lT ss n).length=n:=by
 unfold lT;rw[Ez];simp
theorem PL{ss:List kP}{n k:Nat}(hk:k<ss.length):lT (ss.take (k+1)) n=if ss[k].2.2.1=61 then lT (ss.take k) n else(lT (ss.take k) n).set ss[k].2.2.2.1 ss[k].2.1:=by
 unfold lT;rw[ai4,af2 hk,aq5];rfl
theorem EC{c:Nat}{bv:Bool}(ss:List kP):∀h:List Bool,c<h.length->(∀s∈ss,s.2.2.1≠61->s.2.2.2.1=c->s.2.1=bv)->(h.getD c false=bv\/∃s∈ss,s.2.2.1≠61/\s.2.2.2.1=c)->
  (ss.foldl (λh s=>if s.2.2.1=61 then h else h.set s.2.2.2.1 s.2.1) h).getD c false=bv:=by
 induction ss with
 |nil=>
  intro h _ _ h2;rcases h2 with h2|⟨s,hs,_⟩
  ·exact h2
  ·cases hs
 |cons s ss ih=>
  intro h hc h1 h2;rw[List.foldl_cons];refine ih _ (by split<;>simpa using hc) (λt ht=>h1 t (List.mem_cons_of_mem _ ht)) ?_;by_cases e:s.2.2.1=61
  ·rw[af9 e];rcases h2 with h2|⟨t,ht,g1,g2⟩
   ·exact Or.inl h2
   ·rcases aj8.1 ht with e2|ht
    ·subst e2;exact absurd e g1
    ·exact Or.inr ⟨t,ht,g1,g2⟩
  ·rw[af6 e];by_cases e2:s.2.2.2.1=c
   ·left;subst e2;rw[ag8,List.getElem?_set_self hc];exact h1 s (by simp) e rfl
   ·rcases h2 with h2|⟨t,ht,g1,g2⟩
    ·left;rw[ag8,List.getElem?_set_ne e2,<-ag8];exact h2
    ·rcases aj8.1 ht with e3|ht
     ·subst e3;exact absurd g2 e2
     ·exact Or.inr ⟨t,ht,g1,g2⟩
theorem Hy{c n:Nat}{bv:Bool}{ss:List kP}(hc:c<n)(h1:∀s∈ss,s.2.2.1≠61->s.2.2.2.1=c->s.2.1=bv)(h2:bv=false\/∃s∈ss,s.2.2.1≠61/\s.2.2.2.1=c):(lT ss n).getD c false=bv:=by
 refine EC ss _ (by simpa using hc) h1 ?_;rcases h2 with h2|h2
 ·left;rw[h2,aN (by simpa using hc)];simp
 ·exact Or.inr h2
def VW(Us:List Key)(τ:List Tr)(p:Key):Bool:=Lu τ (Us.idxOf p)
theorem Me{Us:List Key}{τ:List Tr}{p:Key}(hlt:∀q∈τ,q.1<Us.length)(h:VW Us τ p=true):p∈Us:=by
 refine ai0 λhn=>?_;unfold VW at h;rw[ak0 hn,XL hlt (af0 _)]at h;cases h
theorem Ee{Us:List Key}{τ:List Tr}{p:Key}(hp:p∈Us)(ha:isAtom p.1=true):(Us.idxOf p,VW Us τ p,p)∈fU Us τ:=by
 have hl:=am1.2 hp;have e:Us[Us.idxOf p]=p:=aj6 hl;exact zX.2 ⟨hl,by simp only[e];exact ha,rfl,e.symm⟩
theorem sW{Us:List Key}{τ:List Tr}(hn:Us.Nodup){s:kP}(h:s∈fU Us τ):s.2.2∈Us/\isAtom s.2.2.1=true/\s.2.1=VW Us τ s.2.2/\s.1=Us.idxOf s.2.2:=by
 obtain⟨hl,ha,h1,h2⟩:=zX.1 h;have e:s.1=Us.idxOf s.2.2:=by
  rw[h2];exact(hn.idxOf_getElem s.1 hl).symm
 refine⟨by rw[h2];exact af4 hl,by rw[h2];exact ha,?_,e⟩;unfold VW;rw[h1,<-e]
end
section
open Go.RowKit Go.Maps Go.WideMaps
open Sat (View Rule jT cZ)
open au (Key put dX aA bI)
def qM(nt:Nat)(p:Key):Prop:=p.1=61->p.2.1<nt/\p.2.2<nt
def ug(a:Nat)(d:Bool)(b:Nat)(q:Key):Key:=if q.1=61/\(q.2.1<a\/(q.2.1=a/\((d=true/\q.2.2=a)\/q.2.2<b)))then ig q else q
theorem pY{x y:Nat}(h:x<y):ig (61,x,y)=(61,x,y):=by
 unfold ig;simp only[am9];rw[af6 (by omega),af6 (by omega)]
theorem uz{x y:Nat}(h:y<x):ig (61,x,y)=(61,y,x):=by
 unfold ig;simp only[am9];rw[af6 (by omega),af9 h]
theorem qg(x:Nat):ig (61,x,x)=(61,0,0):=by simp[ig]
theorem Dj(q:Key):ug 0 false 0 q=q:=by
 unfold ug;rw[af6];rintro⟨_,h|⟨_,h|h⟩⟩
 ·omega
 ·simp at h
 ·omega
theorem Rf(a:Nat)(d:Bool)(b:Nat):ug a d b (61,0,0)=(61,0,0):=by
 unfold ug;split
 ·exact qg 0
 ·rfl
theorem Rj(a:Nat):ug a false 0 (61,a,a)=(61,a,a):=by
 unfold ug;rw[af6];rintro⟨_,h|⟨_,h|h⟩⟩
 ·simp at h
 ·simp at h
 ·omega
theorem YE{a b:Nat}(d:Bool)(h:b<a)(c:Nat):ug a d c (61,b,a)=(61,b,a):=by
 unfold ug;split
 ·exact pY h
 ·rfl
theorem Ri{a b:Nat}(h:b<a):ug a true b (61,a,b)=(61,a,b):=by
 unfold ug;rw[af6];rintro⟨_,h1|⟨_,h1|h1⟩⟩
 ·simp at h1
 ·simp at h1;omega
 ·simp at h1
theorem Om(a:Nat)(q:Key):(if q=(61,a,a)then(61,0,0)else ug a false 0 q)=ug a true 0 q:=by
 obtain⟨c,x,y⟩:=q;by_cases e:(c,x,y)=((61,a,a):Key)
 ·rw[af9 e];cases e;unfold ug;rw[af9 ⟨rfl,Or.inr ⟨rfl,Or.inl ⟨rfl,rfl⟩⟩⟩,qg]
 ·rw[af6 e];unfold ug;by_cases h:c=61/\x<a
  ·rw[af9 ⟨h.1,Or.inl h.2⟩,af9 ⟨h.1,Or.inl h.2⟩]
  ·rw[af6,af6]
   ·rintro⟨h1,h2|⟨h2,h3|h3⟩⟩
    ·exact h ⟨h1,h2⟩
    ·simp only at h1 h2 h3;exact e (by rw[h1,h2,h3.2])
    ·omega
   ·rintro⟨h1,h2|⟨h2,h3|h3⟩⟩
    ·exact h ⟨h1,h2⟩
    ·simp at h3
    ·omega
theorem Rh(a b:Nat)(hb:b<a)(q:Key):(if q=(61,a,b)then(61,b,a)else ug a true b q)=ug a true (b+1) q:=by
 obtain⟨c,x,y⟩:=q;by_cases e:(c,x,y)=((61,a,b):Key)
 ·rw[af9 e];cases e;unfold ug;rw[af9 ⟨rfl,Or.inr ⟨rfl,Or.inr (ao0 _)⟩⟩,uz hb]
 ·rw[af6 e];unfold ug;by_cases h:c=61/\(x<a\/(x=a/\((true=true/\y=a)\/y<b)))
  ·rw[af9 h,af9];refine⟨h.1,h.2.imp id (λg=>⟨g.1,g.2.imp id (λg2=>by show y<b+1;omega)⟩)⟩
  ·rw[af6 h,af6];rintro⟨h1,h2|⟨h2,h3|h3⟩⟩
   ·exact h ⟨h1,Or.inl h2⟩
   ·exact h ⟨h1,Or.inr ⟨h2,Or.inl h3⟩⟩
   ·simp only at h1 h2 h3;by_cases hy:y=b
    ·exact e (by rw[h1,h2,hy])
    ·exact h ⟨h1,Or.inr ⟨h2,Or.inr (by show y<b;omega)⟩⟩
theorem Wh(a:Nat)(q:Key):ug a true a q=ug (a+1) false 0 q:=by
 obtain⟨c,x,y⟩:=q;unfold ug;by_cases h:c=61/\x<a+1
 ·rw[af9 (c:=_/\(x<a+1\/_)) ⟨h.1,Or.inl h.2⟩];by_cases h2:c=61/\(x<a\/(x=a/\((true=true/\y=a)\/y<a)))
  ·rw[af9 h2]
  ·rw[af6 h2];have hx:x=a:=by
    refine ai0 λhn=>h2 ⟨h.1,Or.inl ?_⟩
    show x<a
    have:=h.2;omega
   have hy:x<y:=by
    refine ai0 λhn=>h2 ⟨h.1,Or.inr ⟨hx,?_⟩⟩;by_cases e:y=a
    ·exact Or.inl ⟨rfl,e⟩
    ·right;show y<a;omega
   have:=h.1;rw[this,pY hy]
 ·rw[af6,af6]
  ·rintro⟨h1,h2|⟨_,h3|h3⟩⟩
   ·exact h ⟨h1,h2⟩
   ·simp at h3
   ·omega
  ·rintro⟨h1,h2|⟨h2,_⟩⟩
   ·exact h ⟨h1,by show x<a+1;simp only at h2;omega⟩
   ·exact h ⟨h1,by show x<a+1;simp only at h2;omega⟩
theorem Wi(n:Nat)(q:Key)(hq:qM n q):ug n false 0 q=ig q:=by
 unfold ug;by_cases h:q.1=61
 ·rw[af9 ⟨h,Or.inl (hq h).1⟩]
 ·rw[af6 (λg=>h g.1),fP.other q h]
theorem LG.cls{n0:Nat}{w w':World}{lb BU BS:Nat}{f f':Key->Key}{dom:Key->Prop}{Us:List Key}{ak:List Rule}{X:Nat->Prop}(h:LG n0 w lb BU BS f dom Us ak X)(hg:w.grownBy w' (some BS))(hp:iE w' BS f' dom 500):LG n0 w' lb BU BS f' dom Us ak X:=by
 obtain⟨rv,h1,h2,h3⟩:=h.rv;exact⟨⟨rv,h1.kept (hg.block lb h1.lt (by simpa using h1.zU h.sm)),h2.but (But.aB hg) (λk e=>by cases e;exact h.sm.pz) (λk hk e=>h2.v.zU h.sm k hk (by cases e;rfl)),h3⟩,h.us.kept (hg.block BU h.us.lt (by simpa using h.ne)),hp,h.ne,h.lo⟩
theorem iE.le{w:World}{b c c':Nat}{f:Key->Key}{dom:Key->Prop}(h:iE w b f dom c)(hc:c<=c'):iE w b f dom c':=by
 obtain⟨D,nn,h0,h1,h2⟩:=h;exact⟨D,nn,by omega,h1,h2⟩
theorem iE.QM{w:World}{b c:Nat}{f:Key->Key}{dom:Key->Prop}(h:iE w b f dom c):∀cur t x,w.heap[b]?≠some (Obj.cells cur t x):=by
 obtain⟨D,nn,_,⟨es,c,h1,_⟩,_⟩:=h;intro cur t x e;rw[h1]at e;cases e
structure JI(w:World)(n0 lb BU BS:Nat)(nt:Nat)(Us:List Key)(ak:List Rule)(X:Nat->Prop)(a:Nat)(d:Bool)(b:Nat)(c:Nat)(W:World):Prop where
 lg:LG n0 W lb BU BS (ug a d b) (qM nt) Us ak X
 p:iE W BS (ug a d b) (qM nt) c
 below:Below n0 w W
 keep:VK w W
 size:w.heap.size<=W.heap.size
theorem JI.grow{w:World}{n0 lb BU BS nt:Nat}{Us:List Key}{ak:List Rule}{X:Nat->Prop}{a:Nat}{d:Bool}{b c:Nat}{W W':World}(h:JI w n0 lb BU BS nt Us ak X a d b c W)(hn:n0<=w.heap.size)(hg:W.grownBy W' none):JI w n0 lb BU BS nt Us ak X a d b c W':=
 ⟨h.lg.grow hg,h.p.kept (hg.block BS h.p.lt (by simp)),h.below.trans ((But.aB hg).below (ah2 hn h.size) (λk _ e=>by cases e)),h.keep.trans (VK.grown hg),ah2 h.size hg.size⟩
theorem JI.join{w:World}{n0 lb BU BS nt:Nat}{Us:List Key}{ak:List Rule}{X:Nat->Prop}{a:Nat}{d:Bool}{b c:Nat}{W W':World}(h:JI w n0 lb BU BS nt Us ak X a d b c W)(hn:n0<=w.heap.size)(hg:W.grownBy W' (some BS)){d':Bool}{b':Nat}(hp:iE W' BS (ug a d' b') (qM nt) (c+1))(hc:c+1<=500):JI w n0 lb BU BS nt Us ak X a d' b' (c+1) W':=
 ⟨h.lg.cls hg (hp.le hc),hp,h.below.trans ((But.aB hg).below (ah2 hn h.size) (λk hk e=>by cases e;have:=h.lg.lo.2.2;omega)),h.keep.trans (VK.map hg h.p.QM),ah2 h.size hg.size⟩
theorem JL(X:Nat->Prop)(n0:Nat)(w:World)(lb BU BS nt:Nat)(Us:List Key)(ak:List Rule)(jC:LG n0 w lb BU BS id (qM nt) Us ak X)(hP:iE w BS id (qM nt) 0)(hnt:nt<=7)(hn:n0<=w.heap.size) :
  Calls prog 129 #[.pointer (some ⟨lb,0,none⟩),.int .i64 nt] w λe w'=>(∃z,e=.returned z)/\LG n0 w' lb BU BS ig (qM nt) Us ak X/\Below n0 w w'/\VK w w'/\w.heap.size<=w'.heap.size:=by
 have hJ0:JI w n0 lb BU BS nt Us ak X 0 false 0 0 w:=⟨jC.cls (aj7 _ _) ((hP.congr (λk _=>(Dj k).symm)).le (by omega)),hP.congr (λk _=>(Dj k).symm),ai7 _ _,VK.refl _,af0 _⟩;have HJ0:=aj hJ0;clear jC hP hJ0
 go_enter func129,ntmps129
 go_wp2_with fail
 go_loopw [7] (λi wr=>∃a c:Nat,a<=nt/\c<=a*8/\i=.int .i64 a/\JI w n0 lb BU BS nt Us ak X a false 0 c wr) (λi _=>nt-(intOf i).toNat)
 case atStart=>exact⟨0,0,ah9 _,af0 _,rfl,ah HJ0⟩
 case round=>
  obtain⟨a,c,ha,hc8,rfl,hJ⟩:=hrel;by_cases hlt:a<nt
  ·have hbd:(a:Int)<(nt:Int):=(by omega);obtain⟨rv,hL,_,_⟩:=hJ.lg.rv;have c1:=hL.cells.2.1;have hll:=hL.lt;have hne:lb≠BS:=hL.zU hJ.lg.sm;have HJ:=aj hJ;have hBl:=hJ.p.lt;clear hJ hL
   go_wp2_with fail
   obtain⟨V,hVd⟩:∃V,wr.drew=V:=⟨_,rfl⟩;have kD:wr.grownBy V none:=(by rw[<-hVd];exact⟨rfl,rfl,rfl,af0 _,λ_ _ _=>rfl⟩);refine aj0 (S:=λW'=>V.grownBy W' (some BS)) rfl ?_;have hS0:V.grownBy V (some BS):=aj7 _ _;simp only[ag3,ag0,ah0,Nat.reduceAdd,af8,af7,ag5,ag9,ag7];change wpAnyH prog .any _ _ _ _ _ _ wr.drew;rw[hVd];clear hVd;have c1V:=kD.cell c1 (by simp);have hlB:(some lb:Option Nat)≠some BS:=(by simpa using hne);have hJV:=(ah HJ).grow hn kD;refine tH 0 (.pointer (some ⟨lb,0,none⟩)) (λw' hS=>?_) hS0 ?_
   ·go_simp
   simp only[aG];refine tH 1 (.pointer (some ⟨lb,0,none⟩)) (λw' hS=>?_) hS0 ?_
   ·go_simp
   simp only[aG];refine tH 2 (.pointer (some ⟨lb,1,none⟩)) (λw' hS=>?_) hS0 ?_
   ·go_simp
   simp only[aG];refine tH 3 (.map (some BS)) (λw' hS=>?_) hS0 ?_
   ·have q:=hS.cell c1V hlB;go_simp
   simp only[aG];refine tH 5 (.int .i64 a) (λw' hS=>?_) hS0 ?_
   ·go_simp
   simp only[aG];refine tH 6 (.int .i64 a) (λw' hS=>?_) hS0 ?_
   ·go_simp
   simp only[aG];have he0:=iO 0 0 V;simp only[Int.natCast_zero]at he0;refine oH 4 (λK hK=>?_);go_simp;refine(he0).mono ?_;rintro e w1 ⟨rfl,hg1⟩;replace hS0:=hS0.trans (hg1.but (some BS));refine hK.out _ _ hS0 ?_;clear hK K;refine oH 7 (λK hK=>?_);go_simp;refine(iO a a w1).mono ?_;rintro e w2 ⟨rfl,hg2⟩;replace hS0:=hS0.trans (hg2.but (some BS));refine hK.out _ _ hS0 ?_;clear hK K;have hJ2:=(hJV.grow hn hg1).grow hn hg2;have hjp:=DJ w2 BS c (ug a false 0) (qM nt) (61,0,0) (61,a,a) hJ2.p (by omega) (λ_=>⟨by show 0<nt;omega,by show 0<nt;omega⟩) (λ_=>⟨hlt,hlt⟩) (Rf _ _ _) (Rj a) ⟨by simp,by simp,by simp⟩ ⟨by simp,by show a<=1000;omega,by show a<=1000;omega⟩;simp only[bD,Int.natCast_zero]at hjp;refine oH 8 (λK hK=>?_);go_simp;refine(hjp).mono ?_;rintro e w3 ⟨⟨z3,rfl⟩,hg3,hP3⟩;refine hK.out _ _ (hS0.trans hg3) (ai8 (by kernel_rfl) ?_ _);clear hK K;have hJ3:=hJ2.join (d':=true) (b':=0) hn hg3 (hP3.congr (λk _=>Om a k)) (by omega);have HJ3:=aj hJ3;clear hJ3 hJ2 hJV hS0 hg1 hg2 hg3 hP3 hjp he0 HJ
   go_wp2_with fail
   go_loopw [20] (λi wq=>∃b c':Nat,b<=a/\c'<=a*8+1+b/\i=.int .i64 b/\JI w n0 lb BU BS nt Us ak X a true b c' wq) (λi _=>a-(intOf i).toNat)
   case atStart=>exact⟨0,c+1,ah9 _,by omega,rfl,ah HJ3⟩
   case round=>
    clear HJ3 c1 c1V hll hBl hne hlB;obtain⟨b,c',hb,hc9,rfl,hJ⟩:=hrel;by_cases hlb:b<a
    ·have hbd2:(b:Int)<(a:Int):=(by omega);obtain⟨rv,hL,_,_⟩:=hJ.lg.rv;have c1:=hL.cells.2.1;have hll:=hL.lt;have hne:lb≠BS:=hL.zU hJ.lg.sm;have HJ:=aj hJ;have hBl:=hJ.p.lt;clear hJ hL
     go_wp2_with fail
     obtain⟨V,hVd⟩:∃V,wr.drew=V:=⟨_,rfl⟩;have kD:wr.grownBy V none:=(by rw[<-hVd];exact⟨rfl,rfl,rfl,af0 _,λ_ _ _=>rfl⟩);refine aj0 (S:=λW'=>V.grownBy W' (some BS)) rfl ?_;have hS0:V.grownBy V (some BS):=aj7 _ _;simp only[ag3,ag0,ah0,Nat.reduceAdd,af8,af7,ag5,ag9,ag7];change wpAnyH prog .any _ _ _ _ _ _ wr.drew;rw[hVd];clear hVd;have c1V:=kD.cell c1 (by simp);have hlB:(some lb:Option Nat)≠some BS:=(by simpa using hne);have hJV:=(ah HJ).grow hn kD;refine tH 0 (.pointer (some ⟨lb,0,none⟩)) (λw' hS=>?_) hS0 ?_
     ·go_simp
     simp only[aG];refine tH 1 (.pointer (some ⟨lb,0,none⟩)) (λw' hS=>?_) hS0 ?_
     ·go_simp
     simp only[aG];refine tH 2 (.pointer (some ⟨lb,1,none⟩)) (λw' hS=>?_) hS0 ?_
     ·go_simp
     simp only[aG];refine tH 3 (.map (some BS)) (λw' hS=>?_) hS0 ?_
     ·have q:=hS.cell c1V hlB;go_simp
     simp only[aG];refine tH 4 (.int .i64 b) (λw' hS=>?_) hS0 ?_
     ·go_simp
     simp only[aG];refine tH 5 (.int .i64 a) (λw' hS=>?_) hS0 ?_
     ·go_simp
     simp only[aG];refine tH 7 (.int .i64 a) (λw' hS=>?_) hS0 ?_
     ·go_simp
     simp only[aG];refine tH 8 (.int .i64 b) (λw' hS=>?_) hS0 ?_
     ·go_simp
     simp only[aG];refine oH 6 (λK hK=>?_);go_simp;refine(iO b a V).mono ?_;rintro e w1 ⟨rfl,hg1⟩;replace hS0:=hS0.trans (hg1.but (some BS));refine hK.out _ _ hS0 ?_;clear hK K;refine oH 9 (λK hK=>?_);go_simp;refine(iO a b w1).mono ?_;rintro e w2 ⟨rfl,hg2⟩;replace hS0:=hS0.trans (hg2.but (some BS));refine hK.out _ _ hS0 ?_;clear hK K;have hJ2:=(hJV.grow hn hg1).grow hn hg2;have hjp:=DJ w2 BS c' (ug a true b) (qM nt) (61,b,a) (61,a,b) hJ2.p (by omega) (λ_=>⟨by show b<nt;omega,hlt⟩) (λ_=>⟨hlt,by show b<nt;omega⟩) (YE true hlb b) (Ri hlb) ⟨by simp,by show b<=1000;omega,by show a<=1000;omega⟩ ⟨by simp,by show a<=1000;omega,by show b<=1000;omega⟩;simp only[bD]at hjp;refine oH 10 (λK hK=>?_);go_simp;refine(hjp).mono ?_;rintro e w3 ⟨⟨z3,rfl⟩,hg3,hP3⟩;refine hK.out _ _ (hS0.trans hg3) (ai8 (by kernel_rfl) ?_ _);clear hK K;have hJ3:=hJ2.join (d':=true) (b':=b+1) hn hg3 (hP3.congr (λk _=>Rh a b hlb k)) (by omega);have HJ3:=aj hJ3;clear hJ3 hJ2 hJV hS0 hg1 hg2 hg3 hP3 hjp HJ
     go_wp2_with fail
     exact⟨⟨b+1,c'+1,hlb,by omega,by go_num,ah HJ3⟩,by simp[intOf];omega⟩
    ·have hbb:b=a:=(by omega);subst hbb;have hbd2:¬(b:Int)<(b:Int):=(by omega);have hJ2:JI w n0 lb BU BS nt Us ak X (b+1) false 0 c' wr:=by
      have e:ug b true b=ug (b+1) false 0:=funext (Wh b);exact⟨by rw[<-e];exact hJ.lg,by rw[<-e];exact hJ.p,hJ.below,hJ.keep,hJ.size⟩
     have HJ2:=aj hJ2;clear hJ hJ2
     go_wp2_with fail
     exact⟨⟨b+1,c',hlt,by omega,by go_num,ah HJ2⟩,by simp[intOf];omega⟩
  ·have haa:a=nt:=(by omega);subst haa;have hbd:¬(a:Int)<(a:Int):=(by omega);have hLF:LG n0 wr lb BU BS ig (qM a) Us ak X:=hJ.lg.cls (aj7 _ _) (hJ.lg.sm.congr (λk hk=>Wi a k hk));have Q1:=aj hLF;have Q2:=aj hJ;clear hJ hLF
   go_wp2_with fail
   go_end0
   exact⟨⟨_,rfl⟩,ah Q1,(ah Q2).below,(ah Q2).keep,(ah Q2).size⟩
end
section
open au (Key put dX aA isAtom cnt bI gy)
def mG(nt:Nat):List Key:=(61,0,0)::(List.range nt).flatMap λy=>(List.range y).map λx=>(61,x,y)
def oD(cs:List (Int×Nat)):List Key:=(List.range cs.length).map λc=>((cs.getD c (0,0)).1,c,0)
def vG(ps:List Key):List Key:=ps.filter λq=>aA q.1
def kG(nt:Nat)(cs:List (Int×Nat))(ps:List Key):List Key:=mG nt++oD cs++vG ps
def oZ(ps:List Key):List Key:=ps.filter λq=>aA q.1||isAtom q.1
theorem Iq{nt:Nat}(h:nt<=7):(mG nt).length<=22:=by
 have key:∀k,k<=7->((List.range k).flatMap λy=>(List.range y).map λx=>((61,x,y):Key)).length<=k*(k-1)/2:=by
  intro k hk
  match k,hk with
  |0,_=>decide
  |1,_=>decide
  |2,_=>decide
  |3,_=>decide
  |4,_=>decide
  |5,_=>decide
  |6,_=>decide
  |7,_=>decide
 have h1:=key nt h;have h2:nt*(nt-1)/2<=21:=by
  match nt,h with
  |0,_=>decide
  |1,_=>decide
  |2,_=>decide
  |3,_=>decide
  |4,_=>decide
  |5,_=>decide
  |6,_=>decide
  |7,_=>decide
 unfold mG;rw[ag0];omega
theorem xY{nt a b:Nat}(ha:a<nt)(hb:b<nt):ig (61,a,b)∈mG nt:=by
 unfold mG;by_cases e:a=b
 ·subst e;rw[qg];simp
 ·by_cases h:a<b
  ·rw[pY h];refine List.mem_cons_of_mem _ (an4.2 ⟨b,aj9.2 hb,ah3.2 ⟨a,aj9.2 h,rfl⟩⟩)
  ·have h':b<a:=(by omega);rw[uz h'];refine List.mem_cons_of_mem _ (an4.2 ⟨a,aj9.2 ha,ah3.2 ⟨b,aj9.2 h',rfl⟩⟩)
theorem x9{cs:List (Int×Nat)}{c:Nat}(h:c<cs.length):(cs[c].1,c,0)∈oD cs:=by
 refine ah3.2 ⟨c,aj9.2 h,?_⟩;rw[aN h]
theorem DY{nt:Nat}{cs:List (Int×Nat)}{ps:List Key}(h7:nt<=7)(h4:cs.length<=4)(hj:6*cnt aA ps+3<=100):(kG nt cs ps).length<=42:=by
 have h1:=Iq h7;have h2:(oD cs).length=cs.length:=by simp[oD]
 have h3:(vG ps).length=cnt aA ps:=by
  unfold vG cnt;rw[List.countP_eq_length_filter]
 unfold kG;rw[ah1,ah1];omega
theorem Qk{ps:List Key}(hj:3*(cnt aA ps+cnt isAtom ps)<=100):(oZ ps).length<=33:=by
 have h:(oZ ps).length<=cnt aA ps+cnt isAtom ps:=by
  unfold oZ cnt
  induction ps with
  |nil=>simp
  |cons q ps ih=>
   have hp:3*(cnt aA ps+cnt isAtom ps)<=100:=by
    unfold cnt at hj ⊢;rw[ar9,ar9]at hj;omega
   have:=ih hp;rw[List.filter_cons,ar9,ar9];cases h1:aA q.1<;>cases h2:isAtom q.1<;>simp<;>omega
 omega
theorem FX{f:Key->Key}{Us ps aU:List Key}(h0:∀p∈Us,p∈aU)(h:∀q∈ps,q.1≠33->f q∈aU):∀k,∀p∈nS f Us ps k,p∈aU:=by
 intro k
 induction k with
 |zero=>simpa[nS]using h0
 |succ k ih=>
  by_cases hk:k<ps.length
  ·rw[mW hk];unfold E8;by_cases e:ps[k].1=33
   ·rw[af9 e];exact ih
   ·rw[af6 e];exact Gy ih (h _ (af4 hk) e)
  ·have:nS f Us ps (k+1)=nS f Us ps k:=by
    unfold nS;rw[ai2 (by omega),ai2 (by omega)]
   rw[this];exact ih
theorem GI{nt:Nat}{cs:List (Int×Nat)}{ps:List Key}(hi:bI nt cs.length ps)(hk:gy cs ps):∀q∈ps,q.1≠33->ig q∈kG nt cs ps:=by
 intro q hq h33;obtain⟨i,hlt,e⟩:=aj2 hq;have ho:=hi.ok i hlt;rw[e]at ho;unfold kG;rcases ho with⟨a,_⟩|⟨a,_⟩|⟨a,b,c⟩|⟨a,b,c⟩
 ·exact absurd a h33
 ·rw[fP.other q (by intro e;rw[e]at a;simp[aA]at a)];exact at6 _ (ak2.2 ⟨hq,a⟩)
 ·rw[fP.other q (by omega)];obtain⟨h1,h2⟩:=hk.letter q hq a;have:=x9 h1;have eq:q=(cs[q.2.1].1,q.2.1,0):=by rw[h2,<-c]
  rw[<-eq]at this;exact ak9 _ (at6 _ this)
 ·have eq:q=(61,q.2.1,q.2.2):=by rw[<-a]
  rw[eq];exact ak9 _ (ak9 _ (xY b c))
theorem GH{nt nc:Nat}{ps:List Key}(hi:bI nt nc ps):∀q∈ps,q.1≠33->id q∈oZ ps:=by
 intro q hq h33;obtain⟨i,hlt,e⟩:=aj2 hq;have ho:=hi.ok i hlt;rw[e]at ho;refine ak2.2 ⟨hq,?_⟩;rcases ho with⟨a,_⟩|⟨a,_⟩|⟨a,b,c⟩|⟨a,b,c⟩
 ·exact absurd a h33
 ·simp[a]
 ·have:isAtom q.1=true:=by rcases a with a|a<;>(rw[a];decide)
  simp[this]
 ·have:isAtom q.1=true:=by rw[a];decide
  simp[this]
theorem MF(nt:Nat):XV ig (qM nt) nt:=by
 refine⟨λp h=>h,λa b ha hb=>?_,λp h=>fP.other p h⟩;by_cases e:a=b
 ·subst e;exact⟨0,0,qg a,by omega,by omega,qg 0⟩
 ·by_cases h:a<b
  ·exact⟨a,b,pY h,ha,hb,pY h⟩
  ·have h':b<a:=(by omega);exact⟨b,a,uz h',hb,ha,pY h'⟩
theorem YF(dom:Key->Prop)(nt:Nat)(hd:∀p,dom p):XV id dom nt:=
 ⟨λp _=>hd p,λa b ha hb=>⟨a,b,rfl,ha,hb,rfl⟩,λ_ _=>rfl⟩
end
open Go.RowKit
theorem xk(m:Option Nat)(w:World):Calls prog 87 #[.map m] w λe w'=>e=.returned (.slice none 0 0)/\w'=w:=by
 go_enter func87,ntmps87
 go_wp2_with fail
 go_ret
 exact⟨rfl,rfl⟩
theorem JM(w:World)(t:ByteArray) :
  Calls prog 32 #[.string t] w λe w'=>e=.returned (.bool (!dR t))/\Below w.heap.size w w':=by
 by_cases h60:60<t.size
 ·have hb:(60:Int)<(t.size:Int):=by omega
  have hn:dR t=true:=by unfold dR;simp[h60]
  rw[hn]
  go_enter func32,ntmps32
  go_wp2_with fail
  go_ret
  exact⟨rfl,ai7 _ _⟩
 ·have hb:¬(60:Int)<(t.size:Int):=by omega
  have hcv:=run_bytes_of_string (P:=prog) w 9 107 5 t underlying9 underlying107 underlying5;obtain⟨cap,hcap⟩:∃c,grownCap w t.size 0 5=c:=⟨_,rfl⟩;rw[hcap]at hcv;obtain⟨W,hW⟩:∃W,w.drew.alloc (.cells (bytesRow t cap) 5 ((bytesRow t cap).size,(bytesRow t cap).size+1))=W:=⟨_,rfl⟩;have hbw:Below w.heap.size w W:=by rw[<-hW];exact((ai7 _ w).drew).alloc (af0 _) _
  have hn:W.heap[w.heap.size]?=some (.cells (bytesRow t cap) 5 ((bytesRow t cap).size,(bytesRow t cap).size+1)):=by rw[<-hW];exact ag4 w.drew _
  have hrow:∀i (hi:i<t.size),W.cell? ⟨w.heap.size,i,none⟩=some (.int .u8 (t[i].toNat:Int)):=λi hi=>by
   rw[Lib.cell_of_heap hn];have h3:=bytesRow_at t cap i hi;simpa[aj1]using h3
  rw[hW]at hcv;have HR:=aj hrow;clear hW hn hrow hcap
  go_enter func32,ntmps32
  go_wp2_with fail
  go_loop [11] (λiv=>∃k:Nat,k<=t.size/\iv=.int .i64 k/\Hid ((t.data.toList.take k).any eu=false)) (λiv=>t.size-(intOf iv).toNat)
  case atStart=>exact⟨0,ah9 _,rfl,by simp[Hid]⟩
  case round=>
   obtain⟨k,hk,rfl,hno⟩:=hrel;by_cases hlt:k<t.size
   ·have hbk:(k:Int)<(t.size:Int):=(by omega);have hck:=ah HR k hlt;have hat:=qQ hlt;rw[ah hno,av3]at hat;have hnd:eu t[k]=(decide ((t[k].toNat:Int)<48)||decide ((57:Int)<(t[k].toNat:Int))):=rfl;have ac1:(t[k].toNat:Int)<256:=(by have:=t[k].toNat_lt;omega);have HAT:=aj hat;have HND:=aj hnd;clear hat hnd hno;generalize eu t[k]=nd at HAT HND;generalize (t[k].toNat:Int)=c at hck HND ac1;have hbad:Hid (nd=true->dR t=true):=λh=>by
     have q:=ah HAT;rw[h]at q;exact any_true (k:=k+1) (by rw[q];simp)
    by_cases h48:c<48
    ·have hnt:dR t=true:=ah hbad (by rw[ah HND];simp[h48]);have HNT:=aj hnt;clear hnt
     go_wp2_with fail
     refine ah7 (v:=.bool false) (by simp[results,results32,go_sem]) rfl ⟨by rw[ah HNT];rfl,hbw⟩
    ·by_cases h57:57<c
     ·have hnt:dR t=true:=ah hbad (by rw[ah HND];simp[h57]);have HNT:=aj hnt;clear hnt
      go_wp2_with fail
      refine ah7 (v:=.bool false) (by simp[results,results32,go_sem]) rfl ⟨by rw[ah HNT];rfl,hbw⟩
     ·have hnf:nd=false:=(by rw[ah HND];simp[h48,h57]);have HNF:=aj hnf;clear hnf
      go_wp2_with fail
      refine⟨⟨k+1,hlt,by go_num,by rw[ah HAT];exact HNF⟩,by simp[intOf];omega⟩
   ·have hkk:k=t.size:=(by omega);have hbk:¬(k:Int)<(t.size:Int):=(by omega);have hnt:dR t=false:=by
     have q:=ah hno;rw[hkk,ai2 (by simp)]at q;unfold dR;rw[q,show decide (60<t.size)=false by simp;omega];rfl
    have HNT:=aj hnt;clear hnt hkk hno
    go_wp2_with fail
    refine ah7 (v:=.bool true) (by simp[results,results32,go_sem]) rfl ⟨by rw[ah HNT];rfl,hbw⟩
end Go.Proofs.YthcppbmkacbbiaaGreat
