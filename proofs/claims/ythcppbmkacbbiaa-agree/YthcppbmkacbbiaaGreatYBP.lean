import Derived.Test.YthcppbmkacbbiaaGreatYBN
import Derived.Test.YthcppbmkacbbiaaGreatRows
import Derived.OpenShut
import Derived.ShutString
import Derived.ChangeOld
import Derived.Lib.SmallJoins
import Derived.Deep.Slices
set_option linter.unusedSimpArgs false
set_option maxHeartbeats 4000000
set_option maxRecDepth 100000
namespace Go.Proofs.YthcppbmkacbbiaaGreat
open Go.Proofs.Tryz
section
open Go.RowKit Go.Maps Go.WideMaps
open aB (Key put)
abbrev jO:Type:=Nat×Bool×Key
def dH(s:jO):aV:=(s.2.2,s.2.1)
def CZ(s:jO):List Value:=[.int .i64 s.1,.bool s.2.1,.int .u8 s.2.2.1,.int .i64 s.2.2.2.1,.int .i64 s.2.2.2.2]
def gu(w:World)(v:Value)(ss:List jO):Prop:=
 ∃(p:Option Addr) (cap:Nat),v=.slice p ss.length cap/\ss.length<=cap/\(ss≠[]->∃(g off:Nat) (cur:Array Value) (x:Nat×Nat),p=some ⟨g,off,none⟩/\w.heap[g]?=some (Obj.cells cur 224 x)/\
  ∀i (hi:i<ss.length) j,j<5->cur[off+i*5+j]?=(CZ ss[i])[j]?)
theorem gu.below{w w':World}{v:Value}{ss:List jO}(h:gu w v ss)(hb:Below w.heap.size w w'):gu w' v ss:=by
 obtain⟨p,cap,h1,h2,h3⟩:=h;refine⟨p,cap,h1,h2,λhne=>?_⟩;obtain⟨g,off,cur,x,q1,q2,q3⟩:=h3 hne;exact⟨g,off,cur,x,q1,(hb.block g (Js.1 q2).1).trans q2,q3⟩
theorem gu.cells{w:World}{v:Value}{ss:List jO}(h:gu w v ss):∃p cap,v=.slice p ss.length cap/\ss.length<=cap/\(ss≠[]->∃g off,p=some ⟨g,off,none⟩/\g<w.heap.size/\∀W:World,Below w.heap.size w W->∀k (hk:k<ss.length),
  W.cell? ⟨g,off+k*5,none⟩=some (.int .i64 ss[k].1)/\W.cell? ⟨g,off+k*5+1,none⟩=some (.bool ss[k].2.1)/\W.cell? ⟨g,off+k*5+2,none⟩=some (.int .u8 ss[k].2.2.1)/\W.cell? ⟨g,off+k*5+3,none⟩=some (.int .i64 ss[k].2.2.2.1)/\W.cell? ⟨g,off+k*5+4,none⟩=some (.int .i64 ss[k].2.2.2.2)):=by
 obtain⟨p,cap,h1,h2,h3⟩:=h;refine⟨p,cap,h1,h2,λhne=>?_⟩;obtain⟨g,off,cur,x,q1,q2,q3⟩:=h3 hne;have hg:=(Js.1 q2).1;refine⟨g,off,q1,hg,λW hW k hk=>?_⟩;have hb:=(hW.block g hg).trans q2;refine⟨?_,?_,?_,?_,?_⟩<;>rw[cell_of hb]
 ·exact(q3 k hk 0 (by omega)).trans rfl
 ·exact(q3 k hk 1 (by omega)).trans rfl
 ·exact(q3 k hk 2 (by omega)).trans rfl
 ·exact(q3 k hk 3 (by omega)).trans rfl
 ·exact(q3 k hk 4 (by omega)).trans rfl
theorem gK.made(w:World)(n:Nat):gK (w.alloc (.map #[] 0)) w.heap.size id n 0:=
 ⟨id,λ_=>0,⟨.map [],0,SH _,ao3 w _ _ _,λi _=>⟨by simp[Maps.has],λh=>absurd rfl h⟩⟩,λi hi=>⟨hi,λh=>h,λh=>absurd rfl h⟩⟩
theorem UY(n:Nat):rts id n=n:=by
 unfold rts;rw[List.countP_eq_length.2 (by simp)];simp
theorem Qb{L:List aV}{k:Nat}(hk:k<L.length):eqs (L.take (k+1))=eqs (L.take k)++if (L[k].2&&decide (L[k].1.1=61))=true then [L[k].1.2]else []:=by
 unfold eqs;rw[ae6,SI hk,ak8,ah6]
 congr 1
 show([L[k]].filter _).map _=_
 rw[List.filter_cons];split<;>rfl
structure JG(w:World)(f:Nat->Nat)(n b:Nat)(W:World):Prop where
 m:∃c,gK W b f n c/\c+rts f n<=n
 roots:iK f n
 below:Below w.heap.size w W
 lo:w.heap.size<=b
theorem JG.grow{w:World}{f:Nat->Nat}{n b:Nat}{W W':World}(h:JG w f n b W)(hg:W.grownBy W' none):JG w f n b W':=by
 obtain⟨c,h1,h2⟩:=h.m;exact⟨⟨c,h1.kept (hg.block b h1.lt (by simp)),h2⟩,h.roots,h.below.grown hg h.below.size (λk e=>by cases e),h.lo⟩
theorem JG.join{w:World}{f:Nat->Nat}{n b:Nat}{W:World}(h:JG w f n b W)(hn:n<=500){i j:Nat}(hi:i<n)(hj:j<n) :
  Calls prog 126 #[.map (some b),.int .i64 i,.int .i64 j] W λe W'=>(∃v,e=.returned v)/\JG w (nR f i j) n b W'/\W.grownBy W' (some b):=by
 obtain⟨c,h1,h2⟩:=h.m;refine(EJ W b n c f i j h1 hi hj hn (by omega)).mono ?_;rintro e W' ⟨he,hg,hc⟩;refine⟨he,⟨⟨_,hc,?_⟩,h.roots.nR hi,h.below.grown hg h.below.size (λk e=>by cases e;exact h.lo),h.lo⟩,hg⟩;by_cases e:f i=f j
 ·rw[ac8 e,pG e];exact h2
 ·rw[ac5 e];have:=wZ h.roots hi hj e;omega
theorem wu(w:World)(v:Value)(ss:List jO)(n:Nat)(hs:gu w v ss)(hn:n<=500)(hl:ss.length<=1000)(hok:∀s∈ss,s.2.2.1=61->s.2.2.2.1<n/\s.2.2.2.2<n) :
  Calls prog 141 #[v] w λe w'=>∃b,e=.returned (.map (some b))/\JG w (aY (ss.map dH)) n b w':=by
 obtain⟨vp,vc,rfl,hvc,hvs⟩:=hs.cells;have hmm:=@ap3 prog;have HVS:=aj hvs;have HOK:=aj hok;clear hvs hs hok
 go_enter func141,ntmps141
 go_wp2_with fail
 go_loopw [9] (λi wr=>∃k:Nat,k<=ss.length/\i=.int .i64 k/\JG w (aY ((ss.map dH).take k)) n w.heap.size wr) (λi _=>ss.length-(intOf i).toNat)
 case atStart=>
  refine⟨0,ae7 _,rfl,⟨0,gK.made w n,?_⟩,NS n,(ae1 _ _).alloc (SH _) _,SH _⟩;rw[al6]
  show 0+rts id n<=n
  rw[UY];omega
 case round=>
  obtain⟨k,hk,rfl,hJ⟩:=hrel;by_cases hlt:k<ss.length
  ·have hbd:(k:Int)<(ss.length:Int):=(by omega);have hne:ss≠[]:=(by intro e;rw[e]at hlt;simp at hlt);obtain⟨g,off,rfl,hgl,hcs⟩:=ah HVS hne;obtain⟨d0,d1,d2,d3,d4⟩:=hcs wr hJ.below k hlt;have hok:=ah HOK ss[k] (ab2 hlt);have htk:aY ((ss.map dH).take (k+1))=if (ss[k].2.1&&decide (ss[k].2.2.1=61))=true then nR (aY ((ss.map dH).take k)) ss[k].2.2.2.1 ss[k].2.2.2.2 else aY ((ss.map dH).take k):=by
    unfold aY;rw[Qb (by simpa using hlt)];simp only[aj1,dH];split
    ·rw[AY]
    ·rw[ai3]
   have eX:=aj htk;have HJ:=aj hJ;clear htk hJ hcs;generalize ss[k]=s at d0 d1 d2 d3 d4 hok eX;obtain⟨sx,si,sc,s1,s2⟩:=s;simp only at d0 d1 d2 d3 d4 hok eX;generalize aY ((ss.map dH).take k)=F at eX HJ;have hga:wr.grownBy (wr.alloc (.cells #[.int .i64 sx,.bool si,.int .u8 sc,.int .i64 s1,.int .i64 s2] 224)) none:=JD _ _ none;have hJ1:=(ah HJ).grow hga;by_cases hc:si=true/\sc=61
   ·obtain⟨rfl,rfl⟩:=hc;obtain⟨o1,o2⟩:=hok rfl;have hjn:=hJ1.join hn o1 o2;rw[ac8 (by simp)]at eX;have HJN:=aj hjn;clear hjn hJ1 hga
    go_wp2_with fail
    refine(ah HJN).mono ?_;rintro e w2 ⟨⟨v2,rfl⟩,hJ2,hg2⟩;have HJ2:=aj hJ2;clear hJ2 hg2
    go_wp2_with fail
    refine⟨⟨k+1,hlt,by go_num,?_⟩,by simp[intOf];omega⟩;rw[ah eX];exact ah HJ2
   ·have hcf:¬(si&&decide (sc=61))=true:=(by simpa using hc);rw[ac5 hcf]at eX;have HJ2:=aj hJ1;clear hJ1 hga hcf;by_cases h1:si=true
    ·have h2:¬sc=61:=λe=>hc ⟨h1,e⟩;subst h1
     go_wp2_with fail
     refine⟨⟨k+1,hlt,by go_num,?_⟩,by simp[intOf];omega⟩;rw[ah eX];exact ah HJ2
    ·have h1':si=false:=(by simpa using h1);subst h1'
     go_wp2_with fail
     refine⟨⟨k+1,hlt,by go_num,?_⟩,by simp[intOf];omega⟩;rw[ah eX];exact ah HJ2
  ·have hkk:k=ss.length:=(by omega);have hbd:¬(k:Int)<(ss.length:Int):=(by omega);have ht:(ss.map dH).take k=ss.map dH:=(by rw[af0 (by simp;omega)]);rw[ht]at hJ;have HJ:=aj hJ;clear hJ ht hkk
   go_wp2_with fail
   exact ad8 (v:=.map (some w.heap.size)) (by simp[results,results141,go_sem]) rfl ⟨w.heap.size,rfl,ah HJ⟩
end
section
open Sat (View Rule jl bH)
open aB (Key put mO dX jn au aT dM fH isAtom)
def II(τ:List Tr)(x:Nat):Bool:=match mD τ x with
 |some q=>q.1.2.1
 |none=>false
theorem TU{τ:List Tr}{x:Nat}{b:jl}(h:bel τ x=some b):II τ x=b.1:=by
 unfold bel at h;unfold II;cases e:mD τ x with
 |none=>rw[e]at h;cases h
 |some q=>
  rw[e]at h;simp only[an3,ag1]at h;rw[<-h]
theorem TT{τ:List Tr}{U x:Nat}(hlt:∀q∈τ,q.1<U)(hx:U<=x):II τ x=false:=by
 have:mD τ x=none:=jG.2 (λh=>by
  obtain⟨q,hq,rfl⟩:=ad5.1 h;have:=hlt q hq;omega)
 unfold II;rw[this]
theorem Jk{τ:List Tr}{x:Nat}(h:kZ τ x=true):∃b,bel τ x=some b/\b.1=II τ x:=by
 unfold kZ at h;cases e:mD τ x with
 |none=>rw[e]at h;cases h
 |some q=>exact⟨(q.1.2.1,q.2,q.1.2.2.2),by simp[bel,e],by simp[II,e]⟩
theorem y9{U:Nat}{aJ ak:List Rule}{τ:List Tr}(hd:Sat.Done ak (bel τ))(hs:∀r∈aJ,r∈ak)(hlt:∀r∈aJ,∀u∈r,u.1<U)(hall:∀x,x<U->kZ τ x=true):∀r∈aJ,Sat.keeps (II τ) r:=by
 intro r hr;rcases hd r (hs r hr)with⟨v,hv,b,h1,h2⟩|⟨u,hu,_,_,_,h1,_⟩
 ·exact⟨v,hv,(TU h1).trans h2⟩
 ·obtain⟨b,h2,_⟩:=Jk (hall u.1 (hlt r hr u hu));rw[h2]at h1;cases h1
def wL(Us:List Key)(τ:List Tr)(x:Nat):List jO:=if isAtom (Us.getD x (0,0,0)).1=true then [(x,II τ x,Us.getD x (0,0,0))]else []
def qV(Us:List Key)(τ:List Tr)(k:Nat):List jO:=(List.range k).flatMap (wL Us τ)
def fE(Us:List Key)(τ:List Tr):List jO:=qV Us τ Us.length
theorem uK(Us:List Key)(τ:List Tr)(k:Nat):qV Us τ (k+1)=qV Us τ k++wL Us τ k:=by
 unfold qV;rw[an4,List.flatMap_append];simp
theorem NM(Us:List Key)(τ:List Tr)(x:Nat):(wL Us τ x).length<=1:=by
 unfold wL;split<;>simp
theorem oQ(Us:List Key)(τ:List Tr):∀k,(qV Us τ k).length<=k
 |0=>by simp[qV]
 |k+1=>by
  have:=oQ Us τ k;have:=NM Us τ k;rw[uK,ad3];omega
theorem yC{Us:List Key}{τ:List Tr}{s:jO}:s∈fE Us τ↔∃h:s.1<Us.length,isAtom Us[s.1].1=true/\s.2.1=II τ s.1/\s.2.2=Us[s.1]:=by
 unfold fE qV wL;rw[aj0];constructor
 ·rintro⟨x,hx,hs⟩;have hx:=ag8.1 hx;rw[aG hx]at hs;split at hs
  ·rename_i ha;have e:=ad4.1 hs;subst e;exact⟨hx,ha,rfl,rfl⟩
  ·cases hs
 ·rintro⟨h,ha,e1,e2⟩;refine⟨s.1,ag8.2 h,?_⟩;rw[aG h,ac8 ha,ad4,<-e1,<-e2]
theorem F9(Us:List Key)(τ:List Tr):((fE Us τ).map (·.1)).Nodup:=by
 have key:∀k,((qV Us τ k).map (·.1)).Nodup/\∀x∈(qV Us τ k).map (·.1),x<k:=by
  intro k
  induction k with
  |zero=>exact⟨by simp[qV],by simp[qV]⟩
  |succ k ih=>
   rw[uK,ah6];have ho:∀x∈(wL Us τ k).map (·.1),x=k:=by
    unfold wL;split<;>simp
   have hn:((wL Us τ k).map (·.1)).Nodup:=by
    unfold wL;split<;>simp
   refine⟨al3.2 ⟨ih.1,hn,λx hx y hy e=>?_⟩,λx hx=>?_⟩
   ·have h1:=ih.2 x hx;have h2:=ho y hy;omega
   ·rcases ae4.1 hx with hx|hx
    ·have:=ih.2 x hx;omega
    ·have:=ho x hx;omega
 exact(key _).1
def kQ(ss:List jO)(n:Nat):List Bool:=ss.foldl (λh s=>if s.2.2.1=61 then h else h.set s.2.2.2.1 s.2.1) (List.replicate n false)
theorem Ci(ss:List jO):∀h:List Bool,(ss.foldl (λh s=>if s.2.2.1=61 then h else h.set s.2.2.2.1 s.2.1) h).length=h.length:=by
 induction ss with
 |nil=>intro h;rfl
 |cons s ss ih=>
  intro h;rw[List.foldl_cons,ih];split<;>simp
theorem yL(ss:List jO)(n:Nat):(kQ ss n).length=n:=by
 unfold kQ;rw[Ci];simp
theorem L9{ss:List jO}{n k:Nat}(hk:k<ss.length):kQ (ss.take (k+1)) n=if ss[k].2.2.1=61 then kQ (ss.take k) n else(kQ (ss.take k) n).set ss[k].2.2.2.1 ss[k].2.1:=by
 unfold kQ;rw[ae6,SI hk,al4];rfl
theorem Cj{c:Nat}{bv:Bool}(ss:List jO):∀h:List Bool,c<h.length->(∀s∈ss,s.2.2.1≠61->s.2.2.2.1=c->s.2.1=bv)->(h.getD c false=bv\/∃s∈ss,s.2.2.1≠61/\s.2.2.2.1=c)->
  (ss.foldl (λh s=>if s.2.2.1=61 then h else h.set s.2.2.2.1 s.2.1) h).getD c false=bv:=by
 induction ss with
 |nil=>
  intro h _ _ h2;rcases h2 with h2|⟨s,hs,_⟩
  ·exact h2
  ·cases hs
 |cons s ss ih=>
  intro h hc h1 h2;rw[List.foldl_cons];refine ih _ (by split<;>simpa using hc) (λt ht=>h1 t (List.mem_cons_of_mem _ ht)) ?_;by_cases e:s.2.2.1=61
  ·rw[ac8 e];rcases h2 with h2|⟨t,ht,g1,g2⟩
   ·exact Or.inl h2
   ·rcases af4.1 ht with e2|ht
    ·subst e2;exact absurd e g1
    ·exact Or.inr ⟨t,ht,g1,g2⟩
  ·rw[ac5 e];by_cases e2:s.2.2.2.1=c
   ·left;subst e2;rw[ad7,List.getElem?_set_self hc];exact h1 s (by simp) e rfl
   ·rcases h2 with h2|⟨t,ht,g1,g2⟩
    ·left;rw[ad7,List.getElem?_set_ne e2,<-ad7];exact h2
    ·rcases af4.1 ht with e3|ht
     ·subst e3;exact absurd g2 e2
     ·exact Or.inr ⟨t,ht,g1,g2⟩
theorem EX{c n:Nat}{bv:Bool}{ss:List jO}(hc:c<n)(h1:∀s∈ss,s.2.2.1≠61->s.2.2.2.1=c->s.2.1=bv)(h2:bv=false\/∃s∈ss,s.2.2.1≠61/\s.2.2.2.1=c):(kQ ss n).getD c false=bv:=by
 refine Cj ss _ (by simpa using hc) h1 ?_;rcases h2 with h2|h2
 ·left;rw[h2,aG (by simpa using hc)];simp
 ·exact Or.inr h2
def Q7(Us:List Key)(τ:List Tr)(p:Key):Bool:=II τ (Us.idxOf p)
theorem IY{Us:List Key}{τ:List Tr}{p:Key}(hlt:∀q∈τ,q.1<Us.length)(h:Q7 Us τ p=true):p∈Us:=by
 refine ae9 λhn=>?_;unfold Q7 at h;rw[ag5 hn,TT hlt (SH _)]at h;cases h
theorem BH{Us:List Key}{τ:List Tr}{p:Key}(hp:p∈Us)(ha:isAtom p.1=true):(Us.idxOf p,Q7 Us τ p,p)∈fE Us τ:=by
 have hl:=ai0.2 hp;have e:Us[Us.idxOf p]=p:=af9 hl;exact yC.2 ⟨hl,by simp only[e];exact ha,rfl,e.symm⟩
theorem qX{Us:List Key}{τ:List Tr}(hn:Us.Nodup){s:jO}(h:s∈fE Us τ):s.2.2∈Us/\isAtom s.2.2.1=true/\s.2.1=Q7 Us τ s.2.2/\s.1=Us.idxOf s.2.2:=by
 obtain⟨hl,ha,h1,h2⟩:=yC.1 h;have e:s.1=Us.idxOf s.2.2:=by
  rw[h2];exact(hn.idxOf_getElem s.1 hl).symm
 refine⟨by rw[h2];exact ab2 hl,by rw[h2];exact ha,?_,e⟩;unfold Q7;rw[h1,<-e]
end
section
open Go.RowKit Go.Maps Go.WideMaps
open aB (Key put)
attribute [local go_sem] Oper.semAt_some
structure Uh(ts:List Key)(f f':Nat->Nat):Prop where
 roots:iK f' ts.length
 Xu:∀a b,f a=f b->f' a=f' b
 least:∀R:Nat->Nat->Prop,WY R->JK R ts->(∀a b,a<ts.length->b<ts.length->f a=f b->R a b)->∀a b,a<ts.length->b<ts.length->f' a=f' b->R a b
theorem Uh.start{ts:List Key}{f:Nat->Nat}(h:iK f ts.length):Uh ts f f:=⟨h,λ_ _ e=>e,λ_ _ _ h=>h⟩
theorem Gq{f:Nat->Nat}{ts:List Key}:∀p∈aO (mkd f ts) ts.length,p.1<ts.length/\p.2<ts.length:=λp hp=>by
 have h:=(gW (mkd f ts) ts.length (by rw[aW];exact SH _) p).1 hp;exact⟨by omega,h.1⟩
theorem Uh.step{ts:List Key}{f f':Nat->Nat}(h:Uh ts f f')(ht:∀i (hi:i<ts.length),ts[i].2.1<ts.length/\ts[i].2.2<ts.length):Uh ts f (iL f' (aO (mkd f' ts) ts.length)):=by
 refine⟨h.roots.iL (λp hp=>(Gq p hp).1),λa b e=>EL (h.Xu a b e),λR hR hC hf=>?_⟩;have h2:=h.least R hR hC hf;exact Cb hR (λp hp=>N8 hC ht h2 p hp) h2
theorem Uh.closed{ts:List Key}{f f':Nat->Nat}(h:Uh ts f f')(hc:wJ f' ts):Closed ts f f':=⟨h.roots,hc,h.Xu,h.least⟩
theorem Eb{n:Nat}{l:List (Nat×Nat)}:∀{f:Nat->Nat},iK f n->(∀p∈l,p.1<n/\p.2<n)->rts (iL f l) n<=rts f n:=by
 induction l with
 |nil=>intro f _ _;exact SH _
 |cons p l ih=>
  intro f h hl;have h1:=hl p (by simp);have h2:=ih (h.nR (j:=p.2) h1.1) (λq hq=>hl q (by simp[hq]));have h3:=Gf h h1.1 h1.2;exact ac9 h2 h3
theorem vT{n:Nat}{l:List (Nat×Nat)}:∀{f:Nat->Nat},iK f n->(∀p∈l,p.1<n/\p.2<n)->(∃p∈l,f p.1≠f p.2)->rts (iL f l) n+1<=rts f n:=by
 induction l with
 |nil=>intro f _ _ ⟨p,hp,_⟩;cases hp
 |cons p l ih=>
  intro f h hl ⟨q,hq,hne⟩;have h1:=hl p (by simp);have h2:∀q∈l,q.1<n/\q.2<n:=λq hq=>hl q (by simp[hq]);by_cases e:f p.1=f p.2
  ·have e1:iL f (p::l)=iL f l:=by
    show iL (nR f p.1 p.2) l=iL f l
    rw[pG e]
   rw[e1];rcases af4.1 hq with e2|hq
   ·subst e2;exact absurd e hne
   ·exact ih h h2 ⟨q,hq,hne⟩
  ·have h3:=Eb (h.nR (j:=p.2) h1.1) h2;have h4:=wZ h h1.1 h1.2 e
   show rts (iL (nR f p.1 p.2) l) n+1<=rts f n
   omega
theorem gK.Xn{W:World}{b n c:Nat}{f:Nat->Nat}(h:gK W b f n c):∃o:Obj,W.heap[b]?=some o/\∀c t fz,o≠.cells c t fz:=by
 obtain⟨g,d,⟨D,nn,_,⟨es,clock,h1,_⟩,_⟩,_⟩:=h;exact⟨_,h1,λ_ _ _ e=>by cases e⟩
def mkD(D:Nat):Deferred:={target:=.collected D,args:=#[]}
theorem vY{F:Fence}{n:Nat}{P:Program}{fn:Func}{tmps:Array Value}{R:Ending->World->Prop}:∀(Ds:List Nat) (W:World),Ds.Nodup->(∀D∈Ds,W.heap[D]?=some (.deferred (some [])))->
  (∀W',But (λk=>k∈Ds) W W'->LeavesInM F n P fn tmps R [] .returning W')->LeavesInM F n P fn tmps R (Ds.map mkD) .returning W
 |[],W,_,_,h=>h W (But.refl _ _)
 |D::Ds,W,hn,hd,h=>by
  have hn':=List.nodup_cons.1 hn;refine⟨by simp,.inl ⟨D,W.putObj D (.deferred none),rfl,ah0 (hd D (by simp)),?_⟩⟩;have hb:But (λk=>some k=some D) W (W.putObj D (.deferred none)):=But.aA (ah8 _ D _);refine vY Ds _ hn'.2 (λE hE=>?_) (λW' hW'=>h W' ?_)
  ·have hne:E≠D:=λe=>hn'.1 (e▸hE);rw[ac4 hne];exact hd E (by simp[hE])
  ·exact(hb.mono (λk _ e=>by cases e;simp)).trans (hW'.mono (λk _ e=>by simp[e]))
structure CL(w:World)(ts:List Key)(f':Nat->Nat)(b GT GC GP nc np:Nat)(Ds:List Nat)(W:World):Prop where
 m:∃c,gK W b f' ts.length c/\c+rts f' ts.length<=ts.length
 but:But (λk=>k=b) w W
 x0:W.heap[w.heap.size]?=some (.cells #[.slice (some ⟨GT,0,none⟩) ts.length ts.length,.slice (some ⟨GC,0,none⟩) nc nc,.slice (some ⟨GP,0,none⟩) np np] 54 (0,0))
 x1:W.heap[w.heap.size+1]?=some (.cells #[.map (some b)] 98 (0,0))
 ds:∀D∈Ds,W.heap[D]?=some (.deferred (some []))
 lo:∀D∈Ds,w.heap.size<=D
theorem CL.grow{w:World}{ts:List Key}{f':Nat->Nat}{b GT GC GP nc np:Nat}{Ds:List Nat}{W W':World}(h:CL w ts f' b GT GC GP nc np Ds W)(hg:W.grownBy W' none):CL w ts f' b GT GC GP nc np Ds W':=by
 obtain⟨c,h1,h2⟩:=h.m;have k:∀(j:Nat) (o:Obj),W.heap[j]?=some o->W'.heap[j]?=some o:=λj o hj=>(hg.block j (Js.1 hj).1 (by simp)).trans hj;exact⟨⟨c,h1.kept (hg.block b h1.lt (by simp)),h2⟩,h.but.then (But.aA hg) (λi _ e=>by cases e),k _ _ h.x0,k _ _ h.x1,λD hD=>k _ _ (h.ds D hD),h.lo⟩
theorem CL.keep{w:World}{ts:List Key}{f':Nat->Nat}{b GT GC GP nc np:Nat}{Ds:List Nat}{W W':World}{row:Option Nat}{B:Nat}(h:CL w ts f' b GT GC GP nc np Ds W)(hg:W.grownBy W' row)(hb:b<B)(hw:w.heap.size+1<B)(hD:∀D∈Ds,D<B)
 (hr:∀r,row=some r->B<=r/\∃o:Obj,W.heap[r]?=some o/\o.isCells=false):CL w ts f' b GT GC GP nc np Ds W':=by
 obtain⟨c,h1,h2⟩:=h.m;have k:∀j,j<B->j<W.heap.size->W'.heap[j]?=W.heap[j]?:=λj hj hl=>hg.block j hl (λe=>by have:=(hr j e.symm).1;omega);refine⟨⟨c,h1.kept (k b hb h1.lt),h2⟩,h.but.then (But.aA hg) (λi hi e=>?_),(k _ (by omega) (Js.1 h.x0).1).trans h.x0,(k _ hw (Js.1 h.x1).1).trans h.x1,λD hD'=>(k _ (hD D hD') (Js.1 (h.ds D hD')).1).trans (h.ds D hD'),h.lo⟩;have:=(hr i e.symm).1;omega
theorem CL.yj{w:World}{ts:List Key}{f':Nat->Nat}{b GT GC GP nc np:Nat}{Ds:List Nat}{W:World}(h:CL w ts f' b GT GC GP nc np Ds W):∃es cl,W.heap[b]?=some (.map es cl):=by
 obtain⟨c,⟨g,d,⟨D,nn,_,⟨es,clock,h1,_⟩,_⟩,_⟩,_⟩:=h.m;exact⟨es,clock,h1⟩
theorem CL.join{w:World}{ts:List Key}{f':Nat->Nat}{b GT GC GP nc np:Nat}{Ds:List Nat}{W:World}(h:CL w ts f' b GT GC GP nc np Ds W)(hr:iK f' ts.length)(hn:ts.length<=7){i j:Nat}(hi:i<ts.length)(hj:j<ts.length) :
  Calls prog 126 #[.map (some b),.int .i64 i,.int .i64 j] W λe W'=>(∃v,e=.returned v)/\CL w ts (nR f' i j) b GT GC GP nc np Ds W'/\W.grownBy W' (some b):=by
 obtain⟨c,h1,h2⟩:=h.m;obtain⟨es,cl,hb⟩:=h.yj;refine(EJ W b ts.length c f' i j h1 hi hj (by omega) (by omega)).mono ?_;rintro e W' ⟨he,hg,hc⟩;have k:∀(j:Nat) (o:Obj),W.heap[j]?=some o->(∀es cl,o≠.map es cl)->W'.heap[j]?=some o:=λj o hj hne=>(hg.block j (Js.1 hj).1 (λe=>by
  cases e;rw[hb]at hj;cases hj;exact hne _ _ rfl)).trans hj
 refine⟨he,⟨⟨_,hc,?_⟩,h.but.then (But.aA hg) (λi _ e=>by cases e;rfl),k _ _ h.x0 (λ_ _ e=>by cases e),k _ _ h.x1 (λ_ _ e=>by cases e),λD hD=>k _ _ (h.ds D hD) (λ_ _ e=>by cases e),h.lo⟩,hg⟩;by_cases e:f' i=f' j
 ·rw[ac8 e,pG e];exact h2
 ·rw[ac5 e];have:=wZ hr hi hj e;omega
theorem LC{f:Nat->Nat}{l:List (Nat×Nat)}{k:Nat}(hk:k<l.length):iL f (l.take (k+1))=nR (iL f (l.take k)) l[k].1 l[k].2:=by
 rw[ae6,SI hk]
 show iL f (l.take k++[l[k]])=_
 rw[AY]
theorem close_any(GT GC GP nc np b c0:Nat)(f:Nat->Nat)(ts:List Key)(w:World)(hl:ts.length<=7)(hrt:bZ w GT ts)(hi:aB.Inv ts)(hM:gK w b f ts.length c0)(hc0:c0+rts f ts.length<=ts.length)(hro:iK f ts.length)(ht:∀i (hi:i<ts.length),ts[i].2.1<ts.length/\ts[i].2.2<ts.length) :
  Calls prog 96 #[fv GT GC GP ts.length nc np,.map (some b)] w λe w'=>(∃v,e=.returned v)/\∃f',Closed ts f f'/\(∃c,gK w' b f' ts.length c/\c+rts f' ts.length<=ts.length)/\w.grownBy w' (some b):=by
 refine(ad9 (n:=5)).1 ?_;have hbl:=hM.lt;have hgt:=hrt.1;have YF:GT≠b\/ts.length=0:=by
  by_cases h0:ts.length=0
  ·exact Or.inr h0
  ·refine Or.inl (λe=>?_);obtain⟨g,d,⟨D,nn,_,⟨es,clock,h1,_⟩,_⟩,_⟩:=hM;have h2:=(hrt.2 0 (by omega)).1;rw[e]at h2;simp[World.cell?,h1]at h2
 have XH:Hid (∀W,But (λk=>k=b) w W->bZ W GT ts):=λW hW=>by
  refine⟨ac7 hgt hW.size,λi hi'=>?_⟩;have hne:GT≠b:=YF.resolve_right (by omega);have hbk:=hW.block GT hgt hne;exact⟨(ab9 hbk).trans (hrt.2 i hi').1,(ab9 hbk).trans (hrt.2 i hi').2.1,(ab9 hbk).trans (hrt.2 i hi').2.2⟩
 have HMD:Hid (∀(W:World) (f':Nat->Nat) (Ds:List Nat),CL w ts f' b GT GC GP nc np Ds W->iK f' ts.length->Calls prog 79 #[fv GT GC GP ts.length nc np,.map (some b)] W λe w'=>∃G,e=.returned (.slice (some ⟨G,0,none⟩) ts.length ts.length)/\W.heap.size<=G/\bZ w' G (mkd f' ts)/\Below W.heap.size W w'):=λW f' Ds h hr=>by
  obtain⟨c,h1,h2⟩:=h.m;exact Ew GT GC GP nc np b c f' ts W hl (ah XH W h.but) hi (λi hi=>(hr i hi).1) h1
 have HCG:Hid (∀(W:World) (f':Nat->Nat) (Ds:List Nat),CL w ts f' b GT GC GP nc np Ds W->iK f' ts.length->Calls prog 48 #[fv GT GC GP ts.length nc np,.map (some b)] W λe w'=>e=.returned (.bool (decide (∀p∈aO (mkd f' ts) ts.length,f' p.1=f' p.2)))/\Below W.heap.size W w'):=λW f' Ds h hr=>by
  obtain⟨c,h1,h2⟩:=h.m;exact lK GT GC GP nc np b c f' ts W hl (ah XH W h.but) hi (λi hi=>(hr i hi).1) h1
 unfold fv at HMD HCG ⊢;refine ag3 func96 rfl trivial ?_ rfl;simp only[ntmps96,ab7,ab5,ac2,Nat.reduceAdd,Nat.reduceSub,ab4,ab3,ab8,ad6,ac1,ac0]
 gi_wp2
 obtain⟨wb,hwb⟩:∃wb,(w.alloc (.cells #[.slice (some ⟨GT,0,none⟩) ts.length ts.length,.slice (some ⟨GC,0,none⟩) nc nc,.slice (some ⟨GP,0,none⟩) np np] 54)).alloc (.cells #[.map (some b)] 98)=wb:=⟨_,rfl⟩;have hgb:w.grownBy wb none:=by rw[<-hwb];exact(JD _ _ none).trans (JD _ _ none)
 have hcl0:CL w ts f b GT GC GP nc np [] wb:=by
  refine⟨⟨c0,hM.kept (hgb.block b hbl (by simp)),hc0⟩,(But.aA hgb).mono (λk _ e=>by cases e),?_,?_,λD hD=>(by cases hD),λD hD=>(by cases hD)⟩
  ·rw[<-hwb,ab6 _ _ _ (by simp),ac3]
  ·rw[<-hwb];have:=ac3 (w.alloc (.cells #[.slice (some ⟨GT,0,none⟩) ts.length ts.length,.slice (some ⟨GC,0,none⟩) nc nc,.slice (some ⟨GP,0,none⟩) np np] 54)) (.cells #[.map (some b)] 98);simpa using this
 rw[hwb];clear hwb hgb;have HT:=aj ht;have HI:=aj hi;have HST:=aj (Uh.start hro);clear ht hi hM hrt hro YF;refine wpIn_loop (λa W=>∃(u4 u5 u6 u7 u8 u9 u10 u11 u12 u13 u14 u15 u16 u17 u18 u19:Value) (f':Nat->Nat) (Ds:List Nat),a={tmps:=#[.agg #[.slice (some ⟨GT,0,none⟩) ts.length ts.length,.slice (some ⟨GC,0,none⟩) nc nc,.slice (some ⟨GP,0,none⟩) np np],.map (some b),.pointer (some ⟨w.heap.size,0,none⟩),.pointer (some ⟨w.heap.size+1,0,none⟩),u4,u5,u6,u7,u8,u9,u10,u11,u12,u13,u14,u15,u16,u17,u18,u19],defers:=Ds.map mkD}/\
   CL w ts f' b GT GC GP nc np Ds W/\Hid (Uh ts f f')/\Hid Ds.Nodup/\Hid (rts f' ts.length+Ds.length<=rts f ts.length)) (λa _=>ts.length+1-a.defers.length) ?start ?round
 case start=>exact⟨_,_,_,_,_,_,_,_,_,_,_,_,_,_,_,_,f,[],rfl,hcl0,HST,am7,SH _⟩
 case round=>
  rintro _ W ⟨u4,u5,u6,u7,u8,u9,u10,u11,u12,u13,u14,u15,u16,u17,u18,u19,f',Ds,rfl,hcl,hC0,hDn,hrt⟩;have hx1:W.cell? ⟨w.heap.size+1,0,none⟩=some (.map (some b)):=by rw[cell_of hcl.x1];rfl
  have q0:W.cell? ⟨w.heap.size,0,none⟩=some (.slice (some ⟨GT,0,none⟩) ts.length ts.length):=by rw[cell_of hcl.x0];rfl
  have q1:W.cell? ⟨w.heap.size,1,none⟩=some (.slice (some ⟨GC,0,none⟩) nc nc):=by rw[cell_of hcl.x0];rfl
  have q2:W.cell? ⟨w.heap.size,2,none⟩=some (.slice (some ⟨GP,0,none⟩) np np):=by rw[cell_of hcl.x0];rfl
  have hcg:=ah HCG W f' Ds hcl (ah hC0).roots;have HCL:=aj hcl;clear hcl0 hcl;by_cases kS:∀p∈aO (mkd f' ts) ts.length,f' p.1=f' p.2
  ·rw[ao0 kS]at hcg;have QV:=aj kS;clear kS
   gi_wp2
   refine⟨trivial,(ad9.2 hcg).mono ?_⟩;rintro e w1 ⟨rfl,hb1⟩;have lI:=(ah HCL).grow (bJ hb1);have QX:=aj lI;clear hcg lI hb1
   gi_wp2
   refine vY Ds w1 (ah hDn) (ah QX).ds (λW' hW'=>?_);have lI:=ah QX;obtain⟨c,hm1,hm2⟩:=lI.m;obtain⟨es,cl,hbm⟩:=lI.yj;have hbD:b∉Ds:=λhm=>by
    have:=lI.ds b hm;rw[hbm]at this;cases this
   refine⟨.tuple #[],by simp[results,results96,go_sem],⟨_,rfl⟩,f',(ah hC0).closed (ah QV),⟨c,hm1.kept (hW'.block b hm1.lt hbD),hm2⟩,?_⟩;refine⟨hW'.os.trans lI.but.os,hW'.tape.trans lI.but.tape,hW'.output.trans lI.but.output,ac9 lI.but.size hW'.size,λj hj hn=>?_⟩;have hjD:j∉Ds:=λhm=>by have:=lI.lo j hm;omega
   exact(hW'.block j (ac7 hj lI.but.size) hjD).trans (lI.but.block j hj (λe=>hn (by rw[e])))
  ·rw[al9 kS]at hcg;have QV:=aj kS;clear kS
   gi_wp2
   refine⟨trivial,(ad9.2 hcg).mono ?_⟩;rintro e w1 ⟨rfl,hb1⟩;have lI:=(ah HCL).grow (bJ hb1);have ZA:w1.cell? ⟨w.heap.size+1,0,none⟩=some (.map (some b)):=(by rw[cell_of lI.x1];rfl);have q0':w1.cell? ⟨w.heap.size,0,none⟩=some (.slice (some ⟨GT,0,none⟩) ts.length ts.length):=(by rw[cell_of lI.x0];rfl);have q1':w1.cell? ⟨w.heap.size,1,none⟩=some (.slice (some ⟨GC,0,none⟩) nc nc):=(by rw[cell_of lI.x0];rfl);have q2':w1.cell? ⟨w.heap.size,2,none⟩=some (.slice (some ⟨GP,0,none⟩) np np):=(by rw[cell_of lI.x0];rfl);have hmd:=ah HMD w1 f' Ds lI (ah hC0).roots;have QX:=aj lI;clear hcg lI hb1 hx1 q0 q1 q2
   gi_wp2
   refine⟨trivial,(ad9.2 hmd).mono ?_⟩;rintro e wr ⟨G,rfl,aaz,zU,hb2⟩;have Yn:=(ah QX).grow (bJ hb2);have QW:=aj Yn;have HR2:=aj zU;clear hmd Yn hb2 zU ZA q0' q1' q2'
   gi_wp2
   refine⟨trivial,(ad9.2 (zC (some ⟨G,0,none⟩) ts.length ts.length wr)).mono ?_⟩;rintro e w2 ⟨rfl,rfl⟩
   gi_wp2
   obtain⟨w2,hw2⟩:∃w2,wr.alloc (.cells #[.slice (some ⟨G,0,none⟩) ts.length ts.length] 50)=w2:=⟨_,rfl⟩;have hg2:wr.grownBy w2 none:=(by rw[<-hw2];exact JD _ _ none);have hs2:w2.heap.size=wr.heap.size+1:=(by rw[<-hw2];simp);have hX2:w2.cell? ⟨wr.heap.size,0,none⟩=some (.slice (some ⟨G,0,none⟩) ts.length ts.length):=(by rw[<-hw2];simp[go_sem]);have Yp:=(ah QW).grow hg2;have SK:=(ah hC0).roots;have hvm:∀x∈mkd f' ts,∃l,keyOf prog 87 (aS x)=some l:=by
    intro x hx;obtain⟨q,hq,rfl⟩:=ad5.1 hx;obtain⟨i,hi,rfl⟩:=af7 hq;have hkey:=(ah HI).key i hi;have hb':ts[i].2.1<ts.length/\ts[i].2.2<ts.length/\0<=ts[i].1/\ts[i].1<=255:=by
     rcases hkey with⟨_,_,h3,h4⟩|⟨_,h2,h3⟩|⟨_,h2,h3⟩<;>omega
    have e1:=(SK _ hb'.1).1;have e2:=(SK _ hb'.2.1).1;exact Ld _ (by simp;omega) (by simp;omega) (by simp;omega)
   have EP:bZ w2 G (mkd f' ts):=(ah HR2).same (hg2.block _ (ah HR2).1 (by simp));have XU:G<wr.heap.size:=(ah HR2).1;have hseq:=zB 4 (by omega) wr.heap.size G ts.length w2.heap.size (mkd f' ts) w2 (SH _) (by rw[aW];omega) (by rw[aW];exact hX2) EP hvm;rw[aW]at hseq;rw[hw2];have LU:wr.heap.size+1<=w2.heap.size:=(by omega);obtain⟨es0,cl0,VE⟩:=(ah QW).yj;have hblt:b<wr.heap.size:=(Js.1 VE).1;have abI:w.heap.size+1<wr.heap.size:=(Js.1 (ah QW).x1).1;have hDlt:∀D∈Ds,D<w2.heap.size:=λD hD=>by have:=(Js.1 ((ah QW).ds D hD)).1;omega
   have hbG:b≠G:=λe=>by
    by_cases h0:ts.length=0
    ·have:=(ah HR2).1;obtain⟨p,hp,_⟩:∃p∈aO (mkd f' ts) ts.length,f' p.1≠f' p.2:=ae9 λhn=>(ah QV) (λp hp=>ae9 λh=>hn ⟨p,hp,h⟩);have:=(Gq p hp).1;omega
    ·have h1:=((ah HR2).2 0 (by rw[aW];omega)).1;rw[<-e]at h1;simp[World.cell?,VE]at h1
   clear hw2 hX2 EP hvm hs2 HR2 hg2 VE QW QX HCL;have HRO:=aj SK;have HP:Hid (∀p∈(aO (mkd f' ts) ts.length),p.1<ts.length/\p.2<ts.length):=λp hp=>Gq p hp;have HDL:=aj hDlt;have hown:OwnFrom w2.heap.size (fun(k:Nat) W=>CL w ts (iL f' ((aO (mkd f' ts) ts.length).take k)) b GT GC GP nc np Ds W/\w2.heap.size<=W.heap.size):=λk W W' row h hg hr=>⟨h.1.keep hg (by omega) (by omega) (ah HDL) hr,ac9 h.2 hg.size⟩;have qO:OwnFrom w2.heap.size (fun(_:Unit) (_:World)=>False):=λk W W' row h hg hr=>h;clear SK hDlt;refine dZ rfl (by omega) rfl trivial (λ_ _=>by simp[go_sem]) hseq KA.trans ?_ (ae1 _ _) ?_ _ (λ_=>False) hown qO ⟨Yp,SH _⟩
    (λk a' W=>∃hk:k<(aO (mkd f' ts) ts.length).length,a'={tmps:=#[.agg #[.slice (some ⟨GT,0,none⟩) ts.length ts.length,.slice (some ⟨GC,0,none⟩) nc nc,.slice (some ⟨GP,0,none⟩) np np],.map (some b),.pointer (some ⟨w.heap.size,0,none⟩),.pointer (some ⟨w.heap.size+1,0,none⟩),
     .int .i64 ((aO (mkd f' ts) ts.length)[k]).1,.int .i64 ((aO (mkd f' ts) ts.length)[k]).2,.agg #[.slice (some ⟨GT,0,none⟩) ts.length ts.length,.slice (some ⟨GC,0,none⟩) nc nc,.slice (some ⟨GP,0,none⟩) np np],.map (some b),.bool false,.bool true,.agg #[.slice (some ⟨GT,0,none⟩) ts.length ts.length,.slice (some ⟨GC,0,none⟩) nc nc,.slice (some ⟨GP,0,none⟩) np np],.map (some b),.slice (some ⟨G,0,none⟩) ts.length ts.length,.func (.func 127) #[] #[.pointer (some ⟨wr.heap.size,0,none⟩)],.int .i64 ((aO (mkd f' ts) ts.length)[k]).1,.int .i64 ((aO (mkd f' ts) ts.length)[k]).2,u16,u17,u18,u19],defers:=[]}) ?own ?assign ?body ?done ?stop
   ·intro W l o o' hlw ho hc hwk;refine⟨λj x hj hx hxc=>(ac4 (λe=>?_)).trans hx,ac4 (by omega),ac4 (by omega)⟩;subst e;rw[ho]at hx;cases hx;rcases hxc with h|h
    ·rw[hc]at h;cases h
    ·rw[hwk]at h;cases h
   ·intro k hk;simp
   case own=>
    rintro k a' ⟨⟩ W W' row h hg hr;exact h
   case assign=>
    intro l k hk W K hI hK;have hk':k<(aO (mkd f' ts) ts.length).length:=(by simpa using hk);have e1:((aO (mkd f' ts) ts.length).map λp:Nat×Nat=>#[Value.int .i64 p.1,Value.int .i64 p.2])[k]'hk=#[.int .i64 ((aO (mkd f' ts) ts.length)[k]).1,.int .i64 ((aO (mkd f' ts) ts.length)[k]).2]:=(by simp);rw[e1];have hK2:=hK _ W ((an6 _).from _) ⟨λj o hj ho hc=>ho,rfl,rfl⟩ hI ⟨hk',rfl⟩;clear hK;generalize (aO (mkd f' ts) ts.length)[k]=pr at hK2 ⊢
    gi_wp2
    exact hK2
   case body=>
    rintro l k a' W hk hl' ⟨hI,hsW⟩ ⟨hk',rfl⟩;have hx1:W.cell? ⟨w.heap.size+1,0,none⟩=some (.map (some b)):=(by rw[cell_of hI.x1];rfl);have hpm:=ah HP _ (ab2 hk');have hrk:iK (iL f' ((aO (mkd f' ts) ts.length).take k)) ts.length:=(ah HRO).iL (λp hp=>(ah HP p (aj2 hp)).1);have hjn:=hI.join hrk hl hpm.1 hpm.2;have htk:=LC (f:=f') hk';have eX:=aj htk;clear hI htk Yp hown qO hseq hrk;generalize (aO (mkd f' ts) ts.length)[k]=pr at hjn eX hpm ⊢;obtain⟨x,y⟩:=pr;simp only at hjn hpm eX ⊢
    gi_wp2
    refine⟨trivial,ai7 l (ad9.2 (hjn.mono ?_))⟩;rintro e w3 ⟨⟨v3,rfl⟩,Yo,hg3⟩;have aaZ:=aj Yo;have HG3:=aj hg3;clear Yo hg3 hjn
    gi_wp2
    have hg3:=ah HG3;have hkp:∀(j:Nat),j≠b->j<W.heap.size->w3.heap[j]?=W.heap[j]?:=λj hj hl=>hg3.block j hl (λe=>hj (by cases e;rfl));refine⟨⟨hg3.size,λj o hj ho hc=>(hkp j (by omega) (Js.1 ho).1).trans ho⟩,⟨λj o hj ho hc=>(hkp j (by omega) (Js.1 ho).1).trans ho,?_,?_⟩,?_⟩
    ·exact hkp _ (by omega) (by omega)
    ·exact hkp _ (λe=>hbG e.symm) (by omega)
    ·refine⟨?_,ac9 hsW hg3.size⟩
     show CL w ts (iL f' ((aO (mkd f' ts) ts.length).take (k+1))) b GT GC GP nc np Ds w3
     rw[ah eX];exact ah aaZ
   case done=>
    rintro D W hD ⟨hI,hsW⟩ hdef;rw[ah7,ag4]at hI
    gi_wp2
    refine⟨⟨_,_,_,_,_,_,_,_,_,_,_,_,_,_,_,_,iL f' (aO (mkd f' ts) ts.length),D::Ds,rfl,⟨hI.m,hI.but,hI.x0,hI.x1,λE hE=>?_,λE hE=>?_⟩,(ah hC0).step (ah HT),?_,?_⟩,?_⟩
    ·rcases af4.1 hE with e|hE
     ·rw[e];exact hdef
     ·exact hI.ds E hE
    ·rcases af4.1 hE with e|hE
     ·rw[e];omega
     ·exact hI.lo E hE
    ·exact List.nodup_cons.2 ⟨λhm=>by have:=ah HDL D hm;omega,ah hDn⟩
    ·have h1:=vT (ah HRO) (ah HP) (ae9 λhn=>(ah QV) (λp hp=>ae9 λh=>hn ⟨p,hp,h⟩));have h2:=ah hrt
     show rts (iL f' (aO (mkd f' ts) ts.length)) ts.length+(D::Ds).length<=rts f ts.length
     simp only[ab5];omega
    ·have h1:=vT (ah HRO) (ah HP) (ae9 λhn=>(ah QV) (λp hp=>ae9 λh=>hn ⟨p,hp,h⟩));have h2:rts f' ts.length+Ds.length<=rts f ts.length:=ah hrt;have h3:=UW f ts.length;simp only[ab5,ah7];omega
   case stop=>
    intro D W hD hI hdef;exact hI.elim
end
open Go.ChangeShapes Go.WideShapes Go.ChangeAt Go.RowKit
open Go.ChangeMaps (open_string shut_string)
theorem Zt:ownKnob prog.godebug=none:=by kernel_rfl
theorem yF:laidOutB prog=true:=by kernel_rfl
end Go.Proofs.YthcppbmkacbbiaaGreat
