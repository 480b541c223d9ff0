import Derived.Test.YthcppbmkacbbiaaGreatYBD
set_option linter.unusedSimpArgs false
set_option maxHeartbeats 4000000
set_option maxRecDepth 100000
namespace Go.Proofs.YthcppbmkacbbiaaGreat
open Go.Proofs.Tryz
open Go.RowKit Go.Maps Go.WideMaps
open aB (Key put)
abbrev jL:Type:=Nat×Bool×Key
def dF(s:jL):aV:=(s.2.2,s.2.1)
def Df(s:jL):List Value:=[.int .i64 s.1,.bool s.2.1,.int .u8 s.2.2.1,.int .i64 s.2.2.2.1,.int .i64 s.2.2.2.2]
def gy(w:World)(v:Value)(ss:List jL):Prop:=
 ∃(p:Option Addr) (cap:Nat),v=.slice p ss.length cap/\ss.length<=cap/\(ss≠[]->∃(g off:Nat) (cur:Array Value) (x:Nat×Nat),p=some ⟨g,off,none⟩/\w.heap[g]?=some (Obj.cells cur 224 x)/\
  ∀i (hi:i<ss.length) j,j<5->cur[off+i*5+j]?=(Df ss[i])[j]?)
theorem gy.below{w w':World}{v:Value}{ss:List jL}(h:gy w v ss)(hb:Below w.heap.size w w'):gy w' v ss:=by
 obtain⟨p,cap,h1,h2,h3⟩:=h;refine⟨p,cap,h1,h2,λhne=>?_⟩;obtain⟨g,off,cur,x,q1,q2,q3⟩:=h3 hne;exact⟨g,off,cur,x,q1,(hb.block g (ac0.1 q2).1).trans q2,q3⟩
theorem gy.cells{w:World}{v:Value}{ss:List jL}(h:gy w v ss):∃p cap,v=.slice p ss.length cap/\ss.length<=cap/\(ss≠[]->∃g off,p=some ⟨g,off,none⟩/\g<w.heap.size/\∀W:World,Below w.heap.size w W->∀k (hk:k<ss.length),
  W.cell? ⟨g,off+k*5,none⟩=some (.int .i64 ss[k].1)/\W.cell? ⟨g,off+k*5+1,none⟩=some (.bool ss[k].2.1)/\W.cell? ⟨g,off+k*5+2,none⟩=some (.int .u8 ss[k].2.2.1)/\W.cell? ⟨g,off+k*5+3,none⟩=some (.int .i64 ss[k].2.2.2.1)/\W.cell? ⟨g,off+k*5+4,none⟩=some (.int .i64 ss[k].2.2.2.2)):=by
 obtain⟨p,cap,h1,h2,h3⟩:=h;refine⟨p,cap,h1,h2,λhne=>?_⟩;obtain⟨g,off,cur,x,q1,q2,q3⟩:=h3 hne;have hg:=(ac0.1 q2).1;refine⟨g,off,q1,hg,λW hW k hk=>?_⟩;have hb:=(hW.block g hg).trans q2;refine⟨?_,?_,?_,?_,?_⟩<;>rw[cell_of hb]
 ·exact(q3 k hk 0 (by omega)).trans rfl
 ·exact(q3 k hk 1 (by omega)).trans rfl
 ·exact(q3 k hk 2 (by omega)).trans rfl
 ·exact(q3 k hk 3 (by omega)).trans rfl
 ·exact(q3 k hk 4 (by omega)).trans rfl
theorem gU.made(w:World)(n:Nat):gU (w.alloc (.map #[] 0)) w.heap.size id n 0:=
 ⟨id,λ_=>0,⟨.map [],0,ac2 _,World.ownsMap_made w _ _ _,λi _=>⟨by simp[Maps.has],λh=>absurd rfl h⟩⟩,λi hi=>⟨hi,λh=>h,λh=>absurd rfl h⟩⟩
theorem Vm(n:Nat):rts id n=n:=by
 unfold rts;rw[List.countP_eq_length.2 (by simp)];simp
theorem Qy{L:List aV}{k:Nat}(hk:k<L.length):eqs (L.take (k+1))=eqs (L.take k)++if (L[k].2&&decide (L[k].1.1=61))=true then [L[k].1.2]else []:=by
 unfold eqs;rw[ag5,ac3 hk,am3,ak0]
 congr 1
 show([L[k]].filter _).map _=_
 rw[List.filter_cons];split<;>rfl
structure JG(w:World)(f:Nat->Nat)(n b:Nat)(W:World):Prop where
 m:∃c,gU W b f n c/\c+rts f n<=n
 roots:iK f n
 below:Below w.heap.size w W
 lo:w.heap.size<=b
theorem JG.grow{w:World}{f:Nat->Nat}{n b:Nat}{W W':World}(h:JG w f n b W)(hg:W.grownBy W' none):JG w f n b W':=by
 obtain⟨c,h1,h2⟩:=h.m;exact⟨⟨c,h1.kept (hg.block b h1.lt (by simp)),h2⟩,h.roots,h.below.grown hg h.below.size (λk e=>by cases e),h.lo⟩
theorem JG.join{w:World}{f:Nat->Nat}{n b:Nat}{W:World}(h:JG w f n b W)(hn:n<=500){i j:Nat}(hi:i<n)(hj:j<n) :
  Calls prog 126 #[.map (some b),.int .i64 i,.int .i64 j] W λe W'=>(∃v,e=.returned v)/\JG w (ou f i j) n b W'/\W.grownBy W' (some b):=by
 obtain⟨c,h1,h2⟩:=h.m;refine(EN W b n c f i j h1 hi hj hn (by omega)).mono ?_;rintro e W' ⟨he,hg,hc⟩;refine⟨he,⟨⟨_,hc,?_⟩,h.roots.ou hi,h.below.grown hg h.below.size (λk e=>by cases e;exact h.lo),h.lo⟩,hg⟩;by_cases e:f i=f j
 ·rw[ae2 e,qh e];exact h2
 ·rw[ad6 e];have:=xA h.roots hi hj e;omega
theorem wF(w:World)(v:Value)(ss:List jL)(n:Nat)(hs:gy w v ss)(hn:n<=500)(hl:ss.length<=1000)(hok:∀s∈ss,s.2.2.1=61->s.2.2.2.1<n/\s.2.2.2.2<n) :
  Calls prog 141 #[v] w λe w'=>∃b,e=.returned (.map (some b))/\JG w (aY (ss.map dF)) n b w':=by
 obtain⟨vp,vc,rfl,hvc,hvs⟩:=hs.cells;have hmm:=@ar7 prog;have HVS:=aj hvs;have HOK:=aj hok;clear hvs hs hok
 go_enter func141,ntmps141
 go_wp2_with fail
 go_loopw [9] (λi wr=>∃k:Nat,k<=ss.length/\i=.int .i64 k/\JG w (aY ((ss.map dF).take k)) n w.heap.size wr) (λi _=>ss.length-(intOf i).toNat)
 case atStart=>
  refine⟨0,ag3 _,rfl,⟨0,gU.made w n,?_⟩,Oi n,(af5 _ _).alloc (ac2 _) _,ac2 _⟩;rw[an3]
  show 0+rts id n<=n
  rw[Vm];omega
 case round=>
  obtain⟨k,hk,rfl,hJ⟩:=hrel;by_cases hlt:k<ss.length
  ·have hbd:(k:Int)<(ss.length:Int):=(by omega);have hne:ss≠[]:=(by intro e;rw[e]at hlt;simp at hlt);obtain⟨g,off,rfl,hgl,hcs⟩:=ah HVS hne;obtain⟨d0,d1,d2,d3,d4⟩:=hcs wr hJ.below k hlt;have hok:=ah HOK ss[k] (ac4 hlt);have htk:aY ((ss.map dF).take (k+1))=if (ss[k].2.1&&decide (ss[k].2.2.1=61))=true then ou (aY ((ss.map dF).take k)) ss[k].2.2.2.1 ss[k].2.2.2.2 else aY ((ss.map dF).take k):=by
    unfold aY;rw[Qy (by simpa using hlt)];simp only[ak9,dF];split
    ·rw[AY]
    ·rw[ak5]
   have fH:=aj htk;have HJ:=aj hJ;clear htk hJ hcs;generalize ss[k]=s at d0 d1 d2 d3 d4 hok fH;obtain⟨sx,si,sc,s1,s2⟩:=s;simp only at d0 d1 d2 d3 d4 hok fH;generalize aY ((ss.map dF).take k)=F at fH HJ;have hga:wr.grownBy (wr.alloc (.cells #[.int .i64 sx,.bool si,.int .u8 sc,.int .i64 s1,.int .i64 s2] 224)) none:=ac1 _ _ none;have hJ1:=(ah HJ).grow hga;by_cases hc:si=true/\sc=61
   ·obtain⟨rfl,rfl⟩:=hc;obtain⟨o1,o2⟩:=hok rfl;have hjn:=hJ1.join hn o1 o2;rw[ae2 (by simp)]at fH;have HJN:=aj hjn;clear hjn hJ1 hga
    go_wp2_with fail
    refine(ah HJN).mono ?_;rintro e w2 ⟨⟨v2,rfl⟩,hJ2,hg2⟩;have HJ2:=aj hJ2;clear hJ2 hg2
    go_wp2_with fail
    refine⟨⟨k+1,hlt,by go_num,?_⟩,by simp[intOf];omega⟩;rw[ah fH];exact ah HJ2
   ·have hcf:¬(si&&decide (sc=61))=true:=(by simpa using hc);rw[ad6 hcf]at fH;have HJ2:=aj hJ1;clear hJ1 hga hcf;by_cases h1:si=true
    ·have h2:¬sc=61:=λe=>hc ⟨h1,e⟩;subst h1
     go_wp2_with fail
     refine⟨⟨k+1,hlt,by go_num,?_⟩,by simp[intOf];omega⟩;rw[ah fH];exact ah HJ2
    ·have h1':si=false:=(by simpa using h1);subst h1'
     go_wp2_with fail
     refine⟨⟨k+1,hlt,by go_num,?_⟩,by simp[intOf];omega⟩;rw[ah fH];exact ah HJ2
  ·have hkk:k=ss.length:=(by omega);have hbd:¬(k:Int)<(ss.length:Int):=(by omega);have ht:(ss.map dF).take k=ss.map dF:=(by rw[ah2 (by simp;omega)]);rw[ht]at hJ;have HJ:=aj hJ;clear hJ ht hkk
   go_wp2_with fail
   exact af2 (v:=.map (some w.heap.size)) (by simp[results,results141,go_sem]) rfl ⟨w.heap.size,rfl,ah HJ⟩
attribute [local go_sem] Oper.semAt_some
structure UF(ts:List Key)(f f':Nat->Nat):Prop where
 roots:iK f' ts.length
 XV:∀a b,f a=f b->f' a=f' b
 least:∀R:Nat->Nat->Prop,Xt R->zO R ts->(∀a b,a<ts.length->b<ts.length->f a=f b->R a b)->∀a b,a<ts.length->b<ts.length->f' a=f' b->R a b
theorem UF.start{ts:List Key}{f:Nat->Nat}(h:iK f ts.length):UF ts f f:=⟨h,λ_ _ e=>e,λ_ _ _ h=>h⟩
theorem Gw{f:Nat->Nat}{ts:List Key}:∀p∈bg (mkd f ts) ts.length,p.1<ts.length/\p.2<ts.length:=λp hp=>by
 have h:=(iU (mkd f ts) ts.length (by rw[aW];exact ac2 _) p).1 hp;exact⟨by omega,h.1⟩
theorem UF.step{ts:List Key}{f f':Nat->Nat}(h:UF ts f f')(ht:∀i (hi:i<ts.length),ts[i].2.1<ts.length/\ts[i].2.2<ts.length):UF ts f (iL f' (bg (mkd f' ts) ts.length)):=by
 refine⟨h.roots.iL (λp hp=>(Gw p hp).1),λa b e=>EO (h.XV a b e),λR hR hC hf=>?_⟩;have h2:=h.least R hR hC hf;exact Cb hR (λp hp=>Ox hC ht h2 p hp) h2
theorem UF.closed{ts:List Key}{f f':Nat->Nat}(h:UF ts f f')(hc:wQ f' ts):Closed ts f f':=⟨h.roots,hc,h.XV,h.least⟩
theorem Ef{n:Nat}{l:List (Nat×Nat)}:∀{f:Nat->Nat},iK f n->(∀p∈l,p.1<n/\p.2<n)->rts (iL f l) n<=rts f n:=by
 induction l with
 |nil=>intro f _ _;exact ac2 _
 |cons p l ih=>
  intro f h hl;have h1:=hl p (by simp);have h2:=ih (h.ou (j:=p.2) h1.1) (λq hq=>hl q (by simp[hq]));have h3:=Gl h h1.1 h1.2;exact ae4 h2 h3
theorem vX{n:Nat}{l:List (Nat×Nat)}:∀{f:Nat->Nat},iK f n->(∀p∈l,p.1<n/\p.2<n)->(∃p∈l,f p.1≠f p.2)->rts (iL f l) n+1<=rts f n:=by
 induction l with
 |nil=>intro f _ _ ⟨p,hp,_⟩;cases hp
 |cons p l ih=>
  intro f h hl ⟨q,hq,hne⟩;have h1:=hl p (by simp);have h2:∀q∈l,q.1<n/\q.2<n:=λq hq=>hl q (by simp[hq]);by_cases e:f p.1=f p.2
  ·have e1:iL f (p::l)=iL f l:=by
    show iL (ou f p.1 p.2) l=iL f l
    rw[qh e]
   rw[e1];rcases ah0.1 hq with e2|hq
   ·subst e2;exact absurd e hne
   ·exact ih h h2 ⟨q,hq,hne⟩
  ·have h3:=Ef (h.ou (j:=p.2) h1.1) h2;have h4:=xA h h1.1 h1.2 e
   show rts (iL (ou f p.1 p.2) l) n+1<=rts f n
   omega
theorem gU.XO{W:World}{b n c:Nat}{f:Nat->Nat}(h:gU W b f n c):∃o:Obj,W.heap[b]?=some o/\∀c t fz,o≠.cells c t fz:=by
 obtain⟨g,d,⟨D,nn,_,⟨es,clock,h1,_⟩,_⟩,_⟩:=h;exact⟨_,h1,λ_ _ _ e=>by cases e⟩
def mkD(D:Nat):Deferred:={target:=.collected D,args:=#[]}
theorem wC{F:Fence}{n:Nat}{P:Program}{fn:Func}{tmps:Array Value}{R:Ending->World->Prop}:∀(Ds:List Nat) (W:World),Ds.Nodup->(∀D∈Ds,W.heap[D]?=some (.deferred (some [])))->
  (∀W',But (λk=>k∈Ds) W W'->LeavesInM F n P fn tmps R [] .returning W')->LeavesInM F n P fn tmps R (Ds.map mkD) .returning W
 |[],W,_,_,h=>h W (But.refl _ _)
 |D::Ds,W,hn,hd,h=>by
  have hn':=List.nodup_cons.1 hn;refine⟨by simp,.inl ⟨D,W.putObj D (.deferred none),rfl,ai9 (hd D (by simp)),?_⟩⟩;have hb:But (λk=>some k=some D) W (W.putObj D (.deferred none)):=But.aA (ak2 _ D _);refine wC Ds _ hn'.2 (λE hE=>?_) (λW' hW'=>h W' ?_)
  ·have hne:E≠D:=λe=>hn'.1 (e▸hE);rw[ae6 hne];exact hd E (by simp[hE])
  ·exact(hb.mono (λk _ e=>by cases e;simp)).trans (hW'.mono (λk _ e=>by simp[e]))
structure CL(w:World)(ts:List Key)(f':Nat->Nat)(b GT GC GP nc np:Nat)(Ds:List Nat)(W:World):Prop where
 m:∃c,gU W b f' ts.length c/\c+rts f' ts.length<=ts.length
 but:But (λk=>k=b) w W
 x0:W.heap[w.heap.size]?=some (.cells #[.slice (some ⟨GT,0,none⟩) ts.length ts.length,.slice (some ⟨GC,0,none⟩) nc nc,.slice (some ⟨GP,0,none⟩) np np] 54 (0,0))
 x1:W.heap[w.heap.size+1]?=some (.cells #[.map (some b)] 98 (0,0))
 ds:∀D∈Ds,W.heap[D]?=some (.deferred (some []))
 lo:∀D∈Ds,w.heap.size<=D
theorem CL.grow{w:World}{ts:List Key}{f':Nat->Nat}{b GT GC GP nc np:Nat}{Ds:List Nat}{W W':World}(h:CL w ts f' b GT GC GP nc np Ds W)(hg:W.grownBy W' none):CL w ts f' b GT GC GP nc np Ds W':=by
 obtain⟨c,h1,h2⟩:=h.m;have k:∀(j:Nat) (o:Obj),W.heap[j]?=some o->W'.heap[j]?=some o:=λj o hj=>(hg.block j (ac0.1 hj).1 (by simp)).trans hj;exact⟨⟨c,h1.kept (hg.block b h1.lt (by simp)),h2⟩,h.but.then (But.aA hg) (λi _ e=>by cases e),k _ _ h.x0,k _ _ h.x1,λD hD=>k _ _ (h.ds D hD),h.lo⟩
theorem CL.keep{w:World}{ts:List Key}{f':Nat->Nat}{b GT GC GP nc np:Nat}{Ds:List Nat}{W W':World}{row:Option Nat}{B:Nat}(h:CL w ts f' b GT GC GP nc np Ds W)(hg:W.grownBy W' row)(hb:b<B)(hw:w.heap.size+1<B)(hD:∀D∈Ds,D<B)
 (hr:∀r,row=some r->B<=r/\∃o:Obj,W.heap[r]?=some o/\o.isCells=false):CL w ts f' b GT GC GP nc np Ds W':=by
 obtain⟨c,h1,h2⟩:=h.m;have k:∀j,j<B->j<W.heap.size->W'.heap[j]?=W.heap[j]?:=λj hj hl=>hg.block j hl (λe=>by have:=(hr j e.symm).1;omega);refine⟨⟨c,h1.kept (k b hb h1.lt),h2⟩,h.but.then (But.aA hg) (λi hi e=>?_),(k _ (by omega) (ac0.1 h.x0).1).trans h.x0,(k _ hw (ac0.1 h.x1).1).trans h.x1,λD hD'=>(k _ (hD D hD') (ac0.1 (h.ds D hD')).1).trans (h.ds D hD'),h.lo⟩;have:=(hr i e.symm).1;omega
theorem CL.yx{w:World}{ts:List Key}{f':Nat->Nat}{b GT GC GP nc np:Nat}{Ds:List Nat}{W:World}(h:CL w ts f' b GT GC GP nc np Ds W):∃es cl,W.heap[b]?=some (.map es cl):=by
 obtain⟨c,⟨g,d,⟨D,nn,_,⟨es,clock,h1,_⟩,_⟩,_⟩,_⟩:=h.m;exact⟨es,clock,h1⟩
theorem CL.join{w:World}{ts:List Key}{f':Nat->Nat}{b GT GC GP nc np:Nat}{Ds:List Nat}{W:World}(h:CL w ts f' b GT GC GP nc np Ds W)(hr:iK f' ts.length)(hn:ts.length<=7){i j:Nat}(hi:i<ts.length)(hj:j<ts.length) :
  Calls prog 126 #[.map (some b),.int .i64 i,.int .i64 j] W λe W'=>(∃v,e=.returned v)/\CL w ts (ou f' i j) b GT GC GP nc np Ds W'/\W.grownBy W' (some b):=by
 obtain⟨c,h1,h2⟩:=h.m;obtain⟨es,cl,hb⟩:=h.yx;refine(EN W b ts.length c f' i j h1 hi hj (by omega) (by omega)).mono ?_;rintro e W' ⟨he,hg,hc⟩;have k:∀(j:Nat) (o:Obj),W.heap[j]?=some o->(∀es cl,o≠.map es cl)->W'.heap[j]?=some o:=λj o hj hne=>(hg.block j (ac0.1 hj).1 (λe=>by
  cases e;rw[hb]at hj;cases hj;exact hne _ _ rfl)).trans hj
 refine⟨he,⟨⟨_,hc,?_⟩,h.but.then (But.aA hg) (λi _ e=>by cases e;rfl),k _ _ h.x0 (λ_ _ e=>by cases e),k _ _ h.x1 (λ_ _ e=>by cases e),λD hD=>k _ _ (h.ds D hD) (λ_ _ e=>by cases e),h.lo⟩,hg⟩;by_cases e:f' i=f' j
 ·rw[ae2 e,qh e];exact h2
 ·rw[ad6 e];have:=xA hr hi hj e;omega
theorem MB{f:Nat->Nat}{l:List (Nat×Nat)}{k:Nat}(hk:k<l.length):iL f (l.take (k+1))=ou (iL f (l.take k)) l[k].1 l[k].2:=by
 rw[ag5,ac3 hk]
 show iL f (l.take k++[l[k]])=_
 rw[AY]
theorem close_any(GT GC GP nc np b c0:Nat)(f:Nat->Nat)(ts:List Key)(w:World)(hl:ts.length<=7)(hrt:cO w GT ts)(hi:aB.Inv ts)(hM:gU w b f ts.length c0)(hc0:c0+rts f ts.length<=ts.length)(hro:iK f ts.length)(ht:∀i (hi:i<ts.length),ts[i].2.1<ts.length/\ts[i].2.2<ts.length) :
  Calls prog 96 #[fv GT GC GP ts.length nc np,.map (some b)] w λe w'=>(∃v,e=.returned v)/\∃f',Closed ts f f'/\(∃c,gU w' b f' ts.length c/\c+rts f' ts.length<=ts.length)/\w.grownBy w' (some b):=by
 refine(af9 (n:=5)).1 ?_;have hbl:=hM.lt;have hgt:=hrt.1;have Y4:GT≠b\/ts.length=0:=by
  by_cases h0:ts.length=0
  ·exact Or.inr h0
  ·refine Or.inl (λe=>?_);obtain⟨g,d,⟨D,nn,_,⟨es,clock,h1,_⟩,_⟩,_⟩:=hM;have h2:=(hrt.2 0 (by omega)).1;rw[e]at h2;simp[World.cell?,h1]at h2
 have Yc:Hid (∀W,But (λk=>k=b) w W->cO W GT ts):=λW hW=>by
  refine⟨ac8 hgt hW.size,λi hi'=>?_⟩;have hne:GT≠b:=Y4.resolve_right (by omega);have hbk:=hW.block GT hgt hne;exact⟨(ae0 hbk).trans (hrt.2 i hi').1,(ae0 hbk).trans (hrt.2 i hi').2.1,(ae0 hbk).trans (hrt.2 i hi').2.2⟩
 have HMD:Hid (∀(W:World) (f':Nat->Nat) (Ds:List Nat),CL w ts f' b GT GC GP nc np Ds W->iK f' ts.length->Calls prog 79 #[fv GT GC GP ts.length nc np,.map (some b)] W λe w'=>∃G,e=.returned (.slice (some ⟨G,0,none⟩) ts.length ts.length)/\W.heap.size<=G/\cO w' G (mkd f' ts)/\Below W.heap.size W w'):=λW f' Ds h hr=>by
  obtain⟨c,h1,h2⟩:=h.m;exact ED GT GC GP nc np b c f' ts W hl (ah Yc W h.but) hi (λi hi=>(hr i hi).1) h1
 have HCG:Hid (∀(W:World) (f':Nat->Nat) (Ds:List Nat),CL w ts f' b GT GC GP nc np Ds W->iK f' ts.length->Calls prog 48 #[fv GT GC GP ts.length nc np,.map (some b)] W λe w'=>e=.returned (.bool (decide (∀p∈bg (mkd f' ts) ts.length,f' p.1=f' p.2)))/\Below W.heap.size W w'):=λW f' Ds h hr=>by
  obtain⟨c,h1,h2⟩:=h.m;exact rG GT GC GP nc np b c f' ts W hl (ah Yc W h.but) hi (λi hi=>(hr i hi).1) h1
 unfold fv at HMD HCG ⊢;refine ai3 func96 rfl trivial ?_ rfl;simp only[ntmps96,ad3,ac9,ae1,Nat.reduceAdd,Nat.reduceSub,ac7,ac6,ad5,af0,ad9,ad8]
 gi_wp2
 obtain⟨wb,hwb⟩:∃wb,(w.alloc (.cells #[.slice (some ⟨GT,0,none⟩) ts.length ts.length,.slice (some ⟨GC,0,none⟩) nc nc,.slice (some ⟨GP,0,none⟩) np np] 54)).alloc (.cells #[.map (some b)] 98)=wb:=⟨_,rfl⟩;have hgb:w.grownBy wb none:=by rw[<-hwb];exact(ac1 _ _ none).trans (ac1 _ _ none)
 have hcl0:CL w ts f b GT GC GP nc np [] wb:=by
  refine⟨⟨c0,hM.kept (hgb.block b hbl (by simp)),hc0⟩,(But.aA hgb).mono (λk _ e=>by cases e),?_,?_,λD hD=>(by cases hD),λD hD=>(by cases hD)⟩
  ·rw[<-hwb,ad4 _ _ _ (by simp),ad7]
  ·rw[<-hwb];have:=ad7 (w.alloc (.cells #[.slice (some ⟨GT,0,none⟩) ts.length ts.length,.slice (some ⟨GC,0,none⟩) nc nc,.slice (some ⟨GP,0,none⟩) np np] 54)) (.cells #[.map (some b)] 98);simpa using this
 rw[hwb];clear hwb hgb;have HT:=aj ht;have HI:=aj hi;have HST:=aj (UF.start hro);clear ht hi hM hrt hro Y4;refine wpIn_loop (λa W=>∃(u4 u5 u6 u7 u8 u9 u10 u11 u12 u13 u14 u15 u16 u17 u18 u19:Value) (f':Nat->Nat) (Ds:List Nat),a={tmps:=#[.agg #[.slice (some ⟨GT,0,none⟩) ts.length ts.length,.slice (some ⟨GC,0,none⟩) nc nc,.slice (some ⟨GP,0,none⟩) np np],.map (some b),.pointer (some ⟨w.heap.size,0,none⟩),.pointer (some ⟨w.heap.size+1,0,none⟩),u4,u5,u6,u7,u8,u9,u10,u11,u12,u13,u14,u15,u16,u17,u18,u19],defers:=Ds.map mkD}/\
   CL w ts f' b GT GC GP nc np Ds W/\Hid (UF ts f f')/\Hid Ds.Nodup/\Hid (rts f' ts.length+Ds.length<=rts f ts.length)) (λa _=>ts.length+1-a.defers.length) ?start ?round
 case start=>exact⟨_,_,_,_,_,_,_,_,_,_,_,_,_,_,_,_,f,[],rfl,hcl0,HST,al6,ac2 _⟩
 case round=>
  rintro _ W ⟨u4,u5,u6,u7,u8,u9,u10,u11,u12,u13,u14,u15,u16,u17,u18,u19,f',Ds,rfl,hcl,hC0,hDn,hrt⟩;have hx1:W.cell? ⟨w.heap.size+1,0,none⟩=some (.map (some b)):=by rw[cell_of hcl.x1];rfl
  have q0:W.cell? ⟨w.heap.size,0,none⟩=some (.slice (some ⟨GT,0,none⟩) ts.length ts.length):=by rw[cell_of hcl.x0];rfl
  have q1:W.cell? ⟨w.heap.size,1,none⟩=some (.slice (some ⟨GC,0,none⟩) nc nc):=by rw[cell_of hcl.x0];rfl
  have q2:W.cell? ⟨w.heap.size,2,none⟩=some (.slice (some ⟨GP,0,none⟩) np np):=by rw[cell_of hcl.x0];rfl
  have hcg:=ah HCG W f' Ds hcl (ah hC0).roots;have HCL:=aj hcl;clear hcl0 hcl;by_cases wG:∀p∈bg (mkd f' ts) ts.length,f' p.1=f' p.2
  ·rw[ap3 wG]at hcg;have Rz:=aj wG;clear wG
   gi_wp2
   refine⟨trivial,(af9.2 hcg).mono ?_⟩;rintro e w1 ⟨rfl,hb1⟩;have lW:=(ah HCL).grow (bM hb1);have RI:=aj lW;clear hcg lW hb1
   gi_wp2
   refine wC Ds w1 (ah hDn) (ah RI).ds (λW' hW'=>?_);have lW:=ah RI;obtain⟨c,hm1,hm2⟩:=lW.m;obtain⟨es,cl,hbm⟩:=lW.yx;have hbD:b∉Ds:=λhm=>by
    have:=lW.ds b hm;rw[hbm]at this;cases this
   refine⟨.tuple #[],by simp[results,results96,go_sem],⟨_,rfl⟩,f',(ah hC0).closed (ah Rz),⟨c,hm1.kept (hW'.block b hm1.lt hbD),hm2⟩,?_⟩;refine⟨hW'.os.trans lW.but.os,hW'.tape.trans lW.but.tape,hW'.output.trans lW.but.output,ae4 lW.but.size hW'.size,λj hj hn=>?_⟩;have hjD:j∉Ds:=λhm=>by have:=lW.lo j hm;omega
   exact(hW'.block j (ac8 hj lW.but.size) hjD).trans (lW.but.block j hj (λe=>hn (by rw[e])))
  ·rw[an7 wG]at hcg;have Rz:=aj wG;clear wG
   gi_wp2
   refine⟨trivial,(af9.2 hcg).mono ?_⟩;rintro e w1 ⟨rfl,hb1⟩;have lW:=(ah HCL).grow (bM hb1);have Z7:w1.cell? ⟨w.heap.size+1,0,none⟩=some (.map (some b)):=(by rw[cell_of lW.x1];rfl);have q0':w1.cell? ⟨w.heap.size,0,none⟩=some (.slice (some ⟨GT,0,none⟩) ts.length ts.length):=(by rw[cell_of lW.x0];rfl);have q1':w1.cell? ⟨w.heap.size,1,none⟩=some (.slice (some ⟨GC,0,none⟩) nc nc):=(by rw[cell_of lW.x0];rfl);have q2':w1.cell? ⟨w.heap.size,2,none⟩=some (.slice (some ⟨GP,0,none⟩) np np):=(by rw[cell_of lW.x0];rfl);have hmd:=ah HMD w1 f' Ds lW (ah hC0).roots;have RI:=aj lW;clear hcg lW hb1 hx1 q0 q1 q2
   gi_wp2
   refine⟨trivial,(af9.2 hmd).mono ?_⟩;rintro e wr ⟨G,rfl,aaR,zY,hb2⟩;have YM:=(ah RI).grow (bM hb2);have RD:=aj YM;have HR2:=aj zY;clear hmd YM hb2 zY Z7 q0' q1' q2'
   gi_wp2
   refine⟨trivial,(af9.2 (zM (some ⟨G,0,none⟩) ts.length ts.length wr)).mono ?_⟩;rintro e w2 ⟨rfl,rfl⟩
   gi_wp2
   obtain⟨w2,hw2⟩:∃w2,wr.alloc (.cells #[.slice (some ⟨G,0,none⟩) ts.length ts.length] 50)=w2:=⟨_,rfl⟩;have hg2:wr.grownBy w2 none:=(by rw[<-hw2];exact ac1 _ _ none);have hs2:w2.heap.size=wr.heap.size+1:=(by rw[<-hw2];simp);have hX2:w2.cell? ⟨wr.heap.size,0,none⟩=some (.slice (some ⟨G,0,none⟩) ts.length ts.length):=(by rw[<-hw2];simp[go_sem]);have YO:=(ah RD).grow hg2;have TB:=(ah hC0).roots;have hvm:∀x∈mkd f' ts,∃l,keyOf prog 87 (aS x)=some l:=by
    intro x hx;obtain⟨q,hq,rfl⟩:=ae8.1 hx;obtain⟨i,hi,rfl⟩:=ah1 hq;have hkey:=(ah HI).key i hi;have hb':ts[i].2.1<ts.length/\ts[i].2.2<ts.length/\0<=ts[i].1/\ts[i].1<=255:=by
     rcases hkey with⟨_,_,h3,h4⟩|⟨_,h2,h3⟩|⟨_,h2,h3⟩<;>omega
    have e1:=(TB _ hb'.1).1;have e2:=(TB _ hb'.2.1).1;exact LV _ (by simp;omega) (by simp;omega) (by simp;omega)
   have ES:cO w2 G (mkd f' ts):=(ah HR2).same (hg2.block _ (ah HR2).1 (by simp));have Yl:G<wr.heap.size:=(ah HR2).1;have hseq:=zL 4 (by omega) wr.heap.size G ts.length w2.heap.size (mkd f' ts) w2 (ac2 _) (by rw[aW];omega) (by rw[aW];exact hX2) ES hvm;rw[aW]at hseq;rw[hw2];have TA:wr.heap.size+1<=w2.heap.size:=(by omega);obtain⟨es0,cl0,VY⟩:=(ah RD).yx;have hblt:b<wr.heap.size:=(ac0.1 VY).1;have acg:w.heap.size+1<wr.heap.size:=(ac0.1 (ah RD).x1).1;have hDlt:∀D∈Ds,D<w2.heap.size:=λD hD=>by have:=(ac0.1 ((ah RD).ds D hD)).1;omega
   have hbG:b≠G:=λe=>by
    by_cases h0:ts.length=0
    ·have:=(ah HR2).1;obtain⟨p,hp,_⟩:∃p∈bg (mkd f' ts) ts.length,f' p.1≠f' p.2:=ag1 λhn=>(ah Rz) (λp hp=>ag1 λh=>hn ⟨p,hp,h⟩);have:=(Gw p hp).1;omega
    ·have h1:=((ah HR2).2 0 (by rw[aW];omega)).1;rw[<-e]at h1;simp[World.cell?,VY]at h1
   clear hw2 hX2 ES hvm hs2 HR2 hg2 VY RD RI HCL;have HRO:=aj TB;have HP:Hid (∀p∈(bg (mkd f' ts) ts.length),p.1<ts.length/\p.2<ts.length):=λp hp=>Gw p hp;have HDL:=aj hDlt;have hown:OwnFrom w2.heap.size (fun(k:Nat) W=>CL w ts (iL f' ((bg (mkd f' ts) ts.length).take k)) b GT GC GP nc np Ds W/\w2.heap.size<=W.heap.size):=λk W W' row h hg hr=>⟨h.1.keep hg (by omega) (by omega) (ah HDL) hr,ae4 h.2 hg.size⟩;have rD:OwnFrom w2.heap.size (fun(_:Unit) (_:World)=>False):=λk W W' row h hg hr=>h;clear TB hDlt;refine dW rfl (by omega) rfl trivial (λ_ _=>by simp[go_sem]) hseq KA.trans ?_ (af5 _ _) ?_ _ (λ_=>False) hown rD ⟨YO,ac2 _⟩
    (λk a' W=>∃hk:k<(bg (mkd f' ts) ts.length).length,a'={tmps:=#[.agg #[.slice (some ⟨GT,0,none⟩) ts.length ts.length,.slice (some ⟨GC,0,none⟩) nc nc,.slice (some ⟨GP,0,none⟩) np np],.map (some b),.pointer (some ⟨w.heap.size,0,none⟩),.pointer (some ⟨w.heap.size+1,0,none⟩),
     .int .i64 ((bg (mkd f' ts) ts.length)[k]).1,.int .i64 ((bg (mkd f' ts) ts.length)[k]).2,.agg #[.slice (some ⟨GT,0,none⟩) ts.length ts.length,.slice (some ⟨GC,0,none⟩) nc nc,.slice (some ⟨GP,0,none⟩) np np],.map (some b),.bool false,.bool true,.agg #[.slice (some ⟨GT,0,none⟩) ts.length ts.length,.slice (some ⟨GC,0,none⟩) nc nc,.slice (some ⟨GP,0,none⟩) np np],.map (some b),.slice (some ⟨G,0,none⟩) ts.length ts.length,.func (.func 127) #[] #[.pointer (some ⟨wr.heap.size,0,none⟩)],.int .i64 ((bg (mkd f' ts) ts.length)[k]).1,.int .i64 ((bg (mkd f' ts) ts.length)[k]).2,u16,u17,u18,u19],defers:=[]}) ?own ?assign ?body ?done ?stop
   ·intro W l o o' hlw ho hc hwk;refine⟨λj x hj hx hxc=>(ae6 (λe=>?_)).trans hx,ae6 (by omega),ae6 (by omega)⟩;subst e;rw[ho]at hx;cases hx;rcases hxc with h|h
    ·rw[hc]at h;cases h
    ·rw[hwk]at h;cases h
   ·intro k hk;simp
   case own=>
    rintro k a' ⟨⟩ W W' row h hg hr;exact h
   case assign=>
    intro l k hk W K hI hK;have hk':k<(bg (mkd f' ts) ts.length).length:=(by simpa using hk);have e1:((bg (mkd f' ts) ts.length).map λp:Nat×Nat=>#[Value.int .i64 p.1,Value.int .i64 p.2])[k]'hk=#[.int .i64 ((bg (mkd f' ts) ts.length)[k]).1,.int .i64 ((bg (mkd f' ts) ts.length)[k]).2]:=(by simp);rw[e1];have hK2:=hK _ W ((aq3 _).from _) ⟨λj o hj ho hc=>ho,rfl,rfl⟩ hI ⟨hk',rfl⟩;clear hK;generalize (bg (mkd f' ts) ts.length)[k]=pr at hK2 ⊢
    gi_wp2
    exact hK2
   case body=>
    rintro l k a' W hk hl' ⟨hI,hsW⟩ ⟨hk',rfl⟩;have hx1:W.cell? ⟨w.heap.size+1,0,none⟩=some (.map (some b)):=(by rw[cell_of hI.x1];rfl);have hpm:=ah HP _ (ac4 hk');have hrk:iK (iL f' ((bg (mkd f' ts) ts.length).take k)) ts.length:=(ah HRO).iL (λp hp=>(ah HP p (ao4 hp)).1);have hjn:=hI.join hrk hl hpm.1 hpm.2;have htk:=MB (f:=f') hk';have fH:=aj htk;clear hI htk YO hown rD hseq hrk;generalize (bg (mkd f' ts) ts.length)[k]=pr at hjn fH hpm ⊢;obtain⟨x,y⟩:=pr;simp only at hjn hpm fH ⊢
    gi_wp2
    refine⟨trivial,ar0 l (af9.2 (hjn.mono ?_))⟩;rintro e w3 ⟨⟨v3,rfl⟩,YN,hg3⟩;have abx:=aj YN;have HG3:=aj hg3;clear YN hg3 hjn
    gi_wp2
    have hg3:=ah HG3;have hkp:∀(j:Nat),j≠b->j<W.heap.size->w3.heap[j]?=W.heap[j]?:=λj hj hl=>hg3.block j hl (λe=>hj (by cases e;rfl));refine⟨⟨hg3.size,λj o hj ho hc=>(hkp j (by omega) (ac0.1 ho).1).trans ho⟩,⟨λj o hj ho hc=>(hkp j (by omega) (ac0.1 ho).1).trans ho,?_,?_⟩,?_⟩
    ·exact hkp _ (by omega) (by omega)
    ·exact hkp _ (λe=>hbG e.symm) (by omega)
    ·refine⟨?_,ae4 hsW hg3.size⟩
     show CL w ts (iL f' ((bg (mkd f' ts) ts.length).take (k+1))) b GT GC GP nc np Ds w3
     rw[ah fH];exact ah abx
   case done=>
    rintro D W hD ⟨hI,hsW⟩ hdef;rw[aj7,ai1]at hI
    gi_wp2
    refine⟨⟨_,_,_,_,_,_,_,_,_,_,_,_,_,_,_,_,iL f' (bg (mkd f' ts) ts.length),D::Ds,rfl,⟨hI.m,hI.but,hI.x0,hI.x1,λE hE=>?_,λE hE=>?_⟩,(ah hC0).step (ah HT),?_,?_⟩,?_⟩
    ·rcases ah0.1 hE with e|hE
     ·rw[e];exact hdef
     ·exact hI.ds E hE
    ·rcases ah0.1 hE with e|hE
     ·rw[e];omega
     ·exact hI.lo E hE
    ·exact List.nodup_cons.2 ⟨λhm=>by have:=ah HDL D hm;omega,ah hDn⟩
    ·have h1:=vX (ah HRO) (ah HP) (ag1 λhn=>(ah Rz) (λp hp=>ag1 λh=>hn ⟨p,hp,h⟩));have h2:=ah hrt
     show rts (iL f' (bg (mkd f' ts) ts.length)) ts.length+(D::Ds).length<=rts f ts.length
     simp only[ac9];omega
    ·have h1:=vX (ah HRO) (ah HP) (ag1 λhn=>(ah Rz) (λp hp=>ag1 λh=>hn ⟨p,hp,h⟩));have h2:rts f' ts.length+Ds.length<=rts f ts.length:=ah hrt;have h3:=Vl f ts.length;simp only[ac9,aj7];omega
   case stop=>
    intro D W hD hI hdef;exact hI.elim
end Go.Proofs.YthcppbmkacbbiaaGreat
