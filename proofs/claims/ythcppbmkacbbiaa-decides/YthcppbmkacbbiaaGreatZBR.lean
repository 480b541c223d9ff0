import Derived.Test.YthcppbmkacbbiaaGreatRows
import Derived.Test.YthcppbmkacbbiaaGreatZBQ
import Derived.OpenShut
import Derived.ShutString
import Derived.ChangeOld
import Derived.Lib.SmallJoins
import Derived.Deep.Slices
set_option linter.unusedSimpArgs false
set_option maxHeartbeats 4000000
set_option maxRecDepth 100000
namespace Go.Proofs.YthcppbmkacbbiaaGreat
open Go.Proofs.Tryz
section
open Go.ChangeShapes Go.WideShapes Go.ChangeAt Go.RowKit
open Go.ChangeMaps (open_string shut_string)
theorem acJ:ownKnob prog.godebug=none:=by kernel_rfl
theorem Tn:laidOutB prog=true:=by kernel_rfl
theorem Nz:prog.cellsOf 48=4:=by kernel_rfl
theorem Qi:prog.cellsOf 3=1:=by kernel_rfl
theorem Qh:prog.cellsOf 9=1:=by kernel_rfl
def Cb(w:World)(v:Value):Prop:=
 (∃ao cap,v=.slice ao 0 cap)\/
 ∃(b off len cap:Nat) (K Nn:Nat->Int) (S Tt:Nat->ByteArray),v=.slice (some ⟨b,off,none⟩) len cap/\b<w.heap.size/\len<=maxLen/\
  ∀i,i<len->(S i).size<=maxLen/\(Tt i).size<=maxLen/\w.cell? ⟨b,off+i*4,none⟩=some (.int .i64 (K i))/\w.cell? ⟨b,off+i*4+1,none⟩=some (.int .i64 (Nn i))/\
   w.cell? ⟨b,off+i*4+2,none⟩=some (.string (S i))/\w.cell? ⟨b,off+i*4+3,none⟩=some (.string (Tt i))
theorem WL{H:Type}{enc:TypeId×Value->H}{w:World}{spare:Nat->Bool}{held:Bool}{n:Nat}{cs:List Value}{x:DataW H×List MemPlace}{a:Addr}
 (hc:w.cells? 0 a 4=some cs)(h:DataW.trod enc prog w 0 spare held n 48 cs=some x) :
  ∃(k m:Int) (s t:ByteArray),s.size<=maxLen/\t.size<=maxLen/\w.cell? (a.add 0)=some (.int .i64 k)/\w.cell? (a.add 1)=some (.int .i64 m)/\w.cell? (a.add 2)=some (.string s)/\w.cell? (a.add 3)=some (.string t):=by
 obtain⟨y0,y1,y2,y3,n',_,hl,h0,h1,h2,h3⟩:=Go.Joins.trod_struct4 underlying48 h;rw[Nz]at hl;simp only[Qi,Qh]at h0 h1 h2 h3
 match cs,hl with
 |[c0,c1,c2,c3],_=>
  obtain⟨k,e0,_,_⟩:=DataW.trod_int underlying3 h0;obtain⟨m,e1,_,_⟩:=DataW.trod_int underlying3 h1;obtain⟨s,e2,_,hs⟩:=DataW.trod_string underlying9 h2;obtain⟨t,e3,_,ht⟩:=DataW.trod_string underlying9 h3;simp at e0 e1 e2 e3;subst e0 e1 e2 e3;have hh:=(World.cells?_some hc).2.2;exact⟨k,m,s,t,hs,ht,by simpa using hh 0 (by omega),by simpa using hh 1 (by omega),by simpa using hh 2 (by omega),by simpa using hh 3 (by omega)⟩
theorem VF(b off i:Nat):(⟨b,off,none⟩:Addr).add i=⟨b,off+i,none⟩:=by
 unfold Addr.add;split
 ·rename_i h;subst h;rfl
 ·rfl
theorem open_script{H:Type}{enc:TypeId×Value->H}{w:World}{ao:Option Addr}{len cap:Nat}{d:DataW H}{ps:List MemPlace}(h:DataW.Trod enc prog w 0 (λ_=>true) true 22 (.slice ao len cap) d ps) :
  Cb w (.slice ao len cap):=by
 by_cases h0:len=0
 ·subst h0;exact Or.inl ⟨_,_,rfl⟩
 ·obtain⟨fuel,hf⟩:=h;rcases Go.Deep.open_slice underlying22 hf with⟨hcs,_⟩|⟨a,len',cap',m,n,D,Pl,hcs,_,hl,hm,hmm,_,hx⟩
  ·simp[Value.cells]at hcs;exact absurd hcs.2.1 h0
  ·simp[Value.cells]at hcs;obtain⟨rfl,rfl,rfl⟩:=hcs;have hmc:m=cap:=(by simpa using hmm);subst hmc;rw[Nz]at hx;have hall:∀i,i<len->∃(k q:Int) (s t:ByteArray),s.size<=maxLen/\t.size<=maxLen/\w.cell? ((a.add (i*4)).add 0)=some (.int .i64 k)/\w.cell? ((a.add (i*4)).add 1)=some (.int .i64 q)/\w.cell? ((a.add (i*4)).add 2)=some (.string s)/\w.cell? ((a.add (i*4)).add 3)=some (.string t):=λi hi=>by
    obtain⟨cs',h1,h2⟩:=hx i (by omega);exact WL h1 h2
   obtain⟨b,off,spot⟩:=a;obtain⟨k0,q0,s0,t0,_,_,hc0,_⟩:=hall 0 (by omega);have hspot:spot=none:=(by simpa[Addr.add]using World.cell?_spot hc0);subst hspot;have hb:b<w.heap.size:=(by simpa[Addr.add]using World.block_lt_of_cell? w _ hc0);simp only[VF]at hall;have Ig:∀i,∃(y:Int×Int×ByteArray×ByteArray),i<len->y.2.2.1.size<=maxLen/\y.2.2.2.size<=maxLen/\w.cell? ⟨b,off+i*4,none⟩=some (.int .i64 y.1)/\w.cell? ⟨b,off+i*4+1,none⟩=some (.int .i64 y.2.1)/\
     w.cell? ⟨b,off+i*4+2,none⟩=some (.string y.2.2.1)/\w.cell? ⟨b,off+i*4+3,none⟩=some (.string y.2.2.2):=λi=>by
    by_cases hi:i<len
    ·obtain⟨k,q,s,t,g1,g2,g3,g4,g5,g6⟩:=hall i hi;exact⟨(k,q,s,t),λ_=>⟨g1,g2,by simpa using g3,by simpa using g4,by simpa using g5,by simpa using g6⟩⟩
    ·exact⟨(0,0,ByteArray.empty,ByteArray.empty),λh=>absurd h hi⟩
   exact Or.inr ⟨b,off,len,_,λi=>(Ig i).choose.1,λi=>(Ig i).choose.2.1,λi=>(Ig i).choose.2.2.1,λi=>(Ig i).choose.2.2.2,rfl,hb,by omega,λi hi=>(Ig i).choose_spec hi⟩
theorem QT(lo hi:Int)(hp:LX lo hi)(w:World)(v:Value)(h:Cb w v) :
  Calls prog 15 #[v,.int .i64 lo,.int .i64 hi] w λe w'=>e=.returned (.int .i64 (-1))/\Below w.heap.size w w':=by
 rcases h with⟨ao,cap,rfl⟩|⟨b,off,len,cap,K,Nn,S,Tt,rfl,hb,hm,hx⟩
 ·exact NY lo hi w ao cap
 ·exact NW lo hi hp w b off len cap K Nn S Tt hb (by unfold maxLen at hm;omega) (λi h=>(hx i h).1) (λi h=>(hx i h).2.1) (λi h=>(hx i h).2.2.1) (λi h=>(hx i h).2.2.2.1) (λi h=>(hx i h).2.2.2.2.1) (λi h=>(hx i h).2.2.2.2.2)
end
open Go.RowKit Go.Maps Go.WideMaps
open au (Key put)
attribute [local go_sem] Oper.semAt_some
structure X5(ts:List Key)(f f':Nat->Nat):Prop where
 roots:ji f' ts.length
 ker:∀a b,f a=f b->f' a=f' b
 least:∀R:Nat->Nat->Prop,Eqv R->NK R ts->(∀a b,a<ts.length->b<ts.length->f a=f b->R a b)->∀a b,a<ts.length->b<ts.length->f' a=f' b->R a b
theorem X5.start{ts:List Key}{f:Nat->Nat}(h:ji f ts.length):X5 ts f f:=⟨h,λ_ _ e=>e,λ_ _ _ h=>h⟩
theorem Jt{f:Nat->Nat}{ts:List Key}:∀p∈dJ (mkd f ts) ts.length,p.1<ts.length/\p.2<ts.length:=λp hp=>by
 have h:=(ru (mkd f ts) ts.length (by rw[aZ];exact af0 _) p).1 hp;exact⟨by omega,h.1⟩
theorem X5.step{ts:List Key}{f f':Nat->Nat}(h:X5 ts f f')(ht:∀i (hi:i<ts.length),ts[i].2.1<ts.length/\ts[i].2.2<ts.length):X5 ts f (jk f' (dJ (mkd f' ts) ts.length)):=by
 refine⟨h.roots.jk (λp hp=>(Jt p hp).1),λa b e=>Hl (h.ker a b e),λR hR hC hf=>?_⟩;have h2:=h.least R hR hC hf;exact Et hR (λp hp=>RX hC ht h2 p hp) h2
theorem X5.closed{ts:List Key}{f f':Nat->Nat}(h:X5 ts f f')(hc:yt f' ts):Closed ts f f':=⟨h.roots,hc,h.ker,h.least⟩
theorem Gq{n:Nat}{l:List (Nat×Nat)}:∀{f:Nat->Nat},ji f n->(∀p∈l,p.1<n/\p.2<n)->rts (jk f l) n<=rts f n:=by
 induction l with
 |nil=>intro f _ _;exact af0 _
 |cons p l ih=>
  intro f h hl;have h1:=hl p (by simp);have h2:=ih (h.oV (j:=p.2) h1.1) (λq hq=>hl q (by simp[hq]));have h3:=Jk h h1.1 h1.2;exact ah2 h2 h3
theorem xK{n:Nat}{l:List (Nat×Nat)}:∀{f:Nat->Nat},ji f n->(∀p∈l,p.1<n/\p.2<n)->(∃p∈l,f p.1≠f p.2)->rts (jk f l) n+1<=rts f n:=by
 induction l with
 |nil=>intro f _ _ ⟨p,hp,_⟩;cases hp
 |cons p l ih=>
  intro f h hl ⟨q,hq,hne⟩;have h1:=hl p (by simp);have h2:∀q∈l,q.1<n/\q.2<n:=λq hq=>hl q (by simp[hq]);by_cases e:f p.1=f p.2
  ·have e1:jk f (p::l)=jk f l:=by
    show jk (oV f p.1 p.2) l=jk f l
    rw[qH e]
   rw[e1];rcases aj8.1 hq with e2|hq
   ·subst e2;exact absurd e hne
   ·exact ih h h2 ⟨q,hq,hne⟩
  ·have h3:=Gq (h.oV (j:=p.2) h1.1) h2;have h4:=yL h h1.1 h1.2 e
   show rts (jk (oV f p.1 p.2) l) n+1<=rts f n
   omega
theorem jE.aav{W:World}{b n c:Nat}{f:Nat->Nat}(h:jE W b f n c):∃o:Obj,W.heap[b]?=some o/\∀c t fz,o≠.cells c t fz:=by
 obtain⟨g,d,⟨D,nn,_,⟨es,clock,h1,_⟩,_⟩,_⟩:=h;exact⟨_,h1,λ_ _ _ e=>by cases e⟩
def mkD(D:Nat):Deferred:={target:=.collected D,args:=#[]}
theorem xP{F:Fence}{n:Nat}{P:Program}{fn:Func}{tmps:Array Value}{R:Ending->World->Prop}:∀(Ds:List Nat) (W:World),Ds.Nodup->(∀D∈Ds,W.heap[D]?=some (.deferred (some [])))->
  (∀W',But (λk=>k∈Ds) W W'->LeavesInM F n P fn tmps R [] .returning W')->LeavesInM F n P fn tmps R (Ds.map mkD) .returning W
 |[],W,_,_,h=>h W (But.refl _ _)
 |D::Ds,W,hn,hd,h=>by
  have hn':=List.nodup_cons.1 hn;refine⟨by simp,.inl ⟨D,W.putObj D (.deferred none),rfl,al9 (hd D (by simp)),?_⟩⟩;have hb:But (λk=>some k=some D) W (W.putObj D (.deferred none)):=But.aB (an0 _ D _);refine xP Ds _ hn'.2 (λE hE=>?_) (λW' hW'=>h W' ?_)
  ·have hne:E≠D:=λe=>hn'.1 (e▸hE);rw[ah5 hne];exact hd E (by simp[hE])
  ·exact(hb.mono (λk _ e=>by cases e;simp)).trans (hW'.mono (λk _ e=>by simp[e]))
structure CL(w:World)(ts:List Key)(f':Nat->Nat)(b GT GC GP nc np:Nat)(Ds:List Nat)(W:World):Prop where
 m:∃c,jE W b f' ts.length c/\c+rts f' ts.length<=ts.length
 but:But (λk=>k=b) w W
 x0:W.heap[w.heap.size]?=some (.cells #[.slice (some ⟨GT,0,none⟩) ts.length ts.length,.slice (some ⟨GC,0,none⟩) nc nc,.slice (some ⟨GP,0,none⟩) np np] 54 (0,0))
 x1:W.heap[w.heap.size+1]?=some (.cells #[.map (some b)] 98 (0,0))
 ds:∀D∈Ds,W.heap[D]?=some (.deferred (some []))
 lo:∀D∈Ds,w.heap.size<=D
theorem CL.grow{w:World}{ts:List Key}{f':Nat->Nat}{b GT GC GP nc np:Nat}{Ds:List Nat}{W W':World}(h:CL w ts f' b GT GC GP nc np Ds W)(hg:W.grownBy W' none):CL w ts f' b GT GC GP nc np Ds W':=by
 obtain⟨c,h1,h2⟩:=h.m;have k:∀(j:Nat) (o:Obj),W.heap[j]?=some o->W'.heap[j]?=some o:=λj o hj=>(hg.block j (ae8.1 hj).1 (by simp)).trans hj;exact⟨⟨c,h1.kept (hg.block b h1.lt (by simp)),h2⟩,h.but.then (But.aB hg) (λi _ e=>by cases e),k _ _ h.x0,k _ _ h.x1,λD hD=>k _ _ (h.ds D hD),h.lo⟩
theorem CL.keep{w:World}{ts:List Key}{f':Nat->Nat}{b GT GC GP nc np:Nat}{Ds:List Nat}{W W':World}{row:Option Nat}{B:Nat}(h:CL w ts f' b GT GC GP nc np Ds W)(hg:W.grownBy W' row)(hb:b<B)(hw:w.heap.size+1<B)(hD:∀D∈Ds,D<B)
 (hr:∀r,row=some r->B<=r/\∃o:Obj,W.heap[r]?=some o/\o.isCells=false):CL w ts f' b GT GC GP nc np Ds W':=by
 obtain⟨c,h1,h2⟩:=h.m;have k:∀j,j<B->j<W.heap.size->W'.heap[j]?=W.heap[j]?:=λj hj hl=>hg.block j hl (λe=>by have:=(hr j e.symm).1;omega);refine⟨⟨c,h1.kept (k b hb h1.lt),h2⟩,h.but.then (But.aB hg) (λi hi e=>?_),(k _ (by omega) (ae8.1 h.x0).1).trans h.x0,(k _ hw (ae8.1 h.x1).1).trans h.x1,λD hD'=>(k _ (hD D hD') (ae8.1 (h.ds D hD')).1).trans (h.ds D hD'),h.lo⟩;have:=(hr i e.symm).1;omega
theorem CL.zM{w:World}{ts:List Key}{f':Nat->Nat}{b GT GC GP nc np:Nat}{Ds:List Nat}{W:World}(h:CL w ts f' b GT GC GP nc np Ds W):∃es cl,W.heap[b]?=some (.map es cl):=by
 obtain⟨c,⟨g,d,⟨D,nn,_,⟨es,clock,h1,_⟩,_⟩,_⟩,_⟩:=h.m;exact⟨es,clock,h1⟩
theorem CL.join{w:World}{ts:List Key}{f':Nat->Nat}{b GT GC GP nc np:Nat}{Ds:List Nat}{W:World}(h:CL w ts f' b GT GC GP nc np Ds W)(hr:ji f' ts.length)(hn:ts.length<=7){i j:Nat}(hi:i<ts.length)(hj:j<ts.length) :
  Calls prog 126 #[.map (some b),.int .i64 i,.int .i64 j] W λe W'=>(∃v,e=.returned v)/\CL w ts (oV f' i j) b GT GC GP nc np Ds W'/\W.grownBy W' (some b):=by
 obtain⟨c,h1,h2⟩:=h.m;obtain⟨es,cl,hb⟩:=h.zM;refine(Hg W b ts.length c f' i j h1 hi hj (by omega) (by omega)).mono ?_;rintro e W' ⟨he,hg,hc⟩;have k:∀(j:Nat) (o:Obj),W.heap[j]?=some o->(∀es cl,o≠.map es cl)->W'.heap[j]?=some o:=λj o hj hne=>(hg.block j (ae8.1 hj).1 (λe=>by
  cases e;rw[hb]at hj;cases hj;exact hne _ _ rfl)).trans hj
 refine⟨he,⟨⟨_,hc,?_⟩,h.but.then (But.aB hg) (λi _ e=>by cases e;rfl),k _ _ h.x0 (λ_ _ e=>by cases e),k _ _ h.x1 (λ_ _ e=>by cases e),λD hD=>k _ _ (h.ds D hD) (λ_ _ e=>by cases e),h.lo⟩,hg⟩;by_cases e:f' i=f' j
 ·rw[af9 e,qH e];exact h2
 ·rw[af6 e];have:=yL hr hi hj e;omega
theorem Pn{f:Nat->Nat}{l:List (Nat×Nat)}{k:Nat}(hk:k<l.length):jk f (l.take (k+1))=oV (jk f (l.take k)) l[k].1 l[k].2:=by
 rw[ai4,af2 hk]
 show jk f (l.take k++[l[k]])=_
 rw[DK]
theorem close_any(GT GC GP nc np b c0:Nat)(f:Nat->Nat)(ts:List Key)(w:World)(hl:ts.length<=7)(hrt:dU w GT ts)(hi:au.Inv ts)(hM:jE w b f ts.length c0)(hc0:c0+rts f ts.length<=ts.length)(hro:ji f ts.length)(ht:∀i (hi:i<ts.length),ts[i].2.1<ts.length/\ts[i].2.2<ts.length) :
  Calls prog 96 #[fv GT GC GP ts.length nc np,.map (some b)] w λe w'=>(∃v,e=.returned v)/\∃f',Closed ts f f'/\(∃c,jE w' b f' ts.length c/\c+rts f' ts.length<=ts.length)/\w.grownBy w' (some b):=by
 refine(ai9 (n:=5)).1 ?_;have hbl:=hM.lt;have hgt:=hrt.1;have abM:GT≠b\/ts.length=0:=by
  by_cases h0:ts.length=0
  ·exact Or.inr h0
  ·refine Or.inl (λe=>?_);obtain⟨g,d,⟨D,nn,_,⟨es,clock,h1,_⟩,_⟩,_⟩:=hM;have h2:=(hrt.2 0 (by omega)).1;rw[e]at h2;simp[World.cell?,h1]at h2
 have aaT:Hid (∀W,But (λk=>k=b) w W->dU W GT ts):=λW hW=>by
  refine⟨ah4 hgt hW.size,λi hi'=>?_⟩;have hne:GT≠b:=abM.resolve_right (by omega);have hbk:=hW.block GT hgt hne;exact⟨(ag2 hbk).trans (hrt.2 i hi').1,(ag2 hbk).trans (hrt.2 i hi').2.1,(ag2 hbk).trans (hrt.2 i hi').2.2⟩
 have HMD:Hid (∀(W:World) (f':Nat->Nat) (Ds:List Nat),CL w ts f' b GT GC GP nc np Ds W->ji f' ts.length->Calls prog 79 #[fv GT GC GP ts.length nc np,.map (some b)] W λe w'=>∃G,e=.returned (.slice (some ⟨G,0,none⟩) ts.length ts.length)/\W.heap.size<=G/\dU w' G (mkd f' ts)/\Below W.heap.size W w'):=λW f' Ds h hr=>by
  obtain⟨c,h1,h2⟩:=h.m;exact GU GT GC GP nc np b c f' ts W hl (ah aaT W h.but) hi (λi hi=>(hr i hi).1) h1
 have HCG:Hid (∀(W:World) (f':Nat->Nat) (Ds:List Nat),CL w ts f' b GT GC GP nc np Ds W->ji f' ts.length->Calls prog 48 #[fv GT GC GP ts.length nc np,.map (some b)] W λe w'=>e=.returned (.bool (decide (∀p∈dJ (mkd f' ts) ts.length,f' p.1=f' p.2)))/\Below W.heap.size W w'):=λW f' Ds h hr=>by
  obtain⟨c,h1,h2⟩:=h.m;exact CZ GT GC GP nc np b c f' ts W hl (ah aaT W h.but) hi (λi hi=>(hr i hi).1) h1
 unfold fv at HMD HCG ⊢;refine al4 func96 rfl trivial ?_ rfl;simp only[ntmps96,ag3,ag0,ah0,Nat.reduceAdd,Nat.reduceSub,af8,af7,ag5,ai1,ag9,ag7]
 gi_wp2
 obtain⟨wb,hwb⟩:∃wb,(w.alloc (.cells #[.slice (some ⟨GT,0,none⟩) ts.length ts.length,.slice (some ⟨GC,0,none⟩) nc nc,.slice (some ⟨GP,0,none⟩) np np] 54)).alloc (.cells #[.map (some b)] 98)=wb:=⟨_,rfl⟩;have hgb:w.grownBy wb none:=by rw[<-hwb];exact(ae9 _ _ none).trans (ae9 _ _ none)
 have hcl0:CL w ts f b GT GC GP nc np [] wb:=by
  refine⟨⟨c0,hM.kept (hgb.block b hbl (by simp)),hc0⟩,(But.aB hgb).mono (λk _ e=>by cases e),?_,?_,λD hD=>(by cases hD),λD hD=>(by cases hD)⟩
  ·rw[<-hwb,ag1 _ _ _ (by simp),ag4]
  ·rw[<-hwb];have:=ag4 (w.alloc (.cells #[.slice (some ⟨GT,0,none⟩) ts.length ts.length,.slice (some ⟨GC,0,none⟩) nc nc,.slice (some ⟨GP,0,none⟩) np np] 54)) (.cells #[.map (some b)] 98);simpa using this
 rw[hwb];clear hwb hgb;have HT:=aj ht;have HI:=aj hi;have HST:=aj (X5.start hro);clear ht hi hM hrt hro abM;refine wpIn_loop (λa W=>∃(u4 u5 u6 u7 u8 u9 u10 u11 u12 u13 u14 u15 u16 u17 u18 u19:Value) (f':Nat->Nat) (Ds:List Nat),a={tmps:=#[.agg #[.slice (some ⟨GT,0,none⟩) ts.length ts.length,.slice (some ⟨GC,0,none⟩) nc nc,.slice (some ⟨GP,0,none⟩) np np],.map (some b),.pointer (some ⟨w.heap.size,0,none⟩),.pointer (some ⟨w.heap.size+1,0,none⟩),u4,u5,u6,u7,u8,u9,u10,u11,u12,u13,u14,u15,u16,u17,u18,u19],defers:=Ds.map mkD}/\
   CL w ts f' b GT GC GP nc np Ds W/\Hid (X5 ts f f')/\Hid Ds.Nodup/\Hid (rts f' ts.length+Ds.length<=rts f ts.length)) (λa _=>ts.length+1-a.defers.length) ?start ?round
 case start=>exact⟨_,_,_,_,_,_,_,_,_,_,_,_,_,_,_,_,f,[],rfl,hcl0,HST,aq8,af0 _⟩
 case round=>
  rintro _ W ⟨u4,u5,u6,u7,u8,u9,u10,u11,u12,u13,u14,u15,u16,u17,u18,u19,f',Ds,rfl,hcl,hC0,hDn,hrt⟩;have hx1:W.cell? ⟨w.heap.size+1,0,none⟩=some (.map (some b)):=by rw[cell_of hcl.x1];rfl
  have q0:W.cell? ⟨w.heap.size,0,none⟩=some (.slice (some ⟨GT,0,none⟩) ts.length ts.length):=by rw[cell_of hcl.x0];rfl
  have q1:W.cell? ⟨w.heap.size,1,none⟩=some (.slice (some ⟨GC,0,none⟩) nc nc):=by rw[cell_of hcl.x0];rfl
  have q2:W.cell? ⟨w.heap.size,2,none⟩=some (.slice (some ⟨GP,0,none⟩) np np):=by rw[cell_of hcl.x0];rfl
  have hcg:=ah HCG W f' Ds hcl (ah hC0).roots;have HCL:=aj hcl;clear hcl0 hcl;by_cases xU:∀p∈dJ (mkd f' ts) ts.length,f' p.1=f' p.2
  ·rw[ar7 xU]at hcg;have VP:=aj xU;clear xU
   gi_wp2
   refine⟨trivial,(ai9.2 hcg).mono ?_⟩;rintro e w1 ⟨rfl,hb1⟩;have mQ:=(ah HCL).grow (dF hb1);have VR:=aj mQ;clear hcg mQ hb1
   gi_wp2
   refine xP Ds w1 (ah hDn) (ah VR).ds (λW' hW'=>?_);have mQ:=ah VR;obtain⟨c,hm1,hm2⟩:=mQ.m;obtain⟨es,cl,hbm⟩:=mQ.zM;have hbD:b∉Ds:=λhm=>by
    have:=mQ.ds b hm;rw[hbm]at this;cases this
   refine⟨.tuple #[],by simp[results,results96,go_sem],⟨_,rfl⟩,f',(ah hC0).closed (ah VP),⟨c,hm1.kept (hW'.block b hm1.lt hbD),hm2⟩,?_⟩;refine⟨hW'.os.trans mQ.but.os,hW'.tape.trans mQ.but.tape,hW'.output.trans mQ.but.output,ah2 mQ.but.size hW'.size,λj hj hn=>?_⟩;have hjD:j∉Ds:=λhm=>by have:=mQ.lo j hm;omega
   exact(hW'.block j (ah4 hj mQ.but.size) hjD).trans (mQ.but.block j hj (λe=>hn (by rw[e])))
  ·rw[aq1 xU]at hcg;have VP:=aj xU;clear xU
   gi_wp2
   refine⟨trivial,(ai9.2 hcg).mono ?_⟩;rintro e w1 ⟨rfl,hb1⟩;have mQ:=(ah HCL).grow (dF hb1);have acO:w1.cell? ⟨w.heap.size+1,0,none⟩=some (.map (some b)):=(by rw[cell_of mQ.x1];rfl);have q0':w1.cell? ⟨w.heap.size,0,none⟩=some (.slice (some ⟨GT,0,none⟩) ts.length ts.length):=(by rw[cell_of mQ.x0];rfl);have q1':w1.cell? ⟨w.heap.size,1,none⟩=some (.slice (some ⟨GC,0,none⟩) nc nc):=(by rw[cell_of mQ.x0];rfl);have q2':w1.cell? ⟨w.heap.size,2,none⟩=some (.slice (some ⟨GP,0,none⟩) np np):=(by rw[cell_of mQ.x0];rfl);have hmd:=ah HMD w1 f' Ds mQ (ah hC0).roots;have VR:=aj mQ;clear hcg mQ hb1 hx1 q0 q1 q2
   gi_wp2
   refine⟨trivial,(ai9.2 hmd).mono ?_⟩;rintro e wr ⟨G,rfl,adB,JX,hb2⟩;have abw:=(ah VR).grow (dF hb2);have VQ:=aj abw;have HR2:=aj JX;clear hmd abw hb2 JX acO q0' q1' q2'
   gi_wp2
   refine⟨trivial,(ai9.2 (BJ (some ⟨G,0,none⟩) ts.length ts.length wr)).mono ?_⟩;rintro e w2 ⟨rfl,rfl⟩
   gi_wp2
   obtain⟨w2,hw2⟩:∃w2,wr.alloc (.cells #[.slice (some ⟨G,0,none⟩) ts.length ts.length] 50)=w2:=⟨_,rfl⟩;have hg2:wr.grownBy w2 none:=(by rw[<-hw2];exact ae9 _ _ none);have hs2:w2.heap.size=wr.heap.size+1:=(by rw[<-hw2];simp);have hX2:w2.cell? ⟨wr.heap.size,0,none⟩=some (.slice (some ⟨G,0,none⟩) ts.length ts.length):=(by rw[<-hw2];simp[go_sem]);have Ic:=(ah VQ).grow hg2;have Xd:=(ah hC0).roots;have hvm:∀x∈mkd f' ts,∃l,keyOf prog 87 (bD x)=some l:=by
    intro x hx;obtain⟨q,hq,rfl⟩:=ah3.1 hx;obtain⟨i,hi,rfl⟩:=aj2 hq;have hkey:=(ah HI).key i hi;have hb':ts[i].2.1<ts.length/\ts[i].2.2<ts.length/\0<=ts[i].1/\ts[i].1<=255:=by
     rcases hkey with⟨_,_,h3,h4⟩|⟨_,h2,h3⟩|⟨_,h2,h3⟩<;>omega
    have e1:=(Xd _ hb'.1).1;have e2:=(Xd _ hb'.2.1).1;exact O6 _ (by simp;omega) (by simp;omega) (by simp;omega)
   have Ho:dU w2 G (mkd f' ts):=(ah HR2).same (hg2.block _ (ah HR2).1 (by simp));have aa1:G<wr.heap.size:=(ah HR2).1;have hseq:=BI 4 (by omega) wr.heap.size G ts.length w2.heap.size (mkd f' ts) w2 (af0 _) (by rw[aZ];omega) (by rw[aZ];exact hX2) Ho hvm;rw[aZ]at hseq;rw[hw2];have aaS:wr.heap.size+1<=w2.heap.size:=(by omega);obtain⟨es0,cl0,Zm⟩:=(ah VQ).zM;have hblt:b<wr.heap.size:=(ae8.1 Zm).1;have aeQ:w.heap.size+1<wr.heap.size:=(ae8.1 (ah VQ).x1).1;have hDlt:∀D∈Ds,D<w2.heap.size:=λD hD=>by have:=(ae8.1 ((ah VQ).ds D hD)).1;omega
   have hbG:b≠G:=λe=>by
    by_cases h0:ts.length=0
    ·have:=(ah HR2).1;obtain⟨p,hp,_⟩:∃p∈dJ (mkd f' ts) ts.length,f' p.1≠f' p.2:=ai0 λhn=>(ah VP) (λp hp=>ai0 λh=>hn ⟨p,hp,h⟩);have:=(Jt p hp).1;omega
    ·have h1:=((ah HR2).2 0 (by rw[aZ];omega)).1;rw[<-e]at h1;simp[World.cell?,Zm]at h1
   clear hw2 hX2 Ho hvm hs2 HR2 hg2 Zm VQ VR HCL;have HRO:=aj Xd;have HP:Hid (∀p∈(dJ (mkd f' ts) ts.length),p.1<ts.length/\p.2<ts.length):=λp hp=>Jt p hp;have HDL:=aj hDlt;have hown:OwnFrom w2.heap.size (fun(k:Nat) W=>CL w ts (jk f' ((dJ (mkd f' ts) ts.length).take k)) b GT GC GP nc np Ds W/\w2.heap.size<=W.heap.size):=λk W W' row h hg hr=>⟨h.1.keep hg (by omega) (by omega) (ah HDL) hr,ah2 h.2 hg.size⟩;have sK:OwnFrom w2.heap.size (fun(_:Unit) (_:World)=>False):=λk W W' row h hg hr=>h;clear Xd hDlt;refine fD rfl (by omega) rfl trivial (λ_ _=>by simp[go_sem]) hseq KA.trans ?_ (ai7 _ _) ?_ _ (λ_=>False) hown sK ⟨Ic,af0 _⟩
    (λk a' W=>∃hk:k<(dJ (mkd f' ts) ts.length).length,a'={tmps:=#[.agg #[.slice (some ⟨GT,0,none⟩) ts.length ts.length,.slice (some ⟨GC,0,none⟩) nc nc,.slice (some ⟨GP,0,none⟩) np np],.map (some b),.pointer (some ⟨w.heap.size,0,none⟩),.pointer (some ⟨w.heap.size+1,0,none⟩),
     .int .i64 ((dJ (mkd f' ts) ts.length)[k]).1,.int .i64 ((dJ (mkd f' ts) ts.length)[k]).2,.agg #[.slice (some ⟨GT,0,none⟩) ts.length ts.length,.slice (some ⟨GC,0,none⟩) nc nc,.slice (some ⟨GP,0,none⟩) np np],.map (some b),.bool false,.bool true,.agg #[.slice (some ⟨GT,0,none⟩) ts.length ts.length,.slice (some ⟨GC,0,none⟩) nc nc,.slice (some ⟨GP,0,none⟩) np np],.map (some b),.slice (some ⟨G,0,none⟩) ts.length ts.length,.func (.func 127) #[] #[.pointer (some ⟨wr.heap.size,0,none⟩)],.int .i64 ((dJ (mkd f' ts) ts.length)[k]).1,.int .i64 ((dJ (mkd f' ts) ts.length)[k]).2,u16,u17,u18,u19],defers:=[]}) ?own ?assign ?body ?done ?stop
   ·intro W l o o' hlw ho hc hwk;refine⟨λj x hj hx hxc=>(ah5 (λe=>?_)).trans hx,ah5 (by omega),ah5 (by omega)⟩;subst e;rw[ho]at hx;cases hx;rcases hxc with h|h
    ·rw[hc]at h;cases h
    ·rw[hwk]at h;cases h
   ·intro k hk;simp
   case own=>
    rintro k a' ⟨⟩ W W' row h hg hr;exact h
   case assign=>
    intro l k hk W K hI hK;have hk':k<(dJ (mkd f' ts) ts.length).length:=(by simpa using hk);have e1:((dJ (mkd f' ts) ts.length).map λp:Nat×Nat=>#[Value.int .i64 p.1,Value.int .i64 p.2])[k]'hk=#[.int .i64 ((dJ (mkd f' ts) ts.length)[k]).1,.int .i64 ((dJ (mkd f' ts) ts.length)[k]).2]:=(by simp);rw[e1];have hK2:=hK _ W ((KeepsOthers.refl _).from _) ⟨λj o hj ho hc=>ho,rfl,rfl⟩ hI ⟨hk',rfl⟩;clear hK;generalize (dJ (mkd f' ts) ts.length)[k]=pr at hK2 ⊢
    gi_wp2
    exact hK2
   case body=>
    rintro l k a' W hk hl' ⟨hI,hsW⟩ ⟨hk',rfl⟩;have hx1:W.cell? ⟨w.heap.size+1,0,none⟩=some (.map (some b)):=(by rw[cell_of hI.x1];rfl);have hpm:=ah HP _ (af4 hk');have hrk:ji (jk f' ((dJ (mkd f' ts) ts.length).take k)) ts.length:=(ah HRO).jk (λp hp=>(ah HP p (ao1 hp)).1);have hjn:=hI.join hrk hl hpm.1 hpm.2;have htk:=Pn (f:=f') hk';have jr:=aj htk;clear hI htk Ic hown sK hseq hrk;generalize (dJ (mkd f' ts) ts.length)[k]=pr at hjn jr hpm ⊢;obtain⟨x,y⟩:=pr;simp only at hjn hpm jr ⊢
    gi_wp2
    refine⟨trivial,CallsIn.inRound l (ai9.2 (hjn.mono ?_))⟩;rintro e w3 ⟨⟨v3,rfl⟩,abx,hg3⟩;have ad9:=aj abx;have HG3:=aj hg3;clear abx hg3 hjn
    gi_wp2
    have hg3:=ah HG3;have hkp:∀(j:Nat),j≠b->j<W.heap.size->w3.heap[j]?=W.heap[j]?:=λj hj hl=>hg3.block j hl (λe=>hj (by cases e;rfl));refine⟨⟨hg3.size,λj o hj ho hc=>(hkp j (by omega) (ae8.1 ho).1).trans ho⟩,⟨λj o hj ho hc=>(hkp j (by omega) (ae8.1 ho).1).trans ho,?_,?_⟩,?_⟩
    ·exact hkp _ (by omega) (by omega)
    ·exact hkp _ (λe=>hbG e.symm) (by omega)
    ·refine⟨?_,ah2 hsW hg3.size⟩
     show CL w ts (jk f' ((dJ (mkd f' ts) ts.length).take (k+1))) b GT GC GP nc np Ds w3
     rw[ah jr];exact ah ad9
   case done=>
    rintro D W hD ⟨hI,hsW⟩ hdef;rw[am3,ak8]at hI
    gi_wp2
    refine⟨⟨_,_,_,_,_,_,_,_,_,_,_,_,_,_,_,_,jk f' (dJ (mkd f' ts) ts.length),D::Ds,rfl,⟨hI.m,hI.but,hI.x0,hI.x1,λE hE=>?_,λE hE=>?_⟩,(ah hC0).step (ah HT),?_,?_⟩,?_⟩
    ·rcases aj8.1 hE with e|hE
     ·rw[e];exact hdef
     ·exact hI.ds E hE
    ·rcases aj8.1 hE with e|hE
     ·rw[e];omega
     ·exact hI.lo E hE
    ·exact List.nodup_cons.2 ⟨λhm=>by have:=ah HDL D hm;omega,ah hDn⟩
    ·have h1:=xK (ah HRO) (ah HP) (ai0 λhn=>(ah VP) (λp hp=>ai0 λh=>hn ⟨p,hp,h⟩));have h2:=ah hrt
     show rts (jk f' (dJ (mkd f' ts) ts.length)) ts.length+(D::Ds).length<=rts f ts.length
     simp only[ag0];omega
    ·have h1:=xK (ah HRO) (ah HP) (ai0 λhn=>(ah VP) (λp hp=>ai0 λh=>hn ⟨p,hp,h⟩));have h2:rts f' ts.length+Ds.length<=rts f ts.length:=ah hrt;have h3:=YJ f ts.length;simp only[ag0,am3];omega
   case stop=>
    intro D W hD hI hdef;exact hI.elim
theorem LC(n:Nat)(X:Nat)(w:World)(hX:w.cell? ⟨X,0,none⟩=some (.slice none 0 0)) :
  rX Fence.wide n prog 171 #[.pointer (some ⟨X,0,none⟩)] [] (λ_ _=>True) w:=by
 intro l J Jx W hW hJ hJx hY h0;have hXW:W.cell? ⟨X,0,none⟩=some (.slice none 0 0):=(hW.cell (p:=⟨X,0,none⟩) (af5 w _ hX)).trans hX;have hmm:=λz=>jI (P:=prog) underlying77 .i64 z W;have hJ1:J 0 (W.alloc (.map #[] 0)):=hJ 0 W _ none h0 (ae9 _ _ none) (λr e=>by cases e);have hX1:(W.alloc (.map #[] 0)).cell? ⟨X,0,none⟩=some (.slice none 0 0):=(ae9 _ _ none).cell hXW (by simp);refine al8 func171 rfl trivial ?_ rfl;simp only[ntmps171,ag3,ag0,ah0,Nat.reduceAdd,Nat.reduceSub,af8,af7,ag5,ai1,ag9,ag7]
 gi_wp2
 obtain⟨W1,hW1⟩:∃W1,W.alloc (.map #[] 0)=W1:=⟨_,rfl⟩;rw[hW1]at hJ1 hX1 ⊢;clear hmm hW1
 gi_wp2
 gi_loopw [13] (λi wr=>i=.int .i64 0/\J 0 wr) (λ_ _=>0)
 case atStart=>exact⟨rfl,hJ1⟩
 case round=>
  obtain⟨rfl,hJr⟩:=hrel
  gi_wp2
  go_end0
  exact⟨⟨_,rfl⟩,Or.inl hJr⟩
theorem Qr(w:World):Calls prog 83 #[.slice none 0 0,.slice none 0 0] w λe w'=>e=.returned (.bool true)/\Below w.heap.size w w':=by
 refine(ai9 (n:=5)).1 ?_;refine al4 func83 rfl trivial ?_ rfl;simp only[ntmps83,ag3,ag0,ah0,Nat.reduceAdd,Nat.reduceSub,af8,af7,ag5,ai1,ag9,ag7]
 gi_wp2
 obtain⟨wr,hwr⟩:∃wr,(w.alloc (.cells #[.slice none 0 0] 103)).alloc (.cells #[.bool false] 4)=wr:=⟨_,rfl⟩;have hgr:w.grownBy wr none:=by rw[<-hwr];exact(ae9 _ _ none).trans (ae9 _ _ none)
 have hbr:Below w.heap.size w wr:=⟨hgr.os,hgr.tape,hgr.output,hgr.size,λj hj=>hgr.block j hj (by simp)⟩;have hx2:wr.cell? ⟨w.heap.size+1,0,none⟩=some (.bool false):=by rw[<-hwr];simp[go_sem]
 have hf2:wr.frozen? ⟨w.heap.size+1,0,none⟩=false:=by rw[<-hwr];simp[go_sem]
 have hsr:w.heap.size+2<=wr.heap.size:=by rw[<-hwr];simp
 rw[hwr];clear hwr hgr;refine⟨trivial,(ai9.2 (BK none 0 0 wr)).mono ?_⟩;rintro e w2 ⟨rfl,rfl⟩
 gi_wp2
 obtain⟨w2,hw2⟩:∃w2,wr.alloc (.cells #[.slice none 0 0] 51)=w2:=⟨_,rfl⟩;have hg2:wr.grownBy w2 none:=by rw[<-hw2];exact ae9 _ _ none
 have hX2:w2.cell? ⟨wr.heap.size,0,none⟩=some (.slice none 0 0):=by rw[<-hw2];simp[go_sem]
 have hseq:=LC 4 wr.heap.size w2 hX2;have hI0:w2.cell? ⟨w.heap.size+1,0,none⟩=some (.bool false)/\w2.frozen? ⟨w.heap.size+1,0,none⟩=false/\Below w.heap.size w w2:=⟨hg2.cell hx2 (by simp),(aj3 (hg2.block (w.heap.size+1) (by omega) (by simp))).trans hf2,hbr.grown hg2 hbr.size (λk e=>by cases e)⟩;have hbw2:w.heap.size+2<=w2.heap.size:=ah2 hsr hg2.size;rw[hw2];clear hw2 hX2 hg2 hx2 hf2 hbr;have hown:OwnFrom w2.heap.size (fun(_:Nat) W=>W.cell? ⟨w.heap.size+1,0,none⟩=some (.bool false)/\W.frozen? ⟨w.heap.size+1,0,none⟩=false/\Below w.heap.size w W):=λk W W' row h hg hr=>by
  have hr':∀r,row=some r->∃o:Obj,W.heap[r]?=some o/\o.isCells=false:=λr e=>(hr r e).2;exact⟨bY h.1 hg hr',(lV h.1 hg hr').trans h.2.1,h.2.2.grown hg h.2.2.size (λk e=>by have:=(hr k e).1;omega)⟩
 have sK:OwnFrom w2.heap.size (fun(_:Unit) (_:World)=>False):=λk W W' row h hg hr=>h;refine fD rfl (by omega) rfl trivial (λ_ _=>by simp[go_sem]) hseq (λ_ _=>trivial) (λ_ _ _ _ _ _ _ _=>trivial) (ai7 _ _) ?_ _ (λ_=>False) hown sK hI0 (λ_ _ _=>False) ?own ?assign ?body ?done ?stop
 ·intro k hk;simp at hk
 case own=>exact λk a' u W W' row h _ _=>h
 case assign=>intro l k hk;simp at hk
 case body=>intro l k a' W hk;simp at hk
 case done=>
  rintro D W hD ⟨hx2,hf2,hb⟩ hdef
  gi_wp2
  have Ar:(W.setCell ⟨w.heap.size+1,0,none⟩ (.bool true)).heap[D]?=some (.deferred (some [])):=(ag6 _ _ _ _ (by show D≠w.heap.size+1;omega)).trans hdef;have hxs:(W.setCell ⟨w.heap.size+1,0,none⟩ (.bool true)).cell? ⟨w.heap.size+1,0,none⟩=some (.bool true):=bQ _ hx2;have hgp:=an0 (W.setCell ⟨w.heap.size+1,0,none⟩ (.bool true)) D (.deferred none);have hx3:=hgp.cell hxs (by simp;omega);refine⟨by simp,.inl ⟨_,_,rfl,al9 Ar,?_⟩⟩;refine⟨.bool true,by simp[results,results83,go_sem,hx3],rfl,?_⟩;exact(hb.setCell (p:=⟨w.heap.size+1,0,none⟩) (by show w.heap.size<=w.heap.size+1;omega) _).grown hgp (hb.setCell (p:=⟨w.heap.size+1,0,none⟩) (by show w.heap.size<=w.heap.size+1;omega) _).size (λk e=>by cases e;omega)
 case stop=>exact λD W hD hI hdef=>hI.elim
def yg(f':Nat->Nat)(cs:List (Int×Nat))(ss:List kP):List (Int×Nat):=(ss.filter λs=>decide (s.2.2.1≠61)).map λs=>(s.2.2.1,f' (cs.getD s.2.2.2.1 (0,0)).2)
def y9(ss:List kP):List Bool:=(ss.filter λs=>decide (s.2.2.1≠61)).map λs=>s.2.1
theorem Vm{f':Nat->Nat}{cs:List (Int×Nat)}{ss:List kP}{k:Nat}(hk:k<ss.length):yg f' cs (ss.take (k+1))=yg f' cs (ss.take k)++if ss[k].2.2.1=61 then []else [(ss[k].2.2.1,f' (cs.getD ss[k].2.2.2.1 (0,0)).2)]:=by
 unfold yg;rw[ai4,af2 hk,ap9,al7]
 congr 1
 show([ss[k]].filter _).map _=_
 rw[List.filter_cons];by_cases e:ss[k].2.2.1=61<;>simp[e]
theorem Vl{ss:List kP}{k:Nat}(hk:k<ss.length):y9 (ss.take (k+1))=y9 (ss.take k)++if ss[k].2.2.1=61 then []else [ss[k].2.1]:=by
 unfold y9;rw[ai4,af2 hk,ap9,al7]
 congr 1
 show([ss[k]].filter _).map _=_
 rw[List.filter_cons];by_cases e:ss[k].2.2.1=61<;>simp[e]
theorem XJ(f':Nat->Nat)(cs:List (Int×Nat))(ss:List kP):(yg f' cs ss).length<=ss.length:=by
 unfold yg;rw[am3];exact List.length_filter_le _ _
theorem XI(f':Nat->Nat)(cs:List (Int×Nat))(ss:List kP):(y9 ss).length=(yg f' cs ss).length:=by
 unfold yg y9;simp
theorem Vk{f':Nat->Nat}{cs:List (Int×Nat)}{ss:List kP}:cb f' cs (ss.map dP)↔(∀s∈ss,s.2.2.1=61->s.2.1=false->f' s.2.2.2.1≠f' s.2.2.2.2)/\(∀p∈dJ (yg f' cs ss) (yg f' cs ss).length,(y9 ss).getD p.1 false=(y9 ss).getD p.2 false):=by
 have hA:=uM (yg f' cs ss) (λi j=>(y9 ss).getD i false=(y9 ss).getD j false) (λ_=>rfl) (λ_ _ e=>e.symm) (λ_ _ _ e1 e2=>e1.trans e2);rw[hA];unfold cb;refine and_congr ?_ ?_
 ·constructor
  ·intro h s hs h1 h2;exact h (dP s) (ah3.2 ⟨s,hs,rfl⟩) h1 h2
  ·intro h l hl h1 h2;obtain⟨s,hs,rfl⟩:=ah3.1 hl;exact h s hs h1 h2
 ·unfold yg y9;obtain⟨L,hL⟩:∃L,L=ss.filter λs=>decide (s.2.2.1≠61):=⟨_,rfl⟩;have hm:∀s,s∈L↔s∈ss/\s.2.2.1≠61:=λs=>by rw[hL,ak2];simp
  rw[<-hL];constructor
  ·intro h i j hi hj e;simp only[am3]at hi hj;simp only[ak7,af2 hi,af2 hj,aq2,ak5,as4]at e;have h1:=(hm L[i]).1 (af4 hi);have h2:=(hm L[j]).1 (af4 hj);have:=h (dP L[i]) (ah3.2 ⟨_,h1.1,rfl⟩) (dP L[j]) (ah3.2 ⟨_,h2.1,rfl⟩) h1.2 h2.2 e.1 e.2;rw[aN (by simpa using hi),aN (by simpa using hj)];simpa[dP]using this
  ·intro h l hl m hm' h61 KE hlet e;obtain⟨s,hs,rfl⟩:=ah3.1 hl;obtain⟨t,ht,rfl⟩:=ah3.1 hm';obtain⟨i,hi,e1⟩:=aj2 ((hm s).2 ⟨hs,h61⟩);obtain⟨j,hj,e2⟩:=aj2 ((hm t).2 ⟨ht,KE⟩);have:=h i j (by simpa using hi) (by simpa using hj) (by
    simp only[ak7,af2 hi,af2 hj,aq2,e1,e2]
    congr 1
    exact Prod.ext hlet e)
   rw[aN (by simpa using hi),aN (by simpa using hj)]at this;simpa[e1,e2,dP]using this
structure VU(w:World)(b n:Nat)(f':Nat->Nat)(fo:Array Value)(C:List (Int×Nat))(H:List Bool)(v6 v7:Value)(W:World):Prop where
 j:∃c,jE W b f' n c
 lo:w.heap.size<=b
 x0:W.heap[w.heap.size]?=some (.cells fo 54 (0,0))
 rc:W.ownsRow w.heap.size 90 2 v6 C.length (C.flatMap pK)
 rh:W.ownsRow w.heap.size 4 1 v7 H.length (H.map Value.bool)
 nc:v6=.slice none 0 0↔C=[]
 nh:v7=.slice none 0 0↔H=[]
 below:Below w.heap.size w W
theorem nD{W:World}{base e size n:Nat}{v:Value}{xs:List Value}(h:W.ownsRow base e size v n xs):∀k,v.ownBlock=some k->base<=k/\∃cur:Array Value,W.heap[k]?=some (.cells cur e (0,0)):=by
 intro k hk;rcases h.2 with⟨rfl,_⟩|⟨g,cap,cur,rfl,hb,hgb,_⟩
 ·cases hk
 ·cases hk;exact⟨hb,cur,hgb⟩
theorem VU.grow{w:World}{b n:Nat}{f':Nat->Nat}{fo:Array Value}{C:List (Int×Nat)}{H:List Bool}{v6 v7:Value}{W W':World}(h:VU w b n f' fo C H v6 v7 W)(hg:W.grownBy W' none):VU w b n f' fo C H v6 v7 W':=by
 obtain⟨c,h1⟩:=h.j;exact⟨⟨c,h1.kept (hg.block b h1.lt (by simp))⟩,h.lo,(hg.block _ (ae8.1 h.x0).1 (by simp)).trans h.x0,h.rc.kept hg (as9 _),h.rh.kept hg (as9 _),h.nc,h.nh,h.below.grown hg h.below.size (λk e=>by cases e)⟩
theorem VU.adY{w:World}{b n:Nat}{f':Nat->Nat}{fo:Array Value}{C:List (Int×Nat)}{H:List Bool}{v6 v6' v7:Value}{W W':World}{x:Int×Nat}(h:VU w b n f' fo C H v6 v7 W)(hg:W.grownBy W' v6.ownBlock)(hr:W'.ownsRow w.heap.size 90 2 v6' (C.length+1) (C.flatMap pK++pK x))(hn:v6'≠.slice none 0 0):VU w b n f' fo (C++[x]) H v6' v7 W':=by
 obtain⟨c,h1⟩:=h.j;have hb:=nD h.rc;have keep:∀(j:Nat) (o:Obj),W.heap[j]?=some o->(∀cur x,o≠Obj.cells cur 90 x)->W'.heap[j]?=some o:=λj o hj hc=>(hg.block j (ae8.1 hj).1 (λe=>by
  obtain⟨_,cur,hcur⟩:=hb j e.symm;rw[hj]at hcur;cases hcur;exact hc _ _ rfl)).trans hj
 obtain⟨o,ho,hoc⟩:=h1.aav;refine⟨⟨c,h1.kept ((keep b o ho (λcur x e=>hoc _ _ _ e)).trans ho.symm)⟩,h.lo,keep _ _ h.x0 (λcur x e=>by simp at e),?_,h.rh.kept hg ?_,?_,h.nh,h.below.grown hg h.below.size (λk e=>(hb k e).1)⟩
 ·rw[ah1,List.flatMap_append];simpa using hr
 ·by_cases e:v7.ownBlock=none
  ·exact Or.inl e
  ·refine Or.inr (λe2=>?_);cases e3:v7.ownBlock with
   |none=>exact e e3
   |some k=>
    obtain⟨_,cur,h2⟩:=nD h.rh k e3;obtain⟨_,cur',h3⟩:=hb k (by rw[<-e2,e3]);rw[h2]at h3;simp at h3
 ·constructor
  ·intro e;exact absurd e hn
  ·intro e;simp at e
theorem VU.appH{w:World}{b n:Nat}{f':Nat->Nat}{fo:Array Value}{C:List (Int×Nat)}{H:List Bool}{v6 v7 v7':Value}{W W':World}{x:Bool}(h:VU w b n f' fo C H v6 v7 W)(hg:W.grownBy W' v7.ownBlock)(hr:W'.ownsRow w.heap.size 4 1 v7' (H.length+1) (H.map Value.bool++[Value.bool x]))(hn:v7'≠.slice none 0 0):VU w b n f' fo C (H++[x]) v6 v7' W':=by
 obtain⟨c,h1⟩:=h.j;have hb:=nD h.rh;have keep:∀(j:Nat) (o:Obj),W.heap[j]?=some o->(∀cur x,o≠Obj.cells cur 4 x)->W'.heap[j]?=some o:=λj o hj hc=>(hg.block j (ae8.1 hj).1 (λe=>by
  obtain⟨_,cur,hcur⟩:=hb j e.symm;rw[hj]at hcur;cases hcur;exact hc _ _ rfl)).trans hj
 obtain⟨o,ho,hoc⟩:=h1.aav;refine⟨⟨c,h1.kept ((keep b o ho (λcur x e=>hoc _ _ _ e)).trans ho.symm)⟩,h.lo,keep _ _ h.x0 (λcur x e=>by simp at e),h.rc.kept hg ?_,?_,h.nc,?_,h.below.grown hg h.below.size (λk e=>(hb k e).1)⟩
 ·by_cases e:v6.ownBlock=none
  ·exact Or.inl e
  ·refine Or.inr (λe2=>?_);cases e3:v6.ownBlock with
   |none=>exact e e3
   |some k=>
    obtain⟨_,cur,h2⟩:=nD h.rc k e3;obtain⟨_,cur',h3⟩:=hb k (by rw[<-e2,e3]);rw[h2]at h3;simp at h3
 ·rw[ah1,al7];simpa using hr
 ·constructor
  ·intro e;exact absurd e hn
  ·intro e;simp at e
end Go.Proofs.YthcppbmkacbbiaaGreat
