import Derived.Test.YthcppbmkacbbiaaGreatYAV
set_option linter.unusedSimpArgs false
set_option maxHeartbeats 4000000
set_option maxRecDepth 100000
namespace Go.Proofs.YthcppbmkacbbiaaGreat
open Go.Proofs.Tryz
open Sat (View Rule jw bI)
section
open Go.RowKit Go.Maps Go.WideMaps Go.Sort
theorem rE{α:Type}[Inhabited α](f:α->Value)(w:World)(g n:Nat)(d:Array α)(os:Array Obj):w.grownBy (sortWorld f w g 0 n d os) (some g):=by
 refine⟨rfl,rfl,rfl,by simp[sortWorld],λj hj hne=>?_⟩;unfold sortWorld;rw[heap_grow_old _ _ (by simpa using hj)];have:g≠j:=λe=>hne (by rw[e]);simp[putRow,mapBlock,Sort.ahead,ao1,this]
theorem Ea{α:Type}[Inhabited α](f:α->Value){w:World}{g n e:Nat}{d:Array α}{os:Array Obj}{cur:Array Value}(hb:w.heap[g]?=some (.cells cur e (0,0))):∃cur',(sortWorld f w g 0 n d os).heap[g]?=some (.cells cur' e (0,0)):=by
 have hlt:=(ac0.1 hb).1;unfold sortWorld;rw[heap_grow_old _ _ (by simpa[putRow,mapBlock,Sort.ahead]using hlt)];simp[putRow,mapBlock,Sort.ahead,ao1,hb];exact⟨_,rfl⟩
theorem Ky(R:Nat)(rk:Nat->Nat->Int)(hR0:vT R rk)(eg:∀args w,(callFunc R args).run prog w=.ok (.enter R args) w)(τ:List Tr)(hτ:τ.length<=1000)(ts:List Nat)(hrk:WZ rk τ ts)(ss:List (Fin ts.length))(hp:ss.Perm (List.finRange ts.length))(hne:0<ts.length)(Rb Mb BT g cap e0:Nat)(cur:Array Value)(w:World)
 (hb:w.heap[g]?=some (.cells cur e0 (0,0)))(ht:cur.toList.take ss.length=Qw ts ss)(hR:w.cell? ⟨Rb,0,none⟩=some (.func (.func R) #[] #[]))(hMb:w.cell? ⟨Mb,0,none⟩=some (.map (some BT)))(hM:lq w BT τ)(n1:Rb≠g)(n2:Mb≠g)(n3:BT≠g) :
  Calls prog 201 #[.slice (some ⟨g,0,none⟩) ss.length cap,.func (.func 184) #[] #[.pointer (some ⟨Rb,0,none⟩),.pointer (some ⟨Mb,0,none⟩)]] w λe w'=>
   e=.returned (.tuple #[])/\w.grownBy w' (some g)/\(∃cur',w'.heap[g]?=some (.cells cur' e0 (0,0)))/\∀(i:Nat) (hi:i<ts.length),w'.cell? ⟨g,i,none⟩=some (kR ts[i]):=by
 haveI:Inhabited (Fin ts.length):=⟨⟨0,hne⟩⟩
 have hle:∀x∈ts,x<=1000:=λx hx=>by
  obtain⟨q,hq,rfl⟩:=ae8.1 (hrk.perm.mem_iff.1 hx);exact hM.le q hq
 have hlen:ss.length=ts.length:=by rw[hp.length_eq,al7]
 have htl:ts.length<=1000:=by rw[hrk.perm.length_eq];simpa using hτ
 have hlt:=(ac0.1 hb).1;have hH:Sort.Holds (λi:Fin ts.length=>kR ts[i]) w g 0 ss.toArray:=by
  intro j hj;have hj':j<ss.length:=by simpa using hj
  refine⟨?_,by simp[World.frozen?,hb]⟩;have h1:(cur.toList.take ss.length)[j]?=(Qw ts ss)[j]?:=by rw[ht]
  rw[List.getElem?_take_of_lt hj']at h1;rw[al5,cell_of hb,an5 _ j (by simpa using hj')];simpa[Qw,hj']using h1
 have hc:CmpLays1 prog 184 #[.pointer (some ⟨Rb,0,none⟩),.pointer (some ⟨Mb,0,none⟩)] (λi:Fin ts.length=>kR ts[i]) (λi j=>eF i.val j.val) g 0 ss.toArray.size w:=by
  intro m os dk _ x y;have hgr:=rE (λi:Fin ts.length=>kR ts[i]) w g m dk os;have h:=QV R rk hR0 eg Rb Mb BT τ hτ ts[x] ts[y] (hle _ (ac4 x.isLt)) (hle _ (ac4 y.isLt)) _ (hgr.cell hR (by simpa using n1)) (hgr.cell hMb (by simpa using n2)) (hM.kept (hgr.block BT hM.lt (by simpa using n3)));rw[hrk.cmp x y]at h;exact h
 have h:=Any.slices_SortFunc_total sortI (λi:Fin ts.length=>kR ts[i]) (λ_=>rfl) (λi j=>eF i.val j.val) (uD _) 184 _ g 0 cap ss.toArray w (aq2 func184 (by kernel_rfl) rfl) hc hH hlt (by simp;omega) uz;change Calls prog 201 _ _ _ at h;simp only[ad3]at h;refine h.mono ?_;rintro e2 w' ⟨rfl,m,os,rfl⟩;refine⟨rfl,rE _ _ _ _ _ _,Ea _ hb,λi hi=>?_⟩;have e1:(List.mergeSort ss.toArray.toList λx y=>!(ltOf λi j:Fin ts.length=>eF i.val j.val) y x)=List.finRange ts.length:=sN hp;rw[e1];have hH2:=holds_sortWorld (λi:Fin ts.length=>kR ts[i]) w g 0 m ss.toArray (List.finRange ts.length).toArray os hlt hH (by simp[hlen]);have h2:=(hH2 i (by simpa using hi)).1;rw[al5]at h2;rw[h2,an5 (List.finRange ts.length).toArray i (by simpa using hi)];simp
def Xe(w:World)(base:Nat)(ts:List Nat)(v:Value):Prop:=
 (ts.length=0->v=.slice none 0 0)/\(0<ts.length->∃G cap,v=.slice (some ⟨G,0,none⟩) ts.length cap/\base<=G/\(∃cur,w.heap[G]?=some (.cells cur 3 (0,0)))/\∀(i:Nat) (hi:i<ts.length),w.cell? ⟨G,i,none⟩=some (kR ts[i]))
theorem D8(R:Nat)(rk:Nat->Nat->Int)(hR0:vT R rk)(eg:∀args w,(callFunc R args).run prog w=.ok (.enter R args) w)(τ:List Tr)(hτ:τ.length<=1000)(n:Nat)(hn:4<=n)(ts:List Nat)(hrk:WZ rk τ ts)(Kb Rb Mb BT:Nat)(w:World)
 (hK:w.cell? ⟨Kb,0,none⟩=some (.map (some BT)))(hR:w.cell? ⟨Rb,0,none⟩=some (.func (.func R) #[] #[]))(hMb:w.cell? ⟨Mb,0,none⟩=some (.map (some BT)))(hM:lq w BT τ) :
  CallsIn Fence.wide n prog 182 #[.func (.func 202) #[] #[.pointer (some ⟨Kb,0,none⟩)],.func (.func 184) #[] #[.pointer (some ⟨Rb,0,none⟩),.pointer (some ⟨Mb,0,none⟩)]] w λe w'=>
   ∃v,e=.returned v/\Below w.heap.size w w'/\Xe w' w.heap.size ts v:=by
 have htl:ts.length<=1000:=by rw[hrk.perm.length_eq];simpa using hτ
 have hseq:=LU Fence.wide (n-1-1-1) trivial rfl (by omega) Kb BT τ ts w hrk.perm hK hM;have Hw:=Du (n-1) (by omega) ts htl 202 _ (aq2 func202 (by kernel_rfl) rfl) w hseq;clear hseq;refine ai8 func182 rfl trivial ?_ rfl;simp only[ntmps182,ad3,ac9,ae1,Nat.reduceAdd,Nat.reduceSub,ac7,ac6,ad5,af0,ad9,ad8]
 gi_wp2
 refine⟨trivial,λ_=>by omega,Hw.mono ?_⟩;rintro e W ⟨v,ss,rfl,hS,hrow,hnil,hb⟩;have hlen:ss.length=ts.length:=by rw[hS.length_eq,al7]
 rcases hrow.2 with⟨rfl,hz⟩|⟨gb,cap,cur,rfl,hbase,hgb,r1,r2,r3,r4⟩
 ·gi_wp2
  refine⟨trivial,λ_=>by omega,(af9.2 (AnyF.slices_SortFunc_none {sortI with} none 0 _ W)).mono ?_⟩;rintro e w' ⟨rfl,rfl⟩
  gi_wp2
  go_ret
  exact⟨_,rfl,hb,λ_=>rfl,λh=>absurd h (by omega)⟩
 ·have hne:0<ts.length:=by
   rcases ak6 ts.length with h0|h0
   ·have:ss=[]:=ag9 (by omega);exact absurd (hnil.2 this) (by simp)
   ·exact h0
  have hcR:W.cell? ⟨Rb,0,none⟩=some (.func (.func R) #[] #[]):=(hb.cell (p:=⟨Rb,0,none⟩) (ac5 w _ hR)).trans hR;have hcM:W.cell? ⟨Mb,0,none⟩=some (.map (some BT)):=(hb.cell (p:=⟨Mb,0,none⟩) (ac5 w _ hMb)).trans hMb;have n1:Rb≠gb:=by have h:Rb<w.heap.size:=ac5 w _ hR;omega
  have n2:Mb≠gb:=by have h:Mb<w.heap.size:=ac5 w _ hMb;omega
  have n3:BT≠gb:=by have h:=hM.lt;omega
  have hs:=Ky R rk hR0 eg τ hτ ts hrk ss hS hne Rb Mb BT gb cap _ cur W hgb (by rw[Nat.mul_one]at r4;exact r4) hcR hcM (hM.kept (hb.block BT hM.lt)) n1 n2 n3;have HLEN:=aj hlen;clear hlen eg
  gi_wp2
  refine⟨trivial,λ_=>by omega,(af9.2 hs).mono ?_⟩;rintro e w' ⟨rfl,hg,hcu,hc⟩
  gi_wp2
  go_ret
  have hlen:=ah HLEN;refine⟨_,rfl,hb.grown hg hb.size (λk e=>by cases e;exact hbase),λh0=>absurd h0 (by omega),λ_=>⟨gb,cap,?_,hbase,hcu,hc⟩⟩
  show Value.slice (some ⟨gb,0,none⟩) ss.length cap=_
  rw[hlen]
theorem LH(n:Nat)(BT:Nat)(w:World):CallsIn Fence.wide n prog 183 #[.map (some BT)] w λe w'=>
  e=.returned (.func (.func 202) #[] #[.pointer (some ⟨w.heap.size,0,none⟩)])/\w'=w.alloc (.cells #[.map (some BT)] 159):=by
 refine af9.2 ?_
 go_enter func183,ntmps183
 go_wp2_with fail
 go_ret
 exact⟨rfl,rfl⟩
theorem yh(R BT:Nat)(w:World):Calls prog 142 #[.map (some BT),.func (.func R) #[] #[]] w λe w'=>
  e=.returned (.func (.func 181) #[] #[.pointer (some ⟨w.heap.size,0,none⟩),.pointer (some ⟨w.heap.size+1,0,none⟩)])/\∃t,w'=(w.alloc (.cells #[.map (some BT)] 159)).alloc (.cells #[.func (.func R) #[] #[]] t):=by
 go_enter func142,ntmps142
 go_wp2_with fail
 go_ret
 exact⟨rfl,_,rfl⟩
def Rw(m0 Mb BT:Nat)(W W':World):Prop:=(∀(k:Nat) (cur:Array Value) (x:Nat×Nat),m0<=k->W.heap[k]?=some (.cells cur 3 x)->W'.heap[k]?=some (.cells cur 3 x))/\W'.heap[Mb]?=W.heap[Mb]?/\W'.heap[BT]?=W.heap[BT]?
theorem Rw.trans{m0 Mb BT:Nat}{A B C:World}(h:Rw m0 Mb BT A B)(g:Rw m0 Mb BT B C):Rw m0 Mb BT A C:=⟨λk o x hk ho=>g.1 k o x hk (h.1 k o x hk ho),g.2.1.trans h.2.1,g.2.2.trans h.2.2⟩
theorem AZ(R:Nat)(rk:Nat->Nat->Int)(hR0:vT R rk)(eg:∀args w,(callFunc R args).run prog w=.ok (.enter R args) w)(τ:List Tr)(hτ:τ.length<=1000)(n:Nat)(hn:5<=n)(Mb Rb BT m0:Nat)(ts:List Nat)(w:World)(hm0:m0<=w.heap.size)(hrk:WZ rk τ ts)
 (hMb:w.cell? ⟨Mb,0,none⟩=some (.map (some BT)))(hR:w.cell? ⟨Rb,0,none⟩=some (.func (.func R) #[] #[]))(hM:lq w BT τ) :
  vS Fence.wide n prog 181 #[.pointer (some ⟨Mb,0,none⟩),.pointer (some ⟨Rb,0,none⟩)] (ts.map λx=>#[kR x,uH τ x]) (Rw m0 Mb BT) w:=by
 have htl:ts.length<=1000:=by rw[hrk.perm.length_eq];simpa using hτ
 have hle:∀x∈ts,x<=1000:=λx hx=>by
  obtain⟨q,hq,rfl⟩:=ae8.1 (hrk.perm.mem_iff.1 hx);exact hM.le q hq
 intro l J W hW hJ hY h0;have rX:W.cell? ⟨Mb,0,none⟩=some (.map (some BT)):=(hW.cell (p:=⟨Mb,0,none⟩) (ac5 w _ hMb)).trans hMb;have hRW:W.cell? ⟨Rb,0,none⟩=some (.func (.func R) #[] #[]):=(hW.cell (p:=⟨Rb,0,none⟩) (ac5 w _ hR)).trans hR;have hMW:lq W BT τ:=hM.kept (hW.block BT hM.lt);have hsW:=hW.size;have Hl:Mb<W.heap.size:=ac5 W _ rX;have yN:=hMW.lt;have hso:=D8 R rk hR0 eg τ hτ (n-1) (by omega) ts hrk W.heap.size Rb Mb BT (W.alloc (.cells #[.map (some BT)] 159)) (by simp[go_sem]) ((ac1 _ _ none).cell hRW (by simp)) ((ac1 _ _ none).cell rX (by simp)) (hMW.kept (ad4 _ _ _ yN));have HM:=aj hM;have HMW:=aj hMW;clear hM hMW eg;refine ai8 func181 rfl trivial ?_ rfl;simp only[ntmps181,ad3,ac9,ae1,Nat.reduceAdd,Nat.reduceSub,ac7,ac6,ad5,af0,ad9,ad8]
 gi_wp2
 refine⟨trivial,λ_=>by omega,(LH (n-1) BT W).mono ?_⟩;rintro e w1 ⟨rfl,rfl⟩
 gi_wp2
 refine⟨trivial,λ_=>by omega,hso.mono ?_⟩;rintro e w2 ⟨v,rfl,hb2,hH⟩;have hb:Below W.heap.size W w2:=((af5 _ W).alloc (ac2 _) _).trans (hb2.mono (by simp));have hJ2:J 0 w2:=hJ 0 W w2 none h0 ⟨hb.os,hb.tape,hb.output,hb.size,λk hk _=>hb.block k hk⟩ (λr e=>by cases e);have qZ:w2.heap[Mb]?=W.heap[Mb]?:=hb.block Mb Hl;have Ih:w2.heap[BT]?=W.heap[BT]?:=hb.block BT yN;clear hso hb2;rcases ak6 ts.length with hz|hpos
 ·rw[hH.1 hz];have HZ:=aj hz;clear hz hH
  gi_wp2
  gi_loopw [13] (λi wr=>i=.int .i64 0/\J 0 wr) (λ_ _=>0)
  case atStart=>exact⟨rfl,hJ2⟩
  case round=>
   obtain⟨rfl,hJr⟩:=hrel
   gi_wp2
   go_end0
   refine⟨⟨_,rfl⟩,?_⟩;rw[aj7,ah HZ];exact hJr
 ·obtain⟨G,cap,rfl,hG,⟨cur,hoG⟩,hcs⟩:=hH.2 hpos;have hG':W.heap.size<=G:=by simp at hG;omega
  have HCS:=aj hcs;clear hH hcs hG
  gi_wp2
  gi_loopw [13] (λi wr=>∃k:Nat,k<=ts.length/\i=.int .i64 k/\J k wr/\wr.heap[G]?=some (.cells cur 3 (0,0))/\wr.heap[Mb]?=W.heap[Mb]?/\wr.heap[BT]?=W.heap[BT]?) (λi _=>ts.length-(intOf i).toNat)
  case atStart=>exact⟨0,ag3 _,rfl,hJ2,hoG,qZ,Ih⟩
  case round=>
   obtain⟨k,hk,rfl,hJk,hXk,hMk,hBk⟩:=hrel;by_cases hlt:k<ts.length
   ·have kc:wr.cell? ⟨G,k,none⟩=some (.int .i64 ts[k]):=by
     have h1:=ah HCS k hlt;exact(ae0 (hXk.trans hoG.symm)).trans h1
    have hyk:=hY k (by simpa using hlt);rw[show(ts.map λx=>#[kR x,uH τ x])[k]'(by simpa using hlt)=#[kR ts[k],uH τ ts[k]] by simp]at hyk;have hMr:lq wr BT τ:=(ah HMW).kept hBk;have hlk:=hMr.look1 (hle ts[k] (ac4 hlt));have MW:wr.cell? ⟨Mb,0,none⟩=some (.map (some BT)):=(ae0 hMk).trans rX;simp only[kR]at hyk;generalize hlv:uH τ ts[k]=lv at hyk hlk;generalize ts[k]=t at kc hyk hlk hlv;have hbd:(k:Int)<(ts.length:Int):=(by omega);obtain⟨fn,tmps,assign,body,hy,hR⟩:=hyk wr hJk;clear hyk hlv
    gi_wp2
    refine⟨λ_=>by omega,hR.mono ?_⟩;rintro e W3 ⟨rfl,hJ3,hk3⟩;have hX3:W3.heap[G]?=some (.cells cur 3 (0,0)):=hk3.1 G cur _ (by omega) hXk;have hM3:W3.heap[Mb]?=W.heap[Mb]?:=hk3.2.1.trans hMk;have hB3:W3.heap[BT]?=W.heap[BT]?:=hk3.2.2.trans hBk;clear hk3 hR hy
    gi_wp2
    go_roundw
    case rel=>exact⟨k+1,by omega,by go_num,hJ3,hX3,hM3,hB3⟩
    case measure=>simp[intOf];omega
   ·have hkk:k=ts.length:=(by omega);have HKK:=aj hkk;clear hkk;have hbd:¬(k:Int)<(ts.length:Int):=by omega
    gi_wp2
    go_end0
    refine⟨⟨_,rfl⟩,?_⟩;rw[<-ah HKK];exact hJk
end
open Go.RowKit Go.Maps Go.WideMaps
open aB (put)
attribute [local go_sem] Oper.semAt_some
def Bd(u:View):List Value:=[.int .i64 u.1,.bool u.2]
def vcs(r:Rule):List Value:=r.flatMap Bd
theorem Ug(l c:Nat)(W:World):(binOp BinOp.eql 161 (.slice none l c) (.slice none 0 0)).run prog W=.ok (.bool true) W:=by kernel_rfl
theorem Uf(a:Addr)(l c:Nat)(W:World):(binOp BinOp.eql 161 (.slice (some a) l c) (.slice none 0 0)).run prog W=.ok (.bool false) W:=by kernel_rfl
theorem JB:(prog.info? 214).map (λi=>(i.zero,i.size,i.bytes))=some (some (.agg #[.int .i64 0,.bool false]),2,16):=by kernel_rfl
theorem aQ.cells{w:World}{v:Value}{r:Rule}(h:aQ w v r):∃p cap,v=.slice p r.length cap/\(r=[]->p=none/\cap=0)/\(r≠[]->∃g,p=some ⟨g,0,none⟩/\g<w.heap.size/\∀W:World,Below w.heap.size w W->∀k (hk:k<r.length),W.cell? ⟨g,k*2,none⟩=some (.int .i64 r[k].1)/\W.cell? ⟨g,k*2+1,none⟩=some (.bool r[k].2)):=by
 rcases h with⟨rfl,rfl⟩|⟨g,cap,cur,x,rfl,hg,hne,hcur⟩
 ·exact⟨none,0,rfl,λ_=>⟨rfl,rfl⟩,λh=>absurd rfl h⟩
 ·have hgl:g<w.heap.size:=(ac0.1 hg).1;refine⟨_,cap,rfl,λh=>absurd h hne,λ_=>⟨g,rfl,hgl,λW hW k hk=>?_⟩⟩;rw[hW.cell (p:=⟨g,_,none⟩) hgl,hW.cell (p:=⟨g,_,none⟩) hgl,cell_of hg,cell_of hg];exact hcur k hk
theorem Bl{r:Rule}{k:Nat}(hk:k<r.length)(B:List Nat):oW B (r.take (k+1))=put (oW B (r.take k)) r[k].1:=by
 unfold oW;rw[ag5,ac3 hk,an0];rfl
theorem Jk{α:Type}[BEq α](l:List α)(a:α):(put l a).length<=l.length+1:=by
 unfold put;split<;>simp
theorem Rh(r:Rule):∀B:List Nat,(oW B r).length<=B.length+r.length:=by
 induction r with
 |nil=>intro B;simp[oW]
 |cons v r ih=>
  intro B
  show(oW (put B v.1) r).length<=_
  have h1:=ih (put B v.1);have h2:=Jk B v.1;simp;omega
structure BG(w:World)(B:List Nat)(C:Rule)(W:World):Prop where
 x5:∃v,W.heap[w.heap.size]?=some (.cells #[v] 161 (0,0))/\W.ownsRow w.heap.size 214 2 v C.length (vcs C)/\(v=.slice none 0 0↔C=[])
 m:aH W 3 (w.heap.size+1) kR B
 x6:W.heap[w.heap.size+2]?=some (.cells #[.map (some (w.heap.size+1))] 218 (0,0))
 below:Below w.heap.size w W
theorem BG.lt{w:World}{B:List Nat}{C:Rule}{W:World}(h:BG w B C W):w.heap.size+3<=W.heap.size:=by
 have:=(ac0.1 h.x6).1;omega
theorem BG.grow{w:World}{B:List Nat}{C:Rule}{W W':World}{row:Option Nat}(h:BG w B C W)(hg:W.grownBy W' row)(hr:∀r,row=some r->w.heap.size+3<=r/\∃o:Obj,W.heap[r]?=some o/\o.isCells=false):BG w B C W':=by
 obtain⟨v,h1,h2,h3⟩:=h.x5;have hl:=h.lt;have hne:∀k,k<w.heap.size+3->some k≠row:=λk hk e=>by have:=(hr k e.symm).1;omega
 have hr':∀r,row=some r->∃o:Obj,W.heap[r]?=some o/\o.isCells=false:=λr e=>(hr r e).2;exact⟨⟨v,(hg.block _ (by omega) (hne _ (by omega))).trans h1,jA h2 hg hr',h3⟩,h.m.kept (hg.block _ (by omega) (hne _ (by omega))),(hg.block _ (by omega) (hne _ (by omega))).trans h.x6,h.below.grown hg h.below.size (λk e=>by have:=(hr k e).1;omega)⟩
theorem BG.num{w:World}{B B':List Nat}{C:Rule}{W W':World}(h:BG w B C W)(hg:W.grownBy W' (some (w.heap.size+1)))(hm:aH W' 3 (w.heap.size+1) kR B'):BG w B' C W':=by
 obtain⟨v,h1,h2,h3⟩:=h.x5;have hl:=h.lt;obtain⟨D,⟨es,clock,hmp,_⟩,_⟩:=h.m;refine⟨⟨v,(hg.block _ (by omega) (by simp)).trans h1,jA h2 hg (λr e=>by cases e;exact⟨_,hmp,rfl⟩),h3⟩,hm,(hg.block _ (by omega) (by simp)).trans h.x6,h.below.grown hg h.below.size (λk e=>by cases e;omega)⟩
theorem DV(C:Rule)(u:View):vcs (C++[u])=vcs C++Bd u:=by simp[vcs]
theorem BG.mid{w:World}{C:Rule}{W W2 W3:World}{v:Value}(hx:W.heap[w.heap.size]?=some (.cells #[v] 161 (0,0)))(hg:W.grownBy W2 none)(hg3:W2.grownBy W3 v.ownBlock)
 (hr:W.ownsRow w.heap.size 214 2 v C.length (vcs C)):W3.heap[w.heap.size]?=some (.cells #[v] 161 (0,0)):=by
 have hjl:=(ac0.1 hx).1;refine(hg3.block _ (ac8 hjl hg.size) (λe=>?_)).trans ((hg.block _ hjl (by simp)).trans hx);rcases hr.2 with⟨rfl,_⟩|⟨g,cap,cur,rfl,hb,hgb,_⟩
 ·cases e
 ·simp only[Value.ownBlock,ai0]at e;rw[<-e,hx]at hgb;simp at hgb
theorem BG.app{w:World}{B:List Nat}{C:Rule}{W W2 W3:World}{v v':Value}{u:View}(h:BG w B C W)(hx:W.heap[w.heap.size]?=some (.cells #[v] 161 (0,0)))(hg:W.grownBy W2 none)(hg3:W2.grownBy W3 v.ownBlock)
 (hr:W.ownsRow w.heap.size 214 2 v C.length (vcs C))(hr3:W3.ownsRow w.heap.size 214 2 v' (C.length+1) (vcs C++Bd u))(hn:v'≠.slice none 0 0):BG w B (C++[u]) (W3.setCell ⟨w.heap.size,0,none⟩ v'):=by
 have hl:=h.lt;have hrb:∀j,v.ownBlock=some j->∃cur:Array Value,W.heap[j]?=some (.cells cur 214 (0,0)):=by
  intro j hj;rcases hr.2 with⟨rfl,_⟩|⟨g,cap,cur,rfl,hb,hgb,_⟩
  ·cases hj
  ·cases hj;exact⟨cur,hgb⟩
 obtain⟨D,hmo,hmr⟩:=id h.m;obtain⟨es,clock,hmp,_⟩:=id hmo;have keep:∀(j:Nat) (o:Obj),W.heap[j]?=some o->(∀cur:Array Value,o≠Obj.cells cur 214 (0,0))->W3.heap[j]?=some o:=λj o hj hc=>by
  have hjl:=(ac0.1 hj).1;refine(hg3.block j (ac8 hjl hg.size) (λe=>?_)).trans ((hg.block j hjl (by simp)).trans hj);obtain⟨cur,hcur⟩:=hrb j e.symm;rw[hj]at hcur;cases hcur;exact hc cur rfl
 have k5:=keep _ _ hx (λcur e=>by simp at e);have k6:=keep _ _ h.x6 (λcur e=>by simp at e);have km:=keep _ _ hmp (λcur e=>by simp at e);have aak:(W3.setCell ⟨w.heap.size,0,none⟩ v').heap[w.heap.size+2]?=W3.heap[w.heap.size+2]?:=ae3 _ _ _ _ (by simp);have aaj:(W3.setCell ⟨w.heap.size,0,none⟩ v').heap[w.heap.size+1]?=W3.heap[w.heap.size+1]?:=ae3 _ _ _ _ (by simp);refine⟨⟨v',by rw[heap_setCell_same k5];rfl,?_,?_⟩,h.m.kept (aaj.trans (km.trans hmp.symm)),aak.trans k6,?_⟩
 ·rw[ae9,DV];refine hr3.kept (grownBy_setCell' W3 w.heap.size _) ?_;rcases hr3.2 with⟨e,_⟩|⟨g,cap,cur,rfl,hb,hgb,_⟩
  ·exact absurd e hn
  ·refine Or.inr (λe=>?_);simp only[Value.ownBlock,ai0]at e;rw[show g=w.heap.size by omega,k5]at hgb;simp at hgb
 ·constructor
  ·intro e;exact absurd e hn
  ·intro e;simp at e
 ·refine((h.below.grown hg h.below.size (λk e=>by cases e)).grown hg3 (by have:=h.below.size;have:=hg.size;omega) (λk e=>(hr.lt k e).1)).setCell (ac2 _) _
theorem Gm{τ:List Tr}(hn:(τ.map (·.1)).Nodup):WZ (λ_ k=>-(k:Int)) τ (τ.reverse.map (·.1)):=by
 refine⟨(List.reverse_perm τ).map _,λi j hi hj hij=>?_⟩;have hi':i<τ.length:=by simpa using hi
 have hj':j<τ.length:=by simpa using hj
 have key:∀i (hi:i<τ.length),uK τ ((τ.reverse.map (·.1))[i]'(by simpa using hi))=τ.length-1-i:=λi hi=>by
  have e:(τ.reverse.map (·.1))[i]'(by simpa using hi)=(τ[τ.length-1-i]'(by omega)).1:=by simp
  rw[e];unfold uK;rw[jq hn (by omega)]
 rw[key i hi',key j hj'];omega
def RK(bm:Nat)(W W':World):Prop:=W.heap.size<=W'.heap.size/\∀(j:Nat) (o:Obj),W.heap[j]?=some o->(∀cur x,o≠Obj.cells cur 214 x)->(∀cur x,o≠Obj.cells cur 161 x)->j≠bm->W'.heap[j]?=some o
theorem RK.refl(bm:Nat)(W:World):RK bm W W:=⟨ac2 _,λ_ _ h _ _ _=>h⟩
theorem RK.trans{bm:Nat}{A B C:World}(h:RK bm A B)(g:RK bm B C):RK bm A C:=⟨ae4 h.1 g.1,λj o h1 h2 h3 h4=>g.2 j o (h.2 j o h1 h2 h3 h4) h2 h3 h4⟩
theorem RK.grown{bm:Nat}{W W':World}{row:Option Nat}(hg:W.grownBy W' row)(hr:∀j,row=some j->j=bm):RK bm W W':=
 ⟨hg.size,λj _ h1 _ _ h4=>(hg.block j (ac0.1 h1).1 (λe=>h4 (hr j e.symm))).trans h1⟩
theorem aH.XP{W:World}{bm:Nat}{B:List Nat}(h:aH W 3 bm kR B){x:Nat}(hx:x<=1000):∃z:Int,(Instr.lookup 218 (.map (some bm)) (.int .i64 x) true).run prog W=.ok (.tuple #[.int .i64 z,.bool (B.contains x)]) W:=by
 obtain⟨D,hown,_,hall,_⟩:=h;obtain⟨v,ps,hrun,hv⟩:=hown.look_ok fG underlying218 (zeroE W) (aq4 underlying3 (by decide)) (qY hx);obtain⟨c,rfl,_,_⟩:=ao7 underlying3 hv;rw[(hall x _ (qY hx)).1]at hrun;exact⟨c,hrun⟩
structure BR(w:World)(M m:Nat)(τ:List Tr)(br:Rule)(k:Nat)(W:World):Prop where
 g:BG w (bst τ br k).1 (bst τ br k).2 W
 mb:W.heap[M]?=some (.cells #[.map (some m)] 159 (0,0))
theorem BR.fin{w:World}{M m:Nat}{τ:List Tr}{br:Rule}{k:Nat}{W W':World}{B0:Nat}{a:Act}(hI:BR w M m τ br k W)(hR:RK (w.heap.size+1) W W')(hG:BG w (bst τ br (k+1)).1 (bst τ br (k+1)).2 W')(hb:w.heap.size+1<B0)(hM:M≠w.heap.size+1)(hm:m<w.heap.size) :
  iG B0 (Rw B0 M m) (BR w M m τ br (k+1)) W .normal a W':=by
 have hMb:W'.heap[M]?=some (.cells #[.map (some m)] 159 (0,0)):=hR.2 M _ hI.mb (λcur x e=>by simp at e) (λcur x e=>by simp at e) hM;refine⟨⟨hR.1,λj o hj ho hc=>hR.2 j o ho (λcur x e=>by rw[e]at hc;cases hc) (λcur x e=>by rw[e]at hc;cases hc) (by omega)⟩,⟨λj cur x hj hx=>hR.2 j _ hx (λcur x e=>by simp at e) (λcur x e=>by simp at e) (by omega),hMb.trans hI.mb.symm,?_⟩,⟨hG,hMb⟩⟩;exact(hG.below.block m hm).trans (hI.g.below.block m hm).symm
theorem mJ{α:Type}[BEq α][LawfulBEq α]{l:List α}{a:α}(h:l.Nodup):(put l a).Nodup:=by
 unfold put;split
 ·exact h
 ·rename_i hc;refine am9.2 ⟨h,by simp,λx hx y hy e=>?_⟩;simp at hy;subst hy;subst e;exact hc (by simpa using hx)
theorem vO{U:Nat}{r:Rule}:∀{B:List Nat},B.Nodup->(∀x∈B,x<U)->(∀u∈r,u.1<U)->(oW B r).Nodup/\∀x∈oW B r,x<U:=by
 induction r with
 |nil=>intro B h1 h2 _;exact⟨h1,h2⟩
 |cons v r ih=>
  intro B h1 h2 h3;refine ih (mJ h1) (λx hx=>?_) (λu hu=>h3 u (by simp[hu]));rcases tC.1 hx with hx|rfl
  ·exact h2 x hx
  ·exact h3 v (by simp)
theorem FP{U:Nat}{τ:List Tr}{br:Rule}(hbr:∀u∈br,u.1<U)(hτ:∀q∈τ,∀u∈q.2.2.2,u.1<U):∀k,(bst τ br k).1.Nodup/\∀x∈(bst τ br k).1,x<U
 |0=>vO (by simp) (by simp) hbr
 |k+1=>by
  have ih:=FP hbr hτ k
  show(match τ[τ.length-1-k]? with|some q=>ng q (bst τ br k)|none=>bst τ br k).1.Nodup/\∀x∈(match τ[τ.length-1-k]? with|some q=>ng q (bst τ br k)|none=>bst τ br k).1,x<U
  cases e:τ[τ.length-1-k]? with
  |none=>exact ih
  |some q=>
   simp only;unfold ng;split
   ·exact vO ih.1 ih.2 (hτ q (List.mem_of_getElem? e))
   ·exact ih
theorem FQ{τ:List Tr}{br:Rule}:∀k,(bst τ br k).2.length<=k
 |0=>by simp[bst]
 |k+1=>by
  have ih:=FQ (τ:=τ) (br:=br) k
  show(match τ[τ.length-1-k]? with|some q=>ng q (bst τ br k)|none=>bst τ br k).2.length<=k+1
  cases e:τ[τ.length-1-k]? with
  |none=>simp only;omega
  |some q=>
   simp only;unfold ng;split
   ·simp only;split
    ·simp;omega
    ·omega
   ·omega
theorem RK.app{w:World}{W W2 W3:World}{v v':Value}{C:Rule}{bm:Nat}(hx:W.heap[w.heap.size]?=some (.cells #[v] 161 (0,0)))(hg:W.grownBy W2 none)(hg3:W2.grownBy W3 v.ownBlock)
 (hr:W.ownsRow w.heap.size 214 2 v C.length (vcs C)):RK bm W (W3.setCell ⟨w.heap.size,0,none⟩ v'):=by
 refine⟨by have:=hg.size;have:=hg3.size;simp[World.setCell];omega,λj o h1 h2 h3 h4=>?_⟩;have hjl:=(ac0.1 h1).1;have hj5:j≠w.heap.size:=λe=>by
  subst e;rw[hx]at h1;cases h1;exact h3 _ _ rfl
 rw[ae3 _ _ _ _ hj5];refine(hg3.block j (ac8 hjl hg.size) (λe=>?_)).trans ((hg.block j hjl (by simp)).trans h1);rcases hr.2 with⟨rfl,_⟩|⟨g,cap,cur,rfl,hb,hgb,_⟩
 ·cases e
 ·simp only[Value.ownBlock,ai0]at e;subst e;rw[h1]at hgb;cases hgb;exact h2 _ _ rfl
theorem lD{W:World}{base:Nat}{v:Value}{C:Rule}(h:W.ownsRow base 214 2 v C.length (vcs C))(hn:v=.slice none 0 0↔C=[]):aQ W v C:=by
 by_cases e:C=[]
 ·exact Or.inl ⟨e,hn.2 e⟩
 ·rcases h.2 with⟨e2,_⟩|⟨g,cap,cur,rfl,hb,hgb,h1,h2,h3,h4⟩
  ·exact absurd (hn.1 e2) e
  ·refine Or.inr ⟨g,cap,cur,(0,0),rfl,hgb,e,λi hi=>?_⟩;have hcc:∀c,c<2->cur[i*2+c]?=(Bd C[i])[c]?:=λc hc=>by
    have h5:(cur.toList.take (C.length*2))[i*2+c]?=(vcs C)[i*2+c]?:=(by rw[h4]);rw[am2,ae2 (by omega)]at h5;rw[show cur[i*2+c]?=cur.toList[i*2+c]? by simp,h5];exact flat_get (k:=2) (λ_=>rfl) (by decide) C i hi c hc
   exact⟨hcc 0 (by decide),hcc 1 (by decide)⟩
theorem tq(w:World)(x:Nat)(i:Bool)(t:TypeId)(n:Nat)(hn:w.heap.size=n):∀j u,(Bd (x,i))[j]?=some u->(w.alloc (.cells #[.int .i64 x,.bool i] t)).cell? ((⟨n,0,none⟩:Addr).add j)=some u:=by
 subst hn;intro j u hj
 match j,hj with
 |0,hj=>simp[Bd]at hj;subst hj;simp[go_sem,Addr.add]
 |1,hj=>simp[Bd]at hj;subst hj;simp[go_sem,Addr.add]
 |j+2,hj=>simp[Bd]at hj
theorem S9(u:View):∀v∈Bd u,v.oneCell'=true:=by
 intro v hv;simp[Bd]at hv;rcases hv with rfl|rfl<;>rfl
theorem NC(w:World)(b U:Nat)(rv ov:Value)(tp:List UInt8)(m:Nat)(τ:List Tr)(h:oI w b U rv ov tp (some m))(hB:bG w m τ)(v:Value)(br:Rule)(hv:aQ w v br)(hU:U<=500)(hbr:∀u∈br,u.1<U)(hbl:br.length<=1000)(hτU:∀q∈τ,q.1<U/\q.2.2.2.length<=1000/\∀u∈q.2.2.2,u.1<U)(hτ:τ.length<=500) :
  Calls prog 135 #[.pointer (some ⟨b,0,none⟩),v] w λe w'=>∃v',e=.returned v'/\aQ w' v' (su τ br)/\Below w.heap.size w w':=by
 refine(af9 (n:=8)).1 ?_;obtain⟨i0,hin,hz0,hz1,hz2⟩:=ak1 JB;obtain⟨vp,vc,rfl,hvn,hvs⟩:=hv.cells;obtain⟨_,_,_,_,c4⟩:=h.cells;have hb0:=h.lt;have hmm:=@ar7 prog;refine ai3 func135 rfl trivial ?_ rfl;simp only[ntmps135,ad3,ac9,ae1,Nat.reduceAdd,Nat.reduceSub,ac7,ac6,ad5,af0,ad9,ad8]
 gi_wp2
 obtain⟨w1,hw1⟩:∃w1,(((w.alloc (.cells #[.slice none 0 0] 161)).alloc (.map #[] 0)).alloc (.cells #[.map (some (w.heap.size+1))] 218))=w1:=⟨_,rfl⟩;have hG0:BG w [] [] w1:=by
  have hs1:(w.alloc (.cells #[.slice none 0 0] 161)).heap.size=w.heap.size+1:=by simp
  refine⟨⟨.slice none 0 0,?_,al9 _ _ _ _,by simp⟩,?_,?_,?_⟩
  ·rw[<-hw1,ad4 _ _ _ (by simp;omega),ad4 _ _ _ (by simp),ad7]
  ·have:=jm (α:=Nat) (w.alloc (.cells #[.slice none 0 0] 161)) 3 kR;rw[hs1]at this;refine this.kept ?_;rw[<-hw1,ad4 _ _ _ (by simp)]
  ·rw[<-hw1];have:=ad7 ((w.alloc (.cells #[.slice none 0 0] 161)).alloc (.map #[] 0)) (.cells #[.map (some (w.heap.size+1))] 218);simpa using this
  ·rw[<-hw1];exact((((af5 _ w).alloc (ac2 _) _).alloc (by simp) _).alloc (by simp;omega) _)
 rw[hw1];clear hw1 hmm
 gi_loopw [18] (λi wr=>∃k:Nat,k<=br.length/\i=.int .i64 k/\BG w (oW [] (br.take k)) [] wr) (λi _=>br.length-(intOf i).toNat)
 case atStart=>exact⟨0,ag3 _,rfl,hG0⟩
 case round=>
  obtain⟨k,hk,rfl,hG⟩:=hrel;by_cases hlt:k<br.length
  ·have hbd:(k:Int)<(br.length:Int):=(by omega);obtain⟨g,rfl,hgl,hcs⟩:=hvs (λe=>by rw[e]at hlt;simp at hlt);obtain⟨d0,d1⟩:=hcs wr hG.below k hlt;have hbt:=Bl hlt [];have hx6:wr.cell? ⟨w.heap.size+1+1,0,none⟩=some (.map (some (w.heap.size+1))):=(by rw[cell_of hG.x6];rfl);have hsl:w.heap.size+1+1<wr.heap.size:=(by have:=hG.lt;omega);have hul:=hbr _ (ac4 hlt);have Fa:=Rh (br.take k) [];have htl:(br.take k).length<=1000:=ae4 (List.length_take_le' _ _) hbl;simp at Fa;have HG:=aj hG;have HBT:=aj hbt;have HCS:=aj hcs;clear hG hbt hcs hvs hvn hG0;generalize br[k]=u at d0 d1 hul HBT;obtain⟨ux,ui⟩:=u;simp only at d0 d1 hul HBT
   gi_wp2
   have hgA:wr.grownBy (wr.alloc (.cells #[.int .i64 ux,.bool ui] 214)) none:=ac1 _ _ none;have hGA:=(ah HG).grow hgA (λr e=>by cases e);refine⟨trivial,(af9.2 (yw (w.heap.size+1) _ ux _ (by omega) (by simp at *;omega) hGA.m)).mono ?_⟩;rintro e w2 ⟨rfl,hm2,hg2⟩;have hG2:=hGA.num hg2 hm2;rw[<-ah HBT]at hG2;clear hGA hm2 hg2 hgA
   gi_wp2
   go_roundw
   case rel=>exact⟨k+1,hlt,by go_num,hG2⟩
   case measure=>simp[intOf];omega
  ·have hkk:k=br.length:=(by omega);have hbd:¬(k:Int)<(br.length:Int):=(by omega);rw[hkk,ai1]at hG;have hc4:wr.cell? ⟨b,4,none⟩=some (.map (some m)):=(by rw[hG.below.cell (p:=⟨b,4,none⟩) hb0];exact c4);have HG:=aj hG;clear hG hkk hG0
   gi_wp2
   refine⟨trivial,(af9.2 (yh 177 m wr)).mono ?_⟩;rintro e w3 ⟨rfl,t3,rfl⟩
   gi_wp2
   obtain⟨w2,hw2⟩:∃w2,(wr.alloc (.cells #[.map (some m)] 159)).alloc (.cells #[.func (.func 177) #[] #[]] t3)=w2:=⟨_,rfl⟩;have hg2:wr.grownBy w2 none:=(by rw[<-hw2];exact(ac1 _ _ none).trans (ac1 _ _ none));have hs2:w2.heap.size=wr.heap.size+2:=(by rw[<-hw2];simp);have hM2:w2.heap[wr.heap.size]?=some (.cells #[.map (some m)] 159 (0,0)):=(by rw[<-hw2,ad4 _ _ _ (by simp),ad7]);have hR2:w2.cell? ⟨wr.heap.size+1,0,none⟩=some (.func (.func 177) #[] #[]):=(by rw[<-hw2];simp[go_sem]);have hG2:BG w (bst τ br 0).1 (bst τ br 0).2 w2:=(ah HG).grow hg2 (λr e=>by cases e);have hwm:m<w.heap.size:=hB.lt;have hBM:lq w2 m τ:=hB.m.kept (hG2.below.block m hwm);have hseq:=AZ 177 _ EJ (aq2 func177 (by kernel_rfl) rfl) τ (by omega) 7 (by omega) wr.heap.size (wr.heap.size+1) m w2.heap.size _ w2 (ac2 _) (Gm hB.nodup) (by rw[cell_of hM2];rfl) hR2 hBM;rw[hw2];have hwr:=(ah HG).lt;have hI0:BR w wr.heap.size m τ br 0 w2:=⟨hG2,hM2⟩;have hown:OwnFrom w2.heap.size (BR w wr.heap.size m τ br):=by
    intro k W W' row hI hg hr;refine⟨hI.g.grow hg (λr e=>⟨by have:=(hr r e).1;omega,(hr r e).2⟩),(hg.block _ (ac0.1 hI.mb).1 (λe=>by have:=(hr _ e.symm).1;omega)).trans hI.mb⟩
   have HB:=aj hB;have HV:=aj hvs;have hk0:∃k0:Nat,k0=k:=⟨k,rfl⟩;obtain⟨k0,hk0⟩:=hk0;rw[<-hk0];clear hw2 hG2 hM2 hR2 hBM hB HG hg2 hc4 hvs hvn hbd hk hk0;have hnl:(τ.reverse.map (·.1)).length=τ.length:=(by simp);refine dA rfl (by omega) rfl trivial (λ_ _=>by simp[go_sem]) hseq Rw.trans ?_ (af5 _ _) ?_ (BR w wr.heap.size m τ br) hown hI0
    (λk a' W=>∃(hk:k<τ.length) (p:Nat),W.heap[p]?=some (.cells #[.bool (τ[τ.length-1-k]'(by omega)).2.1,.int .i64 (τ.length-1-k:Nat),(τ[τ.length-1-k]'(by omega)).2.2.1] 229 (0,0))/\
     a'={tmps:=#[.pointer (some ⟨b,0,none⟩),.slice vp br.length vc,undef,undef,.slice none 0 0,.pointer (some ⟨w.heap.size,0,none⟩),.pointer (some ⟨w.heap.size+1+1,0,none⟩),undef,u8,kR (τ[τ.length-1-k]'(by omega)).1,.pointer (some ⟨p,0,none⟩),undef,undef,undef,undef,.map (some (w.heap.size+1)),.slice vp br.length vc,.int .i64 br.length,.int .i64 k0,.bool false,u20,u21,u22,u23,u24,u25,u26,.pointer (some ⟨b,0,none⟩),.pointer (some ⟨b,0,none⟩),.pointer (some ⟨b,4,none⟩),.map (some m),.func (.func 181) #[] #[.pointer (some ⟨wr.heap.size,0,none⟩),.pointer (some ⟨wr.heap.size+1,0,none⟩)],kR (τ[τ.length-1-k]'(by omega)).1,oV (τ[τ.length-1-k]'(by omega)) (τ.length-1-k),undef,undef,undef,undef,undef,undef,undef,undef,undef,undef,undef,undef,undef,undef,undef,undef,undef,undef,undef,undef,undef,undef,undef,undef,undef,undef,undef,undef,undef,undef,undef,undef],defers:=[]}) ?own ?assign ?body ?done
   ·intro W l o o' hlw ho hc hwk;refine⟨λj cur x hj hx=>(ae6 (λe=>?_)).trans hx,ae6 (by omega),ae6 (by omega)⟩;subst e;rw[ho]at hx;cases hx;cases hc
   ·intro k hk;simp
   case own=>
    rintro k a' ⟨⟩ W W' row ⟨hk,p,hp,e⟩ hg hr;refine⟨hk,p,(hg.block p (ac0.1 hp).1 (λe2=>?_)).trans hp,e⟩;obtain⟨o,ho,hc⟩:=(hr p e2.symm).2;rw[hp]at ho;cases ho;cases hc
   case assign=>
    intro l k hk W K hI hK;have hk':k<τ.length:=(by simpa using hk);have e1:((τ.reverse.map (·.1)).map λx=>#[kR x,uH τ x])[k]'hk=#[kR (τ[τ.length-1-k]'(by omega)).1,oV (τ[τ.length-1-k]'(by omega)) (τ.length-1-k)]:=by
     simp only[ak9,List.getElem_reverse]
     congr 2
     unfold uH;rw[jq (ah HB).nodup (by omega)]
    rw[e1];obtain⟨qp,ql,qc,hqs⟩:=(ah HB).m.shape (τ[τ.length-1-k]'(by omega)) (ac4 _);have hK2:=λa' W' h1 h2 h3 h4=>hK a' W' h1 h2 h3 ⟨hk',h4⟩;have hmb:=(ac0.1 hI.mb).1;have hml:m<W.heap.size:=(by have:=hI.g.below.size;omega);have hIa:=(hown.alloc (.cells #[.bool (τ[τ.length-1-k]'(by omega)).2.1,.int .i64 (τ.length-1-k:Nat),(τ[τ.length-1-k]'(by omega)).2.2.1] 229) hI);clear hK;simp only[oV]at hK2 ⊢;generalize (τ[τ.length-1-k]'(by omega))=q at hK2 hqs hIa ⊢;generalize τ.length-1-k=t at hK2 hIa ⊢;obtain⟨qx,qi,qv,qr⟩:=q;simp only at hqs hK2 hIa ⊢;subst hqs;simp only[kR]at hK2 ⊢
    gi_wp2
    exact hK2 _ _ ((an4 _ _).from _) ⟨λj cur x hj hx=>(ad4 _ _ _ (ac0.1 hx).1).trans hx,ad4 _ _ _ hmb,ad4 _ _ _ hml⟩ hIa ⟨W.heap.size,ad7 _ _,rfl⟩
   case body=>
    rintro l k a' W hk hlw hI ⟨hk',p,hp,rfl⟩;have hst:=FN (br:=br) hk';have hmem:(τ[τ.length-1-k]'(by omega))∈τ:=ac4 _;obtain⟨hqU,hql,hqv⟩:=hτU _ hmem;have hgood:=FP (k:=k) hbr (λq hq=>(hτU q hq).2.2);have UW:=FQ (τ:=τ) (br:=br) k;obtain⟨rp,rc,hqr,hrn,hrs⟩:=((ah HB).Ny _ hmem).cells;obtain⟨z,hrun⟩:=hI.g.m.XP (x:=(τ[τ.length-1-k]'(by omega)).1) (by omega);have hx6:W.cell? ⟨w.heap.size+1+1,0,none⟩=some (.map (some (w.heap.size+1))):=(by rw[cell_of hI.g.x6];rfl);have p0:W.cell? ⟨p,0,none⟩=some (.bool (τ[τ.length-1-k]'(by omega)).2.1):=(by rw[cell_of hp];rfl);have p2:W.cell? ⟨p,2,none⟩=some (τ[τ.length-1-k]'(by omega)).2.2.1:=(by rw[cell_of hp];rfl);rw[hqr]at p2;have hpl:p<W.heap.size:=(ac0.1 hp).1;have hfin:Hid (∀(a:Act) (W':World),RK (w.heap.size+1) W W'->BG w (bst τ br (k+1)).1 (bst τ br (k+1)).2 W'->iG w2.heap.size (Rw w2.heap.size wr.heap.size m) (BR w wr.heap.size m τ br (k+1)) W .normal a W'):=λa W' h1 h2=>hI.fin h1 h2 (by omega) (by omega) hwm;have hG:=hI.g;have hsl:=hG.lt;rw[hst]at hfin;simp only[oV];rw[hqr];rw[hqr]at hp;have HP:=aj hp;have HRN:=aj hrn;have HRS:=aj hrs;clear hst hI hmem hI0 hown hseq hp hqr hrn hrs;generalize (τ[τ.length-1-k]'(by omega))=q at hfin hqU hql hqv HRN HRS hrun p0 p2 HP ⊢;generalize τ.length-1-k=t at HP ⊢;generalize bst τ br k=st at hfin hgood UW hrun hG;obtain⟨B,C⟩:=st;obtain⟨qx,qi,qv,qr⟩:=q;simp only at hfin hqU hql hqv HRN HRS hrun p0 p2 HP hgood UW hG ⊢;have dh:=aj hfin;have HG:=aj hG;unfold ng at dh;simp only at dh;clear hfin;cases hc:B.contains qx
    ·rw[hc]at hrun dh;simp only[am4,am7]at dh;simp only[kR]
     gi_wp2
     exact ah (ah dh) _ _ (RK.refl _ _) hG
    ·rw[hc]at hrun dh;simp only[aj0]at dh;simp only[kR];by_cases he:qr=[]
     ·subst he;obtain⟨rfl,rfl⟩:=ah HRN rfl;obtain⟨v5,hx5,hrow,hnil⟩:=hG.x5;have hc5:W.cell? ⟨w.heap.size,0,none⟩=some v5:=(by rw[cell_of hx5];rfl);have hf5:W.frozen? ⟨w.heap.size,0,none⟩=false:=(by simp[World.frozen?,hx5]);have hbp:oW B []=B:=rfl;rw[hbp]at dh;simp only[List.isEmpty_nil,aj0]at dh;have HX5:=aj hx5;have fK:=aj hrow;have hs0:w.heap.size<W.heap.size:=(by omega);have heq:=Ug 0 0 W;clear hG hx5 hnil hbp;have hgA:W.grownBy (W.alloc (.cells #[.int .i64 qx,.bool (!qi)] 214)) none:=ac1 _ _ none;have hmid:Hid (∀w3,(W.alloc (.cells #[.int .i64 qx,.bool (!qi)] 214)).grownBy w3 v5.ownBlock->w3.cell? ⟨w.heap.size,0,none⟩=some v5/\w3.frozen? ⟨w.heap.size,0,none⟩=false/\∀v',(w3.setCell ⟨w.heap.size,0,none⟩ v').cell? ⟨p,2,none⟩=some (.slice none 0 0)):=λw3 hg3=>by
       have hx3:=BG.mid (ah HX5) hgA hg3 (ah fK);refine⟨by rw[cell_of hx3];rfl,by simp[World.frozen?,hx3],λv'=>?_⟩;have h1:=(RK.app (bm:=w.heap.size+1) (v':=v') (ah HX5) hgA hg3 (ah fK)).2 p _ (ah HP) (λcur x e=>by simp at e) (λcur x e=>by simp at e) (λe=>by
        obtain⟨D,⟨es,clock,hmp,_⟩,_⟩:=(ah HG).m;have:=ah HP;rw[e,hmp]at this;cases this)
       rw[cell_of h1];rfl
      have hpn:p≠w.heap.size:=λe=>by have:=ah HP;rw[e,ah HX5]at this;simp at this
      gi_wp2_with (gi_at_builtin;refine ap8 _ rfl _ _ 161 rfl w.heap.size 214 i0 _ 2 16 underlying161 hin hz0 hz1 hz2 rfl (by decide) v5 C.length (vcs C) rfl ((ah fK).alloc _) ⟨W.heap.size,0,none⟩ 1 1 (Bd (qx,!qi)) rfl rfl (tq _ _ _ _ _ rfl) (S9 _) (by unfold maxLen;omega) (by omega) (by simp;omega) ?_;intro v' w3 hown' hg3 hnil3 hat;obtain⟨hc3,hf3,hpp⟩:=ah hmid w3 hg3;obtain⟨g',cap',hv'⟩:=dM hown' (ak4 _);subst hv';have aai:=hpp (.slice (some ⟨g',0,none⟩) (C.length+1) cap'))
      have hGF:=(ah HG).app (u:=(qx,!qi)) (ah HX5) hgA hg3 (ah fK) hown' (by simp);have hRF:=RK.app (bm:=w.heap.size+1) (v':=.slice (some ⟨g',0,none⟩) (C.length+1) cap') (ah HX5) hgA hg3 (ah fK);have HGF:=aj hGF;have HRF:=aj hRF;clear hGF hRF hpp aai hc3 hf3 hown' hg3 hnil3 hat
      gi_loopw [56] (λi wq=>i=.int .i64 0/\BG w B (C++[(qx,!qi)]) wq/\RK (w.heap.size+1) W wq) (λ_ _=>0)
      case atStart=>exact⟨rfl,ah HGF,ah HRF⟩
      case round=>
       obtain⟨rfl,hGj,hRj⟩:=hrel;rw[hs2]at dh
       gi_wp2
       exact ah (ah dh) _ _ hRj hGj
     ·obtain⟨g,rfl,hgl,hcs⟩:=ah HRS he;have hem:qr.isEmpty=false:=(by simpa using he);rw[hem]at dh;simp only[am4,am7]at dh;have heq:=Uf ⟨g,0,none⟩ qr.length rc W;clear hG
      gi_wp2
      gi_loopw [56] (λi wq=>∃j:Nat,j<=qr.length/\i=.int .i64 j/\BG w (oW B (qr.take j)) C wq/\RK (w.heap.size+1) W wq) (λi _=>qr.length-(intOf i).toNat)
      case atStart=>exact⟨0,ag3 _,rfl,ah HG,RK.refl _ _⟩
      case round=>
       obtain⟨j,hj,rfl,hGj,hRj⟩:=hrel;by_cases hjl:j<qr.length
       ·have hbd:(j:Int)<(qr.length:Int):=(by omega);obtain⟨d0,d1⟩:=hcs wr hGj.below j hjl;have hbt:=Bl hjl B;have G9:wr.cell? ⟨w.heap.size+1+1,0,none⟩=some (.map (some (w.heap.size+1))):=(by rw[cell_of hGj.x6];rfl);have acj:w.heap.size+1+1<wr.heap.size:=(by have:=hGj.lt;omega);have hul:=hqv _ (ac4 hjl);have hgd:=vO (r:=qr.take j) hgood.1 hgood.2 (λu hu=>hqv u (ao4 hu));have Fa:=jl U _ hgd.1 hgd.2;have HGJ:=aj hGj;have HRJ:=aj hRj;have HBT:=aj hbt;clear hGj hRj hbt hgd;generalize qr[j]=u at d0 d1 hul HBT;obtain⟨ux,ui⟩:=u;simp only at d0 d1 hul HBT
        gi_wp2
        have hgA:wr.grownBy (wr.alloc (.cells #[.int .i64 ux,.bool ui] 214)) none:=ac1 _ _ none;have hGA:=(ah HGJ).grow hgA (λr e=>by cases e);refine⟨trivial,ar0 l (af9.2 ((yw (w.heap.size+1) _ ux _ (by omega) (by omega) hGA.m).mono ?_))⟩;rintro e w4 ⟨rfl,hm2,hg2⟩;have hG2:=hGA.num hg2 hm2;have hR2:=(ah HRJ).trans ((RK.grown hgA (λj e=>by cases e)).trans (RK.grown hg2 (λj e=>by cases e;rfl)));rw[<-ah HBT]at hG2;clear hGA hm2 hg2 hgA
        gi_wp2
        go_roundw
        case rel=>exact⟨j+1,hjl,by go_num,hG2,hR2⟩
        case measure=>simp[intOf];omega
       ·have hjj:j=qr.length:=(by omega);have hbd:¬(j:Int)<(qr.length:Int):=(by omega);rw[hjj,ai1]at hGj;clear hjj;rw[hs2]at dh
        gi_wp2
        exact ah (ah dh) _ _ hRj hGj
   case done=>
    intro D W hD hI hdef;have hI2:=hown.putObj (.deferred none) hI hD hdef rfl;have hln:((τ.reverse.map (·.1)).map λx=>#[kR x,uH τ x]).length=τ.length:=(by simp);rw[hln]at hI hI2;obtain⟨v5,hx5,ET,Yf⟩:=hI.g.x5;have hc5:W.cell? ⟨w.heap.size,0,none⟩=some v5:=by rw[cell_of hx5];rfl
    gi_wp2
    refine⟨by simp,.inl ⟨_,_,rfl,ai9 hdef,?_⟩⟩;refine⟨_,an2 rfl _ _ _,v5,rfl,?_,hI2.g.below⟩;obtain⟨v6,hx6,tZ,JE⟩:=hI2.g.x5;have e56:v6=v5:=by
     have hne:D≠w.heap.size:=(by have:=(ac0.1 hx5).1;omega);have:(W.putObj D (.deferred none)).heap[w.heap.size]?=W.heap[w.heap.size]?:=ae6 (λe=>hne e.symm);rw[this,hx5]at hx6;simpa using hx6.symm
    subst e56;change W.ownsRow w.heap.size 214 2 v6 (su τ br).length (vcs (su τ br))at ET;change _↔su τ br=[]at JE;change World.ownsRow _ w.heap.size 214 2 v6 (su τ br).length (vcs (su τ br))at tZ;exact lD tZ JE
end Go.Proofs.YthcppbmkacbbiaaGreat
