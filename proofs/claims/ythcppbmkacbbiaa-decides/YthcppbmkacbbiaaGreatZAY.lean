import Derived.Test.YthcppbmkacbbiaaGreatZAU
import Derived.Test.YthcppbmkacbbiaaGreatZAV
import Derived.Test.YthcppbmkacbbiaaGreatZAX
import Derived.Test.YthcppbmkacbbiaaGreatSri
set_option linter.unusedSimpArgs false
set_option maxHeartbeats 1000000
set_option maxRecDepth 100000
namespace Go.Proofs.YthcppbmkacbbiaaGreat
open Go.Proofs.Tryz
section
open Go.RowKit
open au (St put cut gu gq)
theorem Nh:(prog.info? 3).map (λi=>(i.zero,i.size,i.bytes))=some (some (.int .i64 0),1,8):=by kernel_rfl
def vI(x:Int):Value:=.int .i64 x
theorem uT(w:World)(x:Int)(t:TypeId)(n:Nat)(hn:w.heap.size=n):∀j u,[vI x][j]?=some u->(w.alloc (.cells #[vI x] t)).cell? ((⟨n,0,none⟩:Addr).add j)=some u:=by
 subst hn;intro j u hj;cases j with
 |zero=>simp at hj;subst hj;simp[Addr.add]
 |succ j=>simp at hj
theorem WR(x:Int):∀u∈[vI x],u.oneCell'=true:=by intro u hu;simp at hu;subst hu;rfl
theorem grownBy_setCell(W:World)(X o:Nat)(v:Value):W.grownBy (W.setCell ⟨X,o,none⟩ v) (some X):=
 ⟨rfl,rfl,rfl,by simp[World.setCell],λk _ hk=>ag6 _ _ _ _ (λe=>hk (by simp[e]))⟩
theorem jX{w:World}{base e n:Nat}{v:Value}{xs:List Value}(h:w.ownsRow base e 1 v n xs):∃ao cap,v=.slice ao n cap:=by
 obtain⟨_,h2⟩:=h;rcases h2 with⟨e,e2⟩|⟨g,cap,cur,e,_⟩
 ·subst e2;exact⟨_,_,e⟩
 ·exact⟨_,_,e⟩
structure PG(w:World)(v1 v2:Value)(cl:List Int)(hl:List Bool)(W:World):Prop where
 below:Below w.heap.size w W
 x0:W.cell? ⟨w.heap.size+1,0,none⟩=some v1
 x1:W.cell? ⟨w.heap.size+1,1,none⟩=some v2
 f:∀i,W.frozen? ⟨w.heap.size+1,i,none⟩=false
 y0:W.cell? ⟨w.heap.size,0,none⟩=some (.slice none 0 0)
 y1:W.cell? ⟨w.heap.size,1,none⟩=some (.slice none 0 0)
 g:∀i,W.frozen? ⟨w.heap.size,i,none⟩=false
 r1:W.ownsRow (w.heap.size+2) 3 1 v1 cl.length (cl.map vI)
 r2:W.ownsRow (w.heap.size+2) 4 1 v2 hl.length (hl.map Value.bool)
 size:w.heap.size+2<=W.heap.size
theorem Dl{W:World}{base e size n:Nat}{v:Value}{xs:List Value}{k:Nat}(h:W.ownsRow base e size v n xs)(hk:v.ownBlock=some k):∃c fz,W.heap[k]?=some (.cells c e fz):=by
 rcases h.2 with⟨h1,_⟩|⟨g,cap,cur,h1,h2,h3,_⟩
 ·subst h1;simp[Value.ownBlock]at hk
 ·subst h1;simp[Value.ownBlock]at hk;subst hk;exact⟨_,_,h3⟩
theorem rows_apart{W:World}{b1 b2 e1 e2 n1 n2:Nat}{v1 v2:Value}{x1 x2:List Value}(h1:W.ownsRow b1 e1 1 v1 n1 x1)(h2:W.ownsRow b2 e2 1 v2 n2 x2)(he:e1≠e2):v1.ownBlock=none\/v1.ownBlock≠v2.ownBlock:=by
 cases hv:v1.ownBlock with
 |none=>exact .inl rfl
 |some k=>
  refine .inr λe=>?_;obtain⟨c,fz,h3⟩:=Dl h1 hv;obtain⟨c',fz',h4⟩:=Dl h2 e.symm;rw[h3]at h4;have h5:=am2 h4;injection h5 with _ h6 _
  exact he h6
theorem PG.aay{w W W3:World}{v1 v2:Value}{cl:List Int}{hl:List Bool}{o:Obj}(h:PG w v1 v2 cl hl W)(hg:(W.alloc o).grownBy W3 v1.ownBlock):W3.cell? ⟨w.heap.size+1,0,none⟩=some v1/\W3.frozen? ⟨w.heap.size+1,0,none⟩=false:=by
 have hga:W.grownBy W3 v1.ownBlock:=(ae9 _ _ _).trans hg;have hb:=hga.block (w.heap.size+1) (by have:=h.size;omega) (λe=>by have:=(h.r1.lt _ e.symm).1;omega);exact⟨(ag2 hb).trans h.x0,(aj3 hb).trans (h.f 0)⟩
theorem PG.aax{w W W3:World}{v1 v2:Value}{cl:List Int}{hl:List Bool}{o:Obj}(h:PG w v1 v2 cl hl W)(hg:(W.alloc o).grownBy W3 v2.ownBlock):W3.cell? ⟨w.heap.size+1,1,none⟩=some v2/\W3.frozen? ⟨w.heap.size+1,1,none⟩=false:=by
 have hga:W.grownBy W3 v2.ownBlock:=(ae9 _ _ _).trans hg;have hb:=hga.block (w.heap.size+1) (by have:=h.size;omega) (λe=>by have:=(h.r2.lt _ e.symm).1;omega);exact⟨(ag2 hb).trans h.x1,(aj3 hb).trans (h.f 1)⟩
theorem PG.drew{w W:World}{v1 v2:Value}{cl:List Int}{hl:List Bool}(h:PG w v1 v2 cl hl W):PG w v1 v2 cl hl W.drew:=
 ⟨h.below.drew,h.x0,h.x1,h.f,h.y0,h.y1,h.g,h.r1,h.r2,h.size⟩
theorem PG.one{w W W3:World}{v1 v2 v':Value}{cl:List Int}{hl:List Bool}{d:Int}{o:Obj}(h:PG w v1 v2 cl hl W)(hown:W3.ownsRow (w.heap.size+2) 3 1 v' (cl.length+1) (cl.map vI++[vI d]))(hg:(W.alloc o).grownBy W3 v1.ownBlock) :
  PG w v' v2 (cl++[d]) hl (W3.setCell ⟨w.heap.size+1,0,none⟩ v'):=by
 have hb:∀k,v1.ownBlock=some k->w.heap.size+2<=k:=λk e=>(h.r1.lt k e).1;have hga:W.grownBy W3 v1.ownBlock:=(ae9 _ _ _).trans hg;have hn:∀k,k<w.heap.size+2->v1.ownBlock≠some k:=λk hk e=>by have:=hb k e;omega
 have ck:∀k i,k<w.heap.size+2->W3.cell? ⟨k,i,none⟩=W.cell? ⟨k,i,none⟩:=λk i hk=>ag2 (hga.block k (by have:=h.size;omega) (λe=>hn k hk e.symm));have fk:∀k i,k<w.heap.size+2->W3.frozen? ⟨k,i,none⟩=W.frozen? ⟨k,i,none⟩:=λk i hk=>aj3 (hga.block k (by have:=h.size;omega) (λe=>hn k hk e.symm));have hr2:W3.ownsRow (w.heap.size+2) 4 1 v2 hl.length (hl.map Value.bool):=h.r2.kept hga (rows_apart h.r2 h.r1 (by decide));have hset:=grownBy_setCell W3 (w.heap.size+1) 0 v';have hnX:∀{v:Value} {e n:Nat} {xs:List Value},W3.ownsRow (w.heap.size+2) e 1 v n xs->v.ownBlock=none\/v.ownBlock≠some (w.heap.size+1):=λhr=>.inr λe=>by have:=(hr.lt _ e).1;omega
 refine⟨?_,?_,?_,?_,?_,?_,?_,?_,hr2.kept hset (hnX hr2),?_⟩
 ·exact(h.below.grown hga h.below.size (λk e=>by have:=hb k e;omega)).setCell (p:=⟨w.heap.size+1,0,none⟩) (by show w.heap.size<=w.heap.size+1;omega) _
 ·exact bQ _ ((ck _ 0 (by omega)).trans h.x0)
 ·refine(World.cell?_setCell_other W3 ⟨w.heap.size+1,0,none⟩ ⟨w.heap.size+1,1,none⟩ v' (by simp)).trans ?_;exact(ck _ 1 (by omega)).trans h.x1
 ·intro i;rw[an9];exact(fk _ i (by omega)).trans (h.f i)
 ·exact(ag2 (ag6 _ _ _ _ (by show w.heap.size≠w.heap.size+1;omega))).trans ((ck _ 0 (by omega)).trans h.y0)
 ·exact(ag2 (ag6 _ _ _ _ (by show w.heap.size≠w.heap.size+1;omega))).trans ((ck _ 1 (by omega)).trans h.y1)
 ·intro i;rw[an9];exact(fk _ i (by omega)).trans (h.g i)
 ·have:=hown.kept hset (hnX hown);simpa using this
 ·have h1:=h.size;have h2:=hga.size;have h3:(W3.setCell ⟨w.heap.size+1,0,none⟩ v').heap.size=W3.heap.size:=by simp[World.setCell]
  omega
theorem PG.two{w W W3:World}{v1 v2 v':Value}{cl:List Int}{hl:List Bool}{d:Bool}{o:Obj}(h:PG w v1 v2 cl hl W)(hown:W3.ownsRow (w.heap.size+2) 4 1 v' (hl.length+1) (hl.map Value.bool++[.bool d]))(hg:(W.alloc o).grownBy W3 v2.ownBlock) :
  PG w v1 v' cl (hl++[d]) (W3.setCell ⟨w.heap.size+1,1,none⟩ v'):=by
 have hb:∀k,v2.ownBlock=some k->w.heap.size+2<=k:=λk e=>(h.r2.lt k e).1;have hga:W.grownBy W3 v2.ownBlock:=(ae9 _ _ _).trans hg;have hn:∀k,k<w.heap.size+2->v2.ownBlock≠some k:=λk hk e=>by have:=hb k e;omega
 have ck:∀k i,k<w.heap.size+2->W3.cell? ⟨k,i,none⟩=W.cell? ⟨k,i,none⟩:=λk i hk=>ag2 (hga.block k (by have:=h.size;omega) (λe=>hn k hk e.symm));have fk:∀k i,k<w.heap.size+2->W3.frozen? ⟨k,i,none⟩=W.frozen? ⟨k,i,none⟩:=λk i hk=>aj3 (hga.block k (by have:=h.size;omega) (λe=>hn k hk e.symm));have hr1:W3.ownsRow (w.heap.size+2) 3 1 v1 cl.length (cl.map vI):=h.r1.kept hga (rows_apart h.r1 h.r2 (by decide));have hset:=grownBy_setCell W3 (w.heap.size+1) 1 v';have hnX:∀{v:Value} {e n:Nat} {xs:List Value},W3.ownsRow (w.heap.size+2) e 1 v n xs->v.ownBlock=none\/v.ownBlock≠some (w.heap.size+1):=λhr=>.inr λe=>by have:=(hr.lt _ e).1;omega
 refine⟨?_,?_,?_,?_,?_,?_,?_,hr1.kept hset (hnX hr1),?_,?_⟩
 ·exact(h.below.grown hga h.below.size (λk e=>by have:=hb k e;omega)).setCell (p:=⟨w.heap.size+1,1,none⟩) (by show w.heap.size<=w.heap.size+1;omega) _
 ·refine(World.cell?_setCell_other W3 ⟨w.heap.size+1,1,none⟩ ⟨w.heap.size+1,0,none⟩ v' (by simp)).trans ?_;exact(ck _ 0 (by omega)).trans h.x0
 ·exact bQ _ ((ck _ 1 (by omega)).trans h.x1)
 ·intro i;rw[an9];exact(fk _ i (by omega)).trans (h.f i)
 ·exact(ag2 (ag6 _ _ _ _ (by show w.heap.size≠w.heap.size+1;omega))).trans ((ck _ 0 (by omega)).trans h.y0)
 ·exact(ag2 (ag6 _ _ _ _ (by show w.heap.size≠w.heap.size+1;omega))).trans ((ck _ 1 (by omega)).trans h.y1)
 ·intro i;rw[an9];exact(fk _ i (by omega)).trans (h.g i)
 ·have:=hown.kept hset (hnX hown);simpa using this
 ·have h1:=h.size;have h2:=hga.size;have h3:(W3.setCell ⟨w.heap.size+1,1,none⟩ v').heap.size=W3.heap.size:=by simp[World.setCell]
  omega
theorem PG.ret{w W:World}{v1 v2:Value}{cl:List Int}{hl:List Bool}(h:PG w v1 v2 cl hl W):∃W',(W.setCell ⟨w.heap.size,0,none⟩ v1).setCell ⟨w.heap.size,1,none⟩ v2=W'/\W'.cell? ⟨w.heap.size,0,none⟩=some v1/\W'.cell? ⟨w.heap.size,1,none⟩=some v2/\Below w.heap.size w W'/\
  W'.ownsRow (w.heap.size+2) 3 1 v1 cl.length (cl.map vI)/\W'.ownsRow (w.heap.size+2) 4 1 v2 hl.length (hl.map Value.bool):=by
 have hg:W.grownBy ((W.setCell ⟨w.heap.size,0,none⟩ v1).setCell ⟨w.heap.size,1,none⟩ v2) (some w.heap.size):=(grownBy_setCell W w.heap.size 0 v1).trans (grownBy_setCell _ w.heap.size 1 v2);refine⟨_,rfl,?_,?_,?_,h.r1.kept hg (.inr λe=>by have:=(h.r1.lt _ e).1;omega),h.r2.kept hg (.inr λe=>by have:=(h.r2.lt _ e).1;omega)⟩
 ·refine(World.cell?_setCell_other _ ⟨w.heap.size,1,none⟩ ⟨w.heap.size,0,none⟩ v2 (by simp)).trans ?_;exact bQ _ h.y0
 ·refine bQ _ (u:=.slice none 0 0) ?_;exact(World.cell?_setCell_other _ ⟨w.heap.size,0,none⟩ ⟨w.heap.size,1,none⟩ v1 (by simp)).trans h.y1
 ·exact(h.below.setCell (p:=⟨w.heap.size,0,none⟩) (af0 _) _).setCell (p:=⟨w.heap.size,1,none⟩) (af0 _) _
end
section
open Go.RowKit
open au (St put cut gu gq)
attribute [local go_sem] Oper.semAt_some
theorem jc{P:Program}{Q:Exit->Act->World->Prop}{o:Oper}{a:Act}{w:World}{K:Act->World->Prop}(s x:Operand)(t:TypeId)(hop:o.op=Op.call {callee:=Callee.builtin Builtin.append,args:=#[s,x],argTypes:=#[t,t]})
 (base:Nat)(e:TypeId)(i:TypeInfo)(z:Value)(size bytes:Nat)(ht:P.underlying t=some (.slice e))(hi:P.info? e=some i)(hz:i.zero=some z)
 (hsize:i.size=size)(hby:i.bytes=bytes)(hzs:z.cells.size=size)(hsz:0<size)
 (v:Value)(n:Nat)(xs:List Value)(hs:a.eval s=v)(hown:w.ownsRow base e size v n xs)
 (ad:Addr)(m c:Nat)(news:List Value)(hx:a.eval x=.slice (some ad) m c)(hl:news.length=m*size)(hnews:∀j u,news[j]?=some u->w.cell? (ad.add j)=some u)(h1:∀u∈news,u.oneCell'=true)
 (h63:n+m<=maxLen)(hbytes:(n+m)*bytes<=140737488355328)(hbase:base<=w.heap.size)
 (hK:∀v' w',w'.ownsRow base e size v' (n+m) (xs++news)->w.grownBy w' v.ownBlock->K (a.put o.dst v') w'):Oper.wp P o a w K Q:=by
 obtain⟨v',w',hr,h2,h3,_,_⟩:=run_append_own_at (P:=P) w base t o.type e i z size bytes ht hi hz hsize hby hzs hsz v n xs hown ad m c news hl hnews h1 h63 hbytes hbase;unfold Oper.wp;simp[execOp,hop,resolve,invoke,builtin,hs,hx,hr,Result.andThen];exact hK v' w' h2 h3
theorem pW{a:Int}(h0:0<=a)(h1:a<=1000000):IntKind.i64.wrap a=a:=by
 simp[IntKind.wrap,IntKind.bits,IntKind.signed];omega
theorem Lh{l:List UInt8}{k:Nat}{most:Int}{acc:List Int}{c:UInt8}(hk:k<l.length)(hc:l[k]=c)(h:gu l (-1)=(gu (l.drop k) most).map (acc++·)) :
  gu l (-1)=if (c.toNat:Int)-48<0\/most+1<(c.toNat:Int)-48 then none else(gu (l.drop (k+1)) (max most ((c.toNat:Int)-48))).map ((acc++[(c.toNat:Int)-48])++·):=by
 rw[h,an6 hk,hc];simp only[gu];split
 ·rfl
 ·rw[Option.map_map]
  congr 1
  funext x;simp
theorem J3{l:List UInt8}{k:Nat}{acc:List Bool}{c:UInt8}(hk:k<l.length)(hc:l[k]=c)(h:gq l=(gq (l.drop k)).map (acc++·)) :
  gq l=if c≠48/\c≠49 then none else(gq (l.drop (k+1))).map ((acc++[decide (c=49)])++·):=by
 rw[h,an6 hk,hc];simp only[gq];split
 ·rfl
 ·rw[Option.map_map]
  congr 1
  funext x;simp
def PR(w:World)(oc:Option (List Int))(oh:Option (List Bool))(e:Ending)(w':World):Prop:=
 Below w.heap.size w w'/\∃a1 n1 c1 a2 n2 c2 ok,e=.returned (.tuple #[.agg #[.slice a1 n1 c1,.slice a2 n2 c2],.bool ok])/\match oc,oh with
  |some cl,some hl=>ok=true/\w'.ownsRow (w.heap.size+2) 3 1 (.slice a1 n1 c1) cl.length (cl.map vI)/\w'.ownsRow (w.heap.size+2) 4 1 (.slice a2 n2 c2) hl.length (hl.map Value.bool)
  |_,_=>ok=false
theorem PR.no{w w':World}{oc:Option (List Int)}{oh:Option (List Bool)}{a1 a2:Option Addr}{n1 c1 n2 c2:Nat}(hb:Below w.heap.size w w')(h:oc=none\/oh=none):PR w oc oh (.returned (.tuple #[.agg #[.slice a1 n1 c1,.slice a2 n2 c2],.bool false])) w':=by
 refine⟨hb,a1,n1,c1,a2,n2,c2,false,rfl,?_⟩;rcases h with rfl|rfl
 ·trivial
 ·cases oc<;>trivial
theorem Jv(w:World)(B:Nat)(s:ByteArray)(v4 v5:Value)(T C:List (List UInt8))(hT:T.length<=7)(hC:C.length<=4)(c4:w.cell? ⟨B,4,none⟩=some v4)(c5:w.cell? ⟨B,5,none⟩=some v5)(r4:w.ownsRow 0 9 1 v4 T.length (T.map str))(r5:w.ownsRow 0 9 1 v5 C.length (C.map str))
 (heq:s.size=T.length+1+C.length)(hlt:T.length<s.size)(hsl:s[T.length]'hlt=47) :
  Calls prog 59 #[.pointer (some ⟨B,0,none⟩),.string s] w (PR w (gu (s.data.toList.take T.length) (-1)) (gq (s.data.toList.drop (T.length+1)))):=by
 obtain⟨a4,p4,e4⟩:=aV r4;obtain⟨a5,p5,e5⟩:=aV r5;subst e4;subst e5;have hBlt:B<w.heap.size:=af5 w _ c4;have hb:((s.size:Int) != (T.length:Int)+1+(C.length:Int))=false:=by simp;omega
 have hlt':(T.length:Int)<(s.size:Int):=by omega
 have hb2:(((s[T.length]'hlt).toNat:Int) != 47)=false:=by rw[hsl];rfl
 have hBne:B≠w.heap.size:=by omega
 have Yl:B≠w.heap.size+1:=by omega
 have hB2:B<w.heap.size+1:=by omega
 have HEQ:=aj heq;have HSL:=aj hsl;have hsd:s.data.toList.length=s.size:=by simp
 have HSD:=aj hsd;clear heq hsl hsd;obtain⟨i0,hin,hz0,hz1,hz2⟩:=am6 Nh;obtain⟨j0,hjn,hy0,hy1,hy2⟩:=am6 Nc
 go_enter func59,ntmps59
 go_wp2_with fail
 clear hb2;obtain⟨w0,hw0⟩:∃w0,(w.alloc (.cells #[.slice none 0 0,.slice none 0 0] 118)).alloc (.cells #[.slice none 0 0,.slice none 0 0] 118)=w0:=⟨_,rfl⟩;have hP0:PG w (.slice none 0 0) (.slice none 0 0) [] [] w0:=by
  rw[<-hw0];exact⟨NZ _ _ _,by simp[go_sem],by simp[go_sem],λi=>by simp[go_sem],by simp[go_sem],by simp[go_sem],λi=>by simp[go_sem],an8 _ _ _ _,an8 _ _ _ _,by simp⟩
 rw[hw0];clear hw0;have HLT:=aj hlt
 go_loopw [8,9] (λm i wr=>∃(most:Int) (acc:List Int) (v1:Value),acc.length<=T.length/\i=.int .i64 acc.length/\m=.int .i64 most/\-1<=most/\most<=300/\PG w v1 (.slice none 0 0) acc [] wr/\Hid (gu (s.data.toList.take T.length) (-1)=(gu ((s.data.toList.take T.length).drop acc.length) most).map (acc++·))) (λ_ i _=>T.length-(intOf i).toNat)
 case atStart=>exact⟨-1,[],_,ah9 _,rfl,rfl,by omega,by omega,hP0,aj (by simp)⟩
 case round=>
  obtain⟨most,acc,v1,hk,rfl,rfl,hm0,hm1,hpg,hcl⟩:=hrel;by_cases hlk:acc.length<T.length
  ·have hbd:(acc.length:Int)<(T.length:Int):=(by omega);have hks:acc.length<s.size:=(by omega);have hkt:(acc.length:Int)<(s.size:Int):=(by omega);have hkl:acc.length<(s.data.toList.take T.length).length:=(by rw[al0,ah HSD];omega);obtain⟨bt,hbt⟩:∃bt:UInt8,s[acc.length]'hks=bt:=⟨_,rfl⟩;have hbk:(s.data.toList.take T.length)[acc.length]'hkl=bt:=by
    rw[<-hbt,List.getElem_take];simp[aj1]
   have hst:=Lh hkl hbk (ah hcl);have hbl:(bt.toNat:Int)<256:=(by have:=bt.toNat_lt;omega);have PS:(0:Int)<=(bt.toNat:Int):=(by omega);obtain⟨b1,p1,e1⟩:=jX hpg.r1;subst e1;obtain⟨wz,hwz,z0,z1,zb,_,_⟩:=hpg.ret;have HST:=aj hst;have HPG:=aj hpg;have q0:=hpg.x0;have q1:=hpg.x1;have q2:=hpg.f 0;have t0:=hpg.y0;have t1:=hpg.y1;have t2:=hpg.g 0;have t3:=hpg.g 1;clear hst hcl hbk hpg;by_cases h1:(bt.toNat:Int)-48<0
   ·have HC:=ah HST;rw[af9 (Or.inl h1)]at HC;have HC2:=aj HC;clear HC HST
    go_wp2_with fail
    exact ah7 (v:=.tuple #[.agg #[.slice b1 acc.length p1,.slice none 0 0],.bool false]) (by simp[results,results59,go_sem,z0,z1]) rfl (PR.no zb (Or.inl (ah HC2)))
   ·by_cases h2:most+1<(bt.toNat:Int)-48
    ·have HC:=ah HST;rw[af9 (Or.inr h2)]at HC;have HC2:=aj HC;clear HC HST
     go_wp2_with fail
     exact ah7 (v:=.tuple #[.agg #[.slice b1 acc.length p1,.slice none 0 0],.bool false]) (by simp[results,results59,go_sem,z0,z1]) rfl (PR.no zb (Or.inl (ah HC2)))
    ·have HC:=ah HST;rw[af6 (by omega)]at HC;have HC2:=aj HC;clear HC HST hwz z0 z1 zb;by_cases h3:most<(bt.toNat:Int)-48
     ·have hmx:max most ((bt.toNat:Int)-48)=(bt.toNat:Int)-48:=(by omega);rw[hmx]at HC2;clear hmx
      go_wp2_with (at_builtin;refine am5 _ rfl _ _ 58 rfl (w.heap.size+2) 3 i0 (.int .i64 0) 1 8 underlying58 hin hz0 hz1 hz2 rfl (by decide) (.slice b1 acc.length p1) acc.length (acc.map vI) rfl (by exact an7 (by exact(ah HPG).r1) _) ⟨wr.heap.size,0,none⟩ 1 1 [vI ((bt.toNat:Int)-48)] rfl rfl (uT _ _ _ _ rfl) (WR _) (by unfold maxLen;omega) (by omega) (by have:=(ah HPG).size;simp;omega) ?_;intro v' w3 hown hgrow hnil hloc;obtain⟨b2,p2,hv2⟩:=jX hown;subst hv2;have hP3:=(ah HPG).one hown hgrow;obtain⟨m1,m2⟩:=(ah HPG).aay hgrow)
      go_wp2_with fail
      exact⟨⟨(bt.toNat:Int)-48,acc++[(bt.toNat:Int)-48],_,by rw[ah1,al6];omega,by simp,rfl,by omega,by omega,hP3,aj (by simpa using ah HC2)⟩,by simp[intOf];omega⟩
     ·have hmx:max most ((bt.toNat:Int)-48)=most:=(by omega);rw[hmx]at HC2;clear hmx
      go_wp2_with (at_builtin;refine am5 _ rfl _ _ 58 rfl (w.heap.size+2) 3 i0 (.int .i64 0) 1 8 underlying58 hin hz0 hz1 hz2 rfl (by decide) (.slice b1 acc.length p1) acc.length (acc.map vI) rfl (by exact an7 (by exact(ah HPG).r1) _) ⟨wr.heap.size,0,none⟩ 1 1 [vI ((bt.toNat:Int)-48)] rfl rfl (uT _ _ _ _ rfl) (WR _) (by unfold maxLen;omega) (by omega) (by have:=(ah HPG).size;simp;omega) ?_;intro v' w3 hown hgrow hnil hloc;obtain⟨b2,p2,hv2⟩:=jX hown;subst hv2;have hP3:=(ah HPG).one hown hgrow;obtain⟨m1,m2⟩:=(ah HPG).aay hgrow)
      go_wp2_with fail
      exact⟨⟨most,acc++[(bt.toNat:Int)-48],_,by rw[ah1,al6];omega,by simp,rfl,by omega,by omega,hP3,aj (by simpa using ah HC2)⟩,by simp[intOf];omega⟩
  ·have hkk:acc.length=T.length:=(by omega);have hbd:¬(acc.length:Int)<(T.length:Int):=(by omega);have Ic:gu (s.data.toList.take T.length) (-1)=some acc:=by
    rw[ah hcl,as8 (by rw[al0];omega)];simp[gu]
   have HCL:=aj Ic;have HKK:=aj hkk;obtain⟨b1,p1,e1⟩:=jX hpg.r1;subst e1;have HPG:=aj hpg;clear Ic hcl hkk hpg
   go_wp2_with fail
   go_loopw [11] (λi wr=>∃(hac:List Bool) (v2:Value),hac.length<=C.length/\i=.int .i64 ((T.length:Int)+1+(hac.length:Int))/\PG w (.slice b1 acc.length p1) v2 acc hac wr/\Hid (gq (s.data.toList.drop (T.length+1))=(gq ((s.data.toList.drop (T.length+1)).drop hac.length)).map (hac++·))) (λi _=>s.size-(intOf i).toNat)
   case atStart=>exact⟨[],_,ah9 _,by simp,ah HPG,aj (by simp)⟩
   case round=>
    obtain⟨hac,v2,hk2,rfl,hpg,hcl⟩:=hrel;clear HPG;have heq:=ah HEQ;by_cases hlh:hac.length<C.length
    ·have hbd2:(T.length:Int)+1+(hac.length:Int)<(s.size:Int):=(by omega);have hks:T.length+1+hac.length<s.size:=(by omega);have hkl:hac.length<(s.data.toList.drop (T.length+1)).length:=(by rw[aq9,ah HSD];omega);obtain⟨bt,hbt⟩:∃bt:UInt8,s[T.length+1+hac.length]'hks=bt:=⟨_,rfl⟩;have hbk:(s.data.toList.drop (T.length+1))[hac.length]'hkl=bt:=by
      rw[<-hbt,List.getElem_drop];simp[aj1]
     have hst:=J3 hkl hbk (ah hcl);obtain⟨b2,p2,e2⟩:=jX hpg.r2;subst e2;obtain⟨wz,hwz,z0,z1,zb,_,_⟩:=hpg.ret;have HBY:Hid (∀W:World,(Instr.index 9 (.string s) (.int .i64 ((T.length:Int)+1+(hac.length:Int)))).run prog W=.ok (.int .u8 (bt.toNat:Int)) W):=λW=>by
      have hcast:((T.length:Int)+1+(hac.length:Int))=((T.length+1+hac.length:Nat):Int):=(by omega);rw[hcast,run_index_string (P:=prog) _ _ _ _ _ underlying9,dif_pos ⟨by omega,by omega⟩,<-hbt];rfl
     have HST:=aj hst;have QL:=aj hpg;have q0:=hpg.x0;have q1:=hpg.x1;have q2:=hpg.f 1;have t0:=hpg.y0;have t1:=hpg.y1;have t2:=hpg.g 0;have t3:=hpg.g 1;have acC:=aj heq;clear hst hcl hbk hpg hbt heq;by_cases h48:bt=48
     ·subst h48;have hby:∀W:World,(Instr.index 9 (.string s) (.int .i64 ((T.length:Int)+1+(hac.length:Int)))).run prog W=.ok (.int .u8 48) W:=ah HBY;have HC:=ah HST;rw[af6 (by decide)]at HC;have HC2:=aj HC;clear HC HST hwz z0 z1 zb
      go_wp2_with fail
      have hS0:wr.drew.cell? ⟨w.heap.size+1,1,none⟩=some (.slice b2 hac.length p2):=q1;refine wp_region_any rfl (eY (S:=λW'=>W'.cell? ⟨w.heap.size+1,1,none⟩=some (.slice b2 hac.length p2)) (z:=9) _ _ _ _ ?_);simp only[ag3,ag0,ah0,Nat.reduceAdd,af8,af7,ag5,ag9,ag7];change wpAnyL prog .any _ _ _ _ _ _ _ wr.drew;refine tL 0 (.pointer (some ⟨w.heap.size+1,1,none⟩)) (λw' hS=>?_) hS0 ?_
      ·go_simp
      simp only[aG];refine tL 1 (.slice b2 hac.length p2) (λw' hS=>?_) hS0 ?_
      ·go_simp
      simp only[aG];refine tL 2 (.string s) (λw' hS=>?_) hS0 ?_
      ·go_simp
      simp only[aG];refine tL 3 (.int .i64 ((T.length:Int)+1+(hac.length:Int))) (λw' hS=>?_) hS0 ?_
      ·go_simp
      simp only[aG];refine tL 4 (.int .u8 48) (λw' hS=>?_) hS0 ?_
      ·go_simp
      simp only[aG];refine tL 5 (.bool false) (λw' hS=>?_) hS0 ?_
      ·go_simp
      simp only[aG];have hg4:wr.drew.grownBy (wr.drew.alloc (.cells #[.bool false] 4)) none:=ae9 _ _ none;refine oL 6 (λK hK=>?_);go_simp;refine hK.out _ _ (λ_=>hg4.cell hS0 (by simp)) ?_;clear hK K;refine oL 7 (λK hK=>?_);refine jc (.tmp 85) (.tmp 90) 103 rfl (w.heap.size+2) 4 j0 (.bool false) 1 1 underlying103 hjn hy0 hy1 hy2 rfl (by decide) (.slice b2 hac.length p2) hac.length (hac.map Value.bool) rfl (by exact an7 (by exact(ah QL).r2) _) ⟨wr.heap.size,0,none⟩ 1 1 [.bool false] rfl rfl (zQ _ _ _ _ rfl) (YR _) (by unfold maxLen;omega) (by omega) (by have:=(ah QL).size;simp;omega) ?_;intro v' w3 hown hgrow;obtain⟨b3,p3,hv3⟩:=jX hown;subst hv3;have hPd:PG w (.slice b1 acc.length p1) (.slice b2 hac.length p2) acc hac wr.drew:=(ah QL).drew;have hP3:=hPd.two hown hgrow;obtain⟨m1,m2⟩:=hPd.aax hgrow;refine hK.out _ _ (λ_=>m1) ?_;clear hK K;refine oL 8 (λK hK=>?_);go_simp;refine hK.out _ _ (λ_=>m1) ?_;clear hK K;refine oL 9 (λK hK=>?_);go_simp;refine hK.out _ _ (λh=>absurd rfl h) (fM (by kernel_rfl) ?_ _);clear hK K;have hw1:IntKind.i64.wrap ((T.length:Int)+1+(hac.length:Int)+1)=(T.length:Int)+1+(hac.length:Int)+1:=pW (by omega) (by omega)
      go_wp2_with fail
      refine⟨⟨hac++[false],_,by rw[ah1,al6];omega,by rw[ah1,al6];go_num,hP3,aj (by simpa using ah HC2)⟩,?_⟩;have hss:=ah acC;simp[intOf];omega
     ·by_cases h49:bt=49
      ·subst h49;have hby:∀W:World,(Instr.index 9 (.string s) (.int .i64 ((T.length:Int)+1+(hac.length:Int)))).run prog W=.ok (.int .u8 49) W:=ah HBY;have HC:=ah HST;rw[af6 (by decide)]at HC;have HC2:=aj HC;clear HC HST hwz z0 z1 zb
       go_wp2_with fail
       have hS0:wr.drew.cell? ⟨w.heap.size+1,1,none⟩=some (.slice b2 hac.length p2):=q1;refine wp_region_any rfl (eY (S:=λW'=>W'.cell? ⟨w.heap.size+1,1,none⟩=some (.slice b2 hac.length p2)) (z:=9) _ _ _ _ ?_);simp only[ag3,ag0,ah0,Nat.reduceAdd,af8,af7,ag5,ag9,ag7];change wpAnyL prog .any _ _ _ _ _ _ _ wr.drew;refine tL 0 (.pointer (some ⟨w.heap.size+1,1,none⟩)) (λw' hS=>?_) hS0 ?_
       ·go_simp
       simp only[aG];refine tL 1 (.slice b2 hac.length p2) (λw' hS=>?_) hS0 ?_
       ·go_simp
       simp only[aG];refine tL 2 (.string s) (λw' hS=>?_) hS0 ?_
       ·go_simp
       simp only[aG];refine tL 3 (.int .i64 ((T.length:Int)+1+(hac.length:Int))) (λw' hS=>?_) hS0 ?_
       ·go_simp
       simp only[aG];refine tL 4 (.int .u8 49) (λw' hS=>?_) hS0 ?_
       ·go_simp
       simp only[aG];refine tL 5 (.bool true) (λw' hS=>?_) hS0 ?_
       ·go_simp
       simp only[aG];have hg4:wr.drew.grownBy (wr.drew.alloc (.cells #[.bool true] 4)) none:=ae9 _ _ none;refine oL 6 (λK hK=>?_);go_simp;refine hK.out _ _ (λ_=>hg4.cell hS0 (by simp)) ?_;clear hK K;refine oL 7 (λK hK=>?_);refine jc (.tmp 85) (.tmp 90) 103 rfl (w.heap.size+2) 4 j0 (.bool false) 1 1 underlying103 hjn hy0 hy1 hy2 rfl (by decide) (.slice b2 hac.length p2) hac.length (hac.map Value.bool) rfl (by exact an7 (by exact(ah QL).r2) _) ⟨wr.heap.size,0,none⟩ 1 1 [.bool true] rfl rfl (zQ _ _ _ _ rfl) (YR _) (by unfold maxLen;omega) (by omega) (by have:=(ah QL).size;simp;omega) ?_;intro v' w3 hown hgrow;obtain⟨b3,p3,hv3⟩:=jX hown;subst hv3;have hPd:PG w (.slice b1 acc.length p1) (.slice b2 hac.length p2) acc hac wr.drew:=(ah QL).drew;have hP3:=hPd.two hown hgrow;obtain⟨m1,m2⟩:=hPd.aax hgrow;refine hK.out _ _ (λ_=>m1) ?_;clear hK K;refine oL 8 (λK hK=>?_);go_simp;refine hK.out _ _ (λ_=>m1) ?_;clear hK K;refine oL 9 (λK hK=>?_);go_simp;refine hK.out _ _ (λh=>absurd rfl h) (fM (by kernel_rfl) ?_ _);clear hK K;have hw1:IntKind.i64.wrap ((T.length:Int)+1+(hac.length:Int)+1)=(T.length:Int)+1+(hac.length:Int)+1:=pW (by omega) (by omega)
       go_wp2_with fail
       refine⟨⟨hac++[true],_,by rw[ah1,al6];omega,by rw[ah1,al6];go_num,hP3,aj (by simpa using ah HC2)⟩,?_⟩;have hss:=ah acC;simp[intOf];omega
      ·have HC:=ah HST;rw[af9 ⟨h48,h49⟩]at HC;have HC2:=aj HC;have hby:=ah HBY;have hn1:((bt.toNat:Int) != 48)=true:=(by have:=rV h48;simpa[bne]using this);have hn2:((bt.toNat:Int) != 49)=true:=(by have:=rV h49;simpa[bne]using this);clear HC HST
       go_wp2_with fail
       exact ah7 (v:=.tuple #[.agg #[.slice b1 acc.length p1,.slice b2 hac.length p2],.bool false]) (by simp[results,results59,go_sem,z0,z1]) rfl (PR.no zb (Or.inr (ah HC2)))
    ·have ac7:hac.length=C.length:=(by omega);have hbd2:¬(T.length:Int)+1+(hac.length:Int)<(s.size:Int):=(by omega);have Ic:gq (s.data.toList.drop (T.length+1))=some hac:=by
      rw[ah hcl,as8 (by rw[aq9,ah HSD];omega)];simp[gq]
     obtain⟨b2,p2,e2⟩:=jX hpg.r2;subst e2;obtain⟨wz,hwz,z0,z1,zb,zr1,zr2⟩:=hpg.ret;have aea:=aj Ic;have q0:=hpg.x0;have q1:=hpg.x1;have t0:=hpg.y0;have t1:=hpg.y1;have t2:=hpg.g 0;have t3:=hpg.g 1;have ZR1:=aj zr1;have ZR2:=aj zr2;clear Ic hcl hpg ac7 heq zr1 zr2
     go_wp2_with fail
     refine ah7 (v:=.tuple #[.agg #[.slice b1 acc.length p1,.slice b2 hac.length p2],.bool true]) (by simp[results,results59,go_sem,z0,z1]) rfl ⟨zb,_,_,_,_,_,_,true,rfl,?_⟩;rw[ah HCL,ah aea];exact⟨rfl,ah ZR1,ah ZR2⟩
end
section
open Go.RowKit
open au (St put cut gu gq)
theorem Ru{W:World}{base e n:Nat}{v:Value}{xs:List Value}(h:W.ownsRow base e 1 v n xs):∃a c,v=.slice a n c/\(0<n->∃g,a=some ⟨g,0,none⟩/\g<W.heap.size/\∀j,j<n->W.cell? ⟨g,j,none⟩=xs[j]?):=by
 obtain⟨a,c,rfl⟩:=jX h;refine⟨a,c,rfl,λh0=>?_⟩;rcases h.2 with⟨h1,h2⟩|⟨g,cap,cur,h1,_⟩
 ·omega
 ·injection h1 with h2 _ _
  subst h2;exact⟨g,rfl,(h.lt g rfl).2,λj hj=>h.cellAt j (by omega)⟩
theorem ace{W:World}{base:Nat}{k1 k2:Value}{cl:List Int}{hl:List Bool}(h1:W.ownsRow base 3 1 k1 cl.length (cl.map vI))(h2:W.ownsRow base 4 1 k2 hl.length (hl.map Value.bool)):CS W W.heap.size k1 k2 cl hl:=by
 obtain⟨a1,c1,e1,f1⟩:=Ru h1;obtain⟨a2,c2,e2,f2⟩:=Ru h2;refine⟨⟨a1,c1,e1,λh0=>?_⟩,a2,c2,e2,λh0=>?_⟩
 ·obtain⟨g,r1,r2,r3⟩:=f1 h0;exact⟨g,r1,r2,λj hj=>by rw[r3 j hj];simp[hj,vI]⟩
 ·obtain⟨g,r1,r2,r3⟩:=f2 h0;exact⟨g,r1,r2,λj hj=>by rw[r3 j hj];simp[hj]⟩
theorem parse_any(w:World)(B:Nat)(s:ByteArray)(v4 v5:Value)(T C:List (List UInt8))(hT:T.length<=7)(hC:C.length<=4)(hm:s.size<=maxLen)(c4:w.cell? ⟨B,4,none⟩=some v4)(c5:w.cell? ⟨B,5,none⟩=some v5)(r4:w.ownsRow 0 9 1 v4 T.length (T.map str))(r5:w.ownsRow 0 9 1 v5 C.length (C.map str)) :
  Calls prog 59 #[.pointer (some ⟨B,0,none⟩),.string s] w λe w'=>Below w.heap.size w w'/\∃a1 n1 c1 a2 n2 c2 ok,e=.returned (.tuple #[.agg #[.slice a1 n1 c1,.slice a2 n2 c2],.bool ok])/\ok=(au.parse T.length C.length s.data.toList).isSome/\∀cl hl,au.parse T.length C.length s.data.toList=some (cl,hl)->CS w' w'.heap.size (.slice a1 n1 c1) (.slice a2 n2 c2) cl hl:=by
 have hsd:s.data.toList.length=s.size:=by simp
 by_cases heq:s.size=T.length+1+C.length
 ·have hlt:T.length<s.size:=by omega
  have hgd:s.data.toList.getD T.length 0=s[T.length]'hlt:=by
   have h1:T.length<s.data.toList.length:=(by rw[hsd];exact hlt);rw[ag8,af2 h1];simp[aj1]
  by_cases hsl:s[T.length]'hlt=47
  ·refine(Jv w B s v4 v5 T C hT hC c4 c5 r4 r5 heq hlt hsl).mono ?_;rintro e w' ⟨hb,a1,n1,c1,a2,n2,c2,ok,he,hk⟩;have hp:au.parse T.length C.length s.data.toList=match gu (s.data.toList.take T.length) (-1)with|none=>none|some cl=>(gq (s.data.toList.drop (T.length+1))).map λhl=>(cl,hl):=by
    unfold au.parse;rw[af6 (by rw[hsd,hgd,hsl];simp[heq])];rfl
   refine⟨hb,a1,n1,c1,a2,n2,c2,ok,he,?_⟩;rw[hp];cases h1:gu (s.data.toList.take T.length) (-1)with
   |none=>rw[h1]at hk;exact⟨hk,λ_ _ e=>by cases e⟩
   |some cl=>
    cases h2:gq (s.data.toList.drop (T.length+1))with
    |none=>rw[h1,h2]at hk;exact⟨hk,λ_ _ e=>by cases e⟩
    |some hl=>
     rw[h1,h2]at hk;obtain⟨q1,q2,q3⟩:=hk;exact⟨q1,λ_ _ e=>by cases e;exact ace q2 q3⟩
  ·refine(GL w B s v4 v5 T C hT hC c4 c5 r4 r5 heq hlt hsl).mono ?_;rintro e w' ⟨⟨a1,n1,c1,a2,n2,c2,he⟩,hb⟩;have hp:au.parse T.length C.length s.data.toList=none:=by
    unfold au.parse;rw[af9 (Or.inr (by rw[hgd];exact hsl))]
   rw[hp];exact⟨hb,a1,n1,c1,a2,n2,c2,false,he,rfl,λ_ _ e=>by cases e⟩
 ·refine(OD w B s v4 v5 T C hT hC hm c4 c5 r4 r5 heq).mono ?_;rintro e w' ⟨⟨a1,n1,c1,a2,n2,c2,he⟩,hb⟩;have hp:au.parse T.length C.length s.data.toList=none:=by
   unfold au.parse;rw[af9 (Or.inl (by rw[hsd];exact heq))]
  rw[hp];exact⟨hb,a1,n1,c1,a2,n2,c2,false,he,rfl,λ_ _ e=>by cases e⟩
theorem wu:∀(l:List UInt8) (m:Int) (cl:List Int),gu l m=some cl->cl.length=l.length
 |[],_,cl,h=>by simp[gu]at h;subst h;rfl
 |c::r,m,cl,h=>by
  simp only[gu]at h;split at h
  ·cases h
  ·obtain⟨x,h1,rfl⟩:=ap4.1 h;simp[wu r _ x h1]
theorem vO:∀(l:List UInt8) (hl:List Bool),gq l=some hl->hl.length=l.length
 |[],hl,h=>by simp[gq]at h;subst h;rfl
 |c::r,hl,h=>by
  simp only[gq]at h;split at h
  ·cases h
  ·obtain⟨x,h1,rfl⟩:=ap4.1 h;simp[vO r x h1]
theorem Em{n c:Nat}{l:List UInt8}{cl:List Int}{hl:List Bool}(h:au.parse n c l=some (cl,hl)):cl.length=n/\hl.length=c/\l.length=n+1+c:=by
 unfold au.parse at h;split at h
 ·cases h
 ·rename_i h0;have h0':l.length=n+1+c:=by
   rcases as7 l.length (n+1+c)with h1|h1|h1
   ·exact absurd (Or.inl (by omega)) h0
   ·exact h1
   ·exact absurd (Or.inl (by omega)) h0
  split at h
  ·cases h
  ·rename_i x hx;obtain⟨y,hy,e⟩:=ap4.1 h;cases e;have h1:=wu _ _ _ hx;have h2:=vO _ _ hy;rw[al0]at h1;rw[aq9]at h2;exact⟨by omega,by omega,h0'⟩
end
section
open au (Key put St bI iG)
theorem FZ(s:ByteArray)(cl:List Int)(hl:List Bool)(ts:List Key)(cs:List (Int×Nat))(ps:List Key)(m:Nat)(h:au.jq (pk s) (s.size+1) 0 0 [] [] []=.ok (s.size,ts,cs,ps,m)):Eb s cl hl=(iG cl hl ps).getD m false:=by
 have hl':s.data.toList.length=s.size:=by simp
 have h0:au.Inv ([]:List Key):=au.MZ;have hv:=au.FW (cl:=cl) (hl:=hl) (l:=s.data.toList) (s.size+1) 0 0 [] [] [] (ah9 _) (by omega) h0 (λx hx=>absurd hx (by simp)) ⟨aq8,λi hi=>absurd hi (by simp)⟩;rw[<-Si,h]at hv;unfold Eb;exact hv
end
open Go.RowKit Go.Maps Go.WideMaps
open Sat (View Rule jT cZ)
structure lY(w:World)(m:Nat)(τ:List Tr):Prop where
 map:∃es,w.ownsMap prog 3 wM m τ.length (.map es)/\es.Perm (ents τ)
 le:∀q∈τ,q.1<=1000
 shape:∀q∈τ,∃p l c,q.2.2.1=.slice p l c
 nodup:(τ.map (·.1)).Nodup
theorem bZ.m{w:World}{m:Nat}{τ:List Tr}(h:bZ w m τ):lY w m τ:=
 ⟨h.map,h.le,λq hq=>by obtain⟨p,c,e⟩:=(h.Qm q hq).len;exact⟨p,_,c,e⟩,h.nodup⟩
theorem lY.lt{w:World}{m:Nat}{τ:List Tr}(h:lY w m τ):m<w.heap.size:=by
 obtain⟨es,h1,_⟩:=h.map;exact h1.lt
theorem lY.kept{w w':World}{m:Nat}{τ:List Tr}(h:lY w m τ)(hb:w'.heap[m]?=w.heap[m]?):lY w' m τ:=by
 obtain⟨es,⟨e1,c1,h1,h2⟩,h3⟩:=h.map;exact⟨⟨es,⟨e1,c1,hb.trans h1,h2⟩,h3⟩,h.le,h.shape,h.nodup⟩
theorem lY.look1{w:World}{m:Nat}{τ:List Tr}(h:lY w m τ){x:Nat}(hx:x<=1000):(Instr.lookup 159 (.map (some m)) (.int .i64 x) false).run prog w=.ok (wF τ x) w:=by
 obtain⟨es,h1,h2⟩:=h.map;obtain⟨es',e1,e2,_⟩:=h1.entries iH;cases e1;obtain⟨v,ps,hrun,hv⟩:=h1.lookup iH underlying159 (QO w) (zd:=.held (.agg #[.bool false,.int .i64 0,.slice none 0 0])) (zp:=[]) rfl (sZ hx);rw[bZ.atKey h2 e2 x]at hv;cases hv;exact hrun
theorem He{key:Value}{kl:Lit}(h:keyOf prog 3 key=some kl):∃x,key=Value.int .i64 x:=by
 unfold keyOf at h;simp only[underlying3]at h;unfold mapKey at h;simp only[underlying3]at h;cases key<;>simp at h;obtain⟨⟨rfl,_⟩,_⟩:=h;exact⟨_,rfl⟩
theorem OQ{τ:List Tr}{es:List (Lit×DataW Value)}(hp:es.Perm (ents τ)){kl:Lit}{d:DataW Value}(hat:∀zd,(DataW.map es).atKey kl zd=d):∃x:Nat,kl=.int .i64 x/\x∈τ.map (·.1):=by
 cases e:es.find? (λp=>p.1.sameKey kl)with
 |none=>
  have h1:=hat .nil;have h2:=hat (.held undef);simp only[DataW.atKey,e]at h1 h2;rw[<-h1]at h2;cases h2
 |some p=>
  have h1:=List.find?_some e;have h2:=List.mem_of_find?_eq_some e;have h3:=hp.mem_iff.1 h2;obtain⟨⟨q,k⟩,hq,rfl⟩:=ah3.1 h3;have:=(au1 hq).2.2;refine⟨q.1,(WideAt.sameKey_eq h1).symm,ah3.2 ⟨q,?_,rfl⟩⟩;rw[this];simp
theorem O5(F:Fence)(n:Nat)(hf:F.fn 202)(hro:F.round=none)(hn:1<=n)(Bm BT:Nat)(τ:List Tr)(ys:List Nat)(w:World)(hp:ys.Perm (τ.map (·.1)))
 (hBm:w.cell? ⟨Bm,0,none⟩=some (.map (some BT)))(hM:lY w BT τ) :
  jS F n prog 202 #[.pointer (some ⟨Bm,0,none⟩)] (λi:Fin ys.length=>#[kL ys[i]]) (λss=>ss.Perm (List.finRange ys.length)) ys.length KeepsWalks w:=by
 have hnd:ys.Nodup:=hp.nodup_iff.2 hM.nodup;have hle:∀x∈ys,x<=1000:=λx hx=>by
  obtain⟨q,hq,rfl⟩:=ah3.1 (hp.mem_iff.1 hx);exact hM.le q hq
 intro l J W hW hJ hY h0;have Zy:W.cell? ⟨Bm,0,none⟩=some (.map (some BT)):=(hW.cell (p:=⟨Bm,0,none⟩) (af5 w _ hBm)).trans hBm;have hMW:lY W BT τ:=hM.kept (hW.block BT hM.lt);obtain⟨es,hown,hpe⟩:=hMW.map;obtain⟨w2,hrg,rg,hg2,hs2⟩:=hown.range iH underlying159;have hel:es.length=ys.length:=by rw[hpe.length_eq,hp.length_eq];simp[ents]
 have HPE:=aj hpe;have HP:=aj hp;have HEL:=aj hel;have HM:=aj hM;have HS2:=aj hs2;clear hpe hp hel hM hs2;refine al8 func202 rfl hf ?_ hro;simp only[ntmps202,ag3,ag0,ah0,Nat.reduceAdd,Nat.reduceSub,af8,af7,ag5,ai1,ag9,ag7]
 gi_wp2
 gi_loopw [3] (λ_ wr=>∃left cnt,∃ss:List (Fin ys.length),wr.ranges prog 3 wM BT W.heap.size τ.length (.map es) left cnt/\Hid (ss.length+cnt<=ys.length)/\Hid (Coll 3 kL ys left ss)/\J ss wr) (λ_ wr=>wr.rangeLeft BT W.heap.size)
 case atStart=>
  refine⟨_,_,[],rg,?_,?_,hJ [] W w2 none h0 hg2 (λr e=>by cases e)⟩
  ·have:=ah HEL
   show([]:List (Fin ys.length)).length+es.length<=ys.length
   simp;omega
  ·refine Coll.start λi lt hk=>?_;have hx:=hle ys[i] (af4 i.isLt);have e:lt=.int .i64 ys[i]:=by
    have h:=(sZ hx).symm.trans hk;cases h;rfl
   rw[e,bZ.has (ah HPE)];have hm:=(ah HP).mem_iff.1 (af4 i.isLt);cases e2:mD τ ys[i]
   ·exfalso;have:nK τ ys[i]=none:=(by simpa[mD]using e2);exact kF.1 this hm
   ·rfl
 case round=>
  obtain⟨left,cnt,ss,tq,hlen,qI,hJs⟩:=hrel
  gi_wp2_with (gi_at_next;refine wpListIn_next_ranges _ rfl _ rfl 3 iH wM (Value.int .i64) id (λkey kl h=>He h) (λv _ _=>⟨v,rfl⟩) BT W.heap.size τ.length (.map es) left cnt rfl tq ?_ ?_)
  ·intro hc0 hl0;have hp:=(ah qI).perm (λx hx=>⟨_,sZ (hle x hx)⟩) hl0
   gi_wp2
   go_end0
   exact⟨⟨_,rfl⟩,ss,hp,hJs⟩
  ·intro xi c kl y1 y2 w' cnt' hkey hlk hy hat JY hlt hgr hsz' hen;obtain⟨x,rfl,hx⟩:=OQ (ah HPE) hat;have hxm:=(ah HP).mem_iff.2 hx;have hxi:xi=(x:Int):=by
    have h:=iH.inj hkey (sZ (hle x hxm));cases h;rfl
   subst hxi;have hit:=ai5 hxm;obtain⟨i,hi⟩:∃i:Fin ys.length,ys[i]=x:=⟨⟨ys.idxOf x,hit⟩,aj6 hit⟩;have HC2:=aj ((ah qI).step iH (λ_ _=>MX) hnd (i:=i) (by rw[hi];exact hkey) hlk);have hlen':Hid ((ss++[i]).length+cnt'<=ys.length):=by
    have:=ah hlen
    show(ss++[i]).length+cnt'<=ys.length
    simp;omega
   have hyk:=hY ss i;rw[hi]at hyk;have hlt2:ss.length<ys.length:=(by have:=ah hlen;omega);clear hy hat hlk hit;simp only[kL]at hen hyk ⊢;obtain⟨fn,tmps,assign,body,hy,hR⟩:=hyk w' (hJ ss wr w' (some W.heap.size) hJs hgr (λr e=>by cases e;exact⟨af0 _,tq.iter_walk⟩)) hlt2;clear hyk hlt2;have HS:=aj hsz';clear hsz'
   gi_wp2
   refine hR.mono ?_;rintro e W3 ⟨rfl,hJ3,hk3⟩;have hrg3:=JY.of_walks hk3;clear hy hR
   gi_wp2
   go_roundw
   case rel=>exact⟨_,cnt',_,hrg3,hlen',HC2,hJ3⟩
   case measure=>rw[hrg3.left_eq,tq.left_eq];exact hlt
end Go.Proofs.YthcppbmkacbbiaaGreat
