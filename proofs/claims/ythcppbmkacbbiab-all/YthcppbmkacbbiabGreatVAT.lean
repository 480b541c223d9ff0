import Derived.Test.YthcppbmkacbbiabGreatVAR
import Derived.Test.YthcppbmkacbbiabGreatVAP
import Derived.Test.YthcppbmkacbbiabGreatVAS
import Derived.Test.YthcppbmkacbbiabGreatSri
set_option linter.unusedSimpArgs false
set_option maxHeartbeats 1000000
set_option maxRecDepth 100000
namespace Go.Proofs.YthcppbmkacbbiabGreat
open Go.Proofs.Tryz
section
open Go.RowKit
open au (St put cut jB jA)
theorem Sm:(prog.info? 3).map (λi=>(i.zero,i.size,i.bytes))=some (some (A 0),1,8):=by kernel_rfl
def vI(x:Int):Value:=A x
theorem Dw(w:World)(x:Int)(t:TypeId)(n:Nat)(hn:w.heap.size=n):∀j u,[vI x][j]?=some u->(w.alloc (.cells #[vI x] t)).cell? (((J n 0):Addr).add j)=some u:=by
 subst hn;intro j u hj;cases j with
 |zero=>simp at hj;subst hj;simp[Addr.add]
 |succ j=>simp at hj
theorem aeZ(x:Int):∀u∈[vI x],u.oneCell'=true:=by intro u hu;simp at hu;subst hu;rfl
theorem grownBy_setCell(W:World)(X o:Nat)(v:Value):W.grownBy (W.setCell (J X o) v) (some X):=
 ⟨rfl,rfl,rfl,by simp[World.setCell],λk _ hk=>ao9 _ _ _ _ (λe=>hk (by simp[e]))⟩
theorem oC{w:World}{base e n:Nat}{v:Value}{xs:List Value}(h:w.ownsRow base e 1 v n xs):∃ao cap,v=.slice ao n cap:=by
 obtain⟨_,M⟩:=h;obtain⟨e,e2⟩|⟨g,cap,cur,e,_⟩:=M
 ·subst e2;exact⟨_,_,e⟩
 ·exact⟨_,_,e⟩
structure PG(w:World)(v1 v2:Value)(cl:List Int)(hl:List Bool)(W:World):Prop where
 below:Below w.heap.size w W
 x0:W.cell? (J (w.heap.size+1) 0)=some v1
 x1:W.cell? (J (w.heap.size+1) 1)=some v2
 f:∀i,W.frozen? (J (w.heap.size+1) i)=false
 y0:W.cell? (J w.heap.size 0)=some (.slice none 0 0)
 y1:W.cell? (J w.heap.size 1)=some (.slice none 0 0)
 g:∀i,W.frozen? (J w.heap.size i)=false
 r1:W.ownsRow (w.heap.size+2) 3 1 v1 cl.length (cl.map vI)
 r2:W.ownsRow (w.heap.size+2) 4 1 v2 hl.length (hl.map Value.bool)
 size:w.heap.size+2<=W.heap.size
theorem Nh{W:World}{base e size n:Nat}{v:Value}{xs:List Value}{k:Nat}(h:W.ownsRow base e size v n xs)(hk:v.ownBlock=some k):∃c fz,W.heap[k]?=some (.cells c e fz):=by
 obtain⟨I,_⟩|⟨g,cap,cur,I,M,h3,_⟩:=h.2
 ·subst I;simp[Value.ownBlock]at hk
 ·subst I;simp[Value.ownBlock]at hk;subst hk;exact⟨_,_,h3⟩
theorem rows_apart{W:World}{b1 b2 e1 e2 n1 n2:Nat}{v1 v2:Value}{x1 x2:List Value}(I:W.ownsRow b1 e1 1 v1 n1 x1)(M:W.ownsRow b2 e2 1 v2 n2 x2)(he:e1≠e2):v1.ownBlock=none\/v1.ownBlock≠v2.ownBlock:=by
 cases hv:v1.ownBlock with
 |none=>exact .inl rfl
 |some k=>
  refine .inr λe=>?_;obtain⟨c,fz,h3⟩:=Nh I hv;obtain⟨c',fz',h4⟩:=Nh M e.symm;rw[h3]at h4;have h5:=at7 h4;injection h5 with _ h6 _
  exact he h6
theorem PG.aiD{w W W3:World}{v1 v2:Value}{cl:List Int}{hl:List Bool}{o:Obj}(h:PG w v1 v2 cl hl W)(hg:(W.alloc o).grownBy W3 v1.ownBlock):W3.cell? (J (w.heap.size+1) 0)=some v1/\W3.frozen? (J (w.heap.size+1) 0)=false:=by
 have fK:W.grownBy W3 v1.ownBlock:=(an1 _ _ _).trans hg;have hb:=fK.block (w.heap.size+1) (by have:=h.size;omega) (λe=>by have:=(h.r1.lt _ e.symm).1;omega);exact⟨(an9 hb).trans h.x0,(ar5 hb).trans (h.f 0)⟩
theorem PG.aiC{w W W3:World}{v1 v2:Value}{cl:List Int}{hl:List Bool}{o:Obj}(h:PG w v1 v2 cl hl W)(hg:(W.alloc o).grownBy W3 v2.ownBlock):W3.cell? (J (w.heap.size+1) 1)=some v2/\W3.frozen? (J (w.heap.size+1) 1)=false:=by
 have fK:W.grownBy W3 v2.ownBlock:=(an1 _ _ _).trans hg;have hb:=fK.block (w.heap.size+1) (by have:=h.size;omega) (λe=>by have:=(h.r2.lt _ e.symm).1;omega);exact⟨(an9 hb).trans h.x1,(ar5 hb).trans (h.f 1)⟩
theorem PG.drew{w W:World}{v1 v2:Value}{cl:List Int}{hl:List Bool}(h:PG w v1 v2 cl hl W):PG w v1 v2 cl hl W.drew:=
 ⟨h.below.drew,h.x0,h.x1,h.f,h.y0,h.y1,h.g,h.r1,h.r2,h.size⟩
theorem PG.one{w W W3:World}{v1 v2 v':Value}{cl:List Int}{hl:List Bool}{d:Int}{o:Obj}(h:PG w v1 v2 cl hl W)(aH:W3.ownsRow (w.heap.size+2) 3 1 v' (cl.length+1) (cl.map vI++[vI d]))(hg:(W.alloc o).grownBy W3 v1.ownBlock) :
  PG w v' v2 (cl++[d]) hl (W3.setCell (J (w.heap.size+1) 0) v'):=by
 have hb:∀k,v1.ownBlock=some k->w.heap.size+2<=k:=λk e=>(h.r1.lt k e).1;have fK:W.grownBy W3 v1.ownBlock:=(an1 _ _ _).trans hg;have hn:∀k,k<w.heap.size+2->v1.ownBlock≠some k:=λk hk e=>by have:=hb k e;omega
 have ck:∀k i,k<w.heap.size+2->W3.cell? (J k i)=W.cell? (J k i):=λk i hk=>an9 (fK.block k (by have:=h.size;omega) (λe=>hn k hk e.symm));have fk:∀k i,k<w.heap.size+2->W3.frozen? (J k i)=W.frozen? (J k i):=λk i hk=>ar5 (fK.block k (by have:=h.size;omega) (λe=>hn k hk e.symm));have BJ:W3.ownsRow (w.heap.size+2) 4 1 v2 hl.length (hl.map Value.bool):=h.r2.kept fK (rows_apart h.r2 h.r1 ane);have JC:=grownBy_setCell W3 (w.heap.size+1) 0 v';have hnX:∀{v:Value} {e n:Nat} {xs:List Value},W3.ownsRow (w.heap.size+2) e 1 v n xs->v.ownBlock=none\/v.ownBlock≠some (w.heap.size+1):=λhr=>.inr λe=>by have:=(hr.lt _ e).1;omega
 refine⟨?_,?_,?_,?_,?_,?_,?_,?_,BJ.kept JC (hnX BJ),?_⟩
 ·exact(h.below.grown fK h.below.size (λk e=>by have:=hb k e;omega)).setCell (p:=(J (w.heap.size+1) 0)) (by show w.heap.size<=w.heap.size+1;omega) _
 ·exact bH _ ((ck _ 0 O).trans h.x0)
 ·refine(World.cell?_setCell_other W3 (J (w.heap.size+1) 0) (J (w.heap.size+1) 1) v' R).trans ?_;exact(ck _ 1 O).trans h.x1
 ·intro i;rw[aw2];exact(fk _ i O).trans (h.f i)
 ·exact(an9 (ao9 _ _ _ _ (by show w.heap.size≠w.heap.size+1;omega))).trans ((ck _ 0 O).trans h.y0)
 ·exact(an9 (ao9 _ _ _ _ (by show w.heap.size≠w.heap.size+1;omega))).trans ((ck _ 1 O).trans h.y1)
 ·intro i;rw[aw2];exact(fk _ i O).trans (h.g i)
 ·have:=aH.kept JC (hnX aH);simpa using this
 ·have I:=h.size;have M:=fK.size;have h3:(W3.setCell (J (w.heap.size+1) 0) v').heap.size=W3.heap.size:=by simp[World.setCell]
  omega
theorem PG.two{w W W3:World}{v1 v2 v':Value}{cl:List Int}{hl:List Bool}{d:Bool}{o:Obj}(h:PG w v1 v2 cl hl W)(aH:W3.ownsRow (w.heap.size+2) 4 1 v' (hl.length+1) (hl.map Value.bool++[.bool d]))(hg:(W.alloc o).grownBy W3 v2.ownBlock) :
  PG w v1 v' cl (hl++[d]) (W3.setCell (J (w.heap.size+1) 1) v'):=by
 have hb:∀k,v2.ownBlock=some k->w.heap.size+2<=k:=λk e=>(h.r2.lt k e).1;have fK:W.grownBy W3 v2.ownBlock:=(an1 _ _ _).trans hg;have hn:∀k,k<w.heap.size+2->v2.ownBlock≠some k:=λk hk e=>by have:=hb k e;omega
 have ck:∀k i,k<w.heap.size+2->W3.cell? (J k i)=W.cell? (J k i):=λk i hk=>an9 (fK.block k (by have:=h.size;omega) (λe=>hn k hk e.symm));have fk:∀k i,k<w.heap.size+2->W3.frozen? (J k i)=W.frozen? (J k i):=λk i hk=>ar5 (fK.block k (by have:=h.size;omega) (λe=>hn k hk e.symm));have DX:W3.ownsRow (w.heap.size+2) 3 1 v1 cl.length (cl.map vI):=h.r1.kept fK (rows_apart h.r1 h.r2 ane);have JC:=grownBy_setCell W3 (w.heap.size+1) 1 v';have hnX:∀{v:Value} {e n:Nat} {xs:List Value},W3.ownsRow (w.heap.size+2) e 1 v n xs->v.ownBlock=none\/v.ownBlock≠some (w.heap.size+1):=λhr=>.inr λe=>by have:=(hr.lt _ e).1;omega
 refine⟨?_,?_,?_,?_,?_,?_,?_,DX.kept JC (hnX DX),?_,?_⟩
 ·exact(h.below.grown fK h.below.size (λk e=>by have:=hb k e;omega)).setCell (p:=(J (w.heap.size+1) 1)) (by show w.heap.size<=w.heap.size+1;omega) _
 ·refine(World.cell?_setCell_other W3 (J (w.heap.size+1) 1) (J (w.heap.size+1) 0) v' R).trans ?_;exact(ck _ 0 O).trans h.x0
 ·exact bH _ ((ck _ 1 O).trans h.x1)
 ·intro i;rw[aw2];exact(fk _ i O).trans (h.f i)
 ·exact(an9 (ao9 _ _ _ _ (by show w.heap.size≠w.heap.size+1;omega))).trans ((ck _ 0 O).trans h.y0)
 ·exact(an9 (ao9 _ _ _ _ (by show w.heap.size≠w.heap.size+1;omega))).trans ((ck _ 1 O).trans h.y1)
 ·intro i;rw[aw2];exact(fk _ i O).trans (h.g i)
 ·have:=aH.kept JC (hnX aH);simpa using this
 ·have I:=h.size;have M:=fK.size;have h3:(W3.setCell (J (w.heap.size+1) 1) v').heap.size=W3.heap.size:=by simp[World.setCell]
  omega
theorem PG.ret{w W:World}{v1 v2:Value}{cl:List Int}{hl:List Bool}(h:PG w v1 v2 cl hl W):∃W',(W.setCell (J w.heap.size 0) v1).setCell (J w.heap.size 1) v2=W'/\W'.cell? (J w.heap.size 0)=some v1/\W'.cell? (J w.heap.size 1)=some v2/\Ag w W'/\
  W'.ownsRow (w.heap.size+2) 3 1 v1 cl.length (cl.map vI)/\W'.ownsRow (w.heap.size+2) 4 1 v2 hl.length (hl.map Value.bool):=by
 have hg:W.grownBy ((W.setCell (J w.heap.size 0) v1).setCell (J w.heap.size 1) v2) (some w.heap.size):=(grownBy_setCell W w.heap.size 0 v1).trans (grownBy_setCell _ w.heap.size 1 v2);refine⟨_,rfl,?_,?_,?_,h.r1.kept hg (.inr λe=>by have:=(h.r1.lt _ e).1;omega),h.r2.kept hg (.inr λe=>by have:=(h.r2.lt _ e).1;omega)⟩
 ·refine(World.cell?_setCell_other _ (J w.heap.size 1) (J w.heap.size 0) v2 R).trans ?_;exact bH _ h.y0
 ·refine bH _ (u:=.slice none 0 0) ?_;exact(World.cell?_setCell_other _ (J w.heap.size 0) (J w.heap.size 1) v1 R).trans h.y1
 ·exact(h.below.setCell (p:=(J w.heap.size 0)) (an2 _) _).setCell (p:=(J w.heap.size 1)) (an2 _) _
end
section
open Go.RowKit
open au (St put cut jB jA)
attribute [local go_sem] Oper.semAt_some
theorem lK{P:Program}{Q:Exit->Act->World->Prop}{o:Oper}{a:Act}{w:World}{K:Act->World->Prop}(s x:Operand)(t:TypeId)(VU:o.op=Op.call {callee:=Callee.builtin Builtin.append,args:=#[s,x],argTypes:=#[t,t]})
 (base:Nat)(e:TypeId)(i:TypeInfo)(z:Value)(size bytes:Nat)(ht:P.underlying t=some (.slice e))(hi:P.info? e=some i)(hz:i.zero=some z)
 (ai6:i.size=size)(hby:i.bytes=bytes)(hzs:z.cells.size=size)(eH:0<size)
 (v:Value)(n:Nat)(xs:List Value)(hs:a.eval s=v)(aH:w.ownsRow base e size v n xs)
 (ad:Addr)(m c:Nat)(news:List Value)(hx:a.eval x=.slice (some ad) m c)(hl:news.length=m*size)(aji:∀j u,news[j]?=some u->w.cell? (ad.add j)=some u)(I:∀u∈news,u.oneCell'=true)
 (h63:n+m<=maxLen)(ahs:(n+m)*bytes<=140737488355328)(uP:base<=w.heap.size)
 (hK:∀v' w',w'.ownsRow base e size v' (n+m) (xs++news)->w.grownBy w' v.ownBlock->K (a.put o.dst v') w'):Oper.wp P o a w K Q:=by
 obtain⟨v',w',hr,M,h3,_,_⟩:=run_append_own_at (P:=P) w base t o.type e i z size bytes ht hi hz ai6 hby hzs eH v n xs aH ad m c news hl aji I h63 ahs uP;unfold Oper.wp;simp[execOp,VU,resolve,invoke,builtin,hs,hx,hr,Result.andThen];exact hK v' w' M h3
theorem xZ{a:Int}(h0:0<=a)(I:a<=1000000):IntKind.i64.wrap a=a:=by
 simp[IntKind.wrap,IntKind.bits,IntKind.signed];omega
theorem Xf{l:List UInt8}{k:Nat}{most:Int}{acc:List Int}{c:UInt8}(hk:k<l.length)(hc:l[k]=c)(h:jB l (-1)=(jB (l.drop k) most).map (acc++·)) :
  jB l (-1)=if (c.toNat:Int)-48<0\/most+1<(c.toNat:Int)-48 then none else(jB (l.drop (k+1)) (max most ((c.toNat:Int)-48))).map ((acc++[(c.toNat:Int)-48])++·):=by
 rw[h,List.drop_eq_getElem_cons hk,hc];simp only[jB];split
 ·rfl
 ·rw[Option.map_map]
  congr 1
  funext x;simp
theorem VZ{l:List UInt8}{k:Nat}{acc:List Bool}{c:UInt8}(hk:k<l.length)(hc:l[k]=c)(h:jA l=(jA (l.drop k)).map (acc++·)) :
  jA l=if c≠48/\c≠49 then none else(jA (l.drop (k+1))).map ((acc++[decide (c=49)])++·):=by
 rw[h,List.drop_eq_getElem_cons hk,hc];simp only[jA];split
 ·rfl
 ·rw[Option.map_map]
  congr 1
  funext x;simp
def PR(w:World)(oc:Option (List Int))(oh:Option (List Bool))(e:Ending)(w':World):Prop:=
 Below w.heap.size w w'/\∃a1 n1 c1 a2 n2 c2 ok,e=.returned (.tuple #[.agg #[.slice a1 n1 c1,.slice a2 n2 c2],.bool ok])/\match oc,oh with
  |some cl,some hl=>ok=true/\w'.ownsRow (w.heap.size+2) 3 1 (.slice a1 n1 c1) cl.length (cl.map vI)/\w'.ownsRow (w.heap.size+2) 4 1 (.slice a2 n2 c2) hl.length (hl.map Value.bool)
  |_,_=>ok=false
theorem PR.no{w w':World}{oc:Option (List Int)}{oh:Option (List Bool)}{a1 a2:Option Addr}{n1 c1 n2 c2:Nat}(hb:Below w.heap.size w w')(h:oc=none\/oh=none):PR w oc oh (.returned (.tuple #[.agg #[.slice a1 n1 c1,.slice a2 n2 c2],.bool false])) w':=by
 refine⟨hb,a1,n1,c1,a2,n2,c2,false,rfl,?_⟩;obtain rfl|rfl:=h
 ·trivial
 ·cases oc<;>trivial
theorem Vq(w:World)(B:Nat)(s:ByteArray)(v4 v5:Value)(T C:List (List UInt8))(hT:T.length<=7)(hC:C.length<=4)(c4:w.cell? (J B 4)=some v4)(c5:w.cell? (J B 5)=some v5)(r4:w.ownsRow 0 9 1 v4 T.length (T.map str))(r5:w.ownsRow 0 9 1 v5 C.length (C.map str))
 (heq:s.size=T.length+1+C.length)(hlt:T.length<s.size)(OV:s[T.length]'hlt=47) :
  Calls prog 83 #[Aa B 0,.string s] w (PR w (jB (s.data.toList.take T.length) (-1)) (jA (s.data.toList.drop (T.length+1)))):=by
 obtain⟨a4,p4,e4⟩:=bD r4;obtain⟨a5,p5,e5⟩:=bD r5;subst e4;subst e5;have ahM:B<w.heap.size:=an4 w _ c4;have hb:((s.size:Int) != (T.length:Int)+1+(C.length:Int))=false:=anf
 have nO:(T.length:Int)<(s.size:Int):=O
 have fF:(((s[T.length]'hlt).toNat:Int) != 47)=false:=by rw[OV];rfl
 have Pj:B≠w.heap.size:=O
 have agi:B≠w.heap.size+1:=O
 have BQ:B<w.heap.size+1:=O
 have HEQ:=F heq;have HSL:=F OV;have hsd:s.data.toList.length=s.size:=R
 have HSD:=F hsd;clear heq OV hsd;obtain⟨i0,gK,jR,ig,jy⟩:=au5 Sm;obtain⟨j0,Td,hy0,hy1,hy2⟩:=au5 Jw
 go_in
 go_wp2_with fail
 clear fF;obtain⟨w0,kW⟩:∃w0,(w.alloc (.cells #[.slice none 0 0,.slice none 0 0] 166)).alloc (.cells #[.slice none 0 0,.slice none 0 0] 166)=w0:=⟨_,rfl⟩;have hP0:PG w (.slice none 0 0) (.slice none 0 0) [] [] w0:=by
  rw[<-kW];exact⟨eY _ _ _,by simp[go_sem],by simp[go_sem],λi=>by simp[go_sem],by simp[go_sem],by simp[go_sem],λi=>by simp[go_sem],aw9 _ _ _ _,aw9 _ _ _ _,R⟩
 rw[kW];clear kW;have HLT:=F hlt
 go_loopw [8,9] (λm i wr=>∃(most:Int) (acc:List Int) (v1:Value),acc.length<=T.length/\i=A acc.length/\m=A most/\-1<=most/\most<=300/\PG w v1 (.slice none 0 0) acc [] wr/\Hid (jB (s.data.toList.take T.length) (-1)=(jB ((s.data.toList.take T.length).drop acc.length) most).map (acc++·))) (λ_ i _=>T.length-(intOf i).toNat)
 case atStart=>exact⟨-1,[],_,ap7 _,rfl,rfl,O,O,hP0,F R⟩
 case round=>
  obtain⟨most,acc,v1,hk,rfl,rfl,UJ,Fb,yM,iy⟩:=hrel;by_cases qJ:acc.length<T.length
  ·have iF:(acc.length:Int)<(T.length:Int):=O;have hks:acc.length<s.size:=O;have Yx:(acc.length:Int)<(s.size:Int):=O;have Fe:acc.length<(s.data.toList.take T.length).length:=(by rw[ar1,Z HSD];omega);obtain⟨bt,EG⟩:∃bt:UInt8,s[acc.length]'hks=bt:=⟨_,rfl⟩;have hbk:(s.data.toList.take T.length)[acc.length]'Fe=bt:=by
    rw[<-EG,List.getElem_take];simp[ar4]
   have oP:=Xf Fe hbk (Z iy);have mg:(bt.toNat:Int)<256:=(by have:=bt.toNat_lt;omega);have aaL:(0:Int)<=(bt.toNat:Int):=O;obtain⟨b1,p1,e1⟩:=oC yM.r1;subst e1;obtain⟨wz,NJ,z0,z1,zb,_,_⟩:=yM.ret;have kR:=F oP;have HPG:=F yM;have q0:=yM.x0;have q1:=yM.x1;have q2:=yM.f 0;have t0:=yM.y0;have t1:=yM.y1;have t2:=yM.g 0;have t3:=yM.g 1;clear oP iy hbk yM;by_cases I:(bt.toNat:Int)-48<0
   ·have HC:=Z kR;rw[ao4 (Or.inl I)]at HC;have IC:=F HC;clear HC kR
    go_wp2_with fail
    exact aq0 (v:=.tuple #[.agg #[.slice b1 acc.length p1,.slice none 0 0],.bool false]) (by simp[results,results83,go_sem,z0,z1]) rfl (PR.no zb (Or.inl (Z IC)))
   ·by_cases M:most+1<(bt.toNat:Int)-48
    ·have HC:=Z kR;rw[ao4 (Or.inr M)]at HC;have IC:=F HC;clear HC kR
     go_wp2_with fail
     exact aq0 (v:=.tuple #[.agg #[.slice b1 acc.length p1,.slice none 0 0],.bool false]) (by simp[results,results83,go_sem,z0,z1]) rfl (PR.no zb (Or.inl (Z IC)))
    ·have HC:=Z kR;rw[an8 O]at HC;have IC:=F HC;clear HC kR NJ z0 z1 zb;by_cases h3:most<(bt.toNat:Int)-48
     ·have hmx:max most ((bt.toNat:Int)-48)=(bt.toNat:Int)-48:=O;rw[hmx]at IC;clear hmx
      go_wp2_with (at_builtin;refine av6 _ rfl _ _ 164 rfl (w.heap.size+2) 3 i0 (A 0) 1 8 underlying164 gK jR ig jy rfl ane (.slice b1 acc.length p1) acc.length (acc.map vI) rfl (by exact aw7 (by exact(Z HPG).r1) _) (J wr.heap.size 0) 1 1 [vI ((bt.toNat:Int)-48)] rfl rfl (Dw _ _ _ _ rfl) (aeZ _) anj O (by have:=(Z HPG).size;simp;omega) ?_;intro v' w3 aH dG fC AB;obtain⟨b2,p2,BD⟩:=oC aH;subst BD;have hP3:=(Z HPG).one aH dG;obtain⟨m1,m2⟩:=(Z HPG).aiD dG)
      go_wp2_with fail
      exact⟨⟨(bt.toNat:Int)-48,acc++[(bt.toNat:Int)-48],_,by rw[ap4,au7];omega,R,rfl,O,O,hP3,F (by simpa using Z IC)⟩,by simp[intOf];omega⟩
     ·have hmx:max most ((bt.toNat:Int)-48)=most:=O;rw[hmx]at IC;clear hmx
      go_wp2_with (at_builtin;refine av6 _ rfl _ _ 164 rfl (w.heap.size+2) 3 i0 (A 0) 1 8 underlying164 gK jR ig jy rfl ane (.slice b1 acc.length p1) acc.length (acc.map vI) rfl (by exact aw7 (by exact(Z HPG).r1) _) (J wr.heap.size 0) 1 1 [vI ((bt.toNat:Int)-48)] rfl rfl (Dw _ _ _ _ rfl) (aeZ _) anj O (by have:=(Z HPG).size;simp;omega) ?_;intro v' w3 aH dG fC AB;obtain⟨b2,p2,BD⟩:=oC aH;subst BD;have hP3:=(Z HPG).one aH dG;obtain⟨m1,m2⟩:=(Z HPG).aiD dG)
      go_wp2_with fail
      exact⟨⟨most,acc++[(bt.toNat:Int)-48],_,by rw[ap4,au7];omega,R,rfl,O,O,hP3,F (by simpa using Z IC)⟩,by simp[intOf];omega⟩
  ·have gW:acc.length=T.length:=O;have iF:¬(acc.length:Int)<(T.length:Int):=O;have Wl:jB (s.data.toList.take T.length) (-1)=some acc:=by
    rw[Z iy,List.drop_eq_nil_of_le (by rw[ar1];omega)];simp[jB]
   have HCL:=F Wl;have Lr:=F gW;obtain⟨b1,p1,e1⟩:=oC yM.r1;subst e1;have HPG:=F yM;clear Wl iy gW yM
   go_wp2_with fail
   go_loopw [11] (λi wr=>∃(sF:List Bool) (v2:Value),sF.length<=C.length/\i=A ((T.length:Int)+1+(sF.length:Int))/\PG w (.slice b1 acc.length p1) v2 acc sF wr/\Hid (jA (s.data.toList.drop (T.length+1))=(jA ((s.data.toList.drop (T.length+1)).drop sF.length)).map (sF++·))) (λi _=>s.size-(intOf i).toNat)
   case atStart=>exact⟨[],_,ap7 _,R,Z HPG,F R⟩
   case round=>
    obtain⟨sF,v2,sH,rfl,yM,iy⟩:=hrel;clear HPG;have heq:=Z HEQ;by_cases hlh:sF.length<C.length
    ·have JR:(T.length:Int)+1+(sF.length:Int)<(s.size:Int):=O;have hks:T.length+1+sF.length<s.size:=O;have Fe:sF.length<(s.data.toList.drop (T.length+1)).length:=(by rw[List.length_drop,Z HSD];omega);obtain⟨bt,EG⟩:∃bt:UInt8,s[T.length+1+sF.length]'hks=bt:=⟨_,rfl⟩;have hbk:(s.data.toList.drop (T.length+1))[sF.length]'Fe=bt:=by
      rw[<-EG,List.getElem_drop];simp[ar4]
     have oP:=VZ Fe hbk (Z iy);obtain⟨b2,p2,e2⟩:=oC yM.r2;subst e2;obtain⟨wz,NJ,z0,z1,zb,_,_⟩:=yM.ret;have HBY:Hid (∀W:World,(Instr.index 9 (.string s) (A ((T.length:Int)+1+(sF.length:Int)))).run prog W=.ok (Ae (bt.toNat:Int)) W):=λW=>by
      have xk:((T.length:Int)+1+(sF.length:Int))=((T.length+1+sF.length:Nat):Int):=O;rw[xk,run_index_string (P:=prog) _ _ _ _ _ underlying9,dif_pos ⟨O,O⟩,<-EG];rfl
     have kR:=F oP;have abA:=F yM;have q0:=yM.x0;have q1:=yM.x1;have q2:=yM.f 1;have t0:=yM.y0;have t1:=yM.y1;have t2:=yM.g 0;have t3:=yM.g 1;have akN:=F heq;clear oP iy hbk yM EG heq;by_cases Qr:bt=48
     ·subst Qr;have hby:∀W:World,(Instr.index 9 (.string s) (A ((T.length:Int)+1+(sF.length:Int)))).run prog W=.ok (Ae 48) W:=Z HBY;have HC:=Z kR;rw[an8 ane]at HC;have IC:=F HC;clear HC kR NJ z0 z1 zb
      go_wp2_with fail
      have aA:wr.drew.cell? (J (w.heap.size+1) 1)=some (.slice b2 sF.length p2):=q1;refine wp_region_any rfl (iI (S:=λW'=>W'.cell? (J (w.heap.size+1) 1)=some (.slice b2 sF.length p2)) (z:=9) _ _ _ _ ?_);simp only[ao5,ao1,ap0,Nat.reduceAdd,an7,an6,ao6,ao8,ao7];change wpAnyL prog .any _ _ _ _ _ _ _ wr.drew;refine tL 0 (Aa (w.heap.size+1) 1) (λw' hS=>?_) aA ?_
      ·go_simp
      simp only[aF];refine tL 1 (.slice b2 sF.length p2) (λw' hS=>?_) aA ?_
      ·go_simp
      simp only[aF];refine tL 2 (.string s) (λw' hS=>?_) aA ?_
      ·go_simp
      simp only[aF];refine tL 3 (A ((T.length:Int)+1+(sF.length:Int))) (λw' hS=>?_) aA ?_
      ·go_simp
      simp only[aF];refine tL 4 (Ae 48) (λw' hS=>?_) aA ?_
      ·go_simp
      simp only[aF];refine tL 5 (.bool false) (λw' hS=>?_) aA ?_
      ·go_simp
      simp only[aF];have mP:wr.drew.grownBy (wr.drew.alloc (.cells #[.bool false] 4)) none:=an1 _ _ none;refine oL 6 (λK hK=>?_);go_simp;refine hK.out _ _ (λ_=>mP.cell aA R) ?_;clear hK K;refine oL 7 (λK hK=>?_);refine lK (.tmp 85) (.tmp 90) 54 rfl (w.heap.size+2) 4 j0 (.bool false) 1 1 underlying54 Td hy0 hy1 hy2 rfl ane (.slice b2 sF.length p2) sF.length (sF.map Value.bool) rfl (by exact aw7 (by exact(Z abA).r2) _) (J wr.heap.size 0) 1 1 [.bool false] rfl rfl (Dx _ _ _ _ rfl) (ae0 _) anj O (by have:=(Z abA).size;simp;omega) ?_;intro v' w3 aH dG;obtain⟨b3,p3,hv3⟩:=oC aH;subst hv3;have hPd:PG w (.slice b1 acc.length p1) (.slice b2 sF.length p2) acc sF wr.drew:=(Z abA).drew;have hP3:=hPd.two aH dG;obtain⟨m1,m2⟩:=hPd.aiC dG;refine hK.out _ _ (λ_=>m1) ?_;clear hK K;refine oL 8 (λK hK=>?_);go_simp;refine hK.out _ _ (λ_=>m1) ?_;clear hK K;refine oL 9 (λK hK=>?_);go_simp;refine hK.out _ _ (λh=>absurd rfl h) (jh (by kernel_rfl) ?_ _);clear hK K;have uH:IntKind.i64.wrap ((T.length:Int)+1+(sF.length:Int)+1)=(T.length:Int)+1+(sF.length:Int)+1:=xZ O O
      go_wp2_with fail
      refine⟨⟨sF++[false],_,by rw[ap4,au7];omega,by rw[ap4,au7];go_num,hP3,F (by simpa using Z IC)⟩,?_⟩;have hss:=Z akN;simp[intOf];omega
     ·by_cases h49:bt=49
      ·subst h49;have hby:∀W:World,(Instr.index 9 (.string s) (A ((T.length:Int)+1+(sF.length:Int)))).run prog W=.ok (Ae 49) W:=Z HBY;have HC:=Z kR;rw[an8 ane]at HC;have IC:=F HC;clear HC kR NJ z0 z1 zb
       go_wp2_with fail
       have aA:wr.drew.cell? (J (w.heap.size+1) 1)=some (.slice b2 sF.length p2):=q1;refine wp_region_any rfl (iI (S:=λW'=>W'.cell? (J (w.heap.size+1) 1)=some (.slice b2 sF.length p2)) (z:=9) _ _ _ _ ?_);simp only[ao5,ao1,ap0,Nat.reduceAdd,an7,an6,ao6,ao8,ao7];change wpAnyL prog .any _ _ _ _ _ _ _ wr.drew;refine tL 0 (Aa (w.heap.size+1) 1) (λw' hS=>?_) aA ?_
       ·go_simp
       simp only[aF];refine tL 1 (.slice b2 sF.length p2) (λw' hS=>?_) aA ?_
       ·go_simp
       simp only[aF];refine tL 2 (.string s) (λw' hS=>?_) aA ?_
       ·go_simp
       simp only[aF];refine tL 3 (A ((T.length:Int)+1+(sF.length:Int))) (λw' hS=>?_) aA ?_
       ·go_simp
       simp only[aF];refine tL 4 (Ae 49) (λw' hS=>?_) aA ?_
       ·go_simp
       simp only[aF];refine tL 5 (.bool true) (λw' hS=>?_) aA ?_
       ·go_simp
       simp only[aF];have mP:wr.drew.grownBy (wr.drew.alloc (.cells #[.bool true] 4)) none:=an1 _ _ none;refine oL 6 (λK hK=>?_);go_simp;refine hK.out _ _ (λ_=>mP.cell aA R) ?_;clear hK K;refine oL 7 (λK hK=>?_);refine lK (.tmp 85) (.tmp 90) 54 rfl (w.heap.size+2) 4 j0 (.bool false) 1 1 underlying54 Td hy0 hy1 hy2 rfl ane (.slice b2 sF.length p2) sF.length (sF.map Value.bool) rfl (by exact aw7 (by exact(Z abA).r2) _) (J wr.heap.size 0) 1 1 [.bool true] rfl rfl (Dx _ _ _ _ rfl) (ae0 _) anj O (by have:=(Z abA).size;simp;omega) ?_;intro v' w3 aH dG;obtain⟨b3,p3,hv3⟩:=oC aH;subst hv3;have hPd:PG w (.slice b1 acc.length p1) (.slice b2 sF.length p2) acc sF wr.drew:=(Z abA).drew;have hP3:=hPd.two aH dG;obtain⟨m1,m2⟩:=hPd.aiC dG;refine hK.out _ _ (λ_=>m1) ?_;clear hK K;refine oL 8 (λK hK=>?_);go_simp;refine hK.out _ _ (λ_=>m1) ?_;clear hK K;refine oL 9 (λK hK=>?_);go_simp;refine hK.out _ _ (λh=>absurd rfl h) (jh (by kernel_rfl) ?_ _);clear hK K;have uH:IntKind.i64.wrap ((T.length:Int)+1+(sF.length:Int)+1)=(T.length:Int)+1+(sF.length:Int)+1:=xZ O O
       go_wp2_with fail
       refine⟨⟨sF++[true],_,by rw[ap4,au7];omega,by rw[ap4,au7];go_num,hP3,F (by simpa using Z IC)⟩,?_⟩;have hss:=Z akN;simp[intOf];omega
      ·have HC:=Z kR;rw[ao4 ⟨Qr,h49⟩]at HC;have IC:=F HC;have hby:=Z HBY;have hn1:((bt.toNat:Int) != 48)=true:=(by have:=zY Qr;simpa[bne]using this);have EC:((bt.toNat:Int) != 49)=true:=(by have:=zY h49;simpa[bne]using this);clear HC kR
       go_wp2_with fail
       exact aq0 (v:=.tuple #[.agg #[.slice b1 acc.length p1,.slice b2 sF.length p2],.bool false]) (by simp[results,results83,go_sem,z0,z1]) rfl (PR.no zb (Or.inr (Z IC)))
    ·have alm:sF.length=C.length:=O;have JR:¬(T.length:Int)+1+(sF.length:Int)<(s.size:Int):=O;have Wl:jA (s.data.toList.drop (T.length+1))=some sF:=by
      rw[Z iy,List.drop_eq_nil_of_le (by rw[List.length_drop,Z HSD];omega)];simp[jA]
     obtain⟨b2,p2,e2⟩:=oC yM.r2;subst e2;obtain⟨wz,NJ,z0,z1,zb,zr1,zr2⟩:=yM.ret;have amm:=F Wl;have q0:=yM.x0;have q1:=yM.x1;have t0:=yM.y0;have t1:=yM.y1;have t2:=yM.g 0;have t3:=yM.g 1;have ZR1:=F zr1;have ZR2:=F zr2;clear Wl iy yM alm heq zr1 zr2
     go_wp2_with fail
     refine aq0 (v:=.tuple #[.agg #[.slice b1 acc.length p1,.slice b2 sF.length p2],.bool true]) (by simp[results,results83,go_sem,z0,z1]) rfl ⟨zb,_,_,_,_,_,_,true,rfl,?_⟩;rw[Z HCL,Z amm];exact⟨rfl,Z ZR1,Z ZR2⟩
end
section
open Go.RowKit
open au (St put cut jB jA)
theorem abZ{W:World}{base e n:Nat}{v:Value}{xs:List Value}(h:W.ownsRow base e 1 v n xs):∃a c,v=.slice a n c/\(0<n->∃g,a=some (J g 0)/\g<W.heap.size/\∀j,j<n->W.cell? (J g j)=xs[j]?):=by
 obtain⟨a,c,rfl⟩:=oC h;refine⟨a,c,rfl,λh0=>?_⟩;obtain⟨I,M⟩|⟨g,cap,cur,I,_⟩:=h.2
 ·omega
 ·injection I with M _ _
  subst M;exact⟨g,rfl,(h.lt g rfl).2,λj hj=>h.cellAt j O⟩
theorem akt{W:World}{base:Nat}{k1 k2:Value}{cl:List Int}{hl:List Bool}(I:W.ownsRow base 3 1 k1 cl.length (cl.map vI))(M:W.ownsRow base 4 1 k2 hl.length (hl.map Value.bool)):CS W W.heap.size k1 k2 cl hl:=by
 obtain⟨a1,c1,e1,f1⟩:=abZ I;obtain⟨a2,c2,e2,f2⟩:=abZ M;refine⟨⟨a1,c1,e1,λh0=>?_⟩,a2,c2,e2,λh0=>?_⟩
 ·obtain⟨g,r1,r2,r3⟩:=f1 h0;exact⟨g,r1,r2,λj hj=>by rw[r3 j hj];simp[hj,vI]⟩
 ·obtain⟨g,r1,r2,r3⟩:=f2 h0;exact⟨g,r1,r2,λj hj=>by rw[r3 j hj];simp[hj]⟩
theorem parse_any(w:World)(B:Nat)(s:ByteArray)(v4 v5:Value)(T C:List (List UInt8))(hT:T.length<=7)(hC:C.length<=4)(hm:s.size<=maxLen)(c4:w.cell? (J B 4)=some v4)(c5:w.cell? (J B 5)=some v5)(r4:w.ownsRow 0 9 1 v4 T.length (T.map str))(r5:w.ownsRow 0 9 1 v5 C.length (C.map str)) :
  Calls prog 83 #[Aa B 0,.string s] w λe w'=>Below w.heap.size w w'/\∃a1 n1 c1 a2 n2 c2 ok,e=.returned (.tuple #[.agg #[.slice a1 n1 c1,.slice a2 n2 c2],.bool ok])/\ok=(au.parse T.length C.length s.data.toList).isSome/\∀cl hl,au.parse T.length C.length s.data.toList=some (cl,hl)->CS w' w'.heap.size (.slice a1 n1 c1) (.slice a2 n2 c2) cl hl:=by
 have hsd:s.data.toList.length=s.size:=R
 by_cases heq:s.size=T.length+1+C.length
 ·have hlt:T.length<s.size:=O
  have Lj:s.data.toList.getD T.length 0=s[T.length]'hlt:=by
   have I:T.length<s.data.toList.length:=(by rw[hsd];exact hlt);rw[ao0,an3 I];simp[ar4]
  by_cases OV:s[T.length]'hlt=47
  ·refine(Vq w B s v4 v5 T C hT hC c4 c5 r4 r5 heq hlt OV).mono ?_;rintro e w' ⟨hb,a1,n1,c1,a2,n2,c2,ok,he,hk⟩;have hp:au.parse T.length C.length s.data.toList=match jB (s.data.toList.take T.length) (-1)with|none=>none|some cl=>(jA (s.data.toList.drop (T.length+1))).map λhl=>(cl,hl):=by
    unfold au.parse;rw[an8 (by rw[hsd,Lj,OV];simp[heq])];rfl
   refine⟨hb,a1,n1,c1,a2,n2,c2,ok,he,?_⟩;rw[hp];cases I:jB (s.data.toList.take T.length) (-1)with
   |none=>rw[I]at hk;exact⟨hk,λ_ _ e=>by cases e⟩
   |some cl=>
    cases M:jA (s.data.toList.drop (T.length+1))with
    |none=>rw[I,M]at hk;exact⟨hk,λ_ _ e=>by cases e⟩
    |some hl=>
     rw[I,M]at hk;obtain⟨q1,q2,q3⟩:=hk;exact⟨q1,λ_ _ e=>by cases e;exact akt q2 q3⟩
  ·refine(Rq w B s v4 v5 T C hT hC c4 c5 r4 r5 heq hlt OV).mono ?_;rintro e w' ⟨⟨a1,n1,c1,a2,n2,c2,he⟩,hb⟩;have hp:au.parse T.length C.length s.data.toList=none:=by
    unfold au.parse;rw[ao4 (Or.inr (by rw[Lj];exact OV))]
   rw[hp];exact⟨hb,a1,n1,c1,a2,n2,c2,false,he,rfl,λ_ _ e=>by cases e⟩
 ·refine(ZJ w B s v4 v5 T C hT hC hm c4 c5 r4 r5 heq).mono ?_;rintro e w' ⟨⟨a1,n1,c1,a2,n2,c2,he⟩,hb⟩;have hp:au.parse T.length C.length s.data.toList=none:=by
   unfold au.parse;rw[ao4 (Or.inl (by rw[hsd];exact heq))]
  rw[hp];exact⟨hb,a1,n1,c1,a2,n2,c2,false,he,rfl,λ_ _ e=>by cases e⟩
theorem Ei:∀(l:List UInt8) (m:Int) (cl:List Int),jB l m=some cl->cl.length=l.length
 |[],_,cl,h=>by simp[jB]at h;subst h;rfl
 |c::r,m,cl,h=>by
  simp only[jB]at h;split at h
  ·cases h
  ·obtain⟨x,I,rfl⟩:=Option.map_eq_some_iff.1 h;simp[Ei r _ x I]
theorem DZ:∀(l:List UInt8) (hl:List Bool),jA l=some hl->hl.length=l.length
 |[],hl,h=>by simp[jA]at h;subst h;rfl
 |c::r,hl,h=>by
  simp only[jA]at h;split at h
  ·cases h
  ·obtain⟨x,I,rfl⟩:=Option.map_eq_some_iff.1 h;simp[DZ r x I]
theorem OH{n c:Nat}{l:List UInt8}{cl:List Int}{hl:List Bool}(h:au.parse n c l=some (cl,hl)):cl.length=n/\hl.length=c/\l.length=n+1+c:=by
 unfold au.parse at h;split at h
 ·cases h
 ·rename_i h0;have h0':l.length=n+1+c:=by
   obtain I|I|I:=Nat.lt_trichotomy l.length (n+1+c)
   ·exact absurd (Or.inl O) h0
   ·exact I
   ·exact absurd (Or.inl O) h0
  split at h
  ·cases h
  ·rename_i x hx;obtain⟨y,hy,e⟩:=Option.map_eq_some_iff.1 h;cases e;have I:=Ei _ _ _ hx;have M:=DZ _ _ hy;rw[ar1]at I;rw[List.length_drop]at M;exact⟨O,O,h0'⟩
end
section
open au (Key put St bJ gV)
theorem QD(s:ByteArray)(cl:List Int)(hl:List Bool)(Y:Ai)(cs:Ah)(ps:Ai)(m:Nat)(h:au.lG (pk s) (s.size+1) 0 0 [] [] []=.ok (s.size,Y,cs,ps,m)):Ou s cl hl=(gV cl hl ps).getD m false:=by
 have Ij:s.data.toList.length=s.size:=R
 have h0:au.Inv ([]:Ai):=au.Yh;have hv:=au.QA (cl:=cl) (hl:=hl) (l:=s.data.toList) (s.size+1) 0 0 [] [] [] (ap7 _) O h0 (λx hx=>absurd hx R) ⟨az6,λi hi=>absurd hi R⟩;rw[<-ach,h]at hv;unfold Ou;exact hv
end
open Go.RowKit Go.Maps Go.WideMaps
open Sat (View Rule og dN)
structure rZ(w:World)(m:Nat)(τ:List Tr):Prop where
 map:∃es,w.ownsMap prog 3 ES m τ.length (.map es)/\es.Perm (ents τ)
 le:∀q∈τ,q.1<=1000
 shape:∀q∈τ,∃p l c,q.2.2.1=.slice p l c
 nodup:(τ.map (·.1)).Nodup
theorem dJ.m{w:World}{m:Nat}{τ:List Tr}(h:dJ w m τ):rZ w m τ:=
 ⟨h.map,h.le,λq hq=>by obtain⟨p,c,e⟩:=(h.by_ q hq).len;exact⟨p,_,c,e⟩,h.nodup⟩
theorem rZ.lt{w:World}{m:Nat}{τ:List Tr}(h:rZ w m τ):m<w.heap.size:=by
 obtain⟨es,I,_⟩:=h.map;exact I.lt
theorem rZ.kept{w w':World}{m:Nat}{τ:List Tr}(h:rZ w m τ)(hb:w'.heap[m]?=w.heap[m]?):rZ w' m τ:=by
 obtain⟨es,⟨e1,c1,I,M⟩,h3⟩:=h.map;exact⟨⟨es,⟨e1,c1,hb.trans I,M⟩,h3⟩,h.le,h.shape,h.nodup⟩
theorem rZ.look1{w:World}{m:Nat}{τ:List Tr}(h:rZ w m τ){x:Nat}(hx:x<=1000):(Instr.lookup 128 (.map (some m)) (A x) false).run prog w=.ok (Ez τ x) w:=by
 obtain⟨es,I,M⟩:=h.map;obtain⟨es',e1,e2,_⟩:=I.entries iO;cases e1;obtain⟨v,ps,iW,hv⟩:=I.lookup iO underlying128 (abB w) (zd:=.held (.agg #[.bool false,A 0,.slice none 0 0])) (zp:=[]) rfl (yH hx);rw[dJ.atKey M e2 x]at hv;cases hv;exact iW
theorem RX{key:Value}{kl:Lit}(h:keyOf prog 3 key=some kl):∃x,key=Value.int .i64 x:=by
 unfold keyOf at h;simp only[underlying3]at h;unfold mapKey at h;simp only[underlying3]at h;cases key<;>simp at h;obtain⟨⟨rfl,_⟩,_⟩:=h;exact⟨_,rfl⟩
theorem ZX{τ:List Tr}{es:List (Lit×DataW Value)}(hp:es.Perm (ents τ)){kl:Lit}{d:DataW Value}(gU:∀zd,(DataW.map es).atKey kl zd=d):∃x:Nat,kl=.int .i64 x/\x∈τ.map (·.1):=by
 cases e:es.find? (λp=>p.1.sameKey kl)with
 |none=>
  have I:=gU .nil;have M:=gU (.held undef);simp only[DataW.atKey,e]at I M;rw[<-I]at M;cases M
 |some p=>
  have I:=List.find?_some e;have M:=List.mem_of_find?_eq_some e;have h3:=hp.mem_iff.1 M;obtain⟨⟨q,k⟩,hq,rfl⟩:=ap6.1 h3;have:=(aC0 hq).2.2;refine⟨q.1,(WideAt.sameKey_eq I).symm,ap6.2 ⟨q,?_,rfl⟩⟩;rw[this];simp
theorem aah(aj:Fence)(n:Nat)(hf:aj.fn 189)(yK:aj.round=none)(hn:1<=n)(Bm BT:Nat)(τ:List Tr)(ys:List Nat)(w:World)(hp:ys.Perm (τ.map (·.1)))
 (hBm:w.cell? (J Bm 0)=some (.map (some BT)))(hM:rZ w BT τ) :
  nY aj n prog 189 #[Aa Bm 0] (λi:Fin ys.length=>#[kN ys[i]]) (λss=>ss.Perm (List.finRange ys.length)) ys.length KeepsWalks w:=by
 have iL:ys.Nodup:=hp.nodup_iff.2 hM.nodup;have hle:∀x∈ys,x<=1000:=λx hx=>by
  obtain⟨q,hq,rfl⟩:=ap6.1 (hp.mem_iff.1 hx);exact hM.le q hq
 intro l Af W hW hJ hY h0;have ahL:W.cell? (J Bm 0)=some (.map (some BT)):=(hW.cell (p:=(J Bm 0)) (an4 w _ hBm)).trans hBm;have yS:rZ W BT τ:=hM.kept (hW.block BT hM.lt);obtain⟨es,aH,hpe⟩:=yS.map;obtain⟨w2,Yn,rg,dh,su⟩:=aH.range iO underlying128;have hel:es.length=ys.length:=by rw[hpe.length_eq,hp.length_eq];simp[ents]
 have HPE:=F hpe;have HP:=F hp;have HEL:=F hel;have HM:=F hM;have HS2:=F su;refine au2 func189 rfl hf ?_ yK;simp only[ntmps189,ao5,ao1,ap0,Nat.reduceAdd,Nat.reduceSub,an7,an6,ao6,ap9,ao8,ao7]
 gi_wp2
 gi_loopw [3] (λ_ wr=>∃left cnt,∃ss:List (Fin ys.length),wr.ranges prog 3 ES BT W.heap.size τ.length (.map es) left cnt/\Hid (ss.length+cnt<=ys.length)/\Hid (Coll 3 kN ys left ss)/\Af ss wr) (λ_ wr=>wr.rangeLeft BT W.heap.size)
 case atStart=>
  refine⟨_,_,[],rg,?_,?_,hJ [] W w2 none h0 dh (λr e=>by cases e)⟩
  ·have:=Z HEL
   show([]:List (Fin ys.length)).length+es.length<=ys.length
   simp;omega
  ·refine Coll.start λi lt hk=>?_;have hx:=hle ys[i] (an5 i.isLt);have e:lt=.int .i64 ys[i]:=by
    have h:=(yH hx).symm.trans hk;cases h;rfl
   rw[e,dJ.has (Z HPE)];have hm:=(Z HP).mem_iff.1 (an5 i.isLt);cases e2:sS τ ys[i]
   ·exfalso;have:uS τ ys[i]=none:=(by simpa[sS]using e2);exact oW.1 this hm
   ·rfl
 case round=>
  obtain⟨left,cnt,ss,BH,hlen,yO,hJs⟩:=hrel
  gi_wp2_with (gi_at_next;refine wpListIn_next_ranges _ rfl _ rfl 3 iO ES (Value.int .i64) id (λkey kl h=>RX h) (λv _ _=>⟨v,rfl⟩) BT W.heap.size τ.length (.map es) left cnt rfl BH ?_ ?_)
  ·intro zO NS;have hp:=(Z yO).perm (λx hx=>⟨_,yH (hle x hx)⟩) NS
   gi_wp2
   go_end0
   exact⟨⟨_,rfl⟩,ss,hp,hJs⟩
  ·intro xi c kl y1 y2 w' Ci aV qJ hy gU VT hlt jS LX hen;obtain⟨x,rfl,hx⟩:=ZX (Z HPE) gU;have hxm:=(Z HP).mem_iff.2 hx;have hxi:xi=(x:Int):=by
    have h:=iO.inj aV (yH (hle x hxm));cases h;rfl
   subst hxi;have NV:=ar0 hxm;obtain⟨i,hi⟩:∃i:Fin ys.length,ys[i]=x:=⟨⟨ys.idxOf x,NV⟩,ar8 NV⟩;have IC:=F ((Z yO).step iO (λ_ _=>OL) iL (i:=i) (by rw[hi];exact aV) qJ);have JK:Hid ((ss++[i]).length+Ci<=ys.length):=by
    have:=Z hlen
    show(ss++[i]).length+Ci<=ys.length
    simp;omega
   have lZ:=hY ss i;rw[hi]at lZ;have sG:ss.length<ys.length:=(by have:=Z hlen;omega);simp only[kN]at hen lZ ⊢;obtain⟨fn,tmps,assign,body,hy,hR⟩:=lZ w' (hJ ss wr w' (some W.heap.size) hJs jS (λr e=>by cases e;exact⟨an2 _,BH.iter_walk⟩)) sG;have HS:=F LX
   gi_wp2
   refine hR.mono ?_;rintro e W3 ⟨rfl,xM,pG⟩;have BI:=VT.of_walks pG
   gi_wp2
   go_roundw
   case rel=>exact⟨_,Ci,_,BI,JK,IC,xM⟩
   case measure=>rw[BI.left_eq,BH.left_eq];exact hlt
end Go.Proofs.YthcppbmkacbbiabGreat
