import Derived.Test.YthcppbmkacbbiaaGreatYAR
import Derived.Test.YthcppbmkacbbiaaGreatYAS
import Derived.Test.YthcppbmkacbbiaaGreatSri
set_option linter.unusedSimpArgs false
set_option maxHeartbeats 1000000
set_option maxRecDepth 100000
namespace Go.Proofs.YthcppbmkacbbiaaGreat
open Go.Proofs.Tryz
section
open Go.RowKit
open aB (St put cut)
theorem UN:(prog.info? 3).map (λi=>(i.zero,i.size,i.bytes))=some (some (.int .i64 0),1,8):=by kernel_rfl
def vI(x:Int):Value:=.int .i64 x
theorem Ey(w:World)(x:Int)(t:TypeId)(n:Nat)(hn:w.heap.size=n):∀j u,[vI x][j]?=some u->(w.alloc (.cells #[vI x] t)).cell? ((⟨n,0,none⟩:Addr).add j)=some u:=by
 subst hn;intro j u hj;cases j with
 |zero=>simp at hj;subst hj;simp[Addr.add]
 |succ j=>simp at hj
theorem XH(x:Int):∀u∈[vI x],u.oneCell'=true:=by intro u hu;simp at hu;subst hu;rfl
theorem SX{w:World}{base e n:Nat}{v:Value}{xs:List Value}(h:w.ownsRow base e 1 v n xs):∃ao cap,v=.slice ao n cap:=by
 obtain⟨_,h2⟩:=h;rcases h2 with⟨e,e2⟩|⟨g,cap,cur,e,_⟩
 ·subst e2;exact⟨_,_,e⟩
 ·exact⟨_,_,e⟩
end
section
open Go.RowKit
open aB (St put cut)
attribute [local go_sem] Oper.semAt_some
theorem lC{P:Program}{Q:Exit->Act->World->Prop}{o:Oper}{a:Act}{w:World}{K:Act->World->Prop}(s x:Operand)(t:TypeId)(hop:o.op=Op.call {callee:=Callee.builtin Builtin.append,args:=#[s,x],argTypes:=#[t,t]})
 (base:Nat)(e:TypeId)(i:TypeInfo)(z:Value)(size bytes:Nat)(ht:P.underlying t=some (.slice e))(hi:P.info? e=some i)(hz:i.zero=some z)
 (hsize:i.size=size)(hby:i.bytes=bytes)(hzs:z.cells.size=size)(hsz:0<size)
 (v:Value)(n:Nat)(xs:List Value)(hs:a.eval s=v)(hown:w.ownsRow base e size v n xs)
 (ad:Addr)(m c:Nat)(news:List Value)(hx:a.eval x=.slice (some ad) m c)(hl:news.length=m*size)(hnews:∀j u,news[j]?=some u->w.cell? (ad.add j)=some u)(h1:∀u∈news,u.oneCell'=true)
 (h63:n+m<=maxLen)(hbytes:(n+m)*bytes<=140737488355328)(hbase:base<=w.heap.size)
 (hK:∀v' w',w'.ownsRow base e size v' (n+m) (xs++news)->w.grownBy w' v.ownBlock->K (a.put o.dst v') w'):Oper.wp P o a w K Q:=by
 obtain⟨v',w',hr,h2,h3,_,_⟩:=run_append_own_at (P:=P) w base t o.type e i z size bytes ht hi hz hsize hby hzs hsz v n xs hown ad m c news hl hnews h1 h63 hbytes hbase;unfold Oper.wp;simp[execOp,hop,resolve,invoke,builtin,hs,hx,hr,Result.andThen];exact hK v' w' h2 h3
theorem DN{a:Int}(h0:0<=a)(h1:a<=1000000):IntKind.i64.wrap a=a:=by
 simp[IntKind.wrap,IntKind.bits,IntKind.signed];omega
end
section
open Go.RowKit Go.Maps Go.WideMaps
open Sat (View Rule jw bI)
structure lq(w:World)(m:Nat)(τ:List Tr):Prop where
 map:∃es,w.ownsMap prog 3 uP m τ.length (.map es)/\es.Perm (ents τ)
 le:∀q∈τ,q.1<=1000
 shape:∀q∈τ,∃p l c,q.2.2.1=.slice p l c
 nodup:(τ.map (·.1)).Nodup
theorem bG.m{w:World}{m:Nat}{τ:List Tr}(h:bG w m τ):lq w m τ:=
 ⟨h.map,h.le,λq hq=>by obtain⟨p,c,e⟩:=(h.Ny q hq).len;exact⟨p,_,c,e⟩,h.nodup⟩
theorem lq.lt{w:World}{m:Nat}{τ:List Tr}(h:lq w m τ):m<w.heap.size:=by
 obtain⟨es,h1,_⟩:=h.map;exact h1.lt
theorem lq.kept{w w':World}{m:Nat}{τ:List Tr}(h:lq w m τ)(hb:w'.heap[m]?=w.heap[m]?):lq w' m τ:=by
 obtain⟨es,⟨e1,c1,h1,h2⟩,h3⟩:=h.map;exact⟨⟨es,⟨e1,c1,hb.trans h1,h2⟩,h3⟩,h.le,h.shape,h.nodup⟩
theorem lq.look1{w:World}{m:Nat}{τ:List Tr}(h:lq w m τ){x:Nat}(hx:x<=1000):(Instr.lookup 159 (.map (some m)) (.int .i64 x) false).run prog w=.ok (uH τ x) w:=by
 obtain⟨es,h1,h2⟩:=h.map;obtain⟨es',e1,e2,_⟩:=h1.entries fG;cases e1;obtain⟨v,ps,hrun,hv⟩:=h1.lookup fG underlying159 (NS w) (zd:=.held (.agg #[.bool false,.int .i64 0,.slice none 0 0])) (zp:=[]) rfl (qY hx);rw[bG.atKey h2 e2 x]at hv;cases hv;exact hrun
theorem EL{key:Value}{kl:Lit}(h:keyOf prog 3 key=some kl):∃x,key=Value.int .i64 x:=by
 unfold keyOf at h;simp only[underlying3]at h;unfold mapKey at h;simp only[underlying3]at h;cases key<;>simp at h;obtain⟨⟨rfl,_⟩,_⟩:=h;exact⟨_,rfl⟩
theorem Lj{τ:List Tr}{es:List (Lit×DataW Value)}(hp:es.Perm (ents τ)){kl:Lit}{d:DataW Value}(hat:∀zd,(DataW.map es).atKey kl zd=d):∃x:Nat,kl=.int .i64 x/\x∈τ.map (·.1):=by
 cases e:es.find? (λp=>p.1.sameKey kl)with
 |none=>
  have h1:=hat .nil;have h2:=hat (.held undef);simp only[DataW.atKey,e]at h1 h2;rw[<-h1]at h2;cases h2
 |some p=>
  have h1:=List.find?_some e;have h2:=List.mem_of_find?_eq_some e;have h3:=hp.mem_iff.1 h2;obtain⟨⟨q,k⟩,hq,rfl⟩:=ae8.1 h3;have:=(aq0 hq).2.2;refine⟨q.1,(WideAt.sameKey_eq h1).symm,ae8.2 ⟨q,?_,rfl⟩⟩;rw[this];simp
theorem LU(F:Fence)(n:Nat)(hf:F.fn 202)(hro:F.round=none)(hn:1<=n)(Bm BT:Nat)(τ:List Tr)(ys:List Nat)(w:World)(hp:ys.Perm (τ.map (·.1)))
 (hBm:w.cell? ⟨Bm,0,none⟩=some (.map (some BT)))(hM:lq w BT τ) :
  jr F n prog 202 #[.pointer (some ⟨Bm,0,none⟩)] (λi:Fin ys.length=>#[kR ys[i]]) (λss=>ss.Perm (List.finRange ys.length)) ys.length KeepsWalks w:=by
 have hnd:ys.Nodup:=hp.nodup_iff.2 hM.nodup;have hle:∀x∈ys,x<=1000:=λx hx=>by
  obtain⟨q,hq,rfl⟩:=ae8.1 (hp.mem_iff.1 hx);exact hM.le q hq
 intro l J W hW hJ hY h0;have Wx:W.cell? ⟨Bm,0,none⟩=some (.map (some BT)):=(hW.cell (p:=⟨Bm,0,none⟩) (ac5 w _ hBm)).trans hBm;have hMW:lq W BT τ:=hM.kept (hW.block BT hM.lt);obtain⟨es,hown,hpe⟩:=hMW.map;obtain⟨w2,hrg,rg,hg2,hs2⟩:=hown.range fG underlying159;have hel:es.length=ys.length:=by rw[hpe.length_eq,hp.length_eq];simp[ents]
 have HPE:=aj hpe;have HP:=aj hp;have HEL:=aj hel;have HM:=aj hM;have HS2:=aj hs2;clear hpe hp hel hM hs2;refine ai8 func202 rfl hf ?_ hro;simp only[ntmps202,ad3,ac9,ae1,Nat.reduceAdd,Nat.reduceSub,ac7,ac6,ad5,af0,ad9,ad8]
 gi_wp2
 gi_loopw [3] (λ_ wr=>∃left cnt,∃ss:List (Fin ys.length),wr.ranges prog 3 uP BT W.heap.size τ.length (.map es) left cnt/\Hid (ss.length+cnt<=ys.length)/\Hid (Coll 3 kR ys left ss)/\J ss wr) (λ_ wr=>wr.rangeLeft BT W.heap.size)
 case atStart=>
  refine⟨_,_,[],rg,?_,?_,hJ [] W w2 none h0 hg2 (λr e=>by cases e)⟩
  ·have:=ah HEL
   show([]:List (Fin ys.length)).length+es.length<=ys.length
   simp;omega
  ·refine Coll.start λi lt hk=>?_;have hx:=hle ys[i] (ac4 i.isLt);have e:lt=.int .i64 ys[i]:=by
    have h:=(qY hx).symm.trans hk;cases h;rfl
   rw[e,bG.has (ah HPE)];have hm:=(ah HP).mem_iff.1 (ac4 i.isLt);cases e2:lG τ ys[i]
   ·exfalso;have:mX τ ys[i]=none:=(by simpa[lG]using e2);exact jF.1 this hm
   ·rfl
 case round=>
  obtain⟨left,cnt,ss,rQ,hlen,qj,hJs⟩:=hrel
  gi_wp2_with (gi_at_next;refine wpListIn_next_ranges _ rfl _ rfl 3 fG uP (Value.int .i64) id (λkey kl h=>EL h) (λv _ _=>⟨v,rfl⟩) BT W.heap.size τ.length (.map es) left cnt rfl rQ ?_ ?_)
  ·intro hc0 hl0;have hp:=(ah qj).perm (λx hx=>⟨_,qY (hle x hx)⟩) hl0
   gi_wp2
   go_end0
   exact⟨⟨_,rfl⟩,ss,hp,hJs⟩
  ·intro xi c kl y1 y2 w' cnt' hkey hlk hy hat Hf hlt hgr hsz' hen;obtain⟨x,rfl,hx⟩:=Lj (ah HPE) hat;have hxm:=(ah HP).mem_iff.2 hx;have hxi:xi=(x:Int):=by
    have h:=fG.inj hkey (qY (hle x hxm));cases h;rfl
   subst hxi;have hit:=af8 hxm;obtain⟨i,hi⟩:∃i:Fin ys.length,ys[i]=x:=⟨⟨ys.idxOf x,hit⟩,ag2 hit⟩;have HC2:=aj ((ah qj).step fG (λ_ _=>Jw) hnd (i:=i) (by rw[hi];exact hkey) hlk);have hlen':Hid ((ss++[i]).length+cnt'<=ys.length):=by
    have:=ah hlen
    show(ss++[i]).length+cnt'<=ys.length
    simp;omega
   have hyk:=hY ss i;rw[hi]at hyk;have hlt2:ss.length<ys.length:=(by have:=ah hlen;omega);clear hy hat hlk hit;simp only[kR]at hen hyk ⊢;obtain⟨fn,tmps,assign,body,hy,hR⟩:=hyk w' (hJ ss wr w' (some W.heap.size) hJs hgr (λr e=>by cases e;exact⟨ac2 _,rQ.iter_walk⟩)) hlt2;clear hyk hlt2;have HS:=aj hsz';clear hsz'
   gi_wp2
   refine hR.mono ?_;rintro e W3 ⟨rfl,hJ3,hk3⟩;have hrg3:=Hf.of_walks hk3;clear hy hR
   gi_wp2
   go_roundw
   case rel=>exact⟨_,cnt',_,hrg3,hlen',HC2,hJ3⟩
   case measure=>rw[hrg3.left_eq,rQ.left_eq];exact hlt
end
section
open Go.RowKit Go.Maps Go.WideMaps Go.Sort
open Sat (View Rule jw bI)
def vT(R:Nat)(rk:Nat->Nat->Int):Prop:=
 ∀(W:World) (x:Nat) (bi:Bool) (bk:Nat) (p:Option Addr) (l c:Nat),bk<=1000->Calls prog R #[.int .i64 x,.agg #[.bool bi,.int .i64 bk,.slice p l c]] W λe w'=>e=.returned (.int .i64 (rk x bk))/\w'=W.alloc (.cells #[.bool bi,.int .i64 bk,.slice p l c] 229)
theorem EJ:vT 177 (λ_ k=>-(k:Int)):=by
 intro W x bi bk p l c hk
 go_enter func177,ntmps177
 go_wp2_with fail
 go_ret
 exact⟨rfl,rfl⟩
theorem BI:vT 143 (λx _=>(x:Int)):=by
 intro W x bi bk p l c hk
 go_enter func143,ntmps143
 go_wp2_with fail
 go_ret
 exact⟨rfl,rfl⟩
def uK(τ:List Tr)(x:Nat):Nat:=match mX τ x with
 |some q=>q.2
 |none=>0
theorem lq.lks{w:World}{m:Nat}{τ:List Tr}(h:lq w m τ)(x:Nat):∃(bi:Bool) (p:Option Addr) (l c:Nat),uH τ x=.agg #[.bool bi,.int .i64 (uK τ x),.slice p l c]:=by
 cases e:mX τ x with
 |none=>exact⟨false,none,0,0,by simp[uH,e,uK]⟩
 |some q=>
  obtain⟨q,k⟩:=q;obtain⟨h1,hk,h2⟩:=dI e;obtain⟨p,l,c,h3⟩:=h.shape q (h2▸ac4 hk);exact⟨q.2.1,p,l,c,by simp[uH,e,oV,h3,uK]⟩
theorem NY{τ:List Tr}(x:Nat):uK τ x<=τ.length:=by
 unfold uK;cases e:mX τ x with
 |none=>simp
 |some q=>
  obtain⟨q,k⟩:=q;have:=(dI e).2.1;simp;omega
theorem WH(W:World)(a b:Obj):((W.alloc a).alloc b).drew=Go.Sort.grow (W.drewN 1) #[a,b]:=by
 rw[ao0,ao0,Go.Sort.drew_grow,Go.Sort.drew_grow,Go.Sort.grow_grow];rfl
theorem QV(R:Nat)(rk:Nat->Nat->Int)(hR0:vT R rk)(eg:∀args w,(callFunc R args).run prog w=.ok (.enter R args) w)(Rb Mb BT:Nat)(τ:List Tr)(hτ:τ.length<=1000)(x y:Nat)(hx:x<=1000)(hy:y<=1000)(W:World)(hR:W.cell? ⟨Rb,0,none⟩=some (.func (.func R) #[] #[]))(hMb:W.cell? ⟨Mb,0,none⟩=some (.map (some BT)))(hM:lq W BT τ) :
  Calls prog 184 #[.int .i64 x,.int .i64 y,.pointer (some ⟨Rb,0,none⟩),.pointer (some ⟨Mb,0,none⟩)] W λe w'=>e=.returned (.int .i64 (eF (rk x (uK τ x)) (rk y (uK τ y))))/\∃q os',w'=Go.Sort.grow (W.drewN q) os':=by
 have HC:=aj (λw=>lK (rk x (uK τ x)) (rk y (uK τ y)) w);generalize eF (rk x (uK τ x)) (rk y (uK τ y))=r at HC;obtain⟨xi,xp,xl,xc,ex⟩:=hM.lks x;obtain⟨yi,yp,yl,yc,ey⟩:=hM.lks y;have hlx:Hid (∀W',W.grownBy W' none->(Instr.lookup 159 (.map (some BT)) (.int .i64 x) false).run prog W'=.ok (.agg #[.bool xi,.int .i64 (uK τ x),.slice xp xl xc]) W'):=λW' hg=>by
  rw[<-ex];exact(hM.kept (hg.block BT hM.lt (by simp))).look1 hx
 have hly:Hid (∀W',W.grownBy W' none->(Instr.lookup 159 (.map (some BT)) (.int .i64 y) false).run prog W'=.ok (.agg #[.bool yi,.int .i64 (uK τ y),.slice yp yl yc]) W'):=λW' hg=>by
  rw[<-ey];exact(hM.kept (hg.block BT hM.lt (by simp))).look1 hy
 have hrx:Hid (∀W',Calls prog R #[.int .i64 x,.agg #[.bool xi,.int .i64 (uK τ x),.slice xp xl xc]] W' λe w'=>e=.returned (.int .i64 (rk x (uK τ x)))/\w'=W'.alloc (.cells #[.bool xi,.int .i64 (uK τ x),.slice xp xl xc] 229)):=λW'=>hR0 W' x xi _ xp xl xc (ae4 (NY x) hτ);have hry:Hid (∀W',Calls prog R #[.int .i64 y,.agg #[.bool yi,.int .i64 (uK τ y),.slice yp yl yc]] W' λe w'=>e=.returned (.int .i64 (rk y (uK τ y)))/\w'=W'.alloc (.cells #[.bool yi,.int .i64 (uK τ y),.slice yp yl yc] 229)):=λW'=>hR0 W' y yi _ yp yl yc (ae4 (NY y) hτ);clear hM ex ey hR0;generalize uK τ x=kx at HC hlx hrx;generalize uK τ y=ky at HC hly hry;generalize rk x kx=rx at HC hrx;generalize rk y ky=ry at HC hry
 go_enter func184,ntmps184
 go_wp2_with fail
 refine ag0 (S:=λW'=>W.grownBy W' none) rfl ?_;have hS0:W.grownBy W.drew none:=⟨rfl,rfl,rfl,ac2 _,λ_ _ _=>rfl⟩;change wpAnyH prog .any _ _ _ 14 #[false,false,false,false,false,false,false,false,false,false,false,false,false,false] _ W.drew;refine tH 0 (.func (.func R) #[] #[]) (λw' hS=>?_) hS0 ?_
 ·have c0:=hS.cell hR (by simp);go_simp
 simp only[aC];refine tH 1 (.int .i64 x) (λw' hS=>?_) hS0 ?_
 ·go_simp
 simp only[aC];refine tH 2 (.map (some BT)) (λw' hS=>?_) hS0 ?_
 ·have c0:=hS.cell hMb (by simp);go_simp
 simp only[aC];refine tH 3 (.int .i64 x) (λw' hS=>?_) hS0 ?_
 ·go_simp
 simp only[aC];refine tH 4 (.agg #[.bool xi,.int .i64 kx,.slice xp xl xc]) (λw' hS=>?_) hS0 ?_
 ·have e1:=ah hlx w' hS;go_simp
 simp only[aC];refine tH 6 (.func (.func R) #[] #[]) (λw' hS=>?_) hS0 ?_
 ·have c0:=hS.cell hR (by simp);go_simp
 simp only[aC];refine tH 7 (.int .i64 y) (λw' hS=>?_) hS0 ?_
 ·go_simp
 simp only[aC];refine tH 8 (.map (some BT)) (λw' hS=>?_) hS0 ?_
 ·have c0:=hS.cell hMb (by simp);go_simp
 simp only[aC];refine tH 9 (.int .i64 y) (λw' hS=>?_) hS0 ?_
 ·go_simp
 simp only[aC];refine tH 10 (.agg #[.bool yi,.int .i64 ky,.slice yp yl yc]) (λw' hS=>?_) hS0 ?_
 ·have e1:=ah hly w' hS;go_simp
 simp only[aC];refine oH 5 (λK hK=>?_);go_simp;refine(ah hrx _).mono ?_;rintro e w2 ⟨rfl,rfl⟩;have hS1:=hS0.trans (ac1 W.drew (.cells #[.bool xi,.int .i64 kx,.slice xp xl xc] 229) none);refine hK.out _ _ hS1 ?_;clear hK K;refine oH 11 (λK hK=>?_);go_simp;refine(ah hry _).mono ?_;rintro e w2 ⟨rfl,rfl⟩;have hS2:=hS1.trans (ac1 (W.drew.alloc (.cells #[.bool xi,.int .i64 kx,.slice xp xl xc] 229)) (.cells #[.bool yi,.int .i64 ky,.slice yp yl yc] 229) none);refine hK.out _ _ hS2 ?_;clear hK K;refine oH 12 (λK hK=>?_);go_simp;refine((ah HC) _).mono ?_;rintro e w2 ⟨rfl,rfl⟩;refine hK.out _ _ hS2 ?_;clear hK K;refine oH 13 (λK hK=>?_);go_simp;refine hK.out _ _ hS2 (af4 (by kernel_rfl) ?_ _);clear hK K
 go_wp2_with fail
 go_ret
 refine⟨rfl,1,#[.cells #[.bool xi,.int .i64 kx,.slice xp xl xc] 229,.cells #[.bool yi,.int .i64 ky,.slice yp yl yc] 229],?_⟩;exact WH _ _ _
end
open Go.RowKit Go.Maps Go.WideMaps Go.Sort
open Sat (View Rule jw bI)
attribute [local go_sem] Oper.semAt_some
structure WZ(rk:Nat->Nat->Int)(τ:List Tr)(ys:List Nat):Prop where
 perm:ys.Perm (τ.map (·.1))
 lt:∀i j (hi:i<ys.length) (hj:j<ys.length),i<j->rk ys[i] (uK τ ys[i])<rk ys[j] (uK τ ys[j])
theorem WZ.cmp{rk:Nat->Nat->Int}{τ:List Tr}{ys:List Nat}(h:WZ rk τ ys)(i j:Fin ys.length):eF (rk ys[i] (uK τ ys[i])) (rk ys[j] (uK τ ys[j]))=eF i.val j.val:=by
 rcases Nat.lt_trichotomy i.val j.val with e|e|e
 ·have h1:=h.lt i.val j.val i.isLt j.isLt e;have h2:(i.val:Int)<j.val:=by omega
  unfold eF;rw[ae2 h2,ae2 (by exact h1)]
 ·have:i=j:=Fin.ext e;subst this;unfold eF;simp
 ·have h1:=h.lt j.val i.val j.isLt i.isLt e;have h2:¬(i.val:Int)<j.val:=by omega
  have h3:(j.val:Int)<i.val:=by omega
  unfold eF;rw[ad6 h2,ae2 h3,ad6 (by simp only[Fin.getElem_fin];omega),ae2 (by exact h1)]
def Qw(ys:List Nat)(ss:List (Fin ys.length)):List Value:=ss.map λi=>kR ys[i]
theorem Uu(F:Fence)(n:Nat)(hf:F.fn 231)(hro:F.round=none)(hn:2<=n)(ts:List Nat)(hl:ts.length<=1000)(g:Nat)(lb:Array Value)(hFg:F.fn g)(eg:∀args w,(callFunc g args).run prog w=.ok (.enter g args) w)(w:World){Sp:List (Fin ts.length)->Prop}
 (hseq:jr F (n-1) prog g lb (λi:Fin ts.length=>#[kR ts[i]]) Sp ts.length KeepsWalks w) :
  CallsIn F n prog 231 #[.slice none 0 0,.func (.func g) #[] lb] w λe w'=>∃v ss,e=.returned v/\Sp ss/\w'.ownsRow w.heap.size 3 1 v ss.length (Qw ts ss)/\(v=.slice none 0 0↔ss=[])/\Below w.heap.size w w':=by
 obtain⟨i0,hin,hz0,hz1,hz2⟩:=ak1 UN;refine ai3 func231 rfl hf ?_ hro;simp only[ntmps231,ad3,ac9,ae1,Nat.reduceAdd,Nat.reduceSub,ac7,ac6,ad5,af0,ad9,ad8]
 gi_wp2
 obtain⟨w1,hw1⟩:∃w1,w.alloc (.cells #[.slice none 0 0] 58)=w1:=⟨_,rfl⟩;have hs1:w1.heap.size=w.heap.size+1:=by rw[<-hw1];simp
 have hc1:w1.cell? ⟨w.heap.size,0,none⟩=some (.slice none 0 0):=by rw[<-hw1];simp[go_sem]
 have hf1:w1.frozen? ⟨w.heap.size,0,none⟩=false:=by rw[<-hw1];simp[go_sem]
 have hb1:Below w.heap.size w w1:=by rw[<-hw1];exact(af5 _ w).alloc (ac2 _) _
 rw[hw1];clear hw1;have hA0:AI w w.heap.size (w.heap.size+1) 3 1 true 0 (Qw ts []) w1:=⟨⟨_,hc1,⟨rfl,.inl ⟨rfl,rfl⟩⟩,by simp⟩,hf1,hb1⟩;clear hc1 hf1;refine eU hro (by omega) rfl hFg eg hseq KeepsWalks.trans ?_ hb1 ?_ (λss W=>AI w w.heap.size (w.heap.size+1) 3 1 true ss.length (Qw ts ss) W)
  (λss W W' row h hg hr=>h.keep hg (B:=w1.heap.size) (by omega) hr) hA0
  (λi a' _=>a'={tmps:=#[.slice none 0 0,.func (.func g) #[] lb,.pointer (some ⟨w.heap.size,0,none⟩),undef,.slice none 0 0,kR ts[i],.func (.func g) #[] lb,kR ts[i],undef,undef,undef,undef,undef],defers:=[]}) ?own ?assign ?body ?done
 ·intro W l o o' hl ho hc hw;exact KeepsWalks.putObj _ ho hw
 ·intro x;rfl
 case own=>
  rintro i a' ⟨⟩ W W' row e hg hr;exact e
 case assign=>
  intro l pre i W K hI hK;simp only;generalize ts[i]=key at hK ⊢;simp only[kR]at hK ⊢
  gi_wp2
  exact hK _ _ ((aq3 _).from _) (KeepsWalks.refl _) hI rfl
 case body=>
  rintro l pre i a' W hpre hlw hI rfl;obtain⟨v,hx,hrow,hnil⟩:=hI.x;have hfx:=hI.fx;have hlX:w.heap.size<W.heap.size:=ac5 W _ hx;have hIa:=aj hI;have Xj:=aj hnil;clear hI hnil;have e1:Qw ts (pre++[i])=Qw ts pre++[vI (ts[i]:Nat)]:=by simp[Qw,kR,vI]
  generalize ts[i]=key at e1;have E1:=aj e1;clear e1;simp only[kR]
  gi_wp2_with (gi_at_builtin;refine ap8 _ rfl _ _ 58 rfl (w.heap.size+1) 3 i0 _ 1 8 underlying58 hin hz0 hz1 hz2 rfl (by decide) _ pre.length (Qw ts pre) rfl (hrow.alloc _) ⟨W.heap.size,0,none⟩ 1 1 [vI (key:Nat)] rfl rfl (Ey _ _ _ _ rfl) (XH _) (by unfold maxLen;omega) (by omega) (by simp;omega) ?_;intro v' w3 hown' hg3 hnil3 hat;obtain⟨hX3,MR⟩:=(ah hIa).after (by omega) hx hrow (ac1 _ _ none) hg3;obtain⟨g',cap',rfl⟩:=dM hown' (ak4 _))
  have hcl:=(ah hIa).close (a:=⟨#[],[]⟩) (B:=w1.heap.size) (by omega) (ac2 _) (by omega) hx hrow (ac1 _ _ none) hown' hg3 hnil3 (by decide);rw[<-ah E1]at hcl;simpa[iG,hs1]using hcl
 case done=>
  intro D ss W hD hS hI hdef;obtain⟨v,hx,hrow,hnil⟩:=hI.x
  gi_wp2
  refine⟨by simp,.inl ⟨_,_,rfl,ai9 hdef,?_⟩⟩;have hI2:=hI.keep (ak2 W D (.deferred none)) (B:=w1.heap.size) (by omega) (λr e=>by cases e;exact⟨hD,_,hdef,rfl⟩);refine⟨_,an2 rfl _ _ _,v,rfl,ss,hS,?_,?_,hI2.below⟩
  ·exact fO (jA hrow (ak2 W D (.deferred none)) (λr e=>by cases e;exact⟨_,hdef,rfl⟩)) (Nat.le_succ _)
  ·rw[hnil];simp
theorem Du(n:Nat)(hn:3<=n)(ts:List Nat)(hl:ts.length<=1000)(g:Nat)(lb:Array Value)(eg:∀args w,(callFunc g args).run prog w=.ok (.enter g args) w)(w:World){Sp:List (Fin ts.length)->Prop}
 (hseq:jr Fence.wide (n-1-1) prog g lb (λi:Fin ts.length=>#[kR ts[i]]) Sp ts.length KeepsWalks w) :
  CallsIn Fence.wide n prog 200 #[.func (.func g) #[] lb] w λe w'=>∃v ss,e=.returned v/\Sp ss/\w'.ownsRow w.heap.size 3 1 v ss.length (Qw ts ss)/\(v=.slice none 0 0↔ss=[])/\Below w.heap.size w w':=by
 refine ai8 func200 rfl trivial ?_ rfl;simp only[ntmps200,ad3,ac9,ae1,Nat.reduceAdd,Nat.reduceSub,ac7,ac6,ad5,af0,ad9,ad8]
 gi_wp2
 refine⟨trivial,λ_=>by omega,(Uu Fence.wide (n-1) trivial rfl (by omega) ts hl g lb trivial eg w hseq).mono ?_⟩;rintro e w' ⟨v,ss,rfl,h1,h2,h3,h4⟩
 gi_wp2
 go_ret
 exact⟨v,ss,rfl,h1,h2,h3,h4⟩
end Go.Proofs.YthcppbmkacbbiaaGreat
