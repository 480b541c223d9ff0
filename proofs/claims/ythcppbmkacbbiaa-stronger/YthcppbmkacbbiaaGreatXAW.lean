import Derived.Test.YthcppbmkacbbiaaGreatXAS
import Derived.Test.YthcppbmkacbbiaaGreatXAU
import Derived.Test.YthcppbmkacbbiaaGreatSri
import Derived.Test.YthcppbmkacbbiaaGreatBld
import Derived.Laws.IdiomStrings
import Derived.Deep.OwnRows
set_option linter.unusedSimpArgs false
set_option maxHeartbeats 2000000
set_option maxRecDepth 100000
namespace Go.Proofs.YthcppbmkacbbiaaGreat
open Go.Proofs.Tryz
section
open Go.RowKit
open aB (St put cut)
theorem Um:(prog.info? 3).map (λi=>(i.zero,i.size,i.bytes))=some (some (.int .i64 0),1,8):=by kernel_rfl
def vI(x:Int):Value:=.int .i64 x
theorem En(w:World)(x:Int)(t:TypeId)(n:Nat)(hn:w.heap.size=n):∀j u,[vI x][j]?=some u->(w.alloc (.cells #[vI x] t)).cell? ((⟨n,0,none⟩:Addr).add j)=some u:=by
 subst hn;intro j u hj;cases j with
 |zero=>simp at hj;subst hj;simp[Addr.add]
 |succ j=>simp at hj
theorem Xf(x:Int):∀u∈[vI x],u.oneCell'=true:=by intro u hu;simp at hu;subst hu;rfl
theorem RX{w:World}{base e n:Nat}{v:Value}{xs:List Value}(h:w.ownsRow base e 1 v n xs):∃ao cap,v=.slice ao n cap:=by
 obtain⟨_,h2⟩:=h;rcases h2 with⟨e,e2⟩|⟨g,cap,cur,e,_⟩
 ·subst e2;exact⟨_,_,e⟩
 ·exact⟨_,_,e⟩
end
section
open Go.RowKit
open aB (St put cut)
attribute [local go_sem] Oper.semAt_some
theorem kQ{P:Program}{Q:Exit->Act->World->Prop}{o:Oper}{a:Act}{w:World}{K:Act->World->Prop}(s x:Operand)(t:TypeId)(hop:o.op=Op.call {callee:=Callee.builtin Builtin.append,args:=#[s,x],argTypes:=#[t,t]})
 (base:Nat)(e:TypeId)(i:TypeInfo)(z:Value)(size bytes:Nat)(ht:P.underlying t=some (.slice e))(hi:P.info? e=some i)(hz:i.zero=some z)
 (hsize:i.size=size)(hby:i.bytes=bytes)(hzs:z.cells.size=size)(hsz:0<size)
 (v:Value)(n:Nat)(xs:List Value)(hs:a.eval s=v)(hown:w.ownsRow base e size v n xs)
 (ad:Addr)(m c:Nat)(news:List Value)(hx:a.eval x=.slice (some ad) m c)(hl:news.length=m*size)(hnews:∀j u,news[j]?=some u->w.cell? (ad.add j)=some u)(h1:∀u∈news,u.oneCell'=true)
 (h63:n+m<=maxLen)(hbytes:(n+m)*bytes<=140737488355328)(hbase:base<=w.heap.size)
 (hK:∀v' w',w'.ownsRow base e size v' (n+m) (xs++news)->w.grownBy w' v.ownBlock->K (a.put o.dst v') w'):Oper.wp P o a w K Q:=by
 obtain⟨v',w',hr,h2,h3,_,_⟩:=run_append_own_at (P:=P) w base t o.type e i z size bytes ht hi hz hsize hby hzs hsz v n xs hown ad m c news hl hnews h1 h63 hbytes hbase;unfold Oper.wp;simp[execOp,hop,resolve,invoke,builtin,hs,hx,hr,Result.andThen];exact hK v' w' h2 h3
theorem Dw{a:Int}(h0:0<=a)(h1:a<=1000000):IntKind.i64.wrap a=a:=by
 simp[IntKind.wrap,IntKind.bits,IntKind.signed];omega
end
section
open Go.RowKit Go.Maps Go.WideMaps
open Sat (View Rule je bG)
structure kP(w:World)(m:Nat)(τ:List Tr):Prop where
 map:∃es,w.ownsMap prog 3 uz m τ.length (.map es)/\es.Perm (ents τ)
 le:∀q∈τ,q.1<=1000
 shape:∀q∈τ,∃p l c,q.2.2.1=.slice p l c
 nodup:(τ.map (·.1)).Nodup
theorem bD.m{w:World}{m:Nat}{τ:List Tr}(h:bD w m τ):kP w m τ:=
 ⟨h.map,h.le,λq hq=>by obtain⟨p,c,e⟩:=(h.MW q hq).len;exact⟨p,_,c,e⟩,h.nodup⟩
theorem kP.lt{w:World}{m:Nat}{τ:List Tr}(h:kP w m τ):m<w.heap.size:=by
 obtain⟨es,h1,_⟩:=h.map;exact h1.lt
theorem kP.kept{w w':World}{m:Nat}{τ:List Tr}(h:kP w m τ)(hb:w'.heap[m]?=w.heap[m]?):kP w' m τ:=by
 obtain⟨es,⟨e1,c1,h1,h2⟩,h3⟩:=h.map;exact⟨⟨es,⟨e1,c1,hb.trans h1,h2⟩,h3⟩,h.le,h.shape,h.nodup⟩
theorem kP.look1{w:World}{m:Nat}{τ:List Tr}(h:kP w m τ){x:Nat}(hx:x<=1000):(Instr.lookup 159 (.map (some m)) (.int .i64 x) false).run prog w=.ok (uh τ x) w:=by
 obtain⟨es,h1,h2⟩:=h.map;obtain⟨es',e1,e2,_⟩:=h1.entries fD;cases e1;obtain⟨v,ps,hrun,hv⟩:=h1.lookup fD underlying159 (Nq w) (zd:=.held (.agg #[.bool false,.int .i64 0,.slice none 0 0])) (zp:=[]) rfl (qJ hx);rw[bD.atKey h2 e2 x]at hv;cases hv;exact hrun
theorem ED{key:Value}{kl:Lit}(h:keyOf prog 3 key=some kl):∃x,key=Value.int .i64 x:=by
 unfold keyOf at h;simp only[underlying3]at h;unfold mapKey at h;simp only[underlying3]at h;cases key<;>simp at h;obtain⟨⟨rfl,_⟩,_⟩:=h;exact⟨_,rfl⟩
theorem KI{τ:List Tr}{es:List (Lit×DataW Value)}(hp:es.Perm (ents τ)){kl:Lit}{d:DataW Value}(hat:∀zd,(DataW.map es).atKey kl zd=d):∃x:Nat,kl=.int .i64 x/\x∈τ.map (·.1):=by
 cases e:es.find? (λp=>p.1.sameKey kl)with
 |none=>
  have h1:=hat .nil;have h2:=hat (.held undef);simp only[DataW.atKey,e]at h1 h2;rw[<-h1]at h2;cases h2
 |some p=>
  have h1:=List.find?_some e;have h2:=List.mem_of_find?_eq_some e;have h3:=hp.mem_iff.1 h2;obtain⟨⟨q,k⟩,hq,rfl⟩:=ad9.1 h3;have:=(ao2 hq).2.2;refine⟨q.1,(WideAt.sameKey_eq h1).symm,ad9.2 ⟨q,?_,rfl⟩⟩;rw[this];simp
theorem KZ(F:Fence)(n:Nat)(hf:F.fn 202)(hro:F.round=none)(hn:1<=n)(Bm BT:Nat)(τ:List Tr)(ys:List Nat)(w:World)(hp:ys.Perm (τ.map (·.1)))
 (hBm:w.cell? ⟨Bm,0,none⟩=some (.map (some BT)))(hM:kP w BT τ) :
  jd F n prog 202 #[.pointer (some ⟨Bm,0,none⟩)] (λi:Fin ys.length=>#[kE ys[i]]) (λss=>ss.Perm (List.finRange ys.length)) ys.length KeepsWalks w:=by
 have hnd:ys.Nodup:=hp.nodup_iff.2 hM.nodup;have hle:∀x∈ys,x<=1000:=λx hx=>by
  obtain⟨q,hq,rfl⟩:=ad9.1 (hp.mem_iff.1 hx);exact hM.le q hq
 intro l J W hW hJ hY h0;have VQ:W.cell? ⟨Bm,0,none⟩=some (.map (some BT)):=(hW.cell (p:=⟨Bm,0,none⟩) (ab6 w _ hBm)).trans hBm;have hMW:kP W BT τ:=hM.kept (hW.block BT hM.lt);obtain⟨es,hown,hpe⟩:=hMW.map;obtain⟨w2,hrg,rg,hg2,hs2⟩:=hown.range fD underlying159;have hel:es.length=ys.length:=by rw[hpe.length_eq,hp.length_eq];simp[ents]
 have HPE:=aj hpe;have HP:=aj hp;have HEL:=aj hel;have HM:=aj hM;have HS2:=aj hs2;clear hpe hp hel hM hs2;refine ah7 func202 rfl hf ?_ hro;simp only[ntmps202,ac0,ab9,ac9,Nat.reduceAdd,Nat.reduceSub,ab8,ab7,ac3,ae1,ac6,ac5]
 gi_wp2
 gi_loopw [3] (λ_ wr=>∃left cnt,∃ss:List (Fin ys.length),wr.ranges prog 3 uz BT W.heap.size τ.length (.map es) left cnt/\Hid (ss.length+cnt<=ys.length)/\Hid (Coll 3 kE ys left ss)/\J ss wr) (λ_ wr=>wr.rangeLeft BT W.heap.size)
 case atStart=>
  refine⟨_,_,[],rg,?_,?_,hJ [] W w2 none h0 hg2 (λr e=>by cases e)⟩
  ·have:=ah HEL
   show([]:List (Fin ys.length)).length+es.length<=ys.length
   simp;omega
  ·refine Coll.start λi lt hk=>?_;have hx:=hle ys[i] (ab5 i.isLt);have e:lt=.int .i64 ys[i]:=by
    have h:=(qJ hx).symm.trans hk;cases h;rfl
   rw[e,bD.has (ah HPE)];have hm:=(ah HP).mem_iff.1 (ab5 i.isLt);cases e2:kT τ ys[i]
   ·exfalso;have:lZ τ ys[i]=none:=(by simpa[kT]using e2);exact jq.1 this hm
   ·rfl
 case round=>
  obtain⟨left,cnt,ss,qX,hlen,pz,hJs⟩:=hrel
  gi_wp2_with (gi_at_next;refine wpListIn_next_ranges _ rfl _ rfl 3 fD uz (Value.int .i64) id (λkey kl h=>ED h) (λv _ _=>⟨v,rfl⟩) BT W.heap.size τ.length (.map es) left cnt rfl qX ?_ ?_)
  ·intro hc0 hl0;have hp:=(ah pz).perm (λx hx=>⟨_,qJ (hle x hx)⟩) hl0
   gi_wp2
   go_end0
   exact⟨⟨_,rfl⟩,ss,hp,hJs⟩
  ·intro xi c kl y1 y2 w' cnt' hkey hlk hy hat GV hlt hgr hsz' hen;obtain⟨x,rfl,hx⟩:=KI (ah HPE) hat;have hxm:=(ah HP).mem_iff.2 hx;have hxi:xi=(x:Int):=by
    have h:=fD.inj hkey (qJ (hle x hxm));cases h;rfl
   subst hxi;have hit:=ae7 hxm;obtain⟨i,hi⟩:∃i:Fin ys.length,ys[i]=x:=⟨⟨ys.idxOf x,hit⟩,af5 hit⟩;have HC2:=aj ((ah pz).step fD (λ_ _=>Jk) hnd (i:=i) (by rw[hi];exact hkey) hlk);have hlen':Hid ((ss++[i]).length+cnt'<=ys.length):=by
    have:=ah hlen
    show(ss++[i]).length+cnt'<=ys.length
    simp;omega
   have hyk:=hY ss i;rw[hi]at hyk;have hlt2:ss.length<ys.length:=(by have:=ah hlen;omega);clear hy hat hlk hit;simp only[kE]at hen hyk ⊢;obtain⟨fn,tmps,assign,body,hy,hR⟩:=hyk w' (hJ ss wr w' (some W.heap.size) hJs hgr (λr e=>by cases e;exact⟨ab3 _,qX.iter_walk⟩)) hlt2;clear hyk hlt2;have HS:=aj hsz';clear hsz'
   gi_wp2
   refine hR.mono ?_;rintro e W3 ⟨rfl,hJ3,hk3⟩;have hrg3:=GV.of_walks hk3;clear hy hR
   gi_wp2
   go_roundw
   case rel=>exact⟨_,cnt',_,hrg3,hlen',HC2,hJ3⟩
   case measure=>rw[hrg3.left_eq,qX.left_eq];exact hlt
end
section
open Go.RowKit Go.Maps Go.WideMaps
open aB (Key put dF lD jn au dR aO)
def nums(f:Nat->Nat):Nat->List Nat
 |0=>[]
 |k+1=>put (nums f k) (f k)
def tC(f:Nat->Nat)(k:Nat):List UInt8:=(List.range k).map λt=>UInt8.ofNat (48+(nums f t).idxOf (f t))
def bits(hl:List Bool):List UInt8:=hl.map λb=>if b then 49 else 48
def wrt(f:Nat->Nat)(n:Nat)(hl:List Bool):List UInt8:=tC f n++[47]++bits hl
theorem zX{T e B b m:Nat}{bs:List Value}{w w':World}(h:Lib.IsBuilderF T e B b bs w)(hg:w.grownBy w' (some m))(hm:m≠b)(hc:∃o:Obj,w.heap[m]?=some o/\∀c t fz,o≠.cells c t fz):Lib.IsBuilderF T e B b bs w':=by
 have key:∀p,Lib.BuilderAtF T e B b p bs w->Lib.BuilderAtF T e B b p bs w':=by
  rintro p ⟨hB,v,hb,hown,hne⟩;have hlt:b<w.heap.size:=(ab1.1 hb).1;refine⟨hB,v,(hg.block b hlt (λe=>hm (ai3 e).symm)).trans hb,hown.kept hg (Or.inr λe=>?_),hne⟩;obtain⟨c,fz,h1⟩:=Lib.ownsRowF_kind hown m e;obtain⟨o,h2,h3⟩:=hc;rw[h1]at h2;exact h3 _ _ _ (ai3 h2).symm
 exact h.elim (λx=>.inl (key _ x)) (λx=>.inr (key _ x))
theorem aH.obj{w:World}{k b:Nat}{kv:Nat->Value}{ts:List Nat}(h:aH w k b kv ts):∃o:Obj,w.heap[b]?=some o/\∀c t fz,o≠.cells c t fz:=by
 obtain⟨D,⟨es,clock,h1,h2⟩,h3⟩:=h;exact⟨_,h1,λ_ _ _ e=>by cases e⟩
theorem nums_length(f:Nat->Nat):∀k,(nums f k).length<=k
 |0=>ab3 _
 |k+1=>by
  have h:=nums_length f k;unfold nums put;split
  ·omega
  ·simp;omega
theorem Qi(f:Nat->Nat)(k:Nat):tC f (k+1)=tC f k++[UInt8.ofNat (48+(nums f k).idxOf (f k))]:=by
 simp[tC,ao1]
structure WG(w:World)(b H nh:Nat)(acc:List UInt8)(l:List Nat)(W:World):Prop where
 Zb:Lib.IsBuilderF 217 5 w.heap.size (w.heap.size+1+1) (Lib.byteCells acc) W
 s:W.heap[w.heap.size+1]?=some (.cells #[.map (some b),.slice (some ⟨H,0,none⟩) nh nh] 105 (0,0))
 m:aH W 3 (w.heap.size+1+1+1) kE l
 below:Below w.heap.size w W
theorem WG.x0{w W:World}{b H nh:Nat}{acc:List UInt8}{l:List Nat}(h:WG w b H nh acc l W):W.cell? ⟨w.heap.size+1,0,none⟩=some (.map (some b)):=by
 rw[Lib.cell_of_heap h.s];rfl
theorem WG.x1{w W:World}{b H nh:Nat}{acc:List UInt8}{l:List Nat}(h:WG w b H nh acc l W):W.cell? ⟨w.heap.size+1,1,none⟩=some (.slice (some ⟨H,0,none⟩) nh nh):=by
 rw[Lib.cell_of_heap h.s];rfl
theorem WG.write{w W W':World}{b H nh:Nat}{acc:List UInt8}{l:List Nat}{x:UInt8}(h:WG w b H nh acc l W)
 (h1:Lib.BuilderAtF 217 5 w.heap.size (w.heap.size+1+1) (.pointer (some ⟨w.heap.size+1+1,0,none⟩)) (Lib.byteCells acc++[.int .u8 x.toNat]) W')(h2:Below w.heap.size W W')(h3:Lib.OthersKept 5 (some (w.heap.size+1+1)) W W'):WG w b H nh (acc++[x]) l W' where
 Zb:=by rw[Lib.byteCells_append];exact Or.inr h1
 s:=h3 _ _ h.s (by simp) (λc fz e=>by cases e)
 m:=by
  obtain⟨o,h4,h5⟩:=h.m.obj;exact h.m.kept ((h3 _ _ h4 (by simp) (λc fz=>h5 c _ fz)).trans h4.symm)
 below:=h.below.trans h2
theorem WG.ask{w W W':World}{b H nh x:Nat}{acc:List UInt8}{l:List Nat}(h:WG w b H nh acc l W)(h1:aH W' 3 (w.heap.size+1+1+1) kE (put l x))(h2:W.grownBy W' (some (w.heap.size+1+1+1))):WG w b H nh acc (put l x) W' where
 Zb:=zX h.Zb h2 (by omega) h.m.obj
 s:=(h2.block _ (ab1.1 h.s).1 (by simp)).trans h.s
 m:=h1
 below:=h.below.grown h2 h.below.size (λk e=>by cases e;omega)
theorem WG.call{w W:World}{b H nh:Nat}{acc:List UInt8}{l:List Nat}(h:WG w b H nh acc l W)(x:UInt8)(c:Int)(hc:c=x.toNat)(hl:acc.length<=100) :
  Calls prog 138 #[.pointer (some ⟨w.heap.size+1+1,0,none⟩),.int .u8 c] W λe W'=>e=.returned .nilIface/\WG w b H nh (acc++[x]) l W':=by
 subst hc;refine(bWrite w.heap.size (w.heap.size+1+1) _ _ W h.Zb (by rw[Lib.byteCells_length];omega) h.below.size).mono ?_;rintro e W' ⟨rfl,h1,h2,h3⟩;exact⟨rfl,h.write h1 h2 h3⟩
theorem oD(GT GC GP nt nc np b c H:Nat)(f:Nat->Nat)(hl:List Bool)(w:World)(h7:nt<=7)(h4:hl.length<=4)(hf:∀i,i<nt->f i<nt)(hM:gJ w b f nt c)(hH:cZ w H hl) :
  Calls prog 89 #[fv GT GC GP nt nc np,sv b H hl.length] w λe w'=>e=.returned (.string ⟨(wrt f nt hl).toArray⟩)/\Below w.heap.size w w':=by
 unfold fv sv;have hmm:=@ap4 prog;obtain⟨w0,hw0⟩:∃w0,(((w.alloc (.cells #[.slice (some ⟨GT,0,none⟩) nt nt,.slice (some ⟨GC,0,none⟩) nc nc,.slice (some ⟨GP,0,none⟩) np np] 54)).alloc (.cells #[.map (some b),.slice (some ⟨H,0,none⟩) hl.length hl.length] 105)).alloc (.cells #[.pointer none,.slice none 0 0] 217)).alloc (.map #[] 0)=w0:=⟨_,rfl⟩;have hW0:WG w b H hl.length [] [] w0:=by
  rw[<-hw0];have hsz:((w.alloc (.cells #[.slice (some ⟨GT,0,none⟩) nt nt,.slice (some ⟨GC,0,none⟩) nc nc,.slice (some ⟨GP,0,none⟩) np np] 54)).alloc (.cells #[.map (some b),.slice (some ⟨H,0,none⟩) hl.length hl.length] 105)).heap.size=w.heap.size+1+1:=by simp
  refine⟨?_,?_,?_,?_⟩
  ·have h:=Lib.fresh_isBuilder 217 5 ((w.alloc (.cells #[.slice (some ⟨GT,0,none⟩) nt nt,.slice (some ⟨GC,0,none⟩) nc nc,.slice (some ⟨GP,0,none⟩) np np] 54)).alloc (.cells #[.map (some b),.slice (some ⟨H,0,none⟩) hl.length hl.length] 105));rw[hsz]at h;have h2:Lib.IsBuilderF 217 5 (w.heap.size+1+1) (w.heap.size+1+1) [] _:=Lib.IsBuilderF.of h;have h3:Lib.IsBuilderF 217 5 w.heap.size (w.heap.size+1+1) [] (((w.alloc (.cells #[.slice (some ⟨GT,0,none⟩) nt nt,.slice (some ⟨GC,0,none⟩) nc nc,.slice (some ⟨GP,0,none⟩) np np] 54)).alloc (.cells #[.map (some b),.slice (some ⟨H,0,none⟩) hl.length hl.length] 105)).alloc (.cells #[.pointer none,.slice none 0 0] 217)):=by
    refine Or.inl ⟨by omega,.slice none 0 0,?_,⟨by simp,.inl ⟨rfl,rfl⟩⟩,by simp[Value.ownBlock]⟩;rw[<-hsz];exact ac4 _ _
   exact h3.alloc _
  ·rw[ac1 _ _ _ (by simp),ac1 _ _ _ (by simp)];have h:=ac4 (w.alloc (.cells #[.slice (some ⟨GT,0,none⟩) nt nt,.slice (some ⟨GC,0,none⟩) nc nc,.slice (some ⟨GP,0,none⟩) np np] 54)) (.cells #[.map (some b),.slice (some ⟨H,0,none⟩) hl.length hl.length] 105);simpa using h
  ·have h:=iY (((w.alloc (.cells #[.slice (some ⟨GT,0,none⟩) nt nt,.slice (some ⟨GC,0,none⟩) nc nc,.slice (some ⟨GP,0,none⟩) np np] 54)).alloc (.cells #[.map (some b),.slice (some ⟨H,0,none⟩) hl.length hl.length] 105)).alloc (.cells #[.pointer none,.slice none 0 0] 217)) 3 kE;have e:(((w.alloc (.cells #[.slice (some ⟨GT,0,none⟩) nt nt,.slice (some ⟨GC,0,none⟩) nc nc,.slice (some ⟨GP,0,none⟩) np np] 54)).alloc (.cells #[.map (some b),.slice (some ⟨H,0,none⟩) hl.length hl.length] 105)).alloc (.cells #[.pointer none,.slice none 0 0] 217)).heap.size=w.heap.size+1+1+1:=(by simp);rw[e]at h;exact h
  ·exact((((af0 _ _).alloc (ab3 _) _).alloc (by simp) _).alloc (by simp;omega) _).alloc (by simp;omega) _
 have HW:=aj hw0;have hc0:w0.cell? ⟨w.heap.size,0,none⟩=some (.slice (some ⟨GT,0,none⟩) nt nt):=by rw[<-hw0];simp[go_sem]
 have hlM:=hM.lt;have hlH:=hH.1;have HM:=aj hM;have HH:=aj hH;have HF:=aj hf;clear hM hH hf hw0
 go_enter func89,ntmps89
 go_wp2_with fail
 rw[ah HW]
 go_loopw [14] (λi wr=>∃k:Nat,k<=nt/\i=.int .i64 k/\WG w b H hl.length (tC f k) (nums f k) wr) (λi _=>nt-(intOf i).toNat)
 case atStart=>exact⟨0,af4 _,rfl,hW0⟩
 case round=>
  obtain⟨k,hk,rfl,hwg⟩:=hrel;by_cases hlt:k<nt
  ·have hbd:(k:Int)<(nt:Int):=(by omega);have hx0:=hwg.x0;have hof:=oQ wr b nt c f k ((ah HM).kept (hwg.below.block b hlM)) hlt (by omega);have hnl:=nums_length f k;have hfk:f k<=1000:=ad6 (an0 (ah HF k hlt)) (by omega);have hnum:=xX (w.heap.size+1+1+1) (nums f k) (f k) wr hfk (by omega) hwg.m;have hds:=Qi f k;have hdl:(tC f k).length<=100:=(by simp[tC];omega);have hns:nums f (k+1)=put (nums f k) (f k):=rfl;have hil:(nums f k).idxOf (f k)<=7:=ad6 aj7 (by omega);have HD:=aj hds;have HN:=aj hns;have HWG:=aj hwg;have HDL:=aj hdl;have WH:=aj hnum;clear hwg hns hds hnl hdl hnum;generalize (nums f k).idxOf (f k)=ix at HD WH hil;generalize f k=fk at hof HN WH
   go_wp2_with fail
   refine hof.mono ?_;rintro e w1 ⟨rfl,rfl⟩
   go_wp2_with fail
   refine(ah WH).mono ?_;rintro e w2 ⟨rfl,hm2,hg2⟩;have ZF:=(ah HWG).ask hm2 hg2
   go_wp2_with fail
   refine(ZF.call (UInt8.ofNat (48+ix)) (48+ix) (by simp[UInt8.toNat_ofNat'];omega) (ah HDL)).mono ?_;rintro e w3 ⟨rfl,OY⟩
   go_wp2_with fail
   exact⟨⟨k+1,hlt,by go_num,by rw[ah HD,ah HN];exact OY⟩,by simp[intOf];omega⟩
  ·have hkk:k=nt:=(by omega);subst hkk;have hbd:¬(k:Int)<(k:Int):=(by omega);have hdl:(tC f k).length<=100:=(by simp[tC];omega);have HWG:=aj hwg;have HDL:=aj hdl;clear hwg hdl
   go_wp2_with fail
   refine((ah HWG).call 47 47 rfl (ah HDL)).mono ?_;rintro e w1 ⟨rfl,Va⟩;have hx1:=Va.x1;have aaQ:=aj Va;clear Va
   go_wp2_with fail
   go_loopw [31] (λi wr=>∃j:Nat,j<=hl.length/\i=.int .i64 j/\WG w b H hl.length (tC f k++[47]++bits (hl.take j)) (nums f k) wr) (λi _=>hl.length-(intOf i).toNat)
   case atStart=>exact⟨0,af4 _,rfl,by simpa[bits]using ah aaQ⟩
   case round=>
    obtain⟨j,hj,rfl,hwg⟩:=hrel;by_cases hjt:j<hl.length
    ·have hjd:(j:Int)<(hl.length:Int):=(by omega);have hcj:=((ah HH).same (hwg.below.block H hlH)).2 j hjt;have hbl:(tC f k++[47]++bits (hl.take j)).length<=100:=(by rw[ae0,ae0,bits,ai6,ah3,tC,ai6,List.length_range,am3];omega);have hbs:bits (hl.take (j+1))=bits (hl.take j)++[if hl[j]then 49 else 48]:=(by unfold bits;rw[af6,ab4 hjt,ai5];rfl);have HBS:=aj hbs;have HWG:=aj hwg;have HBL:=aj hbl;clear hwg hbl hbs;generalize hl[j]=bj at hcj HBS;cases bj
     ·go_wp2_with fail
      refine((ah HWG).call 48 48 rfl (ah HBL)).mono ?_;rintro e w3 ⟨rfl,OY⟩
      go_wp2_with fail
      exact⟨⟨j+1,hjt,by go_num,by rw[ah HBS,<-ah6];exact OY⟩,by simp[intOf];omega⟩
     ·go_wp2_with fail
      refine((ah HWG).call 49 49 rfl (ah HBL)).mono ?_;rintro e w3 ⟨rfl,OY⟩
      go_wp2_with fail
      exact⟨⟨j+1,hjt,by go_num,by rw[ah HBS,<-ah6];exact OY⟩,by simp[intOf];omega⟩
    ·have hjj:j=hl.length:=(by omega);subst hjj;have hjd:¬(hl.length:Int)<(hl.length:Int):=(by omega);have hbs:=bString w.heap.size (w.heap.size+1+1) _ wr hwg.Zb hwg.below.size;have hbw:=hwg.below;have e1:tC f k++[47]++bits (hl.take hl.length)=wrt f k hl:=(by rw[ag9];rfl);rw[e1]at hbs;clear hwg e1
     go_wp2_with fail
     refine hbs.mono ?_;rintro e w3 ⟨rfl,_,hb3,_⟩;have hb4:=hbw.trans hb3
     go_wp2_with fail
     go_ret
     exact⟨rfl,hb4⟩
end
open Go.RowKit Go.Maps Go.WideMaps
open aB (Key put dF lD jn au dR aO)
attribute [local go_sem] Oper.semAt_some
structure oq(w0:World)(keys:List UInt8)(nc:Nat)(o3 o4 o6 o8:Option Nat)(W:World):Prop where
 below:Below w0.heap.size w0 W
 i3:∀G,o3=some G->w0.heap.size<=G/\pR W G keys
 i4:∀b,o4=some b->w0.heap.size<=b/\gG W b (fi keys) keys.length 100
 i6:∀H,o6=some H->w0.heap.size<=H/\W.heap[H]?=some (.cells (madeCells #[.bool false] nc) 4)
 i8:∀X,o8=some X->w0.heap.size<=X/\W.heap[X]?=some (.cells #[.map none,.slice none 0 0] 105)
theorem oq.grow{w0:World}{keys:List UInt8}{nc:Nat}{o3 o4 o6 o8:Option Nat}{W W':World}(h:oq w0 keys nc o3 o4 o6 o8 W)(hb:Below W.heap.size W W'):oq w0 keys nc o3 o4 o6 o8 W' where
 below:=h.below.trans ⟨hb.os,hb.tape,hb.output,hb.size,λj hj=>hb.block j (ac7 hj h.below.size)⟩
 i3:=λG e=>⟨(h.i3 G e).1,(h.i3 G e).2.same (hb.block G (h.i3 G e).2.1)⟩
 i4:=λb e=>⟨(h.i4 b e).1,(h.i4 b e).2.kept (hb.block b (h.i4 b e).2.lt)⟩
 i6:=λH e=>⟨(h.i6 H e).1,(hb.block H (ab1.1 (h.i6 H e).2).1).trans (h.i6 H e).2⟩
 i8:=λX e=>⟨(h.i8 X e).1,(hb.block X (ab1.1 (h.i8 X e).2).1).trans (h.i8 X e).2⟩
theorem fU{w:World}{p q:Addr}{v:Value}(h:p≠q):(w.setCell p v).cell? q=w.cell? q:=by
 apply World.cell?_setCell_other;exact h
theorem nM(W:World)(o:Obj):Below W.heap.size W (W.alloc o):=(af0 _ _).alloc (ab3 _) _
theorem oq.s8{w0:World}{keys:List UInt8}{nc:Nat}{o3 o4 o6:Option Nat}{W:World}(h:oq w0 keys nc o3 o4 o6 none W):oq w0 keys nc o3 o4 o6 (some W.heap.size) (W.alloc (.cells #[.map none,.slice none 0 0] 105)):=by
 have h2:=h.grow (nM W (.cells #[.map none,.slice none 0 0] 105));exact⟨h2.below,h2.i3,h2.i4,h2.i6,λX e=>by cases e;exact⟨h.below.size,ac4 _ _⟩⟩
theorem oq.s6{w0:World}{keys:List UInt8}{nc:Nat}{o3 o4 o8:Option Nat}{W:World}(h:oq w0 keys nc o3 o4 none o8 W):oq w0 keys nc o3 o4 (some W.heap.size) o8 (W.alloc (.cells (madeCells #[.bool false] nc) 4)):=by
 have h2:=h.grow (nM W (.cells (madeCells #[.bool false] nc) 4));exact⟨h2.below,h2.i3,h2.i4,λX e=>(by cases e;exact⟨h.below.size,ac4 _ _⟩),h2.i8⟩
theorem oq.s3{w0:World}{t:ByteArray}{nc cap:Nat}{o6 o8:Option Nat}{W:World}{fz:Nat×Nat}(h:oq w0 t.data.toList nc none none o6 o8 W):oq w0 t.data.toList nc (some W.heap.size) none o6 o8 (W.drew.alloc (.cells (bytesRow t cap) 5 fz)):=by
 have hb:Below W.heap.size W (W.drew.alloc (.cells (bytesRow t cap) 5 fz)):=((af0 _ W).drew).alloc (ab3 _) _;have h2:=h.grow hb;refine⟨h2.below,λG e=>?_,λb e=>(by cases e),h2.i6,h2.i8⟩;cases e;have hn:(W.drew.alloc (.cells (bytesRow t cap) 5 fz)).heap[W.heap.size]?=some (.cells (bytesRow t cap) 5 fz):=ac4 W.drew _;refine⟨h.below.size,(ab1.1 hn).1,λi hi=>?_⟩;rw[Lib.cell_of_heap hn];have hi2:i<t.data.size:=by simpa using hi
 have h3:=bytesRow_at t cap i hi2;simpa using h3
theorem oq.s4{w0:World}{keys:List UInt8}{nc b G:Nat}{o6 o8:Option Nat}{W W':World}(h:oq w0 keys nc (some G) none o6 o8 W)(hb:Below W.heap.size W W')(h1:W.heap.size<=b)(h2:gG W' b (fi keys) keys.length 100):oq w0 keys nc (some G) (some b) o6 o8 W':=by
 have h3:=h.grow hb;exact⟨h3.below,h3.i3,λc e=>(by cases e;exact⟨ad6 h.below.size h1,h2⟩),h3.i6,h3.i8⟩
theorem zK(GT GC GP nt nc np:Nat)(s:ByteArray)(w:World)(h7:nt<=7)(h4:nc<=4)(hs:s.size≠nt+1+nc) :
  Calls prog 54 #[fv GT GC GP nt nc np,.string s] w λe w'=>e=.returned (.tuple #[.agg #[.map none,.slice none 0 0],.bool false])/\Below w.heap.size w w':=by
 unfold fv
 go_enter func54,ntmps54
 go_wp2_with fail
 obtain⟨w0,hw0⟩:∃w0,(w.alloc (.cells #[.slice (some ⟨GT,0,none⟩) nt nt,.slice (some ⟨GC,0,none⟩) nc nc,.slice (some ⟨GP,0,none⟩) np np] 54)).alloc (.cells #[.map none,.slice none 0 0] 105)=w0:=⟨_,rfl⟩;have hb0:Below w.heap.size w w0:=by rw[<-hw0];exact dw _ _ _
 have hz0:w0.heap.size=w.heap.size+2:=by rw[<-hw0];simp
 have hk0:w0.cell? ⟨w.heap.size,0,none⟩=some (.slice (some ⟨GT,0,none⟩) nt nt):=by rw[<-hw0];simp[go_sem]
 have hk1:w0.cell? ⟨w.heap.size,1,none⟩=some (.slice (some ⟨GC,0,none⟩) nc nc):=by rw[<-hw0];simp[go_sem]
 have hk2:w0.cell? ⟨w.heap.size,2,none⟩=some (.slice (some ⟨GP,0,none⟩) np np):=by rw[<-hw0];simp[go_sem]
 have hr0:w0.cell? ⟨w.heap.size+1,0,none⟩=some (.map none):=by rw[<-hw0];simp[go_sem]
 have hr1:w0.cell? ⟨w.heap.size+1,1,none⟩=some (.slice none 0 0):=by rw[<-hw0];simp[go_sem]
 have hq0:w0.frozen? ⟨w.heap.size+1,0,none⟩=false:=by rw[<-hw0];simp[go_sem]
 have hq1:w0.frozen? ⟨w.heap.size+1,1,none⟩=false:=by rw[<-hw0];simp[go_sem]
 rw[hw0];clear hw0;have hS0:w0.drew.cell? ⟨w.heap.size,0,none⟩=some (.slice (some ⟨GT,0,none⟩) nt nt)/\w0.drew.cell? ⟨w.heap.size,1,none⟩=some (.slice (some ⟨GC,0,none⟩) nc nc):=⟨hk0,hk1⟩;refine ae9 (S:=λW'=>W'.cell? ⟨w.heap.size,0,none⟩=some (.slice (some ⟨GT,0,none⟩) nt nt)/\W'.cell? ⟨w.heap.size,1,none⟩=some (.slice (some ⟨GC,0,none⟩) nc nc)) rfl ?_;simp only[ac0,ab9,ac9,Nat.reduceAdd,ab8,ab7,ac3,ac6,ac5];change wpAnyH prog .any _ _ _ _ _ _ w0.drew;refine tH 0 (.pointer (some ⟨w.heap.size,0,none⟩)) (λw' hS=>?_) hS0 ?_
 ·obtain⟨s1,s2⟩:=hS;go_simp
 simp only[aC];refine tH 1 (.slice (some ⟨GT,0,none⟩) nt nt) (λw' hS=>?_) hS0 ?_
 ·obtain⟨s1,s2⟩:=hS;go_simp
 simp only[aC];refine tH 2 (.int .i64 nt) (λw' hS=>?_) hS0 ?_
 ·obtain⟨s1,s2⟩:=hS;go_simp
 simp only[aC];refine tH 3 (.pointer (some ⟨w.heap.size,1,none⟩)) (λw' hS=>?_) hS0 ?_
 ·obtain⟨s1,s2⟩:=hS;go_simp
 simp only[aC];refine tH 4 (.slice (some ⟨GC,0,none⟩) nc nc) (λw' hS=>?_) hS0 ?_
 ·obtain⟨s1,s2⟩:=hS;go_simp
 simp only[aC];refine tH 5 (.int .i64 nc) (λw' hS=>?_) hS0 ?_
 ·obtain⟨s1,s2⟩:=hS;go_simp
 simp only[aC];refine oH 6 (λK hK=>?_);go_simp;refine hK.out _ _ hS0 ?_;clear hK K;refine oH 7 (λK hK=>?_);go_simp;refine hK.out _ _ hS0 (ae4 (by kernel_rfl) ?_ _);clear hK K hS0;have hne:decide ((s.size:Int)=(nt:Int)+1+(nc:Int))=false:=by simp;omega
 have hne2:¬((s.size:Int)=(nt:Int)+1+(nc:Int)):=by omega
 have hd0:w0.drew.cell? ⟨w.heap.size+1,0,none⟩=some (.map none):=hr0;have hd1:w0.drew.cell? ⟨w.heap.size+1,1,none⟩=some (.slice none 0 0):=hr1;have he0:w0.drew.frozen? ⟨w.heap.size+1,0,none⟩=false:=hq0;have he1:w0.drew.frozen? ⟨w.heap.size+1,1,none⟩=false:=hq1
 go_wp2_with fail
 obtain⟨wz,hwz⟩:∃wz,((w0.setCell ⟨w.heap.size+1,0,none⟩ (Value.map none)).setCell ⟨w.heap.size+1,1,none⟩ (Value.slice none 0 0)).drew=wz:=⟨_,rfl⟩;have z0:wz.cell? ⟨w.heap.size+1,0,none⟩=some (.map none):=by
  rw[<-hwz]
  show((w0.setCell ⟨w.heap.size+1,0,none⟩ (Value.map none)).setCell ⟨w.heap.size+1,1,none⟩ (Value.slice none 0 0)).cell? _=_
  rw[fU (by simp)];exact dI _ hr0
 have z1:wz.cell? ⟨w.heap.size+1,1,none⟩=some (.slice none 0 0):=by
  rw[<-hwz]
  show((w0.setCell ⟨w.heap.size+1,0,none⟩ (Value.map none)).setCell ⟨w.heap.size+1,1,none⟩ (Value.slice none 0 0)).cell? _=_
  exact dI _ ((fU (by simp)).trans hr1)
 have zb:Below w.heap.size w wz:=by
  rw[<-hwz];exact((hb0.setCell (p:=⟨w.heap.size+1,0,none⟩) (by show w.heap.size<=w.heap.size+1;omega) _).setCell (p:=⟨w.heap.size+1,1,none⟩) (by show w.heap.size<=w.heap.size+1;omega) _).drew
 rw[hwz];exact ae3 (v:=.tuple #[.agg #[.map none,.slice none 0 0],.bool false]) (by simp[results,results54,go_sem,z0,z1]) rfl ⟨rfl,zb⟩
end Go.Proofs.YthcppbmkacbbiaaGreat
