import Derived.Test.YthcppbmkacbbiabGreatVAK
set_option linter.unusedSimpArgs false
set_option maxHeartbeats 2000000
set_option maxRecDepth 100000
namespace Go.Proofs.YthcppbmkacbbiabGreat
open Go.Proofs.Tryz
open au (Key put)
section
open Go.RowKit Go.Maps Go.WideMaps
theorem aae(aj:Fence)(n:Nat)(hf:aj.fn 144)(yK:aj.round=none)(hn:1<=n)(Bm BT:Nat)(Y:Ai)(w:World)(iL:Y.Nodup)
 (hBm:w.cell? (J Bm 0)=some (.map (some BT)))(hM:aT w 76 BT bZ Y)(hv:∀x∈Y,∃l,keyOf prog 76 (bZ x)=some l) :
  nY aj n prog 144 #[Aa Bm 0] (λi:Fin Y.length=>#[bZ Y[i]]) (λss=>ss.Perm (List.finRange Y.length)) Y.length KeepsWalks w:=by
 intro l Af W hW hJ hY h0;have ahL:W.cell? (J Bm 0)=some (.map (some BT)):=(hW.cell (p:=(J Bm 0)) (an4 w _ hBm)).trans hBm;have yS:aT W 76 BT bZ Y:=hM.kept (hW.block BT hM.lt);obtain⟨D,aH,eH,aX,iM⟩:=yS;obtain⟨w2,Yn,rg,dh,su⟩:=aH.range Ap underlying64;have jQ:=F aX;have pq:=F iM;have xF:=F eH;have HM:=F hM;have HS2:=F su;clear aX iM eH hM su;refine au2 func144 rfl hf ?_ yK;simp only[ntmps144,ao5,ao1,ap0,Nat.reduceAdd,Nat.reduceSub,an7,an6,ao6,ap9,ao8,ao7]
 gi_wp2
 gi_loopw [3] (λ_ wr=>∃left cnt,∃ss:List (Fin Y.length),wr.ranges prog 76 (plainElem (H:=Unit) prog 3) BT W.heap.size Y.length D left cnt/\Hid (ss.length+cnt<=Y.length)/\Hid (Coll 76 bZ Y left ss)/\Af ss wr) (λ_ wr=>wr.rangeLeft BT W.heap.size)
 case atStart=>
  refine⟨_,_,[],rg,?_,?_,hJ [] W w2 none h0 dh (λr e=>by cases e)⟩
  ·have:=Z xF
   show([]:List (Fin Y.length)).length+Maps.size D<=Y.length
   simp;omega
  ·refine Coll.start λi lt hk=>?_;rw[(Z jQ _ _ hk).1];simp
 case round=>
  obtain⟨left,cnt,ss,BH,hlen,yO,hJs⟩:=hrel
  gi_wp2_with (gi_at_next;refine wpListIn_next_ranges _ rfl _ rfl 76 Ap (plainElem (H:=Unit) prog 3) mkT (Value.int .i64) (λkey kl h=>acO h) (λv y h=>by obtain⟨a,e,_⟩:=aA5 underlying3 h;exact⟨a,e⟩) BT W.heap.size Y.length D left cnt rfl BH ?_ ?_)
  ·intro zO NS;have hp:=(Z yO).perm hv NS
   gi_wp2
   go_end0
   exact⟨⟨_,rfl⟩,ss,hp,hJs⟩
  ·intro x0 x1 x2 c kl y1 y2 w' Ci aV qJ hy gU VT hlt jS LX hen;obtain⟨c',ec,ey,_⟩:=aA5 underlying3 hy;have ec':c=c':=(by simpa using ec);have ey':y1=.lit (.int .i64 c):=(by rw[ec'];exact ax1 Prod.fst ey);obtain⟨t,ht,et,vC⟩:=Ko Ap (Z jQ) (Z pq) aV (c:=c) (λzd=>by rw[gU zd,ey']);have NV:=ar0 ht;obtain⟨i,hi⟩:∃i:Fin Y.length,Y[i]=t:=⟨⟨Y.idxOf t,NV⟩,ar8 NV⟩;rw[et]at hen aV ⊢;have IC:=F ((Z yO).step Ap (λ_ _=>zH) iL (i:=i) (by rw[hi];exact aV) qJ);have JK:Hid ((ss++[i]).length+Ci<=Y.length):=by
    have:=Z hlen
    show(ss++[i]).length+Ci<=Y.length
    simp;omega
   have lZ:=hY ss i;rw[hi]at lZ;have sG:ss.length<Y.length:=(by have:=Z hlen;omega);clear ec ec' ey ey' hy gU et vC qJ NV;obtain⟨tl,tf,tsd⟩:=t;simp only[bZ]at hen lZ ⊢;obtain⟨fn,tmps,assign,body,hy,hR⟩:=lZ (w'.alloc (.cells #[.int .u8 tl,.int .i64 tf,.int .i64 tsd] 76)) (hJ ss w' _ none (hJ ss wr w' (some W.heap.size) hJs jS (λr e=>by cases e;exact⟨an2 _,BH.iter_walk⟩)) (an1 _ _ _) (λr e=>by cases e)) sG;clear lZ sG;have HS:=F LX;clear LX
   gi_wp2
   refine hR.mono ?_;rintro e W3 ⟨rfl,xM,pG⟩;have BI:=(VT.alloc (.cells #[.int .u8 tl,.int .i64 tf,.int .i64 tsd] 76)).of_walks pG;clear hy hR
   gi_wp2
   go_roundw
   case rel=>exact⟨_,Ci,_,BI,JK,IC,xM⟩
   case measure=>rw[BI.left_eq,BH.left_eq];exact hlt
end
section
open Go.RowKit Go.Maps Go.WideMaps
attribute [local go_sem] Oper.semAt_some
def flT(Y:Ai)(ss:List (Fin Y.length)):List Value:=ss.flatMap λi=>mY Y[i]
theorem WR(Y:Ai)(ss:List (Fin Y.length))(i:Fin Y.length):flT Y (ss++[i])=flT Y ss++mY Y[i]:=by simp[flT]
theorem afH(aj:Fence)(n:Nat)(hf:aj.fn 179)(yK:aj.round=none)(hn:2<=n)(Y:Ai)(hl:Y.length<=1000)(g:Nat)(lb:Array Value)(TQ:aj.fn g)(eg:∀args w,(callFunc g args).run prog w=.ok (.enter g args) w)(w:World){Sp:List (Fin Y.length)->Prop}
 (dK:nY aj (n-1) prog g lb (λi:Fin Y.length=>#[bZ Y[i]]) Sp Y.length KeepsWalks w) :
  CallsIn aj n prog 179 #[.slice none 0 0,.func (.func g) #[] lb] w λe w'=>∃v ss,e=.returned v/\Sp ss/\w'.ownsRow w.heap.size 76 3 v ss.length (flT Y ss)/\(v=.slice none 0 0↔ss=[])/\Ag w w':=by
 obtain⟨i0,gK,jR,ig,jy⟩:=au5 ac1;refine at6 func179 rfl hf ?_ yK;simp only[ntmps179,ao5,ao1,ap0,Nat.reduceAdd,Nat.reduceSub,an7,an6,ao6,ap9,ao8,ao7]
 gi_wp2
 obtain⟨w1,uH⟩:∃w1,w.alloc (.cells #[.slice none 0 0] 42)=w1:=⟨_,rfl⟩;have oI:w1.heap.size=w.heap.size+1:=by rw[<-uH];simp
 have Gn:w1.cell? (J w.heap.size 0)=some (.slice none 0 0):=by rw[<-uH];simp[go_sem]
 have Ik:w1.frozen? (J w.heap.size 0)=false:=by rw[<-uH];simp[go_sem]
 have iD:Below w.heap.size w w1:=by rw[<-uH];exact(aq1 _ w).alloc (an2 _) _
 rw[uH];clear uH;have hA0:AI w w.heap.size (w.heap.size+1) 76 3 true 0 (flT Y []) w1:=⟨⟨_,Gn,⟨rfl,.inl ⟨rfl,rfl⟩⟩,R⟩,Ik,iD⟩;clear Gn Ik;refine jk yK O rfl TQ eg dK KeepsWalks.trans ?_ iD ?_ (λss W=>AI w w.heap.size (w.heap.size+1) 76 3 true ss.length (flT Y ss) W)
  (λss W W' row h hg hr=>h.keep hg (B:=w1.heap.size) O hr) hA0
  (λi a' W=>∃p,W.cell? (J p 0)=some (Ae Y[i].1)/\W.cell? (J p 1)=some (A Y[i].2.1)/\W.cell? (J p 2)=some (A Y[i].2.2)/\
   a'={tmps:=#[.slice none 0 0,.func (.func g) #[] lb,Aa w.heap.size 0,undef,.slice none 0 0,Aa p 0,.func (.func g) #[] lb,bZ Y[i],undef,undef,undef,undef,undef],defers:=[]}) ?own ?assign ?body ?done
 ·intro W l o o' hl ho hc hw;exact KeepsWalks.putObj _ ho hw
 ·intro x;rfl
 case own=>
  rintro i a' ⟨⟩ W W' row ⟨p,c0,c1,c2,e⟩ hg hr;have ng:∀r,row=some r->∃o:Obj,W.heap[r]?=some o/\o.isCells=false:=λr e=>(hr r e).2;exact⟨p,dB c0 hg ng,dB c1 hg ng,dB c2 hg ng,e⟩
 case assign=>
  intro l pre i W K hI hK;simp only;generalize Y[i]=key at hK ⊢;obtain⟨tl,tf,tsd⟩:=key;simp only[bZ]at hK ⊢
  gi_wp2
  refine hK _ _ ((az8 _ _).from _) (KeepsWalks.alloc _ _) (hI.keep (an1 _ _ none) (B:=w1.heap.size) O (λr e=>by cases e)) ⟨W.heap.size,?_,?_,?_,rfl⟩
  all_goals simp[go_sem]
 case body=>
  rintro l pre i a' W wB Yv hI ⟨p,c0,c1,c2,rfl⟩;obtain⟨v,hx,aS,fC⟩:=hI.x;have hfx:=hI.fx;have wG:w.heap.size<W.heap.size:=an4 W _ hx;have Pg:=F hI;have aii:=F fC;clear hI fC;have e1:=WR Y pre i;generalize Y[i]=key at c0 c1 c2 e1;have E1:=F e1;clear e1;obtain⟨tl,tf,tsd⟩:=key;simp only at c0 c1 c2
  gi_wp2_with (gi_at_builtin;refine aB9 _ rfl _ _ 42 rfl (w.heap.size+1) 76 i0 _ 3 24 underlying42 gK jR ig jy rfl ane _ pre.length (flT Y pre) rfl (aS.alloc _) (J W.heap.size 0) 1 1 (mY (tl,tf,tsd)) rfl rfl (Rx _ _ _ _ _) (Vw _) anj O anf ?_;intro v' w3 fA dY uJ gU;obtain⟨jF,aaI⟩:=(Z Pg).after O hx aS (an1 _ _ none) dY;obtain⟨g',qB,rfl⟩:=gG fA (aw4 _))
  have iy:=(Z Pg).close (a:=⟨#[],[]⟩) (B:=w1.heap.size) O (an2 _) O hx aS (an1 _ _ none) fA dY uJ ane;rw[<-Z E1]at iy;simpa[jX,oI]using iy
 case done=>
  intro D ss W hD hS hI eU;obtain⟨v,hx,aS,fC⟩:=hI.x
  gi_wp2
  refine⟨R,.inl ⟨_,_,rfl,au4 eU,?_⟩⟩;have dD:=hI.keep (au9 W D (.deferred none)) (B:=w1.heap.size) O (λr e=>by cases e;exact⟨hD,_,eU,rfl⟩);refine⟨_,ay0 rfl _ _ _,v,rfl,ss,hS,?_,?_,dD.below⟩
  ·exact fO (ou aS (au9 W D (.deferred none)) (λr e=>by cases e;exact⟨_,eU,rfl⟩)) (Nat.le_succ _)
  ·rw[fC];simp
end
section
open Go.RowKit Go.Maps Go.WideMaps
theorem Nl(kl:Int)(kf ks:Nat)(v:Int)(w:World):Calls prog 53 #[.agg #[Ae kl,A kf,A ks],A v] w λe w'=>e=.returned (A v)/\w'=w.alloc (.cells #[Ae kl,A kf,A ks] 76):=by
 go_in
 go_wp2_with fail
 go_ret
 exact⟨rfl,rfl⟩
theorem ad6(Rb Mb BT:Nat)(xl:Int)(xf xs:Nat)(yl:Int)(yf ys:Nat)(i j:Nat)(W:World)(hR:W.cell? (J Rb 0)=some (.func (.func 53) #[] #[]))(l9:W.cell? (J Mb 0)=some (.map (some BT)))
 (hx:Hid (∀W',W.grownBy W' none->(Instr.lookup 64 (.map (some BT)) (.agg #[Ae xl,A xf,A xs]) false).run prog W'=.ok (A i) W'))(hy:Hid (∀W',W.grownBy W' none->(Instr.lookup 64 (.map (some BT)) (.agg #[Ae yl,A yf,A ys]) false).run prog W'=.ok (A j) W')) :
  Calls prog 101 #[.agg #[Ae xl,A xf,A xs],.agg #[Ae yl,A yf,A ys],Aa Rb 0,Aa Mb 0] W λe w'=>e=.returned (A (jg i j))/\∃q os',w'=Go.Sort.grow (W.drewN q) os':=by
 have HC:=F (λw=>sW i j w);generalize jg i j=r at HC
 go_in
 go_wp2_with fail
 obtain⟨W1,dO⟩:∃W1,(W.alloc (.cells #[Ae xl,A xf,A xs] 76)).alloc (.cells #[Ae yl,A yf,A ys] 76)=W1:=⟨_,rfl⟩;have bG:W.grownBy W1 none:=by rw[<-dO];exact(an1 _ _ none).trans (an1 _ _ none)
 have kx0:W1.cell? (J W.heap.size 0)=some (Ae xl):=by rw[<-dO];simp[go_sem]
 have kx1:W1.cell? (J W.heap.size 1)=some (A xf):=by rw[<-dO];simp[go_sem]
 have kx2:W1.cell? (J W.heap.size 2)=some (A xs):=by rw[<-dO];simp[go_sem]
 have ky0:W1.cell? ⟨(W.heap.size+1),0,none⟩=some (Ae yl):=by rw[<-dO];simp[go_sem]
 have ky1:W1.cell? ⟨(W.heap.size+1),1,none⟩=some (A yf):=by rw[<-dO];simp[go_sem]
 have ky2:W1.cell? ⟨(W.heap.size+1),2,none⟩=some (A ys):=by rw[<-dO];simp[go_sem]
 have HW1:=F dO;rw[dO];clear dO;refine aq8 (S:=λW'=>W1.grownBy W' none) rfl ?_;have aA:W1.grownBy W1.drew none:=⟨rfl,rfl,rfl,an2 _,λ_ _ _=>rfl⟩;change wpAnyH prog .any _ _ _ 14 #[false,false,false,false,false,false,false,false,false,false,false,false,false,false] _ W1.drew;refine tH 0 (.func (.func 53) #[] #[]) (λw' hS=>?_) aA ?_
 ·have c0:=hS.cell (bG.cell hR R) R;go_simp
 simp only[aF];refine tH 1 (.agg #[Ae xl,A xf,A xs]) (λw' hS=>?_) aA ?_
 ·have c0:=hS.cell kx0 R;have c1:=hS.cell kx1 R;have c2:=hS.cell kx2 R
  go_simp
 simp only[aF];refine tH 2 (.map (some BT)) (λw' hS=>?_) aA ?_
 ·have c0:=hS.cell (bG.cell l9 R) R;go_simp
 simp only[aF];refine tH 3 (.agg #[Ae xl,A xf,A xs]) (λw' hS=>?_) aA ?_
 ·have c0:=hS.cell kx0 R;have c1:=hS.cell kx1 R;have c2:=hS.cell kx2 R
  go_simp
 simp only[aF];refine tH 4 (A i) (λw' hS=>?_) aA ?_
 ·have e1:=Z hx w' (bG.trans hS);go_simp
 simp only[aF];refine tH 6 (.func (.func 53) #[] #[]) (λw' hS=>?_) aA ?_
 ·have c0:=hS.cell (bG.cell hR R) R;go_simp
 simp only[aF];refine tH 7 (.agg #[Ae yl,A yf,A ys]) (λw' hS=>?_) aA ?_
 ·have c0:=hS.cell ky0 R;have c1:=hS.cell ky1 R;have c2:=hS.cell ky2 R
  go_simp
 simp only[aF];refine tH 8 (.map (some BT)) (λw' hS=>?_) aA ?_
 ·have c0:=hS.cell (bG.cell l9 R) R;go_simp
 simp only[aF];refine tH 9 (.agg #[Ae yl,A yf,A ys]) (λw' hS=>?_) aA ?_
 ·have c0:=hS.cell ky0 R;have c1:=hS.cell ky1 R;have c2:=hS.cell ky2 R
  go_simp
 simp only[aF];refine tH 10 (A j) (λw' hS=>?_) aA ?_
 ·have e1:=Z hy w' (bG.trans hS);go_simp
 simp only[aF];refine oH 5 (λK hK=>?_);go_simp;refine(Nl xl xf xs i _).mono ?_;rintro e w2 ⟨rfl,rfl⟩;have MH:=aA.trans (an1 W1.drew (.cells #[Ae xl,A xf,A xs] 76) none);refine hK.out _ _ MH ?_;clear hK K;refine oH 11 (λK hK=>?_);go_simp;refine(Nl yl yf ys j _).mono ?_;rintro e w2 ⟨rfl,rfl⟩;have JU:=MH.trans (an1 (W1.drew.alloc (.cells #[Ae xl,A xf,A xs] 76)) (.cells #[Ae yl,A yf,A ys] 76) none);refine hK.out _ _ JU ?_;clear hK K;refine oH 12 (λK hK=>?_);go_simp;refine((Z HC) _).mono ?_;rintro e w2 ⟨rfl,rfl⟩;refine hK.out _ _ JU ?_;clear hK K;refine oH 13 (λK hK=>?_);go_simp;refine hK.out _ _ JU (ar2 (by kernel_rfl) ?_ _);clear hK K
 go_wp2_with fail
 go_ret
 refine⟨rfl,1,#[.cells #[Ae xl,A xf,A xs] 76,.cells #[Ae yl,A yf,A ys] 76,.cells #[Ae xl,A xf,A xs] 76,.cells #[Ae yl,A yf,A ys] 76],?_⟩;rw[<-Z HW1];exact WL _ _ _ _ _
end
section
open Go.RowKit Go.Maps Go.WideMaps Go.Sort
theorem zU(x:Key):(mY x).length=3:=rfl
theorem aku(Y:Ai)(iL:Y.Nodup)(hv:∀x∈Y,∃l,keyOf prog 76 (bZ x)=some l)(Rb Mb BT:Nat)(W:World)(hR:W.cell? (J Rb 0)=some (.func (.func 53) #[] #[]))(l9:W.cell? (J Mb 0)=some (.map (some BT)))
 (hM:aT W 76 BT bZ Y)(i j:Fin Y.length) :
  Calls prog 101 (#[.agg (mY Y[i]).toArray,.agg (mY Y[j]).toArray]++#[Aa Rb 0,Aa Mb 0]) W λe w'=>e=.returned (.int .i64 (jg i.val j.val))/\∃q os',w'=grow (W.drewN q) os':=by
 have ix:∀i:Fin Y.length,Y.idxOf Y[i]=i.val:=λi=>iL.idxOf_getElem i.val i.isLt;have lk:∀i:Fin Y.length,Hid (∀W',W.grownBy W' none->(Instr.lookup 64 (.map (some BT)) (bZ Y[i]) false).run prog W'=.ok (.int .i64 (i.val:Nat)) W'):=λi=>by
  obtain⟨l,hl⟩:=hv Y[i] (an5 i.isLt);have h:=hM.looks Ap underlying64 (x:=Y[i]) (an5 i.isLt) hl;rw[ix i]at h;exact h
 have I:=lk i;have M:=lk j;generalize Y[i]=x at I ⊢;generalize Y[j]=y at M ⊢;exact ad6 Rb Mb BT x.1 x.2.1 x.2.2 y.1 y.2.1 y.2.2 i.val j.val W hR l9 I M
theorem Zo(Y:Ai)(iL:Y.Nodup)(hl:Y.length<=1000)(hv:∀x∈Y,∃l,keyOf prog 76 (bZ x)=some l)(ss:List (Fin Y.length))(hp:ss.Perm (List.finRange Y.length))(bg:0<Y.length)(Rb Mb BT g cap e:Nat)(cur:Array Value)(w:World)
 (hb:w.heap[g]?=some (.cells cur e (0,0)))(ht:cur.toList.take (ss.length*3)=flT Y ss)(hR:w.cell? (J Rb 0)=some (.func (.func 53) #[] #[]))(l9:w.cell? (J Mb 0)=some (.map (some BT)))(hM:aT w 76 BT bZ Y)(n1:Rb≠g)(n2:Mb≠g)(n3:BT≠g) :
  Calls prog 143 #[Ac g 0 ss.length cap,.func (.func 101) #[] #[Aa Rb 0,Aa Mb 0]] w λe w'=>
   e=.returned (.tuple #[])/\w.grownBy w' (some g)/\∀(i:Nat) (hi:i<Y.length) (c:Nat),c<3->w'.cell? ⟨g,i*3+c,none⟩=(mY Y[i])[c]?:=by
 haveI:Inhabited (Fin Y.length):=⟨⟨0,bg⟩⟩
 have hlen:ss.length=Y.length:=by rw[hp.length_eq,ax8]
 have hlt:=(an0.1 hb).1;have hH:HoldsK (λi:Fin Y.length=>mY Y[i]) 3 w g 0 ss.toArray:=E9 (k:=3) (λ_=>rfl) ane hb ht;have hc:CmpLays prog 101 #[Aa Rb 0,Aa Mb 0] (λi:Fin Y.length=>mY Y[i]) 3 (λi j=>jg i.val j.val) g 0 ss.toArray.size w:=by
  intro m os dk _ x y;have jS:=jH (λi:Fin Y.length=>mY Y[i]) 3 w g m dk os;exact aku Y iL hv Rb Mb BT _ (jS.cell hR (by simpa using n1)) (jS.cell l9 (by simpa using n2)) (hM.kept (jS.block BT hM.lt (by simpa using n3))) x y
 have h:=AnyQ.slices_SortFunc_total sortT 3 isAgg76 sizeOf76 (λi:Fin Y.length=>mY Y[i]) (λ_=>rfl) (λi=>Vw _) (λi j=>jg i.val j.val) (Eh _) 101 _ g 0 cap ss.toArray w (aC1 func101 (by kernel_rfl) rfl) hc hH hlt anf Ef;change Calls prog 143 _ _ _ at h;simp only[ao5]at h;refine h.mono ?_;rintro e2 w' ⟨rfl,m,os,rfl⟩;refine⟨rfl,jH _ _ _ _ _ _ _,λi hi c Fh=>?_⟩;have e0:(List.mergeSort ss.toArray.toList λx y=>!(ltOf λi j:Fin Y.length=>jg i.val j.val) y x)=List.finRange Y.length:=Dc hp;rw[e0];have hH2:=holdsK_sortWorldK_c (λi:Fin Y.length=>mY Y[i]) 3 w g 0 ss.toArray (List.finRange Y.length).toArray m os hH hlt (by simp[hlen]);have M:=(hH2.cell (i:=i) (c:=c) (by simpa using hi) Fh).1;rw[aw8]at M;rw[M];rw[az9 (List.finRange Y.length).toArray i (by simpa using hi)];simp only[List.getElem_toArray,List.getElem_finRange];rw[az9 _ c (by rw[zU];exact Fh),an3 (by rw[zU];exact Fh)];rfl
theorem PW(n:Nat)(hn:3<=n)(Y:Ai)(hl:Y.length<=1000)(g:Nat)(lb:Array Value)(eg:∀args w,(callFunc g args).run prog w=.ok (.enter g args) w)(w:World){Sp:List (Fin Y.length)->Prop}
 (dK:nY Fence.wide (n-1-1) prog g lb (λi:Fin Y.length=>#[bZ Y[i]]) Sp Y.length KeepsWalks w) :
  CallsIn Fence.wide n prog 142 #[.func (.func g) #[] lb] w λe w'=>∃v ss,e=.returned v/\Sp ss/\w'.ownsRow w.heap.size 76 3 v ss.length (flT Y ss)/\(v=.slice none 0 0↔ss=[])/\Ag w w':=by
 refine au2 func142 rfl trivial ?_ rfl;simp only[ntmps142,ao5,ao1,ap0,Nat.reduceAdd,Nat.reduceSub,an7,an6,ao6,ap9,ao8,ao7]
 gi_wp2
 refine⟨trivial,λ_=>O,(afH Fence.wide (n-1) trivial rfl O Y hl g lb trivial eg w dK).mono ?_⟩;rintro e w' ⟨v,ss,rfl,I,M,h3,h4⟩
 gi_wp2
 go_ret
 exact⟨v,ss,rfl,I,M,h3,h4⟩
def ah8(w:World)(base:Nat)(Y:Ai)(v:Value):Prop:=
 (Y.length=0->v=.slice none 0 0)/\(0<Y.length->∃G cap,v=Ac G 0 Y.length cap/\base<=G/\G<w.heap.size/\∀(i:Nat) (hi:i<Y.length) (c:Nat),c<3->w.cell? ⟨G,i*3+c,none⟩=(mY Y[i])[c]?)
theorem QJ(n:Nat)(hn:4<=n)(Y:Ai)(iL:Y.Nodup)(hl:Y.length<=1000)(hv:∀x∈Y,∃l,keyOf prog 76 (bZ x)=some l)(Kb Rb Mb BT:Nat)(w:World)
 (hK:w.cell? (J Kb 0)=some (.map (some BT)))(hR:w.cell? (J Rb 0)=some (.func (.func 53) #[] #[]))(l9:w.cell? (J Mb 0)=some (.map (some BT)))(hM:aT w 76 BT bZ Y) :
  CallsIn Fence.wide n prog 99 #[.func (.func 144) #[] #[Aa Kb 0],.func (.func 101) #[] #[Aa Rb 0,Aa Mb 0]] w λe w'=>
   ∃v,e=.returned v/\Ag w w'/\ah8 w' w.heap.size Y v:=by
 have dK:=aae Fence.wide (n-1-1-1) trivial rfl O Kb BT Y w iL hK hM hv;have Wj:=PW (n-1) O Y hl 144 _ (aC1 func144 (by kernel_rfl) rfl) w dK;clear dK;refine au2 func99 rfl trivial ?_ rfl;simp only[ntmps99,ao5,ao1,ap0,Nat.reduceAdd,Nat.reduceSub,an7,an6,ao6,ap9,ao8,ao7]
 gi_wp2
 refine⟨trivial,λ_=>O,Wj.mono ?_⟩;rintro e W ⟨v,ss,rfl,hS,aS,fC,hb⟩;have hlen:ss.length=Y.length:=by rw[hS.length_eq,ax8]
 obtain⟨rfl,hz⟩|⟨gb,cap,cur,rfl,uP,fD,r1,r2,r3,r4⟩:=aS.2
 ·gi_wp2
  refine⟨trivial,λ_=>O,(aq2.2 (AnyF.slices_SortFunc_none sortT none 0 _ W)).mono ?_⟩;rintro e w' ⟨rfl,rfl⟩
  gi_wp2
  go_ret
  exact⟨_,rfl,hb,λ_=>rfl,λh=>absurd h O⟩
 ·have bg:0<Y.length:=by
   obtain h0|h0:=av1 Y.length
   ·have:ss=[]:=aq9 O;exact absurd (fC.2 this) R
   ·exact h0
  have hcR:W.cell? (J Rb 0)=some (.func (.func 53) #[] #[]):=(hb.cell (p:=(J Rb 0)) (an4 w _ hR)).trans hR;have hcM:W.cell? (J Mb 0)=some (.map (some BT)):=(hb.cell (p:=(J Mb 0)) (an4 w _ l9)).trans l9;have n1:Rb≠gb:=by have h:Rb<w.heap.size:=an4 w _ hR;omega
  have n2:Mb≠gb:=by have h:Mb<w.heap.size:=an4 w _ l9;omega
  have n3:BT≠gb:=by have h:=hM.lt;omega
  have hs:=Zo Y iL hl hv ss hS bg Rb Mb BT gb cap _ cur W fD r4 hcR hcM (hM.kept (hb.block BT hM.lt)) n1 n2 n3;have pR:=F hlen;clear hlen
  gi_wp2
  refine⟨trivial,λ_=>O,(aq2.2 hs).mono ?_⟩;rintro e w' ⟨rfl,hg,hc⟩
  gi_wp2
  go_ret
  have hlen:=Z pR;have D5:=(an0.1 fD).1;refine⟨_,rfl,hb.grown hg hb.size (λk e=>by cases e;exact uP),λh0=>absurd h0 O,λ_=>⟨gb,cap,?_,uP,ap2 D5 hg.size,hc⟩⟩
  show Value.slice (some (J gb 0)) ss.length cap=_
  rw[hlen]
theorem Z8(n:Nat)(BT:Nat)(w:World):CallsIn Fence.wide n prog 100 #[.map (some BT)] w λe w'=>
  e=.returned (.func (.func 144) #[] #[Aa w.heap.size 0])/\w'=w.alloc (.cells #[.map (some BT)] 64):=by
 refine aq2.2 ?_
 go_enter func100,ntmps100
 go_wp2_with fail
 go_ret
 exact⟨rfl,rfl⟩
theorem Vs(BT:Nat)(w:World):Calls prog 52 #[.map (some BT),.func (.func 53) #[] #[]] w λe w'=>
  e=.returned (.func (.func 98) #[] #[Aa w.heap.size 0,Aa (w.heap.size+1) 0])/\∃t,w'=(w.alloc (.cells #[.map (some BT)] 64)).alloc (.cells #[.func (.func 53) #[] #[]] t):=by
 go_in
 go_wp2_with fail
 go_ret
 exact⟨rfl,_,rfl⟩
theorem aar(n:Nat)(hn:5<=n)(Mb Rb BT m0:Nat)(Y:Ai)(w:World)(UJ:m0<=w.heap.size)(hl:Y.length<=1000)(iL:Y.Nodup)
 (l9:w.cell? (J Mb 0)=some (.map (some BT)))(hR:w.cell? (J Rb 0)=some (.func (.func 53) #[] #[]))(hM:aT w 76 BT bZ Y)(hv:∀x∈Y,∃l,keyOf prog 76 (bZ x)=some l) :
  FQ Fence.wide n prog 98 #[Aa Mb 0,Aa Rb 0] (List.ofFn λi:Fin Y.length=>#[bZ Y[i],.int .i64 i.val]) (KIt m0 Mb BT) w:=by
 intro l Af W hW hJ hY h0;have BM:W.cell? (J Mb 0)=some (.map (some BT)):=(hW.cell (p:=(J Mb 0)) (an4 w _ l9)).trans l9;have hRW:W.cell? (J Rb 0)=some (.func (.func 53) #[] #[]):=(hW.cell (p:=(J Rb 0)) (an4 w _ hR)).trans hR;have yS:aT W 76 BT bZ Y:=hM.kept (hW.block BT hM.lt);have Gh:=hW.size;have V4:Mb<W.heap.size:=an4 W _ BM;have ajD:Rb<W.heap.size:=an4 W _ hRW;have JM:=yS.lt;have Gg:=QJ (n-1) O Y iL hl hv W.heap.size Rb Mb BT (W.alloc (.cells #[.map (some BT)] 64)) (by simp[go_sem]) ((an1 _ _ none).cell hRW R) ((an1 _ _ none).cell BM R) (yS.kept (ao3 _ _ _ JM));have HM:=F hM;have HMW:=F yS;clear hM yS;refine au2 func98 rfl trivial ?_ rfl;simp only[ntmps98,ao5,ao1,ap0,Nat.reduceAdd,Nat.reduceSub,an7,an6,ao6,ap9,ao8,ao7]
 gi_wp2
 refine⟨trivial,λ_=>O,(Z8 (n-1) BT W).mono ?_⟩;rintro e w1 ⟨rfl,rfl⟩
 gi_wp2
 refine⟨trivial,λ_=>O,Gg.mono ?_⟩;rintro e w2 ⟨v,rfl,fF,hH⟩;have hb:Below W.heap.size W w2:=((aq1 _ W).alloc (an2 _) _).trans (fF.mono R);have JW:Af 0 w2:=hJ 0 W w2 none h0 ⟨hb.os,hb.tape,hb.output,hb.size,λk hk _=>hb.block k hk⟩ (λr e=>by cases e);have AQ:w2.heap[Mb]?=W.heap[Mb]?:=hb.block Mb V4;have WH:w2.heap[BT]?=W.heap[BT]?:=hb.block BT JM;clear Gg fF;obtain hz|yL:=av1 Y.length
 ·rw[hH.1 hz];have HZ:=F hz;clear hz hH
  gi_wp2
  gi_loopw [13] (λi wr=>i=.int .i64 0/\Af 0 wr) (λ_ _=>0)
  case atStart=>exact⟨rfl,JW⟩
  case round=>
   obtain⟨rfl,YF⟩:=hrel
   gi_wp2
   go_end0
   refine⟨⟨_,rfl⟩,?_⟩;have:(List.ofFn λi:Fin Y.length=>#[bZ Y[i],.int .i64 i.val]).length=0:=(by simp[Z HZ]);rw[this];exact YF
 ·obtain⟨G,cap,rfl,hG,hGl,hcs⟩:=hH.2 yL;obtain⟨oG,hoG,hcG⟩:=aB3 (hcs 0 yL 0 ane);have hG':W.heap.size<=G:=by simp at hG;omega
  have Hg:=F hcs;clear hH hcs hG
  gi_wp2
  gi_loopw [13] (λi wr=>∃k:Nat,k<=Y.length/\i=.int .i64 k/\Af k wr/\wr.heap[G]?=some oG/\wr.heap[Mb]?=W.heap[Mb]?/\wr.heap[BT]?=W.heap[BT]?) (λi _=>Y.length-(intOf i).toNat)
  case atStart=>exact⟨0,ap7 _,rfl,JW,hoG,AQ,WH⟩
  case round=>
   obtain⟨k,hk,rfl,zQ,sJ,hMk,hBk⟩:=hrel;by_cases hlt:k<Y.length
   ·have kc:∀c,c<3->wr.cell? ⟨G,k*3+c,none⟩=(mY Y[k])[c]?:=λc hc=>by
     have I:=Z Hg k hlt c hc;rw[<-I];exact an9 (sJ.trans hoG.symm)
    have lZ:=hY k (by simpa using hlt);rw[show(List.ofFn λi:Fin Y.length=>#[bZ Y[i],.int .i64 i.val])[k]'(by simpa using hlt)=#[bZ Y[k],.int .i64 k] by simp]at lZ;obtain⟨lt,nO⟩:=hv Y[k] (an5 hlt);have hMr:aT wr 76 BT bZ Y:=(Z HMW).kept hBk;have qJ:=hMr.looks Ap underlying64 (x:=Y[k]) (an5 hlt) nO;rw[iL.idxOf_getElem k hlt]at qJ;have aaN:wr.cell? (J Mb 0)=some (.map (some BT)):=(an9 hMk).trans BM;have S9:Mb<wr.heap.size:=an4 wr _ aaN;simp only[bZ,mY]at lZ qJ kc;generalize Y[k]=t at kc lZ qJ;obtain⟨tl,tf,tsd⟩:=t;simp only at kc lZ qJ;have iF:(k:Int)<(Y.length:Int):=O;obtain⟨fn,tmps,assign,body,hy,hR⟩:=lZ (wr.alloc (.cells #[.int .u8 tl,.int .i64 tf,.int .i64 tsd] 76)).drew (hJ k wr _ none zQ ⟨rfl,rfl,rfl,R,λj hj _=>ao3 _ _ _ hj⟩ (λr e=>by cases e));have ajC:=qJ (wr.alloc (.cells #[.int .u8 tl,.int .i64 tf,.int .i64 tsd] 76)).drew ⟨rfl,rfl,rfl,R,λj hj _=>ao3 _ _ _ hj⟩;clear lZ qJ;have k0:wr.cell? ⟨G,k*3,none⟩=some (.int .u8 tl):=kc 0 ane;have k1:wr.cell? ⟨G,k*3+1,none⟩=some (.int .i64 tf):=kc 1 ane;have k2:wr.cell? ⟨G,k*3+2,none⟩=some (.int .i64 tsd):=kc 2 ane;clear kc
    gi_wp2
    gi_region_with (refine⟨λ_=>O,hR.mono ?_⟩;rintro e W3 ⟨rfl,xM,pG⟩)
    all_goals
     have jF:W3.heap[G]?=some oG:=pG.1 G oG O ((ao3 _ _ _ (an0.1 sJ).1).trans sJ) hcG;have hM3:W3.heap[Mb]?=W.heap[Mb]?:=pG.2.1.trans ((ao3 _ _ _ S9).trans hMk);have uQ:W3.heap[BT]?=W.heap[BT]?:=pG.2.2.trans ((ao3 _ _ _ hMr.lt).trans hBk);clear pG hR hy
     gi_wp2
     go_roundw
     case rel=>exact⟨k+1,O,by go_num,xM,jF,hM3,uQ⟩
     case measure=>simp[intOf];omega
   ·have gW:k=Y.length:=O;have Lr:=F gW;clear gW;have iF:¬(k:Int)<(Y.length:Int):=O
    gi_wp2
    go_end0
    refine⟨⟨_,rfl⟩,?_⟩;rw[<-Z Lr];exact zQ
end
open Go.RowKit Go.Maps Go.WideMaps
attribute [local go_sem] Oper.semAt_some
theorem Z4(BT:Nat)(Y:Ai)(w:World)(hl:Y.length<=1000)(iL:Y.Nodup)(hM:aT w 76 BT bZ Y)(hv:∀x∈Y,∃l,keyOf prog 76 (bZ x)=some l) :
  Calls prog 26 #[.map (some BT)] w λe w'=>∃G,e=.returned (Ac G 0 Y.length Y.length)/\w.heap.size<=G/\Ag w w'/\
   w'.ownsRow w.heap.size 76 3 (Ac G 0 Y.length Y.length) Y.length (Y.flatMap mY):=by
 refine(aq2 (n:=7)).1 ?_;obtain⟨D,aH,eH,aX,iM⟩:=id hM;obtain⟨i0,gK,jR,ig,jy⟩:=au5 ac1;have hlen:=λty=>aH.len underlying65 ty;obtain⟨w1,wC,aS,bG⟩:=aA9 (P:=prog) w w.heap.size 42 76 i0 _ 3 underlying42 gK jR ig .i64 .i64 (Maps.size D) (by rw[jy,eH];omega) (by rw[eH];unfold maxLen;omega) (an2 _);have xF:=F eH;have HM:=F hM;clear aX iM eH hM;refine at6 func26 rfl trivial ?_ rfl;simp only[ntmps26,ao5,ao1,ap0,Nat.reduceAdd,Nat.reduceSub,an7,an6,ao6,ap9,ao8,ao7]
 gi_wp2
 refine⟨trivial,(aq2.2 (Vs BT _)).mono ?_⟩;rintro e w2 ⟨rfl,tt,rfl⟩
 gi_wp2
 have hn:=Z xF;obtain⟨w2,eu⟩:∃w2,((w1.alloc (.cells #[Ac w.heap.size 0 0 (Maps.size D)] 42)).alloc (.cells #[.map (some BT)] 64)).alloc (.cells #[.func (.func 53) #[] #[]] tt)=w2:=⟨_,rfl⟩;have ajA:w.heap.size<w1.heap.size:=(aS.lt w.heap.size rfl).2;have su:w2.heap.size=w1.heap.size+3:=by rw[<-eu];simp
 have mM:w2.cell? (J w1.heap.size 0)=some (Ac w.heap.size 0 0 (Maps.size D)):=by rw[<-eu];simp[go_sem]
 have Ti:w2.frozen? (J w1.heap.size 0)=false:=by rw[<-eu];simp[go_sem]
 have AQ:w2.cell? (J (w1.heap.size+1) 0)=some (.map (some BT)):=by rw[<-eu];simp[go_sem]
 have mX:w2.cell? (J (w1.heap.size+1+1) 0)=some (.func (.func 53) #[] #[]):=by rw[<-eu];simp[go_sem]
 have dh:w.grownBy w2 none:=by rw[<-eu];exact((bG.trans (an1 _ _ none)).trans (an1 _ _ none)).trans (an1 _ _ none)
 have UN:aT w2 76 BT bZ Y:=(Z HM).kept (dh.block BT (Z HM).lt R);have yJ:w2.ownsRow w.heap.size 76 3 (Ac w.heap.size 0 0 (Maps.size D)) 0 []:=by
  rw[<-eu];exact((aS.alloc _).alloc _).alloc _
 have fF:Below w.heap.size w w2:=⟨dh.os,dh.tape,dh.output,dh.size,λj hj=>dh.block j hj R⟩;have hBT:BT<w.heap.size:=(Z HM).lt;have dK:=aar 6 O (w1.heap.size+1) (w1.heap.size+1+1) BT w2.heap.size Y w2 (an2 _) hl iL AQ mX UN hv;rw[eu];clear eu wC hlen aS bG aH dh;rw[hn]at mM yJ ⊢;clear hn;have hLI:LI w w1.heap.size w.heap.size Y.length 76 3 w2.heap.size (Y.flatMap mY) 0 w2:=⟨mM,Ti,by rw[aB4,az5];exact yJ,fF,an2 _⟩;clear mM Ti yJ fF xF AQ mX UN;refine dZ rfl O rfl trivial (λ_ _=>by simp[go_sem]) dK KIt.trans ?_ (aq1 _ _) ?_ (LI w w1.heap.size w.heap.size Y.length 76 3 w2.heap.size (Y.flatMap mY)) (LI.own _ O) hLI
  (λk a' W=>∃(hk:k<Y.length) (p:Nat),p≠w1.heap.size/\p≠w.heap.size/\W.cell? (J p 0)=some (.int .u8 Y[k].1)/\W.cell? (J p 1)=some (.int .i64 Y[k].2.1)/\W.cell? (J p 2)=some (.int .i64 Y[k].2.2)/\
   a'={tmps:=#[.map (some BT),undef,.slice none 0 0,Aa w1.heap.size 0,Aa p 0,.map (some BT),.int .i64 Y.length,Ac w.heap.size 0 0 Y.length,.map (some BT),
     .func (.func 98) #[] #[Aa (w1.heap.size+1) 0,Aa (w1.heap.size+1+1) 0],bZ Y[k],.int .i64 k,undef,undef,undef,undef,undef],defers:=[]}) ?own ?assign ?body ?done
 ·intro W l o o' hl ho hc _;refine⟨λj x hj hx La=>(ap1 (λe=>?_)).trans hx,ap1 O,ap1 O⟩;subst e;rw[ho]at hx;cases hx;rw[hc]at La;cases La
 ·intro k hk;simp
 case own=>
  rintro k a' ⟨⟩ W W' row ⟨hk,p,Ig,uZ,c0,c1,c2,e⟩ hg hr;have ng:∀r,row=some r->∃o:Obj,W.heap[r]?=some o/\o.isCells=false:=λr e=>(hr r e).2;exact⟨hk,p,Ig,uZ,dB c0 hg ng,dB c1 hg ng,dB c2 hg ng,e⟩
 case assign=>
  intro l k hk W K hI hK;have iQ:k<Y.length:=by simpa using hk
  have e1:(List.ofFn λi:Fin Y.length=>#[bZ Y[i],.int .i64 i.val])[k]'hk=#[bZ Y[k],.int .i64 k]:=R
  rw[e1];have hlt:=hI.lt;have oU:=λa' W' I M h3 h4=>hK a' W' I M h3 ⟨iQ,h4⟩;clear hK;generalize Y[k]=key at oU ⊢;obtain⟨tl,tf,tsd⟩:=key;simp only[bZ]at oU ⊢
  gi_wp2
  refine oU _ _ ((az8 _ _).from _) ⟨λj o hj ho hc=>(ao3 _ _ _ (an0.1 ho).1).trans ho,ao3 _ _ _ (by have:=hI.sz;omega),ao3 _ _ _ (by have:=hI.sz;omega)⟩ ((LI.own w2.heap.size O).alloc _ hI) ⟨W.heap.size,O,O,?_,?_,?_,rfl⟩
  all_goals simp[go_sem]
 case body=>
  rintro l k a' W hk hl hI ⟨iQ,p,Ig,uZ,c0,c1,c2,rfl⟩;have GX:=hI.x;have adn:=hI.fx;have wG:=hI.lt.1;have AL:=hI.lt.2;have aS:=hI.row;have eH:=hI.sz;have HI:=F hI;clear hI hLI dK;have kT:=qF zU Y k iQ;generalize Y[k]=key at c0 c1 c2 kT;have je:=F kT;clear kT;obtain⟨tl,tf,tsd⟩:=key;simp only at c0 c1 c2;have Yz:w1.heap.size≠w.heap.size:=O
  gi_wp2_with (gi_at_builtin;refine wpListIn_append_fits _ rfl _ _ 42 rfl w.heap.size 76 i0 3 underlying42 gK ig w.heap.size k Y.length _ rfl (aS.alloc _) (J W.heap.size 0) 1 1 (mY (tl,tf,tsd)) rfl rfl (Rx _ _ _ _ _) (Vw _) O ?_;intro w3 r1 r2;have jF:w3.cell? (J w1.heap.size 0)=some (Ac w.heap.size 0 k Y.length):=r2.cell ((an1 _ _ none).cell GX R) (by simpa using Yz);have aaI:w3.frozen? (J w1.heap.size 0)=false:=(ar5 (r2.block w1.heap.size anf (by simpa using Yz))).trans ((ar5 (ao3 _ _ _ wG)).trans adn))
  have iy:=(Z HI).close (a:=⟨#[],[]⟩) (B:=w2.heap.size) (Mb:=w1.heap.size+1) (BT:=BT) O O O (an2 _) Yz O O O O O O (an1 _ _ none) (Z je) r1 r2;simpa[jX]using iy
 case done=>
  intro D W hD hI eU;have hx:=hI.x;rw[aB8]at hx
  gi_wp2
  refine⟨R,.inl ⟨_,_,rfl,au4 eU,?_⟩⟩;refine⟨_,ay0 rfl _ _ _,?_⟩;have dD:=(LI.own w2.heap.size O).putObj (.deferred none) hI hD eU rfl;have hr:=dD.row;rw[aB8]at hr;refine⟨w.heap.size,rfl,an2 _,dD.below,?_⟩
  ·rw[aq5 (by rw[uT zU];exact an2 _)]at hr;exact hr
end Go.Proofs.YthcppbmkacbbiabGreat
