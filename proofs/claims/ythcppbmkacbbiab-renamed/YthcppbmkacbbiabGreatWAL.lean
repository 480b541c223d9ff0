import Derived.Test.YthcppbmkacbbiabGreatWAI
import Derived.Test.YthcppbmkacbbiabGreatWAK
set_option linter.unusedSimpArgs false
namespace Go.Proofs.YthcppbmkacbbiabGreat
open Go.Proofs.Tryz
theorem jq0{α:Type}{l:List α}{i:Nat}(h:i<l.toArray.size):l.toArray[i]=l[i]'(by simpa using h):=List.getElem_toArray h
theorem jq1{α:Type}{a:α}{l:List α}(h:0<(a::l).length):(a::l)[0]=a:=rfl
theorem jq2{α:Type}{a:α}{l:List α}{i:Nat}(h:i+1<(a::l).length):(a::l)[i+1]=l[i]'(by simpa using h):=rfl
theorem jq3(l:List Value)(d:List Deferred)(k:Nat)(v:Value):Act.put ⟨l.toArray,d⟩ (some k) v=⟨(l.set k v).toArray,d⟩:=by simp[Act.put]
theorem jq4{α:Type}{a b:α}{l:List α}:(a::l).set 0 b=b::l:=rfl
theorem jq5{α:Type}{a b:α}{l:List α}{i:Nat}:(a::l).set (i+1) b=a::l.set i b:=rfl
theorem aC:(∀{α:Type} {l:List α} {i:Nat} (h:i<l.toArray.size),l.toArray[i]=l[i]'(by simpa using h))/\(∀{α:Type} {a:α} {l:List α} (h:0<(a::l).length),(a::l)[0]=a)/\(∀{α:Type} {a:α} {l:List α} {i:Nat} (h:i+1<(a::l).length),(a::l)[i+1]=l[i]'(by simpa using h))/\(∀(l:List Value) (d:List Deferred) (k:Nat) (v:Value),Act.put ⟨l.toArray,d⟩ (some k) v=⟨(l.set k v).toArray,d⟩)/\(∀{α:Type} {a b:α} {l:List α},(a::l).set 0 b=b::l)/\(∀{α:Type} {a b:α} {l:List α} {i:Nat},(a::l).set (i+1) b=a::l.set i b):=⟨jq0,jq1,jq2,jq3,jq4,jq5⟩
section
variable {P:Program} {ops:Array Oper} {Q:Exit->Act->World->Prop} {md:Region.Mode} {S:World->Prop} {z fuel:Nat} {listed:Array Bool} {a:Act} {w:World} {oi:Oper}
theorem tH(i:Nat)(v:Value)(hy:∀w,S w->(execOp a.eval oi).run P w=.ok (.value v) w)(hS:S w)(h:wpAnyH P md ops Q S fuel (listed.setIfInBounds i true) (a.put oi.dst v) w)
 (hi:ops[i]?=some oi:=by rfl)(hs:Region.noSelect ops=true:=by kernel_rfl)(hf:Region.free md ops listed i=true:=by kernel_rfl)(hr:(Region.ready md ops listed).contains i=true:=by kernel_rfl)
 (hQ:∀c a w,Q (.panic c) (a.put oi.dst v) w->Q (.panic c) a w:=by first|exact λ_ _ _ h=>h|exact λ_ _ _ h=>(by cases h.1))(hw:Region.wanted oi (yielded ops a.tmps)=true:=by rfl):wpAnyH P md ops Q S (fuel+1) listed a w:=
 wpAnyH_take hi hs hf hr hQ (Or.inl ⟨hw,hy⟩) hS h
theorem tL(i:Nat)(v:Value)(hy:∀w,S w->(execOp a.eval oi).run P w=.ok (.value v) w)(hS:S w)(h:wpAnyL P md ops Q S z fuel (listed.setIfInBounds i true) (a.put oi.dst v) w)
 (hi:ops[i]?=some oi:=by rfl)(hz:waits md ops z i=true:=by kernel_rfl)(hs:Region.noSelect ops=true:=by kernel_rfl)(hf:Region.free md ops listed i=true:=by kernel_rfl)(hr:(Region.ready md ops listed).contains i=true:=by kernel_rfl)
 (hQ:∀c a w,Q (.panic c) (a.put oi.dst v) w->Q (.panic c) a w:=by first|exact λ_ _ _ h=>h|exact λ_ _ _ h=>(by cases h.1))(hw:Region.wanted oi (yielded ops a.tmps)=true:=by rfl):wpAnyL P md ops Q S z (fuel+1) listed a w:=
 Ec hi hz hs hf hr hQ hw hy hS h
theorem oH(i:Nat)(h:∀K':Act->World->Prop,Shut (∀a w,S w->wpAnyH P md ops Q S fuel (listed.setIfInBounds i true) a w->K' a w)->Oper.wp P oi a w K' Q)
 (hr:Region.ready md ops listed=[i]:=by kernel_rfl)(ho:ops[i]?=some oi:=by rfl)(hw:Region.wanted oi (yielded ops a.tmps)=true:=by rfl):wpAnyH P md ops Q S (fuel+1) listed a w:=
 Gw hr ho hw h
theorem oL(i:Nat)(h:∀K':Act->World->Prop,Shut (∀a w,(i≠z->S w)->wpAnyL P md ops Q S z fuel (listed.setIfInBounds i true) a w->K' a w)->Oper.wp P oi a w K' Q)
 (hr:Region.ready md ops listed=[i]:=by kernel_rfl)(ho:ops[i]?=some oi:=by rfl)(hw:Region.wanted oi (yielded ops a.tmps)=true:=by rfl):wpAnyL P md ops Q S z (fuel+1) listed a w:=
 Gv hr ho hw h
theorem oO{i:Nat}{K:Act->World->Prop}(h:∀K':Act->World->Prop,Shut (∀a w,K a w->K' a w)->Oper.wp P oi a w K' Q)(ho:ops[i]?=some oi:=by rfl)(hw:Region.wanted oi (yielded ops a.tmps)=true:=by rfl):wpOp P ops Q i K a w:=by
 refine wpOp_step ho (λK' hK=>?_);rw[af6 hw];exact h K' hK
def qU(P:Program)(md:Region.Mode)(ops:Array Oper)(Q:Exit->Act->World->Prop)(S:World->Prop)(fuel:Nat)(listed:Array Bool)(i:Nat)(a:Act)(w:World):Prop:=
 wpOp P ops Q i (λa' w'=>S w'/\wpAnyH P md ops Q S fuel (listed.setIfInBounds i true) a' w') a w
theorem a1(i:Nat)(h:qU P md ops Q S fuel listed i a w)(hr:Region.ready md ops listed=[i]:=by kernel_rfl):wpAnyH P md ops Q S (fuel+1) listed a w:=
 wpAnyH_all hr (by simp) (λk hk=>by simp only[ah8,ak8,ap2]at hk;subst hk;exact h)
theorem a2(i j:Nat)(h:qU P md ops Q S fuel listed i a w)(h2:qU P md ops Q S fuel listed j a w)(hr:Region.ready md ops listed=[i,j]:=by kernel_rfl):wpAnyH P md ops Q S (fuel+1) listed a w:=
 wpAnyH_all hr (by simp) (λk hk=>by simp only[ah8,ak8,ap2]at hk;rcases hk with rfl|rfl<;>assumption)
theorem a3(i j l:Nat)(h:qU P md ops Q S fuel listed i a w)(h2:qU P md ops Q S fuel listed j a w)(h3:qU P md ops Q S fuel listed l a w)(hr:Region.ready md ops listed=[i,j,l]:=by kernel_rfl):wpAnyH P md ops Q S (fuel+1) listed a w:=
 wpAnyH_all hr (by simp) (λk hk=>by simp only[ah8,ak8,ap2]at hk;rcases hk with rfl|rfl|rfl<;>assumption)
theorem a4(i j l m:Nat)(h:qU P md ops Q S fuel listed i a w)(h2:qU P md ops Q S fuel listed j a w)(h3:qU P md ops Q S fuel listed l a w)(h4:qU P md ops Q S fuel listed m a w)(hr:Region.ready md ops listed=[i,j,l,m]:=by kernel_rfl):wpAnyH P md ops Q S (fuel+1) listed a w:=
 wpAnyH_all hr (by simp) (λk hk=>by simp only[ah8,ak8,ap2]at hk;rcases hk with rfl|rfl|rfl|rfl<;>assumption)
end
section
open Go.RowKit
open aB (St put)
def st0:St:=⟨0,0,0,[],[]⟩
def OX(s:ByteArray):St:=aB.fM s.data.toList (pk s) (s.size+1) st0
end
namespace aB
def dJ(nt nc i:Nat)(q:Key):Prop:=
 (q.1=33/\q.2.1<i/\q.2.2=0)\/(au q.1=true/\q.2.1<i/\q.2.2<i)\/((q.1=80\/q.1=81)/\q.2.1<nc/\q.2.2=0)\/(q.1=61/\q.2.1<nt/\q.2.2<nt)
theorem dJ.more{nt nc i nt' nc' i':Nat}{q:Key}(h:dJ nt nc i q)(h1:nt<=nt')(h2:nc<=nc')(h3:i<=i'):dJ nt' nc' i' q:=by
 unfold dJ at *;rcases h with⟨a,b,c⟩|⟨a,b,c⟩|⟨a,b,c⟩|⟨a,b,c⟩
 ·exact Or.inl ⟨a,by omega,c⟩
 ·exact Or.inr (Or.inl ⟨a,by omega,by omega⟩)
 ·exact Or.inr (Or.inr (Or.inl ⟨a,by omega,c⟩))
 ·exact Or.inr (Or.inr (Or.inr ⟨a,by omega,by omega⟩))
theorem dJ.bd{nt nc i:Nat}{q:Key}(h:dJ nt nc i q)(h1:nt<=1000)(h2:nc<=1000)(h3:i<=1000):(0<=q.1/\q.1<=255)/\q.2.1<=1000/\q.2.2<=1000:=by
 unfold dJ at h;rcases h with⟨a,b,c⟩|⟨a,b,c⟩|⟨a,b,c⟩|⟨a,b,c⟩
 ·omega
 ·simp[au]at a;omega
 ·omega
 ·omega
structure aQ(nt nc:Nat)(ps:List Key):Prop where
 nd:ps.Nodup
 ok:∀i (h:i<ps.length),dJ nt nc i ps[i]
theorem aQ.more{nt nc nt' nc':Nat}{ps:List Key}(h:aQ nt nc ps)(h1:nt<=nt')(h2:nc<=nc'):aQ nt' nc' ps:=⟨h.nd,λi hi=>(h.ok i hi).more h1 h2 (ad5 _)⟩
theorem aQ.put{nt nc:Nat}{ps:List Key}(h:aQ nt nc ps){q:Key}(hq:dJ nt nc ps.length q):aQ nt nc (put ps q):=by
 refine⟨qo q h.nd,?_⟩;unfold aB.put;split
 ·exact h.ok
 ·intro i hi;by_cases hlt:i<ps.length
  ·rw[aj9 hlt];exact h.ok i hlt
  ·have e:i=ps.length:=(by simp at hi;omega);subst e;rw[ap7 (ad5 _)];simpa using hq
def VH(ts:List Key)(cs:List (Int×Nat))(ps:List Key):RP->Prop
 |.error _=>True
 |.ok (_,aF,cs1,ps1,m)=>aQ aF.length cs1.length ps1/\m<ps1.length/\ts.length<=aF.length/\cs.length<=cs1.length/\ps <+: ps1
def Kr(ts:List Key)(cs:List (Int×Nat))(ps:List Key):RQ->Prop
 |.error _=>True
 |.ok (_,aF,cs1,ps1,q)=>aQ aF.length cs1.length ps1/\dJ aF.length cs1.length ps1.length q/\ts.length<=aF.length/\cs.length<=cs1.length/\ps <+: ps1
section
variable {pk:Nat->Int} {N:Nat}
theorem uq{ts:List Key}{cs:List (Int×Nat)}{ps:List Key}{r:RQ}(h:Kr ts cs ps r):VH ts cs ps (rU r):=by
 rcases r with e|⟨a1,aF,cs1,ps1,q⟩
 ·trivial
 ·obtain⟨h1,h2,h3,h4,h5⟩:=h;exact⟨h1.put h2,jK _ _,h3,h4,h5.trans (ng q)⟩
theorem uo(hpk:∀a,pk a≠0->a<N):∀(n a d:Nat) (ts:List Key) (cs:List (Int×Nat)) (ps:List Key),a<=N->aQ ts.length cs.length ps->VH ts cs ps (gI pk n a d ts cs ps):=by
 intro n
 induction n with
 |zero=>intro a d ts cs ps _ _;trivial
 |succ n ih=>
  intro a d ts cs ps ha hi;unfold gI;split
  ·rename_i e;have hl:=hpk a (by omega);have h:=ih (a+1) d ts cs ps (by omega) hi;refine uq ?_;rcases hR:gI pk n (a+1) d ts cs ps with e|⟨a1,aF,cs1,ps1,m⟩
   ·trivial
   ·rw[hR]at h;obtain⟨h1,h2,h3,h4,h5⟩:=h;exact⟨h1,Or.inl ⟨rfl,h2,rfl⟩,h3,h4,h5⟩
  ·split
   ·rename_i e;have hl:=hpk a (by omega);refine uq ?_;unfold JL;split
    ·trivial
    ·have h:=ih (a+1) (d+1) ts cs ps (by omega) hi;have hF:=qA hpk n (a+1) (d+1) ts cs (by omega);rw[<-jv pk n (a+1) (d+1) ts cs ps]at hF;rcases hR:gI pk n (a+1) (d+1) ts cs ps with e|⟨a1,aF,cs1,ps1,m1⟩
     ·trivial
     ·rw[hR]at h hF;obtain⟨h1,h2,h3,h4,h5⟩:=h;obtain⟨g1,g2,_⟩:=hF
      show Kr ts cs ps (if au (pk a1)=true then _ else _)
      split
      ·rename_i hj;have hl1:=hpk a1 (λe=>by rw[e]at hj;simp[au]at hj);have h':=ih (a1+1) (d+1) aF cs1 ps1 (by omega) h1;rcases hR2:gI pk n (a1+1) (d+1) aF cs1 ps1 with e|⟨a2,ts2,cs2,ps2,m2⟩
       ·trivial
       ·rw[hR2]at h';obtain⟨k1,k2,k3,k4,k5⟩:=h'
        show Kr ts cs ps (if pk a2=41 then _ else _)
        split
        ·have:=k5.length_le;exact⟨k1,Or.inr (Or.inl ⟨hj,by show m1<ps2.length;omega,k2⟩),by omega,by omega,h5.trans k5⟩
        ·trivial
      ·trivial
   ·split
    ·rename_i e8;have hl:=hpk a (by omega);refine uq ?_;have h':=iZ hpk (rec:=dR pk (n+1)) (a:=a+1) (d:=d) (ts:=ts) (by omega) (λh40=>dH hpk _ _ _ _ (by have:=hpk (a+1) (by omega);omega));unfold SS;rcases hR:arg1 pk (dR pk (n+1)) (a+1) d ts with e|⟨a1,aF,m⟩
     ·trivial
     ·rw[hR]at h';obtain⟨p1,p2,p3,p4,p5⟩:=h';have q:=gY cs (pk a,m);refine⟨hi.more p3 q.1,Or.inr (Or.inr (Or.inl ⟨e8,jK _ _,rfl⟩)),p3,q.1,al1 _⟩
    ·refine uq ?_;have h:=dH hpk (n+1) a d ts ha;unfold AV;rcases hR:dR pk (n+1) a d ts with e|⟨a1,aF,m1⟩
     ·trivial
     ·rw[hR]at h;obtain⟨p1,p2,p3,p4,p5⟩:=h
      show Kr ts cs ps (if pk a1=61 then _ else _)
      split
      ·rename_i h61;have hl1:=hpk a1 (by omega);have h2:=dH hpk (n+1) (a1+1) d aF (by omega);rcases hR2:dR pk (n+1) (a1+1) d aF with e|⟨a2,ts2,m2⟩
       ·trivial
       ·rw[hR2]at h2;obtain⟨q1,q2,q3,q4,q5⟩:=h2;exact⟨hi.more (by omega) (ad5 _),Or.inr (Or.inr (Or.inr ⟨rfl,by show m1<ts2.length;omega,q5⟩)),by omega,ad5 _,al1 _⟩
      ·trivial
def Vs(ps:List Key):RP->Prop
 |.error _=>True
 |.ok (_,_,_,ps1,m)=>(m<ps.length/\ps1=ps)\/m+1=ps1.length
def J3(ps:List Key):RQ->Prop
 |.error _=>True
 |.ok (_,_,_,ps1,q)=>q∈ps1->ps1=ps
theorem tN{ps:List Key}{r:RQ}(h:J3 ps r):Vs ps (rU r):=by
 rcases r with e|⟨a1,aF,cs1,ps1,q⟩
 ·trivial
 ·by_cases hq:q∈ps1
  ·have e:=h hq;subst e;refine Or.inl ⟨ah9 hq,?_⟩;unfold aB.put;rw[af6 (by simpa using hq)]
  ·refine Or.inr ?_;unfold aB.put;rw[af2 (by simpa using hq),ai9 hq];simp
theorem J4{nt nc:Nat}{ps:List Key}(h:aQ nt nc ps){q:Key}(hq:q∈ps):∃j,j<ps.length/\dJ nt nc j q:=by
 obtain⟨j,hj,e⟩:=ai0 hq;exact⟨j,hj,by rw[<-e];exact h.ok j hj⟩
theorem PO(hpk:∀a,pk a≠0->a<N):∀(n a d:Nat) (ts:List Key) (cs:List (Int×Nat)) (ps:List Key),a<=N->aQ ts.length cs.length ps->Vs ps (gI pk n a d ts cs ps):=by
 intro n
 induction n with
 |zero=>intro a d ts cs ps _ _;trivial
 |succ n ih=>
  intro a d ts cs ps ha hi;unfold gI;split
  ·rename_i e;have hl:=hpk a (by omega);have h:=ih (a+1) d ts cs ps (by omega) hi;have hf:=uo hpk n (a+1) d ts cs ps (by omega) hi;refine tN ?_;rcases hR:gI pk n (a+1) d ts cs ps with e|⟨a1,aF,cs1,ps1,m⟩
   ·trivial
   ·rw[hR]at h hf;intro hq;obtain⟨j,hj,ho⟩:=J4 hf.1 hq;rcases h with⟨_,h2⟩|h2
    ·exact h2
    ·rcases ho with⟨_,b,_⟩|⟨a,_,_⟩|⟨a,_,_⟩|⟨a,_,_⟩
     ·simp only at b;omega
     ·simp[au]at a
     ·simp at a
     ·simp at a
  ·split
   ·rename_i e;have hl:=hpk a (by omega);refine tN ?_;unfold JL;split
    ·trivial
    ·have h:=ih (a+1) (d+1) ts cs ps (by omega) hi;have hf:=uo hpk n (a+1) (d+1) ts cs ps (by omega) hi;have hF:=qA hpk n (a+1) (d+1) ts cs (by omega);rw[<-jv pk n (a+1) (d+1) ts cs ps]at hF;rcases hR:gI pk n (a+1) (d+1) ts cs ps with e|⟨a1,aF,cs1,ps1,m1⟩
     ·trivial
     ·rw[hR]at h hF hf;obtain⟨g1,g2,_⟩:=hF
      show J3 ps (if au (pk a1)=true then _ else _)
      split
      ·rename_i hj;have hl1:=hpk a1 (λe=>by rw[e]at hj;simp[au]at hj);have h':=ih (a1+1) (d+1) aF cs1 ps1 (by omega) hf.1;have hf':=uo hpk n (a1+1) (d+1) aF cs1 ps1 (by omega) hf.1;rcases hR2:gI pk n (a1+1) (d+1) aF cs1 ps1 with e|⟨a2,ts2,cs2,ps2,m2⟩
       ·trivial
       ·rw[hR2]at h' hf'
        show J3 ps (if pk a2=41 then _ else _)
        split
        ·intro hq;obtain⟨j,hjl,ho⟩:=J4 hf'.1 hq;have hb:m1<j/\m2<j:=by
          rcases ho with⟨a,_,_⟩|⟨_,b,c⟩|⟨a,_,_⟩|⟨a,_,_⟩
          ·simp only at a;rw[a]at hj;simp[au]at hj
          ·exact⟨b,c⟩
          ·simp only at a;rcases a with a|a<;>(rw[a]at hj;simp[au]at hj)
          ·simp only at a;rw[a]at hj;simp[au]at hj
         rcases h' with⟨_,e2⟩|e2
         ·subst e2;rcases h with⟨_,e1⟩|e1
          ·exact e1
          ·omega
         ·omega
        ·trivial
      ·trivial
   ·split
    ·refine tN ?_;unfold SS;rcases arg1 pk (dR pk (n+1)) (a+1) d ts with e|⟨a1,aF,m⟩
     ·trivial
     ·intro _;rfl
    ·refine tN ?_;unfold AV;rcases dR pk (n+1) a d ts with e|⟨a1,aF,m1⟩
     ·trivial
     ·show J3 ps (if pk a1=61 then _ else _)
      split
      ·rcases dR pk (n+1) (a1+1) d aF with e|⟨a2,ts2,m2⟩
       ·trivial
       ·intro _;rfl
      ·trivial
end
end aB
section
open Go.RowKit Go.Maps Go.WideMaps
open aB (Key put St)
def chk(s:ByteArray):Int×Nat:=if 100<s.size then(1,0)else aB.check (pk s) s.size
def ctx(ts:List Key)(cs:List (Int×Nat)):List (List UInt8):=cs.map (aB.dU (aB.texts ts))
theorem Wi(s:ByteArray):pk s=aB.bU s.data.toList:=by
 funext a;unfold pk aB.bU;by_cases h:a<s.size
 ·have h':a<s.data.toList.length:=by simpa using h
  rw[dif_pos h,ad6 h'];simp[am0]
 ·have h':¬a<s.data.toList.length:=by simpa using h
  rw[dif_neg h,List.getElem?_eq_none (by omega)]
theorem OW(s:ByteArray):aB.Vj 0 (aB.Gu (pk s) (s.size+1) 0 0 [] []) (OX s):=by
 have h:=aB.Ce (l:=s.data.toList) (s.size+1) 0 0 [] [] (ah2 _) (by simp) aB.Um (λc hc=>by cases hc);unfold OX;rw[Wi];exact h
theorem TN(s:ByteArray):aB.Gd s.data.toList (OX s):=by
 unfold OX;exact aB.IW _ _ ⟨λt ht=>(by cases ht),λt ht=>(by cases ht),List.Pairwise.nil⟩
theorem jr(s:ByteArray)(hs:s.size<=100)(h0:(chk s).1=0):∃ts cs ps,aB.gI (pk s) (s.size+1) 0 0 [] [] []=.ok (s.size,ts,cs,ps,ps.length-1)/\ts.length<=7/\cs.length<=4/\aB.Inv ts/\aB.jR ts cs/\
  OX s=⟨s.size,0,0,aB.texts ts,ctx ts cs⟩/\(∀t∈aB.texts ts,t.length<=100)/\(∀t∈ctx ts cs,t.length<=100)/\cs.Nodup/\aB.aQ ts.length cs.length ps/\0<ps.length/\ps.length<=100:=by
 have h:=OW s;have hg:=TN s;have hok:=aB.qA (pk:=pk s) (N:=s.size) (λa h=>bJ h) (s.size+1) 0 0 [] [] (by omega);have hf:=aB.uo (pk:=pk s) (N:=s.size) (λa h=>bJ h) (s.size+1) 0 0 [] [] [] (by omega) ⟨ap3,λi hi=>absurd hi (by simp)⟩;have hla:=aB.PO (pk:=pk s) (N:=s.size) (λa h=>bJ h) (s.size+1) 0 0 [] [] [] (by omega) ⟨ap3,λi hi=>absurd hi (by simp)⟩;have hop:=aB.qw (pk:=pk s) (N:=s.size) (λa h=>bJ h) (Vq s) (s.size+1) 0 0 [] [] [] (by omega) (by simp) (by simp) (by simp);have hls:=aB.jv (pk s) (s.size+1) 0 0 [] [] [];unfold chk at h0;rw[af2 (by omega)]at h0;unfold aB.check at h0;cases hR:aB.Gu (pk s) (s.size+1) 0 0 [] []with
 |error Ep=>
  obtain⟨E,p⟩:=Ep;rw[hR]at h h0;obtain⟨_,_,h3⟩:=h;exact absurd h0 h3
 |ok q=>
  obtain⟨a1,ts,cs⟩:=q;rw[hR]at h h0 hok;obtain⟨h1,h2,h3⟩:=h;obtain⟨_,p2,_⟩:=hok;simp only at h0;have ha:a1=s.size:=by
   by_cases ha:a1<s.size
   ·rw[af6 ha]at h0;simp at h0
   ·omega
  subst ha;have YV:¬(7<ts.length\/4<cs.length):=by
   intro hm;rw[af2 (by omega),af6 hm]at h0;simp at h0
  rw[h1]at hg;obtain⟨g1,g2,g3⟩:=hg;have hsz:s.data.toList.length=s.size:=by simp
  rw[hR]at hls;rcases hP:aB.gI (pk s) (s.size+1) 0 0 [] [] []with e|⟨b1,ts',cs',ps,m⟩
  ·rw[hP]at hls;cases hls
  ·rw[hP]at hls hf hla hop;cases hls;have hm:m=ps.length-1:=by
    rcases hla with⟨h,_⟩|h
    ·simp at h
    ·omega
   obtain⟨_,o2,_,_,_,o6,_⟩:=hop;simp at o6;refine⟨ts,cs,ps,by rw[hm],by omega,by omega,h2,h3,h1,λt ht=>by have:=g1 t ht;omega,λt ht=>by have:=g2 t ht;omega,?_,hf.1,?_,by omega⟩
   ·exact(List.pairwise_map.1 g3).imp (λh e=>h (ao1 _ e))
   ·have:=hf.2.1;omega
theorem Ui{ts:List Key}(h:aB.Inv ts)(hl:ts.length<=7):∀x∈ts,∃l,keyOf prog 76 (aS x)=some l:=by
 intro x hx;obtain⟨i,hi,rfl⟩:=ai0 hx;rcases h.key i hi with⟨h1,h2,h3,h4⟩|⟨h1,h2,h3⟩|⟨h1,h2,h3⟩
 ·exact MN _ (by omega) (by omega) (by omega)
 ·exact MN _ (by omega) (by omega) (by omega)
 ·exact MN _ (by omega) (by omega) (by omega)
theorem NR{ts:List Key}{cs:List (Int×Nat)}(h:aB.jR ts cs)(hl:ts.length<=7):∀x∈cs,∃l,keyOf prog 79 (iT x)=some l:=by
 intro x hx;obtain⟨h1,h2⟩:=h x hx;exact Uj _ (by omega) (by omega)
theorem Lu{nt nc:Nat}{ps:List Key}(h:aB.aQ nt nc ps)(h1:nt<=1000)(h2:nc<=1000)(h3:ps.length<=1000):∀x∈ps,∃l,keyOf prog 82 (aS x)=some l:=by
 intro x hx;obtain⟨i,hi,rfl⟩:=ai0 hx;obtain⟨b1,b2,b3⟩:=(h.ok i hi).bd h1 h2 (by omega);exact MO _ b1 b2 b3
end
namespace aB
def jn(c:Int)(a b:Bool):Bool:=if c=38 then a&&b else if c=124 then a||b else if c=62 then !a||b else a==b
structure fE(cs:List (Int×Nat))(ps:List Key):Prop where
 letter:∀q∈ps,q.1=80\/q.1=81->∃h:q.2.1<cs.length,cs[q.2.1].1=q.1
 has:∀c (h:c<cs.length),(cs[c].1,c,0)∈ps
def isAtom(c:Int):Bool:=decide (c=61\/c=80\/c=81)
def cnt(p:Int->Bool)(ps:List Key):Nat:=ps.countP λq=>p q.1
theorem zD(p:Int->Bool)(ps:List Key)(q:Key):cnt p (put ps q)<=cnt p ps+(if p q.1 then 1 else 0):=by
 unfold cnt put;split
 ·omega
 ·rw[List.countP_append];simp only[ap5,List.countP_nil,am5];exact ad5 _
def Ez(a:Nat)(cs:List (Int×Nat))(ps:List Key):RP->Prop
 |.error _=>True
 |.ok (a1,_,cs1,ps1,_)=>a<a1/\6*cnt au ps1+3+a<=6*cnt au ps+a1/\3*(cnt au ps1+cnt isAtom ps1)+a<=3*(cnt au ps+cnt isAtom ps)+a1/\(fE cs ps->fE cs1 ps1)
theorem fE.uV{cs:List (Int×Nat)}{ps:List Key}(h:fE cs ps){q:Key}(hq:¬(q.1=80\/q.1=81)):fE cs (put ps q):=by
 refine⟨λp hp hc=>?_,λc hc=>?_⟩
 ·unfold put at hp;split at hp
  ·exact h.letter p hp hc
  ·rcases ag9.1 hp with hp|hp
   ·exact h.letter p hp hc
   ·rw[ag0.1 hp]at hc;exact absurd hc hq
 ·unfold put;split
  ·exact h.has c hc
  ·exact ai5 _ (h.has c hc)
theorem fE.Lr{cs:List (Int×Nat)}{ps:List Key}(h:fE cs ps)(k:Int×Nat):fE (put cs k) (put ps (k.1,cs.idxOf k,0)):=by
 have hsub:∀c (hc:c<cs.length),∃h':c<(put cs k).length,(put cs k)[c]=cs[c]:=λc hc=>by
  unfold put;split
  ·exact⟨hc,rfl⟩
  ·exact⟨by simp;omega,aj9 hc⟩
 have hidx:∃h':cs.idxOf k<(put cs k).length,(put cs k)[cs.idxOf k]=k:=by
  unfold put;split
  ·rename_i hc;have hm:k∈cs:=(by simpa using hc);exact⟨ak6.2 hm,ai2 _⟩
  ·rename_i hc;have hm:k∉cs:=(by simpa using hc);have e:=ai9 hm;refine⟨by rw[e];simp,?_⟩;simp[e]
 have hpm:∀p,p∈put ps (k.1,cs.idxOf k,0)↔p∈ps\/p=(k.1,cs.idxOf k,0):=λp=>by
  unfold put;split
  ·rename_i hc;constructor
   ·exact Or.inl
   ·rintro(h1|rfl)
    ·exact h1
    ·simpa using hc
  ·simp
 refine⟨λq hq hc=>?_,λc hc=>?_⟩
 ·rcases(hpm q).1 hq with hq|rfl
  ·obtain⟨h1,h2⟩:=h.letter q hq hc;obtain⟨h3,h4⟩:=hsub _ h1;exact⟨h3,by rw[h4];exact h2⟩
  ·obtain⟨h1,h2⟩:=hidx;exact⟨h1,by simp only;rw[h2]⟩
 ·by_cases hlt:c<cs.length
  ·obtain⟨h3,h4⟩:=hsub c hlt;rw[h4];exact(hpm _).2 (Or.inl (h.has c hlt))
  ·have hn:¬cs.contains k=true:=by
    intro hc2;unfold put at hc;rw[af6 hc2]at hc;exact hlt hc
   have hm:k∉cs:=(by simpa using hn);have hle:c=cs.length:=by
    unfold put at hc;rw[af2 hn]at hc;simp at hc;omega
   have e:=ai9 hm;obtain⟨h1,h2⟩:=hidx;have e2:c=cs.idxOf k:=(by omega);subst e2;refine(hpm _).2 (Or.inr ?_);rw[h2]
section
variable {pk:Nat->Int} {N:Nat}
theorem sO{a a1:Nat}{cs cs1:List (Int×Nat)}{ps ps1 aF:List Key}{q:Key}(h1:a<a1)
 (hj:6*(cnt au ps1+(if au q.1 then 1 else 0))+3+a<=6*cnt au ps+a1)
 (hs:3*(cnt au ps1+(if au q.1 then 1 else 0)+(cnt isAtom ps1+(if isAtom q.1 then 1 else 0)))+a<=3*(cnt au ps+cnt isAtom ps)+a1)
 (hk:fE cs ps->fE cs1 (put ps1 q)):Ez a cs ps (rU (.ok (a1,aF,cs1,ps1,q))):=by
 have e1:=zD au ps1 q;have e2:=zD isAtom ps1 q;exact⟨h1,by omega,by omega,hk⟩
theorem OB(hpk:∀a,pk a≠0->a<N):∀(n a d:Nat) (ts:List Key) (cs:List (Int×Nat)) (ps:List Key),a<=N->Ez a cs ps (gI pk n a d ts cs ps):=by
 intro n
 induction n with
 |zero=>intro a d ts cs ps _;trivial
 |succ n ih=>
  intro a d ts cs ps ha;unfold gI;split
  ·rename_i e;have hl:=hpk a (by omega);have h:=ih (a+1) d ts cs ps (by omega);rcases hR:gI pk n (a+1) d ts cs ps with e|⟨a1,aF,cs1,ps1,m⟩
   ·trivial
   ·rw[hR]at h;obtain⟨h1,h2,h3,h4⟩:=h;refine sO (by omega) (by simp[au];omega) (by simp[au,isAtom];omega) (λhk=>(h4 hk).uV (by simp))
  ·split
   ·rename_i e;have hl:=hpk a (by omega);unfold JL;split
    ·trivial
    ·have h:=ih (a+1) (d+1) ts cs ps (by omega);have hF:=qA hpk n (a+1) (d+1) ts cs (by omega);rw[<-jv pk n (a+1) (d+1) ts cs ps]at hF;rcases hR:gI pk n (a+1) (d+1) ts cs ps with e|⟨a1,aF,cs1,ps1,m1⟩
     ·trivial
     ·rw[hR]at h hF;obtain⟨h1,h2,h3,h4⟩:=h;obtain⟨g1,g2,_⟩:=hF
      show Ez a cs ps (rU (if au (pk a1)=true then _ else _))
      split
      ·rename_i hj;have hl1:=hpk a1 (λe=>by rw[e]at hj;simp[au]at hj);have h':=ih (a1+1) (d+1) aF cs1 ps1 (by omega);rcases hR2:gI pk n (a1+1) (d+1) aF cs1 ps1 with e|⟨a2,ts2,cs2,ps2,m2⟩
       ·trivial
       ·rw[hR2]at h';obtain⟨k1,k2,k3,k4⟩:=h'
        show Ez a cs ps (rU (if pk a2=41 then _ else _))
        split
        ·have hna:isAtom (pk a1)=false:=by
          simp[au]at hj;simp[isAtom];omega
         have hn8:¬(pk a1=80\/pk a1=81):=by
          simp[au]at hj;omega
         exact sO (by omega) (by simp only[hj,al0];omega) (by simp only[hj,hna,al0];simp;omega) (λhk=>(k4 (h4 hk)).uV hn8)
        ·trivial
      ·trivial
   ·split
    ·rename_i e8;have hl:=hpk a (by omega);have h':=iZ hpk (rec:=dR pk (n+1)) (a:=a+1) (d:=d) (ts:=ts) (by omega) (λh40=>dH hpk _ _ _ _ (by have:=hpk (a+1) (by omega);omega));have h4:∀a1 aF m,arg1 pk (dR pk (n+1)) (a+1) d ts=.ok (a1,aF,m)->a+4<=a1:=by
      intro a1 aF m hA;unfold arg1 at hA;split at hA
      ·rename_i h40;have hl2:=hpk (a+1) (by omega);have h5:=dH hpk (n+1) (a+1+1) (d+1) ts (by omega);split at hA
       ·cases hA
       ·rcases hR3:dR pk (n+1) (a+1+1) (d+1) ts with e|⟨b1,us1,m3⟩
        ·rw[hR3]at hA;cases hA
        ·rw[hR3]at hA h5;obtain⟨p1,_⟩:=h5;simp only at hA;split at hA
         ·cases hA;omega
         ·cases hA
      ·cases hA
     unfold SS;rcases hR:arg1 pk (dR pk (n+1)) (a+1) d ts with e|⟨a1,aF,m⟩
     ·trivial
     ·have h5:=h4 _ _ _ hR;have hnj:au (pk a)=false:=by
       rcases e8 with e|e<;>(rw[e];decide)
      have hat:isAtom (pk a)=true:=by
       rcases e8 with e|e<;>(rw[e];decide)
      exact sO (by omega) (by simp only[hnj];simp;omega) (by simp only[hnj,hat,al0];simp;omega) (λhk=>hk.Lr _)
    ·have h:=dH hpk (n+1) a d ts ha;unfold AV;rcases hR:dR pk (n+1) a d ts with e|⟨a1,aF,m1⟩
     ·trivial
     ·rw[hR]at h;obtain⟨p1,p2,p3,p4,p5⟩:=h
      show Ez a cs ps (rU (if pk a1=61 then _ else _))
      split
      ·rename_i h61;have hl1:=hpk a1 (by omega);have h2:=dH hpk (n+1) (a1+1) d aF (by omega);rcases hR2:dR pk (n+1) (a1+1) d aF with e|⟨a2,ts2,m2⟩
       ·trivial
       ·rw[hR2]at h2;obtain⟨q1,q2,q3,q4,q5⟩:=h2;exact sO (by omega) (by simp[au];omega) (by simp[au,isAtom];omega) (λhk=>hk.uV (by simp))
      ·trivial
end
end aB
end Go.Proofs.YthcppbmkacbbiabGreat
