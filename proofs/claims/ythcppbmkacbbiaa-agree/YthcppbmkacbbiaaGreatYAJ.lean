import Derived.Test.YthcppbmkacbbiaaGreatYAI
set_option linter.unusedSimpArgs false
namespace Go.Proofs.YthcppbmkacbbiaaGreat
open Go.Proofs.Tryz
theorem jq0{α:Type}{l:List α}{i:Nat}(h:i<l.toArray.size):l.toArray[i]=l[i]'(by simpa using h):=List.getElem_toArray h
theorem jq1{α:Type}{a:α}{l:List α}(h:0<(a::l).length):(a::l)[0]=a:=rfl
theorem jq2{α:Type}{a:α}{l:List α}{i:Nat}(h:i+1<(a::l).length):(a::l)[i+1]=l[i]'(by simpa using h):=rfl
theorem jq3(l:List Value)(d:List Deferred)(k:Nat)(v:Value):Act.put ⟨l.toArray,d⟩ (some k) v=⟨(l.set k v).toArray,d⟩:=by simp[Act.put]
theorem jq4{α:Type}{a b:α}{l:List α}:(a::l).set 0 b=b::l:=rfl
theorem jq5{α:Type}{a b:α}{l:List α}{i:Nat}:(a::l).set (i+1) b=a::l.set i b:=rfl
theorem aC:(∀{α:Type} {l:List α} {i:Nat} (h:i<l.toArray.size),l.toArray[i]=l[i]'(by simpa using h))/\(∀{α:Type} {a:α} {l:List α} (h:0<(a::l).length),(a::l)[0]=a)/\(∀{α:Type} {a:α} {l:List α} {i:Nat} (h:i+1<(a::l).length),(a::l)[i+1]=l[i]'(by simpa using h))/\(∀(l:List Value) (d:List Deferred) (k:Nat) (v:Value),Act.put ⟨l.toArray,d⟩ (some k) v=⟨(l.set k v).toArray,d⟩)/\(∀{α:Type} {a b:α} {l:List α},(a::l).set 0 b=b::l)/\(∀{α:Type} {a b:α} {l:List α} {i:Nat},(a::l).set (i+1) b=a::l.set i b):=⟨jq0,jq1,jq2,jq3,jq4,jq5⟩
section
variable {P:Program} {ops:Array Oper} {Q:Exit->Act->World->Prop} {md:Region.Mode} {S:World->Prop} {z fuel:Nat} {listed:Array Bool} {a:Act} {w:World} {oi:Oper}
theorem tH(i:Nat)(v:Value)(hy:∀w,S w->(execOp a.eval oi).run P w=.ok (.value v) w)(hS:S w)(h:wpAnyH P md ops Q S fuel (listed.setIfInBounds i true) (a.put oi.dst v) w)
 (hi:ops[i]?=some oi:=by rfl)(hs:Region.noSelect ops=true:=by kernel_rfl)(hf:Region.free md ops listed i=true:=by kernel_rfl)(hr:(Region.ready md ops listed).contains i=true:=by kernel_rfl)
 (hQ:∀c a w,Q (.panic c) (a.put oi.dst v) w->Q (.panic c) a w:=by first|exact λ_ _ _ h=>h|exact λ_ _ _ h=>(by cases h.1))(hw:Region.wanted oi (yielded ops a.tmps)=true:=by rfl):wpAnyH P md ops Q S (fuel+1) listed a w:=
 wpAnyH_take hi hs hf hr hQ (Or.inl ⟨hw,hy⟩) hS h
theorem tL(i:Nat)(v:Value)(hy:∀w,S w->(execOp a.eval oi).run P w=.ok (.value v) w)(hS:S w)(h:wpAnyL P md ops Q S z fuel (listed.setIfInBounds i true) (a.put oi.dst v) w)
 (hi:ops[i]?=some oi:=by rfl)(hz:waits md ops z i=true:=by kernel_rfl)(hs:Region.noSelect ops=true:=by kernel_rfl)(hf:Region.free md ops listed i=true:=by kernel_rfl)(hr:(Region.ready md ops listed).contains i=true:=by kernel_rfl)
 (hQ:∀c a w,Q (.panic c) (a.put oi.dst v) w->Q (.panic c) a w:=by first|exact λ_ _ _ h=>h|exact λ_ _ _ h=>(by cases h.1))(hw:Region.wanted oi (yielded ops a.tmps)=true:=by rfl):wpAnyL P md ops Q S z (fuel+1) listed a w:=
 DI hi hz hs hf hr hQ hw hy hS h
theorem oH(i:Nat)(h:∀K':Act->World->Prop,Shut (∀a w,S w->wpAnyH P md ops Q S fuel (listed.setIfInBounds i true) a w->K' a w)->Oper.wp P oi a w K' Q)
 (hr:Region.ready md ops listed=[i]:=by kernel_rfl)(ho:ops[i]?=some oi:=by rfl)(hw:Region.wanted oi (yielded ops a.tmps)=true:=by rfl):wpAnyH P md ops Q S (fuel+1) listed a w:=
 FT hr ho hw h
theorem oL(i:Nat)(h:∀K':Act->World->Prop,Shut (∀a w,(i≠z->S w)->wpAnyL P md ops Q S z fuel (listed.setIfInBounds i true) a w->K' a w)->Oper.wp P oi a w K' Q)
 (hr:Region.ready md ops listed=[i]:=by kernel_rfl)(ho:ops[i]?=some oi:=by rfl)(hw:Region.wanted oi (yielded ops a.tmps)=true:=by rfl):wpAnyL P md ops Q S z (fuel+1) listed a w:=
 FQ hr ho hw h
theorem oO{i:Nat}{K:Act->World->Prop}(h:∀K':Act->World->Prop,Shut (∀a w,K a w->K' a w)->Oper.wp P oi a w K' Q)(ho:ops[i]?=some oi:=by rfl)(hw:Region.wanted oi (yielded ops a.tmps)=true:=by rfl):wpOp P ops Q i K a w:=by
 refine wpOp_step ho (λK' hK=>?_);rw[ac8 hw];exact h K' hK
def qM(P:Program)(md:Region.Mode)(ops:Array Oper)(Q:Exit->Act->World->Prop)(S:World->Prop)(fuel:Nat)(listed:Array Bool)(i:Nat)(a:Act)(w:World):Prop:=
 wpOp P ops Q i (λa' w'=>S w'/\wpAnyH P md ops Q S fuel (listed.setIfInBounds i true) a' w') a w
theorem a1(i:Nat)(h:qM P md ops Q S fuel listed i a w)(hr:Region.ready md ops listed=[i]:=by kernel_rfl):wpAnyH P md ops Q S (fuel+1) listed a w:=
 wpAnyH_all hr (by simp) (λk hk=>by simp only[af4,ai2,am6]at hk;subst hk;exact h)
theorem a2(i j:Nat)(h:qM P md ops Q S fuel listed i a w)(h2:qM P md ops Q S fuel listed j a w)(hr:Region.ready md ops listed=[i,j]:=by kernel_rfl):wpAnyH P md ops Q S (fuel+1) listed a w:=
 wpAnyH_all hr (by simp) (λk hk=>by simp only[af4,ai2,am6]at hk;rcases hk with rfl|rfl<;>assumption)
theorem a3(i j l:Nat)(h:qM P md ops Q S fuel listed i a w)(h2:qM P md ops Q S fuel listed j a w)(h3:qM P md ops Q S fuel listed l a w)(hr:Region.ready md ops listed=[i,j,l]:=by kernel_rfl):wpAnyH P md ops Q S (fuel+1) listed a w:=
 wpAnyH_all hr (by simp) (λk hk=>by simp only[af4,ai2,am6]at hk;rcases hk with rfl|rfl|rfl<;>assumption)
theorem a4(i j l m:Nat)(h:qM P md ops Q S fuel listed i a w)(h2:qM P md ops Q S fuel listed j a w)(h3:qM P md ops Q S fuel listed l a w)(h4:qM P md ops Q S fuel listed m a w)(hr:Region.ready md ops listed=[i,j,l,m]:=by kernel_rfl):wpAnyH P md ops Q S (fuel+1) listed a w:=
 wpAnyH_all hr (by simp) (λk hk=>by simp only[af4,ai2,am6]at hk;rcases hk with rfl|rfl|rfl|rfl<;>assumption)
end
section
open Go.RowKit
open aB (St put)
def st0:St:=⟨0,0,0,[],[]⟩
def NZ(s:ByteArray):St:=aB.eG s.data.toList (pk s) (s.size+1) st0
end
namespace aB
def dM(nt nc i:Nat)(q:Key):Prop:=
 (q.1=33/\q.2.1<i/\q.2.2=0)\/(au q.1=true/\q.2.1<i/\q.2.2<i)\/((q.1=80\/q.1=81)/\q.2.1<nc/\q.2.2=0)\/(q.1=61/\q.2.1<nt/\q.2.2<nt)
theorem dM.more{nt nc i nt' nc' i':Nat}{q:Key}(h:dM nt nc i q)(h1:nt<=nt')(h2:nc<=nc')(h3:i<=i'):dM nt' nc' i' q:=by
 unfold dM at *;rcases h with⟨a,b,c⟩|⟨a,b,c⟩|⟨a,b,c⟩|⟨a,b,c⟩
 ·exact Or.inl ⟨a,by omega,c⟩
 ·exact Or.inr (Or.inl ⟨a,by omega,by omega⟩)
 ·exact Or.inr (Or.inr (Or.inl ⟨a,by omega,c⟩))
 ·exact Or.inr (Or.inr (Or.inr ⟨a,by omega,by omega⟩))
theorem dM.bd{nt nc i:Nat}{q:Key}(h:dM nt nc i q)(h1:nt<=1000)(h2:nc<=1000)(h3:i<=1000):(0<=q.1/\q.1<=255)/\q.2.1<=1000/\q.2.2<=1000:=by
 unfold dM at h;rcases h with⟨a,b,c⟩|⟨a,b,c⟩|⟨a,b,c⟩|⟨a,b,c⟩
 ·omega
 ·simp[au]at a;omega
 ·omega
 ·omega
structure aT(nt nc:Nat)(ps:List Key):Prop where
 nd:ps.Nodup
 ok:∀i (h:i<ps.length),dM nt nc i ps[i]
theorem aT.more{nt nc nt' nc':Nat}{ps:List Key}(h:aT nt nc ps)(h1:nt<=nt')(h2:nc<=nc'):aT nt' nc' ps:=⟨h.nd,λi hi=>(h.ok i hi).more h1 h2 (SH _)⟩
theorem aT.put{nt nc:Nat}{ps:List Key}(h:aT nt nc ps){q:Key}(hq:dM nt nc ps.length q):aT nt nc (put ps q):=by
 refine⟨qh q h.nd,?_⟩;unfold aB.put;split
 ·exact h.ok
 ·intro i hi;by_cases hlt:i<ps.length
  ·rw[ah2 hlt];exact h.ok i hlt
  ·have e:i=ps.length:=(by simp at hi;omega);subst e;rw[an1 (SH _)];simpa using hq
def UD(ts:List Key)(cs:List (Int×Nat))(ps:List Key):RP->Prop
 |.error _=>True
 |.ok (_,aF,cs1,ps1,m)=>aT aF.length cs1.length ps1/\m<ps1.length/\ts.length<=aF.length/\cs.length<=cs1.length/\ps <+: ps1
def Jy(ts:List Key)(cs:List (Int×Nat))(ps:List Key):RQ->Prop
 |.error _=>True
 |.ok (_,aF,cs1,ps1,q)=>aT aF.length cs1.length ps1/\dM aF.length cs1.length ps1.length q/\ts.length<=aF.length/\cs.length<=cs1.length/\ps <+: ps1
section
variable {pk:Nat->Int} {N:Nat}
theorem tZ{ts:List Key}{cs:List (Int×Nat)}{ps:List Key}{r:RQ}(h:Jy ts cs ps r):UD ts cs ps (rG r):=by
 rcases r with e|⟨a1,aF,cs1,ps1,q⟩
 ·trivial
 ·obtain⟨h1,h2,h3,h4,h5⟩:=h;exact⟨h1.put h2,jr _ _,h3,h4,h5.trans (ng q)⟩
theorem kV(hpk:∀a,pk a≠0->a<N):∀(n a d:Nat) (ts:List Key) (cs:List (Int×Nat)) (ps:List Key),a<=N->aT ts.length cs.length ps->UD ts cs ps (iQ pk n a d ts cs ps):=by
 intro n
 induction n with
 |zero=>intro a d ts cs ps _ _;trivial
 |succ n ih=>
  intro a d ts cs ps ha hi;unfold iQ;split
  ·rename_i e;have hl:=hpk a (by omega);have h:=ih (a+1) d ts cs ps (by omega) hi;refine tZ ?_;rcases hR:iQ pk n (a+1) d ts cs ps with e|⟨a1,aF,cs1,ps1,m⟩
   ·trivial
   ·rw[hR]at h;obtain⟨h1,h2,h3,h4,h5⟩:=h;exact⟨h1,Or.inl ⟨rfl,h2,rfl⟩,h3,h4,h5⟩
  ·split
   ·rename_i e;have hl:=hpk a (by omega);refine tZ ?_;unfold Ku;split
    ·trivial
    ·have h:=ih (a+1) (d+1) ts cs ps (by omega) hi;have hF:=ni hpk n (a+1) (d+1) ts cs (by omega);rw[<-kL pk n (a+1) (d+1) ts cs ps]at hF;rcases hR:iQ pk n (a+1) (d+1) ts cs ps with e|⟨a1,aF,cs1,ps1,m1⟩
     ·trivial
     ·rw[hR]at h hF;obtain⟨h1,h2,h3,h4,h5⟩:=h;obtain⟨g1,g2,_⟩:=hF
      show Jy ts cs ps (if au (pk a1)=true then _ else _)
      split
      ·rename_i hj;have hl1:=hpk a1 (λe=>by rw[e]at hj;simp[au]at hj);have h':=ih (a1+1) (d+1) aF cs1 ps1 (by omega) h1;rcases hR2:iQ pk n (a1+1) (d+1) aF cs1 ps1 with e|⟨a2,ts2,cs2,ps2,m2⟩
       ·trivial
       ·rw[hR2]at h';obtain⟨k1,k2,k3,k4,k5⟩:=h'
        show Jy ts cs ps (if pk a2=41 then _ else _)
        split
        ·have:=k5.length_le;exact⟨k1,Or.inr (Or.inl ⟨hj,by show m1<ps2.length;omega,k2⟩),by omega,by omega,h5.trans k5⟩
        ·trivial
      ·trivial
   ·split
    ·rename_i e8;have hl:=hpk a (by omega);refine tZ ?_;have h':=iH hpk (rec:=eF pk (n+1)) (a:=a+1) (d:=d) (ts:=ts) (by omega) (λh40=>cZ hpk _ _ _ _ (by have:=hpk (a+1) (by omega);omega));unfold Rz;rcases hR:arg1 pk (eF pk (n+1)) (a+1) d ts with e|⟨a1,aF,m⟩
     ·trivial
     ·rw[hR]at h';obtain⟨p1,p2,p3,p4,p5⟩:=h';have q:=fQ cs (pk a,m);refine⟨hi.more p3 q.1,Or.inr (Or.inr (Or.inl ⟨e8,jr _ _,rfl⟩)),p3,q.1,ai5 _⟩
    ·refine tZ ?_;have h:=cZ hpk (n+1) a d ts ha;unfold BJ;rcases hR:eF pk (n+1) a d ts with e|⟨a1,aF,m1⟩
     ·trivial
     ·rw[hR]at h;obtain⟨p1,p2,p3,p4,p5⟩:=h
      show Jy ts cs ps (if pk a1=61 then _ else _)
      split
      ·rename_i h61;have hl1:=hpk a1 (by omega);have h2:=cZ hpk (n+1) (a1+1) d aF (by omega);rcases hR2:eF pk (n+1) (a1+1) d aF with e|⟨a2,ts2,m2⟩
       ·trivial
       ·rw[hR2]at h2;obtain⟨q1,q2,q3,q4,q5⟩:=h2;exact⟨hi.more (by omega) (SH _),Or.inr (Or.inr (Or.inr ⟨rfl,by show m1<ts2.length;omega,q5⟩)),by omega,SH _,ai5 _⟩
      ·trivial
def Ul(ps:List Key):RP->Prop
 |.error _=>True
 |.ok (_,_,_,ps1,m)=>(m<ps.length/\ps1=ps)\/m+1=ps1.length
def Jl(ps:List Key):RQ->Prop
 |.error _=>True
 |.ok (_,_,_,ps1,q)=>q∈ps1->ps1=ps
theorem sW{ps:List Key}{r:RQ}(h:Jl ps r):Ul ps (rG r):=by
 rcases r with e|⟨a1,aF,cs1,ps1,q⟩
 ·trivial
 ·by_cases hq:q∈ps1
  ·have e:=h hq;subst e;refine Or.inl ⟨af5 hq,?_⟩;unfold aB.put;rw[ac8 (by simpa using hq)]
  ·refine Or.inr ?_;unfold aB.put;rw[ac5 (by simpa using hq),ag5 hq];simp
theorem Jm{nt nc:Nat}{ps:List Key}(h:aT nt nc ps){q:Key}(hq:q∈ps):∃j,j<ps.length/\dM nt nc j q:=by
 obtain⟨j,hj,e⟩:=af7 hq;exact⟨j,hj,by rw[<-e];exact h.ok j hj⟩
theorem OG(hpk:∀a,pk a≠0->a<N):∀(n a d:Nat) (ts:List Key) (cs:List (Int×Nat)) (ps:List Key),a<=N->aT ts.length cs.length ps->Ul ps (iQ pk n a d ts cs ps):=by
 intro n
 induction n with
 |zero=>intro a d ts cs ps _ _;trivial
 |succ n ih=>
  intro a d ts cs ps ha hi;unfold iQ;split
  ·rename_i e;have hl:=hpk a (by omega);have h:=ih (a+1) d ts cs ps (by omega) hi;have hf:=kV hpk n (a+1) d ts cs ps (by omega) hi;refine sW ?_;rcases hR:iQ pk n (a+1) d ts cs ps with e|⟨a1,aF,cs1,ps1,m⟩
   ·trivial
   ·rw[hR]at h hf;intro hq;obtain⟨j,hj,ho⟩:=Jm hf.1 hq;rcases h with⟨_,h2⟩|h2
    ·exact h2
    ·rcases ho with⟨_,b,_⟩|⟨a,_,_⟩|⟨a,_,_⟩|⟨a,_,_⟩
     ·simp only at b;omega
     ·simp[au]at a
     ·simp at a
     ·simp at a
  ·split
   ·rename_i e;have hl:=hpk a (by omega);refine sW ?_;unfold Ku;split
    ·trivial
    ·have h:=ih (a+1) (d+1) ts cs ps (by omega) hi;have hf:=kV hpk n (a+1) (d+1) ts cs ps (by omega) hi;have hF:=ni hpk n (a+1) (d+1) ts cs (by omega);rw[<-kL pk n (a+1) (d+1) ts cs ps]at hF;rcases hR:iQ pk n (a+1) (d+1) ts cs ps with e|⟨a1,aF,cs1,ps1,m1⟩
     ·trivial
     ·rw[hR]at h hF hf;obtain⟨g1,g2,_⟩:=hF
      show Jl ps (if au (pk a1)=true then _ else _)
      split
      ·rename_i hj;have hl1:=hpk a1 (λe=>by rw[e]at hj;simp[au]at hj);have h':=ih (a1+1) (d+1) aF cs1 ps1 (by omega) hf.1;have hf':=kV hpk n (a1+1) (d+1) aF cs1 ps1 (by omega) hf.1;rcases hR2:iQ pk n (a1+1) (d+1) aF cs1 ps1 with e|⟨a2,ts2,cs2,ps2,m2⟩
       ·trivial
       ·rw[hR2]at h' hf'
        show Jl ps (if pk a2=41 then _ else _)
        split
        ·intro hq;obtain⟨j,hjl,ho⟩:=Jm hf'.1 hq;have hb:m1<j/\m2<j:=by
          rcases ho with⟨a,_,_⟩|⟨_,b,c⟩|⟨a,_,_⟩|⟨a,_,_⟩
          ·simp only at a;rw[a]at hj;simp[au]at hj
          ·exact⟨b,c⟩
          ·simp only at a;rcases a with a|a<;>(rw[a]at hj;simp[au]at hj)
          ·simp only at a;rw[a]at hj;simp[au]at hj
         rcases h' with⟨_,e2⟩|e2
         ·subst e2;rcases h with⟨_,e1⟩|e1
          ·exact e1
          ·omega
         ·omega
        ·trivial
      ·trivial
   ·split
    ·refine sW ?_;unfold Rz;rcases arg1 pk (eF pk (n+1)) (a+1) d ts with e|⟨a1,aF,m⟩
     ·trivial
     ·intro _;rfl
    ·refine sW ?_;unfold BJ;rcases eF pk (n+1) a d ts with e|⟨a1,aF,m1⟩
     ·trivial
     ·show Jl ps (if pk a1=61 then _ else _)
      split
      ·rcases eF pk (n+1) (a1+1) d aF with e|⟨a2,ts2,m2⟩
       ·trivial
       ·intro _;rfl
      ·trivial
end
end aB
section
open Go.RowKit Go.Maps Go.WideMaps
open aB (Key put St)
def chk(s:ByteArray):Int×Nat:=if 100<s.size then(1,0)else aB.check (pk s) s.size
def ctx(ts:List Key)(cs:List (Int×Nat)):List (List UInt8):=cs.map (aB.bM (aB.texts ts))
theorem U0(s:ByteArray):pk s=aB.aP s.data.toList:=by
 funext a;unfold pk aB.aP;by_cases h:a<s.size
 ·have h':a<s.data.toList.length:=by simpa using h
  rw[dif_pos h,SI h'];simp[an8]
 ·have h':¬a<s.data.toList.length:=by simpa using h
  rw[dif_neg h,List.getElem?_eq_none (by omega)]
theorem NY(s:ByteArray):aB.Ud 0 (aB.Gj (pk s) (s.size+1) 0 0 [] []) (NZ s):=by
 have h:=aB.sF (l:=s.data.toList) (s.size+1) 0 0 [] [] (ae7 _) (by simp) aB.SE (λc hc=>by cases hc);unfold NZ;rw[U0];exact h
theorem RD(s:ByteArray):aB.Gd s.data.toList (NZ s):=by
 unfold NZ;exact aB.Ia _ _ ⟨λt ht=>(by cases ht),λt ht=>(by cases ht),List.Pairwise.nil⟩
theorem jB(s:ByteArray)(hs:s.size<=100)(h0:(chk s).1=0):∃ts cs ps,aB.iQ (pk s) (s.size+1) 0 0 [] [] []=.ok (s.size,ts,cs,ps,ps.length-1)/\ts.length<=7/\cs.length<=4/\aB.Inv ts/\aB.jJ ts cs/\
  NZ s=⟨s.size,0,0,aB.texts ts,ctx ts cs⟩/\(∀t∈aB.texts ts,t.length<=100)/\(∀t∈ctx ts cs,t.length<=100)/\cs.Nodup/\aB.aT ts.length cs.length ps/\0<ps.length/\ps.length<=100:=by
 have h:=NY s;have hg:=RD s;have hok:=aB.ni (pk:=pk s) (N:=s.size) (λa h=>bQ h) (s.size+1) 0 0 [] [] (by omega);have hf:=aB.kV (pk:=pk s) (N:=s.size) (λa h=>bQ h) (s.size+1) 0 0 [] [] [] (by omega) ⟨am7,λi hi=>absurd hi (by simp)⟩;have hla:=aB.OG (pk:=pk s) (N:=s.size) (λa h=>bQ h) (s.size+1) 0 0 [] [] [] (by omega) ⟨am7,λi hi=>absurd hi (by simp)⟩;have hop:=aB.qj (pk:=pk s) (N:=s.size) (λa h=>bQ h) (Uk s) (s.size+1) 0 0 [] [] [] (by omega) (by simp) (by simp) (by simp);have hls:=aB.kL (pk s) (s.size+1) 0 0 [] [] [];unfold chk at h0;rw[ac5 (by omega)]at h0;unfold aB.check at h0;cases hR:aB.Gj (pk s) (s.size+1) 0 0 [] []with
 |error Ep=>
  obtain⟨E,p⟩:=Ep;rw[hR]at h h0;obtain⟨_,_,h3⟩:=h;exact absurd h0 h3
 |ok q=>
  obtain⟨a1,ts,cs⟩:=q;rw[hR]at h h0 hok;obtain⟨h1,h2,h3⟩:=h;obtain⟨_,p2,_⟩:=hok;simp only at h0;have ha:a1=s.size:=by
   by_cases ha:a1<s.size
   ·rw[ac8 ha]at h0;simp at h0
   ·omega
  subst ha;have XT:¬(7<ts.length\/4<cs.length):=by
   intro hm;rw[ac5 (by omega),ac8 hm]at h0;simp at h0
  rw[h1]at hg;obtain⟨g1,g2,g3⟩:=hg;have hsz:s.data.toList.length=s.size:=by simp
  rw[hR]at hls;rcases hP:aB.iQ (pk s) (s.size+1) 0 0 [] [] []with e|⟨b1,ts',cs',ps,m⟩
  ·rw[hP]at hls;cases hls
  ·rw[hP]at hls hf hla hop;cases hls;have hm:m=ps.length-1:=by
    rcases hla with⟨h,_⟩|h
    ·simp at h
    ·omega
   obtain⟨_,o2,_,_,_,o6,_⟩:=hop;simp at o6;refine⟨ts,cs,ps,by rw[hm],by omega,by omega,h2,h3,h1,λt ht=>by have:=g1 t ht;omega,λt ht=>by have:=g2 t ht;omega,?_,hf.1,?_,by omega⟩
   ·exact(List.pairwise_map.1 g3).imp (λh e=>h (al2 _ e))
   ·have:=hf.2.1;omega
theorem SA{ts:List Key}(h:aB.Inv ts)(hl:ts.length<=7):∀x∈ts,∃l,keyOf prog 87 (aS x)=some l:=by
 intro x hx;obtain⟨i,hi,rfl⟩:=af7 hx;rcases h.key i hi with⟨h1,h2,h3,h4⟩|⟨h1,h2,h3⟩|⟨h1,h2,h3⟩
 ·exact Ld _ (by omega) (by omega) (by omega)
 ·exact Ld _ (by omega) (by omega) (by omega)
 ·exact Ld _ (by omega) (by omega) (by omega)
theorem MR{ts:List Key}{cs:List (Int×Nat)}(h:aB.jJ ts cs)(hl:ts.length<=7):∀x∈cs,∃l,keyOf prog 90 (iW x)=some l:=by
 intro x hx;obtain⟨h1,h2⟩:=h x hx;exact SB _ (by omega) (by omega)
theorem Ky{nt nc:Nat}{ps:List Key}(h:aB.aT nt nc ps)(h1:nt<=1000)(h2:nc<=1000)(h3:ps.length<=1000):∀x∈ps,∃l,keyOf prog 93 (aS x)=some l:=by
 intro x hx;obtain⟨i,hi,rfl⟩:=af7 hx;obtain⟨b1,b2,b3⟩:=(h.ok i hi).bd h1 h2 (by omega);exact Le _ b1 b2 b3
end
namespace aB
def jn(c:Int)(a b:Bool):Bool:=if c=38 then a&&b else if c=124 then a||b else if c=62 then !a||b else a==b
def vF(l:List UInt8)(pk:Nat->Int)(cl:List Int)(hl:List Bool):Nat->St->Bool
 |0,_=>false
 |n+1,σ=>
  if jM pk σ 33=true then !(vF l pk cl hl n {σ with a:=σ.a+1})
  else if (jM pk σ 80||jM pk σ 81)=true then
   hl.getD ((jC pk (dR l pk (n+1) (iG pk {σ with a:=σ.a+1})).1).C.idxOf (cut l σ.a (jC pk (dR l pk (n+1) (iG pk {σ with a:=σ.a+1})).1).a)) false
  else if jM pk σ 40=true then
   jn (jD pk [38,124,62,45] (eG l pk n (iG pk σ))).2 (vF l pk cl hl n (iG pk σ)) (vF l pk cl hl n (jD pk [38,124,62,45] (eG l pk n (iG pk σ))).1)
  else decide (cl.getD (dR l pk (n+1) σ).2 0=cl.getD (dR l pk (n+1) (jD pk [61] (dR l pk (n+1) σ).1).1).2 0)
end aB
end Go.Proofs.YthcppbmkacbbiaaGreat
