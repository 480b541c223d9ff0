import Derived.Test.YthcppbmkacbbiaaGreatXAK
import Derived.Test.YthcppbmkacbbiaaGreatXAI
set_option linter.unusedSimpArgs false
namespace Go.Proofs.YthcppbmkacbbiaaGreat
open Go.Proofs.Tryz
section
open Go.RowKit
open aB (St put)
def st0:St:=⟨0,0,0,[],[]⟩
def NY(s:ByteArray):St:=aB.fJ s.data.toList (pk s) (s.size+1) st0
end
namespace aB
def dF(nt nc i:Nat)(q:Key):Prop:=
 (q.1=33/\q.2.1<i/\q.2.2=0)\/(au q.1=true/\q.2.1<i/\q.2.2<i)\/((q.1=80\/q.1=81)/\q.2.1<nc/\q.2.2=0)\/(q.1=61/\q.2.1<nt/\q.2.2<nt)
theorem dF.more{nt nc i nt' nc' i':Nat}{q:Key}(h:dF nt nc i q)(h1:nt<=nt')(h2:nc<=nc')(h3:i<=i'):dF nt' nc' i' q:=by
 unfold dF at *;rcases h with⟨a,b,c⟩|⟨a,b,c⟩|⟨a,b,c⟩|⟨a,b,c⟩
 ·exact Or.inl ⟨a,by omega,c⟩
 ·exact Or.inr (Or.inl ⟨a,by omega,by omega⟩)
 ·exact Or.inr (Or.inr (Or.inl ⟨a,by omega,c⟩))
 ·exact Or.inr (Or.inr (Or.inr ⟨a,by omega,by omega⟩))
theorem dF.bd{nt nc i:Nat}{q:Key}(h:dF nt nc i q)(h1:nt<=1000)(h2:nc<=1000)(h3:i<=1000):(0<=q.1/\q.1<=255)/\q.2.1<=1000/\q.2.2<=1000:=by
 unfold dF at h;rcases h with⟨a,b,c⟩|⟨a,b,c⟩|⟨a,b,c⟩|⟨a,b,c⟩
 ·omega
 ·simp[au]at a;omega
 ·omega
 ·omega
structure aO(nt nc:Nat)(ps:List Key):Prop where
 nd:ps.Nodup
 ok:∀i (h:i<ps.length),dF nt nc i ps[i]
theorem aO.more{nt nc nt' nc':Nat}{ps:List Key}(h:aO nt nc ps)(h1:nt<=nt')(h2:nc<=nc'):aO nt' nc' ps:=⟨h.nd,λi hi=>(h.ok i hi).more h1 h2 (ab3 _)⟩
theorem aO.put{nt nc:Nat}{ps:List Key}(h:aO nt nc ps){q:Key}(hq:dF nt nc ps.length q):aO nt nc (put ps q):=by
 refine⟨lN q h.nd,?_⟩;unfold aB.put;split
 ·exact h.ok
 ·intro i hi;by_cases hlt:i<ps.length
  ·rw[ae2 hlt];exact h.ok i hlt
  ·have e:i=ps.length:=(by simp at hi;omega);subst e;rw[ag4 (ab3 _)];simpa using hq
def UC(ts:List Key)(cs:List (Int×Nat))(ps:List Key):RP->Prop
 |.error _=>True
 |.ok (_,aF,cs1,ps1,m)=>aO aF.length cs1.length ps1/\m<ps1.length/\ts.length<=aF.length/\cs.length<=cs1.length/\ps <+: ps1
def Jv(ts:List Key)(cs:List (Int×Nat))(ps:List Key):RQ->Prop
 |.error _=>True
 |.ok (_,aF,cs1,ps1,q)=>aO aF.length cs1.length ps1/\dF aF.length cs1.length ps1.length q/\ts.length<=aF.length/\cs.length<=cs1.length/\ps <+: ps1
section
variable {pk:Nat->Int} {N:Nat}
theorem tu{ts:List Key}{cs:List (Int×Nat)}{ps:List Key}{r:RQ}(h:Jv ts cs ps r):UC ts cs ps (uO r):=by
 rcases r with e|⟨a1,aF,cs1,ps1,q⟩
 ·trivial
 ·obtain⟨h1,h2,h3,h4,h5⟩:=h;exact⟨h1.put h2,ji _ _,h3,h4,h5.trans (mW q)⟩
theorem kN(hpk:∀a,pk a≠0->a<N):∀(n a d:Nat) (ts:List Key) (cs:List (Int×Nat)) (ps:List Key),a<=N->aO ts.length cs.length ps->UC ts cs ps (iL pk n a d ts cs ps):=by
 intro n
 induction n with
 |zero=>intro a d ts cs ps _ _;trivial
 |succ n ih=>
  intro a d ts cs ps ha hi;unfold iL;split
  ·rename_i e;have hl:=hpk a (by omega);have h:=ih (a+1) d ts cs ps (by omega) hi;refine tu ?_;rcases hR:iL pk n (a+1) d ts cs ps with e|⟨a1,aF,cs1,ps1,m⟩
   ·trivial
   ·rw[hR]at h;obtain⟨h1,h2,h3,h4,h5⟩:=h;exact⟨h1,Or.inl ⟨rfl,h2,rfl⟩,h3,h4,h5⟩
  ·split
   ·rename_i e;have hl:=hpk a (by omega);refine tu ?_;unfold Kr;split
    ·trivial
    ·have h:=ih (a+1) (d+1) ts cs ps (by omega) hi;have hF:=qh hpk n (a+1) (d+1) ts cs (by omega);rw[<-kD pk n (a+1) (d+1) ts cs ps]at hF;rcases hR:iL pk n (a+1) (d+1) ts cs ps with e|⟨a1,aF,cs1,ps1,m1⟩
     ·trivial
     ·rw[hR]at h hF;obtain⟨h1,h2,h3,h4,h5⟩:=h;obtain⟨g1,g2,_⟩:=hF
      show Jv ts cs ps (if au (pk a1)=true then _ else _)
      split
      ·rename_i hj;have hl1:=hpk a1 (λe=>by rw[e]at hj;simp[au]at hj);have h':=ih (a1+1) (d+1) aF cs1 ps1 (by omega) h1;rcases hR2:iL pk n (a1+1) (d+1) aF cs1 ps1 with e|⟨a2,ts2,cs2,ps2,m2⟩
       ·trivial
       ·rw[hR2]at h';obtain⟨k1,k2,k3,k4,k5⟩:=h'
        show Jv ts cs ps (if pk a2=41 then _ else _)
        split
        ·have:=k5.length_le;exact⟨k1,Or.inr (Or.inl ⟨hj,by show m1<ps2.length;omega,k2⟩),by omega,by omega,h5.trans k5⟩
        ·trivial
      ·trivial
   ·split
    ·rename_i e8;have hl:=hpk a (by omega);refine tu ?_;have h':=iV hpk (rec:=dO pk (n+1)) (a:=a+1) (d:=d) (ts:=ts) (by omega) (λh40=>bQ hpk _ _ _ _ (by have:=hpk (a+1) (by omega);omega));unfold RD;rcases hR:arg1 pk (dO pk (n+1)) (a+1) d ts with e|⟨a1,aF,m⟩
     ·trivial
     ·rw[hR]at h';obtain⟨p1,p2,p3,p4,p5⟩:=h';have q:=fM cs (pk a,m);refine⟨hi.more p3 q.1,Or.inr (Or.inr (Or.inl ⟨e8,ji _ _,rfl⟩)),p3,q.1,ah5 _⟩
    ·refine tu ?_;have h:=bQ hpk (n+1) a d ts ha;unfold BA;rcases hR:dO pk (n+1) a d ts with e|⟨a1,aF,m1⟩
     ·trivial
     ·rw[hR]at h;obtain⟨p1,p2,p3,p4,p5⟩:=h
      show Jv ts cs ps (if pk a1=61 then _ else _)
      split
      ·rename_i h61;have hl1:=hpk a1 (by omega);have h2:=bQ hpk (n+1) (a1+1) d aF (by omega);rcases hR2:dO pk (n+1) (a1+1) d aF with e|⟨a2,ts2,m2⟩
       ·trivial
       ·rw[hR2]at h2;obtain⟨q1,q2,q3,q4,q5⟩:=h2;exact⟨hi.more (by omega) (ab3 _),Or.inr (Or.inr (Or.inr ⟨rfl,by show m1<ts2.length;omega,q5⟩)),by omega,ab3 _,ah5 _⟩
      ·trivial
def Ui(ps:List Key):RP->Prop
 |.error _=>True
 |.ok (_,_,_,ps1,m)=>(m<ps.length/\ps1=ps)\/m+1=ps1.length
def Jj(ps:List Key):RQ->Prop
 |.error _=>True
 |.ok (_,_,_,ps1,q)=>q∈ps1->ps1=ps
theorem sJ{ps:List Key}{r:RQ}(h:Jj ps r):Ui ps (uO r):=by
 rcases r with e|⟨a1,aF,cs1,ps1,q⟩
 ·trivial
 ·by_cases hq:q∈ps1
  ·have e:=h hq;subst e;refine Or.inl ⟨ae7 hq,?_⟩;unfold aB.put;rw[ad3 (by simpa using hq)]
  ·refine Or.inr ?_;unfold aB.put;rw[ac2 (by simpa using hq),ag0 hq];simp
theorem Jm{nt nc:Nat}{ps:List Key}(h:aO nt nc ps){q:Key}(hq:q∈ps):∃j,j<ps.length/\dF nt nc j q:=by
 obtain⟨j,hj,e⟩:=ag2 hq;exact⟨j,hj,by rw[<-e];exact h.ok j hj⟩
theorem OG(hpk:∀a,pk a≠0->a<N):∀(n a d:Nat) (ts:List Key) (cs:List (Int×Nat)) (ps:List Key),a<=N->aO ts.length cs.length ps->Ui ps (iL pk n a d ts cs ps):=by
 intro n
 induction n with
 |zero=>intro a d ts cs ps _ _;trivial
 |succ n ih=>
  intro a d ts cs ps ha hi;unfold iL;split
  ·rename_i e;have hl:=hpk a (by omega);have h:=ih (a+1) d ts cs ps (by omega) hi;have hf:=kN hpk n (a+1) d ts cs ps (by omega) hi;refine sJ ?_;rcases hR:iL pk n (a+1) d ts cs ps with e|⟨a1,aF,cs1,ps1,m⟩
   ·trivial
   ·rw[hR]at h hf;intro hq;obtain⟨j,hj,ho⟩:=Jm hf.1 hq;rcases h with⟨_,h2⟩|h2
    ·exact h2
    ·rcases ho with⟨_,b,_⟩|⟨a,_,_⟩|⟨a,_,_⟩|⟨a,_,_⟩
     ·simp only at b;omega
     ·simp[au]at a
     ·simp at a
     ·simp at a
  ·split
   ·rename_i e;have hl:=hpk a (by omega);refine sJ ?_;unfold Kr;split
    ·trivial
    ·have h:=ih (a+1) (d+1) ts cs ps (by omega) hi;have hf:=kN hpk n (a+1) (d+1) ts cs ps (by omega) hi;have hF:=qh hpk n (a+1) (d+1) ts cs (by omega);rw[<-kD pk n (a+1) (d+1) ts cs ps]at hF;rcases hR:iL pk n (a+1) (d+1) ts cs ps with e|⟨a1,aF,cs1,ps1,m1⟩
     ·trivial
     ·rw[hR]at h hF hf;obtain⟨g1,g2,_⟩:=hF
      show Jj ps (if au (pk a1)=true then _ else _)
      split
      ·rename_i hj;have hl1:=hpk a1 (λe=>by rw[e]at hj;simp[au]at hj);have h':=ih (a1+1) (d+1) aF cs1 ps1 (by omega) hf.1;have hf':=kN hpk n (a1+1) (d+1) aF cs1 ps1 (by omega) hf.1;rcases hR2:iL pk n (a1+1) (d+1) aF cs1 ps1 with e|⟨a2,ts2,cs2,ps2,m2⟩
       ·trivial
       ·rw[hR2]at h' hf'
        show Jj ps (if pk a2=41 then _ else _)
        split
        ·intro hq;obtain⟨j,hjl,ho⟩:=Jm hf'.1 hq;have hb:m1<j/\m2<j:=by
          rcases ho with⟨a,_,_⟩|⟨_,b,c⟩|⟨a,_,_⟩|⟨a,_,_⟩
          ·simp only at a;rw[a]at hj;simp[au]at hj
          ·exact⟨b,c⟩
          ·simp only at a;rcases a with a|a<;>(rw[a]at hj;simp[au]at hj)
          ·simp only at a;rw[a]at hj;simp[au]at hj
         rcases h' with⟨_,e2⟩|e2
         ·subst e2;rcases h with⟨_,e1⟩|e1
          ·exact e1
          ·omega
         ·omega
        ·trivial
      ·trivial
   ·split
    ·refine sJ ?_;unfold RD;rcases arg1 pk (dO pk (n+1)) (a+1) d ts with e|⟨a1,aF,m⟩
     ·trivial
     ·intro _;rfl
    ·refine sJ ?_;unfold BA;rcases dO pk (n+1) a d ts with e|⟨a1,aF,m1⟩
     ·trivial
     ·show Jj ps (if pk a1=61 then _ else _)
      split
      ·rcases dO pk (n+1) (a1+1) d aF with e|⟨a2,ts2,m2⟩
       ·trivial
       ·intro _;rfl
      ·trivial
end
end aB
section
open Go.RowKit Go.Maps Go.WideMaps
open aB (Key put St)
def chk(s:ByteArray):Int×Nat:=if 100<s.size then(1,0)else aB.check (pk s) s.size
def ctx(ts:List Key)(cs:List (Int×Nat)):List (List UInt8):=cs.map (aB.dV (aB.texts ts))
theorem U0(s:ByteArray):pk s=aB.bM s.data.toList:=by
 funext a;unfold pk aB.bM;by_cases h:a<s.size
 ·have h':a<s.data.toList.length:=by simpa using h
  rw[dif_pos h,ab4 h'];simp[al2]
 ·have h':¬a<s.data.toList.length:=by simpa using h
  rw[dif_neg h,List.getElem?_eq_none (by omega)]
theorem NW(s:ByteArray):aB.Uc 0 (aB.Bz (pk s) (s.size+1) 0 0 [] []) (NY s):=by
 have h:=aB.Bv (l:=s.data.toList) (s.size+1) 0 0 [] [] (af4 _) (by simp) aB.SB (λc hc=>by cases hc);unfold NY;rw[U0];exact h
theorem RI(s:ByteArray):aB.Gd s.data.toList (NY s):=by
 unfold NY;exact aB.H8 _ _ ⟨λt ht=>(by cases ht),λt ht=>(by cases ht),List.Pairwise.nil⟩
theorem kS(s:ByteArray)(hs:s.size<=100)(h0:(chk s).1=0):∃ts cs ps,aB.iL (pk s) (s.size+1) 0 0 [] [] []=.ok (s.size,ts,cs,ps,ps.length-1)/\ts.length<=7/\cs.length<=4/\aB.Inv ts/\aB.jA ts cs/\
  NY s=⟨s.size,0,0,aB.texts ts,ctx ts cs⟩/\(∀t∈aB.texts ts,t.length<=100)/\(∀t∈ctx ts cs,t.length<=100)/\cs.Nodup/\aB.aO ts.length cs.length ps/\0<ps.length/\ps.length<=100:=by
 have h:=NW s;have hg:=RI s;have hok:=aB.qh (pk:=pk s) (N:=s.size) (λa h=>bI h) (s.size+1) 0 0 [] [] (by omega);have hf:=aB.kN (pk:=pk s) (N:=s.size) (λa h=>bI h) (s.size+1) 0 0 [] [] [] (by omega) ⟨aj2,λi hi=>absurd hi (by simp)⟩;have hla:=aB.OG (pk:=pk s) (N:=s.size) (λa h=>bI h) (s.size+1) 0 0 [] [] [] (by omega) ⟨aj2,λi hi=>absurd hi (by simp)⟩;have hop:=aB.qg (pk:=pk s) (N:=s.size) (λa h=>bI h) (N9 s) (s.size+1) 0 0 [] [] [] (by omega) (by simp) (by simp) (by simp);have hls:=aB.kD (pk s) (s.size+1) 0 0 [] [] [];unfold chk at h0;rw[ac2 (by omega)]at h0;unfold aB.check at h0;cases hR:aB.Bz (pk s) (s.size+1) 0 0 [] []with
 |error Ep=>
  obtain⟨E,p⟩:=Ep;rw[hR]at h h0;obtain⟨_,_,h3⟩:=h;exact absurd h0 h3
 |ok q=>
  obtain⟨a1,ts,cs⟩:=q;rw[hR]at h h0 hok;obtain⟨h1,h2,h3⟩:=h;obtain⟨_,p2,_⟩:=hok;simp only at h0;have ha:a1=s.size:=by
   by_cases ha:a1<s.size
   ·rw[ad3 ha]at h0;simp at h0
   ·omega
  subst ha;have XO:¬(7<ts.length\/4<cs.length):=by
   intro hm;rw[ac2 (by omega),ad3 hm]at h0;simp at h0
  rw[h1]at hg;obtain⟨g1,g2,g3⟩:=hg;have hsz:s.data.toList.length=s.size:=by simp
  rw[hR]at hls;rcases hP:aB.iL (pk s) (s.size+1) 0 0 [] [] []with e|⟨b1,ts',cs',ps,m⟩
  ·rw[hP]at hls;cases hls
  ·rw[hP]at hls hf hla hop;cases hls;have hm:m=ps.length-1:=by
    rcases hla with⟨h,_⟩|h
    ·simp at h
    ·omega
   obtain⟨_,o2,_,_,_,o6,_⟩:=hop;simp at o6;refine⟨ts,cs,ps,by rw[hm],by omega,by omega,h2,h3,h1,λt ht=>by have:=g1 t ht;omega,λt ht=>by have:=g2 t ht;omega,?_,hf.1,?_,by omega⟩
   ·exact(List.pairwise_map.1 g3).imp (λh e=>h (am8 _ e))
   ·have:=hf.2.1;omega
theorem Sv{ts:List Key}(h:aB.Inv ts)(hl:ts.length<=7):∀x∈ts,∃l,keyOf prog 87 (aQ x)=some l:=by
 intro x hx;obtain⟨i,hi,rfl⟩:=ag2 hx;rcases h.key i hi with⟨h1,h2,h3,h4⟩|⟨h1,h2,h3⟩|⟨h1,h2,h3⟩
 ·exact La _ (by omega) (by omega) (by omega)
 ·exact La _ (by omega) (by omega) (by omega)
 ·exact La _ (by omega) (by omega) (by omega)
theorem MQ{ts:List Key}{cs:List (Int×Nat)}(h:aB.jA ts cs)(hl:ts.length<=7):∀x∈cs,∃l,keyOf prog 90 (iT x)=some l:=by
 intro x hx;obtain⟨h1,h2⟩:=h x hx;exact Sz _ (by omega) (by omega)
theorem Ku{nt nc:Nat}{ps:List Key}(h:aB.aO nt nc ps)(h1:nt<=1000)(h2:nc<=1000)(h3:ps.length<=1000):∀x∈ps,∃l,keyOf prog 93 (aQ x)=some l:=by
 intro x hx;obtain⟨i,hi,rfl⟩:=ag2 hx;obtain⟨b1,b2,b3⟩:=(h.ok i hi).bd h1 h2 (by omega);exact Lc _ b1 b2 b3
end
namespace aB
def jn(c:Int)(a b:Bool):Bool:=if c=38 then a&&b else if c=124 then a||b else if c=62 then !a||b else a==b
end aB
theorem jq0{α:Type}{l:List α}{i:Nat}(h:i<l.toArray.size):l.toArray[i]=l[i]'(by simpa using h):=List.getElem_toArray h
theorem jq1{α:Type}{a:α}{l:List α}(h:0<(a::l).length):(a::l)[0]=a:=rfl
theorem jq2{α:Type}{a:α}{l:List α}{i:Nat}(h:i+1<(a::l).length):(a::l)[i+1]=l[i]'(by simpa using h):=rfl
theorem jq3(l:List Value)(d:List Deferred)(k:Nat)(v:Value):Act.put ⟨l.toArray,d⟩ (some k) v=⟨(l.set k v).toArray,d⟩:=by simp[Act.put]
theorem jq4{α:Type}{a b:α}{l:List α}:(a::l).set 0 b=b::l:=rfl
theorem jq5{α:Type}{a b:α}{l:List α}{i:Nat}:(a::l).set (i+1) b=a::l.set i b:=rfl
theorem aC:(∀{α:Type} {l:List α} {i:Nat} (h:i<l.toArray.size),l.toArray[i]=l[i]'(by simpa using h))/\(∀{α:Type} {a:α} {l:List α} (h:0<(a::l).length),(a::l)[0]=a)/\(∀{α:Type} {a:α} {l:List α} {i:Nat} (h:i+1<(a::l).length),(a::l)[i+1]=l[i]'(by simpa using h))/\(∀(l:List Value) (d:List Deferred) (k:Nat) (v:Value),Act.put ⟨l.toArray,d⟩ (some k) v=⟨(l.set k v).toArray,d⟩)/\(∀{α:Type} {a b:α} {l:List α},(a::l).set 0 b=b::l)/\(∀{α:Type} {a b:α} {l:List α} {i:Nat},(a::l).set (i+1) b=a::l.set i b):=⟨jq0,jq1,jq2,jq3,jq4,jq5⟩
section
variable {P:Program} {ops:Array Oper} {Q:Exit->Act->World->Prop} {md:Region.Mode} {S:World->Prop} {z fuel:Nat} {listed:Array Bool} {a:Act} {w:World} {oi:Oper}
theorem tH(i:Nat)(v:Value)(hy:∀w,S w->(execOp a.eval oi).run P w=.ok (.value v) w)(hS:S w)(h:wpAnyH P md ops Q S fuel (listed.setIfInBounds i true) (a.put oi.dst v) w)
 (hi:ops[i]?=some oi:=by rfl)(hs:Region.noSelect ops=true:=by kernel_rfl)(hf:Region.free md ops listed i=true:=by kernel_rfl)(hr:(Region.ready md ops listed).contains i=true:=by kernel_rfl)
 (hQ:∀c a w,Q (.panic c) (a.put oi.dst v) w->Q (.panic c) a w:=by first|exact λ_ _ _ h=>h|exact λ_ _ _ h=>(by cases h.1))(hw:Region.wanted oi (yielded ops a.tmps)=true:=by rfl):wpAnyH P md ops Q S (fuel+1) listed a w:=
 wpAnyH_take hi hs hf hr hQ (Or.inl ⟨hw,hy⟩) hS h
theorem tL(i:Nat)(v:Value)(hy:∀w,S w->(execOp a.eval oi).run P w=.ok (.value v) w)(hS:S w)(h:wpAnyL P md ops Q S z fuel (listed.setIfInBounds i true) (a.put oi.dst v) w)
 (hi:ops[i]?=some oi:=by rfl)(hz:waits md ops z i=true:=by kernel_rfl)(hs:Region.noSelect ops=true:=by kernel_rfl)(hf:Region.free md ops listed i=true:=by kernel_rfl)(hr:(Region.ready md ops listed).contains i=true:=by kernel_rfl)
 (hQ:∀c a w,Q (.panic c) (a.put oi.dst v) w->Q (.panic c) a w:=by first|exact λ_ _ _ h=>h|exact λ_ _ _ h=>(by cases h.1))(hw:Region.wanted oi (yielded ops a.tmps)=true:=by rfl):wpAnyL P md ops Q S z (fuel+1) listed a w:=
 Dx hi hz hs hf hr hQ hw hy hS h
theorem oH(i:Nat)(h:∀K':Act->World->Prop,Shut (∀a w,S w->wpAnyH P md ops Q S fuel (listed.setIfInBounds i true) a w->K' a w)->Oper.wp P oi a w K' Q)
 (hr:Region.ready md ops listed=[i]:=by kernel_rfl)(ho:ops[i]?=some oi:=by rfl)(hw:Region.wanted oi (yielded ops a.tmps)=true:=by rfl):wpAnyH P md ops Q S (fuel+1) listed a w:=
 FN hr ho hw h
theorem oL(i:Nat)(h:∀K':Act->World->Prop,Shut (∀a w,(i≠z->S w)->wpAnyL P md ops Q S z fuel (listed.setIfInBounds i true) a w->K' a w)->Oper.wp P oi a w K' Q)
 (hr:Region.ready md ops listed=[i]:=by kernel_rfl)(ho:ops[i]?=some oi:=by rfl)(hw:Region.wanted oi (yielded ops a.tmps)=true:=by rfl):wpAnyL P md ops Q S z (fuel+1) listed a w:=
 FM hr ho hw h
theorem oO{i:Nat}{K:Act->World->Prop}(h:∀K':Act->World->Prop,Shut (∀a w,K a w->K' a w)->Oper.wp P oi a w K' Q)(ho:ops[i]?=some oi:=by rfl)(hw:Region.wanted oi (yielded ops a.tmps)=true:=by rfl):wpOp P ops Q i K a w:=by
 refine wpOp_step ho (λK' hK=>?_);rw[ad3 hw];exact h K' hK
def qL(P:Program)(md:Region.Mode)(ops:Array Oper)(Q:Exit->Act->World->Prop)(S:World->Prop)(fuel:Nat)(listed:Array Bool)(i:Nat)(a:Act)(w:World):Prop:=
 wpOp P ops Q i (λa' w'=>S w'/\wpAnyH P md ops Q S fuel (listed.setIfInBounds i true) a' w') a w
theorem a1(i:Nat)(h:qL P md ops Q S fuel listed i a w)(hr:Region.ready md ops listed=[i]:=by kernel_rfl):wpAnyH P md ops Q S (fuel+1) listed a w:=
 wpAnyH_all hr (by simp) (λk hk=>by simp only[ag1,ai4,am7]at hk;subst hk;exact h)
theorem a2(i j:Nat)(h:qL P md ops Q S fuel listed i a w)(h2:qL P md ops Q S fuel listed j a w)(hr:Region.ready md ops listed=[i,j]:=by kernel_rfl):wpAnyH P md ops Q S (fuel+1) listed a w:=
 wpAnyH_all hr (by simp) (λk hk=>by simp only[ag1,ai4,am7]at hk;rcases hk with rfl|rfl<;>assumption)
theorem a3(i j l:Nat)(h:qL P md ops Q S fuel listed i a w)(h2:qL P md ops Q S fuel listed j a w)(h3:qL P md ops Q S fuel listed l a w)(hr:Region.ready md ops listed=[i,j,l]:=by kernel_rfl):wpAnyH P md ops Q S (fuel+1) listed a w:=
 wpAnyH_all hr (by simp) (λk hk=>by simp only[ag1,ai4,am7]at hk;rcases hk with rfl|rfl|rfl<;>assumption)
theorem a4(i j l m:Nat)(h:qL P md ops Q S fuel listed i a w)(h2:qL P md ops Q S fuel listed j a w)(h3:qL P md ops Q S fuel listed l a w)(h4:qL P md ops Q S fuel listed m a w)(hr:Region.ready md ops listed=[i,j,l,m]:=by kernel_rfl):wpAnyH P md ops Q S (fuel+1) listed a w:=
 wpAnyH_all hr (by simp) (λk hk=>by simp only[ag1,ai4,am7]at hk;rcases hk with rfl|rfl|rfl|rfl<;>assumption)
end
namespace Sat
abbrev View:Type:=Nat×Bool
abbrev Rule:Type:=List View
abbrev je:Type:=Bool×Nat×Rule
abbrev bG:Type:=Nat->Option je
def right(β:bG)(v:View):Prop:=∃b,β v.1=some b/\b.1=v.2
def wrong(β:bG)(v:View):Prop:=∃b,β v.1=some b/\b.1≠v.2
def gU(β:bG)(k:Nat)(v:View):Prop:=∃b,β v.1=some b/\b.1≠v.2/\b.2.1<k
def keeps(α:Nat->Bool)(r:Rule):Prop:=∃v∈r,α v.1=v.2
structure BInv(ak:List Rule)(β:bG)(n:Nat):Prop where
 lt:∀x b,β x=some b->b.2.1<n
 inj:∀x y b c,β x=some b->β y=some c->b.2.1=c.2.1->x=y
 MW:∀x i k r,β x=some (i,k,r)->r≠[]->r∈ak/\(x,i)∈r/\∀u∈r,u≠(x,i)->gU β k u
 free:∀x i k,β x=some (i,k,[])->∀r∈ak,∀j,(∀u∈r,u=(x,j)\/gU β k u)->(x,j)∉r
theorem QH(ak:List Rule):BInv ak (λ_=>none) 0:=
 ⟨λ_ _ h=>by(cases h),λ_ _ _ _ h=>by(cases h),λ_ _ _ _ h=>by(cases h),λ_ _ _ h=>by(cases h)⟩
def add(β:bG)(x:Nat)(b:je):bG:=λy=>if y=x then some b else β y
theorem add_same(β:bG)(x:Nat)(b:je):add β x b x=some b:=by simp[add]
theorem bK{β:bG}{x y:Nat}(b:je)(h:y≠x):add β x b y=β y:=by simp[add,h]
theorem oC{β:bG}{x k:Nat}{b:je}{v:View}(hx:β x=none)(h:gU β k v):gU (add β x b) k v:=by
 obtain⟨c,h1,h2,h3⟩:=h;refine⟨c,?_,h2,h3⟩;rw[bK]
 ·exact h1
 ·rintro rfl;rw[hx]at h1;cases h1
theorem jR{β:bG}{x k n:Nat}{i:Bool}{r:Rule}{v:View}(hk:k<=n)(h:gU (add β x (i,n,r)) k v):gU β k v:=by
 obtain⟨c,h1,h2,h3⟩:=h;by_cases e:v.1=x
 ·rw[e,add_same]at h1;cases h1;simp at h3;omega
 ·rw[bK _ e]at h1;exact⟨c,h1,h2,h3⟩
theorem BInv.follow{ak:List Rule}{β:bG}{n:Nat}(h:BInv ak β n){r:Rule}(hr:r∈ak){x:Nat}{i:Bool}(hm:(x,i)∈r)(hx:β x=none)(ho:∀u∈r,u≠(x,i)->wrong β u):BInv ak (add β x (i,n,r)) (n+1):=by
 have hw:∀u,wrong β u->gU β n u:=λu ⟨b,h1,h2⟩=>⟨b,h1,h2,h.lt _ _ h1⟩;refine⟨λy b hy=>?_,λy z b c hy hz e=>?_,λy j k q hy hq=>?_,λy j k hy q hq l hl=>?_⟩
 ·by_cases e:y=x
  ·rw[e,add_same]at hy;cases hy;simp
  ·rw[bK _ e]at hy;have:=h.lt _ _ hy;omega
 ·by_cases e1:y=x<;>by_cases e2:z=x
  ·rw[e1,e2]
  ·rw[e1,add_same]at hy;cases hy;rw[bK _ e2]at hz;have:=h.lt _ _ hz;simp at e;omega
  ·rw[e2,add_same]at hz;cases hz;rw[bK _ e1]at hy;have:=h.lt _ _ hy;simp at e;omega
  ·rw[bK _ e1]at hy;rw[bK _ e2]at hz;exact h.inj _ _ _ _ hy hz e
 ·by_cases e:y=x
  ·subst e;rw[add_same]at hy;cases hy;exact⟨hr,hm,λu hu hne=>oC hx (hw u (ho u hu hne))⟩
  ·rw[bK _ e]at hy;obtain⟨q1,q2,q3⟩:=h.MW _ _ _ _ hy hq;exact⟨q1,q2,λu hu hne=>oC hx (q3 u hu hne)⟩
 ·by_cases e:y=x
  ·subst e;rw[add_same]at hy;cases hy;cases hm
  ·rw[bK _ e]at hy;have hk:=h.lt _ _ hy;exact h.free _ _ _ hy q hq l (λu hu=>(hl u hu).imp id (jR (by simp at hk;omega)))
def Done(ak:List Rule)(β:bG):Prop:=∀r∈ak,(∃v∈r,right β v)\/∃u∈r,∃v∈r,u≠v/\β u.1=none/\β v.1=none
theorem BInv.choose{ak:List Rule}{β:bG}{n:Nat}(h:BInv ak β n)(hd:Done ak β){x:Nat}(i:Bool)(hx:β x=none):BInv ak (add β x (i,n,[])) (n+1):=by
 refine⟨λy b hy=>?_,λy z b c hy hz e=>?_,λy j k q hy hq=>?_,λy j k hy q hq l hl=>?_⟩
 ·by_cases e:y=x
  ·rw[e,add_same]at hy;cases hy;simp
  ·rw[bK _ e]at hy;have:=h.lt _ _ hy;omega
 ·by_cases e1:y=x<;>by_cases e2:z=x
  ·rw[e1,e2]
  ·rw[e1,add_same]at hy;cases hy;rw[bK _ e2]at hz;have:=h.lt _ _ hz;simp at e;omega
  ·rw[e2,add_same]at hz;cases hz;rw[bK _ e1]at hy;have:=h.lt _ _ hy;simp at e;omega
  ·rw[bK _ e1]at hy;rw[bK _ e2]at hz;exact h.inj _ _ _ _ hy hz e
 ·by_cases e:y=x
  ·subst e;rw[add_same]at hy;cases hy;exact absurd rfl hq
  ·rw[bK _ e]at hy;obtain⟨q1,q2,q3⟩:=h.MW _ _ _ _ hy hq;exact⟨q1,q2,λu hu hne=>oC hx (q3 u hu hne)⟩
 ·by_cases e:y=x
  ·subst e;rw[add_same]at hy;cases hy;intro hm;have hw:∀u∈q,u=(y,l)\/wrong β u:=λu hu=>(hl u hu).imp id (λg=>by
    obtain⟨b,h1,h2,_⟩:=jR (ab3 _) g;exact⟨b,h1,h2⟩)
   rcases hd q hq with⟨v,hv,b,h1,h2⟩|⟨u,hu,v,hv,hne,h1,h2⟩
   ·rcases hw v hv with rfl|⟨c,g1,g2⟩
    ·rw[hx]at h1;cases h1
    ·rw[h1]at g1;cases g1;exact g2 h2
   ·rcases hw u hu with rfl|⟨c,g1,_⟩
    ·rcases hw v hv with rfl|⟨c,g1,_⟩
     ·exact hne rfl
     ·rw[h2]at g1;cases g1
    ·rw[h1]at g1;cases g1
  ·rw[bK _ e]at hy;have hk:=h.lt _ _ hy;exact h.free _ _ _ hy q hq l (λu hu=>(hl u hu).imp id (jR (by simp at hk;omega)))
theorem BInv.blame{ak:List Rule}{β:bG}{n:Nat}(h:BInv ak β n){broken:Rule}(hb:broken∈ak)(hw:∀v∈broken,wrong β v)(S:Nat->Prop)(h0:∀v∈broken,S v.1)
 (hS:∀x i k r,S x->β x=some (i,k,r)->∀u∈r,S u.1)(C:Rule)(hC:∀x i k,S x->β x=some (i,k,[])->(x,!i)∈C)(α:Nat->Bool)(hα:∀r∈ak,keeps α r):keeps α C:=by
 refine af2 λhn=>?_;have hch:∀x i k,S x->β x=some (i,k,[])->α x=i:=λx i k hs hx=>by
  refine af2 λhe=>hn ⟨(x,!i),hC x i k hs hx,?_⟩
  show α x=!i
  cases hax:α x<;>cases i<;>simp_all
 have key:∀m x i k r,k<m->S x->β x=some (i,k,r)->α x=i:=by
  intro m
  induction m with
  |zero=>intro x i k r hk;omega
  |succ m ih=>
   intro x i k r hk hs hx;by_cases hr:r=[]
   ·subst hr;exact hch x i k hs hx
   ·obtain⟨q1,q2,q3⟩:=h.MW _ _ _ _ hx hr;obtain⟨v,hv,ha⟩:=hα r q1;by_cases e:v=(x,i)
    ·subst e;exact ha
    ·obtain⟨⟨ci,ck,cr⟩,g1,g2,g3⟩:=q3 v hv e;have:=ih v.1 ci ck cr (by simp at g3;omega) (hS x i k r hs hx v hv) g1;exact absurd (this.symm.trans ha) g2
 obtain⟨v,hv,ha⟩:=hα broken hb;obtain⟨⟨ci,ck,cr⟩,g1,g2⟩:=hw v hv;have:=key (ck+1) v.1 ci ck cr (by omega) (h0 v hv) g1;exact g2 (this.symm.trans ha)
def before(β:bG)(k:Nat):bG:=λx=>match β x with
 |some b=>if b.2.1<k then some b else none
 |none=>none
theorem bY{β:bG}{k x:Nat}{b:je}:before β k x=some b↔β x=some b/\b.2.1<k:=by
 unfold before;cases β x with
 |none=>simp
 |some c=>
  simp only;by_cases h:c.2.1<k
  ·rw[ad3 h];constructor
   ·rintro h2;cases h2;exact⟨rfl,h⟩
   ·rintro⟨h2,_⟩;exact h2
  ·rw[ac2 h];constructor
   ·intro h2;cases h2
   ·rintro⟨h2,h3⟩;cases h2;exact absurd h3 h
theorem iK{β:bG}{k m:Nat}{v:View}(hm:m<=k):gU (before β k) m v↔gU β m v:=by
 constructor
 ·rintro⟨b,h1,h2,h3⟩;exact⟨b,(bY.1 h1).1,h2,h3⟩
 ·rintro⟨b,h1,h2,h3⟩;exact⟨b,bY.2 ⟨h1,by omega⟩,h2,h3⟩
structure eP(β:bG)(C:Rule)(x:Nat)(i:Bool)(k:Nat):Prop where
 top:β x=some (i,k,[])
 mem:(x,!i)∈C
 rest:∀u∈C,u=(x,!i)\/∃j m,β u.1=some (j,m,[])/\u.2=!j/\m<k
theorem BInv.fresh{ak:List Rule}{β:bG}{n:Nat}(h:BInv ak β n){C:Rule}{x:Nat}{i:Bool}{k:Nat}(hC:eP β C x i k){r:Rule}(hr:r∈ak)(he:∀v,v∈r↔v∈C):False:=by
 refine h.free x i k hC.top r hr (!i) (λu hu=>?_) ((he _).2 hC.mem);rcases hC.rest u ((he u).1 hu)with e|⟨j,m,h1,h2,h3⟩
 ·exact Or.inl e
 ·exact Or.inr ⟨_,h1,by rw[h2];cases j<;>simp,h3⟩
theorem BInv.back{ak:List Rule}{β:bG}{n:Nat}(h:BInv ak β n){C:Rule}{x:Nat}{i:Bool}{k:Nat}(hC:eP β C x i k):BInv (ak++[C]) (before β k) k:=by
 refine⟨λy b hy=>(bY.1 hy).2,λy z b c hy hz e=>h.inj _ _ _ _ (bY.1 hy).1 (bY.1 hz).1 e,λy j m r hy hr=>?_,λy j m hy r hr l hl=>?_⟩
 ·obtain⟨h1,h2⟩:=bY.1 hy;obtain⟨q1,q2,q3⟩:=h.MW _ _ _ _ h1 hr;exact⟨ag7 _ q1,q2,λu hu hne=>(iK (by simp at h2;omega)).2 (q3 u hu hne)⟩
 ·obtain⟨h1,h2⟩:=bY.1 hy;have hmk:m<k:=h2;rcases ae6.1 hr with hr|hr
  ·exact h.free _ _ _ h1 r hr l (λu hu=>(hl u hu).imp id (iK (by omega)).1)
  ·rw[ad8.1 hr]at hl;exfalso;rcases hl _ hC.mem with e|⟨b,g1,_,g3⟩
   ·have:x=y:=am8 Prod.fst e;subst this;rw[hC.top]at h1;injection h1 with h1
    injection h1 with _ h1
    injection h1 with h1 _
    omega
   ·obtain⟨g4,g5⟩:=bY.1 g1;have:=hC.top.symm.trans g4;cases this;simp at g3;omega
end Sat
end Go.Proofs.YthcppbmkacbbiaaGreat
