import Derived.Test.YthcppbmkacbbiaaGreatYBJ
import Derived.Test.YthcppbmkacbbiaaGreatYBN
set_option linter.unusedSimpArgs false
set_option maxHeartbeats 1000000
namespace Go.Proofs.YthcppbmkacbbiaaGreat
open Go.Proofs.Tryz
section
open Sat (View Rule jw bI)
open aB (Key put lY dP jn au aP dH fD isAtom)
theorem zD{nt:Nat}{cs:List (Int×Nat)}{ps:List Key}(hcs:∀x∈cs,(x.1=80\/x.1=81)/\x.2<nt){q:Key}(h:q∈jH nt cs ps)(h61:q.1=61):q=(61,0,0)\/(q.2.1<q.2.2/\q.2.2<nt):=by
 unfold jH at h;rcases af7.1 h with h|h
 ·rcases af7.1 h with h|h
  ·unfold lJ at h;rcases ah0.1 h with h|h
   ·exact Or.inl h
   ·obtain⟨y,hy,h⟩:=ak7.1 h;obtain⟨x,hx,rfl⟩:=ae8.1 h;exact Or.inr ⟨ai5.1 hx,ai5.1 hy⟩
  ·unfold nV at h;obtain⟨c,hc,rfl⟩:=ae8.1 h;have hc:=ai5.1 hc;simp only[aG hc]at h61;have:=(hcs _ (ac4 hc)).1;omega
 ·unfold tV at h;have:=(ah3.1 h).2;rw[h61]at this;simp[au]at this
theorem zF{nt:Nat}{cs:List (Int×Nat)}{ps:List Key}{q:Key}(h:q∈jH nt cs ps)(h8:q.1=80\/q.1=81):∃h:q.2.1<cs.length,q=(cs[q.2.1].1,q.2.1,0):=by
 unfold jH at h;rcases af7.1 h with h|h
 ·rcases af7.1 h with h|h
  ·exfalso;unfold lJ at h;rcases ah0.1 h with h|h
   ·rw[h]at h8;simp at h8
   ·obtain⟨y,hy,h⟩:=ak7.1 h;obtain⟨x,hx,rfl⟩:=ae8.1 h;simp at h8
  ·unfold nV at h;obtain⟨c,hc,rfl⟩:=ae8.1 h;have hc:=ai5.1 hc;exact⟨hc,by simp only[aG hc]⟩
 ·exfalso;unfold tV at h;have:=(ah3.1 h).2;rcases h8 with e|e<;>(rw[e]at this;simp[au]at this)
section
variable {ts:List Key} {cs:List (Int×Nat)} {ps Us:List Key} {aJ ak:List Rule} {τ:List Tr}
theorem J5(hi:aP ts.length cs.length ps)(hk:fD cs ps)(h0:0<ps.length)(hn:0<ts.length)
 (ht:∀i (hi:i<ts.length),ts[i].2.1<ts.length/\ts[i].2.2<ts.length)(hcs:∀x∈cs,(x.1=80\/x.1=81)/\x.2<ts.length)
 (hP:kC Us aJ (zK ts cs ps))(hc:∀p∈Us,p∈jH ts.length cs ps)(hd:Sat.Done ak (bel τ))(hs:∀r∈aJ,r∈ak)(hall:∀x,x<Us.length->lG τ x=true)(hlt:∀q∈τ,q.1<Us.length) :
  Ak (aY ((fA Us τ).map dF)) ts cs ps (kV (fA Us τ) cs.length):=by
 have hkp:=zq hd hs hP.lp.rg.lt hall;have hH:Hold (RS Us τ) (zK ts cs ps):=(hP.lp.sem Us (ag6 _) (IX τ)).1 hkp;have hE:=hH;unfold zK at hE;rw[dZ,dZ,dZ]at hE;obtain⟨e1,e2,e3⟩:=Zp hE.1.1.2;have hnd:=hP.lp.nodup;have X0:isAtom 61=true:=by decide
 refine F5 hi hk h0 ht hcs hH (λa b ha hb=>⟨λh=>?_,λh=>?_⟩) (λc hc'=>?_)
 ·have hR:Xt (λa b=>a=b\/(a<ts.length/\b<ts.length/\RS Us τ (gB (bJ a b))=true)):=by
   refine⟨λa=>Or.inl rfl,λa b h=>?_,λa b c h k=>?_⟩
   ·rcases h with h|⟨h1,h2,h3⟩
    ·exact Or.inl h.symm
    ·exact Or.inr ⟨h2,h1,e2 _ _ h3⟩
   ·rcases h with rfl|⟨h1,h2,h3⟩
    ·exact k
    ·rcases k with rfl|⟨k1,k2,k3⟩
     ·exact Or.inr ⟨h1,h2,h3⟩
     ·exact Or.inr ⟨h1,k2,e3 _ _ _ h1 h2 k2 h3 k3⟩
  have hpm:∀p∈eqs ((fA Us τ).map dF),p.1<ts.length/\p.2<ts.length/\(p.1=p.2\/(p.1<ts.length/\p.2<ts.length/\RS Us τ (gB (bJ p.1 p.2))=true)):=λp hp=>by
   obtain⟨s,hs1,hs2⟩:=ae8.1 (xG.1 hp);obtain⟨g1,g2,g3,g4⟩:=rP hnd hs1;have e4:s.2.2=(61,p):=am8 Prod.fst hs2;have e5:s.2.1=true:=am8 Prod.snd hs2;rw[e4]at g1 g3;rw[e5]at g3;rcases zD hcs (hc _ g1) rfl with h|⟨h,h'⟩
   ·have hp0:p=(0,0):=am8 Prod.snd h;subst hp0;exact⟨hn,hn,Or.inl rfl⟩
   ·simp only at h h';refine⟨by omega,h',Or.inr ⟨by omega,h',?_⟩⟩;have:gB (bJ p.1 p.2)=(61,p):=pG h;rw[this];exact g3.symm
  rcases Cb hR (n:=ts.length) (f:=id) hpm (λx y _ _ e=>Or.inl e) a b ha hb h with e|⟨_,_,e⟩
  ·subst e;exact e1 a
  ·exact e
 ·by_cases e:a=b
  ·subst e;rfl
  ·have hm:=Jc hlt h;have key:∀x y,gB (bJ a b)=(61,x,y)->aY ((fA Us τ).map dF) x=aY ((fA Us τ).map dF) y:=λx y e2=>by
    rw[e2]at hm h;have nU:=BJ (τ:=τ) hm X0;rw[h]at nU;have:=yI (f:=id) (xG.2 (ae8.2 ⟨_,nU,rfl⟩:((61,(x,y)),true)∈(fA Us τ).map dF));exact this
   by_cases hab:a<b
   ·exact key a b (pG hab)
   ·exact(key b a (sO (by omega))).symm
 ·refine EZ hc' (λs hs1 h61 hsc=>?_) ?_
  ·obtain⟨g1,g2,g3,g4⟩:=rP hnd hs1;have h8:s.2.2.1=80\/s.2.2.1=81:=by
    simp only[isAtom,ah4]at g2;omega
   obtain⟨q1,q2⟩:=zF (hc _ g1) h8;rw[g3]
   congr 1
   rw[q2];simp only[hsc]
  ·by_cases hm:(cs[c].1,c,0)∈Us
   ·have h8:=(hcs _ (ac4 hc')).1;refine Or.inr ⟨_,BJ hm (by simp only[isAtom,ah4];omega),by show cs[c].1≠61;omega,rfl⟩
   ·left;cases hv:RS Us τ (cs[c].1,c,0)
    ·rfl
    ·exact absurd (Jc hlt hv) hm
theorem EW{v:Key->Bool}{L:List (List aV)}(hP:kC Us aJ L)(h:Hold v L):∀r∈aJ,Sat.keeps (λx=>v (Us.getD x (0,0,0))) r:=by
 refine(hP.lp.sem Us (ag6 _) (λx=>v (Us.getD x (0,0,0)))).2 (λc hc=>?_);obtain⟨l,hl,h1⟩:=h c hc;refine⟨l,hl,?_⟩;unfold lv at h1 ⊢;have hm:=aj3.2 (hP.mem c hc l hl);simp only;rw[aG hm,ag2 hm];exact h1
theorem J4(hi:aP ts.length cs.length ps)(h0:0<ps.length)(hn:0<ts.length)
 (ht:∀i (hi:i<ts.length),ts[i].2.1<ts.length/\ts[i].2.2<ts.length)(hcs:∀x∈cs,(x.1=80\/x.1=81)/\x.2<ts.length)
 (hP:kC Us aJ (zK ts cs ps))(hno:∀α:Nat->Bool,True->¬∀r∈aJ,Sat.keeps α r):¬∃f hl,hl.length=cs.length/\Ak f ts cs ps hl:=by
 rintro⟨f,hl,_,hm⟩;exact hno _ trivial (EW hP (GU hi h0 hn ht hcs hm))
end
end
section
open aB (put)
theorem PO(s:ByteArray)(n c:Nat)(h:s.size=n+1+c):hlo s n c=(s.data.toList.drop (n+1)).map (·==49):=by
 have hl:s.data.toList.length=s.size:=by simp
 refine List.ext_getElem ?_ ?_
 ·simp only[hlo,aj7,ar1,List.length_drop];omega
 ·intro i h1 h2;have h3:n+1+i<s.data.toList.length:=by simp only[hlo,aj7,ar1]at h1;omega
  simp only[hlo,ak9,List.getElem_range,List.getElem_drop];rw[ae7,ac3 h3];rfl
theorem OY{l:List Nat}{x y:Nat}:y∈put l x↔y∈l\/y=x:=by
 unfold put;split
 ·rename_i h;have h1:x∈l:=by simpa using h
  constructor
  ·exact .inl
  ·rintro(h2|rfl)
   ·exact h2
   ·exact h1
 ·simp
theorem gV(f:Nat->Nat):∀(k x:Nat),x∈nums f k↔∃j,j<k/\f j=x
 |0,x=>by simp[nums]
 |k+1,x=>by
  unfold nums;rw[OY,gV f k x];constructor
  ·rintro(⟨j,h1,h2⟩|rfl)
   ·exact⟨j,by omega,h2⟩
   ·exact⟨k,by omega,rfl⟩
  ·rintro⟨j,h1,h2⟩;by_cases e:j=k
   ·subst e;exact .inr h2.symm
   ·exact .inl ⟨j,by omega,h2⟩
theorem xC{l:List Nat}{x y:Nat}(h:y∈l):(put l x).idxOf y=l.idxOf y:=by
 unfold put;split
 ·rfl
 ·rw[aj2,ae2 h]
theorem SN{l:List Nat}{x:Nat}:(put l x).idxOf x=l.idxOf x:=by
 by_cases h:x∈l
 ·exact xC h
 ·have h2:put l x=l++[x]:=by unfold put;rw[ad6 (by simpa using h)]
  rw[h2,ag4 h,aj2,ad6 h];simp
theorem pV(f:Nat->Nat)(j:Nat):∀k,j<k->(nums f k).idxOf (f j)=(nums f j).idxOf (f j)
 |0,h=>by omega
 |k+1,h=>by
  show(put (nums f k) (f k)).idxOf (f j)=_
  by_cases e:j=k
  ·subst e;exact SN
  ·rw[xC ((gV f k _).2 ⟨j,by omega,rfl⟩)];exact pV f j k (by omega)
theorem QF(f:Nat->Nat)(k j:Nat)(h:j<k):(uo f k)[j]?=some (UInt8.ofNat (48+(nums f j).idxOf (f j))):=by simp[uo,h]
theorem Vd{a b:UInt8}(h:a.toNat=b.toNat):a=b:=UInt8.toNat.inj h
theorem Di(f:Nat->Nat)(k:Nat):(uo f k).length=k:=by simp[uo]
end
section
open Go.RowKit Go.Maps Go.WideMaps
open aB (Key put St aP dP)
def hld(m:ByteArray)(ts:List Key)(cs:List (Int×Nat))(ps:List Key)(cl:List Int):Bool×Int:=
 if m.size=ts.length+1+cs.length/\wrt (fi (m.data.toList.take ts.length)) ts.length (hlo m ts.length cs.length)=m.data.toList then(UL (fi (m.data.toList.take ts.length)) ts cs ps cl (hlo m ts.length cs.length),0)else(false,6)
theorem PE(w:World)(s m:ByteArray)(cl:List Int)(hs:s.size<=100)(ts:List Key)(cs:List (Int×Nat))(ps:List Key)(mm:Nat)(HR:aB.iT (pk s) (s.size+1) 0 0 [] [] []=.ok (s.size,ts,cs,ps,mm))(h7:ts.length<=7)(h4:cs.length<=4)(hi:aB.Inv ts)(hic:aB.jv ts cs)
 (hnd:cs.Nodup)(ny:aB.aP ts.length cs.length ps)(hp0:0<ps.length)(hp:ps.length<=100)(YD:∀x∈cs,(x.1=80\/x.1=81)/\x.2<ts.length)
 (hcl:m.size=ts.length+1+cs.length->∀i j,i<ts.length->j<ts.length->(fi (m.data.toList.take ts.length) i=fi (m.data.toList.take ts.length) j↔cl.getD i 0=cl.getD j 0)) :
  Calls prog 34 #[.string s,.string m] w λe w'=>e=.returned (.tuple #[.bool (hld m ts cs ps cl).1,.int .i64 (hld m ts cs ps cl).2])/\Below w.heap.size w w':=by
 have HO:=aj (rM w s hs ts cs ps mm HR h7 h4 hi hic hnd ny hp);have A8:(hlo m ts.length cs.length).length=cs.length:=by simp[hlo]
 have HM:Hid (m.size=ts.length+1+cs.length->∀(GT GC GP b H:Nat) (W:World),cO W GT ts->eP W GC cs->cO W GP ps->gQ W b (fi (m.data.toList.take ts.length)) ts.length 100->dw W H (hlo m ts.length cs.length)->
   Calls prog 55 #[fv GT GC GP ts.length cs.length ps.length,sv b H cs.length] W λe w'=>e=.returned (.bool (UL (fi (m.data.toList.take ts.length)) ts cs ps cl (hlo m ts.length cs.length)))/\Below W.heap.size W w'):=λhe GT GC GP b H W r1 r2 r3 r4 r5=>by
  have hl2:(m.data.toList.take ts.length).length=ts.length:=by
   have:m.data.toList.length=m.size:=(by simp);rw[ai6];omega
  have h:=EP GT GC GP b 100 H (fi (m.data.toList.take ts.length)) ts cs ps cl (hlo m ts.length cs.length) W h7 h4 hp0 hp A8 r1 r2 r3 hi YD ny (λi hi=>⟨Fp _ i (by omega),JL _ i (by omega)⟩) (hcl he) r4 r5;rw[A8]at h;exact h
 have HS1:=aj (fun(GT GC GP:Nat) (W:World) (he:m.size≠ts.length+1+cs.length)=>zV GT GC GP ts.length cs.length ps.length m W h7 h4 he);have HS2:=aj (fun(GT GC GP:Nat) (W:World) (he:m.size=ts.length+1+cs.length)=>BH GT GC GP ts.length cs.length ps.length m W h7 h4 he);have aas:hld m ts cs ps cl=hld m ts cs ps cl:=rfl;unfold hld;generalize UL (fi (m.data.toList.take ts.length)) ts cs ps cl (hlo m ts.length cs.length)=bm at HM ⊢;generalize wrt (fi (m.data.toList.take ts.length)) ts.length (hlo m ts.length cs.length)=wt at HS2 ⊢;obtain⟨r,hr⟩:∃r:Bool×Int,(if m.size=ts.length+1+cs.length/\wt=m.data.toList then(bm,(0:Int))else(false,6))=r:=⟨_,rfl⟩;rw[hr];have HRS:=aj hr;clear hi hic HR ny hcl A8 YD hnd aas hr;unfold fv at HO HM HS1 HS2;unfold sv at HM HS2
 go_enter func34,ntmps34
 go_wp2_with fail
 refine(ah HO).mono ?_;rintro e w1 ⟨GT,GC,GP,rfl,h1,hfr⟩;have hT1:=xB hfr.t;have hC1:=Jh hfr.c;have hP1:=xB hfr.p;have M1:=aj hT1;have M2:=aj hC1;have M3:=aj hP1;clear hT1 hC1 hP1 HO hfr
 go_wp2_with fail
 obtain⟨w2,hw2⟩:∃w2,w1.alloc (.cells #[.slice (some ⟨GT,0,none⟩) ts.length ts.length,.slice (some ⟨GC,0,none⟩) cs.length cs.length,.slice (some ⟨GP,0,none⟩) ps.length ps.length] 54)=w2:=⟨_,rfl⟩;have hbn:Below w1.heap.size w1 w2:=by rw[<-hw2];exact(af5 w1.heap.size w1).alloc (ac2 _) _
 have hs2:w2.heap.size=w1.heap.size+1:=by rw[<-hw2];simp
 have q0:w2.cell? ⟨w1.heap.size,0,none⟩=some (.slice (some ⟨GT,0,none⟩) ts.length ts.length):=by rw[<-hw2];simp[go_sem]
 have q1:w2.cell? ⟨w1.heap.size,1,none⟩=some (.slice (some ⟨GC,0,none⟩) cs.length cs.length):=by rw[<-hw2];simp[go_sem]
 have q2:w2.cell? ⟨w1.heap.size,2,none⟩=some (.slice (some ⟨GP,0,none⟩) ps.length ps.length):=by rw[<-hw2];simp[go_sem]
 rw[hw2];have hb2:Below w.heap.size w w2:=h1.trans ⟨hbn.os,hbn.tape,hbn.output,hbn.size,λj hj=>hbn.block j (by have:=h1.size;omega)⟩;clear hw2;by_cases he:m.size=ts.length+1+cs.length
 ·refine(ah HS2 GT GC GP w2 he).mono ?_;rintro e w3 ⟨b,H,rfl,lb,lh,hcm,hrh,h3⟩;have c0:=(h3.cell (p:=⟨w1.heap.size,0,none⟩) (by show w1.heap.size<_;omega)).trans q0;have c1:=(h3.cell (p:=⟨w1.heap.size,1,none⟩) (by show w1.heap.size<_;omega)).trans q1;have c2:=(h3.cell (p:=⟨w1.heap.size,2,none⟩) (by show w1.heap.size<_;omega)).trans q2;have hs3:w1.heap.size<w3.heap.size:=by have:=h3.size;omega
  have CM:=aj hcm;have RH:=aj hrh;have hb3:Below w.heap.size w w3:=hb2.trans ⟨h3.os,h3.tape,h3.output,h3.size,λj hj=>h3.block j (by have:=h1.size;omega)⟩;have lM:=hcm.lt;have lR:=hrh.1;clear hcm hrh;by_cases hw:wt=m.data.toList
  ·have HW:=aj hw;rw[ap3 hw];clear hw
   go_wp2_with fail
   have hb4:Below w3.heap.size w3 (w3.alloc (.cells #[.map (some b),.slice (some ⟨H,0,none⟩) cs.length cs.length] 105)):=(af5 _ _).alloc (ac2 _) _;have hrow:∀j,j<w1.heap.size->(w3.alloc (.cells #[.map (some b),.slice (some ⟨H,0,none⟩) cs.length cs.length] 105)).heap[j]?=w1.heap[j]?:=λj hj=>(hb4.block j (by omega)).trans ((h3.block j (by omega)).trans (hbn.block j hj));refine(ah HM he GT GC GP b H _ ((ah M1).same (hrow _ (ah M1).1)) ((ah M2).same (hrow _ (ah M2).1)) ((ah M3).same (hrow _ (ah M3).1)) ((ah CM).kept (hb4.block _ lM)) ((ah RH).same (hb4.block _ lR))).mono ?_;rintro e w5 ⟨rfl,h5⟩;have hb5:Below w.heap.size w w5:=(hb3.trans ⟨hb4.os,hb4.tape,hb4.output,hb4.size,λj hj=>hb4.block j (by have:=h1.size;omega)⟩).trans ⟨h5.os,h5.tape,h5.output,h5.size,λj hj=>h5.block j (by have:=h1.size;simp;omega)⟩;have hr:=ah HRS;rw[ae2 ⟨he,ah HW⟩]at hr;have HR2:=aj hr;clear hr
   go_wp2_with fail
   go_ret2
   exact⟨by rw[<-ah HR2];rfl,hb5⟩
  ·have HW:=aj hw;rw[an7 hw];clear hw
   go_wp2_with fail
   go_ret2
   have hr:=ah HRS;rw[ad6 (λh=>ah HW h.2)]at hr;exact⟨by rw[<-hr];rfl,hb3.alloc hb3.size _⟩
 ·refine(ah HS1 GT GC GP w2 he).mono ?_;rintro e w3 ⟨rfl,h3⟩;have hb3:Below w.heap.size w w3:=hb2.trans ⟨h3.os,h3.tape,h3.output,h3.size,λj hj=>h3.block j (by have:=h1.size;omega)⟩;have HE:=aj he;clear he
  go_wp2_with fail
  go_ret2
  have hr:=ah HRS;rw[ad6 (λh=>ah HE h.1)]at hr;exact⟨by rw[<-hr];rfl,hb3.alloc hb3.size _⟩
end
section
open aB (Key Inv jv texts rend dV eH dP)
def Xp(m:ByteArray)(n:Nat):List Int:=(m.data.toList.take n).map λc=>(c.toNat:Int)-48
theorem QC(m:ByteArray)(n c:Nat)(hs:m.size=n+1+c):∀i j,i<n->j<n->(fi (m.data.toList.take n) i=fi (m.data.toList.take n) j↔(Xp m n).getD i 0=(Xp m n).getD j 0):=by
 intro i j hi hj;have hl:(m.data.toList.take n).length=n:=by
  have:m.data.toList.length=m.size:=by simp
  rw[ai6];omega
 have hi':i<(m.data.toList.take n).length:=by omega
 have hj':j<(m.data.toList.take n).length:=by omega
 rw[Bc hi' hj'];unfold Xp;rw[ae7,ae7,ak3,ak3,ac3 hi',ac3 hj'];simp only[ap0,Option.getD_some];constructor
 ·intro e;rw[e]
 ·intro e;exact Vd (by omega)
end
section
open Go.RowKit
open aB (St put Key)
theorem FH{s:ByteArray}(h:¬(s.size<=100/\(chk s).1=0)):(chk s).1≠0:=by
 intro h0;refine h ⟨?_,h0⟩;unfold chk at h0;by_cases h1:100<s.size
 ·rw[ae2 h1]at h0;simp at h0
 ·omega
end
open aB (Key Inv jv texts dP)
open Nx
def ZN(row:List Nat):List Int:=row.map fun(d:Nat)=>(d:Int)
theorem JU(row:List Nat):∀i j,i<row.length->j<row.length->(fi row i=fi row j↔(ZN row).getD i 0=(ZN row).getD j 0):=by
 intro i j hi hj;rw[Bc hi hj];unfold ZN;rw[ae7,ae7,ak3,ak3,ac3 hi,ac3 hj];simp only[ap0,Option.getD_some];omega
def WT(f:Nat->Nat)(cs:List (Int×Nat))(ps:List Key)(cl:List Int)(hl:List Bool):Bool:=
 decide (∀p∈bg (xF f cs) cs.length,hl.getD p.1 false=hl.getD p.2 false)&&(dP cl hl ps).getD (ps.length-1) false
def WU(ts:List Key)(cs:List (Int×Nat))(ps:List Key)(row:List Nat):Nat:=
 if (∀p∈bg (mkd (fi row) ts) ts.length,fi row p.1=fi row p.2)then(List.range (2 ^ cs.length)).countP (λk=>WT (fi row) cs ps (ZN row) (tv cs.length k))else 0
def zH(ts:List Key)(cs:List (Int×Nat))(ps:List Key):Nat:=sumTo (rws 0 ts.length) (WU ts cs ps) (rws 0 ts.length).length
end Go.Proofs.YthcppbmkacbbiaaGreat
