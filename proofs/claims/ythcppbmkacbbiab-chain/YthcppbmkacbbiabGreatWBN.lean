import Derived.Test.YthcppbmkacbbiabGreatWBK
import Derived.Test.YthcppbmkacbbiabGreatWBC
set_option linter.unusedSimpArgs false
set_option maxHeartbeats 1000000
set_option maxRecDepth 100000
namespace Go.Proofs.YthcppbmkacbbiabGreat
open Go.Proofs.Tryz
section
open Sat (View Rule jk bG)
open aB (Key put oJ dY jn au aQ dJ fE isAtom)
theorem zG{nt:Nat}{cs:List (Int×Nat)}{ps:List Key}(hcs:∀x∈cs,(x.1=80\/x.1=81)/\x.2<nt){q:Key}(h:q∈jB nt cs ps)(h61:q.1=61):q=(61,0,0)\/(q.2.1<q.2.2/\q.2.2<nt):=by
 unfold jB at h;rcases ag9.1 h with h|h
 ·rcases ag9.1 h with h|h
  ·unfold kZ at h;rcases ah8.1 h with h|h
   ·exact Or.inl h
   ·obtain⟨y,hy,h⟩:=al8.1 h;obtain⟨x,hx,rfl⟩:=af9.1 h;exact Or.inr ⟨aj2.1 hx,aj2.1 hy⟩
  ·unfold nI at h;obtain⟨c,hc,rfl⟩:=af9.1 h;have hc:=aj2.1 hc;simp only[aG hc]at h61;have:=(hcs _ (ad8 hc)).1;omega
 ·unfold tY at h;have:=(ai3.1 h).2;rw[h61]at this;simp[au]at this
theorem zH{nt:Nat}{cs:List (Int×Nat)}{ps:List Key}{q:Key}(h:q∈jB nt cs ps)(h8:q.1=80\/q.1=81):∃h:q.2.1<cs.length,q=(cs[q.2.1].1,q.2.1,0):=by
 unfold jB at h;rcases ag9.1 h with h|h
 ·rcases ag9.1 h with h|h
  ·exfalso;unfold kZ at h;rcases ah8.1 h with h|h
   ·rw[h]at h8;simp at h8
   ·obtain⟨y,hy,h⟩:=al8.1 h;obtain⟨x,hx,rfl⟩:=af9.1 h;simp at h8
  ·unfold nI at h;obtain⟨c,hc,rfl⟩:=af9.1 h;have hc:=aj2.1 hc;exact⟨hc,by simp only[aG hc]⟩
 ·exfalso;unfold tY at h;have:=(ai3.1 h).2;rcases h8 with e|e<;>(rw[e]at this;simp[au]at this)
section
variable {ts:List Key} {cs:List (Int×Nat)} {ps Us:List Key} {aJ ak:List Rule} {τ:List Tr}
theorem KJ(hi:aQ ts.length cs.length ps)(hk:fE cs ps)(h0:0<ps.length)(hn:0<ts.length)
 (ht:∀i (hi:i<ts.length),ts[i].2.1<ts.length/\ts[i].2.2<ts.length)(hcs:∀x∈cs,(x.1=80\/x.1=81)/\x.2<ts.length)
 (hP:jW Us aJ (zM ts cs ps))(hc:∀p∈Us,p∈jB ts.length cs ps)(hd:Sat.Done ak (bel τ))(hs:∀r∈aJ,r∈ak)(hall:∀x,x<Us.length->kX τ x=true)(hlt:∀q∈τ,q.1<Us.length) :
  xP (aX ((fA Us τ).map dD)) ts cs ps (kQ (fA Us τ) cs.length):=by
 have hkp:=zA hd hs hP.lp.rg.lt hall;have hH:Hold (SQ Us τ) (zM ts cs ps):=(hP.lp.sem Us (al1 _) (Jq τ)).1 hkp;have hE:=hH;unfold zM at hE;rw[dZ,dZ,dZ]at hE;obtain⟨e1,e2,e3⟩:=Z8 hE.1.1.2;have hnd:=hP.lp.nodup;have YD:isAtom 61=true:=by decide
 refine Gy hi hk h0 ht hcs hH (λa b ha hb=>⟨λh=>?_,λh=>?_⟩) (λc hc'=>?_)
 ·have hR:Yc (λa b=>a=b\/(a<ts.length/\b<ts.length/\SQ Us τ (fZ (bH a b))=true)):=by
   refine⟨λa=>Or.inl rfl,λa b h=>?_,λa b c h k=>?_⟩
   ·rcases h with h|⟨h1,h2,h3⟩
    ·exact Or.inl h.symm
    ·exact Or.inr ⟨h2,h1,e2 _ _ h3⟩
   ·rcases h with rfl|⟨h1,h2,h3⟩
    ·exact k
    ·rcases k with rfl|⟨k1,k2,k3⟩
     ·exact Or.inr ⟨h1,h2,h3⟩
     ·exact Or.inr ⟨h1,k2,e3 _ _ _ h1 h2 k2 h3 k3⟩
  have hpm:∀p∈eqs ((fA Us τ).map dD),p.1<ts.length/\p.2<ts.length/\(p.1=p.2\/(p.1<ts.length/\p.2<ts.length/\SQ Us τ (fZ (bH p.1 p.2))=true)):=λp hp=>by
   obtain⟨s,hs1,hs2⟩:=af9.1 (xF.1 hp);obtain⟨g1,g2,g3,g4⟩:=rF hnd hs1;have e4:s.2.2=(61,p):=ao1 Prod.fst hs2;have e5:s.2.1=true:=ao1 Prod.snd hs2;rw[e4]at g1 g3;rw[e5]at g3;rcases zG hcs (hc _ g1) rfl with h|⟨h,h'⟩
   ·have hp0:p=(0,0):=ao1 Prod.snd h;subst hp0;exact⟨hn,hn,Or.inl rfl⟩
   ·simp only at h h';refine⟨by omega,h',Or.inr ⟨by omega,h',?_⟩⟩;have:fZ (bH p.1 p.2)=(61,p):=oQ h;rw[this];exact g3.symm
  rcases CY hR (n:=ts.length) (f:=id) hpm (λx y _ _ e=>Or.inl e) a b ha hb h with e|⟨_,_,e⟩
  ·subst e;exact e1 a
  ·exact e
 ·by_cases e:a=b
  ·subst e;rfl
  ·have hm:=JB hlt h;have key:∀x y,fZ (bH a b)=(61,x,y)->aX ((fA Us τ).map dD) x=aX ((fA Us τ).map dD) y:=λx y e2=>by
    rw[e2]at hm h;have nD:=Cc (τ:=τ) hm YD;rw[h]at nD;have:=yO (f:=id) (xF.2 (af9.2 ⟨_,nD,rfl⟩:((61,(x,y)),true)∈(fA Us τ).map dD));exact this
   by_cases hab:a<b
   ·exact key a b (oQ hab)
   ·exact(key b a (sN (by omega))).symm
 ·refine FQ hc' (λs hs1 h61 hsc=>?_) ?_
  ·obtain⟨g1,g2,g3,g4⟩:=rF hnd hs1;have h8:s.2.2.1=80\/s.2.2.1=81:=by
    simp only[isAtom,aj7]at g2;omega
   obtain⟨q1,q2⟩:=zH (hc _ g1) h8;rw[g3]
   congr 1
   rw[q2];simp only[hsc]
  ·by_cases hm:(cs[c].1,c,0)∈Us
   ·have h8:=(hcs _ (ad8 hc')).1;refine Or.inr ⟨_,Cc hm (by simp only[isAtom,aj7];omega),by show cs[c].1≠61;omega,rfl⟩
   ·left;cases hv:SQ Us τ (cs[c].1,c,0)
    ·rfl
    ·exact absurd (JB hlt hv) hm
theorem FM{v:Key->Bool}{L:List (List aU)}(hP:jW Us aJ L)(h:Hold v L):∀r∈aJ,Sat.keeps (λx=>v (Us.getD x (0,0,0))) r:=by
 refine(hP.lp.sem Us (al1 _) (λx=>v (Us.getD x (0,0,0)))).2 (λc hc=>?_);obtain⟨l,hl,h1⟩:=h c hc;refine⟨l,hl,?_⟩;unfold lv at h1 ⊢;have hm:=ak6.2 (hP.mem c hc l hl);simp only;rw[aG hm,ai2 hm];exact h1
theorem KI(hi:aQ ts.length cs.length ps)(h0:0<ps.length)(hn:0<ts.length)
 (ht:∀i (hi:i<ts.length),ts[i].2.1<ts.length/\ts[i].2.2<ts.length)(hcs:∀x∈cs,(x.1=80\/x.1=81)/\x.2<ts.length)
 (hP:jW Us aJ (zM ts cs ps))(hno:∀α:Nat->Bool,True->¬∀r∈aJ,Sat.keeps α r):¬∃f hl,hl.length=cs.length/\xP f ts cs ps hl:=by
 rintro⟨f,hl,_,hm⟩;exact hno _ trivial (FM hP (H9 hi h0 hn ht hcs hm))
end
end
section
open Go.RowKit
theorem Ig(w:World)(t:ByteArray) :
  Calls prog 18 #[.string t] w λe w'=>e=.returned (.bool (!dw t))/\Below w.heap.size w w':=by
 by_cases h60:60<t.size
 ·have hb:(60:Int)<(t.size:Int):=by omega
  have hn:dw t=true:=by unfold dw;simp[h60]
  rw[hn]
  go_enter func18,ntmps18
  go_wp2_with fail
  go_ret
  exact⟨rfl,ag6 _ _⟩
 ·have hb:¬(60:Int)<(t.size:Int):=by omega
  have hcv:=run_bytes_of_string (P:=prog) w 9 39 5 t underlying9 underlying39 underlying5;obtain⟨cap,hcap⟩:∃c,grownCap w t.size 0 5=c:=⟨_,rfl⟩;rw[hcap]at hcv;obtain⟨W,hW⟩:∃W,w.drew.alloc (.cells (bytesRow t cap) 5 ((bytesRow t cap).size,(bytesRow t cap).size+1))=W:=⟨_,rfl⟩;have hbw:Below w.heap.size w W:=by rw[<-hW];exact((ag6 _ w).drew).alloc (ad5 _) _
  have hn:W.heap[w.heap.size]?=some (.cells (bytesRow t cap) 5 ((bytesRow t cap).size,(bytesRow t cap).size+1)):=by rw[<-hW];exact ae9 w.drew _
  have hrow:∀i (hi:i<t.size),W.cell? ⟨w.heap.size,i,none⟩=some (.int .u8 (t[i].toNat:Int)):=λi hi=>by
   rw[Lib.cell_of_heap hn];have h3:=bytesRow_at t cap i hi;simpa[am0]using h3
  rw[hW]at hcv;have HR:=aj hrow;clear hW hn hrow hcap
  go_enter func18,ntmps18
  go_wp2_with fail
  go_loop [11] (λiv=>∃k:Nat,k<=t.size/\iv=.int .i64 k/\Hid ((t.data.toList.take k).any lY=false)) (λiv=>t.size-(intOf iv).toNat)
  case atStart=>exact⟨0,ah2 _,rfl,by simp[Hid]⟩
  case round=>
   obtain⟨k,hk,rfl,hno⟩:=hrel;by_cases hlt:k<t.size
   ·have hbk:(k:Int)<(t.size:Int):=(by omega);have hck:=ah HR k hlt;have hat:=Sr hlt;rw[ah hno,Bool.false_or]at hat;have hnd:lY t[k]=(decide ((t[k].toNat:Int)<48)||decide ((57:Int)<(t[k].toNat:Int))):=rfl;have Uo:(t[k].toNat:Int)<256:=(by have:=t[k].toNat_lt;omega);have HAT:=aj hat;have HND:=aj hnd;clear hat hnd hno;generalize lY t[k]=nd at HAT HND;generalize (t[k].toNat:Int)=c at hck HND Uo;have hbad:Hid (nd=true->dw t=true):=λh=>by
     have q:=ah HAT;rw[h]at q;exact any_true (k:=k+1) (by rw[q];simp)
    by_cases h48:c<48
    ·have hnt:dw t=true:=ah hbad (by rw[ah HND];simp[h48]);have HNT:=aj hnt;clear hnt
     go_wp2_with fail
     refine ag3 (v:=.bool false) (by simp[results,results18,go_sem]) rfl ⟨by rw[ah HNT];rfl,hbw⟩
    ·by_cases h57:57<c
     ·have hnt:dw t=true:=ah hbad (by rw[ah HND];simp[h57]);have HNT:=aj hnt;clear hnt
      go_wp2_with fail
      refine ag3 (v:=.bool false) (by simp[results,results18,go_sem]) rfl ⟨by rw[ah HNT];rfl,hbw⟩
     ·have hnf:nd=false:=(by rw[ah HND];simp[h48,h57]);have HNF:=aj hnf;clear hnf
      go_wp2_with fail
      refine⟨⟨k+1,hlt,by go_num,by rw[ah HAT];exact HNF⟩,by simp[intOf];omega⟩
   ·have hkk:k=t.size:=(by omega);have hbk:¬(k:Int)<(t.size:Int):=(by omega);have hnt:dw t=false:=by
     have q:=ah hno;rw[hkk,ah5 (by simp)]at q;unfold dw;rw[q,show decide (60<t.size)=false by simp;omega];rfl
    have HNT:=aj hnt;clear hnt hkk hno
    go_wp2_with fail
    refine ag3 (v:=.bool true) (by simp[results,results18,go_sem]) rfl ⟨by rw[ah HNT];rfl,hbw⟩
end
section
open aB (put)
theorem Ql(s:ByteArray)(n c:Nat)(h:s.size=n+1+c):hlo s n c=(s.data.toList.drop (n+1)).map (·==49):=by
 have hl:s.data.toList.length=s.size:=by simp
 refine List.ext_getElem ?_ ?_
 ·simp only[hlo,ai8,aq8,List.length_drop];omega
 ·intro i h1 h2;have h3:n+1+i<s.data.toList.length:=by simp only[hlo,ai8,aq8]at h1;omega
  simp only[hlo,ak0,List.getElem_range,List.getElem_drop];rw[ag2,ad6 h3];rfl
theorem PE{l:List Nat}{x y:Nat}:y∈put l x↔y∈l\/y=x:=by
 unfold put;split
 ·rename_i h;have h1:x∈l:=by simpa using h
  constructor
  ·exact .inl
  ·rintro(h2|rfl)
   ·exact h2
   ·exact h1
 ·simp
theorem gJ(f:Nat->Nat):∀(k x:Nat),x∈nums f k↔∃j,j<k/\f j=x
 |0,x=>by simp[nums]
 |k+1,x=>by
  unfold nums;rw[PE,gJ f k x];constructor
  ·rintro(⟨j,h1,h2⟩|rfl)
   ·exact⟨j,by omega,h2⟩
   ·exact⟨k,by omega,rfl⟩
  ·rintro⟨j,h1,h2⟩;by_cases e:j=k
   ·subst e;exact .inr h2.symm
   ·exact .inl ⟨j,by omega,h2⟩
theorem JQ{l:List Nat}{x y:Nat}(h:y∈l):(put l x).idxOf y=l.idxOf y:=by
 unfold put;split
 ·rfl
 ·rw[al3,af6 h]
theorem TR{l:List Nat}{x:Nat}:(put l x).idxOf x=l.idxOf x:=by
 by_cases h:x∈l
 ·exact JQ h
 ·have h2:put l x=l++[x]:=by unfold put;rw[af2 (by simpa using h)]
  rw[h2,ai9 h,al3,af2 h];simp
theorem pz(f:Nat->Nat)(j:Nat):∀k,j<k->(nums f k).idxOf (f j)=(nums f j).idxOf (f j)
 |0,h=>by omega
 |k+1,h=>by
  show(put (nums f k) (f k)).idxOf (f j)=_
  by_cases e:j=k
  ·subst e;exact TR
  ·rw[JQ ((gJ f k _).2 ⟨j,by omega,rfl⟩)];exact pz f j k (by omega)
theorem Q9(f:Nat->Nat)(k j:Nat)(h:j<k):(uz f k)[j]?=some (UInt8.ofNat (48+(nums f j).idxOf (f j))):=by simp[uz,h]
theorem VQ{a b:UInt8}(h:a.toNat=b.toNat):a=b:=UInt8.toNat.inj h
theorem Dx(f:Nat->Nat)(k:Nat):(uz f k).length=k:=by simp[uz]
end
section
open Go.RowKit Go.Maps Go.WideMaps
open aB (Key put St aQ dY)
def hld(m:ByteArray)(ts:List Key)(cs:List (Int×Nat))(ps:List Key)(cl:List Int):Bool×Int:=
 if m.size=ts.length+1+cs.length/\wrt (fi (m.data.toList.take ts.length)) ts.length (hlo m ts.length cs.length)=m.data.toList then(Vt (fi (m.data.toList.take ts.length)) ts cs ps cl (hlo m ts.length cs.length),0)else(false,6)
theorem FH(w:World)(s m:ByteArray)(cl:List Int)(hs:s.size<=100)(ts:List Key)(cs:List (Int×Nat))(ps:List Key)(mm:Nat)(HR:aB.gI (pk s) (s.size+1) 0 0 [] [] []=.ok (s.size,ts,cs,ps,mm))(h7:ts.length<=7)(h4:cs.length<=4)(hi:aB.Inv ts)(hic:aB.jR ts cs)
 (hnd:cs.Nodup)(kR:aB.aQ ts.length cs.length ps)(hp0:0<ps.length)(hp:ps.length<=100)(Qn:∀x∈cs,(x.1=80\/x.1=81)/\x.2<ts.length)
 (hcl:m.size=ts.length+1+cs.length->∀i j,i<ts.length->j<ts.length->(fi (m.data.toList.take ts.length) i=fi (m.data.toList.take ts.length) j↔cl.getD i 0=cl.getD j 0)) :
  Calls prog 14 #[.string s,.string m] w λe w'=>e=.returned (.tuple #[.bool (hld m ts cs ps cl).1,.int .i64 (hld m ts cs ps cl).2])/\Below w.heap.size w w':=by
 have HO:=aj (mZ w s hs ts cs ps mm HR h7 h4 hi hic hnd kR hp);have Bq:(hlo m ts.length cs.length).length=cs.length:=by simp[hlo]
 have HM:Hid (m.size=ts.length+1+cs.length->∀(GT GC GP b H:Nat) (W:World),bQ W GT ts->eF W GC cs->bQ W GP ps->dN W b (fi (m.data.toList.take ts.length)) ts.length 100->bY W H (hlo m ts.length cs.length)->
   Calls prog 21 #[fv GT GC GP ts.length cs.length ps.length,sv b H cs.length] W λe w'=>e=.returned (.bool (Vt (fi (m.data.toList.take ts.length)) ts cs ps cl (hlo m ts.length cs.length)))/\Below W.heap.size W w'):=λhe GT GC GP b H W r1 r2 r3 r4 r5=>by
  have hl2:(m.data.toList.take ts.length).length=ts.length:=by
   have:m.data.toList.length=m.size:=(by simp);rw[ah6];omega
  have h:=Fq GT GC GP b 100 H (fi (m.data.toList.take ts.length)) ts cs ps cl (hlo m ts.length cs.length) W h7 h4 hp0 hp Bq r1 r2 r3 hi Qn kR (λi hi=>⟨Bz _ i (by omega),F6 _ i (by omega)⟩) (hcl he) r4 r5;rw[Bq]at h;exact h
 have HS1:=aj (fun(GT GC GP:Nat) (W:World) (he:m.size≠ts.length+1+cs.length)=>Ac GT GC GP ts.length cs.length ps.length m W h7 h4 he);have HS2:=aj (fun(GT GC GP:Nat) (W:World) (he:m.size=ts.length+1+cs.length)=>BZ GT GC GP ts.length cs.length ps.length m W h7 h4 he);have aaT:hld m ts cs ps cl=hld m ts cs ps cl:=rfl;unfold hld;generalize Vt (fi (m.data.toList.take ts.length)) ts cs ps cl (hlo m ts.length cs.length)=bm at HM ⊢;generalize wrt (fi (m.data.toList.take ts.length)) ts.length (hlo m ts.length cs.length)=wt at HS2 ⊢;obtain⟨r,hr⟩:∃r:Bool×Int,(if m.size=ts.length+1+cs.length/\wt=m.data.toList then(bm,(0:Int))else(false,6))=r:=⟨_,rfl⟩;rw[hr];have HRS:=aj hr;clear hi hic HR kR hcl Bq Qn hnd aaT hr;unfold fv at HO HM HS1 HS2;unfold sv at HM HS2
 go_enter func14,ntmps14
 go_wp2_with fail
 refine(ah HO).mono ?_;rintro e w1 ⟨GT,GC,GP,rfl,h1,hfr⟩;have hT1:=qm hfr.t;have hC1:=Ci hfr.c;have hP1:=qm hfr.p;have M1:=aj hT1;have M2:=aj hC1;have M3:=aj hP1;clear hT1 hC1 hP1 HO hfr
 go_wp2_with fail
 obtain⟨w2,hw2⟩:∃w2,w1.alloc (.cells #[.slice (some ⟨GT,0,none⟩) ts.length ts.length,.slice (some ⟨GC,0,none⟩) cs.length cs.length,.slice (some ⟨GP,0,none⟩) ps.length ps.length] 46)=w2:=⟨_,rfl⟩;have hbn:Below w1.heap.size w1 w2:=by rw[<-hw2];exact(ag6 w1.heap.size w1).alloc (ad5 _) _
 have hs2:w2.heap.size=w1.heap.size+1:=by rw[<-hw2];simp
 have q0:w2.cell? ⟨w1.heap.size,0,none⟩=some (.slice (some ⟨GT,0,none⟩) ts.length ts.length):=by rw[<-hw2];simp[go_sem]
 have q1:w2.cell? ⟨w1.heap.size,1,none⟩=some (.slice (some ⟨GC,0,none⟩) cs.length cs.length):=by rw[<-hw2];simp[go_sem]
 have q2:w2.cell? ⟨w1.heap.size,2,none⟩=some (.slice (some ⟨GP,0,none⟩) ps.length ps.length):=by rw[<-hw2];simp[go_sem]
 rw[hw2];have hb2:Below w.heap.size w w2:=h1.trans ⟨hbn.os,hbn.tape,hbn.output,hbn.size,λj hj=>hbn.block j (by have:=h1.size;omega)⟩;clear hw2;by_cases he:m.size=ts.length+1+cs.length
 ·refine(ah HS2 GT GC GP w2 he).mono ?_;rintro e w3 ⟨b,H,rfl,lb,lh,hcm,hrh,h3⟩;have c0:=(h3.cell (p:=⟨w1.heap.size,0,none⟩) (by show w1.heap.size<_;omega)).trans q0;have c1:=(h3.cell (p:=⟨w1.heap.size,1,none⟩) (by show w1.heap.size<_;omega)).trans q1;have c2:=(h3.cell (p:=⟨w1.heap.size,2,none⟩) (by show w1.heap.size<_;omega)).trans q2;have hs3:w1.heap.size<w3.heap.size:=by have:=h3.size;omega
  have CM:=aj hcm;have RH:=aj hrh;have hb3:Below w.heap.size w w3:=hb2.trans ⟨h3.os,h3.tape,h3.output,h3.size,λj hj=>h3.block j (by have:=h1.size;omega)⟩;have lM:=hcm.lt;have lR:=hrh.1;clear hcm hrh;by_cases hw:wt=m.data.toList
  ·have HW:=aj hw;rw[aq5 hw];clear hw
   go_wp2_with fail
   have hb4:Below w3.heap.size w3 (w3.alloc (.cells #[.map (some b),.slice (some ⟨H,0,none⟩) cs.length cs.length] 56)):=(ag6 _ _).alloc (ad5 _) _;have hrow:∀j,j<w1.heap.size->(w3.alloc (.cells #[.map (some b),.slice (some ⟨H,0,none⟩) cs.length cs.length] 56)).heap[j]?=w1.heap[j]?:=λj hj=>(hb4.block j (by omega)).trans ((h3.block j (by omega)).trans (hbn.block j hj));refine(ah HM he GT GC GP b H _ ((ah M1).same (hrow _ (ah M1).1)) ((ah M2).same (hrow _ (ah M2).1)) ((ah M3).same (hrow _ (ah M3).1)) ((ah CM).kept (hb4.block _ lM)) ((ah RH).same (hb4.block _ lR))).mono ?_;rintro e w5 ⟨rfl,h5⟩;have hb5:Below w.heap.size w w5:=(hb3.trans ⟨hb4.os,hb4.tape,hb4.output,hb4.size,λj hj=>hb4.block j (by have:=h1.size;omega)⟩).trans ⟨h5.os,h5.tape,h5.output,h5.size,λj hj=>h5.block j (by have:=h1.size;simp;omega)⟩;have hr:=ah HRS;rw[af6 ⟨he,ah HW⟩]at hr;have HR2:=aj hr;clear hr
   go_wp2_with fail
   go_ret2
   exact⟨by rw[<-ah HR2];rfl,hb5⟩
  ·have HW:=aj hw;rw[ao5 hw];clear hw
   go_wp2_with fail
   go_ret2
   have hr:=ah HRS;rw[af2 (λh=>ah HW h.2)]at hr;exact⟨by rw[<-hr];rfl,hb3.alloc hb3.size _⟩
 ·refine(ah HS1 GT GC GP w2 he).mono ?_;rintro e w3 ⟨rfl,h3⟩;have hb3:Below w.heap.size w w3:=hb2.trans ⟨h3.os,h3.tape,h3.output,h3.size,λj hj=>h3.block j (by have:=h1.size;omega)⟩;have HE:=aj he;clear he
  go_wp2_with fail
  go_ret2
  have hr:=ah HRS;rw[af2 (λh=>ah HE h.1)]at hr;exact⟨by rw[<-hr];rfl,hb3.alloc hb3.size _⟩
end
section
open aB (Key Inv jR texts rend dU iM dY)
def XE(m:ByteArray)(n:Nat):List Int:=(m.data.toList.take n).map λc=>(c.toNat:Int)-48
theorem I9(m:ByteArray)(n c:Nat)(hs:m.size=n+1+c):∀i j,i<n->j<n->(fi (m.data.toList.take n) i=fi (m.data.toList.take n) j↔(XE m n).getD i 0=(XE m n).getD j 0):=by
 intro i j hi hj;have hl:(m.data.toList.take n).length=n:=by
  have:m.data.toList.length=m.size:=by simp
  rw[ah6];omega
 have hi':i<(m.data.toList.take n).length:=by omega
 have hj':j<(m.data.toList.take n).length:=by omega
 rw[BA hi' hj'];unfold XE;rw[ag2,ag2,aj8,aj8,ad6 hi',ad6 hj'];simp only[ap9,Option.getD_some];constructor
 ·intro e;rw[e]
 ·intro e;exact VQ (by omega)
end
open Go.RowKit
open aB (St put Key)
theorem zF{s:ByteArray}(h:¬(s.size<=100/\(chk s).1=0)):(chk s).1≠0:=by
 intro h0;refine h ⟨?_,h0⟩;unfold chk at h0;by_cases h1:100<s.size
 ·rw[af6 h1]at h0;simp at h0
 ·omega
end Go.Proofs.YthcppbmkacbbiabGreat
