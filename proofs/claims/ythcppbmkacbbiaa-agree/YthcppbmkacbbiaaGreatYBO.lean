import Derived.Test.YthcppbmkacbbiaaGreatYBN
set_option linter.unusedSimpArgs false
set_option maxHeartbeats 1000000
set_option maxRecDepth 100000
namespace Go.Proofs.YthcppbmkacbbiaaGreat
open Go.Proofs.Tryz
section
open aB (Key put dM au isAtom cnt aT fH)
def lC(nt:Nat):List Key:=(61,0,0)::(List.range nt).flatMap λy=>(List.range y).map λx=>(61,x,y)
def nI(cs:List (Int×Nat)):List Key:=(List.range cs.length).map λc=>((cs.getD c (0,0)).1,c,0)
def tC(ps:List Key):List Key:=ps.filter λq=>au q.1
def jH(nt:Nat)(cs:List (Int×Nat))(ps:List Key):List Key:=lC nt++nI cs++tC ps
def nS(ps:List Key):List Key:=ps.filter λq=>au q.1||isAtom q.1
theorem Fh{nt:Nat}(h:nt<=7):(lC nt).length<=22:=by
 have key:∀k,k<=7->((List.range k).flatMap λy=>(List.range y).map λx=>((61,x,y):Key)).length<=k*(k-1)/2:=by
  intro k hk
  match k,hk with
  |0,_=>decide
  |1,_=>decide
  |2,_=>decide
  |3,_=>decide
  |4,_=>decide
  |5,_=>decide
  |6,_=>decide
  |7,_=>decide
 have h1:=key nt h;have h2:nt*(nt-1)/2<=21:=by
  match nt,h with
  |0,_=>decide
  |1,_=>decide
  |2,_=>decide
  |3,_=>decide
  |4,_=>decide
  |5,_=>decide
  |6,_=>decide
  |7,_=>decide
 unfold lC;rw[ab5];omega
theorem wC{nt a b:Nat}(ha:a<nt)(hb:b<nt):gy (61,a,b)∈lC nt:=by
 unfold lC;by_cases e:a=b
 ·subst e;rw[oN];simp
 ·by_cases h:a<b
  ·rw[oM h];refine List.mem_cons_of_mem _ (aj0.2 ⟨b,ag8.2 hb,ad5.2 ⟨a,ag8.2 h,rfl⟩⟩)
  ·have h':b<a:=(by omega);rw[rZ h'];refine List.mem_cons_of_mem _ (aj0.2 ⟨a,ag8.2 ha,ad5.2 ⟨b,ag8.2 h',rfl⟩⟩)
theorem wF{cs:List (Int×Nat)}{c:Nat}(h:c<cs.length):(cs[c].1,c,0)∈nI cs:=by
 refine ad5.2 ⟨c,ag8.2 h,?_⟩;rw[aG h]
theorem Bl{nt:Nat}{cs:List (Int×Nat)}{ps:List Key}(h7:nt<=7)(h4:cs.length<=4)(hj:6*cnt au ps+3<=100):(jH nt cs ps).length<=42:=by
 have h1:=Fh h7;have h2:(nI cs).length=cs.length:=by simp[nI]
 have h3:(tC ps).length=cnt au ps:=by
  unfold tC cnt;rw[List.countP_eq_length_filter]
 unfold jH;rw[ad3,ad3];omega
theorem MV{ps:List Key}(hj:3*(cnt au ps+cnt isAtom ps)<=100):(nS ps).length<=33:=by
 have h:(nS ps).length<=cnt au ps+cnt isAtom ps:=by
  unfold nS cnt
  induction ps with
  |nil=>simp
  |cons q ps ih=>
   have hp:3*(cnt au ps+cnt isAtom ps)<=100:=by
    unfold cnt at hj ⊢;rw[am9,am9]at hj;omega
   have:=ih hp;rw[List.filter_cons,am9,am9];cases h1:au q.1<;>cases h2:isAtom q.1<;>simp<;>omega
 omega
theorem DU{f:Key->Key}{Us ps aN:List Key}(h0:∀p∈Us,p∈aN)(h:∀q∈ps,q.1≠33->f q∈aN):∀k,∀p∈mQ f Us ps k,p∈aN:=by
 intro k
 induction k with
 |zero=>simpa[mQ]using h0
 |succ k ih=>
  by_cases hk:k<ps.length
  ·rw[lN hk];unfold Dj;by_cases e:ps[k].1=33
   ·rw[ac8 e];exact ih
   ·rw[ac5 e];exact Ef ih (h _ (ab2 hk) e)
  ·have:mQ f Us ps (k+1)=mQ f Us ps k:=by
    unfold mQ;rw[af0 (by omega),af0 (by omega)]
   rw[this];exact ih
theorem Ej{nt:Nat}{cs:List (Int×Nat)}{ps:List Key}(hi:aT nt cs.length ps)(hk:fH cs ps):∀q∈ps,q.1≠33->gy q∈jH nt cs ps:=by
 intro q hq h33;obtain⟨i,hlt,e⟩:=af7 hq;have ho:=hi.ok i hlt;rw[e]at ho;unfold jH;rcases ho with⟨a,_⟩|⟨a,_⟩|⟨a,b,c⟩|⟨a,b,c⟩
 ·exact absurd a h33
 ·rw[fB.other q (by intro e;rw[e]at a;simp[au]at a)];exact am1 _ (ag0.2 ⟨hq,a⟩)
 ·rw[fB.other q (by omega)];obtain⟨h1,h2⟩:=hk.letter q hq a;have:=wF h1;have eq:q=(cs[q.2.1].1,q.2.1,0):=by rw[h2,<-c]
  rw[<-eq]at this;exact ag2 _ (am1 _ this)
 ·have eq:q=(61,q.2.1,q.2.2):=by rw[<-a]
  rw[eq];exact ag2 _ (ag2 _ (wC b c))
theorem Ei{nt nc:Nat}{ps:List Key}(hi:aT nt nc ps):∀q∈ps,q.1≠33->id q∈nS ps:=by
 intro q hq h33;obtain⟨i,hlt,e⟩:=af7 hq;have ho:=hi.ok i hlt;rw[e]at ho;refine ag0.2 ⟨hq,?_⟩;rcases ho with⟨a,_⟩|⟨a,_⟩|⟨a,b,c⟩|⟨a,b,c⟩
 ·exact absurd a h33
 ·simp[a]
 ·have:isAtom q.1=true:=by rcases a with a|a<;>(rw[a];decide)
  simp[this]
 ·have:isAtom q.1=true:=by rw[a];decide
  simp[this]
theorem I5(nt:Nat):Uc gy (pO nt) nt:=by
 refine⟨λp h=>h,λa b ha hb=>?_,λp h=>fB.other p h⟩;by_cases e:a=b
 ·subst e;exact⟨0,0,oN a,by omega,by omega,oN 0⟩
 ·by_cases h:a<b
  ·exact⟨a,b,oM h,ha,hb,oM h⟩
  ·have h':b<a:=(by omega);exact⟨b,a,rZ h',hb,ha,oM h'⟩
theorem UQ(dom:Key->Prop)(nt:Nat)(hd:∀p,dom p):Uc id dom nt:=
 ⟨λp _=>hd p,λa b ha hb=>⟨a,b,rfl,ha,hb,rfl⟩,λ_ _=>rfl⟩
end
open Go.RowKit
theorem GR(w:World)(t:ByteArray) :
  Calls prog 32 #[.string t] w λe w'=>e=.returned (.bool (!dJ t))/\Below w.heap.size w w':=by
 by_cases h60:60<t.size
 ·have hb:(60:Int)<(t.size:Int):=by omega
  have hn:dJ t=true:=by unfold dJ;simp[h60]
  rw[hn]
  go_enter func32,ntmps32
  go_wp2_with fail
  go_ret
  exact⟨rfl,ae1 _ _⟩
 ·have hb:¬(60:Int)<(t.size:Int):=by omega
  have hcv:=run_bytes_of_string (P:=prog) w 9 107 5 t underlying9 underlying107 underlying5;obtain⟨cap,hcap⟩:∃c,grownCap w t.size 0 5=c:=⟨_,rfl⟩;rw[hcap]at hcv;obtain⟨W,hW⟩:∃W,w.drew.alloc (.cells (bytesRow t cap) 5 ((bytesRow t cap).size,(bytesRow t cap).size+1))=W:=⟨_,rfl⟩;have hbw:Below w.heap.size w W:=by rw[<-hW];exact((ae1 _ w).drew).alloc (SH _) _
  have hn:W.heap[w.heap.size]?=some (.cells (bytesRow t cap) 5 ((bytesRow t cap).size,(bytesRow t cap).size+1)):=by rw[<-hW];exact ac3 w.drew _
  have hrow:∀i (hi:i<t.size),W.cell? ⟨w.heap.size,i,none⟩=some (.int .u8 (t[i].toNat:Int)):=λi hi=>by
   rw[Lib.cell_of_heap hn];have h3:=bytesRow_at t cap i hi;simpa[an8]using h3
  rw[hW]at hcv;have HR:=aj hrow;clear hW hn hrow hcap
  go_enter func32,ntmps32
  go_wp2_with fail
  go_loop [11] (λiv=>∃k:Nat,k<=t.size/\iv=.int .i64 k/\Hid ((t.data.toList.take k).any lZ=false)) (λiv=>t.size-(intOf iv).toNat)
  case atStart=>exact⟨0,ae7 _,rfl,by simp[Hid]⟩
  case round=>
   obtain⟨k,hk,rfl,hno⟩:=hrel;by_cases hlt:k<t.size
   ·have hbk:(k:Int)<(t.size:Int):=(by omega);have hck:=ah HR k hlt;have hat:=QL hlt;rw[ah hno,Bool.false_or]at hat;have hnd:lZ t[k]=(decide ((t[k].toNat:Int)<48)||decide ((57:Int)<(t[k].toNat:Int))):=rfl;have Vp:(t[k].toNat:Int)<256:=(by have:=t[k].toNat_lt;omega);have HAT:=aj hat;have HND:=aj hnd;clear hat hnd hno;generalize lZ t[k]=nd at HAT HND;generalize (t[k].toNat:Int)=c at hck HND Vp;have hbad:Hid (nd=true->dJ t=true):=λh=>by
     have q:=ah HAT;rw[h]at q;exact any_true (k:=k+1) (by rw[q];simp)
    by_cases h48:c<48
    ·have hnt:dJ t=true:=ah hbad (by rw[ah HND];simp[h48]);have HNT:=aj hnt;clear hnt
     go_wp2_with fail
     refine ad8 (v:=.bool false) (by simp[results,results32,go_sem]) rfl ⟨by rw[ah HNT];rfl,hbw⟩
    ·by_cases h57:57<c
     ·have hnt:dJ t=true:=ah hbad (by rw[ah HND];simp[h57]);have HNT:=aj hnt;clear hnt
      go_wp2_with fail
      refine ad8 (v:=.bool false) (by simp[results,results32,go_sem]) rfl ⟨by rw[ah HNT];rfl,hbw⟩
     ·have hnf:nd=false:=(by rw[ah HND];simp[h48,h57]);have HNF:=aj hnf;clear hnf
      go_wp2_with fail
      refine⟨⟨k+1,hlt,by go_num,by rw[ah HAT];exact HNF⟩,by simp[intOf];omega⟩
   ·have hkk:k=t.size:=(by omega);have hbk:¬(k:Int)<(t.size:Int):=(by omega);have hnt:dJ t=false:=by
     have q:=ah hno;rw[hkk,af0 (by simp)]at q;unfold dJ;rw[q,show decide (60<t.size)=false by simp;omega];rfl
    have HNT:=aj hnt;clear hnt hkk hno
    go_wp2_with fail
    refine ad8 (v:=.bool true) (by simp[results,results32,go_sem]) rfl ⟨by rw[ah HNT];rfl,hbw⟩
end Go.Proofs.YthcppbmkacbbiaaGreat
