import Derived.Test.YthcppbmkacbbiaaGreatZAW
set_option linter.unusedSimpArgs false
set_option maxHeartbeats 4000000
set_option maxRecDepth 100000
namespace Go.Proofs.YthcppbmkacbbiaaGreat
open Go.Proofs.Tryz
open Go.RowKit Go.Maps Go.WideMaps
open Sat (View Rule jT cZ)
abbrev Tr:Type:=Nat×Bool×Value×Rule
def wM(v:Value):Option (DataW Value×List MemPlace):=some (.held v,[])
def pO(q:Tr)(k:Nat):Value:=.agg #[.bool q.2.1,.int .i64 k,q.2.2.1]
def KP(q:Tr×Nat):Lit×DataW Value:=(.int .i64 q.1.1,.held (pO q.1 q.2))
def ents(τ:List Tr):List (Lit×DataW Value):=τ.zipIdx.map KP
def nK(τ:List Tr)(x:Nat):Option (Tr×Nat):=τ.zipIdx.find? λq=>q.1.1==x
def bel(τ:List Tr):cZ:=λx=>(nK τ x).map λq=>(q.1.2.1,q.2,q.1.2.2.2)
def wF(τ:List Tr)(x:Nat):Value:=match nK τ x with
 |some q=>pO q.1 q.2
 |none=>.agg #[.bool false,.int .i64 0,.slice none 0 0]
def mD(τ:List Tr)(x:Nat):Bool:=(nK τ x).isSome
structure bZ(w:World)(m:Nat)(τ:List Tr):Prop where
 map:∃es,w.ownsMap prog 3 wM m τ.length (.map es)/\es.Perm (ents τ)
 le:∀q∈τ,q.1<=1000
 Qm:∀q∈τ,bg w q.2.2.1 q.2.2.2
 nodup:(τ.map (·.1)).Nodup
theorem bZ.lt{w:World}{m:Nat}{τ:List Tr}(h:bZ w m τ):m<w.heap.size:=by
 obtain⟨es,h1,_⟩:=h.map;exact h1.lt
theorem bZ.pz{w:World}{m:Nat}{τ:List Tr}(h:bZ w m τ):kH w m:=by
 obtain⟨es,⟨_,_,h1,_⟩,_⟩:=h.map;intro cur x e;rw[h1]at e;cases e
theorem bZ.but{S:Nat->Prop}{w w':World}{m:Nat}{τ:List Tr}(h:bZ w m τ)(hb:But S w w')(hS:∀k,S k->kH w k)(hm:¬S m):bZ w' m τ:=by
 refine⟨?_,h.le,λq hq=>(h.Qm q hq).but hb hS,h.nodup⟩;have hlt:=h.lt;obtain⟨es,⟨e1,c1,h1,h2⟩,h3⟩:=h.map;exact⟨es,⟨e1,c1,(hb.block m hlt hm).trans h1,h2⟩,h3⟩
theorem P8(τ:List Tr)(q:Tr):ents (τ++[q])=ents τ++[KP (q,τ.length)]:=by
 simp[ents,List.zipIdx_append]
theorem AZ{τ:List Tr}{q:Tr}{x:Nat}(h:x≠q.1):nK (τ++[q]) x=nK τ x:=by
 have e:(q.1==x)=false:=by simp;omega
 simp[nK,List.zipIdx_append,List.find?_append,e]
theorem CV{τ:List Tr}{q:Tr}(h:q.1∉τ.map (·.1)):nK (τ++[q]) q.1=some (q,τ.length):=by
 have e:List.find? (λp:Tr×Nat=>p.1.1==q.1) τ.zipIdx=none:=by
  rw[au8];intro p hp;have:=(au1 hp).2.2;simp only[beq_iff_eq];intro e;refine h (ah3.2 ⟨p.1,?_,e⟩);rw[this];simp
 simp[nK,List.zipIdx_append,List.find?_append,e]
theorem II{τ:List Tr}{q:Tr}(h:q.1∉τ.map (·.1)):bel (τ++[q])=Sat.add (bel τ) q.1 (q.2.1,τ.length,q.2.2.2):=by
 funext x;by_cases e:x=q.1
 ·subst e;rw[Sat.add_same];simp[bel,CV h]
 ·rw[Sat.dH _ e];simp[bel,AZ e]
theorem dS{τ:List Tr}{x:Nat}{q:Tr}{k:Nat}(h:nK τ x=some (q,k)):q.1=x/\∃hk:k<τ.length,τ[k]=q:=by
 have h1:=List.find?_some h;have h2:=List.mem_of_find?_eq_some h;have h3:=au1 h2;refine⟨by simpa using h1,by have:=h3.2.1;omega,?_⟩;simpa using h3.2.2.symm
theorem kF{τ:List Tr}{x:Nat}:nK τ x=none↔x∉τ.map (·.1):=by
 constructor
 ·intro h hx;obtain⟨q,hq,rfl⟩:=ah3.1 hx;obtain⟨k,hk,e⟩:=aj2 hq;have h1:=au8.1 h (q,k) (by rw[List.mk_mem_zipIdx_iff_getElem?];rw[af2 hk,e]);simp at h1
 ·intro h;unfold nK;rw[au8];intro p hp;have:=(au1 hp).2.2;simp only[beq_iff_eq];intro e;refine h (ah3.2 ⟨p.1,?_,e⟩);rw[this];simp
theorem jQ{τ:List Tr}(hn:(τ.map (·.1)).Nodup){k:Nat}(hk:k<τ.length):nK τ τ[k].1=some (τ[k],k):=by
 cases e:nK τ τ[k].1 with
 |none=>
  exact absurd (ah3.2 ⟨τ[k],af4 hk,rfl⟩) (kF.1 e)
 |some q=>
  obtain⟨q,j⟩:=q;obtain⟨h1,hj,h2⟩:=dS e;subst h2;have:=(List.getElem?_inj (l:=τ.map (λq=>q.1)) (i:=j) (j:=k) (by simpa using hj) hn).1 (by simp[hj,hk,h1]);subst this;rfl
theorem ZO{τ:List Tr}{x:Nat}{b:jT}(h:bel τ x=some b):b.2.1<τ.length:=by
 unfold bel at h;cases e:nK τ x with
 |none=>rw[e]at h;cases h
 |some q=>
  rw[e]at h;obtain⟨q,k⟩:=q;cases h;exact(dS e).2.1
theorem BD{τ:List Tr}{x:Nat}:bel τ x=none↔x∉τ.map (·.1):=by
 rw[<-kF];simp[bel]
theorem nN{τ:List Tr}(hn:(τ.map (·.1)).Nodup)(k:Nat):bel (τ.take k)=Sat.before (bel τ) k:=by
 funext x;have hn':((τ.take k).map (·.1)).Nodup:=by rw[List.map_take];exact hn.sublist (List.take_sublist _ _)
 cases e:bel (τ.take k) x with
 |none=>
  have h1:=BD.1 e;unfold Sat.before;cases e2:bel τ x with
  |none=>rfl
  |some b=>
   simp only;by_cases hb:b.2.1<k
   ·exfalso;unfold bel at e2;cases e3:nK τ x with
    |none=>rw[e3]at e2;cases e2
    |some q=>
     rw[e3]at e2;obtain⟨q,j⟩:=q;cases e2;obtain⟨h2,hj,h3⟩:=dS e3;refine h1 (ah3.2 ⟨q,?_,h2⟩);rw[<-h3];have hb':j<k:=hb;have:j<(τ.take k).length:=(by simp;omega);have e4:(τ.take k)[j]=τ[j]:=(by simp);rw[<-e4];exact af4 _
   ·rw[af6 hb]
 |some b=>
  symm;rw[Sat.dK];have hl:=ZO e;simp at hl;unfold bel at e;cases e3:nK (τ.take k) x with
  |none=>rw[e3]at e;cases e
  |some q=>
   rw[e3]at e;obtain⟨q,j⟩:=q;cases e;obtain⟨h2,hj,h3⟩:=dS e3;have hj':j<τ.length/\j<k:=(by simp at hj;omega);have h4:τ[j]=q:=(by rw[<-h3];simp);refine⟨?_,hj'.2⟩;have:=jQ hn hj'.1;rw[h4,h2]at this;simp[bel,this]
theorem atKey_mem:∀{es:List (Lit×DataW Value)},es.Pairwise (λp q=>p.1≠q.1)->∀{x:Nat} {d:DataW Value},(.int .i64 x,d)∈es->∀z,(DataW.map es).atKey (.int .i64 x) z=d
 |[],_,_,_,h,_=>by cases h
 |p::es,hp,x,d,h,z=>by
  have hp':=List.pairwise_cons.1 hp;have self:(Lit.int .i64 x).sameKey (Lit.int .i64 x)=true:=by simp[Lit.sameKey]
  rcases aj8.1 h with e|h
  ·subst e;simp only[DataW.atKey];rw[List.find?_cons_of_pos (by exact self)]
  ·have hne:=hp'.1 _ h;have e:p.1.sameKey (.int .i64 x)=false:=by
    cases hs:p.1.sameKey (.int .i64 x)
    ·rfl
    ·exact absurd (WideAt.sameKey_eq hs) hne
   have ih:=atKey_mem hp'.2 h z;simp only[DataW.atKey]at ih ⊢;rw[List.find?_cons_of_neg (by rw[e];simp)];exact ih
theorem QO(w:World):(zeroValue 229).run prog w=.ok (.agg #[.bool false,.int .i64 0,.slice none 0 0]) w:=by kernel_rfl
theorem bZ.has{τ:List Tr}{es:List (Lit×DataW Value)}(hp:es.Perm (ents τ))(x:Nat):Maps.has (.map es) (.int .i64 x)=mD τ x:=by
 have key:Maps.has (.map es) (.int .i64 x)=true↔mD τ x=true:=by
  constructor
  ·intro h1;obtain⟨p,hp1,hp2⟩:=ap6.1 h1;have hp3:=hp.mem_iff.1 hp1;obtain⟨⟨q,k⟩,hq,rfl⟩:=ah3.1 hp3;have e:=WideAt.sameKey_eq hp2;have e2:q.1=x:=(by simp[KP]at e;omega);cases e3:nK τ x with
   |none=>
    refine absurd ?_ (kF.1 e3);have:=(au1 hq).2.2;refine ah3.2 ⟨q,?_,e2⟩;rw[this];simp
   |some _=>simp[mD,e3]
  ·intro h1;cases e3:nK τ x with
   |none=>simp[mD,e3]at h1
   |some q=>
    obtain⟨q,k⟩:=q;obtain⟨h2,hk,h3⟩:=dS e3;refine ap6.2 ⟨KP (q,k),hp.mem_iff.2 (ah3.2 ⟨(q,k),?_,rfl⟩),?_⟩
    ·rw[List.mk_mem_zipIdx_iff_getElem?,af2 hk,h3]
    ·subst h2;simp[KP,Lit.sameKey]
 cases h1:Maps.has (.map es) (.int .i64 x)<;>cases h2:mD τ x<;>simp_all
theorem bZ.atKey{τ:List Tr}{es:List (Lit×DataW Value)}(hp:es.Perm (ents τ))(hd:es.Pairwise (λp q=>p.1≠q.1))(x:Nat) :
  (DataW.map es).atKey (.int .i64 x) (.held (.agg #[.bool false,.int .i64 0,.slice none 0 0]))=.held (wF τ x):=by
 cases e3:nK τ x with
 |none=>
  have h0:=bZ.has hp x;have h1:Maps.has (.map es) (.int .i64 x)=false:=by rw[h0];simp[mD,e3]
  have h2:(es.find? λp=>p.1.sameKey (.int .i64 x))=none:=by
   rw[au8];intro p hp1 hp2;have:Maps.has (.map es) (.int .i64 x)=true:=ap6.2 ⟨p,hp1,hp2⟩;rw[h1]at this;cases this
  simp only[DataW.atKey];rw[h2];simp[wF,e3]
 |some q=>
  obtain⟨q,k⟩:=q;obtain⟨h2,hk,h3⟩:=dS e3;have:wF τ x=pO q k:=by simp[wF,e3]
  rw[this];refine atKey_mem hd (hp.mem_iff.2 (ah3.2 ⟨(q,k),?_,?_⟩)) _
  ·rw[List.mk_mem_zipIdx_iff_getElem?,af2 hk,h3]
  ·subst h2;rfl
theorem bZ.look{w:World}{m:Nat}{τ:List Tr}(h:bZ w m τ){x:Nat}(hx:x<=1000):(Instr.lookup 159 (.map (some m)) (.int .i64 x) true).run prog w=.ok (.tuple #[wF τ x,.bool (mD τ x)]) w:=by
 obtain⟨es,h1,h2⟩:=h.map;obtain⟨es',e1,e2,_⟩:=h1.entries iH;cases e1;obtain⟨v,ps,hrun,hv⟩:=h1.look_ok iH underlying159 (QO w) (zd:=.held (.agg #[.bool false,.int .i64 0,.slice none 0 0])) (zp:=[]) rfl (sZ hx);rw[bZ.atKey h2 e2 x]at hv;cases hv;rw[hrun,bZ.has h2 x]
theorem bZ.look1{w:World}{m:Nat}{τ:List Tr}(h:bZ w m τ){x:Nat}(hx:x<=1000):(Instr.lookup 159 (.map (some m)) (.int .i64 x) false).run prog w=.ok (wF τ x) w:=by
 obtain⟨es,h1,h2⟩:=h.map;obtain⟨es',e1,e2,_⟩:=h1.entries iH;cases e1;obtain⟨v,ps,hrun,hv⟩:=h1.lookup iH underlying159 (QO w) (zd:=.held (.agg #[.bool false,.int .i64 0,.slice none 0 0])) (zp:=[]) rfl (sZ hx);rw[bZ.atKey h2 e2 x]at hv;cases hv;exact hrun
theorem bZ.len{w:World}{m:Nat}{τ:List Tr}(h:bZ w m τ)(ty:TypeId):(Builtin.len_ #[159] ty #[.map (some m)]).run prog w=.ok (.int .i64 τ.length) w:=by
 obtain⟨es,h1,h2⟩:=h.map;rw[h1.len underlying159 ty];have:Maps.size (.map es:DataW Value)=τ.length:=by
  show es.length=_
  rw[h2.length_eq];simp[ents]
 rw[this]
theorem bZ.made(w:World):bZ (w.alloc (.map #[] 0)) w.heap.size []:=
 ⟨⟨[],World.ownsMap_made w _ _ _,List.Perm.nil⟩,λ_ h=>(by cases h),λ_ h=>(by cases h),by simp⟩
theorem bZ.put{w:World}{m:Nat}{τ:List Tr}(h:bZ w m τ)(hl:τ.length<=1000){q:Tr}(hx:q.1<=1000)(hq:q.1∉τ.map (·.1))(hv:bg w q.2.2.1 q.2.2.2) :
  ∃w',(Instr.mapUpdate 159 (.map (some m)) (.int .i64 q.1) (pO q τ.length)).run prog w=.ok () w'/\bZ w' m (τ++[q])/\w.grownBy w' (some m):=by
 have hnv:=h.pz;obtain⟨es,h1,h2⟩:=h.map;obtain⟨es',e1,e2,_⟩:=h1.entries iH;cases e1;obtain⟨w',hrun,hown,hg⟩:=h1.update iH underlying159 (by unfold maxLen;omega) (sZ hx) (d:=.held (pO q τ.length)) (ps:=[]) rfl;have hb:=But.aB hg;have hS:∀k,some k=some m->kH w k:=λk e=>by cases e;exact hnv
 refine⟨w',hrun,⟨⟨DataW.insert (.int .i64 q.1,.held (pO q τ.length)) (es.filter λp=>!p.1.sameKey (.int .i64 q.1)),?_,?_⟩,?_,?_,?_⟩,hg⟩
 ·rw[ah1];exact hown
 ·have hfil:(es.filter λp=>!p.1.sameKey (.int .i64 q.1))=es:=by
   rw[List.filter_eq_self];intro p hp;have h0:=bZ.has h2 q.1;have h3:mD τ q.1=false:=(by simp[mD,kF.2 hq]);cases hs:p.1.sameKey (.int .i64 q.1)
   ·rfl
   ·have:Maps.has (.map es) (.int .i64 q.1)=true:=ap6.2 ⟨p,hp,hs⟩;rw[h0,h3]at this;cases this
  rw[hfil,P8];refine((WideShapes.insert_perm _ _).trans (h2.cons _)).trans ?_;exact(List.perm_append_comm (l₁:=[KP (q,τ.length)]))
 ·intro p hp;rcases ai3.1 hp with hp|hp
  ·exact h.le p hp
  ·rw[ah6.1 hp];exact hx
 ·intro p hp;rcases ai3.1 hp with hp|hp
  ·exact(h.Qm p hp).but hb hS
  ·rw[ah6.1 hp];exact hv.but hb hS
 ·rw[al7,aq4];refine⟨h.nodup,by simp,λa ha b hb e=>?_⟩;simp at hb;subst e;subst hb;exact hq ha
theorem yh(w:World)(b U:Nat)(rv ov:Value)(tp:List UInt8)(m:Nat)(τ:List Tr)(q:Tr)(h:o9 w b U rv ov tp (some m))(hB:bZ w m τ)(hl:τ.length<=1000)(hx:q.1<=1000)(hq:q.1∉τ.map (·.1))(hv:bg w q.2.2.1 q.2.2.2) :
  Calls prog 176 #[.pointer (some ⟨b,0,none⟩),.agg #[.int .i64 q.1,.bool q.2.1],q.2.2.1] w λe w'=>(∃v,e=.returned v)/\bZ w' m (τ++[q])/\w.grownBy w' (some m):=by
 obtain⟨x,i,v,r⟩:=q;obtain⟨rp,rc,hvr⟩:=hv.len;simp only at hvr;subst hvr;obtain⟨W1,hW1⟩:∃W1,(w.alloc (.cells #[.int .i64 x,.bool i] 214)).drew=W1:=⟨_,rfl⟩;have hg0:w.grownBy (w.alloc (.cells #[.int .i64 x,.bool i] 214)) none:=ae9 _ _ none;have hg1:w.grownBy W1 none:=by rw[<-hW1];exact hg0.trans ⟨rfl,rfl,rfl,af0 _,λ_ _ _=>rfl⟩
 have hb1:=But.aB hg1;have hno:∀k,some k=none->kH w k:=λk e=>by cases e
 have hB1:bZ W1 m τ:=hB.but hb1 hno (by simp);have h1:o9 W1 b U rv ov tp (some m):=h.kept (hg1.block b h.lt (by simp));obtain⟨c0,c1,c2,c3,c4⟩:=h1.cells;have k0:W1.cell? ⟨w.heap.size,0,none⟩=some (.int .i64 x):=by rw[<-hW1];simp[go_sem]
 have k1:W1.cell? ⟨w.heap.size,1,none⟩=some (.bool i):=by rw[<-hW1];simp[go_sem]
 have hlen:=hB1.len 3;obtain⟨w2,hrun,hB2,hg2⟩:=hB1.put (q:=(x,i,.slice rp r.length rc,r)) hl hx hq (hv.but hb1 hno);have HB2:=aj hB2;have HG2:=aj ((hg1.but (some m)).trans hg2);clear hB hB1 h h1 hv hno hb1 hg0 hg1 hB2 hg2 hq
 go_enter func176,ntmps176
 go_wp2_with fail
 refine wp_region_any rfl (eY (S:=λW'=>W'=W1) (z:=15) _ _ _ _ ?_);have hS0:W1=W1:=rfl;simp only[ag3,ag0,ah0,Nat.reduceAdd,af8,af7,ag5,ag9,ag7];change wpAnyL prog .any _ _ _ _ _ _ _ (w.alloc (.cells #[.int .i64 x,.bool i] 214)).drew;rw[hW1];clear hW1;refine tL 0 (.pointer (some ⟨b,0,none⟩)) (λw' hS=>?_) hS0 ?_
 ·subst hS;go_simp
 simp only[aG];refine tL 1 (.pointer (some ⟨b,0,none⟩)) (λw' hS=>?_) hS0 ?_
 ·subst hS;go_simp
 simp only[aG];refine tL 2 (.pointer (some ⟨b,4,none⟩)) (λw' hS=>?_) hS0 ?_
 ·subst hS;go_simp
 simp only[aG];refine tL 3 (.map (some m)) (λw' hS=>?_) hS0 ?_
 ·subst hS;go_simp
 simp only[aG];refine tL 4 (.pointer (some ⟨w.heap.size,0,none⟩)) (λw' hS=>?_) hS0 ?_
 ·subst hS;go_simp
 simp only[aG];refine tL 5 (.int .i64 x) (λw' hS=>?_) hS0 ?_
 ·subst hS;go_simp
 simp only[aG];refine tL 6 (.pointer (some ⟨w.heap.size,1,none⟩)) (λw' hS=>?_) hS0 ?_
 ·subst hS;go_simp
 simp only[aG];refine tL 7 (.bool i) (λw' hS=>?_) hS0 ?_
 ·subst hS;go_simp
 simp only[aG];refine tL 8 (.pointer (some ⟨b,0,none⟩)) (λw' hS=>?_) hS0 ?_
 ·subst hS;go_simp
 simp only[aG];refine tL 9 (.pointer (some ⟨b,0,none⟩)) (λw' hS=>?_) hS0 ?_
 ·subst hS;go_simp
 simp only[aG];refine tL 10 (.pointer (some ⟨b,4,none⟩)) (λw' hS=>?_) hS0 ?_
 ·subst hS;go_simp
 simp only[aG];refine tL 11 (.map (some m)) (λw' hS=>?_) hS0 ?_
 ·subst hS;go_simp
 simp only[aG];refine tL 12 (.int .i64 τ.length) (λw' hS=>?_) hS0 ?_
 ·subst hS;simp[execOp,resolve,invoke,builtin,hlen,Result.andThen,go_sem]
 simp only[aG];refine tL 13 (.slice rp r.length rc) (λw' hS=>?_) hS0 ?_
 ·subst hS;go_simp
 simp only[aG];refine tL 14 (.agg #[.bool i,.int .i64 τ.length,.slice rp r.length rc]) (λw' hS=>?_) hS0 ?_
 ·subst hS;go_simp
 simp only[aG];refine oL 15 (λK hK=>?_);have hrun':(Instr.mapUpdate 159 (.map (some m)) (.int .i64 x) (.agg #[.bool i,.int .i64 τ.length,.slice rp r.length rc])).run prog W1=.ok () w2:=hrun;clear hrun;go_simp;refine hK.out _ _ (λh=>absurd rfl h) (fM (by kernel_rfl) ?_ _)
 go_end0
 exact⟨⟨_,rfl⟩,ah HB2,ah HG2⟩
def unk(τ:List Tr)(v:View):Bool:=!mD τ v.1
def Gu(τ:List Tr)(v:View):Bool:=match nK τ v.1 with
 |some q=>q.1.2.1==v.2
 |none=>false
def eH(τ:List Tr)(r:Rule):View:=(r.filter (unk τ)).getLastD (0,false)
theorem JJ{τ:List Tr}{r:Rule}{k:Nat}(hk:k<r.length):eH τ (r.take (k+1))=if unk τ r[k]then r[k]else eH τ (r.take k):=by
 unfold eH;rw[ai4,af2 hk,ap9];by_cases h:unk τ r[k]=true<;>simp[h]
theorem Qe{τ:List Tr}{r:Rule}{k:Nat}(hk:k<r.length):((r.take (k+1)).filter (unk τ)).length=((r.take k).filter (unk τ)).length+if unk τ r[k]then 1 else 0:=by
 rw[ai4,af2 hk,ap9];by_cases h:unk τ r[k]=true<;>simp[h]
theorem Qq{α:Type}{p:α->Bool}{r:List α}{k:Nat}(hk:k<r.length):(r.take (k+1)).any p=((r.take k).any p||p r[k]):=by
 rw[ai4,af2 hk,List.any_append];simp
theorem bZ.DC{w:World}{m:Nat}{τ:List Tr}(h:bZ w m τ)(x:Nat):∃bi bk p l c,wF τ x=.agg #[.bool bi,.int .i64 bk,.slice p l c]/\∀i,Gu τ (x,i)=(mD τ x&&(bi==i)):=by
 cases e:nK τ x with
 |none=>exact⟨false,0,none,0,0,by simp[wF,e],λi=>by simp[Gu,mD,e]⟩
 |some q=>
  obtain⟨q,k⟩:=q;obtain⟨h1,hk,h2⟩:=dS e;obtain⟨p,c,h3⟩:=(h.Qm q (h2▸af4 hk)).len;exact⟨q.2.1,k,p,q.2.2.2.length,c,by simp[wF,e,pO,h3],λi=>by simp[Gu,mD,e]⟩
def opE(τ:List Tr)(r:Rule)(e:Ending):Prop:=
 (r.any (Gu τ)=true/\∃v:View,e=.returned (.tuple #[.agg #[.int .i64 v.1,.bool v.2],.int .i64 (-1)]))\/
 (r.any (Gu τ)=false/\e=.returned (.tuple #[.agg #[.int .i64 (eH τ r).1,.bool (eH τ r).2],.int .i64 (r.filter (unk τ)).length]))
theorem open_any(w:World)(b U:Nat)(rv ov:Value)(tp:List UInt8)(m:Nat)(τ:List Tr)(h:o9 w b U rv ov tp (some m))(hB:bZ w m τ)(v:Value)(r:Rule)(hv:bg w v r)(hr:r≠[])(hr5:r.length<=1000)(hx:∀u∈r,u.1<=1000) :
  Calls prog 175 #[.pointer (some ⟨b,0,none⟩),v] w λe w'=>opE τ r e/\Below w.heap.size w w':=by
 rcases hv with⟨hv,_⟩|⟨g,cap,cur,x,rfl,hg,_,hcur⟩
 ·exact absurd hv hr
 have hgl:g<w.heap.size:=(ae8.1 hg).1;have hc:∀W:World,Below w.heap.size w W->∀k (hk:k<r.length),W.cell? ⟨g,k*2,none⟩=some (.int .i64 r[k].1)/\W.cell? ⟨g,k*2+1,none⟩=some (.bool r[k].2):=λW hW k hk=>by
  rw[hW.cell (p:=⟨g,_,none⟩) hgl,hW.cell (p:=⟨g,_,none⟩) hgl,cell_of hg,cell_of hg];exact hcur k hk
 have hc4:∀W:World,Below w.heap.size w W->W.cell? ⟨b,4,none⟩=some (.map (some m)):=λW hW=>by
  rw[hW.cell (p:=⟨b,_,none⟩) h.lt];exact h.cells.2.2.2.2
 have hlook:∀W:World,Below w.heap.size w W->∀k (hk:k<r.length),(Instr.lookup 159 (.map (some m)) (.int .i64 r[k].1) true).run prog W=.ok (.tuple #[wF τ r[k].1,.bool (mD τ r[k].1)]) W:=λW hW k hk=>
  (hB.but (But.of_below hW (λ_=>False)) (λ_ h=>h.elim) (λh=>h)).look (hx _ (af4 hk))
 have hsh:=λx=>hB.DC x;have HSH:=aj hsh;clear hsh;have HC:=aj hc;have HC4:=aj hc4;have HL:=aj hlook;have hbl:=h.lt;clear hc hc4 hlook hcur hg hB h hx
 go_enter func175,ntmps175
 go_wp2_with fail
 go_loopw [5,12] (λo i wr=>∃k:Nat,k<=r.length/\i=.int .i64 k/\o=.int .i64 ((r.take k).filter (unk τ)).length/\(r.take k).any (Gu τ)=false/\wr.heap[w.heap.size]?=some (.cells #[.int .i64 (eH τ (r.take k)).1,.bool (eH τ (r.take k)).2] 214 (0,0))/\Below w.heap.size w wr) (λ_ i _=>r.length-(intOf i).toNat)
 case atStart=>
  refine⟨0,ah9 _,rfl,rfl,rfl,?_,(ai7 _ _).alloc (af0 _) _⟩;rw[ag4];rfl
 case round=>
  obtain⟨k,hk,rfl,rfl,hany,hlast,hbw⟩:=hrel;by_cases hlt:k<r.length
  ·have hbd:(k:Int)<(r.length:Int):=(by omega);obtain⟨d0,d1⟩:=ah HC wr hbw k hlt;have hl1:=JJ (τ:=τ) hlt;have hl2:=Qe (τ:=τ) hlt;have hl3:=Qq (p:=Gu τ) hlt;rw[hany,av3]at hl3;have HL1:=aj hl1;have HL2:=aj hl2;have HL3:=aj hl3;have HBW:=aj hbw;have HLA:=aj hlast;clear hl1 hl2 hl3 hbw hlast hany;have hlk:Hid (∀W:World,Below w.heap.size w W->(Instr.lookup 159 (.map (some m)) (.int .i64 r[k].1) true).run prog W=.ok (.tuple #[wF τ r[k].1,.bool (mD τ r[k].1)]) W):=λW hW=>ah HL W hW k hlt;generalize r[k]=u at d0 d1 HL1 HL2 HL3 hlk;obtain⟨ux,ui⟩:=u;simp only at d0 d1 hlk;obtain⟨bi,bk,bp,bl,bc,hsh,hrg⟩:=ah HSH ux;rw[hsh]at hlk;have HRG:=aj hrg;have hun:unk τ (ux,ui)=!mD τ ux:=rfl;rw[hun]at HL1 HL2;rw[hrg]at HL3;clear hsh hrg hun;generalize mD τ ux=ko at hlk HRG HL1 HL2 HL3
   go_wp2_with fail
   obtain⟨W1,hW1⟩:∃W1,wr.alloc (.cells #[.int .i64 ux,.bool ui] 214)=W1:=⟨_,rfl⟩;have hbW:Below w.heap.size w W1:=(by rw[<-hW1];exact(ah HBW).alloc (ah HBW).size _);have hsW:W1.heap.size=wr.heap.size+1:=(by rw[<-hW1];simp);have k0:W1.cell? ⟨wr.heap.size,0,none⟩=some (.int .i64 ux):=(by rw[<-hW1];simp[go_sem]);have k1:W1.cell? ⟨wr.heap.size,1,none⟩=some (.bool ui):=(by rw[<-hW1];simp[go_sem]);have hlW:W1.heap[w.heap.size]?=some (.cells #[.int .i64 (eH τ (r.take k)).1,.bool (eH τ (r.take k)).2] 214 (0,0)):=by
    rw[<-hW1,ag1 _ _ _ (ae8.1 (ah HLA)).1];exact ah HLA
   have hwl:w.heap.size<wr.heap.size:=(ae8.1 (ah HLA)).1;have HLW:=aj hlW;have hc4:=ah HC4 W1 hbW;have HSW:=aj hsW;have aaf:=aj hbW;rw[hW1];clear hW1 hlW hsW hbW HLA HBW d0 d1;refine aj0 (S:=λW'=>W1.grownBy W' none) rfl ?_;have hS0:W1.grownBy W1.drew none:=⟨rfl,rfl,rfl,af0 _,λ_ _ _=>rfl⟩;have hSb:Hid (∀W',W1.grownBy W' none->Below w.heap.size w W'):=λW' h=>(ah aaf).grown h (ah aaf).size (λk e=>by cases e);simp only[ag3,ag0,ah0,Nat.reduceAdd,af8,af7,ag5,ag9,ag7];change wpAnyH prog .any _ _ _ _ _ _ W1.drew;refine tH 0 (.pointer (some ⟨b,0,none⟩)) (λw' hS=>?_) hS0 ?_
   ·go_simp
   simp only[aG];refine tH 1 (.pointer (some ⟨b,0,none⟩)) (λw' hS=>?_) hS0 ?_
   ·go_simp
   simp only[aG];refine tH 2 (.pointer (some ⟨b,4,none⟩)) (λw' hS=>?_) hS0 ?_
   ·go_simp
   simp only[aG];refine tH 3 (.map (some m)) (λw' hS=>?_) hS0 ?_
   ·have q:=hS.cell hc4 (by simp);go_simp
   simp only[aG];refine tH 4 (.pointer (some ⟨wr.heap.size,0,none⟩)) (λw' hS=>?_) hS0 ?_
   ·go_simp
   simp only[aG];refine tH 5 (.int .i64 ux) (λw' hS=>?_) hS0 ?_
   ·have q:=hS.cell k0 (by simp);go_simp
   simp only[aG];refine tH 6 (.tuple #[.agg #[.bool bi,.int .i64 bk,.slice bp bl bc],.bool ko]) (λw' hS=>?_) hS0 ?_
   ·have q:=ah hlk w' (ah hSb w' hS);go_simp
   simp only[aG];refine tH 7 (.tuple #[.agg #[.bool bi,.int .i64 bk,.slice bp bl bc],.bool ko]) (λw' hS=>?_) hS0 ?_
   ·go_simp
   simp only[aG];refine tH 8 (.agg #[.bool bi,.int .i64 bk,.slice bp bl bc]) (λw' hS=>?_) hS0 ?_
   ·go_simp
   simp only[aG];refine tH 9 (.bool ko) (λw' hS=>?_) hS0 ?_
   ·go_simp
   simp only[aG];refine oH 10 (λK hK=>?_);go_simp;have hS1:W1.grownBy (W1.alloc (.cells #[.bool false,.int .i64 0,.slice none 0 0] 229)).drew none:=(ae9 _ _ none).trans ⟨rfl,rfl,rfl,af0 _,λ_ _ _=>rfl⟩;refine hK.out _ _ hS1 ?_;clear hK K;refine oH 11 (λK hK=>?_);go_simp;have hS2:W1.grownBy (W1.alloc (.cells #[.bool bi,.int .i64 bk,.slice bp bl bc] 229)).drew none:=(ae9 _ _ none).trans ⟨rfl,rfl,rfl,af0 _,λ_ _ _=>rfl⟩;refine hK.out _ _ hS2 ?_;clear hK K;refine oH 12 (λK hK=>?_);go_simp;refine hK.out _ _ hS2 (ai8 (by kernel_rfl) ?_ _);clear hK K;obtain⟨W2,hW2⟩:∃W2,(W1.alloc (.cells #[.bool bi,.int .i64 bk,.slice bp bl bc] 229)).drew=W2:=⟨_,rfl⟩;have n0:W2.cell? ⟨W1.heap.size,0,none⟩=some (.bool bi):=(by rw[<-hW2];simp[go_sem]);have b2:Below w.heap.size w W2:=(by rw[<-hW2];exact ah hSb _ hS2);have q0:W2.cell? ⟨wr.heap.size,0,none⟩=some (.int .i64 ux):=(by rw[<-hW2];exact hS2.cell k0 (by simp));have q1:W2.cell? ⟨wr.heap.size,1,none⟩=some (.bool ui):=(by rw[<-hW2];exact hS2.cell k1 (by simp));have hl2:W2.heap[w.heap.size]?=some (.cells #[.int .i64 (eH τ (r.take k)).1,.bool (eH τ (r.take k)).2] 214 (0,0)):=by
    rw[<-hW2,hS2.block _ (by have:=ah HSW;omega) (by simp)];exact ah HLW
   have fz0:W2.frozen? ⟨w.heap.size,0,none⟩=false:=(by simp[World.frozen?,hl2]);have fz1:W2.frozen? ⟨w.heap.size,1,none⟩=false:=(by simp[World.frozen?,hl2]);have lc0:W2.cell? ⟨w.heap.size,0,none⟩=some (.int .i64 (eH τ (r.take k)).1):=(by rw[cell_of hl2];rfl);have lc1:W2.cell? ⟨w.heap.size,1,none⟩=some (.bool (eH τ (r.take k)).2):=(by rw[cell_of hl2];rfl);have HB2:=aj b2;have HL4:=aj hl2;rw[hW2];clear hW2 hS0 hS1 hS2 k0 k1 hc4 b2 hl2;cases ko
   ·simp only[Bool.not_false,am9,at1]at HL1 HL2 HL3
    go_wp2_with fail
    refine⟨⟨k+1,hlt,by go_num,?_,ah HL3,?_,((ah HB2).setCell (af0 _) _).setCell (af0 _) _⟩,by simp[intOf];omega⟩
    ·have hcb:((r.take k).filter (unk τ)).length<=1000:=ah2 (List.length_filter_le _ _) (ah2 (List.length_take_le' _ _) hr5);rw[ah HL2];congr 1;unfold wrap64;omega
    ·rw[ah HL1,hsQ (hsQ (ah HL4))];rfl
   ·simp only[Bool.not_true,aq0,aq3,Bool.true_and]at HL1 HL2 HL3;cases hbb:bi==ui
    ·rw[hbb]at HL3;have hbn:(bi=ui)=False:=by simpa using hbb
     go_wp2_with fail
     exact⟨⟨k+1,hlt,by go_num,by rw[ah HL2];rfl,ah HL3,by rw[ah HL1];exact ah HL4,ah HB2⟩,by simp[intOf];omega⟩
    ·rw[hbb]at HL3;obtain rfl:bi=ui:=(by simpa using hbb);clear hbb;have hany:r.any (Gu τ)=true:=by
      rw[<-ar2 (k+1) r,List.any_append,ah HL3];rfl
     have HA:=aj hany;clear hany
     go_wp2_with fail
     have hF:=hsQ (i:=1) (u:=.bool bi) (hsQ (i:=0) (u:=.int .i64 ux) (ah HL4));have hbF:=((ah HB2).setCell (p:=⟨w.heap.size,0,none⟩) (af0 _) (.int .i64 ux)).setCell (p:=⟨w.heap.size,1,none⟩) (af0 _) (.bool bi);generalize (W2.setCell ⟨w.heap.size,0,none⟩ (.int .i64 ux)).setCell ⟨w.heap.size,1,none⟩ (.bool bi)=WF at hF hbF ⊢;have f0:WF.cell? ⟨w.heap.size,0,none⟩=some (.int .i64 ux):=(by rw[cell_of hF];rfl);have f1:WF.cell? ⟨w.heap.size,1,none⟩=some (.bool bi):=(by rw[cell_of hF];rfl);refine ah7 (v:=.tuple #[.agg #[.int .i64 ux,.bool bi],.int .i64 (-1)]) (by simp[results,results175,go_sem,f0,f1]) rfl ⟨Or.inl ⟨ah HA,(ux,bi),rfl⟩,hbF⟩
  ·have hkk:k=r.length:=(by omega);have hbd:¬(k:Int)<(r.length:Int):=(by omega);rw[hkk,ak8]at hany hlast;have lc0:wr.cell? ⟨w.heap.size,0,none⟩=some (.int .i64 (eH τ r).1):=(by rw[cell_of hlast];rfl);have lc1:wr.cell? ⟨w.heap.size,1,none⟩=some (.bool (eH τ r).2):=(by rw[cell_of hlast];rfl);have fz0:wr.frozen? ⟨w.heap.size,0,none⟩=false:=(by simp[World.frozen?,hlast]);have fz1:wr.frozen? ⟨w.heap.size,1,none⟩=false:=(by simp[World.frozen?,hlast]);have HA:=aj hany;have HBW:=aj hbw;have hfl:(List.filter (unk τ) (r.take k)).length=(r.filter (unk τ)).length:=(by rw[hkk,ak8]);rw[hfl];have HLA:=aj hlast;clear hany hlast hbw hfl hkk;generalize hlu:eH τ r=lu at lc0 lc1 HLA;generalize hcu:(r.filter (unk τ)).length=cu;have HLU:=aj hlu;have HCU:=aj hcu;clear hlu hcu;obtain⟨lx,li⟩:=lu;simp only at lc0 lc1 HLA
   go_wp2_with fail
   have hF:=hsQ (i:=1) (u:=.bool li) (hsQ (i:=0) (u:=.int .i64 lx) (ah HLA));have hbF:=((ah HBW).setCell (p:=⟨w.heap.size,0,none⟩) (af0 _) (.int .i64 lx)).setCell (p:=⟨w.heap.size,1,none⟩) (af0 _) (.bool li);generalize (wr.setCell ⟨w.heap.size,0,none⟩ (.int .i64 lx)).setCell ⟨w.heap.size,1,none⟩ (.bool li)=WF at hF hbF ⊢;have f0:WF.cell? ⟨w.heap.size,0,none⟩=some (.int .i64 lx):=(by rw[cell_of hF];rfl);have f1:WF.cell? ⟨w.heap.size,1,none⟩=some (.bool li):=(by rw[cell_of hF];rfl);refine ah7 (v:=.tuple #[.agg #[.int .i64 lx,.bool li],.int .i64 cu]) (by simp[results,results175,go_sem,f0,f1]) rfl ⟨Or.inr ⟨ah HA,?_⟩,hbF⟩;rw[ah HLU,ah HCU]
end Go.Proofs.YthcppbmkacbbiaaGreat
