import Derived.Test.YthcppbmkacbbiaaGreatYAR
set_option linter.unusedSimpArgs false
set_option maxHeartbeats 1000000
set_option maxRecDepth 100000
namespace Go.Proofs.YthcppbmkacbbiaaGreat
open Go.Proofs.Tryz
open Go.RowKit Go.Maps Go.WideMaps
section
open Sat (View Rule jl bH)
def bG(w:World)(rv:Value)(ak:List Rule):Prop:=
 ∃vs:List Value,w.ownsRow 0 161 1 rv ak.length vs/\∀i (hi:i<ak.length),∃v,vs[i]?=some v/\aQ w v ak[i]
theorem bJ{w w':World}(h:Below w.heap.size w w'):w.grownBy w' none:=⟨h.os,h.tape,h.output,h.size,λk hk _=>h.block k hk⟩
theorem bG.but{S:Nat->Prop}{w w':World}{rv:Value}{ak:List Rule}(h:bG w rv ak)(hb:But S w w')(hS:∀k,S k->jI w k)(hr:∀k,rv.ownBlock=some k->¬S k):bG w' rv ak:=by
 obtain⟨vs,⟨h1,h2⟩,h3⟩:=h;refine⟨vs,⟨h1,?_⟩,λi hi=>?_⟩
 ·rcases h2 with h2|⟨g,cap,cur,rfl,q2,q3,q4⟩
  ·exact Or.inl h2
  ·have hlt:g<w.heap.size:=(Js.1 q3).1;exact Or.inr ⟨g,cap,cur,rfl,q2,(hb.block g hlt (hr g rfl)).trans q3,q4⟩
 ·obtain⟨v,q1,q2⟩:=h3 i hi;exact⟨v,q1,q2.but hb hS⟩
theorem bG.pq{w:World}{rv:Value}{ak:List Rule}(h:bG w rv ak){m:Nat}{τ:List Tr}(hB:bF w m τ):∀k,rv.ownBlock=some k->k≠m:=by
 obtain⟨es,⟨e1,c1,h4,_⟩,_⟩:=hB.map;obtain⟨vs,⟨h1,h2⟩,h3⟩:=h;intro k hk e;subst e;rcases h2 with⟨rfl,_⟩|⟨g,cap,cur,rfl,q2,q3,q4⟩
 ·cases hk
 ·cases hk;rw[h4]at q3;cases q3
structure FI(w:World)(b U:Nat)(rv ov:Value)(tp:List UInt8)(m:Nat)(τ:List Tr)(ak:List Rule):Prop where
 uF:nV w b U rv ov tp (some m)
 rows:bG w rv ak
 bs:bF w m τ
 inv:Sat.BInv ak (bel τ) τ.length
 lt:∀q∈τ,q.1<U
structure RG(U:Nat)(ak:List Rule):Prop where
 ne:∀r∈ak,r≠[]
 nodup:∀r∈ak,r.Nodup
 lt:∀r∈ak,∀u∈r,u.1<U
 len:∀r∈ak,r.length<=1000
theorem jd:∀(U:Nat) (l:List Nat),l.Nodup->(∀x∈l,x<U)->l.length<=U:=by
 intro U
 induction U with
 |zero=>
  intro l _ h;cases l with
  |nil=>simp
  |cons a l=>have:=h a (by simp);omega
 |succ U ih=>
  intro l hn h;have h1:=ih (l.filter (·!= U)) (hn.sublist List.filter_sublist) (λx hx=>by
   have h2:=ag0.1 hx;have h3:=h x h2.1;have h4:x≠U:=(by simpa using h2.2);omega)
  have h2:l.length<=(l.filter (·!= U)).length+1:=by
   have h3:=List.length_eq_countP_add_countP (p:=λx=>x != U) (l:=l);rw[List.countP_eq_length_filter]at h3;have h4:l.countP (λx=>decide ¬(x != U)=true)<=1:=by
    have h5:l.countP (λx=>decide ¬(x != U)=true)=l.count U:=by
     unfold List.count
     congr 1
     funext x;by_cases e:x=U<;>simp[e]
    rw[h5];exact List.nodup_iff_count.1 hn U
   omega
  omega
theorem FI.len{w:World}{b U:Nat}{rv ov:Value}{tp:List UInt8}{m:Nat}{τ:List Tr}{ak:List Rule}(h:FI w b U rv ov tp m τ ak):τ.length<=U:=by
 have:=jd U (τ.map (·.1)) h.bs.nodup (λx hx=>by
  obtain⟨q,hq,rfl⟩:=ad5.1 hx;exact h.lt q hq)
 simpa using this
theorem FI.grown{w w':World}{b U:Nat}{rv ov:Value}{tp:List UInt8}{m:Nat}{τ:List Tr}{ak:List Rule}(h:FI w b U rv ov tp m τ ak)(hg:w.grownBy w' none):FI w' b U rv ov tp m τ ak:=by
 have hb:=But.aA hg;have hn:∀k,some k=none->jI w k:=λk e=>by cases e
 exact⟨h.uF.kept (hg.block b h.uF.lt (by simp)),h.rows.but hb hn (λk _=>by simp),h.bs.but hb hn (by simp),h.inv,h.lt⟩
theorem FI.more{w w':World}{b U:Nat}{rv ov:Value}{tp:List UInt8}{m:Nat}{τ:List Tr}{ak:List Rule}(h:FI w b U rv ov tp m τ ak)(hg:w.grownBy w' (some m)){q:Tr}(hB:bF w' m (τ++[q]))
 (hi:Sat.BInv ak (bel (τ++[q])) (τ.length+1))(hq:q.1<U):FI w' b U rv ov tp m (τ++[q]) ak:=by
 have hb:=But.aA hg;have hn:∀k,some k=some m->jI w k:=λk e=>by cases e;exact h.bs.nZ
 have hbm:b≠m:=λe=>by
  obtain⟨es,⟨e1,c1,h4,_⟩,_⟩:=h.bs.map;have:=h.uF.out;rw[e,h4]at this;cases this
 refine⟨h.uF.kept (hg.block b h.uF.lt (by simpa using hbm)),h.rows.but hb hn (λk hk e=>h.rows.pq h.bs k hk (by cases e;rfl)),hB,by rw[ad3];exact hi,λp hp=>?_⟩;rcases ae4.1 hp with hp|hp
 ·exact h.lt p hp
 ·rw[ad4.1 hp];exact hq
theorem Rx{τ:List Tr}{v:View}:Ed τ v=true↔Sat.right (bel τ) v:=by
 unfold Ed Sat.right bel;cases mD τ v.1 with
 |none=>simp
 |some q=>simp
theorem wW{τ:List Tr}{v:View}:unk τ v=true↔bel τ v.1=none:=by
 unfold unk kZ bel;cases mD τ v.1<;>simp
theorem DC{τ:List Tr}{v:View}(h1:Ed τ v=false)(h2:unk τ v=false):Sat.wrong (bel τ) v:=by
 unfold Ed unk kZ at *;unfold Sat.wrong bel;cases e:mD τ v.1 with
 |none=>rw[e]at h2;simp at h2
 |some q=>rw[e]at h1;exact⟨_,rfl,by simpa using h1⟩
theorem IE{τ:List Tr}{r:Rule}(h1:r.any (Ed τ)=false)(h2:(r.filter (unk τ)).length=0):∀v∈r,Sat.wrong (bel τ) v:=by
 intro v hv;refine DC ?_ ?_
 ·have:=List.any_eq_false.1 h1 v hv;simpa using this
 ·have h3:=ae8 h2;have:=List.filter_eq_nil_iff.1 h3 v hv;simpa using this
theorem F8{τ:List Tr}{r:Rule}(h1:r.any (Ed τ)=false)(h2:(r.filter (unk τ)).length=1):dP τ r∈r/\bel τ (dP τ r).1=none/\∀u∈r,u≠dP τ r->Sat.wrong (bel τ) u:=by
 obtain⟨a,ha⟩:=List.length_eq_one_iff.1 h2;have hl:dP τ r=a:=by unfold dP;rw[ha];rfl
 have hm:a∈r.filter (unk τ):=by rw[ha];simp
 rw[hl];refine⟨(ag0.1 hm).1,wW.1 (ag0.1 hm).2,λu hu hne=>DC ?_ ?_⟩
 ·have:=List.any_eq_false.1 h1 u hu;simpa using this
 ·cases e:unk τ u
  ·rfl
  ·have:u∈r.filter (unk τ):=ag0.2 ⟨hu,e⟩;rw[ha]at this;exact absurd (ad4.1 this) hne
def Zn(ρ:List Tr):Prop:=∀q∈ρ,q.2.2.2≠[]
def Ext(τ σ:List Tr):Prop:=∃ρ,σ=τ++ρ/\Zn ρ
theorem Ext.refl(τ:List Tr):Ext τ τ:=⟨[],by simp,λq h=>by(cases h)⟩
theorem Ext.snoc{τ σ:List Tr}(h:Ext τ σ){q:Tr}(hq:q.2.2.2≠[]):Ext τ (σ++[q]):=by
 obtain⟨ρ,rfl,h1⟩:=h;refine⟨ρ++[q],by simp,λp hp=>?_⟩;rcases ae4.1 hp with hp|hp
 ·exact h1 p hp
 ·rw[ad4.1 hp];exact hq
def still(τ:List Tr)(r:Rule):Prop:=r.any (Ed τ)=true\/2<=(r.filter (unk τ)).length
theorem TJ{τ:List Tr}{ak:List Rule}(hn:∀r∈ak,r.Nodup)(h:∀i (hi:i<ak.length),still τ ak[i]):Sat.Done ak (bel τ):=by
 intro r hr;obtain⟨i,hi,rfl⟩:=af7 hr;rcases h i hi with h|h
 ·obtain⟨v,hv,h1⟩:=ak5.1 h;exact Or.inl ⟨v,hv,Rx.1 h1⟩
 ·right;have hnd:(ak[i].filter (unk τ)).Nodup:=(hn _ hr).sublist List.filter_sublist;generalize hf:ak[i].filter (unk τ)=l at h hnd
  match l,h,hnd with
  |u::v::l,_,hnd=>
   have hu:u∈ak[i].filter (unk τ):=(by rw[hf];simp);have hv:v∈ak[i].filter (unk τ):=(by rw[hf];simp);exact⟨u,(ag0.1 hu).1,v,(ag0.1 hv).1,λe=>by subst e;simp at hnd,wW.1 (ag0.1 hu).2,wW.1 (ag0.1 hv).2⟩
end
section
open aB (Key put)
def gI(w:World)(b:Nat)(f:Key->Key)(dom:Key->Prop)(c:Nat):Prop:=
 ∃(D:DataW Value) (nn:Nat),nn<=c/\w.ownsMap prog 93 uN b nn D/\
  ∀k l,dom k->keyOf prog 93 (aS k)=some l->Maps.has D l=decide (f k≠k)/\(f k≠k->∀z,D.atKey l z=.held (aS (f k)))
theorem gI.lt{w:World}{b c:Nat}{f:Key->Key}{dom:Key->Prop}(h:gI w b f dom c):b<w.heap.size:=by
 obtain⟨D,nn,_,h1,_⟩:=h;exact h1.lt
theorem gI.kept{w w':World}{b c:Nat}{f:Key->Key}{dom:Key->Prop}(h:gI w b f dom c)(hb:w'.heap[b]?=w.heap[b]?):gI w' b f dom c:=by
 obtain⟨D,nn,h0,⟨es,clock,h1,h2⟩,h3⟩:=h;exact⟨D,nn,h0,⟨es,clock,hb.trans h1,h2⟩,h3⟩
theorem gI.congr{w:World}{b c:Nat}{f g:Key->Key}{dom:Key->Prop}(h:gI w b f dom c)(e:∀k,dom k->f k=g k):gI w b g dom c:=by
 obtain⟨D,nn,h0,h1,h2⟩:=h;exact⟨D,nn,h0,h1,λk l hk hl=>by rw[<-e k hk];exact h2 k l hk hl⟩
theorem gI.made(w:World)(dom:Key->Prop):gI (w.alloc (.map #[] 0)) w.heap.size id dom 0:=
 ⟨.map [],0,SH _,ao3 w _ _ _,λk l _ _=>⟨by simp[Maps.has],λh=>absurd rfl h⟩⟩
theorem WZ(w:World):(zeroValue 93).run prog w=.ok (aS (0,0,0)) w:=by kernel_rfl
theorem gI.look{w:World}{b c:Nat}{f:Key->Key}{dom:Key->Prop}(h:gI w b f dom c){k:Key}(hk:dom k)(h1:0<=k.1/\k.1<=255)(h2:k.2.1<=1000)(h3:k.2.2<=1000) :
  ∃v:Key,(Instr.lookup 208 (.map (some b)) (aS k) true).run prog w=.ok (.tuple #[aS v,.bool (decide (f k≠k))]) w/\(f k≠k->v=f k):=by
 obtain⟨l,hkey⟩:=Le k h1 h2 h3;obtain⟨D,nn,h0,hown,hall⟩:=h;obtain⟨q1,q2⟩:=hall k l hk hkey;obtain⟨v,ps,hrun,hv⟩:=hown.look_ok og underlying208 (WZ w) (zd:=.held (aS (0,0,0))) (zp:=[]) rfl hkey;by_cases e:f k=k
 ·have hh:Maps.has D l=false:=by rw[q1];simp[e]
  obtain⟨es,e1,e2,_⟩:=hown.entries og;subst e1;have h2:(es.find? λp=>p.1.sameKey l)=none:=by
   rw[ao9];intro p hp1 hp2;have:Maps.has (.map es) l=true:=ak5.2 ⟨p,hp1,hp2⟩;rw[hh]at this;cases this
  simp only[DataW.atKey]at hv;rw[h2]at hv;cases hv;refine⟨(0,0,0),?_,λh=>absurd e h⟩;rw[hrun,hh];simp[e]
 ·rw[q2 e]at hv;cases hv;refine⟨f k,?_,λ_=>rfl⟩;rw[hrun,q1]
def vP(k:Key):Array Value:=#[.int .u8 k.1,.int .i64 k.2.1,.int .i64 k.2.2]
theorem BN(w:World)(b c:Nat)(f:Key->Key)(dom:Key->Prop)(k:Key)(hM:gI w b f dom c)(hk:dom k)(hfk:dom (f k))(hff:f (f k)=f k)
 (hb:(0<=k.1/\k.1<=255)/\k.2.1<=1000/\k.2.2<=1000)(hbf:(0<=(f k).1/\(f k).1<=255)/\(f k).2.1<=1000/\(f k).2.2<=1000) :
  Calls prog 198 #[.map (some b),aS k] w λe w'=>e=.returned (aS (f k))/\w.grownBy w' none:=by
 have hlt:=hM.lt;have hrun:Hid (∀W:World,W.heap[b]?=w.heap[b]?->∃v:Key,(Instr.lookup 208 (.map (some b)) (aS k) true).run prog W=.ok (.tuple #[aS v,.bool (decide (f k≠k))]) W/\(f k≠k->v=f k)):=λW hW=>(hM.kept hW).look hk hb.1 hb.2.1 hb.2.2;have hrun2:Hid (∀W:World,W.heap[b]?=w.heap[b]?->∃v:Key,(Instr.lookup 208 (.map (some b)) (aS (f k)) true).run prog W=.ok (.tuple #[aS v,.bool (decide (f (f k)≠f k))]) W/\(f (f k)≠f k->v=f (f k))):=λW hW=>(hM.kept hW).look hfk hbf.1 hbf.2.1 hbf.2.2;clear hM hk hfk;have h1:((w.alloc (.cells (vP k) 93)).alloc (.cells #[.int .u8 0,.int .i64 0,.int .i64 0] 93)).heap[b]?=w.heap[b]?:=by
  rw[ab6 _ _ _ (by simp;omega),ab6 _ _ _ hlt]
 obtain⟨v,hr,hv⟩:=ah hrun _ h1;by_cases e:f k=k
 ·have hd:decide (f k≠k)=false:=by simp[e]
  rw[hd]at hr;rw[e];clear hd hv hrun hrun2 h1 hff hbf;obtain⟨kc,kx,ky⟩:=k;obtain⟨vc,vx,vy⟩:=v;simp only[aS,vP]at hr ⊢
  go_enter func198,ntmps198
  go_wp2_with fail
  refine wp_loop_rounds 1 ?_;rw[al5]
  go_wp2_with fail
  refine ad8 (v:=.agg #[.int .u8 kc,.int .i64 kx,.int .i64 ky]) (by simp[results,results198,go_sem]) rfl ⟨rfl,?_⟩;exact((JD _ _ none).trans (JD _ _ none)).trans (JD _ _ none)
 ·have hd:decide (f k≠k)=true:=by simp[e]
  rw[hd]at hr;obtain rfl:=hv e;have hd2:decide (f (f k)≠f k)=false:=by simp[hff]
  rw[hd2]at hrun2;clear hd hd2 hv hrun h1 hff e;generalize f k=k2 at hr hrun2 hbf;obtain⟨kc,kx,ky⟩:=k;obtain⟨vc,vx,vy⟩:=k2;simp only[aS,vP]at hr hrun2 ⊢
  go_enter func198,ntmps198
  go_wp2_with fail
  refine wp_loop_rounds 2 ?_;rw[al5]
  go_wp2_with fail
  obtain⟨v3,hr3,_⟩:=ah hrun2 (((w.alloc (.cells #[.int .u8 vc,.int .i64 vx,.int .i64 vy] 93)).alloc (.cells #[.int .u8 0,.int .i64 0,.int .i64 0] 93)).alloc (.cells #[.int .u8 vc,.int .i64 vx,.int .i64 vy] 93)) (by
   rw[ab6 _ _ _ (by simp;omega),ab6 _ _ _ (by simp;omega),ab6 _ _ _ hlt])
  obtain⟨zc,zx,zy⟩:=v3;simp only at hr3;rw[al5]
  go_wp2_with fail
  refine ad8 (v:=.agg #[.int .u8 vc,.int .i64 vx,.int .i64 vy]) (by simp[results,results198,go_sem]) rfl ⟨rfl,?_⟩;exact(((JD _ _ none).trans (JD _ _ none)).trans (JD _ _ none)).trans (JD _ _ none)
end
open aB (Key put RT zK RF RP RQ)
theorem xU{w w':World}{base b e k n:Nat}{v:Value}{xs:List Value}(h:w.ownsRow base e k v n xs)(hb:Below b w w')(hlt:w.heap.size<=b):w'.ownsRow base e k v n xs:=
 h.kept (row:=none) ⟨hb.os,hb.tape,hb.output,hb.size,λj hj _=>hb.block j (ac7 hj hlt)⟩ (by
  cases v<;>first|exact Or.inl rfl|skip
  rename_i p n c;cases p
  ·exact Or.inl rfl
  ·exact Or.inr (by simp[Value.ownBlock]))
theorem jP{w:World}{base e k n X i:Nat}{v x:Value}{xs:List Value}(h:w.ownsRow base e k v n xs)(hX:X<base):(w.setCell ⟨X,i,none⟩ x).ownsRow base e k v n xs:=by
 have hg:w.grownBy (w.setCell ⟨X,i,none⟩ x) (some X):=⟨rfl,rfl,rfl,by simp[World.setCell],λj _ hj=>ac6 _ _ _ _ (λe=>hj (by rw[e]))⟩;refine h.kept hg ?_;rcases h.2 with⟨rfl,_⟩|⟨g,cap,cur,rfl,hb,_⟩
 ·exact Or.inl rfl
 ·refine Or.inr (λe=>?_);simp only[Value.ownBlock,ag1]at e;omega
section
variable (w:World) (s:ByteArray)
theorem Ry(hs:s.size<=100)(a1:Nat)(ts:List Key)(cs:List (Int×Nat))(ps:List Key)(m:Nat)(HR:Hid (aB.iQ (pk s) (s.size+1) 0 0 [] [] []=.ok (a1,ts,cs,ps,m)))(heq:a1=s.size)(h7:ts.length<=7)(h4:cs.length<=4)
 (hnT:ts.Nodup)(hnC:cs.Nodup)(hnP:ps.Nodup)(hp:ps.length<=100)(hvT:∀x∈ts,∃l,keyOf prog 87 (aS x)=some l)(hvC:∀x∈cs,∃l,keyOf prog 90 (iW x)=some l)(hvP:∀x∈ps,∃l,keyOf prog 93 (aS x)=some l) :
  Calls prog 30 #[.string s] w λe w'=>∃GT GC GP,e=.returned (.tuple #[fv GT GC GP ts.length cs.length ps.length,.int .i64 0,.int .i64 0])/\Below w.heap.size w w'/\FR w' (w.heap.size+1) GT GC GP ts cs ps:=by
 have hmm:=@ap3 prog;have hb:decide ((100:Int)<(s.size:Int))=false:=by simp;omega
 go_enter func30,ntmps30
 go_wp2_with fail
 refine(jF _ _ _ _ s hs (s.size+1) (start w s) 0 0 [] [] [] (by omega) (by omega) (by simp) (by simp) (by simp) (by omega) (rX w s)).mono ?_;rw[ah HR];rintro e w1 ⟨k1,rfl,h1⟩
 go_wp2_with fail
 refine(JA w1 _ _ _ _ s a1 0 ts cs ps heq h1).mono ?_;rintro e w2 ⟨rfl,h2,k2⟩;have k3:=k1.trans k2;have r0:=fF k3 0;have r1:=fF k3 1;have r2:=fF k3 2;have q0:=dL k3 0;have q1:=dL k3 1;have q2:=dL k3 2;simp at r0 r1 r2;have c4:=h2.c4;have c5:=h2.c5;have c6:=h2.c6;have LZ:=h2.lt;have mt:=aj h2.mt;have mc:=aj h2.mc;have mp:=aj h2.mp;obtain⟨D,hown,hsz,hall,_⟩:=h2.mt;obtain⟨D2,hown2,hsz2,Py,_⟩:=h2.mc;have nY:=aj hsz;have WJ:=aj hsz2;clear hall Py hsz hsz2;have hb7:decide ((7:Int)<(Maps.size D:Int))=false:=by rw[ah nY];simp;omega
 have hb4:decide ((4:Int)<(Maps.size D2:Int))=false:=by rw[ah WJ];simp;omega
 have hl2:=λty=>hown2.len underlying78 ty
 go_wp2_with (at_len;refine wpList_len_own _ rfl (.tmp 33) 76 rfl 87 3 underlying76 _ _ ts.length D rfl hown ?_)
 have hsz3:w.heap.size+5<=w2.heap.size:=by have:=k3.size;rw[mV]at this;exact this
 clear hb7 hb4 hl2 hown hown2;refine ae5 (S:=λW'=>W'.cell? ⟨w.heap.size+1+1+1+1,4,none⟩=some (.map (some (w.heap.size+1)))/\W'.cell? ⟨w.heap.size+1+1+1+1,5,none⟩=some (.map (some (w.heap.size+1+1)))/\W'.cell? ⟨w.heap.size+1+1+1+1,6,none⟩=some (.map (some (w.heap.size+1+1+1)))) rfl ?_;have hS0:w2.drew.cell? ⟨w.heap.size+1+1+1+1,4,none⟩=some (.map (some (w.heap.size+1)))/\w2.drew.cell? ⟨w.heap.size+1+1+1+1,5,none⟩=some (.map (some (w.heap.size+1+1)))/\w2.drew.cell? ⟨w.heap.size+1+1+1+1,6,none⟩=some (.map (some (w.heap.size+1+1+1))):=⟨c4,c5,c6⟩;change wpAnyH prog .any _ _ _ 13 #[false,false,false,false,false,false,false,false,false,false,false,false,false] _ w2.drew;refine tH 0 (.pointer (some ⟨w.heap.size+1+1+1+1,4,none⟩)) (λw' hS=>?_) hS0 ?_
 ·obtain⟨s4,s5,s6⟩:=hS;go_simp
 simp only[aC];refine tH 1 (.map (some (w.heap.size+1))) (λw' hS=>?_) hS0 ?_
 ·obtain⟨s4,s5,s6⟩:=hS;go_simp
 simp only[aC];refine tH 3 (.pointer (some ⟨w.heap.size+1+1+1+1,5,none⟩)) (λw' hS=>?_) hS0 ?_
 ·obtain⟨s4,s5,s6⟩:=hS;go_simp
 simp only[aC];refine tH 4 (.map (some (w.heap.size+1+1))) (λw' hS=>?_) hS0 ?_
 ·obtain⟨s4,s5,s6⟩:=hS;go_simp
 simp only[aC];refine tH 6 (.pointer (some ⟨w.heap.size+1+1+1+1,6,none⟩)) (λw' hS=>?_) hS0 ?_
 ·obtain⟨s4,s5,s6⟩:=hS;go_simp
 simp only[aC];refine tH 7 (.map (some (w.heap.size+1+1+1))) (λw' hS=>?_) hS0 ?_
 ·obtain⟨s4,s5,s6⟩:=hS;go_simp
 simp only[aC];refine oH 2 (λK hK=>?_);go_simp;refine(KP (w.heap.size+1) ts _ (by omega) hnT (by exact(ah mt).kept rfl) hvT).mono ?_;rintro e w3 ⟨GT,rfl,hGT,bT,rowT⟩;have hST:w3.cell? ⟨w.heap.size+1+1+1+1,4,none⟩=some (.map (some (w.heap.size+1)))/\w3.cell? ⟨w.heap.size+1+1+1+1,5,none⟩=some (.map (some (w.heap.size+1+1)))/\w3.cell? ⟨w.heap.size+1+1+1+1,6,none⟩=some (.map (some (w.heap.size+1+1+1))):=⟨(bT.cell (p:=⟨w.heap.size+1+1+1+1,4,none⟩) (ab1 _ _ hS0.1)).trans hS0.1,(bT.cell (p:=⟨w.heap.size+1+1+1+1,5,none⟩) (ab1 _ _ hS0.2.1)).trans hS0.2.1,(bT.cell (p:=⟨w.heap.size+1+1+1+1,6,none⟩) (ab1 _ _ hS0.2.2)).trans hS0.2.2⟩;refine hK.out _ _ hST ?_;clear hK K;have mc3:aH w3 90 (w.heap.size+1+1) iW cs:=(ah mc).kept (bT.block _ (ah mc).lt);refine oH 5 (λK hK=>?_);go_simp;refine(KQ (w.heap.size+1+1) cs w3 (by omega) hnC mc3 hvC).mono ?_;rintro e w4 ⟨GC,rfl,hGC,bC,UZ⟩;have hSC:w4.cell? ⟨w.heap.size+1+1+1+1,4,none⟩=some (.map (some (w.heap.size+1)))/\w4.cell? ⟨w.heap.size+1+1+1+1,5,none⟩=some (.map (some (w.heap.size+1+1)))/\w4.cell? ⟨w.heap.size+1+1+1+1,6,none⟩=some (.map (some (w.heap.size+1+1+1))):=⟨(bC.cell (p:=⟨w.heap.size+1+1+1+1,4,none⟩) (ab1 _ _ hST.1)).trans hST.1,(bC.cell (p:=⟨w.heap.size+1+1+1+1,5,none⟩) (ab1 _ _ hST.2.1)).trans hST.2.1,(bC.cell (p:=⟨w.heap.size+1+1+1+1,6,none⟩) (ab1 _ _ hST.2.2)).trans hST.2.2⟩;refine hK.out _ _ hSC ?_;clear hK K;have mp4:aH w4 93 (w.heap.size+1+1+1) aS ps:=(ah mp).kept ((bC.block _ (ac7 (ah mp).lt bT.size)).trans (bT.block _ (ah mp).lt));refine oH 8 (λK hK=>?_);go_simp;refine(AU (w.heap.size+1+1+1) ps w4 (by omega) hnP mp4 hvP).mono ?_;rintro e w5 ⟨GP,rfl,hGP,bP,rowP⟩;have hSP:w5.cell? ⟨w.heap.size+1+1+1+1,4,none⟩=some (.map (some (w.heap.size+1)))/\w5.cell? ⟨w.heap.size+1+1+1+1,5,none⟩=some (.map (some (w.heap.size+1+1)))/\w5.cell? ⟨w.heap.size+1+1+1+1,6,none⟩=some (.map (some (w.heap.size+1+1+1))):=⟨(bP.cell (p:=⟨w.heap.size+1+1+1+1,4,none⟩) (ab1 _ _ hSC.1)).trans hSC.1,(bP.cell (p:=⟨w.heap.size+1+1+1+1,5,none⟩) (ab1 _ _ hSC.2.1)).trans hSC.2.1,(bP.cell (p:=⟨w.heap.size+1+1+1+1,6,none⟩) (ab1 _ _ hSC.2.2)).trans hSC.2.2⟩;refine hK.out _ _ hSP ?_;clear hK K;have sT:=bT.size;have sC:=bC.size;have sP:=bP.size;have sT':w2.heap.size<=w3.heap.size:=sT;have hb5:Below w2.heap.size w2 w5:=(⟨bT.os,bT.tape,bT.output,bT.size,bT.block⟩:Below w2.heap.size w2 w3).trans ((bC.mono sT').trans (bP.mono (ac9 sT' sC)));have r0':w5.cell? ⟨w.heap.size,0,none⟩=some (.slice none 0 0):=(hb5.cell (p:=⟨w.heap.size,0,none⟩) (by show w.heap.size<w2.heap.size;omega)).trans r0;have r1':w5.cell? ⟨w.heap.size,1,none⟩=some (.slice none 0 0):=(hb5.cell (p:=⟨w.heap.size,1,none⟩) (by show w.heap.size<w2.heap.size;omega)).trans r1;have r2':w5.cell? ⟨w.heap.size,2,none⟩=some (.slice none 0 0):=(hb5.cell (p:=⟨w.heap.size,2,none⟩) (by show w.heap.size<w2.heap.size;omega)).trans r2;have q0':w5.frozen? ⟨w.heap.size,0,none⟩=false:=(af8 (hb5.block _ (by show w.heap.size<w2.heap.size;omega))).trans q0;have q1':w5.frozen? ⟨w.heap.size,1,none⟩=false:=(af8 (hb5.block _ (by show w.heap.size<w2.heap.size;omega))).trans q1;have q2':w5.frozen? ⟨w.heap.size,2,none⟩=false:=(af8 (hb5.block _ (by show w.heap.size<w2.heap.size;omega))).trans q2;refine oH 9 (λK hK=>?_);go_simp;refine hK.out _ _ hSP ?_;clear hK K;refine oH 10 (λK hK=>?_);go_simp;have hSF:∀(a b c:Value),(((w5.setCell ⟨w.heap.size,0,none⟩ a).setCell ⟨w.heap.size,1,none⟩ b).setCell ⟨w.heap.size,2,none⟩ c).cell? ⟨w.heap.size+1+1+1+1,4,none⟩=some (.map (some (w.heap.size+1)))/\
   (((w5.setCell ⟨w.heap.size,0,none⟩ a).setCell ⟨w.heap.size,1,none⟩ b).setCell ⟨w.heap.size,2,none⟩ c).cell? ⟨w.heap.size+1+1+1+1,5,none⟩=some (.map (some (w.heap.size+1+1)))/\
   (((w5.setCell ⟨w.heap.size,0,none⟩ a).setCell ⟨w.heap.size,1,none⟩ b).setCell ⟨w.heap.size,2,none⟩ c).cell? ⟨w.heap.size+1+1+1+1,6,none⟩=some (.map (some (w.heap.size+1+1+1))):=λa b c=>by
  have hk:∀(u:World) (i j:Nat) (x:Value),(u.setCell ⟨w.heap.size,i,none⟩ x).cell? ⟨w.heap.size+1+1+1+1,j,none⟩=u.cell? ⟨w.heap.size+1+1+1+1,j,none⟩:=λu i j x=>ab9 (ac6 _ _ _ _ (by show w.heap.size+1+1+1+1≠w.heap.size;omega));simp only[hk];exact hSP
 refine hK.out _ _ (hSF _ _ _) ?_;clear hK K;refine oH 11 (λK hK=>?_);go_simp;refine hK.out _ _ (hSF _ _ _) ?_;clear hK K;refine oH 12 (λK hK=>?_);go_simp;refine hK.out _ _ (hSF _ _ _) (ae0 (by kernel_rfl) ?_ _);clear hK K
 go_wp2_with fail
 have hbw:Below w.heap.size w w5:=(lU k3).trans (hb5.mono (by omega));refine ad8 (v:=.tuple #[fv GT GC GP ts.length cs.length ps.length,.int .i64 0,.int .i64 0]) (by simp[results,results30,go_sem,fv,r0',r1',r2']) rfl ⟨GT,GC,GP,rfl,?_,?_⟩
 ·exact((hbw.setCell (SH _) _).setCell (SH _) _).setCell (SH _) _
 ·have gT:w.heap.size+1<=w2.heap.size:=by omega
  have g3:w.heap.size+1<=w3.heap.size:=by omega
  have g4:w.heap.size+1<=w4.heap.size:=by omega
  refine⟨jP (jP (jP (fP (xU (xU rowT bC (SH _)) bP (SH _)) gT) (by omega)) (by omega)) (by omega),
   jP (jP (jP (fP (xU UZ bP (SH _)) g3) (by omega)) (by omega)) (by omega),jP (jP (jP (fP rowP g4) (by omega)) (by omega)) (by omega)⟩
end
end Go.Proofs.YthcppbmkacbbiaaGreat
