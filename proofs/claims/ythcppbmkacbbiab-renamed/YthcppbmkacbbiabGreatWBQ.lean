import Derived.Test.YthcppbmkacbbiabGreatWBP
set_option linter.unusedSimpArgs false
set_option maxHeartbeats 4000000
set_option maxRecDepth 100000
namespace Go.Proofs.YthcppbmkacbbiabGreat
open Go.Proofs.Tryz
open Go.RowKit Go.Maps Go.WideMaps
open Sat (View Rule jk bG)
open aB (Key put)
attribute [local go_sem] Oper.semAt_some
theorem xA(L:List jH):(wQ L).length=L.length*5:=by
 unfold wQ
 induction L with
 |nil=>rfl
 |cons a L ih=>rw[am2,af8,ih];simp[Dv];omega
theorem JF(L:List jH):∀u∈wQ L,u.oneCell'=true:=by
 intro u hu;obtain⟨s,_,h⟩:=al8.1 hu;exact Ua s u h
theorem TB(L M:List jH):wQ (L++M)=wQ L++wQ M:=by simp[wQ]
theorem fV.part{w:World}{v:Value}{ss:List jH}(h:fV w v ss)(hne:ss≠[]):∃g off cap,v=.slice (some ⟨g,off,none⟩) ss.length cap/\ss.length<=cap/\g<w.heap.size/\
  ∀W,Below w.heap.size w W->∀a m,a+m<=ss.length->∀j u,(wQ ((ss.drop a).take m))[j]?=some u->W.cell? ((⟨g,off+a*5,none⟩:Addr).add j)=some u:=by
 obtain⟨p,cap,h1,h2,h3⟩:=h;obtain⟨g,off,cur,x,q1,q2,q3⟩:=h3 hne;subst q1;have hgl:=(ad3.1 q2).1;refine⟨g,off,cap,h1,h2,hgl,λW hW a m ham j u hj=>?_⟩;have hlen:((ss.drop a).take m).length=m:=by simp;omega
 have hjl:j<m*5:=by
  have:=(List.getElem?_eq_some_iff.1 hj).1;rw[xA,hlen]at this;exact this
 have hi:j/5<((ss.drop a).take m).length:=by rw[hlen];omega
 have hf:=flat_get (f:=Dv) (k:=5) (λ_=>rfl) (by decide) ((ss.drop a).take m) (j/5) hi (j%5) (Nat.mod_lt _ (by decide));have e1:j/5*5+j%5=j:=by omega
 rw[e1]at hf;have hj2:(Dv ((ss.drop a).take m)[j/5])[j%5]?=some u:=hf.symm.trans hj;have e2:((ss.drop a).take m)[j/5]=ss[a+j/5]'(by omega):=by simp
 rw[e2]at hj2;have hq:=q3 (a+j/5) (by omega) (j%5) (Nat.mod_lt _ (by decide));have e3:off+(a+j/5)*5+j%5=off+a*5+j:=by omega
 rw[e3]at hq;have hb:=(hW.block g hgl).trans q2;have e4:(⟨g,off+a*5,none⟩:Addr).add j=⟨g,off+a*5+j,none⟩:=by simp[Addr.add]
 rw[e4,cell_of hb];exact hq.trans hj2
structure OI(w:World)(fo:Array Value)(W:World):Prop where
 x0:W.heap[w.heap.size]?=some (.cells fo 46 (0,0))
 below:Below w.heap.size w W
theorem OI.next{w:World}{fo:Array Value}{W W':World}(h:OI w fo W)(hb:Below W.heap.size W W'):OI w fo W':=
 ⟨(hb.block _ (ad3.1 h.x0).1).trans h.x0,h.below.trans (hb.mono h.below.size)⟩
theorem EC{ts:List Key}{cs:List (Int×Nat)}{S ss:List jH}(h:nN ts cs (ss.map dD))(hs:S.Sublist ss):nN ts cs (S.map dD):=λl hl=>by
 obtain⟨s,h1,rfl⟩:=af9.1 hl;exact h _ (af9.2 ⟨s,hs.subset h1,rfl⟩)
def NoB(ts:List Key)(cs:List (Int×Nat))(S:List jH):Prop:=∃f',Closed ts (aX (S.map dD)) f'/\¬cb f' cs (S.map dD)
theorem Ae(GT GC GP np:Nat)(ts:List Key)(cs:List (Int×Nat))(v:Value)(ss:List jH)(w:World)(h7:ts.length<=7)(hs:fV w v ss)(hl:ss.length<=100)(hrt:bQ w GT ts)(hrc:eF w GC cs)(hi:aB.Inv ts)(ht:∀i (hi:i<ts.length),ts[i].2.1<ts.length/\ts[i].2.2<ts.length)
 (hct:∀x∈cs,(x.1=80\/x.1=81)/\x.2<ts.length)(nD:nN ts cs (ss.map dD)) :
  Calls prog 67 #[fv GT GC GP ts.length cs.length np,v] w λe w'=>∃v' r,e=.returned v'/\aP w' v' r/\Below w.heap.size w w'/\
   ((r=[]/\∃f',Closed ts (aX (ss.map dD)) f'/\cb f' cs (ss.map dD))\/∃S,S.Sublist ss/\r=S.map H7/\NoB ts cs S):=by
 obtain⟨i0,hin,hz0,hz1,hz2⟩:=ak7 J5;have hgt:=hrt.1;have hgc:=hrc.1;have HCB:Hid (∀W v S,fV W v S->S.Sublist ss->Below w.heap.size w W->Calls prog 125 #[fv GT GC GP ts.length cs.length np,v] W λe w'=>∃bv f',e=.returned (.bool bv)/\Closed ts (aX (S.map dD)) f'/\(bv=true↔cb f' cs (S.map dD))/\Below W.heap.size W w'):=λW v S h1 h2 h3=>
  NW GT GC GP np ts cs v S W h7 h1 (af7 h2.length_le hl) (hrt.below h3 hgt) (hrc.below h3 hgc) hi ht hct (EC nD h2)
 clear hrt hrc hi ht hct nD;unfold fv at HCB ⊢;obtain⟨vp,vc,rfl,_⟩:=id hs;obtain⟨w0,hw0⟩:∃w0,w.alloc (.cells #[.slice (some ⟨GT,0,none⟩) ts.length ts.length,.slice (some ⟨GC,0,none⟩) cs.length cs.length,.slice (some ⟨GP,0,none⟩) np np] 46)=w0:=⟨_,rfl⟩;have hb0:Below w.heap.size w w0:=by rw[<-hw0];exact(ag6 _ w).alloc (ad5 _) _
 have hI0:OI w #[.slice (some ⟨GT,0,none⟩) ts.length ts.length,.slice (some ⟨GC,0,none⟩) cs.length cs.length,.slice (some ⟨GP,0,none⟩) np np] w0:=⟨by rw[<-hw0];exact ae9 _ _,hb0⟩;have hcb:=ah HCB w0 _ ss (hs.below hb0) (List.Sublist.refl _) hb0;have q0:w0.cell? ⟨w.heap.size,0,none⟩=some (.slice (some ⟨GT,0,none⟩) ts.length ts.length):=by rw[cell_of hI0.x0];rfl
 have q1:w0.cell? ⟨w.heap.size,1,none⟩=some (.slice (some ⟨GC,0,none⟩) cs.length cs.length):=by rw[cell_of hI0.x0];rfl
 have q2:w0.cell? ⟨w.heap.size,2,none⟩=some (.slice (some ⟨GP,0,none⟩) np np):=by rw[cell_of hI0.x0];rfl
 go_enter func67,ntmps67
 go_wp2_with fail
 clear hw0;refine hcb.mono ?_;rintro e w1 ⟨bv,f',rfl,yX,hbv,hb1⟩;have hI1:=hI0.next hb1
 clear hcb hI0 hb0 q0 q1 q2;cases bv
 ·have hno:NoB ts cs ss:=⟨f',yX,λh=>by have:=hbv.2 h;cases this⟩;have hs1:fV w1 (.slice vp ss.length vc) ss:=hs.below hI1.below;have HI1:=aj hI1;have HS1:=aj hs1;have HNO:=aj hno;clear yX hbv hb1 hI1 hs1 hno
  go_wp2_with fail
  go_loopw [1,5] (λv a wr=>∃(k:Nat) (S:List jH),k<=S.length/\a=.int .i64 ((k:Int)-1)/\fV wr v S/\S.Sublist ss/\NoB ts cs S/\OI w #[.slice (some ⟨GT,0,none⟩) ts.length ts.length,.slice (some ⟨GC,0,none⟩) cs.length cs.length,.slice (some ⟨GP,0,none⟩) np np] wr) (λ_ a _=>(intOf a+1).toNat)
  case atStart=>exact⟨ss.length,ss,ad5 _,rfl,ah HS1,List.Sublist.refl _,ah HNO,ah HI1⟩
  case round=>
   obtain⟨k,S,hk,rfl,hsv,hsub,hnb,hI⟩:=hrel;have hSl:=hsub.length_le;rcases ak5 k with h0|h0
   ·subst h0;have e00:(((0:Nat):Int)-1) = -1:=rfl;rw[e00];clear e00;obtain⟨wo,hwo⟩:∃wo,wo=wr:=⟨_,rfl⟩;subst hwo;obtain⟨p1,cap1,rfl,_,hcs⟩:=hsv.cells;have HCS:=aj hcs;have HI:=aj hI;have HNB:=aj hnb;clear hcs hsv hI hnb
    go_wp2_with fail
    go_loopw [7,36] (λv7 i wq=>∃j:Nat,j<=S.length/\i=.int .i64 j/\wq.ownsRow wo.heap.size 207 2 v7 j (vcs ((S.take j).map H7))/\Hid (v7=.slice none 0 0↔j=0)/\Below wo.heap.size wo wq) (λ_ i _=>S.length-(intOf i).toNat)
    case atStart=>exact⟨0,ah2 _,rfl,am9 _ _ _ _,by unfold Hid;simp,ag6 _ _⟩
    case round=>
     obtain⟨j,hj,rfl,hrow,hnil,hbq⟩:=hrel;by_cases hjl:j<S.length
     ·obtain⟨p7,RI,rfl⟩:=lN hrow;have hbd:(j:Int)<(S.length:Int):=(by omega);obtain⟨g,off,rfl,hgl,hc⟩:=ah HCS (by intro e;rw[e]at hjl;simp at hjl);obtain⟨d0,d1,d2,d3,d4⟩:=hc wr hbq j hjl;have htk:vcs ((S.take (j+1)).map H7)=vcs ((S.take j).map H7)++BD (H7 S[j]):=by
       rw[ah1,ad6 hjl,ak3];exact Ee _ _
      have eG:=aj htk;have eX:=aj hrow;have HBQ:=aj hbq;have hsq:=hbq.size;clear htk hc hrow hbq;generalize S[j]=s at d0 d1 d2 d3 d4 eG;obtain⟨sx,si,sc,s1,s2⟩:=s;simp only[H7]at d0 d1 d2 d3 d4 eG;obtain⟨WB,hWB⟩:∃WB,wr.alloc (.cells #[.int .i64 sx,.bool si,.int .u8 sc,.int .i64 s1,.int .i64 s2] 210)=WB:=⟨_,rfl⟩;have hgB:wr.grownBy WB none:=(by rw[<-hWB];exact ad4 _ _ none);have e0:WB.cell? ⟨wr.heap.size,0,none⟩=some (.int .i64 sx):=(by rw[<-hWB];simp[go_sem]);have e1:WB.cell? ⟨wr.heap.size,1,none⟩=some (.bool si):=(by rw[<-hWB];simp[go_sem]);have hvn:=Ed (sx,si) WB;unfold vV at hvn;simp only at hvn
      go_wp2_with fail
      clear hWB;refine hvn.mono ?_;rintro e w5 ⟨rfl,hg5⟩;have hg15:wr.grownBy w5 none:=hgB.trans hg5;have FD:=(ah eX).kept hg15 (Classical.em _);have hb5:=(ah HBQ).grown hg15 (ah HBQ).size (λk e=>by cases e);have hs5:=hg15.size;have HB5:=aj hb5;clear hvn hg5 hgB hg15 hb5 e0 e1
      go_wp2_with (at_builtin;refine am1 _ rfl _ _ 130 rfl wo.heap.size 207 i0 _ 2 16 underlying130 hin hz0 hz1 hz2 rfl (by decide) (.slice p7 j RI) j (vcs ((S.take j).map H7)) rfl (FD.alloc _) ⟨w5.heap.size,0,none⟩ 1 1 (BD (sx,!si)) rfl rfl (tu _ _ _ _ _ rfl) (TW _) (by unfold maxLen;omega) (by omega) (by simp;omega) ?_;intro v' w6 hown' hg6 J7 adh;obtain⟨g',cap',hv'⟩:=dL hown' (al7 _);subst hv')
      have hga:w5.grownBy (w5.alloc (.cells #[.int .i64 sx,.bool (!si)] 207)) none:=ad4 _ _ none;have Zt:=(ah HB5).grown hga (ah HB5).size (λk e=>by cases e)
      go_roundw
      case rel=>
       refine⟨j+1,hjl,by go_num,?_,?_,?_⟩
       ·rw[ah eG];exact hown'
       ·unfold Hid;simp
       ·exact Zt.grown hg6 Zt.size (λk e=>(FD.lt k e).1)
      case measure=>simp[intOf];omega
     ·have hjj:j=S.length:=(by omega);have hbd:¬(j:Int)<(S.length:Int):=(by omega);rw[hjj,ai7]at hrow;have hr:aP wr u7 (S.map H7):=by
       refine kW (base:=wo.heap.size) ?_ ?_
       ·rw[ai8];exact hrow
       ·rw[ah hnil,hjj,List.map_eq_nil_iff];exact List.length_eq_zero_iff
      have HR:=aj hr;have HBQ:=aj hbq;clear hrow hr hbq hjj hnil
      go_wp2_with fail
      refine ag3 (v:=u7) (by simp[results,results67,go_sem]) rfl ?_;have hbF:=(ah HI).below.trans ((ah HBQ).mono (ah HI).below.size);exact⟨u7,rfl,S.map H7,ah HR,hbF,Or.inr ⟨S,hsub,rfl,ah HNB⟩⟩
   ·obtain⟨at_,rfl⟩:∃a,k=a+1:=⟨k-1,by omega⟩;have eat:(((at_+1:Nat):Int)-1)=(at_:Int):=(by omega);rw[eat];clear eat;have hne:S≠[]:=(by intro e;rw[e]at hk;simp at hk);obtain⟨g,off,cap,rfl,hcap,hgl,hpart⟩:=hsv.part hne;have VO:=aj hpart;have HSV:=aj hsv;have HNB:=aj hnb;have HI:=aj hI;have hge:(at_:Int)≥0:=(by omega);have hx1:(at_:Int)<=(cap:Int):=(by omega);have hx2:(at_:Int)+1<=(S.length:Int):=(by omega);have hx3:0<=(at_:Int)+1:=(by omega);have hw5:IntKind.i64.wrap ((at_:Int)+1)=(at_:Int)+1:=Eb (by omega) (by omega);obtain⟨ad2,had⟩:∃ad2:Addr,(if cap=at_+1 then some (⟨g,off,none⟩:Addr)else some ⟨g,off+(at_+1)*5,none⟩)=some ad2:=by
     by_cases e:cap=at_+1
     ·exact⟨_,by rw[af6 e]⟩
     ·exact⟨_,by rw[af2 e]⟩
    have WR:Hid (∀W,Below wr.heap.size wr W->∀j u,(wQ (S.drop (at_+1)))[j]?=some u->W.cell? (ad2.add j)=some u):=λW hW j u hj=>by
     have hlen:=xA (S.drop (at_+1));by_cases e:cap=at_+1
     ·exfalso;have h1:=(List.getElem?_eq_some_iff.1 hj).1;rw[hlen,List.length_drop]at h1;omega
     ·rw[af2 e]at had;cases had;have:=ah VO W hW (at_+1) (S.length-(at_+1)) (by omega) j u;rw[ah5 (by simp)]at this;exact this hj
    have hnews1:Hid (∀W,Below wr.heap.size wr W->∀j u,(wQ (S.take at_))[j]?=some u->W.cell? ((⟨g,off,none⟩:Addr).add j)=some u):=λW hW j u hj=>by
     have:=ah VO W hW 0 at_ (by omega) j u;rw[List.drop_zero,aq7,Nat.add_zero]at this;exact this hj
    have HAD:=aj had;clear hpart hsv hnb hI had
    go_wp2_with fail
    refine ah0 (S:=λ_=>True) rfl ?_;have hS0:True:=trivial;simp only[ae2,ae1,ae8,Nat.reduceAdd,ae0,ad9,ae4,ae7,ae6];change wpAnyH prog .any _ _ _ _ _ _ wr.drew;refine tH 0 (.slice (some ⟨g,off,none⟩) S.length cap) (λw' hS=>?_) hS0 ?_
    ·go_simp
    simp only[aC];refine tH 1 (.int .i64 at_) (λw' hS=>?_) hS0 ?_
    ·go_simp
    simp only[aC];refine tH 2 (.slice (some ⟨g,off,none⟩) at_ cap) (λw' hS=>?_) hS0 ?_
    ·go_simp
    simp only[aC];refine tH 3 (.slice (some ⟨g,off,none⟩) S.length cap) (λw' hS=>?_) hS0 ?_
    ·go_simp
    simp only[aC];refine tH 4 (.int .i64 at_) (λw' hS=>?_) hS0 ?_
    ·go_simp
    simp only[aC];refine tH 5 (.int .i64 ((at_:Int)+1)) (λw' hS=>?_) hS0 ?_
    ·go_simp
    simp only[aC];refine tH 6 (.slice (some ad2) (S.length-(at_+1)) (cap-(at_+1))) (λw' hS=>?_) hS0 ?_
    ·go_simp;rw[ah HAD]
    simp only[aC];obtain⟨WA,hWA⟩:∃WA,wr.drew.alloc (.cells #[.slice (some ⟨g,off,none⟩) at_ cap,.slice (some ad2) (S.length-(at_+1)) (cap-(at_+1))] 133)=WA:=⟨_,rfl⟩;have hgA:wr.grownBy WA none:=(by rw[<-hWA];exact(⟨rfl,rfl,rfl,ad5 _,λj hj _=>rfl⟩:wr.grownBy wr.drew none).trans (ad4 _ _ none));have hbA:Below wr.heap.size wr WA:=(ag6 _ wr).grown hgA (ad5 _) (λk e=>by cases e);have hcA:WA.heap[wr.heap.size]?=some (.cells #[.slice (some ⟨g,off,none⟩) at_ cap,.slice (some ad2) (S.length-(at_+1)) (cap-(at_+1))] 133 (0,0)):=(by rw[<-hWA];exact ae9 wr.drew _);have hcc:=Jj WA wr.heap.size at_ cap (S.length-(at_+1)) (cap-(at_+1)) ⟨g,off,none⟩ ad2 (wQ (S.take at_)) (wQ (S.drop (at_+1))) hcA (by omega) (by omega) (by rw[xA,ah6];congr 1;omega) (by rw[xA,List.length_drop]) (ah hnews1 WA hbA) (ah WR WA hbA) (JF _) (JF _);refine oH 7 (λK hK=>?_);go_simp;replace hS0:=trivial;refine hK.out _ _ hS0 ?_;clear hK K;subst hWA;refine oH 8 (λK hK=>?_);go_simp;refine(hcc).mono ?_;rintro e w3 ⟨v6,rfl,ug,hb6⟩;replace hS0:=trivial;refine hK.out _ _ hS0 ?_;clear hK K;obtain⟨p6,cap6,rfl⟩:=lN ug;have hlS:(S.take at_++S.drop (at_+1)).length=at_+(S.length-(at_+1)):=(by simp;omega);have hs6:fV w3 (.slice p6 (at_+(S.length-(at_+1))) cap6) (S.take at_++S.drop (at_+1)):=by
     rw[<-hlS,<-TB]at ug;have:=vY ug;rw[hlS]at this;exact this
    have Vw:(S.take at_++S.drop (at_+1)).Sublist S:=by
     have h1:(S.drop (at_+1)).Sublist (S.drop at_):=by
      rw[<-List.drop_drop];exact List.drop_sublist _ _
     have h2:=(List.Sublist.refl (S.take at_)).append h1
     rwa [List.take_append_drop]at h2
    have hb3:Below wr.heap.size wr w3:=hbA.trans (hb6.mono hbA.size);have hI3:=(ah HI).next hb3
    have hcb3:=ah HCB w3 _ _ hs6 (Vw.trans hsub) hI3.below;have q0:w3.cell? ⟨w.heap.size,0,none⟩=some (.slice (some ⟨GT,0,none⟩) ts.length ts.length):=(by rw[cell_of hI3.x0];rfl);have q1:w3.cell? ⟨w.heap.size,1,none⟩=some (.slice (some ⟨GC,0,none⟩) cs.length cs.length):=(by rw[cell_of hI3.x0];rfl);have q2:w3.cell? ⟨w.heap.size,2,none⟩=some (.slice (some ⟨GP,0,none⟩) np np):=(by rw[cell_of hI3.x0];rfl);have HS6:=aj hs6;have HI3:=aj hI3;have HB3:=aj hb3;clear hs6 hI3 hb3 ug hb6 hcc hcA hbA hgA;refine oH 9 (λK hK=>?_);go_simp;refine hK.out _ _ (trivial) (ag5 (by kernel_rfl) ?_ _);clear hK K;clear hS0;generalize hnn:at_+(S.length-(at_+1))=nn at HS6 hcb3 hlS;have HNN:=aj hnn;clear hnn
    go_wp2_with fail
    refine hcb3.mono ?_;rintro e w4 ⟨bv,f6,rfl,Qp,Xd,hb4⟩;have hI4:=(ah HI3).next hb4
    have hs4:=(ah HS6).below hb4;have WE:=(ah HSV).below ((ah HB3).trans (hb4.mono (ah HB3).size));have HI4:=aj hI4;have HS4:=aj hs4;have acf:=aj WE;have hwm:IntKind.i64.wrap ((at_:Int)-1)=(at_:Int)-1:=(by simp[IntKind.wrap,IntKind.bits,IntKind.signed];omega);cases bv
    ·have YP:NoB ts cs (S.take at_++S.drop (at_+1)):=⟨f6,Qp,λh=>by have:=Xd.2 h;cases this⟩;have acg:=aj YP;clear Qp Xd hb4 hI4 hs4 WE YP hcb3 q0 q1 q2
     go_wp2_with fail
     refine⟨⟨at_,_,by rw[hlS,<-ah HNN];omega,rfl,ah HS4,Vw.trans hsub,ah acg,ah HI4⟩,by simp[intOf]⟩
    ·clear Qp Xd hb4 hI4 hs4 WE hcb3 q0 q1 q2
     go_wp2_with fail
     refine⟨⟨at_,S,by omega,rfl,ah acf,hsub,ah HNB,ah HI4⟩,by simp[intOf]⟩
 ·have HI1:=aj hI1;have HCL:=aj yX;have HBV:=aj hbv;clear yX hbv hb1 hI1
  go_wp2_with fail
  refine ag3 (v:=.slice none 0 0) (by simp[results,results67,go_sem]) rfl ⟨_,[],rfl,Or.inl ⟨rfl,rfl⟩,(ah HI1).below,Or.inl ⟨rfl,f',ah HCL,(ah HBV).1 (by trivial)⟩⟩
end Go.Proofs.YthcppbmkacbbiabGreat
