import Derived.Test.YthcppbmkacbbiaaGreatXBQ
import Derived.Test.YthcppbmkacbbiaaGreatXBU
set_option linter.unusedSimpArgs false
set_option maxHeartbeats 4000000
set_option maxRecDepth 100000
namespace Go.Proofs.YthcppbmkacbbiaaGreat
open Go.Proofs.Tryz
open Go.RowKit Go.Maps Go.WideMaps
open Sat (View Rule je bG)
open aB (Key put)
attribute [local go_sem] Oper.semAt_some
theorem wR(L:List jB):(wG L).length=L.length*5:=by
 unfold wG
 induction L with
 |nil=>rfl
 |cons a L ih=>rw[an8,ae0,ih];simp[CQ];omega
theorem I4(L:List jB):∀u∈wG L,u.oneCell'=true:=by
 intro u hu;obtain⟨s,_,h⟩:=aj6.1 hu;exact RZ s u h
theorem Rx(L M:List jB):wG (L++M)=wG L++wG M:=by simp[wG]
theorem fV.part{w:World}{v:Value}{ss:List jB}(h:fV w v ss)(hne:ss≠[]):∃g off cap,v=.slice (some ⟨g,off,none⟩) ss.length cap/\ss.length<=cap/\g<w.heap.size/\
  ∀W,Below w.heap.size w W->∀a m,a+m<=ss.length->∀j u,(wG ((ss.drop a).take m))[j]?=some u->W.cell? ((⟨g,off+a*5,none⟩:Addr).add j)=some u:=by
 obtain⟨p,cap,h1,h2,h3⟩:=h;obtain⟨g,off,cur,x,q1,q2,q3⟩:=h3 hne;subst q1;have hgl:=(ab1.1 q2).1;refine⟨g,off,cap,h1,h2,hgl,λW hW a m ham j u hj=>?_⟩;have hlen:((ss.drop a).take m).length=m:=by simp;omega
 have hjl:j<m*5:=by
  have:=(List.getElem?_eq_some_iff.1 hj).1;rw[wR,hlen]at this;exact this
 have hi:j/5<((ss.drop a).take m).length:=by rw[hlen];omega
 have hf:=flat_get (f:=CQ) (k:=5) (λ_=>rfl) (by decide) ((ss.drop a).take m) (j/5) hi (j%5) (Nat.mod_lt _ (by decide));have e1:j/5*5+j%5=j:=by omega
 rw[e1]at hf;have hj2:(CQ ((ss.drop a).take m)[j/5])[j%5]?=some u:=hf.symm.trans hj;have e2:((ss.drop a).take m)[j/5]=ss[a+j/5]'(by omega):=by simp
 rw[e2]at hj2;have hq:=q3 (a+j/5) (by omega) (j%5) (Nat.mod_lt _ (by decide));have e3:off+(a+j/5)*5+j%5=off+a*5+j:=by omega
 rw[e3]at hq;have hb:=(hW.block g hgl).trans q2;have e4:(⟨g,off+a*5,none⟩:Addr).add j=⟨g,off+a*5+j,none⟩:=by simp[Addr.add]
 rw[e4,cell_of hb];exact hq.trans hj2
structure OI(w:World)(fo:Array Value)(W:World):Prop where
 x0:W.heap[w.heap.size]?=some (.cells fo 54 (0,0))
 below:Below w.heap.size w W
theorem OI.next{w:World}{fo:Array Value}{W W':World}(h:OI w fo W)(hb:Below W.heap.size W W'):OI w fo W':=
 ⟨(hb.block _ (ab1.1 h.x0).1).trans h.x0,h.below.trans (hb.mono h.below.size)⟩
theorem D6{ts:List Key}{cs:List (Int×Nat)}{S ss:List jB}(h:nG ts cs (ss.map dB))(hs:S.Sublist ss):nG ts cs (S.map dB):=λl hl=>by
 obtain⟨s,h1,rfl⟩:=ad9.1 hl;exact h _ (ad9.2 ⟨s,hs.subset h1,rfl⟩)
def Zn(ts:List Key)(cs:List (Int×Nat))(S:List jB):Prop:=∃f',Closed ts (aW (S.map dB)) f'/\¬cb f' cs (S.map dB)
theorem zM(GT GC GP np:Nat)(ts:List Key)(cs:List (Int×Nat))(v:Value)(ss:List jB)(w:World)(h7:ts.length<=7)(hs:fV w v ss)(hl:ss.length<=100)(hrt:bU w GT ts)(hrc:eF w GC cs)(hi:aB.Inv ts)(ht:∀i (hi:i<ts.length),ts[i].2.1<ts.length/\ts[i].2.2<ts.length)
 (hct:∀x∈cs,(x.1=80\/x.1=81)/\x.2<ts.length)(mZ:nG ts cs (ss.map dB)) :
  Calls prog 95 #[fv GT GC GP ts.length cs.length np,v] w λe w'=>∃v' r,e=.returned v'/\aP w' v' r/\Below w.heap.size w w'/\
   ((r=[]/\∃f',Closed ts (aW (ss.map dB)) f'/\cb f' cs (ss.map dB))\/∃S,S.Sublist ss/\r=S.map Gw/\Zn ts cs S):=by
 obtain⟨i0,hin,hz0,hz1,hz2⟩:=ai8 Jo;have hgt:=hrt.1;have hgc:=hrc.1;have HCB:Hid (∀W v S,fV W v S->S.Sublist ss->Below w.heap.size w W->Calls prog 146 #[fv GT GC GP ts.length cs.length np,v] W λe w'=>∃bv f',e=.returned (.bool bv)/\Closed ts (aW (S.map dB)) f'/\(bv=true↔cb f' cs (S.map dB))/\Below W.heap.size W w'):=λW v S h1 h2 h3=>
  MV GT GC GP np ts cs v S W h7 h1 (ad6 h2.length_le hl) (hrt.below h3 hgt) (hrc.below h3 hgc) hi ht hct (D6 mZ h2)
 clear hrt hrc hi ht hct mZ;unfold fv at HCB ⊢;obtain⟨vp,vc,rfl,_⟩:=id hs;obtain⟨w0,hw0⟩:∃w0,w.alloc (.cells #[.slice (some ⟨GT,0,none⟩) ts.length ts.length,.slice (some ⟨GC,0,none⟩) cs.length cs.length,.slice (some ⟨GP,0,none⟩) np np] 54)=w0:=⟨_,rfl⟩;have hb0:Below w.heap.size w w0:=by rw[<-hw0];exact(af0 _ w).alloc (ab3 _) _
 have hI0:OI w #[.slice (some ⟨GT,0,none⟩) ts.length ts.length,.slice (some ⟨GC,0,none⟩) cs.length cs.length,.slice (some ⟨GP,0,none⟩) np np] w0:=⟨by rw[<-hw0];exact ac4 _ _,hb0⟩;have hcb:=ah HCB w0 _ ss (hs.below hb0) (List.Sublist.refl _) hb0;have q0:w0.cell? ⟨w.heap.size,0,none⟩=some (.slice (some ⟨GT,0,none⟩) ts.length ts.length):=by rw[cell_of hI0.x0];rfl
 have q1:w0.cell? ⟨w.heap.size,1,none⟩=some (.slice (some ⟨GC,0,none⟩) cs.length cs.length):=by rw[cell_of hI0.x0];rfl
 have q2:w0.cell? ⟨w.heap.size,2,none⟩=some (.slice (some ⟨GP,0,none⟩) np np):=by rw[cell_of hI0.x0];rfl
 go_enter func95,ntmps95
 go_wp2_with fail
 clear hw0;refine hcb.mono ?_;rintro e w1 ⟨bv,f',rfl,yH,hbv,hb1⟩;have hI1:=hI0.next hb1
 clear hcb hI0 hb0 q0 q1 q2;cases bv
 ·have hno:Zn ts cs ss:=⟨f',yH,λh=>by have:=hbv.2 h;cases this⟩;have hs1:fV w1 (.slice vp ss.length vc) ss:=hs.below hI1.below;have HI1:=aj hI1;have HS1:=aj hs1;have HNO:=aj hno;clear yH hbv hb1 hI1 hs1 hno
  go_wp2_with fail
  go_loopw [1,5] (λv a wr=>∃(k:Nat) (S:List jB),k<=S.length/\a=.int .i64 ((k:Int)-1)/\fV wr v S/\S.Sublist ss/\Zn ts cs S/\OI w #[.slice (some ⟨GT,0,none⟩) ts.length ts.length,.slice (some ⟨GC,0,none⟩) cs.length cs.length,.slice (some ⟨GP,0,none⟩) np np] wr) (λ_ a _=>(intOf a+1).toNat)
  case atStart=>exact⟨ss.length,ss,ab3 _,rfl,ah HS1,List.Sublist.refl _,ah HNO,ah HI1⟩
  case round=>
   obtain⟨k,S,hk,rfl,hsv,hsub,hnb,hI⟩:=hrel;have hSl:=hsub.length_le;rcases aj3 k with h0|h0
   ·subst h0;have e00:(((0:Nat):Int)-1) = -1:=rfl;rw[e00];clear e00;obtain⟨wo,hwo⟩:∃wo,wo=wr:=⟨_,rfl⟩;subst hwo;obtain⟨p1,cap1,rfl,_,hcs⟩:=hsv.cells;have HCS:=aj hcs;have HI:=aj hI;have HNB:=aj hnb;clear hcs hsv hI hnb
    go_wp2_with fail
    go_loopw [7,36] (λv7 i wq=>∃j:Nat,j<=S.length/\i=.int .i64 j/\wq.ownsRow wo.heap.size 214 2 v7 j (vcs ((S.take j).map Gw))/\Hid (v7=.slice none 0 0↔j=0)/\Below wo.heap.size wo wq) (λ_ i _=>S.length-(intOf i).toNat)
    case atStart=>exact⟨0,af4 _,rfl,ak5 _ _ _ _,by unfold Hid;simp,af0 _ _⟩
    case round=>
     obtain⟨j,hj,rfl,hrow,hnil,hbq⟩:=hrel;by_cases hjl:j<S.length
     ·obtain⟨p7,QA,rfl⟩:=lH hrow;have hbd:(j:Int)<(S.length:Int):=(by omega);obtain⟨g,off,rfl,hgl,hc⟩:=ah HCS (by intro e;rw[e]at hjl;simp at hjl);obtain⟨d0,d1,d2,d3,d4⟩:=hc wr hbq j hjl;have htk:vcs ((S.take (j+1)).map Gw)=vcs ((S.take j).map Gw)++AU (Gw S[j]):=by
       rw[af6,ab4 hjl,ai5];exact Dz _ _
      have fE:=aj htk;have fF:=aj hrow;have HBQ:=aj hbq;have hsq:=hbq.size;clear htk hc hrow hbq;generalize S[j]=s at d0 d1 d2 d3 d4 fE;obtain⟨sx,si,sc,s1,s2⟩:=s;simp only[Gw]at d0 d1 d2 d3 d4 fE;obtain⟨WB,hWB⟩:∃WB,wr.alloc (.cells #[.int .i64 sx,.bool si,.int .u8 sc,.int .i64 s1,.int .i64 s2] 224)=WB:=⟨_,rfl⟩;have hgB:wr.grownBy WB none:=(by rw[<-hWB];exact ab2 _ _ none);have e0:WB.cell? ⟨wr.heap.size,0,none⟩=some (.int .i64 sx):=(by rw[<-hWB];simp[go_sem]);have e1:WB.cell? ⟨wr.heap.size,1,none⟩=some (.bool si):=(by rw[<-hWB];simp[go_sem]);have hvn:=Dy (sx,si) WB;unfold vV at hvn;simp only at hvn
      go_wp2_with fail
      clear hWB;refine hvn.mono ?_;rintro e w5 ⟨rfl,hg5⟩;have hg15:wr.grownBy w5 none:=hgB.trans hg5;have EM:=(ah fF).kept hg15 (Classical.em _);have hb5:=(ah HBQ).grown hg15 (ah HBQ).size (λk e=>by cases e);have hs5:=hg15.size;have HB5:=aj hb5;clear hvn hg5 hgB hg15 hb5 e0 e1
      go_wp2_with (at_builtin;refine aj9 _ rfl _ _ 161 rfl wo.heap.size 214 i0 _ 2 16 underlying161 hin hz0 hz1 hz2 rfl (by decide) (.slice p7 j QA) j (vcs ((S.take j).map Gw)) rfl (EM.alloc _) ⟨w5.heap.size,0,none⟩ 1 1 (AU (sx,!si)) rfl rfl (sF _ _ _ _ _ rfl) (RY _) (by unfold maxLen;omega) (by omega) (by simp;omega) ?_;intro v' w6 hown' hg6 Js abT;obtain⟨g',cap',hv'⟩:=dL hown' (aj1 _);subst hv')
      have hga:w5.grownBy (w5.alloc (.cells #[.int .i64 sx,.bool (!si)] 214)) none:=ab2 _ _ none;have Yq:=(ah HB5).grown hga (ah HB5).size (λk e=>by cases e)
      go_roundw
      case rel=>
       refine⟨j+1,hjl,by go_num,?_,?_,?_⟩
       ·rw[ah fE];exact hown'
       ·unfold Hid;simp
       ·exact Yq.grown hg6 Yq.size (λk e=>(EM.lt k e).1)
      case measure=>simp[intOf];omega
     ·have hjj:j=S.length:=(by omega);have hbd:¬(j:Int)<(S.length:Int):=(by omega);rw[hjj,ag9]at hrow;have hr:aP wr u7 (S.map Gw):=by
       refine kR (base:=wo.heap.size) ?_ ?_
       ·rw[ai6];exact hrow
       ·rw[ah hnil,hjj,List.map_eq_nil_iff];exact List.length_eq_zero_iff
      have HR:=aj hr;have HBQ:=aj hbq;clear hrow hr hbq hjj hnil
      go_wp2_with fail
      refine ae3 (v:=u7) (by simp[results,results95,go_sem]) rfl ?_;have hbF:=(ah HI).below.trans ((ah HBQ).mono (ah HI).below.size);exact⟨u7,rfl,S.map Gw,ah HR,hbF,Or.inr ⟨S,hsub,rfl,ah HNB⟩⟩
   ·obtain⟨at_,rfl⟩:∃a,k=a+1:=⟨k-1,by omega⟩;have eat:(((at_+1:Nat):Int)-1)=(at_:Int):=(by omega);rw[eat];clear eat;have hne:S≠[]:=(by intro e;rw[e]at hk;simp at hk);obtain⟨g,off,cap,rfl,hcap,hgl,hpart⟩:=hsv.part hne;have UH:=aj hpart;have HSV:=aj hsv;have HNB:=aj hnb;have HI:=aj hI;have hge:(at_:Int)≥0:=(by omega);have hx1:(at_:Int)<=(cap:Int):=(by omega);have hx2:(at_:Int)+1<=(S.length:Int):=(by omega);have hx3:0<=(at_:Int)+1:=(by omega);have hw5:IntKind.i64.wrap ((at_:Int)+1)=(at_:Int)+1:=Dw (by omega) (by omega);obtain⟨ad2,had⟩:∃ad2:Addr,(if cap=at_+1 then some (⟨g,off,none⟩:Addr)else some ⟨g,off+(at_+1)*5,none⟩)=some ad2:=by
     by_cases e:cap=at_+1
     ·exact⟨_,by rw[ad3 e]⟩
     ·exact⟨_,by rw[ac2 e]⟩
    have Vm:Hid (∀W,Below wr.heap.size wr W->∀j u,(wG (S.drop (at_+1)))[j]?=some u->W.cell? (ad2.add j)=some u):=λW hW j u hj=>by
     have hlen:=wR (S.drop (at_+1));by_cases e:cap=at_+1
     ·exfalso;have h1:=(List.getElem?_eq_some_iff.1 hj).1;rw[hlen,List.length_drop]at h1;omega
     ·rw[ac2 e]at had;cases had;have:=ah UH W hW (at_+1) (S.length-(at_+1)) (by omega) j u;rw[ag3 (by simp)]at this;exact this hj
    have hnews1:Hid (∀W,Below wr.heap.size wr W->∀j u,(wG (S.take at_))[j]?=some u->W.cell? ((⟨g,off,none⟩:Addr).add j)=some u):=λW hW j u hj=>by
     have:=ah UH W hW 0 at_ (by omega) j u;rw[List.drop_zero,an7,Nat.add_zero]at this;exact this hj
    have HAD:=aj had;clear hpart hsv hnb hI had
    go_wp2_with fail
    refine ae9 (S:=λ_=>True) rfl ?_;have hS0:True:=trivial;simp only[ac0,ab9,ac9,Nat.reduceAdd,ab8,ab7,ac3,ac6,ac5];change wpAnyH prog .any _ _ _ _ _ _ wr.drew;refine tH 0 (.slice (some ⟨g,off,none⟩) S.length cap) (λw' hS=>?_) hS0 ?_
    ·go_simp
    simp only[aC];refine tH 1 (.int .i64 at_) (λw' hS=>?_) hS0 ?_
    ·go_simp
    simp only[aC];refine tH 2 (.slice (some ⟨g,off,none⟩) at_ cap) (λw' hS=>?_) hS0 ?_
    ·go_simp
    simp only[aC];refine tH 3 (.slice (some ⟨g,off,none⟩) S.length cap) (λw' hS=>?_) hS0 ?_
    ·go_simp
    simp only[aC];refine tH 4 (.int .i64 at_) (λw' hS=>?_) hS0 ?_
    ·go_simp
    simp only[aC];refine tH 5 (.int .i64 ((at_:Int)+1)) (λw' hS=>?_) hS0 ?_
    ·go_simp
    simp only[aC];refine tH 6 (.slice (some ad2) (S.length-(at_+1)) (cap-(at_+1))) (λw' hS=>?_) hS0 ?_
    ·go_simp;rw[ah HAD]
    simp only[aC];obtain⟨WA,hWA⟩:∃WA,wr.drew.alloc (.cells #[.slice (some ⟨g,off,none⟩) at_ cap,.slice (some ad2) (S.length-(at_+1)) (cap-(at_+1))] 165)=WA:=⟨_,rfl⟩;have hgA:wr.grownBy WA none:=(by rw[<-hWA];exact(⟨rfl,rfl,rfl,ab3 _,λj hj _=>rfl⟩:wr.grownBy wr.drew none).trans (ab2 _ _ none));have hbA:Below wr.heap.size wr WA:=(af0 _ wr).grown hgA (ab3 _) (λk e=>by cases e);have hcA:WA.heap[wr.heap.size]?=some (.cells #[.slice (some ⟨g,off,none⟩) at_ cap,.slice (some ad2) (S.length-(at_+1)) (cap-(at_+1))] 165 (0,0)):=(by rw[<-hWA];exact ac4 wr.drew _);have hcc:=Iw WA wr.heap.size at_ cap (S.length-(at_+1)) (cap-(at_+1)) ⟨g,off,none⟩ ad2 (wG (S.take at_)) (wG (S.drop (at_+1))) hcA (by omega) (by omega) (by rw[wR,ah3];congr 1;omega) (by rw[wR,List.length_drop]) (ah hnews1 WA hbA) (ah Vm WA hbA) (I4 _) (I4 _);refine oH 7 (λK hK=>?_);go_simp;replace hS0:=trivial;refine hK.out _ _ hS0 ?_;clear hK K;subst hWA;refine oH 8 (λK hK=>?_);go_simp;refine(hcc).mono ?_;rintro e w3 ⟨v6,rfl,sU,hb6⟩;replace hS0:=trivial;refine hK.out _ _ hS0 ?_;clear hK K;obtain⟨p6,cap6,rfl⟩:=lH sU;have hlS:(S.take at_++S.drop (at_+1)).length=at_+(S.length-(at_+1)):=(by simp;omega);have hs6:fV w3 (.slice p6 (at_+(S.length-(at_+1))) cap6) (S.take at_++S.drop (at_+1)):=by
     rw[<-hlS,<-Rx]at sU;have:=vF sU;rw[hlS]at this;exact this
    have Un:(S.take at_++S.drop (at_+1)).Sublist S:=by
     have h1:(S.drop (at_+1)).Sublist (S.drop at_):=by
      rw[<-List.drop_drop];exact List.drop_sublist _ _
     have h2:=(List.Sublist.refl (S.take at_)).append h1
     rwa [List.take_append_drop]at h2
    have hb3:Below wr.heap.size wr w3:=hbA.trans (hb6.mono hbA.size);have hI3:=(ah HI).next hb3
    have hcb3:=ah HCB w3 _ _ hs6 (Un.trans hsub) hI3.below;have q0:w3.cell? ⟨w.heap.size,0,none⟩=some (.slice (some ⟨GT,0,none⟩) ts.length ts.length):=(by rw[cell_of hI3.x0];rfl);have q1:w3.cell? ⟨w.heap.size,1,none⟩=some (.slice (some ⟨GC,0,none⟩) cs.length cs.length):=(by rw[cell_of hI3.x0];rfl);have q2:w3.cell? ⟨w.heap.size,2,none⟩=some (.slice (some ⟨GP,0,none⟩) np np):=(by rw[cell_of hI3.x0];rfl);have HS6:=aj hs6;have HI3:=aj hI3;have HB3:=aj hb3;clear hs6 hI3 hb3 sU hb6 hcc hcA hbA hgA;refine oH 9 (λK hK=>?_);go_simp;refine hK.out _ _ (trivial) (ae4 (by kernel_rfl) ?_ _);clear hK K;clear hS0;generalize hnn:at_+(S.length-(at_+1))=nn at HS6 hcb3 hlS;have HNN:=aj hnn;clear hnn
    go_wp2_with fail
    refine hcb3.mono ?_;rintro e w4 ⟨bv,f6,rfl,Ph,Vy,hb4⟩;have hI4:=(ah HI3).next hb4
    have hs4:=(ah HS6).below hb4;have Ve:=(ah HSV).below ((ah HB3).trans (hb4.mono (ah HB3).size));have HI4:=aj hI4;have HS4:=aj hs4;have aaR:=aj Ve;have hwm:IntKind.i64.wrap ((at_:Int)-1)=(at_:Int)-1:=(by simp[IntKind.wrap,IntKind.bits,IntKind.signed];omega);cases bv
    ·have XH:Zn ts cs (S.take at_++S.drop (at_+1)):=⟨f6,Ph,λh=>by have:=Vy.2 h;cases this⟩;have aaS:=aj XH;clear Ph Vy hb4 hI4 hs4 Ve XH hcb3 q0 q1 q2
     go_wp2_with fail
     refine⟨⟨at_,_,by rw[hlS,<-ah HNN];omega,rfl,ah HS4,Un.trans hsub,ah aaS,ah HI4⟩,by simp[intOf]⟩
    ·clear Ph Vy hb4 hI4 hs4 Ve hcb3 q0 q1 q2
     go_wp2_with fail
     refine⟨⟨at_,S,by omega,rfl,ah aaR,hsub,ah HNB,ah HI4⟩,by simp[intOf]⟩
 ·have HI1:=aj hI1;have HCL:=aj yH;have HBV:=aj hbv;clear yH hbv hb1 hI1
  go_wp2_with fail
  refine ae3 (v:=.slice none 0 0) (by simp[results,results95,go_sem]) rfl ⟨_,[],rfl,Or.inl ⟨rfl,rfl⟩,(ah HI1).below,Or.inl ⟨rfl,f',ah HCL,(ah HBV).1 (by trivial)⟩⟩
end Go.Proofs.YthcppbmkacbbiaaGreat
