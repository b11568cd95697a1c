/- Parts of the proof -/
import Derived.Test.YthhhfcdakfbpkaaGreatDoorP12
import Derived.Shelf.RegionOpenPlain
import Derived.RangeFuncIn
import Derived.RangeFuncLeaves
import Derived.RangeFuncRecord
import Derived.Below
import Derived.Laws.World
import Derived.Test.YthhhfcdakfbpkaaGreatDoorP1
import Derived.RangeFuncNested
import Derived.RangeFuncBound
import Derived.RangeFuncCalls
import Derived.Shelf.Abstract
import Derived.Shelf.RegionOpen
import Derived.WalkKit
import Derived.OwnWalkIn
import Derived.TacticsInMore
import Derived.LoopNIn
import Derived.LoopIn
import Derived.Test.YthhhfcdakfbpkaaGreatDoorP11
namespace Go.Proofs.YthhhfcdakfbpkaaGreatDoor
set_option linter.unusedSimpArgs false
set_option linter.unusedVariables false
set_option maxRecDepth 100000
set_option maxHeartbeats 16000000
open Go.RowKit
variable {z:Int}{w:World}{F:List Nat}{a:Act}{n:Nat}
namespace Bt
theorem u6(b off gv n cap i:Nat)(cs cur:Array Value)(T:TypeId)(w:World)(hn:n<=1000000)(hB:af w b cs T)(h0:cs[off]? =some (.slice (some ⟨gv,0,none⟩) n cap))(hg:w.heap[gv]? =some (.cells cur 266 (0,0)))(hcs:cur.size=cap)(hnc:n<=cap)(hi:i<n)(hgb:gv≠b)
   (h1:∀u∈(cur.toList.take (n)).drop (i),u.oneCell'=true):
   Calls Tryz.prog 206 #[.pointer (some ⟨b,off,none⟩),.int .i64 i] w fun x w'=>∃v,x=.returned v/\aC [b,gv] w w'/\w'.ownsRow w.heap.size 266 1 v (n-i) ((cur.toList.take (n)).drop (i))/\af w' b (cs.setIfInBounds off (.slice (some ⟨gv,0,none⟩) i cap)) T/\
     ∃cur',w'.heap[gv]? =some (.cells cur' 266 (0,0))/\cur'.size=cap/\cur'.toList.take (i)=cur.toList.take (i):=by
 have HB:=hd hB;have c0:=(hB.cell off).trans h0;have hbl:=hB.lt;have hgl:=(geA.1 hg).1;have HG:=hd hg;have HCS:=hd hcs;have H0:=hd h0
 have j1:(i:Int)<(n:Int):=by omega
 have j2:(i:Int)<=(n:Int):=by omega
 have j3:(n:Int)<=(cap:Int):=by omega
 have hci:¬cap=i:=by omega
 have HCL:=hd (vL ⟨gv,i,none⟩ (n-i) (cap-i) ((cur.toList.take (n)).drop (i)) w (by omega) (by rw[List.length_drop,List.length_take,Array.length_toList];omega) (fun j u hu=>by
  rw[List.getElem?_drop,List.getElem?_take]at hu
  split at hu
  · rw[Addr.add_lit,(show af w gv cur 266 from hg).cell];simpa using hu
  cases hu) h1)
 clear hB h0 hg hcs h1;go_enter Tryz.func206,Tryz.ntmps206;go_wp2_with fail;refine HCL.out.mono ?_;rintro x w1 ⟨v,rfl,hown,hb1⟩;obtain⟨ao',cp',rfl⟩:=au hown;have HOW:=hd hown;have HB1:=hd hb1;have K1:=HB.out.below hb1 hbl;have c1:=(K1.cell off).trans H0.out;have N9:=K1.lt
 have HG1:Hid (w1.heap[gv]? =some (.cells cur 266 (0,0))):=by show _=_;rw[hb1.block gv hgl];exact HG.out
 have HDL:=hd (sF gv n cap i cur (World.drew w1) hn HG1.out HCS.out hnc hi);have HK1:=hd K1;clear hown hb1 K1 c0 HCL;go_wp2_with fail
 go_region_with (
   go_at_call 266
   refine HDL.out.mono ?_;rintro x w2 ⟨rfl,ht2,hc2⟩;have K2:=ht2.blk HK1.out.drew (by simp;omega);have d1:=(K2.cell off).trans H0.out;have f1:=K2.free off;have Qu:=K2.lt;have HT2:=hd ht2;have HC2:=hd hc2;have HK2:=hd K2
   clear ht2 hc2 K2)
 all_goals
  go_wp2_with fail;go_ret;refine⟨_,rfl,?_,?_,HK2.out.set off _,?_⟩
  · exact((aC.of (F:=[b,gv]) HB1.out).trans HT2.out.eF (fun k hk=> .inl (by simp at hk;simp[hk]))).set _ _ (.inl (by simp))
  · refine bM HOW.out fun k hk=> ?_
    have h2:=HOW.out.lt k (by simpa[own]using hk);rw[Below.heap_setCell _ _ _ _ (by show k≠b;omega)];exact HT2.out.eF.block k h2.2 (by simp;omega)
  obtain⟨cur',h2,h3⟩:=HC2.out;exact⟨cur',by rw[Below.heap_setCell _ _ _ _ (by show gv≠b;exact hgb)];exact h2,h3⟩
end Bt
namespace Bt
theorem Ak(b off n gk ck kb gv cap gq cq:Nat)(cs cur curq:Array Value)(T:TypeId)(ve:Value)(xs ys:List Value)(z:Int)(ra:Option Addr)(rn rc:Nat)(w:World)(hn:n<=1000)(hB:af w b cs T)(h0:cs[off]? =some ve)(h1:cs[off+1]? =some (.slice (some ⟨gk,0,none⟩) (n+1) ck))
   (hve:w.ownsRow 0 265 2 ve n xs) (hvk:w.ownsRow 0 266 1 (.slice (some ⟨gk,0,none⟩) (n+1) ck) (n+1) ys) (hlast:ys[n]? =some (.pointer (some ⟨kb,0,none⟩)))
   (hk:af w kb #[.slice (some ⟨gv,0,none⟩) 7 cap,.slice (some ⟨gq,0,none⟩) 8 cq] 124) (hg:w.heap[gv]? =some (.cells cur 265 (0,0))) (hcs:cur.size=cap*2) (hnc:7<=cap) (hcm:cap<=maxLen)
   (k0:cur[6]? =some (.int .i64 z)) (k1:cur[7]? =some (.slice ra rn rc)) (h8:∀u∈(cur.toList.take (7*2)).drop (4*2),u.oneCell'=true)
   (hd0:b≠kb/\b≠gv/\b≠gk/\kb≠gv/\kb≠gk/\gv≠gk/\b∉own ve/\kb∉own ve/\gv∉own ve/\gk∉own ve)
   (hgq:w.heap[gq]? =some (.cells curq 266 (0,0))) (hcsq:curq.size=cq) (hncq:8<=cq) (hq1:∀u∈(curq.toList.take 8).drop 4,u.oneCell'=true) (hqd:gq≠b/\gq≠kb/\gq≠gv/\gq∉own ve/\gq≠gk):
   Calls Tryz.prog 150 #[.pointer (some ⟨b,off,none⟩),.int .i64 n] w fun x w'=>x=.returned (.tuple #[])/\∃ve' vk' v vq gh N1 N2,aC ([b,gk,kb,gv,gq]++own ve) w w'/\af w' b ((cs.setIfInBounds off ve').setIfInBounds (off+1) vk') T/\
     w'.ownsRow 0 265 2 ve' (n+1) (xs++[.int .i64 z,.slice ra rn rc])/\w'.ownsRow 0 266 1 vk' (n+2) (ys++[.pointer (some ⟨gh,0,none⟩)])/\
     af w' kb #[.slice (some ⟨gv,0,none⟩) 3 cap,.slice (some ⟨gq,0,none⟩) 4 cq] 124/\(∃cur',w'.heap[gv]? =some (.cells cur' 265 (0,0))/\cur'.size=cap*2/\cur'.toList.take (3*2)=cur.toList.take (3*2))/\af w' gh #[v,vq] 124/\w'.ownsRow w.heap.size 265 2 v 3 ((cur.toList.take (7*2)).drop (4*2))/\(∀g∈own v,w.heap.size<=g/\g<gh)/\
     (∃qQ,w'.heap[gq]? =some (.cells qQ 266 (0,0))/\qQ.size=cq/\qQ.toList.take 4=curq.toList.take 4)/\w'.ownsRow w.heap.size 266 1 vq 4 ((curq.toList.take 8).drop 4)/\(∀g∈own vq,gh<g/\g<N1)/\
     gh<N1/\N1<=N2/\(∀g∈own ve',g∈own ve\/(N1<=g/\g<N2))/\(∀g∈own vk',g=gk\/(N2<=g/\g<w'.heap.size)):=by
 have HB:=hd hB;have H0:=hd h0;have H1:=hd h1;have hbl:=hB.lt;have c0:=(hB.cell off).trans h0;have c1:=(hB.cell (off+1)).trans h1;have hgk:=aZ hvk gk (by simp[own,Value.ownBlock]);have hkb:=hk.lt
 have q0:w.cell? ⟨gk,n,none⟩=some (.pointer (some ⟨kb,0,none⟩)):=by
  have:=hvk.cells (g:=gk) rfl n _ hlast;simpa only[Addr.add_lit,Nat.zero_add]using this
 have HVE:=hd hve;have HVK:=hd hvk;have HK:=hd hk;have HG:=hd hg;have HCS:=hd hcs;have K0:=hd k0;have K1:=hd k1;have HD:=hd hd0;have HQ0:=hd hgq;have HSQ:=hd hcsq;have HQ1:=hd hq1;have HQD:=hd hqd;have Gr:Hid (gq<w.heap.size):=(geA.1 hgq).1;clear hgq hcsq hq1 hqd;have hgl:=(geA.1 hg).1;have zn:=hd (uV kb 0 gv 7 cap 4 _ cur _ w (by omega) hk rfl hg hcs hnc (by omega) hd0.2.2.2.1.symm h8)
 have j1:(n:Int)<(n:Int)+1:=by omega
 have j2:n<n+1:=by omega
 clear hB h0 h1 hve hvk hlast hk hg hcs k0 k1 h8 hd0;go_enter Tryz.func150,Tryz.ntmps150;go_wp2_with fail;refine zn.out.mono ?_;rintro x w1 ⟨v,rfl,ht1,hown1,hk1,hc1⟩;obtain⟨ao,cp,rfl⟩:=au hown1;have HT1:=hd ht1;have HO1:=hd hown1;have HK1:=hd hk1;have HC1:=hd hc1;have hs1:=ht1.size;clear ht1 hown1 hk1 hc1 zn c0 c1 q0;have HTA:=hd (HT1.out.alloc (.cells #[.slice ao 3 cp,.slice none 0 0] 124));have HGH:=hd (af.new w1 #[.slice ao 3 cp,.slice none 0 0] 124);have HKA:=hd (HK1.out.alloc (.cells #[.slice ao 3 cp,.slice none 0 0] 124));have HOA:=hd (HO1.out.alloc (.cells #[.slice ao 3 cp,.slice none 0 0] 124));have p1:=HKA.out.cell 1;simp at p1;have hla:=HKA.out.lt;go_wp2_with fail;refine(pg kb 0 8 _ _ _ (by decide) hla p1).mono ?_;rintro x w2 ⟨rfl,rfl⟩
 have AX:Hid (∃dZ,(w1.alloc (.cells #[.slice ao 3 cp,.slice none 0 0] 124)).heap[gv]? =some (.cells dZ 265 (0,0))/\dZ.size=cap*2/\dZ.toList.take (4*2)=cur.toList.take (4*2)):=by
  obtain⟨dZ,a1,a2,a3⟩:=HC1.out;exact⟨dZ,((Below.refl w1.heap.size w1).alloc (nlr _) _).block gv ((geA.1 a1).1)▸a1,a2,a3⟩
 have HKQ:Hid (af (w1.alloc (.cells #[.slice ao 3 cp,.slice none 0 0] 124)) kb #[.slice (some ⟨gv,0,none⟩) 4 cap,.slice (some ⟨gq,0,none⟩) 8 cq] 124):=by show af _ _ _ _;simpa using HKA.out
 have HGQ:Hid ((w1.alloc (.cells #[.slice ao 3 cp,.slice none 0 0] 124)).heap[gq]? =some (.cells curq 266 (0,0))):=by
  have hQ:=HQD.out;exact(HTA.out.block gq (geA.1 HQ0.out).1 (by simp;omega)).trans HQ0.out
 have hsQ:(w1.alloc (.cells #[.slice ao 3 cp,.slice none 0 0] 124)).heap.size=w1.heap.size+1:=World.size_alloc _ _;have HCQ:=hd (u6 kb 1 gq 8 cq 4 _ curq _ (w1.alloc (.cells #[.slice ao 3 cp,.slice none 0 0] 124)) (by omega) HKQ.out rfl HGQ.out HSQ.out hncq (by omega) (HQD.out.2.1) HQ1.out);have Me:=hd hsQ;clear hsQ;generalize w1.alloc (.cells #[.slice ao 3 cp,.slice none 0 0] 124)=wQ at*;go_wp2_with fail;refine HCQ.out.mono ?_;rintro x wR ⟨vq,rfl,htq,G9,hkq,hcq⟩;obtain⟨aq,cpq,rfl⟩:=au G9;have HTQ:=hd htq;have HOQ:=hd G9
 have HKR:Hid (af wR kb #[.slice (some ⟨gv,0,none⟩) 4 cap,.slice (some ⟨gq,0,none⟩) 4 cq] 124):=by show af _ _ _ _;simpa using hkq
 have HCR:=hd hcq;have HGR:=hd (htq.blk HGH.out (by have:=HQD.out;have:=Gr.out;simp;omega));have gr1:=HGR.out.cell 1;have gf1:=HGR.out.free 1;simp at gr1;have lgr:=HGR.out.lt
 have OG:Hid (∃dZ,wR.heap[gv]? =some (.cells dZ 265 (0,0))/\dZ.size=cap*2/\dZ.toList.take (4*2)=cur.toList.take (4*2)):=by
  obtain⟨dZ,a1,a2,a3⟩:=AX.out;exact⟨dZ,(HTQ.out.block gv (geA.1 a1).1 (by have:=HQD.out;have:=HD.out;simp;omega)).trans a1,a2,a3⟩
 clear htq G9 hkq hcq HCQ;have TQA:aC [kb,gq] wQ (wR.setCell ⟨w1.heap.size,1,none⟩ (.slice aq 4 cpq))\/True:=.inr trivial;have Qr:Hid (aC [kb,gv,gq] w (wR.setCell ⟨w1.heap.size,1,none⟩ (.slice aq 4 cpq))):=((HTA.out.more (G:=[kb,gv,gq]) (fun x hx=>by simp at hx;rcases hx with rfl|rfl<;>simp)).trans HTQ.out (fun x hx=> .inl (by simp at hx;rcases hx with rfl|rfl<;>simp))).set _ _ (.inr hs1)
 have Qz:Hid (af (wR.setCell ⟨w1.heap.size,1,none⟩ (.slice aq 4 cpq)) w1.heap.size #[.slice ao 3 cp,.slice aq 4 cpq] 124):=by show af _ _ _ _;simpa using HGR.out.set 1 (.slice aq 4 cpq)
 have HKA2:Hid (af (wR.setCell ⟨w1.heap.size,1,none⟩ (.slice aq 4 cpq)) kb #[.slice (some ⟨gv,0,none⟩) 4 cap,.slice (some ⟨gq,0,none⟩) 4 cq] 124):=HKR.out.far _ _ (by show w1.heap.size≠kb;omega)
 have Pv:Hid ((wR.setCell ⟨w1.heap.size,1,none⟩ (.slice aq 4 cpq)).ownsRow w.heap.size 265 2 (.slice ao 3 cp) 3 ((cur.toList.take (7*2)).drop (4*2))):=by
  have hQ:=HQD.out;refine aG HOA.out (((aC.refl [kb,gq,w1.heap.size] wQ).trans HTQ.out (fun x hx=> .inl (by simp at hx;rcases hx with rfl|rfl<;>simp))).set ⟨w1.heap.size,1,none⟩ (.slice aq 4 cpq) (.inl (by simp))) (fun g hg=> ?_);have h1:=HO1.out.lt g (by simpa[own]using hg);have:=Gr.out;simp;omega
 have Nl:Hid ((wR.setCell ⟨w1.heap.size,1,none⟩ (.slice aq 4 cpq)).ownsRow (w1.heap.size+1) 266 1 (.slice aq 4 cpq) 4 ((curq.toList.take 8).drop 4)):=by
  have h0:=HOQ.out;rw[Me.out]at h0;refine aG h0 ((aC.refl [w1.heap.size] wR).set ⟨w1.heap.size,1,none⟩ (.slice aq 4 cpq) (.inl (by simp))) (fun g hg=> ?_);have h1:=h0.lt g (by simpa[own]using hg);simp;omega
 have OB:Hid (∃dZ,(wR.setCell ⟨w1.heap.size,1,none⟩ (.slice aq 4 cpq)).heap[gv]? =some (.cells dZ 265 (0,0))/\dZ.size=cap*2/\dZ.toList.take (4*2)=cur.toList.take (4*2)):=by
  obtain⟨dZ,a1,a2,a3⟩:=OG.out;exact⟨dZ,(Below.heap_setCell _ _ _ _ (by show gv≠w1.heap.size;omega)).trans a1,a2,a3⟩
 have PG:Hid (∃qQ,(wR.setCell ⟨w1.heap.size,1,none⟩ (.slice aq 4 cpq)).heap[gq]? =some (.cells qQ 266 (0,0))/\qQ.size=cq/\qQ.toList.take 4=curq.toList.take 4):=by
  obtain⟨dZ,a1,a2,a3⟩:=HCR.out;have:=Gr.out;exact⟨dZ,(Below.heap_setCell _ _ _ _ (by show gq≠w1.heap.size;omega)).trans a1,a2,a3⟩
 have hsA:w1.heap.size+1<=(wR.setCell ⟨w1.heap.size,1,none⟩ (.slice aq 4 cpq)).heap.size:=by
  have:=HTQ.out.size;rw[Me.out]at this;simpa using this
 go_wp2_with fail
 have HNQ:Hid (wR.heap.size=(wR.setCell ⟨w1.heap.size,1,none⟩ (.slice aq 4 cpq)).heap.size):=by show _=_;simp
 generalize wR.setCell ⟨w1.heap.size,1,none⟩ (.slice aq 4 cpq)=wA at*;clear TQA HTA HGH HKA HOA HOQ AX OG HCR HKR HGR HTQ HKQ HGQ gr1 gf1 lgr;have HTA:=Qr;have HGH:=Qz;have HOA:=Pv;have AX:=OB;have HBA:=hd (HTA.out.blk HB.out (by have:=HD.out;have:=HQD.out;simp;omega));have HVA:=hd (aG HVE.out HTA.out (fun g hg=>by have:=HD.out;simp;exact⟨fun e=>this.2.2.2.2.2.2.2.1 (e▸hg),fun e=>this.2.2.2.2.2.2.2.2.1 (e▸hg),fun e=>HQD.out.2.2.2.1 (e▸hg)⟩));have NG:=hd (aG HVK.out HTA.out (fun g hg=>by have:=HD.out;have:=HQD.out;simp[own,Value.ownBlock]at hg;simp;omega));have c0:=(HBA.out.cell off).trans H0.out;have hbA:=HBA.out.lt;obtain⟨dZ,Ag,hcs1,zA⟩:=AX.out
 have e6:dZ[3*2]? =some (.int .i64 z):=by
  have:=congrArg (fun l=>l[6]?) zA;simp only[List.getElem?_take,Array.getElem?_toList]at this;simpa[K0.out]using this
 have e7:dZ[3*2+1]? =some (.slice ra rn rc):=by
  have:=congrArg (fun l=>l[7]?) zA;simp only[List.getElem?_take,Array.getElem?_toList]at this;simpa[K1.out]using this
 have HTO:=hd (qJ kb 0 gv 4 cap 3 z ra rn rc _ dZ _ (World.drew wA) (by omega) HKA2.out.drew rfl Ag hcs1 (by omega) rfl HD.out.2.2.2.1.symm e6 e7);have MJ:=hd zA;clear Ag hcs1 zA e6 e7 AX HC1 OB;go_wp2_with fail
 go_region_with (first
  |(go_at_call 207
    refine HTO.out.mono ?_;rintro x w3 ⟨rfl,ht3,hk3,hc3⟩;have HT3:Hid (aC [kb,gv] wA w3):=ht3.eF;have HB3:=hd (ht3.blk HBA.out.drew (by have:=HD.out;simp;omega))
    have HK3:Hid (af w3 kb #[.slice (some ⟨gv,0,none⟩) 3 cap,.slice (some ⟨gq,0,none⟩) 4 cq] 124):=by show af _ _ _ _;simpa using hk3
    have HC3:=hd hc3;have d0:=(HB3.out.cell off).trans H0.out;have hb3:=HB3.out.lt;have HV3:=hd (aG HVA.out HT3.out (fun g hg=>by have:=HD.out;simp;exact⟨fun e=>this.2.2.2.2.2.2.2.1 (e▸hg),fun e=>this.2.2.2.2.2.2.2.2.1 (e▸hg)⟩));have HE3:=hd (af.new w3 #[.int .i64 z,.slice ra rn rc] 265);have HIN:=hd (mM ve n xs z ra rn rc w3.heap.size (w3.alloc (.cells #[.int .i64 z,.slice ra rn rc] 265)) (by omega) (HV3.out.alloc _) HE3.out.lt ((HE3.out.cell 0).trans rfl) ((HE3.out.cell 1).trans rfl));have HB4:=hd (HB3.out.alloc (.cells #[.int .i64 z,.slice ra rn rc] 265));have d1:=(HB4.out.cell off).trans H0.out;have hb4:=HB4.out.lt
    clear ht3 hk3 hc3)
  |(go_at_call 204
    refine HIN.out.mono ?_;rintro x w4 ⟨v4,rfl,iI,sS,AV⟩;have HT4:Hid (aC (own ve) (w3.alloc (.cells #[.int .i64 z,.slice ra rn rc] 265)) w4):=aC.grown sS (fun k hk=>by simp[own,hk]);have HB5:=hd (HT4.out.blk HB4.out HD.out.2.2.2.2.2.2.1);have HO4:=hd iI;have HS4:=hd AV;have d2:=(HB5.out.cell off).trans H0.out;have f2:=HB5.out.free off;have hb5:=HB5.out.lt;obtain⟨a4,c4,rfl⟩:=au iI
    clear iI sS AV))
 all_goals
  have hN4:=HT4.out.size;have hs3:=HT3.out.size;rw[World.size_alloc]at hN4;have HB6:=hd (HB5.out.set off (.slice a4 (n+1) c4));have HT5:Hid (aC [b,gk] w4 (w4.setCell ⟨b,off,none⟩ (.slice a4 (n+1) c4))):=(aC.refl [b,gk] w4).set _ _ (.inl (by simp))
  have HVK5:Hid ((w4.setCell ⟨b,off,none⟩ (.slice a4 (n+1) c4)).ownsRow 0 266 1 (.slice (some ⟨gk,0,none⟩) (n+1) ck) (n+1) ys):=by
   have hD:=HD.out;have x1:=aG NG.out (HT3.out.alloc (.cells #[.int .i64 z,.slice ra rn rc] 265)) (fun g hg=>by simp[own,Value.ownBlock]at hg;simp;omega);have x2:=aG x1 HT4.out (fun g hg=>by simp[own,Value.ownBlock]at hg;rw[hg];exact hD.2.2.2.2.2.2.2.2.2);exact aG x2 ((aC.refl [b] w4).set ⟨b,off,none⟩ (.slice a4 (n+1) c4) (.inl (by simp))) (fun g hg=>by simp[own,Value.ownBlock]at hg;simp;omega)
  have hb6:=HB6.out.lt
  have g1:(w4.setCell ⟨b,off,none⟩ (.slice a4 (n+1) c4)).cell? ⟨b,off+1,none⟩=some (.slice (some ⟨gk,0,none⟩) (n+1) ck):=by
   rw[HB6.out.cell,Array.getElem?_setIfInBounds_ne (by omega)];exact H1.out
  have hs5:(w4.setCell ⟨b,off,none⟩ (.slice a4 (n+1) c4)).heap.size=w4.heap.size:=by simp
  generalize w4.setCell ⟨b,off,none⟩ (.slice a4 (n+1) c4)=W5 at*;have HS5:=hd hs5;clear hs5;have HE5:=hd (af.new W5 #[.pointer (some ⟨w1.heap.size,0,none⟩)] 266)
  have HIK:Hid (Calls Tryz.prog 208 #[.slice (some ⟨gk,0,none⟩) (n+1) ck,.int .i64 ((n:Int)+1),.slice (some ⟨W5.heap.size,0,none⟩) 1 1] (W5.alloc (.cells #[.pointer (some ⟨w1.heap.size,0,none⟩)] 266)) fun x w'=>∃v,x=.returned v/\w'.ownsRow 0 266 1 v (n+1+1) (ys++[.pointer (some ⟨w1.heap.size,0,none⟩)])/\(W5.alloc (.cells #[.pointer (some ⟨w1.heap.size,0,none⟩)] 266)).grownBy w' (Value.slice (some ⟨gk,0,none⟩) (n+1) ck).ownBlock/\∀k∈own v,k∈own (.slice (some ⟨gk,0,none⟩) (n+1) ck)\/(W5.alloc (.cells #[.pointer (some ⟨w1.heap.size,0,none⟩)] 266)).heap.size<=k):=by
   have h:=mr (.slice (some ⟨gk,0,none⟩) (n+1) ck) (n+1) ys w1.heap.size W5.heap.size (W5.alloc (.cells #[.pointer (some ⟨w1.heap.size,0,none⟩)] 266)) (by omega) (HVK5.out.alloc _) HE5.out.lt ((HE5.out.cell 0).trans rfl);rw[show((n+1:Nat):Int)=(n:Int)+1 from by simp]at h;exact h
  go_wp2_with fail;refine HIK.out.mono ?_;rintro x w6 ⟨v6,rfl,hown6,sW,Ah⟩;have HT6:Hid (aC [gk] (W5.alloc (.cells #[.pointer (some ⟨w1.heap.size,0,none⟩)] 266)) w6):=aC.grown sW (fun k hk=>by simp[Value.ownBlock]at hk;simp[hk]);have HB7:=hd (HT6.out.blk (HB6.out.alloc (.cells #[.pointer (some ⟨w1.heap.size,0,none⟩)] 266)) (by have:=HD.out;simp;omega));have HO6:=hd hown6;have HS6:=hd Ah;have f7:=HB7.out.free (off+1)
  have m7:w6.cell? ⟨b,off+1,none⟩=some (.slice (some ⟨gk,0,none⟩) (n+1) ck):=by
   rw[HB7.out.cell,Array.getElem?_setIfInBounds_ne (by omega)];exact H1.out
  have hb7:=HB7.out.lt;obtain⟨a6,c6,rfl⟩:=au hown6;clear hown6 sW Ah HIK HIN HTO;go_wp2_with fail
  go_end0
  have hD:=HD.out;have hs6:=HT6.out.size;have hs5:=HS5.out;rw[World.size_alloc]at hs6;have T56:aC [b,gk] w4 w6:=(HT5.out.alloc (.cells #[.pointer (some ⟨w1.heap.size,0,none⟩)] 266)).trans HT6.out (fun x hx=> .inl (by simp at hx;simp[hx]));have T47:aC [b,gk] w4 (w6.setCell ⟨b,off+1,none⟩ (.slice a6 (n+1+1) c6)):=T56.set _ _ (.inl (by simp));have T37:aC ([b,gk]++own ve) w3 (w6.setCell ⟨b,off+1,none⟩ (.slice a6 (n+1+1) c6)):=(((aC.refl ([b,gk]++own ve) w3).alloc (.cells #[.int .i64 z,.slice ra rn rc] 265)).trans HT4.out (fun x hx=> .inl (by simp[hx]))).trans T47 (fun x hx=> .inl (by simp at hx;rcases hx with rfl|rfl<;>simp));have TA7:aC ([b,gk,kb,gv,gq]++own ve) wA (w6.setCell ⟨b,off+1,none⟩ (.slice a6 (n+1+1) c6)):=(HT3.out.more (G:=[b,gk,kb,gv,gq]++own ve) (fun x hx=>by simp at hx;rcases hx with rfl|rfl<;>simp)).trans T37 (fun x hx=> .inl (by simp at hx;rcases hx with rfl|rfl|hx<;>simp[*]));have T07:aC ([b,gk,kb,gv,gq]++own ve) w (w6.setCell ⟨b,off+1,none⟩ (.slice a6 (n+1+1) c6)):=(HTA.out.more (G:=[b,gk,kb,gv,gq]++own ve) (fun x hx=>by simp at hx;rcases hx with rfl|rfl|rfl<;>simp)).trans TA7 (fun x hx=> .inl hx)
  have l4:∀g∈own (.slice a4 (n+1) c4),g∈own ve\/(w3.heap.size+1<=g/\g<w4.heap.size):=fun g hg=>by
   rcases HS4.out g hg with h|h
   · exact .inl h
   exact .inr ⟨by rw[World.size_alloc]at h;exact h,aZ HO4.out g hg⟩
  have hlv:∀g∈own ve,g<w.heap.size:=aZ HVE.out;refine⟨rfl,.slice a4 (n+1) c4,.slice a6 (n+1+1) c6,.slice ao 3 cp,.slice aq 4 cpq,w1.heap.size,w3.heap.size+1,w4.heap.size,T07,HB7.out.set (off+1) _,?_,?_,?_,?_,?_,?_,?_,?_,?_,?_,by omega,by omega,l4,?_⟩
  · refine aG HO4.out T47 (fun g hg=> ?_);rcases l4 g hg with h|h
    · simp;exact⟨fun e=>hD.2.2.2.2.2.2.1 (e▸h),fun e=>hD.2.2.2.2.2.2.2.2.2 (e▸h)⟩
    simp;omega
  · refine aG HO6.out ((aC.refl [b] w6).set ⟨b,off+1,none⟩ (.slice a6 (n+1+1) c6) (.inl (by simp))) (fun g hg=> ?_);rcases HS6.out g hg with h|h
    · simp[own,Value.ownBlock]at h;simp;omega
    rw[World.size_alloc]at h;simp;omega
  · exact T37.blk HK3.out (by simp;exact⟨fun e=>hD.1 e.symm,hD.2.2.2.2.1,hD.2.2.2.2.2.2.2.1⟩)
  · obtain⟨cur',q1,q2,q3⟩:=HC3.out;refine⟨cur',?_,q2,?_⟩
    · rw[T37.block gv (geA.1 q1).1 (by simp;exact⟨fun e=>hD.2.1 e.symm,hD.2.2.2.2.2.1,hD.2.2.2.2.2.2.2.2.1⟩)];exact q1
    rw[q3];have:=congrArg (List.take (3*2)) MJ.out;simpa[List.take_take]using this
  · have hq0:=Gr.out;refine TA7.blk HGH.out (by simp;refine⟨by omega,by omega,by omega,by omega,by omega,fun h=> ?_⟩;have:=hlv _ h;omega)
  · refine aG HOA.out TA7 (fun g hg=> ?_);have h1:=HO1.out.lt g (by simpa[own]using hg);have hq0:=Gr.out;simp;refine⟨by omega,by omega,by omega,by omega,by omega,fun h=> ?_⟩;have:=hlv _ h;omega
  · intro g hg;have h1:=HO1.out.lt g (by simpa[own]using hg);exact⟨h1.1,h1.2⟩
  · obtain⟨cur',q1,q2,q3⟩:=PG.out;have hQ:=HQD.out;refine⟨cur',?_,q2,q3⟩;have q4:=(HT3.out.block gq (geA.1 q1).1 (by simp;omega)).trans q1;rw[T37.block gq (geA.1 q4).1 (by simp;exact⟨hQ.1,hQ.2.2.2.2,hQ.2.2.2.1⟩)];exact q4
  · have hq0:=Gr.out;refine Ts.ai (aG Nl.out TA7 (fun g hg=> ?_)) (by omega);have h1:=Nl.out.lt g (by simpa[own]using hg);simp;refine⟨by omega,by omega,by omega,by omega,by omega,fun h=> ?_⟩;have:=hlv _ h;omega
  · intro g hg;have h1:=Nl.out.lt g (by simpa[own]using hg);exact⟨by omega,by omega⟩
  intro g hg;rcases HS6.out g hg with h|h
  · simp[own,Value.ownBlock]at h;exact .inl h
  right
  rw[World.size_alloc]at h;have:=aZ HO6.out g hg;simp;omega
end Bt
namespace Bt
def LX(w:World)(d:Nat)(k:fK):Prop:=af w k.b #[k.ve,k.vk] 124/\Nd Tr w d 3 6 k.L k.ve k.vk k.F
theorem AJ{cur:Array Value}{es:List (Value×Value)}{ra:Option Addr}{rn rc:Nat}(h:cur.toList.take (7*2)=flatE es)(h3:es[3]? =some (.int .i64 z,.slice ra rn rc)):cur[6]? =some (.int .i64 z)/\cur[7]? =some (.slice ra rn rc):=by
 obtain⟨hl,he⟩:=List.getElem?_eq_some_iff.1 h3;have a:=gT es 3 hl;have b:=gX es 3 hl;rw[he]at a b;have c:=congrArg (fun l=>l[6]?) h;have d:=congrArg (fun l=>l[7]?) h;simp only[List.getElem?_take,Array.getElem?_toList]at c d;exact⟨by simpa using c.trans a,by simpa using d.trans b⟩
theorem BA{cur:Array Value}{es:List (Value×Value)}(h:cur.toList.take (7*2)=flatE es):(cur.toList.take (7*2)).drop (4*2)=flatE (es.drop 4)/\(cur.toList.take (3*2))=flatE (es.take 3):=by
 refine⟨by rw[h,vI],?_⟩;have:=congrArg (List.take (3*2)) h;rw[uF,List.take_take]at this;simpa using this
theorem G6{α:Type}(es:List α)(h:es.length=7):∃e,es[3]? =some e/\es=es.take 3++e::es.drop 4/\(es.take 3).length=3/\(es.drop 4).length=3:=by
 match es,h with
 |[a,b,c,d,e,f,g],_=>exact⟨d,rfl,rfl,rfl,rfl⟩
structure NP(w w':World)(d:Nat)(b off:Nat)(cs:Array Value)(T:TypeId)(es:List (Value×Value))(ks:List fK)(k:fK)(ve vk:Value)(ve' vk':Value)(lo hi:fK)(mid:Value×Value):Prop where
 qO:aC (b::(own ve++own vk++(k.b::k.F))) w w'
 blk:af w' b ((cs.setIfInBounds off ve').setIfInBounds (off+1) vk') T
 eB:w'.ownsRow 0 265 2 ve' (es.length+1) (flatE (es++[mid]))
 kids:w'.ownsRow 0 266 1 vk' (es.length+2) ((ks++[lo,hi]).map fK.ptr)
 list:k.L=lo.L++mid::hi.L
 low:LX w' d lo
 high:LX w' d hi
 cnt:∀x,(own ve').count x+(own vk').count x+([lo,hi].flatMap di).count x<=(own ve).count x+(own vk).count x+([k].flatMap di).count x\/(w.heap.size<=x/\(own ve').count x+(own vk').count x+([lo,hi].flatMap di).count x<=1)
theorem nS{v v':Value}{N M x:Nat}(h:∀k∈own v',k∈own v\/(N<=k/\k<M)):(own v').count x<=(own v).count x\/(N<=x/\x<M/\(own v').count x<=1):=by
 by_cases hx:x∈own v'
 · rcases h x hx with h1|h1
   · left
     have:=jR v' x;have:=List.count_pos_iff.2 h1;omega
   exact .inr ⟨h1.1,h1.2,jR v' x⟩
 left;rw[List.count_eq_zero.2 hx];omega
theorem iY(a x:Nat):(if a=x then 1 else 0)=0\/((if a=x then 1 else 0)=1/\a=x):=by split<;>simp[*]
theorem wS(e:Value×Value):flatE [e]=[e.1,e.2]:=rfl
theorem r9(d b off:Nat)(cs:Array Value)(T:TypeId)(es:List (Value×Value))(ks:List fK)(k:fK)(ve vk:Value)(w:World)(hle:es.length<=6)(hkl:ks.length=es.length)(hB:af w b cs T)(h0:cs[off]? =some ve)(h1:cs[off+1]? =some vk)
   (hve:w.ownsRow 0 265 2 ve es.length (flatE es)) (hvk:w.ownsRow 0 266 1 vk (es.length+1) ((ks++[k]).map fK.ptr)) (hk:af w k.b #[k.ve,k.vk] 124) (hN:Nd Tr w d 7 7 k.L k.ve k.vk k.F) (hent:∀e∈k.L,NR e)
   (hnd:(b::(own ve++own vk++(k.b::k.F))).Nodup):
   Calls Tryz.prog 150 #[.pointer (some ⟨b,off,none⟩),.int .i64 es.length] w fun x w'=>x=.returned (.tuple #[])/\∃ve' vk' lo hi mid,NP w w' d b off cs T es ks k ve vk ve' vk' lo hi mid:=by
 obtain⟨gk,ck,Qx,rfl,hgk,QS,Qc,Pm,Oc⟩:=fP hvk (by omega)
 have hlast:((ks++[k]).map fK.ptr)[es.length]? =some (.pointer (some ⟨k.b,0,none⟩)):=by
  rw[List.map_append,List.getElem?_append_right (by simp[hkl])];simp[hkl,fK.ptr]
 have hND:=fun x=>eG hnd x
 have hown:own (Value.slice (some ⟨gk,0,none⟩) (es.length+1) ck)=[gk]:=rfl;rw[hown]at hnd hND;have hb0:b<w.heap.size:=hB.lt;have Nc:gk<w.heap.size:=(geA.1 hgk).1;have Mi:∀g∈own ve,g<w.heap.size:=aZ hve
 cases d with
 |zero=>
  obtain⟨⟨h7,h7'⟩,xG,⟨ka,kc,hkv⟩,hF⟩:=hN
  have hL7:k.L.length=7:=by omega
  rw[hL7]at xG;obtain⟨gv,cap,cur,Co,hg,hnc,hcm,hcs,htk⟩:=fP xG (by omega);obtain⟨mid,hm3,hmL,hl3,hl4⟩:=G6 k.L hL7;obtain⟨z,ra,rn,rc,rfl⟩:=hent mid (List.mem_of_getElem? hm3);obtain⟨q6,q7⟩:=AJ htk hm3;obtain⟨q8,q9⟩:=BA htk
  have hFg:k.F=[gv]:=by rw[hF,Co];rfl
  rw[hFg]at hND hnd
  have J6:b≠k.b/\b≠gv/\b≠gk/\k.b≠gv/\k.b≠gk/\gv≠gk/\b∉own ve/\k.b∉own ve/\gv∉own ve/\gk∉own ve:=by
   simp only[List.nodup_cons,List.nodup_append,List.mem_append,List.mem_cons,List.not_mem_nil,or_false,not_or]at hnd
   grind
  rw[Co,hkv]at hk;refine(DT b off es.length gk ck k.b gv cap ka kc cs cur T ve (flatE es) _ z ra rn rc w (by omega) hB h0 h1 hve hvk hlast hk hg hcs hnc hcm q6 q7 (by rw[q8];exact qg fun e he=>hent e (List.mem_of_mem_drop he)) J6).mono ?_;rintro x w' ⟨rfl,ve',vk',v,gh,N1,N2,t1,t2,t3,t4,t5,⟨cur',t6,t7,t8⟩,t9,t10,t11,t12,t13,t14,t15⟩;refine⟨rfl,ve',vk',⟨k.b,k.L.take 3,.slice (some ⟨gv,0,none⟩) 3 cap,.slice ka 0 kc,[gv]⟩,⟨gh,k.L.drop 4,v,.slice none 0 0,own v⟩,(.int .i64 z,.slice ra rn rc),?_⟩;have hs:=t1.size;refine⟨t1.more ?_,t2,?_,?_,hmL,⟨t5,?_⟩,⟨t9,?_⟩,?_⟩
  · intro x hx;rw[hown,hFg];simp at hx⊢;rcases hx with h|h|h|h|h<;>simp[h]
  · rw[ji,wS];exact t3
  · simpa[fK.ptr]using t4
  · refine⟨⟨by show 3<=(k.L.take 3).length;omega,by show(k.L.take 3).length<=6;omega⟩,?_,⟨_,_,rfl⟩,rfl⟩;show w'.ownsRow 0 265 2 (.slice (some ⟨gv,0,none⟩) 3 cap) (k.L.take 3).length (flatE (k.L.take 3));rw[hl3];exact uZ t6 (by rw[lW,hl3]) (by omega) hcm t7 (t8.trans q9)
  · refine⟨⟨by show 3<=(k.L.drop 4).length;omega,by show(k.L.drop 4).length<=6;omega⟩,?_,⟨_,_,rfl⟩,rfl⟩;show w'.ownsRow 0 265 2 v (k.L.drop 4).length (flatE (k.L.drop 4));rw[hl4,<-q8];exact Ts.ai t10 (Nat.zero_le _)
  intro x;obtain⟨g3,_,_,hv3,_⟩:=fP (Ts.ai t10 (Nat.zero_le _)) (by omega);have hg3:=t11 g3 (by rw[hv3];simp[own,Value.ownBlock]);have e1:=nS (x:=x) t14;have e2:(own vk').count x<=[gk].count x\/(N2<=x/\x<w'.heap.size/\(own vk').count x<=1):=nS (v:=.slice (some ⟨gk,0,none⟩) 0 0) (fun g hg=>by rcases t15 g hg with h|h;exact .inl (by simp[own,Value.ownBlock,h]);exact .inr h);have e3:=Ck (x:=x) t11;have e4:=jR v x;have e5:=cnt_lt (x:=x) Mi;have e6:=hk.lt;have e7:=(geA.1 hg).1;have e8:[gk].count x=0\/x<w.heap.size:=cnt_lt (fun g hg=>by simp at hg;omega);have e9:=jR ve x;rw[hown];simp only[List.flatMap_cons,List.flatMap_nil,List.append_nil,di,gQ,bA,List.count_nil,Nat.zero_add,hFg]at*;by_cases b1:k.b=x<;>by_cases b2:gv=x<;>by_cases b3:gh=x<;>by_cases b4:gk=x<;>simp only[b1,b2,b3,b4,if_true,if_false]at* <;>omega
 |succ d=>
  obtain⟨es7,ks8,⟨h7,h7'⟩,hk8,xG,H9,hL,hF,hkids⟩:=hN
  have hl7:es7.length=7:=by omega
  have hl8:ks8.length=8:=by omega
  rw[hl7]at xG;rw[hl8]at H9;obtain⟨gv,cap,cur,Co,hg,hnc,hcm,hcs,htk⟩:=fP xG (by omega);obtain⟨gq,cq,curq,OP,hgq,hncq,Pk,hcsq,Lm⟩:=fP H9 (by omega);obtain⟨mid,hm3,hmL⟩:=BN es7 (ks8.map fK.L) hl7 (by simpa using hl8);obtain⟨_,_,_,hl3,hl4⟩:=G6 es7 hl7
  have hin:∀e∈es7,e∈k.L:=fun e he=>by rw[hL];exact uA _ _ (by simp;omega) e he
  obtain⟨z,ra,rn,rc,rfl⟩:=hent mid (hin mid (List.mem_of_getElem? hm3));obtain⟨q6,q7⟩:=AJ htk hm3;obtain⟨q8,q9⟩:=BA htk
  have hFg:k.F=[gv]++[gq]++ks8.flatMap di:=by rw[hF,Co,OP];rfl
  rw[hFg]at hND hnd
  have J6:b≠k.b/\b≠gv/\b≠gk/\k.b≠gv/\k.b≠gk/\gv≠gk/\b∉own ve/\k.b∉own ve/\gv∉own ve/\gk∉own ve:=by
   simp only[List.nodup_cons,List.nodup_append,List.mem_append,List.mem_cons,List.not_mem_nil,or_false,not_or]at hnd
   grind
  have hqd:gq≠b/\gq≠k.b/\gq≠gv/\gq∉own ve/\gq≠gk:=by
   simp only[List.nodup_cons,List.nodup_append,List.mem_append,List.mem_cons,List.not_mem_nil,or_false,not_or]at hnd
   grind
  have hfar:∀g∈ks8.flatMap di,g∉[b,gk,k.b,gv,gq]++own ve:=by
   simp only[List.nodup_cons,List.nodup_append,List.mem_append,List.mem_cons,List.not_mem_nil,or_false,not_or]at hnd⊢
   grind
  have Oq:∀q∈ks8,q.b<w.heap.size/\∀g∈q.F,g<w.heap.size:=fun q hq=>⟨(hkids q hq).1.lt,(hkids q hq).2.lt⟩
  rw[Co,OP]at hk;refine(Ak b off es.length gk ck k.b gv cap gq cq cs cur curq T ve (flatE es) _ z ra rn rc w (by omega) hB h0 h1 hve hvk hlast hk hg hcs hnc hcm q6 q7 (by rw[q8];exact qg fun e he=>hent e (hin e (List.mem_of_mem_drop he))) J6 hgq (by omega) hncq ?_ hqd).mono ?_
  · intro u hu;have hu2:=List.mem_of_mem_drop hu;rw[show(8:Nat)=8*1 from rfl,Lm]at hu2;obtain⟨q,hq,rfl⟩:=List.mem_map.1 hu2
    rfl
  rintro x w' ⟨rfl,ve',vk',v,vq,gh,N1,N2,t1,t2,t3,t4,t5,⟨cur',t6,t7,t8⟩,t9,t10,t11,⟨qQ,s1,s2,s3⟩,s4,s5,t12,t13,t14,t15⟩
  have hkeep:∀q∈ks8,af w' q.b #[q.ve,q.vk] Tr.tn/\Nd Tr w' d 3 6 q.L q.ve q.vk q.F:=fun q hq=>by
   obtain⟨a1,a2⟩:=hkids q hq;exact⟨t1.blk a1 (hfar q.b (List.mem_flatMap.2 ⟨q,hq,by simp[di]⟩)),a2.touch t1 fun g hg=>hfar g (List.mem_flatMap.2 ⟨q,hq,by simp[di,hg]⟩)⟩
  refine⟨rfl,ve',vk',⟨k.b,weave ((ks8.map fK.L).take 4) (es7.take 3),.slice (some ⟨gv,0,none⟩) 3 cap,.slice (some ⟨gq,0,none⟩) 4 cq,[gv]++[gq]++(ks8.take 4).flatMap di⟩,⟨gh,weave ((ks8.map fK.L).drop 4) (es7.drop 4),v,vq,own v++own vq++(ks8.drop 4).flatMap di⟩,(.int .i64 z,.slice ra rn rc),?_⟩;have hs:=t1.size;refine⟨t1.more ?_,t2,?_,?_,by rw[hL];exact hmL,⟨t5,?_⟩,⟨t9,?_⟩,?_⟩
  · intro x hx;rw[hown,hFg];simp only[List.mem_append,List.mem_cons,List.not_mem_nil,or_false]at hx⊢
    grind
  · rw[ji,wS];exact t3
  · simpa[fK.ptr]using t4
  · refine⟨es7.take 3,ks8.take 4,⟨by omega,by omega⟩,by simp;omega,?_,?_,by rw[List.map_take],rfl,fun q hq=>hkeep q (List.mem_of_mem_take hq)⟩
    · rw[hl3];exact uZ t6 (by rw[lW,hl3]) (by omega) hcm t7 (t8.trans q9)
    rw[show(ks8.take 4).length=4 by simp;omega];refine uZ s1 (by simp;omega) (by omega) Pk (by omega) ?_;rw[show(4:Nat)*1=4 from rfl,s3];have:=congrArg (List.take 4) Lm;rw[List.take_take]at this;simpa[List.map_take]using this
  · refine⟨es7.drop 4,ks8.drop 4,⟨by omega,by omega⟩,by simp;omega,?_,?_,by rw[List.map_drop],rfl,fun q hq=>hkeep q (List.mem_of_mem_drop hq)⟩
    · rw[hl4,<-q8];exact Ts.ai t10 (Nat.zero_le _)
    rw[show(ks8.drop 4).length=4 by simp;omega];have h9:=Ts.ai s4 (Nat.zero_le _);rw[show(8:Nat)=8*1 from rfl,Lm,<-List.map_drop]at h9;exact h9
  intro x;obtain⟨g3,_,_,hv3,_⟩:=fP (Ts.ai t10 (Nat.zero_le _)) (by omega);have hg3:=t11 g3 (by rw[hv3];simp[own,Value.ownBlock]);have e1:=nS (x:=x) t14;have e2:(own vk').count x<=[gk].count x\/(N2<=x/\x<w'.heap.size/\(own vk').count x<=1):=nS (v:=.slice (some ⟨gk,0,none⟩) 0 0) (fun g hg=>by rcases t15 g hg with h|h;exact .inl (by simp[own,Value.ownBlock,h]);exact .inr h);have e3:=Ck (x:=x) t11;have e4:=jR v x;have e3q:=Ck (x:=x) s5;have e4q:=jR vq x;have e5:=cnt_lt (x:=x) Mi;have e6:=hk.lt;have e7:=(geA.1 hg).1;have e7q:=(geA.1 hgq).1;have e8:[gk].count x=0\/x<w.heap.size:=cnt_lt (fun g hg=>by simp at hg;omega);have e9:=jR ve x;have e10:=Jy ks8 4 x;have e11:=Lr (x:=x) Oq;rw[hown];simp only[List.flatMap_cons,List.flatMap_nil,List.append_nil,gQ,bA,List.count_nil,Nat.zero_add,hFg,show∀q:fK,di q=q.b::q.F from fun _=>rfl];simp only[bA,List.count_nil,Nat.zero_add]at e2 e8;have i1:=iY k.b x;have i2:=iY gv x;have i3:=iY gh x;have i4:=iY gk x;have i5:=iY gq x;clear hnd hND hfar hkids hkeep hent hin Mi Oq t1 t2 t3 t4 t5 t6 t7 t8 t9 t10 t11 t14 t15 s1 s2 s3 s4 s5 hB h0 h1 hve hvk hlast hk hg hgq xG H9 hL hF J6 hqd hgk Oc htk Lm q6 q7 q8 q9 hm3 hmL hv3;generalize ((ks8.take 4).flatMap di).count x=A at*;generalize ((ks8.drop 4).flatMap di).count x=B at*;generalize (ks8.flatMap di).count x=C at*;generalize (own ve').count x=a1 at*;generalize (own vk').count x=a2 at*;generalize (own v).count x=a3 at*;generalize (own vq).count x=a4 at*;generalize (own ve).count x=a5 at*;generalize (if k.b=x then 1 else 0)=j1 at*;generalize (if gv=x then 1 else 0)=j2 at*;generalize (if gh=x then 1 else 0)=j3 at*;generalize (if gk=x then 1 else 0)=j4 at*;generalize (if gq=x then 1 else 0)=j5 at*;by_cases hx:x<w.heap.size
  · have z1:a1<=a5:=by omega
    have z2:a2<=j4:=by omega
    have z3:a3=0:=by omega
    have z4:a4=0:=by omega
    have z5:j3=0:=by omega
    left;omega
  have z1:a5=0:=by omega
  have z2:j4=0:=by omega
  have z3:j1=0:=by omega
  have z4:j2=0:=by omega
  have z5:j5=0:=by omega
  have z6:C=0:=by omega
  right
  refine⟨by omega,?_⟩
  have z7:A=0:=by omega
  have z8:B=0:=by omega
  have y1:a1=0\/(N1<=x/\x<N2/\a1<=1):=by omega
  have y2:a2=0\/(N2<=x/\a2<=1):=by omega
  clear e1 e2 e5 e8 e11;omega
end Bt
namespace Bt
def Less(L:List (Value×Value))(z:Int):Prop:=∀e∈L,∃y ra rn rc,e=(.int .i64 y,.slice ra rn rc)/\y<z
theorem Less.Ji{L:List (Value×Value)}(h:Less L z):∀e∈L,NR e:=fun e he=>by
 obtain⟨y,ra,rn,rc,rfl,_⟩:=h e he;exact⟨y,ra,rn,rc,rfl⟩
def Ord(L:List (Value×Value)):Prop:=L.Pairwise fun a b=>∃y z,a.1=.int .i64 y/\b.1=.int .i64 z/\y<z
theorem zC:∀{es:List (Value×Value)} {z:Int},Less es z->Ord es->∃M,es=eB M/\Cr M/\Rows M/\cnt M z=M.length/\has M z=false
 |[],z,_,_=>⟨[],rfl,List.Pairwise.nil,fun _ h=>by simp at h,rfl,rfl⟩
 |e::r,z,h,ho=>by
  obtain⟨M,rfl,h2,h3,h4,h5⟩:=zC (es:=r) (fun e he=>h e (by simp[he])) ho.of_cons;obtain⟨y,ra,rn,rc,rfl,hy⟩:=h e (by simp);refine⟨(y,.slice ra rn rc)::M,rfl,List.Pairwise.cons (fun x hx=> ?_) h2,fun x hx=> ?_,?_,?_⟩
  · obtain⟨a,b,e1,e2,h6⟩:=List.rel_of_pairwise_cons ho (show(Value.int .i64 x.1,x.2)∈eB M from List.mem_map.2 ⟨x,hx,rfl⟩);injection e1 with _ e1;injection e2 with _ e2;show y<x.1;omega
  · rcases List.mem_cons.1 hx with rfl|hx
    · exact⟨_,_,_,rfl⟩
    exact h3 x hx
  · unfold cnt at*;rw[List.countP_cons_of_pos (by simpa using hy),h4];rfl
  unfold has at*;rw[List.any_cons,h5];simp;omega
structure xY(w w':World)(d lo hi:Nat)(b off:Nat)(cs:Array Value)(T:TypeId)(L:List (Value×Value))(ve vk:Value)(F:List Nat)(ve' vk':Value)(F':List Nat):Prop where
 qO:aC (b::F) w w'
 blk:af w' b ((cs.setIfInBounds off ve').setIfInBounds (off+1) vk') T
 nd:Nd Tr w' d lo hi L ve' vk' F'
 cnt:∀x,F'.count x<=F.count x\/(w.heap.size<=x/\F'.count x<=1)
theorem rO{cs:Array Value}{i:Nat}{v:Value}(h:cs[i]? =some v):cs.setIfInBounds i v=cs:=by
 apply Array.ext
 · simp
 intro j h1 h2;rw[Array.getElem_setIfInBounds]
 split
 · rename_i e;subst e;obtain⟨h3,h4⟩:=geA.1 h;exact h4.symm
 rfl
theorem GU(z:Int)(ra:Option Addr)(rn rc:Nat)(lo hi:Nat)(L:List (Value×Value))(b off:Nat)(cs:Array Value)(T:TypeId)(ve vk:Value)(F:List Nat)(w:World)(hhi:hi<=7)(hB:af w b cs T)(h0:cs[off]? =some ve)(h1:cs[off+1]? =some vk)(hN:Nd Tr w 0 lo hi L ve vk F)(hL:Less L z)(hO:Ord L)(hnd:(b::F).Nodup):
   Calls Tryz.prog 149 #[.pointer (some ⟨b,off,none⟩),.agg #[.int .i64 z,.slice ra rn rc]] w fun x w'=>x=.returned (.bool true)/\∃ve' vk' F',xY w w' 0 lo (hi+1) b off cs T (L++[(.int .i64 z,.slice ra rn rc)]) ve vk F ve' vk' F':=by
 obtain⟨⟨hl1,hl2⟩,hown,⟨ka,kc,rfl⟩,rfl⟩:=hN;obtain⟨M,hM,hR,hRw,hc,hh⟩:=zC hL hO
 have hML:M.length=L.length:=by rw[hM];simp[eB]
 have HB:=hd hB;have H0:=hd h0;have H1:=hd h1;have HBA:=hd (hB.alloc (.cells #[.int .i64 z,.slice ra rn rc] 265));have HOA:=hd (hown.alloc (.cells #[.int .i64 z,.slice ra rn rc] 265));have hbA:=HBA.out.lt;have a0:=(HBA.out.cell off).trans h0;have a1:=(HBA.out.cell (off+1)).trans h1;have hf:=Bi M z ve b off (w.alloc (.cells #[.int .i64 z,.slice ra rn rc] 265)) hbA a0 hR hRw (by omega) (by rw[hML,<-hM];exact HOA.out);rw[hc,hh,hML]at hf;have HF:=hd hf;have HLF:=hd (mW b off ka kc)
 have HNB:Hid (b∉own ve):=by
  intro h;exact(List.nodup_cons.1 hnd).1 h
 have HOV:=hd hown;have HK0:=hd (af.new w #[.int .i64 z,.slice ra rn rc] 265);have hl0:=HK0.out.lt;have k0:=HK0.out.cell 0;have k1:=HK0.out.cell 1;simp at k0 k1;have HLL:Hid (lo<=L.length/\L.length<=hi):=⟨hl1,hl2⟩
 have hln:L.length<=7:=by omega
 have hbl:=hB.lt;clear hf hB h0 h1 hown hM hR hRw hc hh hML hL hO hnd a0;go_enter Tryz.func149,Tryz.ntmps149;go_wp2_with fail;refine HF.out.mono ?_;rintro x w1 ⟨rfl,hb1⟩;have HB1:=hd (HBA.out.below hb1 HBA.out.lt);have HO1:=hd (dA HOA.out hb1);have HK1:=hd (HK0.out.below hb1 hl0);have HW1:Hid (Below w.heap.size w w1):=((Below.refl w.heap.size w).alloc (nlr _) _).trans (hb1.mono (by simp));have c1:=(HB1.out.cell (off+1)).trans H1.out;have c0:=(HB1.out.cell off).trans H0.out;have q0:=HK1.out.cell 0;have q1:=HK1.out.cell 1;simp at q0 q1;have lb1:=HB1.out.lt;have lk1:=HK1.out.lt;clear hb1 HF;go_wp2_with fail;refine(HLF.out w1 lb1 c1).mono ?_;rintro x w1 ⟨rfl,rfl⟩;have HE2:=hd (af.new (World.drew w1) #[.int .i64 z,.slice ra rn rc] 265);have HIN:=hd (mM ve L.length (flatE L) z ra rn rc w1.heap.size ((World.drew w1).alloc (.cells #[.int .i64 z,.slice ra rn rc] 265)) (by omega) (HO1.out.alloc _) HE2.out.lt ((HE2.out.cell 0).trans rfl) ((HE2.out.cell 1).trans rfl));have HB2:=hd (HB1.out.drew.alloc (.cells #[.int .i64 z,.slice ra rn rc] 265));go_wp2_with fail
 go_region_with (
   go_at_call 204
   refine HIN.out.mono ?_;rintro x w2 ⟨v2,rfl,hown2,hgrow2,hsub2⟩;have HT2:Hid (aC (own ve) ((World.drew w1).alloc (.cells #[.int .i64 z,.slice ra rn rc] 265)) w2):=aC.grown hgrow2 (fun k hk=>by simp[own,hk]);have HB3:=hd (HT2.out.blk HB2.out HNB.out);have HO2:=hd hown2;have HS2:=hd hsub2;have d0:=(HB3.out.cell off).trans H0.out;have f0:=HB3.out.free off;have lb3:=HB3.out.lt;obtain⟨a2,c2,rfl⟩:=au hown2
   clear hown2 hgrow2 hsub2)
 all_goals
  go_wp2_with fail;go_ret;have hs1:=HW1.out.size;have hlb:b<w.heap.size:=HB.out.lt;have hsz:((World.drew w1).alloc (.cells #[.int .i64 z,.slice ra rn rc] 265)).heap.size=w1.heap.size+1:=World.size_alloc _ _;have T1:aC (b::own ve) w (w2.setCell ⟨b,off,none⟩ (.slice a2 (L.length+1) c2)):=((((aC.of (F:=b::own ve) HW1.out).drew).alloc (.cells #[.int .i64 z,.slice ra rn rc] 265)).trans HT2.out (fun x hx=> .inl (by simp[hx]))).set _ _ (.inl (by simp))
  have hin:∀k∈own (.slice a2 (L.length+1) c2),k∈own ve\/w.heap.size<=k:=fun k hk=>by
   rcases HS2.out k hk with h|h
   · exact .inl h
   exact .inr (by rw[hsz]at h;omega)
  have hbn:b∉own (.slice a2 (L.length+1) c2):=fun h=>by
   rcases hin b h with h|h
   · exact HNB.out h
   omega
  refine⟨rfl,.slice a2 (L.length+1) c2,.slice ka 0 kc,own (.slice a2 (L.length+1) c2),T1,?_,⟨⟨?_,?_⟩,?_,⟨_,_,rfl⟩,rfl⟩,?_⟩
  · have h9:=HB3.out.set off (.slice a2 (L.length+1) c2);rw[rO (i:=off+1)]
    · exact h9
    rw[Array.getElem?_setIfInBounds_ne (by omega)];exact H1.out
  · simp;have:=HLL.out;omega
  · simp;have:=HLL.out;omega
  · rw[List.length_append,ji];refine aG HO2.out ((aC.refl [b] w2).set ⟨b,off,none⟩ _ (.inl (by simp))) (fun g hg=> ?_);simp
    exact fun e=>hbn (e▸hg)
  intro x;rcases LP (M:=w2.heap.size) hin (aZ HO2.out) (x:=x)with h|h
  · exact .inl h
  exact .inr ⟨h.1,h.2.2⟩
end Bt
namespace Bt
theorem wV{α:Type}:∀(ls:List (List α)) (es:List α),ls.length=es.length+1->es.Sublist (weave ls es)/\∀l∈ls,l.Sublist (weave ls es)
 |[],_,h=>by simp at h
 |[l],[],h=>⟨by simp,fun m hm=>by simp at hm;subst hm;simp[weave]⟩
 |_::_::_,[],h=>by simp at h
 |l::ls,e::es,h=>by
  obtain⟨h1,h2⟩:=wV ls es (by simpa using h);refine⟨?_,fun m hm=> ?_⟩
  · show(e::es).Sublist (l++e::weave ls es);exact(h1.cons_cons e).trans (List.sublist_append_right _ _)
  rcases List.mem_cons.1 hm with rfl|hm
  · exact List.sublist_append_left _ _
  exact((h2 m hm).trans (List.sublist_cons_self _ _)).trans (List.sublist_append_right _ _)
theorem Less.sub{L M:List (Value×Value)}(h:Less L z)(hs:M.Sublist L):Less M z:=fun e he=>h e (hs.subset he)
theorem Ord.sub{L M:List (Value×Value)}(h:Ord L)(hs:M.Sublist L):Ord M:=h.sublist hs
theorem Nd.exact{T:Ty}{d lo hi:Nat}{L:List (Value×Value)}{ve vk:Value}(h:Nd T w d lo hi L ve vk F):∃m,lo<=m/\m<=hi/\Nd T w d m m L ve vk F/\∃ao cp,ve=.slice ao m cp:=by
 cases d with
 |zero=>
  obtain⟨⟨h1,h2⟩,h3,h4,h5⟩:=h;obtain⟨ao,cp,hv⟩:=au h3;exact⟨L.length,h1,h2,⟨⟨nlr _,nlr _⟩,h3,h4,h5⟩,ao,cp,hv⟩
 |succ d=>
  obtain⟨es,ks,⟨h1,h2⟩,h3,h4,h5⟩:=h;obtain⟨ao,cp,hv⟩:=au h4;exact⟨es.length,h1,h2,⟨es,ks,⟨nlr _,nlr _⟩,h3,h4,h5⟩,ao,cp,hv⟩
def H6(d:Nat):Prop:=∀(z:Int) (ra:Option Addr) (rn rc:Nat) (lo hi:Nat) (L:List (Value×Value)) (b off:Nat) (cs:Array Value) (T:TypeId) (ve vk:Value) (F:List Nat) (w:World),hi<=6->af w b cs T->cs[off]? =some ve->cs[off+1]? =some vk->Nd Tr w d lo hi L ve vk F->Less L z->Ord L->(b::F).Nodup->
   Calls Tryz.prog 149 #[.pointer (some ⟨b,off,none⟩),.agg #[.int .i64 z,.slice ra rn rc]] w fun x w'=>x=.returned (.bool true)/\∃ve' vk' F',xY w w' d lo (hi+1) b off cs T (L++[(.int .i64 z,.slice ra rn rc)]) ve vk F ve' vk' F'
theorem La{N:Nat}{b kb:Nat}{A B R F':List Nat}(hnd:(b::(A++B++(R++kb::F))).Nodup)(hl:∀g∈b::(A++B++(R++kb::F)),g<N)(hc:∀x,F'.count x<=F.count x\/(N<=x/\F'.count x<=1)):∀x,(b::(A++B++(R++kb::F'))).count x<=(b::(A++B++(R++kb::F))).count x\/(N<=x/\(b::(A++B++(R++kb::F'))).count x<=1):=by
 intro x;have h1:=eG hnd x;have h2:=cnt_lt (x:=x) hl;have h3:=hc x;simp only[bA,gQ]at*;omega
theorem E8{b kb gk:Nat}{A R:List Nat}(h:(b::(A++[gk]++(R++kb::F))).Nodup):b∉kb::F/\(∀g∈A,g∉kb::F)/\gk∉kb::F/\(∀g∈R,g∉kb::F)/\(kb::F).Nodup:=by
 have key:∀g,(kb::F).count g+(if b=g then 1 else 0)+A.count g+(if gk=g then 1 else 0)+R.count g<=1:=fun g=>by
  have:=eG h g;simp only[bA,gQ,List.count_nil]at this⊢;omega
 refine⟨fun hx=> ?_,fun g hg hx=> ?_,fun hx=> ?_,fun g hg hx=> ?_,oZ fun g=>by have:=key g;omega⟩
 · have a:=List.count_pos_iff.2 hx;have:=key b;simp only[if_true]at this;omega
 · have a:=List.count_pos_iff.2 hx;have b:=List.count_pos_iff.2 hg;have:=key g;omega
 · have a:=List.count_pos_iff.2 hx;have:=key gk;simp only[if_true]at this;omega
 have a:=List.count_pos_iff.2 hx;have b:=List.count_pos_iff.2 hg;have:=key g;omega
theorem GD(z:Int)(ra:Option Addr)(rn rc:Nat)(b off n kb gk ck:Nat)(w:World)(PO R:World->Prop)(hn:n<=1000)(hb:b<w.heap.size)(h1:w.cell? ⟨b,off+1,none⟩=some (.slice (some ⟨gk,0,none⟩) (n+1) ck))
   (hfind:Calls Tryz.prog 203 #[.pointer (some ⟨b,off,none⟩),.int .i64 z] (w.alloc (.cells #[.int .i64 z,.slice ra rn rc] 265)) fun x w'=>x=.returned (.tuple #[.int .i64 (n:Nat),.bool false])/\Below (w.alloc (.cells #[.int .i64 z,.slice ra rn rc] 265)).heap.size (w.alloc (.cells #[.int .i64 z,.slice ra rn rc] 265)) w')
   (hgk:gk<w.heap.size) (q0:w.cell? ⟨gk,n,none⟩=some (.pointer (some ⟨kb,0,none⟩)))
   (hput:∀W,Below w.heap.size w W->Calls Tryz.prog 149 #[.pointer (some ⟨kb,0,none⟩),.agg #[.int .i64 z,.slice ra rn rc]] W fun x W'=>x=.returned (.bool true)/\PO W')
   (hPO:∀W,PO W->b<W.heap.size/\W.cell? ⟨b,off+1,none⟩=some (.slice (some ⟨gk,0,none⟩) (n+1) ck)/\gk<W.heap.size/\W.cell? ⟨gk,n,none⟩=some (.pointer (some ⟨kb,0,none⟩))/\kb<W.heap.size/\
     ∃m ao cp,m<=7/\W.cell? ⟨kb,0,none⟩=some (.slice ao m cp)/\(m<=6->R W)/\(6<m->Calls Tryz.prog 150 #[.pointer (some ⟨b,off,none⟩),.int .i64 n] W fun x W'=>x=.returned (.tuple #[])/\R W')):
   Calls Tryz.prog 149 #[.pointer (some ⟨b,off,none⟩),.agg #[.int .i64 z,.slice ra rn rc]] w fun x w'=>x=.returned (.bool true)/\R w':=by
 have HF:=hd hfind;have HPT:=hd hput;have HPO:=hd hPO;have HK0:=hd (af.new w #[.int .i64 z,.slice ra rn rc] 265)
 have HA0:Hid (Below w.heap.size w (w.alloc (.cells #[.int .i64 z,.slice ra rn rc] 265))):=by show Below _ _ _;go_grown
 have hl0:=HK0.out.lt
 have hz0:((n:Int)+1==0)=false:=by simp;omega
 have hnn:(((n+1:Nat):Int)==0)=false:=by simp;omega
 have j1:(n:Int)<(n:Int)+1:=by omega
 have j2:n<n+1:=by omega
 clear hfind hput hPO;go_enter Tryz.func149,Tryz.ntmps149;go_wp2_with fail;refine HF.out.mono ?_;rintro x w1 ⟨rfl,hb1⟩;have HW1:Hid (Below w.heap.size w w1):=HA0.out.trans (hb1.mono HA0.out.size);have HK1:=hd (HK0.out.below hb1 hl0);have c1:=(HW1.out.cell (p:=⟨b,off+1,none⟩) hb).trans h1;have c2:=(HW1.out.cell (p:=⟨gk,n,none⟩) hgk).trans q0;have lb1:=nlA hb HW1.out.size;have lg1:=nlA hgk HW1.out.size;have e0:=HK1.out.cell 0;have e1:=HK1.out.cell 1;simp at e0 e1;have lk1:=HK1.out.lt;clear hb1 HF;go_wp2_with fail;refine(pg b off (n+1) _ _ _ hnn lb1 c1).mono ?_;rintro x w1 ⟨rfl,rfl⟩;have HP1:=hd (HPT.out (World.drew w1) HW1.out.drew);go_wp2_with fail
 go_region_with (
   go_at_call 149
   refine HP1.out.mono ?_;rintro x w2 ⟨rfl,hpo⟩;obtain⟨p1,p2,p3,p4,p5,m,ao,cp,hm7,p6,p7,p8⟩:=HPO.out w2 hpo;have HR7:=hd p7;have HR8:=hd p8
   clear hpo p7 p8)
 all_goals
  by_cases hm:m<=6
  · have hg6:¬(6:Int)<(m:Int):=by omega
    go_wp2_with fail;go_ret;exact⟨rfl,HR7.out hm⟩
  have hg6:(6:Int)<(m:Int):=by omega
  have HSP:=hd (HR8.out (by omega));go_wp2_with fail;refine HSP.out.mono ?_;rintro x w3 ⟨rfl,hr⟩;have HR3:=hd hr;clear hr;go_wp2_with fail;go_ret;exact⟨rfl,HR3.out⟩
theorem E5(d:Nat)(ih:H6 d):H6 (d+1):=by
 intro z ra rn rc lo hi L b off cs T ve vk F w hhi hB h0 h1 hN hL hO hnd;obtain⟨es,ks,⟨hl1,hl2⟩,hkl,hown,qD,rfl,rfl,hkids⟩:=hN
 obtain⟨ks0,k,rfl⟩:∃ks0 k,ks=ks0++[k]:=by
  rcases List.eq_nil_or_concat ks with h|⟨a,b,h⟩
  · subst h;simp at hkl
  exact⟨a,b,by simpa using h⟩
 have hk0:ks0.length=es.length:=by simpa using hkl
 obtain⟨gk,ck,Qx,rfl,hgk,QS,Qc,Pm,Oc⟩:=fP qD (by omega)
 have hwl:((ks0++[k]).map fK.L).length=es.length+1:=by simp[hk0]
 obtain⟨hs1,hs2⟩:=wV ((ks0++[k]).map fK.L) es hwl;obtain⟨M,hM,hR,hRw,hc,hh⟩:=zC (hL.sub hs1) (hO.sub hs1)
 have hML:M.length=es.length:=by rw[hM];simp[eB]
 obtain⟨hkB,hkN⟩:=hkids k (by simp);have hkL:=hs2 k.L (by simp)
 have hlt:∀g∈b::(own ve++own (Value.slice (some ⟨gk,0,none⟩) (ks0++[k]).length ck)++(ks0.flatMap di++k.b::k.F)),g<w.heap.size:=by
  intro g hg;simp only[List.mem_cons,List.mem_append]at hg;rcases hg with rfl|(h|h)|h|rfl|h
  · exact hB.lt
  · exact aZ hown g h
  · exact aZ qD g h
  · obtain⟨q,hq,hm⟩:=List.mem_flatMap.1 h;obtain⟨a1,a2⟩:=hkids q (by simp[hq]);rcases List.mem_cons.1 hm with rfl|hm
    · exact a1.lt
    exact a2.lt g hm
  · exact hkB.lt
  exact hkN.lt g h
 have FE:(b::(own ve++own (Value.slice (some ⟨gk,0,none⟩) (ks0++[k]).length ck)++(ks0.flatMap di++k.b::k.F))).Nodup:=by
  have:((ks0++[k]).flatMap fun k=>k.b::k.F)=ks0.flatMap di++k.b::k.F:=by rw[List.flatMap_append];simp[di];rfl
  rw[this]at hnd;exact hnd
 have Ql:own (Value.slice (some ⟨gk,0,none⟩) (ks0++[k]).length ck)=[gk]:=rfl
 have hkn:(ks0++[k]).length=es.length+1:=by simp[hk0]
 have Nc:gk<w.heap.size:=(geA.1 hgk).1
 have hF:(own ve++own (Value.slice (some ⟨gk,0,none⟩) (ks0++[k]).length ck)++(ks0++[k]).flatMap fun k=>k.b::k.F)=own ve++own (Value.slice (some ⟨gk,0,none⟩) (ks0++[k]).length ck)++(ks0.flatMap di++k.b::k.F):=by
  rw[List.flatMap_append];simp[di];rfl
 rw[hF];rw[Ql]at hlt FE⊢;rw[hkn]at qD h1
 have q0:w.cell? ⟨gk,es.length,none⟩=some (.pointer (some ⟨k.b,0,none⟩)):=by
  have:=qD.cells (g:=gk) rfl es.length (.pointer (some ⟨k.b,0,none⟩)) (by rw[List.map_append,List.getElem?_append_right (by simp[hk0])];simp[hk0,fK.ptr]);simpa only[Addr.add_lit,Nat.zero_add]using this
 have hfind:=Bi M z ve b off (w.alloc (.cells #[.int .i64 z,.slice ra rn rc] 265)) (hB.alloc _).lt (((hB.alloc _).cell off).trans h0) hR hRw (by omega) (by rw[hML,<-hM];exact hown.alloc _);rw[hc,hh,hML]at hfind;have hbk:b∉k.b::k.F/\(∀g∈own ve,g∉k.b::k.F)/\gk∉k.b::k.F/\(∀g∈ks0.flatMap di,g∉k.b::k.F)/\(k.b::k.F).Nodup:=E8 FE;refine GD z ra rn rc b off es.length k.b gk ck w (fun W2=>∃W ve' vk' F',Below w.heap.size w W/\xY W W2 d 3 7 k.b 0 #[k.ve,k.vk] 124 (k.L++[(.int .i64 z,.slice ra rn rc)]) k.ve k.vk k.F ve' vk' F') _ (by omega) hB.lt ((hB.cell (off+1)).trans h1) hfind Nc q0 ?_ ?_
 · intro W hW;refine(ih z ra rn rc 3 6 k.L k.b 0 #[k.ve,k.vk] 124 k.ve k.vk k.F W (by omega) (hkB.below hW hkB.lt) rfl rfl (hkN.below hW) (hL.sub hkL) (hO.sub hkL) hbk.2.2.2.2).mono ?_;rintro x W' ⟨rfl,ve',vk',F',po⟩;exact⟨rfl,W,ve',vk',F',hW,po⟩
 rintro W2 ⟨W,kve,kvk,kF,hW,po⟩;have T2:aC (k.b::k.F) w W2:=(aC.of (F:=k.b::k.F) hW).trans po.qO (fun x hx=> .inl hx);have B2:af W2 b cs T:=T2.blk hB hbk.1;have V2:W2.ownsRow 0 265 2 ve es.length (flatE es):=aG hown T2 hbk.2.1;have K2:W2.ownsRow 0 266 1 (.slice (some ⟨gk,0,none⟩) (es.length+1) ck) (es.length+1) ((ks0++[k]).map fK.ptr):=aG qD T2 (fun g hg=>by simp[own,Value.ownBlock]at hg;rw[hg];exact hbk.2.2.1)
 have kB2:af W2 k.b #[kve,kvk] 124:=by simpa using po.blk
 have keep:∀q∈ks0,af W2 q.b #[q.ve,q.vk] 124/\Nd Tr W2 d 3 6 q.L q.ve q.vk q.F:=fun q hq=>by
  obtain⟨a1,a2⟩:=hkids q (by simp[hq]);exact⟨T2.blk a1 (hbk.2.2.2.1 q.b (List.mem_flatMap.2 ⟨q,hq,by simp[di]⟩)),a2.touch T2 fun g hg=>hbk.2.2.2.1 g (List.mem_flatMap.2 ⟨q,hq,by simp[di,hg]⟩)⟩
 have hsz:=T2.size;have hszW:=hW.size;obtain⟨m,hm1,hm2,nd2,ao,cp,Co⟩:=po.nd.exact
 have hcnt:∀x,kF.count x<=k.F.count x\/(w.heap.size<=x/\kF.count x<=1):=fun x=>by
  rcases po.cnt x with h|h
  · exact .inl h
  exact .inr ⟨by omega,h.2⟩
 have hall:=La FE hlt hcnt;refine⟨B2.lt,(B2.cell (off+1)).trans h1,by omega,?_,kB2.lt,m,ao,cp,hm2,by rw[<-Co];exact kB2.cell 0,?_,?_⟩
 · have hbb:=T2.block gk Nc hbk.2.2.1;exact(World.cell?_of_block (w:=w) (a:=⟨gk,es.length,none⟩) hbb).trans q0
 · intro hm6;refine⟨ve,.slice (some ⟨gk,0,none⟩) (es.length+1) ck,own ve++[gk]++(ks0.flatMap di++k.b::kF),?_,?_,?_,?_⟩
   · refine T2.more fun x hx=> ?_
     simp only[List.mem_cons,List.mem_append]at hx⊢
     grind
   · rw[rO h0,rO h1];exact B2
   · refine⟨es,ks0++[⟨k.b,k.L++[(.int .i64 z,.slice ra rn rc)],kve,kvk,kF⟩],⟨hl1,by omega⟩,by simp[hk0],V2,?_,?_,?_,?_⟩
     · have:(ks0++[(⟨k.b,k.L++[(.int .i64 z,.slice ra rn rc)],kve,kvk,kF⟩:fK)]).map fK.ptr=(ks0++[k]).map fK.ptr:=by simp[fK.ptr]
       rw[this,show(ks0++[(⟨k.b,k.L++[(.int .i64 z,.slice ra rn rc)],kve,kvk,kF⟩:fK)]).length=es.length+1 by simp[hk0]];exact K2
     · have:=ng es (ks0.map fK.L) k.L [(.int .i64 z,.slice ra rn rc)] (by simp[hk0]);simp only[List.map_append,List.map_cons,List.map_nil];exact this.symm
     · rw[List.flatMap_append];simp[di];rfl
     intro q hq;rcases List.mem_append.1 hq with hq|hq
     · exact keep q hq
     simp at hq;subst hq;exact⟨kB2,nd2.wide (by omega) hm6⟩
   intro x;have:=hall x;simp only[bA]at this;rcases this with h|h
   · left;omega
   right;exact⟨h.1,by omega⟩
 intro hm6
 obtain rfl:m=7:=by omega
 have PS:(b::(own ve++own (Value.slice (some ⟨gk,0,none⟩) (es.length+1) ck)++(k.b::kF))).Nodup:=oZ fun x=>by
  have a1:=hall x;have a2:=eG FE x;show(b::(own ve++[gk]++(k.b::kF))).count x<=1;simp only[bA,gQ]at*;omega
 refine(r9 d b off cs T es ks0 ⟨k.b,k.L++[(.int .i64 z,.slice ra rn rc)],kve,kvk,kF⟩ ve (.slice (some ⟨gk,0,none⟩) (es.length+1) ck) W2 (by omega) hk0 B2 h0 h1 V2 ?_ kB2 nd2 ?_ PS).mono ?_
 · have:(ks0++[(⟨k.b,k.L++[(.int .i64 z,.slice ra rn rc)],kve,kvk,kF⟩:fK)]).map fK.ptr=(ks0++[k]).map fK.ptr:=by simp[fK.ptr]
   rw[this];exact K2
 · intro e he;rcases List.mem_append.1 he with he|he
   · exact(hL.sub hkL).Ji e he
   simp at he;subst he;exact⟨_,_,_,_,rfl⟩
 rintro x W3 ⟨rfl,ve',vk',klo,khi,mid,co⟩;refine⟨rfl,ve',vk',own ve'++own vk'++(ks0++[klo,khi]).flatMap di,?_,co.blk,?_,?_⟩
 · have T3:=T2.more (G:=b::(own ve++[gk]++(ks0.flatMap di++k.b::k.F))) (fun x hx=>by simp only[List.mem_cons,List.mem_append]at hx⊢;grind)
   refine T3.trans co.qO fun x hx=> ?_
   have hx2:x∈b::(own ve++[gk]++(k.b::kF)):=hx;simp only[List.mem_cons,List.mem_append,List.not_mem_nil,or_false]at hx2⊢;rcases hx2 with h|(h|h)|h|h
   · left;left;exact h
   · left;right;left;left;exact h
   · left;right;left;right;exact h
   · left;right;right;right;left;exact h
   have hp:=List.count_pos_iff.2 h;rcases hcnt x with h2|h2
   · left;right;right;right;right;exact List.count_pos_iff.1 (by omega)
   exact .inr h2.1
 · have Om:∀q∈ks0,af W3 q.b #[q.ve,q.vk] Tr.tn/\Nd Tr W3 d 3 6 q.L q.ve q.vk q.F:=fun q hq=>by
    obtain⟨a1,a2⟩:=keep q hq
    have hfar:∀g∈di q,g∉b::(own ve++[gk]++(k.b::kF)):=fun g hg hin=>by
     have g1:g∈ks0.flatMap di:=List.mem_flatMap.2 ⟨q,hq,hg⟩;have c1:=List.count_pos_iff.2 g1;have c2:=List.count_pos_iff.2 hin;have c3:=hall g;have c4:=eG FE g;simp only[bA,gQ]at*;omega
    exact⟨co.qO.blk a1 (hfar q.b (by simp[di])),a2.touch co.qO fun g hg=>hfar g (by simp[di,hg])⟩
   refine⟨es++[mid],ks0++[klo,khi],⟨by simp;omega,by simp;omega⟩,by simp[hk0],by rw[List.length_append];exact co.eB,?_,?_,rfl,?_⟩
   · rw[show(ks0++[klo,khi]).length=es.length+2 by simp[hk0]];exact co.kids
   · have h9:=co.list;simp only at h9;have:=rP es (ks0.map fK.L) klo.L khi.L mid (by simp[hk0]);simp only[List.map_append,List.map_cons,List.map_nil];rw[this,<-h9];exact(ng es (ks0.map fK.L) k.L [(.int .i64 z,.slice ra rn rc)] (by simp[hk0])).symm
   intro q hq;rcases List.mem_append.1 hq with hq|hq
   · exact Om q hq
   simp at hq;rcases hq with rfl|rfl
   · exact co.low
   exact co.high
 intro x;have a1:=co.cnt x;have a2:=hall x;have a3:=eG FE x;have a4:=cnt_lt (x:=x) hlt;simp only[bA,gQ,Jm,Bj]at*;have a5:(own (Value.slice (some ⟨gk,0,none⟩) (es.length+1) ck)).count x=[gk].count x:=rfl;rw[a5]at a1;simp only[bA,List.count_nil]at*;omega
theorem Eu:∀d,H6 d
 |0=>fun z ra rn rc lo hi L b off cs T ve vk F w hhi hB h0 h1 hN hL hO hnd=>GU z ra rn rc lo hi L b off cs T ve vk F w (by omega) hB h0 h1 hN hL hO hnd
 |d+1=>E5 d (Eu d)
end Bt
namespace Bt
def Root(w:World)(d:Nat)(L:List (Value×Value))(ve vk:Value)(F:List Nat):Prop:=Nd Tr w d (if d=0 then 0 else 1) 6 L ve vk F
theorem y9(z:Int)(ra:Option Addr)(rn rc:Nat)(p off:Nat)(c:Int)(w:World)(PO:World->Array Value->Prop)(T:TypeId)(R:World->Prop)(hp:p<w.heap.size)(hc:0<=c/\c<=1000000)
   (hput:Calls Tryz.prog 149 #[.pointer (some ⟨p,off,none⟩),.agg #[.int .i64 z,.slice ra rn rc]] w fun x W=>x=.returned (.bool true)/\∃cs,PO W cs)
   (hPO:∀W cs,PO W cs->af W p cs T/\cs[off+2]? =some (.int .i64 c)/\∃m ao cp bo bn bc,m<=7/\cs[off]? =some (.slice ao m cp)/\cs[off+1]? =some (.slice bo bn bc)/\(m<=6->R (W.setCell ⟨p,off+2,none⟩ (.int .i64 (c+1))))/\
     (6<m->Calls Tryz.prog 150 #[.pointer (some ⟨p,off,none⟩),.int .i64 0] (((((W.setCell ⟨p,off+2,none⟩ (.int .i64 (c+1))).setCell ⟨p,off,none⟩ (.slice none 0 0)).setCell ⟨p,off+1,none⟩ (.slice (some ⟨W.heap.size+1,0,none⟩) 1 1)).alloc (.cells #[.slice ao m cp,.slice bo bn bc] 124)).alloc (.cells #[.pointer (some ⟨W.heap.size,0,none⟩)] 266)) fun x W'=>x=.returned (.tuple #[])/\R W')):
   Calls Tryz.prog 83 #[.pointer (some ⟨p,off,none⟩),.int .i64 z,.slice ra rn rc] w fun x w'=>x=.returned (.tuple #[])/\R w':=by
 have HP:=hd hput;have HPO:=hd hPO;clear hput hPO;go_enter Tryz.func83,Tryz.ntmps83;go_wp2_with fail;refine HP.out.mono ?_;rintro x W ⟨rfl,cs,hpo⟩;obtain⟨hB,h2,m,ao,cp,bo,bn,bc,hm7,h0,h1,p7,p8⟩:=HPO.out W cs hpo;have HR7:=hd p7;have HR8:=hd p8;have lp:=hB.lt;have c0:=(hB.cell off).trans h0;have c1:=(hB.cell (off+1)).trans h1;have c2:=(hB.cell (off+2)).trans h2;have f2:=hB.free (off+2);have HB1:=hd (hB.set (off+2) (.int .i64 (c+1)))
 have H0:Hid ((cs.setIfInBounds (off+2) (.int .i64 (c+1)))[off]? =some (.slice ao m cp)):=by show _=_;rw[Array.getElem?_setIfInBounds_ne (by omega)];exact h0
 have H1:Hid ((cs.setIfInBounds (off+2) (.int .i64 (c+1)))[off+1]? =some (.slice bo bn bc)):=by show _=_;rw[Array.getElem?_setIfInBounds_ne (by omega)];exact h1
 have n1:¬(off=off+2):=by omega
 have n2:¬(off+1=off+2):=by omega
 clear hpo p7 p8 hB h0 h1 h2;by_cases hm:m<=6
 · have hg6:¬(6:Int)<(m:Int):=by omega
   have HR:=hd (HR7.out hm);have d0:=(HB1.out.cell off).trans H0.out;have lb:=HB1.out.lt;clear HR7 HR8;generalize hW1:W.setCell ⟨p,off+2,none⟩ (.int .i64 (c+1))=W1 at*;have HW1:=hd hW1;clear hW1;go_wp2_with fail
   go_end0
   exact⟨rfl,by first|exact HR.out|(rw[HW1.out];exact HR.out)⟩
 have hg6:(6:Int)<(m:Int):=by omega
 have HSP:=hd (HR8.out (by omega));have d0:=(HB1.out.cell off).trans H0.out;have d1:=(HB1.out.cell (off+1)).trans H1.out;have lb:=HB1.out.lt
 have hsz:(W.setCell ⟨p,off+2,none⟩ (.int .i64 (c+1))).heap.size=W.heap.size:=by simp
 clear HR7 HR8;have f0:=HB1.out.free off;have f1:=HB1.out.free (off+1);go_wp2_with fail;refine HSP.out.mono ?_;rintro x W9 ⟨rfl,hr⟩;have HR9:=hd hr;clear hr;go_wp2_with fail
 go_end0
 exact⟨rfl,HR9.out⟩
structure yz(w w':World)(p off:Nat)(cs:Array Value)(T:TypeId)(L:List (Value×Value))(F:List Nat)(c:Int)(d:Nat)(ve vk:Value)(F':List Nat):Prop where
 qO:aC (p::F) w w'
 blk:af w' p (((cs.setIfInBounds off ve).setIfInBounds (off+1) vk).setIfInBounds (off+2) (.int .i64 c)) T
 root:Root w' d L ve vk F'
 cnt:∀x,F'.count x<=F.count x\/(w.heap.size<=x/\F'.count x<=1)
theorem EC{cs:Array Value}{off:Nat}{a b c a' b':Value}:((((cs.setIfInBounds off a).setIfInBounds (off+1) b).setIfInBounds (off+2) c).setIfInBounds off a').setIfInBounds (off+1) b'=((cs.setIfInBounds off a').setIfInBounds (off+1) b').setIfInBounds (off+2) c:=by
 apply Array.ext_getElem?;intro i;simp only[Array.getElem?_setIfInBounds,Array.size_setIfInBounds]
 grind
theorem A9(z:Int)(ra:Option Addr)(rn rc:Nat)(d:Nat)(L:List (Value×Value))(p off:Nat)(cs:Array Value)(T:TypeId)(ve vk:Value)(F:List Nat)(c:Int)(w:World)(hc:0<=c/\c<=1000000)(hB:af w p cs T)(h0:cs[off]? =some ve)(h1:cs[off+1]? =some vk)(h2:cs[off+2]? =some (.int .i64 c))(hN:Root w d L ve vk F)(hL:Less L z)(hO:Ord L)(hnd:(p::F).Nodup):
   Calls Tryz.prog 83 #[.pointer (some ⟨p,off,none⟩),.int .i64 z,.slice ra rn rc] w fun x w'=>x=.returned (.tuple #[])/\∃d' ve' vk' F',yz w w' p off cs T (L++[(.int .i64 z,.slice ra rn rc)]) F (c+1) d' ve' vk' F':=by
 refine y9 z ra rn rc p off c w (fun W cs'=>∃ve' vk' F',cs'=(cs.setIfInBounds off ve').setIfInBounds (off+1) vk'/\xY w W d (if d=0 then 0 else 1) 7 p off cs T (L++[(.int .i64 z,.slice ra rn rc)]) ve vk F ve' vk' F') T _ hB.lt hc ((Eu d z ra rn rc _ 6 L p off cs T ve vk F w (by omega) hB h0 h1 hN hL hO hnd).mono ?_) ?_
 · rintro x W ⟨rfl,ve',vk',F',po⟩;exact⟨rfl,_,ve',vk',F',rfl,po⟩
 rintro W cs' ⟨ve',vk',F',rfl,po⟩;obtain⟨m,hm1,hm2,nd2,ao,cp,rfl⟩:=po.nd.exact
 obtain⟨bo,bn,bc,rfl⟩:∃bo bn bc,vk'=.slice bo bn bc:=by
  cases d with
  |zero=>obtain⟨_,_,⟨ka,kc,h⟩,_⟩:=nd2;exact⟨_,_,_,h⟩
  |succ d=>obtain⟨es,ks,_,_,_,h,_⟩:=nd2;obtain⟨a,b,h⟩:=au h;exact⟨_,_,_,h⟩
 have hoff:off<cs.size:=(geA.1 h0).1;have L6:off+1<cs.size:=(geA.1 h1).1;have hpW:=po.blk.lt;have hsz:=po.qO.size
 have hpF:p∉F':=fun h=>by
  have a1:=List.count_pos_iff.2 h;have a2:=eG hnd p;have a3:=po.cnt p;have a4:=hB.lt;simp only[bA,if_true]at a2;omega
 refine⟨po.blk,?_,m,ao,cp,bo,bn,bc,hm2,?_,?_,?_,?_⟩
 · rw[Array.getElem?_setIfInBounds_ne (by omega),Array.getElem?_setIfInBounds_ne (by omega)];exact h2
 · rw[Array.getElem?_setIfInBounds_ne (by omega),Array.getElem?_setIfInBounds_self,if_pos hoff]
 · rw[Array.getElem?_setIfInBounds_self,if_pos (by simpa using L6)]
 · intro hm6;refine⟨d,.slice ao m cp,.slice bo bn bc,F',po.qO.set _ _ (.inl (by simp)),po.blk.set _ _,?_,po.cnt⟩
   refine(nd2.wide hm1 hm6).keep fun k hk=>Below.heap_setCell _ _ _ _ (fun e=>hpF (by rw[<-(show k=p from e)];exact hk))
 intro hm6
 obtain rfl:m=7:=by omega
 generalize hW2:(((((W.setCell ⟨p,off+2,none⟩ (.int .i64 (c+1))).setCell ⟨p,off,none⟩ (.slice none 0 0)).setCell ⟨p,off+1,none⟩ (.slice (some ⟨W.heap.size+1,0,none⟩) 1 1)).alloc (.cells #[.slice ao 7 cp,.slice bo bn bc] 124)).alloc (.cells #[.pointer (some ⟨W.heap.size,0,none⟩)] 266))=W2
 have hs2:W2.heap.size=W.heap.size+2:=by rw[<-hW2];simp
 have T2:aC [p] W W2:=by
  rw[<-hW2];exact(((((aC.refl [p] W).set ⟨p,off+2,none⟩ _ (.inl (by simp))).set ⟨p,off,none⟩ _ (.inl (by simp))).set ⟨p,off+1,none⟩ _ (.inl (by simp))).alloc _).alloc _
 have B2:af W2 p ((((((cs.setIfInBounds off (.slice ao 7 cp)).setIfInBounds (off+1) (.slice bo bn bc)).setIfInBounds (off+2) (.int .i64 (c+1))).setIfInBounds off (.slice none 0 0)).setIfInBounds (off+1) (.slice (some ⟨W.heap.size+1,0,none⟩) 1 1))) T:=by
  rw[<-hW2];exact((((po.blk.set _ _).set _ _).set _ _).alloc _).alloc _
 rw[EC]at B2
 have kB:af W2 W.heap.size #[.slice ao 7 cp,.slice bo bn bc] 124:=by
  rw[<-hW2];have:=(af.new (((W.setCell ⟨p,off+2,none⟩ (.int .i64 (c+1))).setCell ⟨p,off,none⟩ (.slice none 0 0)).setCell ⟨p,off+1,none⟩ (.slice (some ⟨W.heap.size+1,0,none⟩) 1 1)) #[.slice ao 7 cp,.slice bo bn bc] 124).alloc (.cells #[.pointer (some ⟨W.heap.size,0,none⟩)] 266);simpa using this
 have gB:af W2 (W.heap.size+1) #[.pointer (some ⟨W.heap.size,0,none⟩)] 266:=by
  rw[<-hW2];have:=af.new ((((W.setCell ⟨p,off+2,none⟩ (.int .i64 (c+1))).setCell ⟨p,off,none⟩ (.slice none 0 0)).setCell ⟨p,off+1,none⟩ (.slice (some ⟨W.heap.size+1,0,none⟩) 1 1)).alloc (.cells #[.slice ao 7 cp,.slice bo bn bc] 124)) #[.pointer (some ⟨W.heap.size,0,none⟩)] 266;simpa using this
 have nd3:Nd Tr W2 d 7 7 (L++[(.int .i64 z,.slice ra rn rc)]) (.slice ao 7 cp) (.slice bo bn bc) F':=nd2.touch T2 fun k hk=>by simp;rintro rfl;exact hpF hk
 have Ov:∀g∈F',g<W.heap.size:=nd2.lt
 have OL:∀x,F'.count x<=1:=fun x=>by
  have a1:=po.cnt x;have a2:=eG hnd x;simp only[bA]at a2;omega
 refine(r9 d p off (((cs.setIfInBounds off (.slice none 0 0)).setIfInBounds (off+1) (.slice (some ⟨W.heap.size+1,0,none⟩) 1 1)).setIfInBounds (off+2) (.int .i64 (c+1))) T [] [] ⟨W.heap.size,L++[(.int .i64 z,.slice ra rn rc)],.slice ao 7 cp,.slice bo bn bc,F'⟩ (.slice none 0 0) (.slice (some ⟨W.heap.size+1,0,none⟩) 1 1) W2 (by simp) rfl B2 ?_ ?_ (World.ownsRow_nil _ _ _ _) ?_ kB nd3 ?_ ?_).mono ?_
 · rw[Array.getElem?_setIfInBounds_ne (by omega),Array.getElem?_setIfInBounds_ne (by omega),Array.getElem?_setIfInBounds_self,if_pos hoff]
 · rw[Array.getElem?_setIfInBounds_ne (by omega),Array.getElem?_setIfInBounds_self,if_pos (by simpa using L6)]
 · exact⟨rfl,.inr ⟨W.heap.size+1,1,_,rfl,Nat.zero_le _,gB,nlr _,by simp[maxLen],rfl,rfl⟩⟩
 · intro e he;rcases List.mem_append.1 he with he|he
   · exact hL.Ji e he
   simp at he;subst he;exact⟨_,_,_,_,rfl⟩
 · refine oZ fun x=> ?_
   show(p::([]++[W.heap.size+1]++(W.heap.size::F'))).count x<=1;have a1:=cnt_lt (x:=x) Ov;have a2:=OL x
   have a3:p=x->F'.count x=0:=fun e=>by subst e;exact List.count_eq_zero.2 hpF
   simp only[bA,gQ,List.count_nil];by_cases b1:p=x<;>by_cases b2:W.heap.size+1=x<;>by_cases b3:W.heap.size=x<;>simp[b1,b2,b3]<;>first|omega|(have:=a3 b1;omega)
 rintro x W3 ⟨rfl,ve3,vk3,klo,khi,mid,co⟩;refine⟨rfl,d+1,ve3,vk3,own ve3++own vk3++[klo,khi].flatMap di,?_,?_,?_,?_⟩
 · refine(po.qO.trans T2 (fun x hx=> .inl (by simp at hx;simp[hx]))).trans co.qO fun x hx=> ?_
   have hx2:x∈p::([]++[W.heap.size+1]++(W.heap.size::F')):=hx;simp at hx2;rcases hx2 with rfl|rfl|rfl|h
   · simp
   · right;omega
   · right;omega
   rcases po.cnt x with h2|h2
   · have:=List.count_pos_iff.2 h
     left;simp[List.count_pos_iff.1 (show 0<F.count x by omega)]
   exact .inr h2.1
 · have:=co.blk;rw[EC]at this;exact this
 · refine⟨[mid],[klo,khi],⟨by simp,by simp⟩,rfl,co.eB,co.kids,?_,rfl,?_⟩
   · have:=co.list;simp only at this;rw[this];rfl
   intro q hq;simp at hq;rcases hq with rfl|rfl
   · exact co.low
   exact co.high
 intro x;have a1:=co.cnt x;have a2:=po.cnt x;have a3:=OL x;have a4:=cnt_lt (x:=x) Ov;have a5:(own (Value.slice none 0 0)).count x=0:=rfl;have a6:(own (Value.slice (some ⟨W.heap.size+1,0,none⟩) 1 1)).count x=[W.heap.size+1].count x:=rfl;rw[a5,a6]at a1;simp only[bA,gQ,Bj,List.count_nil]at a1⊢;have i1:=iY (W.heap.size+1) x;have i2:=iY W.heap.size x;omega
end Bt
section
open Go Go.RowKit
variable {F:Fence}{n:Nat}{P:Program}
def DD(P:Program)(l:Nat)(R:Ending->World->Prop)(e:Exit)(a:Act)(w:World):Prop:=
 match e with
 |.panic chain=>a.defers=[]/\R (.panicked chain) w
 |e=>roundPost P l R e a w
theorem wU{l:Nat}{f:FuncId}{tmps:Array Value}{assign body:Code}{R:Ending->World->Prop}(hF:F.fn f)(hfn:∃fn,P.funcs[f]? =some fn)
   (h:assign.wpIn (F.inRound l) n P (Exit.then (fun a₁ w₁=>∃w₂,(Instr.beginRound l).run P w₁=.ok () w₂/\body.wpIn (F.inRound l) n P (DD P l R) a₁ w₂) (fun _ _ _=>False))
     {tmps:=tmps,defers:=[]} w):RoundIn F n P l f tmps assign body w R:=by
 refine⟨hF,fun c cs hr=> ?_⟩;obtain⟨b,hb⟩:∃b:Frame,b={(default:Frame)with fn:=f,kind:=.normal,roundOf:=some l}:=⟨_,rfl⟩
 have hbf:b.fn=f:=by rw[hb]
 have hbr:b.roundOf=some l:=by rw[hb]
 have hstart:Frame.round l f tmps assign body .normal=b.atR {tmps:=tmps,defers:=[]} [.code assign,.beginRound,.code body]:=by
  rw[hb];simp[Frame.round,Frame.atR]
 have hroom:(F.inRound l).room ((c::cs).length+1+n):=hr
 have hin:(F.inRound l).fn b.fn:=by rw[hbf];exact hF
 obtain⟨e1,a1,w1,q1,g1⟩:=h b [.beginRound,.code body] (c::cs) hbr hin hroom;rw[<-hstart]at g1
 cases e1 with
 |normal=>
  obtain⟨w2,NK,hbody⟩:=q1;have go1:=StepsIn.trans g1 (.one (fenced_calm (fr:=b.atR a1 [.beginRound,.code body]) hin hroom rfl) (stepR_beginRound hbr NK));obtain⟨e2,a2,w3,q2,g2⟩:=hbody b [] (c::cs) hbr hin hroom
  have hsome:b.roundOf.isSome=true:=by rw[hbr];rfl
  have hkind:b.kind=.normal:=by rw[hb]
  cases e2 with
  |normal=>
   obtain⟨v,w4,hend,hR⟩:=q2;exact⟨.returned v,w4,hR,go1.trans (StepsIn.trans g2 (.one (fenced_calm (fr:=b.atR a2 []) hin hroom rfl) (stepR_round_end hbr hkind hend)))⟩
  |ret=>
   obtain⟨v,w4,hend,hR⟩:=q2;obtain⟨k,hs⟩:=g2.2 hsome;exact⟨.returned v,w4,hR,go1.trans (StepsIn.trans hs (.one (fenced_calm (fr:=b.atR a2 (.code .ret::k)) hin hroom rfl) (stepR_round_ret hbr hkind hend)))⟩
  |exit id=>
   obtain⟨v,w4,hend,hR⟩:=q2;obtain⟨k,hk,hs⟩:=g2.2 hsome rfl;exact⟨.returned v,w4,hR,go1.trans (StepsIn.trans hs (.one (fenced_calm (fr:=b.atR a2 (.code (.exit id)::k)) hin hroom rfl) (stepR_round_exit hbr hkind hk hend)))⟩
  |goto t=>
   obtain⟨v,w4,hend,hR⟩:=q2;obtain⟨k,hk,hs⟩:=g2.2 hsome rfl;exact⟨.returned v,w4,hR,go1.trans (StepsIn.trans hs (.one (fenced_calm (fr:=b.atR a2 (.code (.goto t)::k)) hin hroom rfl) (stepR_round_goto hbr hkind hk hend)))⟩
  |panic chain=>
   obtain⟨hd,hR⟩:=q2;obtain⟨todo,hs⟩:=g2;obtain⟨fn,hfn⟩:=hfn;have hleave:Frame.leaving P {b.atR a2 todo with mode:=.panicking chain} w3 (.panicked chain):=⟨rfl,hd,fn,by show P.funcs[b.fn]? =_;rw[hbf];exact hfn⟩;exact⟨.panicked chain,w3,hR,go1.trans (StepsIn.trans hs (.one (fenced_leaving (F:=F.inRound l) hin hroom hleave) (step_leave_panicked hleave)))⟩
  |outgrown=>exact q2.elim
 |exit id=>exact q1.elim
 |goto t=>exact q1.elim
 |ret=>exact q1.elim
 |panic chain=>exact q1.elim
 |outgrown=>exact q1.elim
def qa(f:FuncId)(P:Program)(c:Code)(Q:Exit->Act->World->Prop)(a:Act)(w:World):Prop:=
 ∀(b:Frame) (k:List Item) (cs:List Frame),b.fn=f->b.roundOf=none->
   ∃e a' w',Q e a' w'/\ArrivesIn (Machine.fenced P Fence.wide) P (lone (b.atR a (.code c::k)) cs w) b k cs e a' w'
theorem KG{f:FuncId}{c:Code}{Q:Exit->Act->World->Prop}(h:c.wpIn Fence.wide n P Q a w):qa f P c Q a w:=
 fun b k cs _ hr=>h b k cs hr trivial (room_wide _)
theorem uO{f:FuncId}{x y:Code}{Q:Exit->Act->World->Prop}(h:x.wpIn Fence.wide n P (Exit.then (fun a w=>qa f P y Q a w) Q) a w):qa f P (.seq x y) Q a w:=by
 intro b k cs hb hr;have h0:(lone (b.atR a (.code (.seq x y)::k)) cs w).fenced P Fence.wide:=fenced_wide _ _;obtain⟨e,a1,w1,q,g⟩:=h b (.code y::k) cs hr trivial (room_wide _)
 cases e with
 |normal=>
  obtain⟨e2,a2,w2,q2,g2⟩:=q b k cs hb hr;exact⟨e2,a2,w2,q2,.of_steps (.head h0 stepR_seq g) g2⟩
 |exit id=>exact⟨_,a1,w1,q,.of_steps (.one h0 stepR_seq) (.pass (x:=.code y) rfl (fun _ _=> .inl (by simp)) g)⟩
 |goto l=>exact⟨_,a1,w1,q,.of_steps (.one h0 stepR_seq) (.pass (x:=.code y) rfl (fun _ _=> .inl (by simp)) g)⟩
 |ret=>exact⟨_,a1,w1,q,.of_steps (.one h0 stepR_seq) (.pass (x:=.code y) rfl (fun _ _=> .inl (by simp)) g)⟩
 |panic ch=>exact⟨_,a1,w1,q,.of_steps (.one h0 stepR_seq) (.pass (x:=.code y) rfl (fun _ _=> .inl (by simp)) g)⟩
 |outgrown=>exact⟨_,a1,w1,q,.of_steps (.one h0 stepR_seq) (.pass (x:=.code y) rfl (fun _ _=> .inl (by simp)) g)⟩
theorem F7{f:FuncId}{x y:Code}{Q:Exit->Act->World->Prop}(h:qa f P x (Exit.then (fun a w=>qa f P y Q a w) Q) a w):qa f P (.seq x y) Q a w:=by
 intro b k cs hb hr;have h0:(lone (b.atR a (.code (.seq x y)::k)) cs w).fenced P Fence.wide:=fenced_wide _ _;obtain⟨e,a1,w1,q,g⟩:=h b (.code y::k) cs hb hr
 cases e with
 |normal=>
  obtain⟨e2,a2,w2,q2,g2⟩:=q b k cs hb hr;exact⟨e2,a2,w2,q2,.of_steps (.head h0 stepR_seq g) g2⟩
 |exit id=>exact⟨_,a1,w1,q,.of_steps (.one h0 stepR_seq) (.pass (x:=.code y) rfl (fun _ _=> .inl (by simp)) g)⟩
 |goto l=>exact⟨_,a1,w1,q,.of_steps (.one h0 stepR_seq) (.pass (x:=.code y) rfl (fun _ _=> .inl (by simp)) g)⟩
 |ret=>exact⟨_,a1,w1,q,.of_steps (.one h0 stepR_seq) (.pass (x:=.code y) rfl (fun _ _=> .inl (by simp)) g)⟩
 |panic ch=>exact⟨_,a1,w1,q,.of_steps (.one h0 stepR_seq) (.pass (x:=.code y) rfl (fun _ _=> .inl (by simp)) g)⟩
 |outgrown=>exact⟨_,a1,w1,q,.of_steps (.one h0 stepR_seq) (.pass (x:=.code y) rfl (fun _ _=> .inl (by simp)) g)⟩
theorem rU{f:FuncId}{id:Nat}{c:Code}{Q:Exit->Act->World->Prop}(h:qa f P c (Exit.inBlock id Q) a w):qa f P (.block id c) Q a w:=by
 intro b k cs hb hr;have h0:(lone (b.atR a (.code (.block id c)::k)) cs w).fenced P Fence.wide:=fenced_wide _ _;obtain⟨e,a1,w1,q,g⟩:=h b (.inBlock id::k) cs hb hr
 cases e with
 |normal=>exact⟨.normal,a1,w1,q,.head h0 stepR_block (StepsIn.trans g (.one (fenced_wide _ _) stepR_inBlock))⟩
 |exit j=>
  by_cases hj:j=id
  · simp only[Exit.inBlock,hj,if_true]at q;exact⟨.normal,a1,w1,q,.head h0 stepR_block (g.1 k (by simp[exitTo,hj]))⟩
  simp only[Exit.inBlock,hj,if_false]at q
  have hne:(id==j)=false:=by simp;exact fun h=>hj h.symm
  have hx:exitTo j (.inBlock id::k)=exitTo j k:=by simp[exitTo,hne]
  exact⟨.exit j,a1,w1,q,fun k' hk=> .head h0 stepR_block (g.1 k' (by rw[hx];exact hk)),fun hr' hk=>let ⟨k1,p1,p2⟩:=g.2 hr' (by rw[hx];exact hk);⟨k1,p1,.head h0 stepR_block p2⟩⟩
 |goto t=>
  have hx:gotoIn t (.inBlock id::k)=gotoIn t k:=by simp[gotoIn]
  exact⟨_,a1,w1,q,fun k' hk=> .head h0 stepR_block (g.1 k' (by rw[hx];exact hk)),fun hr' hk=>let ⟨k1,p1,p2⟩:=g.2 hr' (by rw[hx];exact hk);⟨k1,p1,.head h0 stepR_block p2⟩⟩
 |ret=>exact⟨_,a1,w1,q,.of_steps (.one h0 stepR_block) g⟩
 |panic ch=>exact⟨_,a1,w1,q,.of_steps (.one h0 stepR_block) g⟩
 |outgrown=>exact⟨_,a1,w1,q,.of_steps (.one h0 stepR_block) g⟩
def iT(f:FuncId)(a:Act)(ps:Array Tmp)(assign body:Code)(d:Nat):Loop:={state:=.ready,pending:=none,fn:=f,tmps:=a.tmps,params:=ps,assign:=assign,body:=body,defers:=d}
def lD(f:FuncId)(a:Act)(ps:Array Tmp)(assign body:Code)(w:World):World:=(w.alloc (.deferred (some []))).alloc (.loop (iT f a ps assign body w.heap.size))
theorem FN(f:FuncId)(a:Act)(ps:Array Tmp)(assign body:Code)(w:World):(lD f a ps assign body w).heap[w.heap.size+1]? =some (.loop (iT f a ps assign body w.heap.size)):=by
 have:=World.alloc_heap_new (w.alloc (.deferred (some []))) (.loop (iT f a ps assign body w.heap.size))
 rwa [World.size_alloc]at this
theorem Fw(f:FuncId)(a:Act)(ps:Array Tmp)(assign body:Code)(w:World):(lD f a ps assign body w).heap[w.heap.size]? =some (.deferred (some [])):=
 (Below.heap_alloc _ _ _ (by simp)).trans (World.alloc_heap_new w _)
theorem Bz(f:FuncId)(a:Act)(ps:Array Tmp)(assign body:Code)(w:World):Below w.heap.size w (lD f a ps assign body w):=
 ((Below.refl _ w).alloc (nlr _) _).alloc (by simp) _
theorem Dz(f:FuncId)(a:Act)(ps:Array Tmp)(assign body:Code)(w:World):(lD f a ps assign body w).heap.size=w.heap.size+2:=by simp[lD]
theorem CU{f:FuncId}{g:Operand}{ps:Array Tmp}{assign body:Code}{Q:Exit->Act->World->Prop}{gf:Nat}{lb:Array Value}
   (hg:a.eval g=.func (.func gf) #[] lb) (eg:∀args w,(callFunc gf args).run P w=.ok (.enter gf args) w)
   (h:CallsIn Fence.wide (n-1) P gf (#[.func (.yield (w.heap.size+1)) #[] #[]]++lb) (lD f a ps assign body w) (rangePost Fence.wide n P (w.heap.size+1) Q {a with defers:={target:=.collected w.heap.size,args:=#[]}::a.defers})):
   qa f P (.rangeFunc g ps assign body) Q a w:=by
 intro b k cs hb hr
 have he:(Instr.enterLoop b.fn a.tmps ps assign body b.roundOf).run P w=.ok (w.heap.size+1,[{target:=.collected w.heap.size,args:=#[]}]) (lD f a ps assign body w):=by
  rw[hb,hr];exact run_enterLoop_outer _ _ _ _ _
 have hres:(resolve a.eval (rangeCall g (w.heap.size+1)) 0).run P (lD f a ps assign body w)=.ok {target:=.fn (.func gf) lb,args:=#[.func (.yield (w.heap.size+1)) #[] #[]]} (lD f a ps assign body w):=by
  simp only[resolve,hg];simp[go_sem]
 have hinv:(invoke (.fn (.func gf) lb) #[.func (.yield (w.heap.size+1)) #[] #[]]).run P (lD f a ps assign body w)=.ok (.enter gf (#[.func (.yield (w.heap.size+1)) #[] #[]]++lb)) (lD f a ps assign body w):=by
  simp[invoke,go_sem,eg]
 have henter:=stepR_rangeFunc (P:=P) (b:=b) (a:=a) (k:=k) (cs:=cs) (w:=w) he hres hinv;have h0:(lone (b.atR a (.code (.rangeFunc g ps assign body)::k)) cs w).fenced P Fence.wide:=fenced_wide _ _;obtain⟨e,w3,fr,hR,hsteps,_,hleave⟩:=h.2 (b.atR {a with defers:=[{target:=.collected w.heap.size,args:=#[]}]++a.defers} (.inRangeFunc (w.heap.size+1)::k)::cs) (room_wide _)
 cases e with
 |outgrown=>
  obtain⟨a0,w0,hq⟩:=hR;exact⟨.outgrown,a0,w0,hq,.inr (Outgrown.of_steps (.one henter) hsteps)⟩
 |returned v=>
  obtain⟨jump,w4,hend,hj⟩:=hR
  have back:StepsIn (Machine.fenced P Fence.wide) P (lone (b.atR a (.code (.rangeFunc g ps assign body)::k)) cs w) (lone (b.atR {a with defers:=[{target:=.collected w.heap.size,args:=#[]}]++a.defers} ((jump.map Item.code).toList++k)) cs w4):=by
   refine .head h0 henter (StepsIn.trans hsteps (.head (fenced_wide _ _) ?_ (.one (fenced_wide _ _) (stepR_endRangeFunc hend))));rw[<-finish_atR_inRangeFunc (w.heap.size+1) v];exact step_leave_returned hleave
  cases jump with
  |none=>exact⟨.normal,_,w4,hj,back⟩
  |some c=>
   obtain⟨e',a'',w5,hq,harr⟩:=hj b k cs hr trivial (room_wide _);exact⟨e',a'',w5,hq,.of_steps back harr⟩
 |panicked chain=>
  refine⟨.panic chain,_,w3,hR,.inRangeFunc (w.heap.size+1)::k,.head h0 henter (StepsIn.trans hsteps (.one (fenced_wide _ _) ?_))⟩;rw[<-Frame.raise_atR];exact step_leave_panicked hleave
theorem qV{f:FuncId}{g:Operand}{ps:Array Tmp}{assign body:Code}{Q:Exit->Act->World->Prop}{gf:Nat}{lb:Array Value}
   (hg:a.eval g=.func (.func gf) #[] lb) (eg:∀args w,(callFunc gf args).run P w=.ok (.enter gf args) w)
   (h:∀W1,W1.heap[w.heap.size+1]? =some (.loop (iT f a ps assign body w.heap.size))->W1.heap[w.heap.size]? =some (.deferred (some []))->Below w.heap.size w W1->W1.heap.size=w.heap.size+2->
     CallsIn Fence.wide (n-1) P gf (#[.func (.yield (w.heap.size+1)) #[] #[]]++lb) W1 (rangePost Fence.wide n P (w.heap.size+1) Q {a with defers:={target:=.collected w.heap.size,args:=#[]}::a.defers})):
   qa f P (.rangeFunc g ps assign body) Q a w:=
 CU hg eg (h _ (FN _ _ _ _ _ _) (Fw _ _ _ _ _ _) (Bz _ _ _ _ _ _) (Dz _ _ _ _ _ _))
theorem mo{f:FuncId}{fn:Func}{c:Code}{args:Array Value}{R:Ending->World->Prop}(hf:P.funcs[f]? =some fn)(hb:fn.body=some c)
   (h:qa f P c (bodyPostM Fence.wide n P fn R) {tmps:=args++Array.replicate (fn.ntmps-args.size) undef,defers:=[]} w):CallsIn Fence.wide n P f args w R:=by
 refine⟨trivial,fun cs hr=> ?_⟩;obtain⟨b,hB⟩:∃b:Frame,b={(default:Frame)with fn:=f,kind:=.normal,roundOf:=none}:=⟨_,rfl⟩
 have hbf:b.fn=f:=by rw[hB]
 have hbr:b.roundOf=none:=by rw[hB]
 have hbk:b.kind=.normal:=by rw[hB]
 have hstart:Frame.enter P f args .normal=b.atR {tmps:=args++Array.replicate (fn.ntmps-args.size) undef,defers:=[]} [.code c]:=by
  rw[hB];simp[Frame.enter,Frame.atR,hf,hb]
 obtain⟨e,a',w',q,g⟩:=h b [] cs hbf hbr;rw[<-hstart]at g
 have hff:P.funcs[b.fn]? =some fn:=by rw[hbf];exact hf
 cases e with
 |normal=>
  obtain⟨e',w'',fr',hR,hs,hfn,hl⟩:=leaves_stepsInM (F:=Fence.wide) (n:=n) a'.defers .returning w' {b.atR a' []with mode:=.returning} cs rfl rfl rfl hff hbk trivial hr q;exact⟨e',w'',fr',hR,ComesIn.of_steps (StepsIn.trans g (.one (fenced_wide _ _) (stepR_end hbr))) hs,hfn.trans hbf,hl⟩
 |ret=>
  obtain⟨todo,hs0⟩:=g.1 hbr;obtain⟨e',w'',fr',hR,hs,hfn,hl⟩:=leaves_stepsInM (F:=Fence.wide) (n:=n) a'.defers .returning w' {b.atR a' todo with mode:=.returning} cs rfl rfl rfl hff hbk trivial hr q;exact⟨e',w'',fr',hR,ComesIn.of_steps hs0 hs,hfn.trans hbf,hl⟩
 |panic chain=>
  obtain⟨todo,hs0⟩:=g;obtain⟨e',w'',fr',hR,hs,hfn,hl⟩:=leaves_stepsInM (F:=Fence.wide) (n:=n) a'.defers (.panicking chain) w' {b.atR a' todo with mode:=.panicking chain} cs rfl rfl rfl hff hbk trivial hr q;exact⟨e',w'',fr',hR,ComesIn.of_steps hs0 hs,hfn.trans hbf,hl⟩
 |exit id=>exact q.elim
 |goto l=>exact q.elim
 |outgrown=>exact⟨.outgrown,w',b,q,g.resolve_left (by rw[hbk];simp),hbf,trivial⟩
end
section
open Go.RowKit Go.Shelf
attribute [local go_sem] Oper.semAt_some
namespace Bt
theorem take_at{α:Type}(L:List α)(k:Nat)(h:k<L.length)(S:List α):L.take k++L[k]::(L.drop (k+1)++S)=L++S:=by
 have:=List.take_append_drop k L;rw[List.drop_eq_getElem_cons h]at this;rw[<-List.cons_append,<-laa,this]
theorem Lp{g g' cap cap':Nat}(h:Value.slice (some ⟨g,0,none⟩) n cap=.slice (some ⟨g',0,none⟩) n cap'):g=g'/\cap=cap':=by
 injection h with h1 h2 h3;injection h1 with h1;injection h1 with h1;exact⟨h1,h3⟩
structure Kc(B:Nat)(C:List Nat)(W:World)(C':List Nat)(W':World):Prop where
 size:W.heap.size<=W'.heap.size
 same:∀k,B<=k->k<W.heap.size->k∉C->W'.heap[k]? =W.heap[k]?
 new:∀k∈C',k∈C\/W.heap.size<=k
theorem Kc.refl(B:Nat)(C:List Nat)(W:World):Kc B C W C W:=⟨nlr _,fun _ _ _ _=>rfl,fun _ h=> .inl h⟩
theorem Kc.trans{B:Nat}{C C1 C2:List Nat}{W W1 W2:World}(h:Kc B C W C1 W1)(k:Kc B C1 W1 C2 W2):Kc B C W C2 W2:=
 ⟨Nat.le_trans h.size k.size,fun x h1 h2 h3=>(k.same x h1 (nlA h2 h.size) (fun hx=>by rcases h.new x hx with h4|h4;exact h3 h4;omega)).trans (h.same x h1 h2 h3),
  fun x hx=>by
   rcases k.new x hx with h1|h1
   · exact h.new x h1
   right;have:=h.size;omega⟩
theorem Kc.of{B:Nat}{C:List Nat}{W W':World}(h:Below W.heap.size W W'):Kc B C W C W':=⟨h.size,fun k _ h2 _=>h.block k h2,fun _ h=> .inl h⟩
structure Gives(B l:Nat)(Lt:List (Value×Value))(G:List (Value×Value)->List Nat->World->Prop)(X:List PanicEntry->World->Prop):Prop where
 more:∀Q C W W',G Q C W->Below W.heap.size W W'->G Q C W'
 low:∀Q C W,G Q C W->∀k∈C,k<W.heap.size
 Ji:∀e∈Lt,NR e
 yield:∀Q e S,Q++e::S=Lt->∀m C W,G Q C W->YieldAt Fence.wide m Tryz.prog l #[e.1,e.2] W fun x W'=>∃C',Kc B C W C' W'/\((x=.returned (.bool true)/\G (Q++[e]) C' W')\/(∃c,x=.panicked c/\X c W'))
def Given(B:Nat)(C:List Nat)(W:World)(G:List (Value×Value)->List Nat->World->Prop)(X:List PanicEntry->World->Prop)(Q:List (Value×Value))(v:Value)(x:Ending)(W':World):Prop:=∃C',Kc B C W C' W'/\((x=.returned v/\G Q C' W')\/(∃c,x=.panicked c/\X c W'))
theorem jW(n l:Nat)(k:Int)(b off:Nat)(ka:Option Addr)(kc:Nat)(w:World)(hb:b<w.heap.size)(c:w.cell? ⟨b,off+1,none⟩=some (.slice ka 0 kc)):
   CallsIn Fence.wide n Tryz.prog 169 #[.pointer (some ⟨b,off,none⟩),.int .i64 k,.func (.yield l) #[] #[]] w fun x w'=>x=.returned (.bool true)/\w'=w:=by
 refine callsIn_wide.2 ?_;go_enter Tryz.func169,Tryz.ntmps169;go_wp2_with fail;refine(mW b off _ _ _ hb c).mono ?_;rintro x w1 ⟨rfl,rfl⟩;go_wp2_with fail;go_ret;exact⟨rfl,rfl⟩
theorem qM(n l:Nat)(i m:Nat)(b off:Nat)(gk kc kb:Nat)(B:Nat)(C:List Nat)(W0:World)(G:List (Value×Value)->List Nat->World->Prop)(X:List PanicEntry->World->Prop)(Q:List (Value×Value))(w:World)(hm:((m:Int)==0)=false)(hi:(i:Int)<(m:Int))(hin:i<m)(hb:b<w.heap.size)(c:w.cell? ⟨b,off+1,none⟩=some (.slice (some ⟨gk,0,none⟩) m kc))(hg:gk<w.heap.size)(ck:w.cell? ⟨gk,i,none⟩=some (.pointer (some ⟨kb,0,none⟩)))
   (h:CallsIn Fence.wide (n-1) Tryz.prog 106 #[.pointer (some ⟨kb,0,none⟩),.func (.yield l) #[] #[]] w (Given B C W0 G X Q (.bool true))):
   CallsIn Fence.wide n Tryz.prog 169 #[.pointer (some ⟨b,off,none⟩),.int .i64 i,.func (.yield l) #[] #[]] w (Given B C W0 G X Q (.bool true)):=by
 refine callsIn_of_wp Tryz.func169 rfl trivial ?_ rfl;simp only[Tryz.ntmps169,List.size_toArray,List.length_cons,List.length_nil,Nat.reduceAdd,Nat.reduceSub,Array.replicate_succ,Array.replicate_zero,List.push_toArray,List.append_toArray,List.nil_append,List.cons_append]
 gi_wp2
 refine⟨trivial,(fun h=>by cases h),(callsIn_wide.2 (pg b off m _ _ _ hm hb c)).mono ?_⟩;rintro x w1 ⟨rfl,rfl⟩
 gi_wp2
 refine⟨trivial,(fun h=>by cases h),h.mono ?_⟩;rintro x w2 ⟨C',hkf,(⟨rfl,hR⟩|⟨c,rfl,hR⟩)⟩
 · gi_wp2
   go_ret;exact⟨C',hkf,.inl ⟨rfl,hR⟩⟩
 exact⟨rfl,C',hkf,.inr ⟨c,rfl,hR⟩⟩
theorem GM(B l:Nat)(Lt:List (Value×Value))(G:List (Value×Value)->List Nat->World->Prop)(X:List PanicEntry->World->Prop)(hY:Gives B l Lt G X)(w:World)(hB:B<=w.heap.size):
   ∀(d lo hi:Nat) (L:List (Value×Value)) (b off:Nat) (ve vk:Value) (F:List Nat) (P S:List (Value×Value)),hi<=7->(d=0\/1<=lo)->Nd Tr w d lo hi L ve vk F->b<w.heap.size->w.cell? ⟨b,off,none⟩=some ve->w.cell? ⟨b,off+1,none⟩=some vk->
     (∀Q C W,G Q C W->w.heap.size<=W.heap.size/\∀k∈b::F,W.heap[k]? =w.heap[k]?)->P++L++S=Lt->∀(n:Nat) (C:List Nat) (W:World),G P C W->
     CallsIn Fence.wide n Tryz.prog 106 #[.pointer (some ⟨b,off,none⟩),.func (.yield l) #[] #[]] W (Given B C W G X (P++L) (.bool true)):=by
 intro d
 induction d with
 |zero=>
  intro lo hi L b off ve vk F P S hhi hlo hN hb c0 c1 hK hL n C W hGP;obtain⟨⟨h1,h2⟩,hown,⟨ka,kc,rfl⟩,rfl⟩:=hN
  have hsl:(ve=.slice none 0 0/\L.length=0)\/∃g cap,ve=.slice (some ⟨g,0,none⟩) L.length cap:=by
   rcases hown.2 with h|⟨g,cap,cur,h1,_⟩
   · exact .inl h
   exact .inr ⟨g,cap,h1⟩
  have HOW:=hd hown;clear hown;rcases hsl with⟨rfl,hL0⟩|⟨g,cap,rfl⟩
  · have hLn:L=[]:=List.eq_nil_of_length_eq_zero hL0;subst hLn;have hs0:=(hK P C W hGP).1;have d0:=(World.cell?_of_block (w:=w) (a:=⟨b,off,none⟩) ((hK P C W hGP).2 b (by simp))).trans c0;have d1:=(World.cell?_of_block (w:=w) (a:=⟨b,off+1,none⟩) ((hK P C W hGP).2 b (by simp))).trans c1
    have hb0:b<W.heap.size:=by omega
    have HGE:Hid (G (P++[]) C W):=by show G _ _ _;simpa using hGP
    refine callsIn_of_wp Tryz.func106 rfl trivial ?_ rfl;simp only[Tryz.ntmps106,List.size_toArray,List.length_cons,List.length_nil,Nat.reduceAdd,Nat.reduceSub,Array.replicate_succ,Array.replicate_zero,List.push_toArray,List.append_toArray,List.nil_append,List.cons_append];clear hK hL hGP
    gi_wp2
    gi_loopw [12] (fun i wr=>i=.int .i64 0/\wr=W) (fun i _=>0)
    case atStart=>exact⟨rfl,rfl⟩
    case round=>
     obtain⟨rfl,rfl⟩:=hrel
     gi_wp2
     refine⟨trivial,(fun h=>by cases h),(jW (n-1) l 0 b off ka kc _ hb0 d1).mono ?_⟩;rintro x w1 ⟨rfl,rfl⟩
     gi_wp2
     go_ret;exact⟨C,Kc.refl _ _ _,.inl ⟨rfl,HGE.out⟩⟩
  skip
  have HK:=hd hK;have HL:=hd hL
  have hlen:L.length<=7:=by omega
  have HN0:Hid (G (P++L.take 0) C W):=by show G _ _ _;simpa using hGP
  have hs0:=(hK P C W hGP).1;have d0:=(World.cell?_of_block (w:=w) (a:=⟨b,off,none⟩) ((hK P C W hGP).2 b (by simp))).trans c0
  have hb0:b<W.heap.size:=by omega
  refine callsIn_of_wp Tryz.func106 rfl trivial ?_ rfl;simp only[Tryz.ntmps106,List.size_toArray,List.length_cons,List.length_nil,Nat.reduceAdd,Nat.reduceSub,Array.replicate_succ,Array.replicate_zero,List.push_toArray,List.append_toArray,List.nil_append,List.cons_append];clear hK hL hGP
  gi_wp2
  gi_loopw [12] (fun i wr=>∃(k:Nat) (C':List Nat),i=.int .i64 k/\k<=L.length/\Hid (Kc B C W C' wr)/\Hid (G (P++L.take k) C' wr)) (fun i _=>L.length-(intOf i).toNat)
  case atStart=>exact⟨0,C,rfl,Nat.zero_le _,Kc.refl _ _ _,HN0⟩
  case round=>
   obtain⟨k,C',rfl,hk,HKF,HG⟩:=hrel;have hKw:=HK.out _ _ _ HG.out;have hsz:=hKw.1;have e1:=(World.cell?_of_block (w:=w) (a:=⟨b,off+1,none⟩) (hKw.2 b (by simp))).trans c1;have e0:=(World.cell?_of_block (w:=w) (a:=⟨b,off,none⟩) (hKw.2 b (by simp))).trans c0
   have hbw:b<wr.heap.size:=by omega
   by_cases hlt:k<L.length
   · obtain⟨g',cap',hv,_,hg,_,_,hcl⟩:=yV HOW.out (by omega);obtain⟨rfl,rfl⟩:=Lp hv
     have hgw:g<wr.heap.size:=by omega
     have hbg:=hKw.2 g (by simp[own,Value.ownBlock]);have x0:=(World.cell?_of_block (w:=w) (a:=⟨g,k*2,none⟩) hbg).trans (hcl _ _ (gT L k hlt));have x1:=(World.cell?_of_block (w:=w) (a:=⟨g,k*2+1,none⟩) hbg).trans (hcl _ _ (gX L k hlt));have Mq:Hid (L.take (k+1)=L.take k++[L[k]]):=List.take_succ_eq_append_getElem hlt;have HY:=hd (hY.yield (P++L.take k) L[k] (L.drop (k+1)++S) (by rw[<-HL.out,laa,take_at L k hlt S,laa]));obtain⟨z,ra,rn,rc,hek⟩:=hY.Ji L[k] (by rw[<-HL.out];simp[List.getElem_mem hlt]);generalize L[k]=ek at*;subst hek
     have HB0:Hid (Below wr.heap.size wr (wr.alloc (.cells #[.int .i64 z,.slice ra rn rc] 265))):=by show Below _ _ _;go_grown
     have f1:=(HB0.out.cell (p:=⟨b,off+1,none⟩) hbw).trans e1;have hbw2:=nlA hbw HB0.out.size;obtain⟨fn,tmps,assign,body,hy,hR⟩:=HY.out (n-1) C' _ (hY.more _ _ _ _ HG.out HB0.out);clear hcl
     gi_wp2
     refine⟨trivial,(fun h=>by cases h),(jW (n-1) l k b off ka kc _ hbw2 f1).mono ?_⟩;rintro x w1 ⟨rfl,rfl⟩
     gi_wp2
     refine⟨(fun h=>by cases h),hR.mono ?_⟩;rintro e W3 ⟨C3,hkf,(⟨rfl,hG3⟩|⟨c,rfl,hX⟩)⟩
     · gi_wp2
       go_roundw
       case rel=>exact⟨k+1,C3,rfl,by omega,HKF.out.trans ((Kc.of HB0.out).trans hkf),by show G _ _ _;rw[Mq.out,<-laa];exact hG3⟩
       case measure=>simp[intOf];omega
     exact⟨rfl,C3,HKF.out.trans ((Kc.of HB0.out).trans hkf),.inr ⟨c,rfl,hX⟩⟩
   obtain rfl:k=L.length:=by omega
   have HGE:Hid (G (P++L) C' wr):=by have:=HG.out;rwa [List.take_length]at this
   gi_wp2
   refine⟨trivial,(fun h=>by cases h),(jW (n-1) l L.length b off ka kc _ hbw e1).mono ?_⟩;rintro x w1 ⟨rfl,rfl⟩
   gi_wp2
   go_ret;exact⟨C',HKF.out,.inl ⟨rfl,HGE.out⟩⟩
 |succ d ih=>
  intro lo hi L b off ve vk F P S hhi hlo hN hb c0 c1 hK hL n C W hGP;obtain⟨es,ks,⟨h1,h2⟩,hlen,hown,qD,rfl,rfl,hkids⟩:=hN
  have h0:es.length≠0:=by omega
  obtain⟨g,cap,rfl,_,hg,_,_,hcl⟩:=yV hown h0;obtain⟨gk,ck,rfl,_,hgk,_,_,NV⟩:=yV qD (by omega)
  have hle7:es.length<=7:=by omega
  have HK:=hd hK;have HL:=hd hL;have HKI:=hd hkids;have HCL:=hd hcl;have HCK:=hd NV;have HLN:=hd hlen
  have HM:Hid ((ks.map fK.L).length=es.length+1):=by show _=_;simp[hlen]
  have HN0:Hid (G (P++pre (ks.map fK.L) es 0) C W):=by show G _ _ _;rw[oU];simpa using hGP
  have hs0:=(hK P C W hGP).1;have d0:=(World.cell?_of_block (w:=w) (a:=⟨b,off,none⟩) ((hK P C W hGP).2 b (by simp))).trans c0
  have hb0:b<W.heap.size:=by omega
  rw[hlen]at c1;generalize hkl:es.length+1=m at*;refine callsIn_of_wp Tryz.func106 rfl trivial ?_ rfl;simp only[Tryz.ntmps106,List.size_toArray,List.length_cons,List.length_nil,Nat.reduceAdd,Nat.reduceSub,Array.replicate_succ,Array.replicate_zero,List.push_toArray,List.append_toArray,List.nil_append,List.cons_append];clear hK hL hGP hkids hcl NV hown qD hlen h1 h2 hlo
  gi_wp2
  gi_loopw [12] (fun i wr=>∃(k:Nat) (C':List Nat),i=.int .i64 k/\k<=es.length/\Hid (Kc B C W C' wr)/\Hid (G (P++pre (ks.map fK.L) es k) C' wr)) (fun i _=>es.length-(intOf i).toNat)
  case atStart=>exact⟨0,C,rfl,Nat.zero_le _,Kc.refl _ _ _,HN0⟩
  case round=>
   obtain⟨k,C',rfl,hk,HKF,HG⟩:=hrel;have hKw:=HK.out _ _ _ HG.out;have hsz:=hKw.1;have e1:=(World.cell?_of_block (w:=w) (a:=⟨b,off+1,none⟩) (hKw.2 b (by simp))).trans c1;have e0:=(World.cell?_of_block (w:=w) (a:=⟨b,off,none⟩) (hKw.2 b (by simp))).trans c0
   have hbw:b<wr.heap.size:=by omega
   have hkm:k<ks.length:=by rw[HLN.out];omega
   have hm0:((m:Int)==0)=false:=by simp;omega
   have NA:gk<wr.heap.size:=by omega
   have y0:=(World.cell?_of_block (w:=w) (a:=⟨gk,k,none⟩) (hKw.2 gk (by simp[own,Value.ownBlock]))).trans (HCK.out k _ (show(ks.map fK.ptr)[k]? =some ks[k].ptr by simp[hkm]))
   have HKK:Hid (∀(n':Nat) (C':List Nat) (W':World),G (P++pre (ks.map fK.L) es k) C' W'->CallsIn Fence.wide n' Tryz.prog 106 #[.pointer (some ⟨ks[k].b,0,none⟩),.func (.yield l) #[] #[]] W' (Given B C' W' G X (P++pre (ks.map fK.L) es k++ks[k].L) (.bool true))):=by
    intro n' C' W' hG';obtain⟨hblk,hnd⟩:=HKI.out ks[k] (List.getElem_mem hkm)
    have hcut:∃S',P++pre (ks.map fK.L) es k++ks[k].L++S'=Lt:=by
     rw[<-HL.out];by_cases hlt:k<es.length
     · obtain⟨S',hS'⟩:=yj (ks.map fK.L) es k hlt (HM.out.trans hkl.symm);exact⟨es[k]::S'++S,by rw[hS'];simp⟩
     obtain rfl:k=es.length:=by omega
     exact⟨S,by rw[xZ (ks.map fK.L) es (HM.out.trans hkl.symm)];simp⟩
    obtain⟨S',hS'⟩:=hcut;refine ih 3 6 ks[k].L ks[k].b 0 ks[k].ve ks[k].vk ks[k].F _ S' (by omega) (.inr (by omega)) hnd hblk.lt (hblk.cell 0) (hblk.cell 1) (fun Q C2 W2 h2=>⟨(HK.out Q C2 W2 h2).1,fun x hx=>(HK.out Q C2 W2 h2).2 x ?_⟩) hS' n' C' W' hG';refine List.mem_cons_of_mem _ (List.mem_append_right _ (List.mem_flatMap.2 ⟨ks[k],List.getElem_mem hkm,hx⟩))
   generalize M9:ks[k]=kid at*;by_cases hlt:k<es.length
   · have hgw:g<wr.heap.size:=by omega
     have hbg:=hKw.2 g (by simp[own,Value.ownBlock]);have x0:=(World.cell?_of_block (w:=w) (a:=⟨g,k*2,none⟩) hbg).trans (HCL.out _ _ (gT es k hlt));have x1:=(World.cell?_of_block (w:=w) (a:=⟨g,k*2+1,none⟩) hbg).trans (HCL.out _ _ (gX es k hlt))
     have Mq:Hid (pre (ks.map fK.L) es (k+1)=pre (ks.map fK.L) es k++kid.L++[es[k]]):=by
      show _=_;rw[Az _ _ k hlt (by simpa using hkm)];simp[M9]
     obtain⟨S',hS'⟩:=yj (ks.map fK.L) es k hlt (HM.out.trans hkl.symm);have HY:=hd (hY.yield (P++pre (ks.map fK.L) es k++kid.L) es[k] (S'++S) (by rw[<-HL.out,hS'];simp[M9]));obtain⟨z,ra,rn,rc,hek⟩:=hY.Ji es[k] (by rw[<-HL.out,hS'];simp);generalize es[k]=ek at*;subst hek;clear hS'
     have HB0:Hid (Below wr.heap.size wr (wr.alloc (.cells #[.int .i64 z,.slice ra rn rc] 265))):=by show Below _ _ _;go_grown
     have HBK:=hd (af.new wr #[.int .i64 z,.slice ra rn rc] 265);have f1:=(HB0.out.cell (p:=⟨b,off+1,none⟩) hbw).trans e1;have f2:=(HB0.out.cell (p:=⟨gk,k,none⟩) NA).trans y0;have hbw2:=nlA hbw HB0.out.size;have PH:=nlA NA HB0.out.size;have HWK:=hd (HKK.out (n-1-1) C' _ (hY.more _ _ _ _ HG.out HB0.out))
     have Mf:(k:Int)<(m:Int):=by omega
     have M5:k<m:=by omega
     gi_wp2
     refine⟨trivial,(fun h=>by cases h),(qM (n-1) l k m b off gk ck kid.b B C' _ G X _ _ hm0 Mf M5 hbw2 f1 PH f2 HWK.out).mono ?_⟩;rintro x w2 ⟨C2,CR,(⟨rfl,hG2⟩|⟨c,rfl,hX⟩)⟩
     · have hbk:w2.heap[wr.heap.size]? =(wr.alloc (.cells #[.int .i64 z,.slice ra rn rc] 265)).heap[wr.heap.size]?:=CR.same _ (by omega) HBK.out.lt (fun hx=>by have:=hY.low _ _ _ HG.out _ hx;omega);have M7:Hid (af w2 wr.heap.size #[.int .i64 z,.slice ra rn rc] 265):=hbk.trans HBK.out;have p0:=M7.out.cell 0;have p1:=M7.out.cell 1;simp at p0 p1;have hl2:=M7.out.lt;have N7:Hid (Kc B C W C2 w2):=HKF.out.trans ((Kc.of HB0.out).trans CR);obtain⟨fn,tmps,assign,body,hy,hR⟩:=HY.out (n-1) C2 _ hG2;clear CR hbk
       gi_wp2
       refine⟨(fun h=>by cases h),hR.mono ?_⟩;rintro e W3 ⟨C3,Oa,(⟨rfl,hG3⟩|⟨c,rfl,hX⟩)⟩
       · gi_wp2
         go_roundw
         case rel=>exact⟨k+1,C3,rfl,by omega,N7.out.trans Oa,by show G _ _ _;rw[Mq.out,<-laa,<-laa];exact hG3⟩
         case measure=>simp[intOf];omega
       exact⟨rfl,C3,N7.out.trans Oa,.inr ⟨c,rfl,hX⟩⟩
     exact⟨rfl,C2,HKF.out.trans ((Kc.of HB0.out).trans CR),.inr ⟨c,rfl,hX⟩⟩
   obtain rfl:k=es.length:=by omega
   have Mf:(es.length:Int)<(m:Int):=by omega
   have M5:es.length<m:=by omega
   have HPE:Hid (P++pre (ks.map fK.L) es es.length++kid.L=P++weave (ks.map fK.L) es):=by
    show _=_;rw[xZ (ks.map fK.L) es (HM.out.trans hkl.symm)];simp[M9]
   have HWK:=hd (HKK.out (n-1-1) C' _ HG.out)
   gi_wp2
   refine⟨trivial,(fun h=>by cases h),(qM (n-1) l es.length m b off gk ck kid.b B C' _ G X _ _ hm0 Mf M5 hbw e1 NA y0 HWK.out).mono ?_⟩;rintro x w2 ⟨C2,CR,(⟨rfl,hG2⟩|⟨c,rfl,hX⟩)⟩
   · gi_wp2
     go_ret;exact⟨C2,HKF.out.trans CR,.inl ⟨rfl,by rw[<-HPE.out];exact hG2⟩⟩
   exact⟨rfl,C2,HKF.out.trans CR,.inr ⟨c,rfl,hX⟩⟩
end Bt
end
end Go.Proofs.YthhhfcdakfbpkaaGreatDoor
