/- Parts of the proof -/
import Derived.Test.YthhhfcdakfbpkaaGreatDoorO9
namespace Go.Proofs.YthhhfcdakfbpkaaGreatDoor
set_option linter.unusedSimpArgs false
set_option linter.unusedVariables false
set_option maxRecDepth 100000
set_option maxHeartbeats 16000000
open Go.RowKit
namespace Mg
def dN(cs:ax):Prop:=cs.length<=1000/\∀c∈cs,c.2=1\/c.2=2\/c.2=3\/c.2=5\/c.2=6\/c.2=7
end Mg
namespace Mn
theorem aM.drew{w:World}{v:Value}{cs:Mg.ax}(h:aM w v cs):aM w.drew v cs:=h
theorem type_any(cs:Mg.ax)(hcs:Mg.dN cs)(sv:Value)(e:Px.E):e.ok 2000->Mg.knows cs e=true->∀(w:World),aM w sv cs->Calls Tryz.prog 145 #[sv,ev e] w (EE w (Mg.typ cs e)):=by
 induction e with
 |null=>
  intro _ _ w hC;clear hC;have a1:=sW;have a2:=pI;have a3:=nU;have a4:=nD;have a5:=kU;have a6:=kr;unfold ev;go_enter Tryz.func145,Tryz.ntmps145;go_wp2_with fail;go_ret;exact⟨by go_grown,rfl⟩
 |bool z=>
  intro _ _ w hC;clear hC;have a1:=mW (.bool z);unfold ev;go_enter Tryz.func145,Tryz.ntmps145;go_wp2_with fail;go_ret;exact⟨by go_grown,rfl⟩
 |num z=>
  intro _ _ w hC;clear hC;have a1:=oO (.int .i64 z);have a2:=lQ (.int .i64 z);unfold ev;go_enter Tryz.func145,Tryz.ntmps145;go_wp2_with fail;go_ret;exact⟨by go_grown,rfl⟩
 |str z=>
  intro _ _ w hC;clear hC;have a1:=oz (.string ⟨z.toArray⟩);have a2:=lJ (.string ⟨z.toArray⟩);have a3:=kY (.string ⟨z.toArray⟩);unfold ev;go_enter Tryz.func145,Tryz.ntmps145;go_wp2_with fail;go_ret;exact⟨by go_grown,rfl⟩
 |nm s=>
  intro _ hkn w hC;obtain⟨i,hi⟩:∃i,Mg.place cs s=some i:=Option.isSome_iff_exists.1 hkn;have hil:=Mg.sZ hi;have a1:=tQ (.string ⟨s.toArray⟩);have a2:=ou (.string ⟨s.toArray⟩);have a3:=oN (.string ⟨s.toArray⟩);have a4:=nC (.string ⟨s.toArray⟩)
  have HB0:Hid (Below w.heap.size w (w.alloc (.cells #[.string ⟨s.toArray⟩] 271))):=by show Below _ _ _;go_grown
  have HC0:=hd (hC.below HB0.out);have HP:=hd (qm cs s sv _ hcs.1 HC0.out)
  have hpi:Mg.fJ cs s=(i:Int):=by unfold Mg.fJ;rw[hi]
  rw[hpi]at HP
  have HT:Hid (Mg.typ cs (.nm s)=.ok (cs[i].2%4)):=by
   show _=_;simp only[Mg.typ,hi];rw[List.getElem?_eq_getElem hil]
   rfl
  have hty:=hcs.2 _ (List.getElem_mem hil);obtain⟨ao,cap,rfl,hK⟩:=hC;obtain⟨g,rfl,hg,c0,c1⟩:=hK i hil;have hin:i<cs.length:=hil
  have i1:(i:Int)<(cs.length:Int):=by omega
  have i2:(0:Int)<=(i:Int):=by omega
  have hcl:=hcs.1;generalize cs[i].2=ct at*;clear hkn hK hpi hi HC0 c0 hil;generalize cs.length=cl at*;unfold ev;go_enter Tryz.func145,Tryz.ntmps145;go_wp2_with fail;refine HP.out.mono ?_;rintro x w1 ⟨rfl,hb⟩;have HB1:Hid (Below w.heap.size w w1):=HB0.out.trans (hb.mono HB0.out.size);have d1:=(HB1.out.cell (p:=⟨g,i*2+1,none⟩) hg).trans c1;have hg1:=nlA hg HB1.out.size;clear hb HP c1;rcases hty with rfl|rfl|rfl|rfl|rfl|rfl
  all_goals
   go_wp2_with fail;go_ret;exact⟨HB1.out,by rw[HT.out];rfl⟩
 |un k a iha=>
  intro hop hkn w hC;obtain⟨et,ex,hea⟩:=gH a;have HC:=hd hC;have hA:=iha hop.2.2.2 hkn;rw[hea]at hA;have HA:=hd hA;have HU:=hd (fun t w=>rR k t w ⟨hop.1,hop.2.1⟩);have a1:=qK (.int .i64 (k:Int)) (.iface et ex);have a2:=mQ (.int .i64 (k:Int)) (.iface et ex);have a3:=mG (.int .i64 (k:Int)) (.iface et ex);have a4:=lN (.int .i64 (k:Int)) (.iface et ex);have a5:=ky (.int .i64 (k:Int)) (.iface et ex)
  have HV:Hid (Mg.typ cs (.un k a)=match Mg.typ cs a with
   |.error c=> .error c
   |.ok t=>Mg.uP k t):=rfl
  unfold ev;rw[hea];clear hA hea iha hC hop hkn
  have HB0:Hid (Below w.heap.size w (w.alloc (.cells #[.int .i64 (k:Int),.iface et ex] 292))):=by show Below _ _ _;go_grown
  have HC0:=hd (HC.out.below HB0.out);have HN0:=hd (af.new w #[.int .i64 (k:Int),.iface et ex] 292);have hl0:=HN0.out.lt;go_enter Tryz.func145,Tryz.ntmps145;go_wp2_with fail
  go_region_with (first
   |(go_at_call 195
     refine(HU.out t _).mono ?_;rintro x w2 ⟨hb2,hx2⟩;have HB2:=hd (HB1.out.trans (hb2.mono HB1.out.size));rcases hty:Mg.uP k t with c|z
     · rw[hty]at hx2 HV;obtain rfl:=hx2;exact⟨rfl,HB2.out,by rw[HV.out];rfl⟩
     rw[hty]at hx2 HV;obtain rfl:=hx2
     clear hb2 hty)
   |(go_at_call 145
     refine(HA.out _ HC0.out.drew).mono ?_;rintro x w1 ⟨hb1,hx1⟩;have HB1:=hd (HB0.out.drew.trans (hb1.mono HB0.out.size));have N1:=HN0.out.drew.below hb1 hl0;rcases hta:Mg.typ cs a with c|t
     · rw[hta]at hx1 HV;obtain rfl:=hx1;exact⟨rfl,HB1.out,by rw[HV.out];rfl⟩
     rw[hta]at hx1 HV;obtain rfl:=hx1;have q0:=N1.cell 0;have q1:=N1.cell 1;simp at q0 q1
     clear hb1 hta))
  all_goals
   go_wp2_with fail;go_ret;exact⟨HB2.out,by rw[HV.out];rfl⟩
 |bin k a b iha ihb=>
  intro hop hkn w hC;obtain⟨et,ex,hea⟩:=gH a;obtain⟨ft,fx,heb⟩:=gH b;have HC:=hd hC
  have hkk:Mg.knows cs a=true/\Mg.knows cs b=true:=by simpa[Mg.knows]using hkn
  have hA:=iha hop.2.2.1 hkk.1;have hB:=ihb hop.2.2.2 hkk.2;rw[hea]at hA;rw[heb]at hB;have HA:=hd hA;have HB:=hd hB;have HU:=hd (fun t u w=>qi k t u w ⟨hop.1,hop.2.1⟩);have a1:=oG (.int .i64 (k:Int)) (.iface et ex) (.iface ft fx);have a2:=lF (.int .i64 (k:Int)) (.iface et ex) (.iface ft fx);have a3:=lS (.int .i64 (k:Int)) (.iface et ex) (.iface ft fx);have a4:=kg (.int .i64 (k:Int)) (.iface et ex) (.iface ft fx);have a5:=jo (.int .i64 (k:Int)) (.iface et ex) (.iface ft fx);have a6:=iB (.int .i64 (k:Int)) (.iface et ex) (.iface ft fx)
  have HV:Hid (Mg.typ cs (.bin k a b)=match Mg.typ cs a with
   |.error c=> .error c
   |.ok t=>match Mg.typ cs b with
    |.error c=> .error c
    |.ok u=>Mg.typeB k t u):=rfl
  unfold ev;rw[hea,heb];clear hA hB hea heb iha ihb hC hop hkn hkk
  have HB0:Hid (Below w.heap.size w (w.alloc (.cells #[.int .i64 (k:Int),.iface et ex,.iface ft fx] 294))):=by show Below _ _ _;go_grown
  have HC0:=hd (HC.out.below HB0.out);have HN0:=hd (af.new w #[.int .i64 (k:Int),.iface et ex,.iface ft fx] 294);have hl0:=HN0.out.lt;go_enter Tryz.func145,Tryz.ntmps145;go_wp2_with fail
  go_region_with (first
   |(go_at_call 196
     refine(HU.out t u _).mono ?_;rintro x w3 ⟨hb3,hx3⟩;have HB3:=hd (HB2.out.trans (hb3.mono HB2.out.size));rcases hty:Mg.typeB k t u with c|z
     · rw[hty]at hx3 HV;obtain rfl:=hx3;exact⟨rfl,HB3.out,by rw[HV.out];rfl⟩
     rw[hty]at hx3 HV;obtain rfl:=hx3
     clear hb3 hty)
   |(go_at_call 145
     refine(HA.out _ HC0.out.drew).mono ?_;rintro x w1 ⟨hb1,hx1⟩;have HB1:=hd (HB0.out.drew.trans (hb1.mono HB0.out.size));have HC1:=hd (HC0.out.drew.below hb1);have N1:=HN0.out.drew.below hb1 hl0;rcases hta:Mg.typ cs a with c|t
     · rw[hta]at hx1 HV;obtain rfl:=hx1;exact⟨rfl,HB1.out,by rw[HV.out];rfl⟩
     rw[hta]at hx1 HV;obtain rfl:=hx1;have q0:=N1.cell 0;have q1:=N1.cell 1;have q2:=N1.cell 2;simp at q0 q1 q2
     clear hb1 hta HA)
   |(go_at_call 145
     refine(HB.out _ HC1.out).mono ?_;rintro x w2 ⟨hb2,hx2⟩;have HB2:=hd (HB1.out.trans (hb2.mono HB1.out.size));have N2:=N1.below hb2 N1.lt;rcases htb:Mg.typ cs b with c|u
     · rw[htb]at hx2 HV;obtain rfl:=hx2;exact⟨rfl,HB2.out,by rw[HV.out];rfl⟩
     rw[htb]at hx2 HV;obtain rfl:=hx2;have s0:=N2.cell 0;have s1:=N2.cell 1;have s2:=N2.cell 2;simp at s0 s1 s2
     clear hb2 htb HB))
  all_goals
   go_wp2_with fail;go_ret;exact⟨HB3.out,by rw[HV.out];rfl⟩
end Mn
end Go.Proofs.YthhhfcdakfbpkaaGreatDoor
