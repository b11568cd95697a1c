/- Parts of the proof -/
import Derived.Test.YthhhfcdakfbpkaaGreatDoorP7
namespace Go.Proofs.YthhhfcdakfbpkaaGreatDoor
set_option linter.unusedSimpArgs false
set_option linter.unusedVariables false
set_option maxRecDepth 100000
set_option maxHeartbeats 16000000
open Go.RowKit
namespace Mn
def CO(v:Mg.V):Prop:=(-9223372036854775808<=v.int/\v.int<=9223372036854775807)/\v.text.length<=100000
theorem value_bin(cs:Mg.ax)(row:List Mg.V)(k:Nat)(a b:Px.E)(hk:23<=k/\k<=36)(sv rv:Value)(iha:∀(w:World),aL w sv cs->dM w rv row->Calls Tryz.prog 147 #[sv,ev a,rv] w (fQ w (Mg.value cs row a)))(ihb:∀(w:World),aL w sv cs->dM w rv row->Calls Tryz.prog 147 #[sv,ev b,rv] w (fQ w (Mg.value cs row b)))
   (hfa:∀v,Mg.value cs row a=.ok v->CO v) (hfb:∀v,Mg.value cs row b=.ok v->CO v)
   (w:World) (hC:aL w sv cs) (hR:dM w rv row):Calls Tryz.prog 147 #[sv,ev (.bin k a b),rv] w (fQ w (Mg.value cs row (.bin k a b))):=by
 obtain⟨et,ex,hea⟩:=fZ a;obtain⟨ft,fx,heb⟩:=fZ b;rw[hea]at iha;rw[heb]at ihb;have HA:=hd iha;have HB:=hd ihb;have HFA:=hd hfa;have HFB:=hd hfb;have HKK:=hd hk;have a1:=og (.int .i64 (k:Int)) (.iface et ex) (.iface ft fx);have a2:=kQ (.int .i64 (k:Int)) (.iface et ex) (.iface ft fx);have a3:=kK (.int .i64 (k:Int)) (.iface et ex) (.iface ft fx);have a4:=jU (.int .i64 (k:Int)) (.iface et ex) (.iface ft fx);have a5:=jg (.int .i64 (k:Int)) (.iface et ex) (.iface ft fx);have a6:=iw (.int .i64 (k:Int)) (.iface et ex) (.iface ft fx)
 have HV:Hid (Mg.value cs row (.bin k a b)=match Mg.value cs row a with
  |.error c=> .error c
  |.ok v=>match Mg.value cs row b with
   |.error c=> .error c
   |.ok u=>Mg.Fp k v u):=rfl
 unfold ev;rw[hea,heb]
 have HB0:Hid (Below w.heap.size w ((w.alloc (.cells #[.int .i64 0,.int .i64 0,.string ⟨#[]⟩] 39)).alloc (.cells #[.int .i64 (k:Int),.iface et ex,.iface ft fx] 294))):=by show Below _ _ _;go_grown
 have HC0:=hd (hC.below HB0.out);have HW0:=hd (hR.below HB0.out);have HK0:=hd ((af.new w #[.int .i64 0,.int .i64 0,.string ⟨#[]⟩] 39).alloc (.cells #[.int .i64 (k:Int),.iface et ex,.iface ft fx] 294));have HN0:=hd (af.new (w.alloc (.cells #[.int .i64 0,.int .i64 0,.string ⟨#[]⟩] 39)) #[.int .i64 (k:Int),.iface et ex,.iface ft fx] 294);rw[World.size_alloc]at HN0;clear hea heb iha ihb hC hR hfa hfb hk;go_enter Tryz.func147,Tryz.ntmps147;go_wp2_with fail;generalize (w.alloc (.cells #[.int .i64 0,.int .i64 0,.string ⟨#[]⟩] 39)).alloc (.cells #[.int .i64 (k:Int),.iface et ex,.iface ft fx] 294)=W at*;refine(HA.out _ HC0.out HW0.out).mono ?_;rintro x w1 ⟨hb,hx⟩;have HB1:Hid (Below w.heap.size w w1):=HB0.out.trans (hb.mono HB0.out.size);have HC1:=hd (HC0.out.below hb);have HW1:=hd (HW0.out.below hb);have HK1:=hd (HK0.out.below hb HK0.out.lt);have HN1:=hd (HN0.out.below hb HN0.out.lt);have HX:=hd hx;clear hb hx HK0 HN0 HA HC0 HW0
 cases hva:Mg.value cs row a with
 |error c=>
  rw[hva]at HX HV;obtain rfl:=HX.out;exact⟨rfl,HB1.out,by rw[HV.out];rfl⟩
 |ok v=>
  have hf1:=HFA.out v hva;rw[hva]at HX HV;obtain rfl:=HX.out;clear HX hva HFA;obtain⟨lk,lz,lt⟩:=v;have HF1:=hd hf1;clear hf1
  try unfold vV
  go_wp2_with fail;have HB2:Hid (Below w.heap.size w (w1.alloc (.cells #[.int .i64 lk,.int .i64 lz,.string ⟨lt.toArray⟩] 39))):=HB1.out.alloc HB1.out.size _
  have hba:Below w1.heap.size w1 (w1.alloc (.cells #[.int .i64 lk,.int .i64 lz,.string ⟨lt.toArray⟩] 39)):=by go_grown
  have HC2:=hd (HC1.out.below hba);have HW2:=hd (HW1.out.below hba);have HK2:=hd (HK1.out.alloc (.cells #[.int .i64 lk,.int .i64 lz,.string ⟨lt.toArray⟩] 39));have HN2:=hd (HN1.out.alloc (.cells #[.int .i64 lk,.int .i64 lz,.string ⟨lt.toArray⟩] 39));have HL2:=hd (af.new w1 #[.int .i64 lk,.int .i64 lz,.string ⟨lt.toArray⟩] 39);have hlm:=HN1.out.lt;clear HK1 HN1 HB1 HC1 HW1 hba;generalize hW2:w1.alloc (.cells #[.int .i64 lk,.int .i64 lz,.string ⟨lt.toArray⟩] 39)=W2 at*;clear hW2;generalize w1.heap.size=m at*;have p0:=HN2.out.cell 0;have p2:=HN2.out.cell 2;have l0:=HL2.out.cell 0;have l1:=HL2.out.cell 1;have l2:=HL2.out.cell 2;simp at p0 p2 l0 l1 l2
  go_region_with (first
      |(go_at_call 201
        refine(Cj k ⟨lk,lz,lt⟩ u _ HKK.out HF1.out.1 hf2.1 HF1.out.2 hf2.2).mono ?_;rintro x w4 ⟨hb4,hx4⟩;have HB4:=hd (HB3.out.trans (hb4.mono HB3.out.size));have K4:=K3.below hb4 K3.lt;have N4:=N3.below hb4 N3.lt;have L4:=L3.below hb4 L3.lt;rcases har:Mg.Fp k ⟨lk,lz,lt⟩ u with c|z
        · rw[har]at hx4 HV;obtain rfl:=hx4;exact⟨rfl,HB4.out,by rw[HV.out];rfl⟩
        rw[har]at hx4 HV;obtain rfl:=hx4;obtain⟨zk,zz,zt⟩:=z;have r0:=N4.cell 0;have r2:=N4.cell 2;have n0:=L4.cell 0;have n1:=L4.cell 1;have n2:=L4.cell 2;have e0:=K4.cell 0;have e1:=K4.cell 1;have e2:=K4.cell 2;simp at r0 r2 n0 n1 n2 e0 e1 e2;have f0:=K4.free 0;have f1:=K4.free 1;have f2:=K4.free 2;have hl4:=K4.lt;have S:=(((K4.set 0 (.int .i64 zk)).set 1 (.int .i64 zz)).set 2 (.string ⟨zt.toArray⟩));have s0:=S.cell 0;have s1:=S.cell 1;have s2:=S.cell 2;simp at s0 s1 s2;clear hb4 har S
        try unfold vV)
      |(go_at_call 147
        refine(HB.out _ (show aL (World.drew _) sv cs from HC2.out) HW2.out.drew).mono ?_;rintro x w3 ⟨hb3,hx3⟩;have HB3:=hd (HB2.out.drew.trans (hb3.mono HB2.out.size));have K3:=HK2.out.drew.below hb3 HK2.out.lt;have N3:=HN2.out.drew.below hb3 HN2.out.lt;have L3:=HL2.out.drew.below hb3 HL2.out.lt;rcases hvb:Mg.value cs row b with c|u
        · rw[hvb]at hx3 HV;obtain rfl:=hx3;exact⟨rfl,HB3.out,by rw[HV.out];rfl⟩
        have hf2:=HFB.out u hvb;rw[hvb]at hx3 HV;obtain rfl:=hx3;have q0:=N3.cell 0;have q2:=N3.cell 2;have m0:=L3.cell 0;have m1:=L3.cell 1;have m2:=L3.cell 2;simp at q0 q2 m0 m1 m2
        clear HB hb3 hvb HFB))
  all_goals
   go_wp2_with fail;refine bodyPost_ret (v:=.agg #[.int .i64 zk,.int .i64 zz,.string ⟨zt.toArray⟩]) (by simp[results,Tryz.results147,go_sem,s0,s1,s2]) rfl ?_;refine⟨((HB4.out.setCell (p:=⟨w.heap.size,0,none⟩) (by simp) _).setCell (p:=⟨w.heap.size,1,none⟩) (by simp) _).setCell (p:=⟨w.heap.size,2,none⟩) (by simp) _,?_⟩;rw[HV.out];rfl
end Mn
end Go.Proofs.YthhhfcdakfbpkaaGreatDoor
