/- Parts of the proof: De -/
import Derived.Test.YtaiebhhommgnbaaGreatDoorZ8
namespace Go.Proofs.YtaiebhhommgnbaaGreatDoor
set_option linter.unusedSimpArgs false
set_option linter.unusedVariables false
set_option maxRecDepth 100000
set_option maxHeartbeats 16000000
open Go.RowKit
namespace Mn
theorem value_ar (e : Px.E) : ∀ (he : Mg.Ar e) (sv rv : Value) (w : World), Calls Tryz.prog 121 #[sv, ev e, rv] w (ValOut w (Mg.val e)) := by
 induction e with
 | num z =>
  intro he sv rv w
  have a1 := taNumberBool (.int .i64 z)
  have a2 := taNumberNumber (.int .i64 z)
  have HK := hd ((Blk.new w #[.int .i64 0, .int .i64 0, .string ⟨#[]⟩] 24).alloc (.cells #[.int .i64 z] 269))
  have HB0 : Hid (Below w.heap.size w ((w.alloc (.cells #[.int .i64 0, .int .i64 0, .string ⟨#[]⟩] 24)).alloc (.cells #[.int .i64 z] 269))) := by show Below _ _ _; go_grown
  unfold ev
  go_enter Tryz.func121, Tryz.ntmps121
  go_wp2_with fail
  refine (number_any z _).mono ?_
  rintro x w1 ⟨rfl, hb⟩
  have HB1 : Hid (Below w.heap.size w w1) := HB0.out.trans (hb.mono HB0.out.size)
  have K1 := HK.out.below hb HK.out.lt
  have e0 := K1.cell 0
  have e1 := K1.cell 1
  have e2 := K1.cell 2
  simp at e0 e1 e2
  have f0 := K1.free 0
  have f1 := K1.free 1
  have f2 := K1.free 2
  have hl := K1.lt
  clear hb K1
  go_wp2_with fail
  refine bodyPost_ret (v := .agg #[.int .i64 16, .int .i64 z, .string ⟨#[]⟩]) (by simp [results, Tryz.results121, go_sem, e0, e1, e2]) rfl ?_
  exact ⟨((HB1.out.setCell (p := ⟨w.heap.size, 0, none⟩) (by simp) _).setCell (p := ⟨w.heap.size, 1, none⟩) (by simp) _).setCell (p := ⟨w.heap.size, 2, none⟩) (by simp) _, rfl⟩
 | bin k a b iha ihb =>
  intro he sv rv w
  obtain ⟨et, ex, hea⟩ := ev_iface a
  obtain ⟨ft, fx, heb⟩ := ev_iface b
  have hA := iha he.2.1
  have hB := ihb he.2.2
  rw [hea] at hA
  rw [heb] at hB
  have HA := hd hA
  have HB := hd hB
  have HFA := hd (fun y => Mg.val_fit a y he.2.1)
  have HFB := hd (fun y => Mg.val_fit b y he.2.2)
  have hk := he.1
  have a1 := taBinaryBool (.int .i64 (k : Int)) (.iface et ex) (.iface ft fx)
  have a2 := taBinaryNumber (.int .i64 (k : Int)) (.iface et ex) (.iface ft fx)
  have a3 := taBinaryString (.int .i64 (k : Int)) (.iface et ex) (.iface ft fx)
  have a4 := taBinaryName (.int .i64 (k : Int)) (.iface et ex) (.iface ft fx)
  have a5 := taBinaryUnary (.int .i64 (k : Int)) (.iface et ex) (.iface ft fx)
  have a6 := taBinaryBinary (.int .i64 (k : Int)) (.iface et ex) (.iface ft fx)
  have HV : Hid (Mg.val (.bin k a b) = match Mg.val a with
   | .error c => .error c
   | .ok x => match Mg.val b with
    | .error c => .error c
    | .ok y => Mg.arith k x y) := rfl
  unfold ev
  rw [hea, heb]
  clear hA hB hea heb iha ihb he
  have HK0 := hd ((Blk.new w #[.int .i64 0, .int .i64 0, .string ⟨#[]⟩] 24).alloc (.cells #[.int .i64 (k : Int), .iface et ex, .iface ft fx] 265))
  have HN0 := hd (Blk.new (w.alloc (.cells #[.int .i64 0, .int .i64 0, .string ⟨#[]⟩] 24)) #[.int .i64 (k : Int), .iface et ex, .iface ft fx] 265)
  have HB0 : Hid (Below w.heap.size w ((w.alloc (.cells #[.int .i64 0, .int .i64 0, .string ⟨#[]⟩] 24)).alloc (.cells #[.int .i64 (k : Int), .iface et ex, .iface ft fx] 265))) := by show Below _ _ _; go_grown
  have hk1 : (w.alloc (.cells #[.int .i64 0, .int .i64 0, .string ⟨#[]⟩] 24)).heap.size = w.heap.size + 1 := by simp
  rw [hk1] at HN0
  clear hk1
  go_enter Tryz.func121, Tryz.ntmps121
  go_wp2_with fail
  generalize (w.alloc (.cells #[.int .i64 0, .int .i64 0, .string ⟨#[]⟩] 24)).alloc (.cells #[.int .i64 (k : Int), .iface et ex, .iface ft fx] 265) = W at *
  refine (HA.out _ _ _).mono ?_
  rintro x w1 ⟨hb, hx⟩
  have HB1 : Hid (Below w.heap.size w w1) := HB0.out.trans (hb.mono HB0.out.size)
  have HK1 := hd (HK0.out.below hb HK0.out.lt)
  have HN1 := hd (HN0.out.below hb HN0.out.lt)
  have HX := hd hx
  clear hb hx HK0 HN0 HA
  cases hva : Mg.val a with
  | error c =>
   rw [hva] at HX HV
   obtain rfl := HX.out
   exact ⟨rfl, HB1.out, by rw [HV.out]; rfl⟩
  | ok x1 =>
   have hf1 := HFA.out x1 hva
   rw [hva] at HX HV
   obtain rfl := HX.out
   clear HX hva HFA
   go_wp2_with fail
   have HK2 := hd (HK1.out.alloc (.cells #[.int .i64 16, .int .i64 x1, .string ⟨#[]⟩] 24))
   have HN2 := hd (HN1.out.alloc (.cells #[.int .i64 16, .int .i64 x1, .string ⟨#[]⟩] 24))
   have HL2 := hd (Blk.new w1 #[.int .i64 16, .int .i64 x1, .string ⟨#[]⟩] 24)
   have HB2 : Hid (Below w.heap.size w (w1.alloc (.cells #[.int .i64 16, .int .i64 x1, .string ⟨#[]⟩] 24))) := HB1.out.alloc HB1.out.size _
   have hlm := HN1.out.lt
   clear HK1 HN1 HB1
   generalize hW2 : w1.alloc (.cells #[.int .i64 16, .int .i64 x1, .string ⟨#[]⟩] 24) = W2 at *
   clear hW2
   generalize w1.heap.size = m at *
   have p0 := HN2.out.cell 0
   have p2 := HN2.out.cell 2
   have l0 := HL2.out.cell 0
   have l1 := HL2.out.cell 1
   have l2 := HL2.out.cell 2
   simp at p0 p2 l0 l1 l2
   go_region_with (first
       | (go_at_call 168
          refine (binary_ar k x1 y _ hk hf1 hf2).mono ?_
          rintro x w4 ⟨hb4, hx4⟩
          have HB4 := hd (HB3.out.trans (hb4.mono HB3.out.size))
          have K4 := K3.below hb4 K3.lt
          have N4 := N3.below hb4 N3.lt
          have L4 := L3.below hb4 L3.lt
          rcases har : Mg.arith k x1 y with c | z
          · rw [har] at hx4 HV
            obtain rfl := hx4
            exact ⟨rfl, HB4.out, by rw [HV.out]; rfl⟩
          rw [har] at hx4 HV
          obtain rfl := hx4
          have r0 := N4.cell 0
          have r2 := N4.cell 2
          have n0 := L4.cell 0
          have n1 := L4.cell 1
          have n2 := L4.cell 2
          have e0 := K4.cell 0
          have e1 := K4.cell 1
          have e2 := K4.cell 2
          simp at r0 r2 n0 n1 n2 e0 e1 e2
          have f0 := K4.free 0
          have f1 := K4.free 1
          have f2 := K4.free 2
          have hl4 := K4.lt
          clear hb4 har)
       | (go_at_call 121
          refine (HB.out _ _ _).mono ?_
          rintro x w3 ⟨hb3, hx3⟩
          have HB3 := hd (HB2.out.drew.trans (hb3.mono HB2.out.size))
          have K3 := HK2.out.drew.below hb3 HK2.out.lt
          have N3 := HN2.out.drew.below hb3 HN2.out.lt
          have L3 := HL2.out.drew.below hb3 HL2.out.lt
          rcases hvb : Mg.val b with c | y
          · rw [hvb] at hx3 HV
            obtain rfl := hx3
            exact ⟨rfl, HB3.out, by rw [HV.out]; rfl⟩
          rw [hvb] at hx3 HV
          obtain rfl := hx3
          have hf2 := HFB.out y hvb
          have q0 := N3.cell 0
          have q2 := N3.cell 2
          have m0 := L3.cell 0
          have m1 := L3.cell 1
          have m2 := L3.cell 2
          simp at q0 q2 m0 m1 m2
          clear HB hb3 hvb HFB))
   all_goals
    go_wp2_with fail
    refine bodyPost_ret (v := .agg #[.int .i64 16, .int .i64 z, .string ⟨#[]⟩]) (by simp [results, Tryz.results121, go_sem, e0, e1, e2]) rfl ?_
    exact ⟨((HB4.out.setCell (p := ⟨w.heap.size, 0, none⟩) (by simp) _).setCell (p := ⟨w.heap.size, 1, none⟩) (by simp) _).setCell (p := ⟨w.heap.size, 2, none⟩) (by simp) _, by rw [HV.out]⟩
 | _ => intro he; exact he.elim
end Mn
end Go.Proofs.YtaiebhhommgnbaaGreatDoor
