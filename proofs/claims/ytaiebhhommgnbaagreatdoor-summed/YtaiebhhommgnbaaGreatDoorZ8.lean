/- Parts of the proof: Da Db Dt Dc Dd -/
import Derived.Test.YtaiebhhommgnbaaGreatDoorZ1
import Derived.Test.YtaiebhhommgnbaaGreatDoorZ2
import Derived.Test.YtaiebhhommgnbaaGreatDoorZ4
import Derived.Deep.CutRange
namespace Go.Proofs.YtaiebhhommgnbaaGreatDoor
set_option linter.unusedSimpArgs false
set_option linter.unusedVariables false
set_option maxRecDepth 100000
set_option maxHeartbeats 16000000
open Go.RowKit
section
namespace Mg
open Lx (Bs)
structure V where
 kind : Int
 int : Int
 text : Bs
def fit (z : Int) : Bool := decide (-9223372036854775808 ≤ z ∧ z ≤ 9223372036854775807)
def ck (z : Int) : Except Nat Int := if fit z = true then .ok z else .error 12
def arith (k : Nat) (a b : Int) : Except Nat Int :=
 if k = 32 then ck (a + b)
 else if k = 33 then ck (a - b)
 else if k = 34 then ck (a * b)
 else if b = 0 then .error 13
 else if k = 35 then ck (a.tdiv b)
 else .ok (a.tmod b)
theorem fit_iff (z : Int) : fit z = true ↔ -9223372036854775808 ≤ z ∧ z ≤ 9223372036854775807 := by simp [fit]
theorem ck_ok {z : Int} (h1 : -9223372036854775808 ≤ z) (h2 : z ≤ 9223372036854775807) : ck z = .ok z := by
 unfold ck; rw [if_pos ((fit_iff z).2 ⟨h1, h2⟩)]
theorem ck_no {z : Int} (h : z < -9223372036854775808 ∨ 9223372036854775807 < z) : ck z = .error 12 := by
 unfold ck; rw [if_neg (by rw [fit_iff]; omega)]
theorem mul_back {a b w : Int} (ha : a ≠ 0) (hb : -9223372036854775808 ≤ a ∧ a ≤ 9223372036854775807) (k : Int) (hw : w = a * b + k * 18446744073709551616) (hk : k ≠ 0) : w.tdiv a ≠ b := by
 intro h
 have h1 := Int.mul_tdiv_add_tmod w a
 rw [h, hw] at h1
 have h2 : (a * b + k * 18446744073709551616).tmod a = k * 18446744073709551616 := by omega
 have h3 : ((a * b + k * 18446744073709551616).tmod a).natAbs < a.natAbs := by rw [Int.natAbs_tmod]; exact Nat.mod_lt _ (by omega)
 rw [h2] at h3
 have h4 : (k * 18446744073709551616).natAbs = k.natAbs * 18446744073709551616 := Int.natAbs_mul _ _
 omega
theorem mul_same {a b : Int} (ha : a ≠ 0) : (a * b).tdiv a = b := Int.mul_tdiv_cancel_left b ha
theorem div_fit {a b : Int} (ha : -9223372036854775808 ≤ a ∧ a ≤ 9223372036854775807) (hb : b ≠ 0) (h : ¬(a = -9223372036854775808 ∧ b = -1)) : -9223372036854775808 ≤ a.tdiv b ∧ a.tdiv b ≤ 9223372036854775807 := by
 have h1 : (a.tdiv b).natAbs = a.natAbs / b.natAbs := Int.natAbs_tdiv a b
 have h2 : 1 ≤ b.natAbs := by omega
 have h3 : a.natAbs / b.natAbs ≤ a.natAbs := Nat.div_le_self _ _
 by_cases hm : a = -9223372036854775808
 · by_cases h1' : b.natAbs = 1
   · have hb1 : b = 1 := by omega
     subst hb1 hm
     decide
   · have h4 : a.natAbs / b.natAbs ≤ a.natAbs / 2 := Nat.div_le_div_left (by omega) (by omega)
     omega
 · omega
end Mg
end
namespace Mn
def NumOut (w : World) (r : Except Nat Int) (e : Ending) (w' : World) : Prop := Below w.heap.size w w' ∧ match r with
 | .ok z => e = .returned (.int .i64 z)
 | .error c => e = Flt 0 c
theorem must_true (c : Int) (w : World) : Calls Tryz.prog 215 #[.bool true, .int .i64 c] w fun x w' => x = .returned (.tuple #[]) ∧ w' = w := by
 go_enter Tryz.func215, Tryz.ntmps215
 go_wp2
 go_end0
 exact ⟨rfl, rfl⟩
theorem must_false (c : Nat) (w : World) : Calls Tryz.prog 215 #[.bool false, .int .i64 (c : Int)] w fun x w' => x = Flt 0 c ∧ Below w.heap.size w w' := by
 go_enter Tryz.func215, Tryz.ntmps215
 go_wp2
 exact ⟨rfl, rfl, Below.refl _ _⟩
theorem must_12 (w : World) : Calls Tryz.prog 215 #[.bool false, .int .i64 12] w fun x w' => x = Flt 0 12 ∧ Below w.heap.size w w' := must_false 12 w
theorem must_13 (w : World) : Calls Tryz.prog 215 #[.bool false, .int .i64 13] w fun x w' => x = Flt 0 13 ∧ Below w.heap.size w w' := must_false 13 w
theorem negative_any (a : Int) (w : World) (ha : -9223372036854775808 ≤ a ∧ a ≤ 9223372036854775807) :
   Calls Tryz.prog 216 #[.int .i64 a] w (NumOut w (Mg.ck (-a))) := by
 by_cases h : a = -9223372036854775808
 · have q1 : (a != -9223372036854775808) = false := by simpa using h
   have q2 : (a == -9223372036854775808) = true := by simpa using h
   have HR := hd (Mg.ck_no (z := -a) (by omega))
   clear h
   go_enter Tryz.func216, Tryz.ntmps216
   go_wp2_with fail
   refine (must_12 _).mono ?_
   rintro x w1 ⟨rfl, hb1⟩
   exact ⟨rfl, hb1, by rw [HR.out]; rfl⟩
 · have q1 : (a != -9223372036854775808) = true := by simpa using h
   have q2 : (a == -9223372036854775808) = false := by simpa using h
   have HR := hd (Mg.ck_ok (z := -a) (by omega) (by omega))
   have ha2 : -9223372036854775807 ≤ a := by omega
   clear h
   go_enter Tryz.func216, Tryz.ntmps216
   go_wp2_with fail
   refine (must_true _ _).mono ?_
   rintro x w1 ⟨rfl, rfl⟩
   go_wp2_with fail
   go_ret
   exact ⟨Below.refl _ _, by rw [HR.out]; rfl⟩
theorem sum_any (a b : Int) (w : World) (ha : -9223372036854775808 ≤ a ∧ a ≤ 9223372036854775807) (hb : -9223372036854775808 ≤ b ∧ b ≤ 9223372036854775807) :
   Calls Tryz.prog 262 #[.int .i64 a, .int .i64 b] w (NumOut w (Mg.ck (a + b))) := by
 by_cases h0 : 0 < b
 · have z0 : decide (0 < b) = true := decide_eq_true h0
   by_cases h : a ≤ 9223372036854775807 - b
   · have z1 : decide (a ≤ 9223372036854775807 - b) = true := decide_eq_true h
     have HR := hd (Mg.ck_ok (z := a + b) (by omega) (by omega))
     go_enter Tryz.func262, Tryz.ntmps262
     go_wp2_with fail
     refine (must_true _ _).mono ?_
     rintro x w1 ⟨rfl, rfl⟩
     go_wp2_with fail
     go_ret
     exact ⟨Below.refl _ _, by rw [HR.out]; rfl⟩
   · have z1 : decide (a ≤ 9223372036854775807 - b) = false := decide_eq_false h
     have HR := hd (Mg.ck_no (z := a + b) (by omega))
     go_enter Tryz.func262, Tryz.ntmps262
     go_wp2_with fail
     refine (must_12 _).mono ?_
     rintro x w1 ⟨rfl, hb1⟩
     exact ⟨rfl, hb1, by rw [HR.out]; rfl⟩
 · have z0 : decide (0 < b) = false := decide_eq_false (by omega)
   by_cases h : -9223372036854775808 - b ≤ a
   · have z1 : decide (-9223372036854775808 - b ≤ a) = true := decide_eq_true h
     have HR := hd (Mg.ck_ok (z := a + b) (by omega) (by omega))
     go_enter Tryz.func262, Tryz.ntmps262
     go_wp2_with fail
     refine (must_true _ _).mono ?_
     rintro x w1 ⟨rfl, rfl⟩
     go_wp2_with fail
     go_ret
     exact ⟨Below.refl _ _, by rw [HR.out]; rfl⟩
   · have z1 : decide (-9223372036854775808 - b ≤ a) = false := decide_eq_false h
     have HR := hd (Mg.ck_no (z := a + b) (by omega))
     go_enter Tryz.func262, Tryz.ntmps262
     go_wp2_with fail
     refine (must_12 _).mono ?_
     rintro x w1 ⟨rfl, hb1⟩
     exact ⟨rfl, hb1, by rw [HR.out]; rfl⟩
theorem difference_any (a b : Int) (w : World) (ha : -9223372036854775808 ≤ a ∧ a ≤ 9223372036854775807) (hb : -9223372036854775808 ≤ b ∧ b ≤ 9223372036854775807) :
   Calls Tryz.prog 263 #[.int .i64 a, .int .i64 b] w (NumOut w (Mg.ck (a - b))) := by
 by_cases h0 : 0 < b
 · have z0 : decide (0 < b) = true := decide_eq_true h0
   by_cases h : -9223372036854775808 + b ≤ a
   · have z1 : decide (-9223372036854775808 + b ≤ a) = true := decide_eq_true h
     have HR := hd (Mg.ck_ok (z := a - b) (by omega) (by omega))
     go_enter Tryz.func263, Tryz.ntmps263
     go_wp2_with fail
     refine (must_true _ _).mono ?_
     rintro x w1 ⟨rfl, rfl⟩
     go_wp2_with fail
     go_ret
     exact ⟨Below.refl _ _, by rw [HR.out]; rfl⟩
   · have z1 : decide (-9223372036854775808 + b ≤ a) = false := decide_eq_false h
     have HR := hd (Mg.ck_no (z := a - b) (by omega))
     go_enter Tryz.func263, Tryz.ntmps263
     go_wp2_with fail
     refine (must_12 _).mono ?_
     rintro x w1 ⟨rfl, hb1⟩
     exact ⟨rfl, hb1, by rw [HR.out]; rfl⟩
 · have z0 : decide (0 < b) = false := decide_eq_false (by omega)
   by_cases h : a ≤ 9223372036854775807 + b
   · have z1 : decide (a ≤ 9223372036854775807 + b) = true := decide_eq_true h
     have HR := hd (Mg.ck_ok (z := a - b) (by omega) (by omega))
     go_enter Tryz.func263, Tryz.ntmps263
     go_wp2_with fail
     refine (must_true _ _).mono ?_
     rintro x w1 ⟨rfl, rfl⟩
     go_wp2_with fail
     go_ret
     exact ⟨Below.refl _ _, by rw [HR.out]; rfl⟩
   · have z1 : decide (a ≤ 9223372036854775807 + b) = false := decide_eq_false h
     have HR := hd (Mg.ck_no (z := a - b) (by omega))
     go_enter Tryz.func263, Tryz.ntmps263
     go_wp2_with fail
     refine (must_12 _).mono ?_
     rintro x w1 ⟨rfl, hb1⟩
     exact ⟨rfl, hb1, by rw [HR.out]; rfl⟩
theorem wrap_in (n : Int) (h : -9223372036854775808 ≤ n ∧ n ≤ 9223372036854775807) : wrap64 n = n := by unfold wrap64; omega
theorem wrap_k (z : Int) : ∃ k : Int, wrap64 z = z + k * 18446744073709551616 ∧ -9223372036854775808 ≤ wrap64 z ∧ wrap64 z ≤ 9223372036854775807 := by
 have h : wrap64 z = (z + 9223372036854775808) % 18446744073709551616 - 9223372036854775808 := by unfold wrap64; rfl
 refine ⟨-((z + 9223372036854775808) / 18446744073709551616), ?_, ?_, ?_⟩ <;> omega
theorem product_any (a b : Int) (w : World) (ha : -9223372036854775808 ≤ a ∧ a ≤ 9223372036854775807) (hb : -9223372036854775808 ≤ b ∧ b ≤ 9223372036854775807) :
   Calls Tryz.prog 264 #[.int .i64 a, .int .i64 b] w (NumOut w (Mg.ck (a * b))) := by
 by_cases h0 : a = 0
 · subst h0
   have HR : Hid (Mg.ck (0 * b) = .ok 0) := by show _ = _; rw [Int.zero_mul]; exact Mg.ck_ok (by omega) (by omega)
   go_enter Tryz.func264, Tryz.ntmps264
   go_wp2_with fail
   go_ret
   exact ⟨Below.refl _ _, by rw [HR.out]; rfl⟩
 · by_cases h1 : a = -1
   · subst h1
     have HR : Hid (Mg.ck (-1 * b) = Mg.ck (-b)) := by show _ = _; congr 1; omega
     have HN := hd (negative_any b w hb)
     go_enter Tryz.func264, Tryz.ntmps264
     go_wp2_with fail
     refine HN.out.mono ?_
     rintro x w1 ⟨hb1, hx⟩
     have HB := hd hb1
     have HX := hd hx
     clear hb1 hx
     cases hc : Mg.ck (-b) with
     | ok z =>
      rw [hc] at HR HX
      clear hc
      obtain rfl := HX.out
      clear HX
      go_wp2_with fail
      go_ret
      exact ⟨HB.out, by rw [HR.out]; rfl⟩
     | error c =>
      rw [hc] at HR HX
      clear hc
      obtain rfl := HX.out
      clear HX
      exact ⟨rfl, HB.out, by first | rfl | (rw [HR.out]; rfl)⟩
   · obtain ⟨k, hk, hw1, hw2⟩ := wrap_k (a * b)
     have q0 : (a == 0) = false := by simpa using h0
     have q1 : (a == -1) = false := by simpa using h1
     by_cases hf : -9223372036854775808 ≤ a * b ∧ a * b ≤ 9223372036854775807
     · have HR := hd (Mg.ck_ok (z := a * b) hf.1 hf.2)
       have HE := hd (wrap_in (a * b) hf)
       have HQ : Hid ((wrap64 ((wrap64 (a * b)).tdiv a) == b) = true) := by show _ = _; rw [HE.out, Mg.mul_same h0, wrap_in b hb]; simp
       clear hk hw1 hw2 hf
       go_enter Tryz.func264, Tryz.ntmps264
       go_wp2_with fail
       rw [HQ.out]
       refine (must_true _ _).mono ?_
       rintro x w1 ⟨rfl, rfl⟩
       go_wp2_with fail
       go_ret
       exact ⟨Below.refl _ _, by rw [HR.out]; first | rfl | (rw [HE.out]; rfl) | (simp [HE.out])⟩
     · have HR := hd (Mg.ck_no (z := a * b) (by omega))
       have HQ : Hid ((wrap64 ((wrap64 (a * b)).tdiv a) == b) = false) := by
        have hne : (wrap64 (a * b)).tdiv a ≠ b := Mg.mul_back h0 ha k hk (by rintro rfl; omega)
        have hfit := Mg.div_fit ⟨hw1, hw2⟩ h0 (fun h => h1 h.2)
        show _ = _
        rw [wrap_in _ hfit]
        simpa using hne
       clear hk hw1 hw2 hf
       go_enter Tryz.func264, Tryz.ntmps264
       go_wp2_with fail
       rw [HQ.out]
       refine (must_12 _).mono ?_
       rintro x w1 ⟨rfl, hb1⟩
       exact ⟨rfl, hb1, by rw [HR.out]; rfl⟩
theorem quotient_any (a b : Int) (w : World) (ha : -9223372036854775808 ≤ a ∧ a ≤ 9223372036854775807) (hb : -9223372036854775808 ≤ b ∧ b ≤ 9223372036854775807) :
   Calls Tryz.prog 265 #[.int .i64 a, .int .i64 b] w (NumOut w (Mg.arith 35 a b)) := by
 by_cases h0 : b = 0
 · have q1 : (b != 0) = false := by simpa using h0
   have HR : Hid (Mg.arith 35 a b = .error 13) := by show _ = _; simp [Mg.arith, h0]
   clear h0
   go_enter Tryz.func265, Tryz.ntmps265
   go_wp2_with fail
   refine (must_13 _).mono ?_
   rintro x w1 ⟨rfl, hb1⟩
   exact ⟨rfl, hb1, by rw [HR.out]; rfl⟩
 · have q1 : (b != 0) = true := by simpa using h0
   have q0 : (b == 0) = false := by simpa using h0
   have HR0 : Hid (Mg.arith 35 a b = Mg.ck (a.tdiv b)) := by show _ = _; simp [Mg.arith, h0]
   by_cases h1 : a = -9223372036854775808 ∧ b = -1
   · have HR : Hid (Mg.arith 35 a b = .error 12) := by
      show _ = _
      rw [HR0.out, h1.1, h1.2]
      exact Mg.ck_no (by decide)
     have q2 : (a != -9223372036854775808) = false := by simpa using h1.1
     have q3 : (b != -1) = false := by simpa using h1.2
     clear h1 h0
     go_enter Tryz.func265, Tryz.ntmps265
     go_wp2_with fail
     refine (must_true _ _).mono ?_
     rintro x w1 ⟨rfl, rfl⟩
     go_wp2_with fail
     refine (must_12 _).mono ?_
     rintro x w1 ⟨rfl, hb1⟩
     exact ⟨rfl, hb1, by rw [HR.out]; rfl⟩
   · have hfit := Mg.div_fit ha h0 h1
     have HR : Hid (Mg.arith 35 a b = .ok (a.tdiv b)) := by show _ = _; rw [HR0.out]; exact Mg.ck_ok hfit.1 hfit.2
     have q2 : ((a != -9223372036854775808) || (b != -1)) = true := by
      rcases Classical.em (a = -9223372036854775808) with h | h
      · have : b ≠ -1 := fun e => h1 ⟨h, e⟩
        simp [this]
      · simp [h]
     have HFIT := hd hfit
     by_cases h2 : a = -9223372036854775808
     · have q3 : (a != -9223372036854775808) = false := by simpa using h2
       have q4 : (b != -1) = true := by have : b ≠ -1 := fun e => h1 ⟨h2, e⟩; simpa using this
       clear h1 h2 q2
       go_enter Tryz.func265, Tryz.ntmps265
       go_wp2_with fail
       refine (must_true _ _).mono ?_
       rintro x w1 ⟨rfl, rfl⟩
       go_wp2_with fail
       refine (must_true _ _).mono ?_
       rintro x w1 ⟨rfl, rfl⟩
       go_wp2_with fail
       go_ret
       exact ⟨Below.refl _ _, by rw [HR.out]; rfl⟩
     · have q3 : (a != -9223372036854775808) = true := by simpa using h2
       clear h1 h2 q2
       go_enter Tryz.func265, Tryz.ntmps265
       go_wp2_with fail
       refine (must_true _ _).mono ?_
       rintro x w1 ⟨rfl, rfl⟩
       go_wp2_with fail
       refine (must_true _ _).mono ?_
       rintro x w1 ⟨rfl, rfl⟩
       go_wp2_with fail
       go_ret
       exact ⟨Below.refl _ _, by rw [HR.out]; rfl⟩
theorem remainder_any (a b : Int) (w : World) (ha : -9223372036854775808 ≤ a ∧ a ≤ 9223372036854775807) (hb : -9223372036854775808 ≤ b ∧ b ≤ 9223372036854775807) :
   Calls Tryz.prog 266 #[.int .i64 a, .int .i64 b] w (NumOut w (Mg.arith 36 a b)) := by
 by_cases h0 : b = 0
 · have q1 : (b != 0) = false := by simpa using h0
   have HR : Hid (Mg.arith 36 a b = .error 13) := by show _ = _; simp [Mg.arith, h0]
   clear h0
   go_enter Tryz.func266, Tryz.ntmps266
   go_wp2_with fail
   refine (must_13 _).mono ?_
   rintro x w1 ⟨rfl, hb1⟩
   exact ⟨rfl, hb1, by rw [HR.out]; rfl⟩
 · have q1 : (b != 0) = true := by simpa using h0
   have q0 : (b == 0) = false := by simpa using h0
   have HR : Hid (Mg.arith 36 a b = .ok (a.tmod b)) := by show _ = _; simp [Mg.arith, h0]
   go_enter Tryz.func266, Tryz.ntmps266
   go_wp2_with fail
   refine (must_true _ _).mono ?_
   rintro x w1 ⟨rfl, rfl⟩
   go_wp2_with fail
   go_ret
   exact ⟨Below.refl _ _, by rw [HR.out]; rfl⟩
end Mn
namespace Mn
theorem taNumberBool (a : Value) (w : World) : (Instr.typeAssert (.iface 269 (.agg #[a])) 85 267 true).run Tryz.prog w = .ok (.tuple #[.agg #[.bool false], .bool false]) w := by kernel_rfl
theorem taNumberNumber (a : Value) (w : World) : (Instr.typeAssert (.iface 269 (.agg #[a])) 85 269 true).run Tryz.prog w = .ok (.tuple #[.agg #[a], .bool true]) w := by kernel_rfl
theorem taNumberName (a : Value) (w : World) : (Instr.typeAssert (.iface 269 (.agg #[a])) 85 238 true).run Tryz.prog w = .ok (.tuple #[.agg #[.string ⟨#[]⟩], .bool false]) w := by kernel_rfl
theorem taNumberUnary (a : Value) (w : World) : (Instr.typeAssert (.iface 269 (.agg #[a])) 85 263 true).run Tryz.prog w = .ok (.tuple #[.agg #[.int .i64 0, .nilIface], .bool false]) w := by kernel_rfl
theorem taNumberBinary (a : Value) (w : World) : (Instr.typeAssert (.iface 269 (.agg #[a])) 85 265 true).run Tryz.prog w = .ok (.tuple #[.agg #[.int .i64 0, .nilIface, .nilIface], .bool false]) w := by kernel_rfl
theorem taBinaryBool (a b c : Value) (w : World) : (Instr.typeAssert (.iface 265 (.agg #[a, b, c])) 85 267 true).run Tryz.prog w = .ok (.tuple #[.agg #[.bool false], .bool false]) w := by kernel_rfl
theorem taBinaryNumber (a b c : Value) (w : World) : (Instr.typeAssert (.iface 265 (.agg #[a, b, c])) 85 269 true).run Tryz.prog w = .ok (.tuple #[.agg #[.int .i64 0], .bool false]) w := by kernel_rfl
theorem taBinaryString (a b c : Value) (w : World) : (Instr.typeAssert (.iface 265 (.agg #[a, b, c])) 85 271 true).run Tryz.prog w = .ok (.tuple #[.agg #[.string ⟨#[]⟩], .bool false]) w := by kernel_rfl
theorem taBinaryName (a b c : Value) (w : World) : (Instr.typeAssert (.iface 265 (.agg #[a, b, c])) 85 238 true).run Tryz.prog w = .ok (.tuple #[.agg #[.string ⟨#[]⟩], .bool false]) w := by kernel_rfl
theorem taBinaryUnary (a b c : Value) (w : World) : (Instr.typeAssert (.iface 265 (.agg #[a, b, c])) 85 263 true).run Tryz.prog w = .ok (.tuple #[.agg #[.int .i64 0, .nilIface], .bool false]) w := by kernel_rfl
theorem taBinaryBinary (a b c : Value) (w : World) : (Instr.typeAssert (.iface 265 (.agg #[a, b, c])) 85 265 true).run Tryz.prog w = .ok (.tuple #[.agg #[a, b, c], .bool true]) w := by kernel_rfl
end Mn
namespace Mg
def Ar : Px.E → Prop
 | .num z => -9223372036854775808 ≤ z ∧ z ≤ 9223372036854775807
 | .bin k a b => (32 ≤ k ∧ k ≤ 36) ∧ Ar a ∧ Ar b
 | _ => False
def val : Px.E → Except Nat Int
 | .num z => .ok z
 | .bin k a b => match val a with
  | .error c => .error c
  | .ok x => match val b with
   | .error c => .error c
   | .ok y => arith k x y
 | _ => .error 0
theorem tmod_fit {a b : Int} (ha : -9223372036854775808 ≤ a ∧ a ≤ 9223372036854775807) : -9223372036854775808 ≤ a.tmod b ∧ a.tmod b ≤ 9223372036854775807 := by
 have h1 : (a.tmod b).natAbs = a.natAbs % b.natAbs := Int.natAbs_tmod a b
 have h2 : a.natAbs % b.natAbs ≤ a.natAbs := Nat.mod_le _ _
 rcases Int.lt_or_le a 0 with h | h
 · have := Int.tmod_nonneg (a := -a) b (by omega)
   rw [Int.neg_tmod] at this
   omega
 · have := Int.tmod_nonneg b h
   omega
theorem ck_fit {z y : Int} (h : ck z = .ok y) : -9223372036854775808 ≤ y ∧ y ≤ 9223372036854775807 := by
 unfold ck at h
 split at h
 · rename_i hf
   cases h
   exact (fit_iff z).1 hf
 · cases h
theorem arith_fit {k : Nat} {a b y : Int} (ha : -9223372036854775808 ≤ a ∧ a ≤ 9223372036854775807) (h : arith k a b = .ok y) : -9223372036854775808 ≤ y ∧ y ≤ 9223372036854775807 := by
 unfold arith at h
 split at h
 · exact ck_fit h
 split at h
 · exact ck_fit h
 split at h
 · exact ck_fit h
 split at h
 · cases h
 split at h
 · exact ck_fit h
 · cases h
   exact tmod_fit ha
theorem val_fit : ∀ (e : Px.E) (y : Int), Ar e → val e = .ok y → -9223372036854775808 ≤ y ∧ y ≤ 9223372036854775807
 | .num z, y, h, hv => by cases hv; exact h
 | .bin k a b, y, h, hv => by
  simp only [val] at hv
  cases ha : val a with
  | error c => rw [ha] at hv; cases hv
  | ok x =>
   cases hb : val b with
   | error c => rw [ha, hb] at hv; cases hv
   | ok z =>
    rw [ha, hb] at hv
    exact arith_fit (val_fit a x h.2.1 ha) hv
end Mg
namespace Mn
theorem calculated_any (k : Nat) (a b : Int) (w : World) (hk : 32 ≤ k ∧ k ≤ 36) (ha : -9223372036854775808 ≤ a ∧ a ≤ 9223372036854775807) (hb : -9223372036854775808 ≤ b ∧ b ≤ 9223372036854775807) :
   Calls Tryz.prog 219 #[.int .i64 (k : Int), .int .i64 a, .int .i64 b] w (NumOut w (Mg.arith k a b)) := by
 have hk' : k = 32 ∨ k = 33 ∨ k = 34 ∨ k = 35 ∨ k = 36 := by omega
 clear hk
 have h32 : Mg.arith 32 a b = Mg.ck (a + b) := by simp [Mg.arith]
 have h33 : Mg.arith 33 a b = Mg.ck (a - b) := by simp [Mg.arith]
 have h34 : Mg.arith 34 a b = Mg.ck (a * b) := by simp [Mg.arith]
 have s := sum_any a b w ha hb
 have d := difference_any a b w ha hb
 have p := product_any a b w ha hb
 rw [← h32] at s
 rw [← h33] at d
 rw [← h34] at p
 have HS := hd s
 have HD := hd d
 have HP := hd p
 have HQ := hd (quotient_any a b w ha hb)
 have HM := hd (remainder_any a b w ha hb)
 clear s d p h32 h33 h34
 rcases hk' with rfl | rfl | rfl | rfl | rfl
 all_goals
  go_enter Tryz.func219, Tryz.ntmps219
  go_wp2_with fail
  first
   | refine HS.out.mono ?_
   | refine HD.out.mono ?_
   | refine HP.out.mono ?_
   | refine HQ.out.mono ?_
   | refine HM.out.mono ?_
  rintro x w1 ⟨hb1, hx⟩
  have HB := hd hb1
  have HX := hd hx
  clear hb1 hx HS HD HP HQ HM
  generalize Mg.arith _ a b = r at *
  cases r with
  | ok z =>
   obtain rfl := HX.out
   clear HX
   go_wp2_with fail
   go_ret
   exact ⟨HB.out, rfl⟩
  | error c =>
   obtain rfl := HX.out
   clear HX
   exact ⟨rfl, HB.out, rfl⟩
theorem knows_ar (e : Px.E) : ∀ (he : Mg.Ar e) (sv : Value) (w : World), Calls Tryz.prog 117 #[sv, ev e] w fun x w' => x = .returned (.bool true) ∧ Below w.heap.size w w' := by
 induction e with
 | num z =>
  intro he sv w
  have a1 := taNumberName (.int .i64 z)
  have a2 := taNumberUnary (.int .i64 z)
  have a3 := taNumberBinary (.int .i64 z)
  unfold ev
  go_enter Tryz.func117, Tryz.ntmps117
  go_wp2_with fail
  go_ret
  exact ⟨rfl, by go_grown⟩
 | bin k a b iha ihb =>
  intro he sv w
  obtain ⟨et, ex, hea⟩ := ev_iface a
  obtain ⟨ft, fx, heb⟩ := ev_iface b
  have hA := iha he.2.1
  have hB := ihb he.2.2
  rw [hea] at hA
  rw [heb] at hB
  have HA := hd hA
  have HB := hd hB
  have a1 := taBinaryName (.int .i64 (k : Int)) (.iface et ex) (.iface ft fx)
  have a2 := taBinaryUnary (.int .i64 (k : Int)) (.iface et ex) (.iface ft fx)
  have a3 := taBinaryBinary (.int .i64 (k : Int)) (.iface et ex) (.iface ft fx)
  unfold ev
  rw [hea, heb]
  clear hA hB hea heb iha ihb he
  have hB0 : Below w.heap.size w (w.alloc (.cells #[.int .i64 (k : Int), .iface et ex, .iface ft fx] 265)) := by go_grown
  have HB0 := hd hB0
  have hs0 := hB0.size
  have HK0 := hd (Blk.new w #[.int .i64 (k : Int), .iface et ex, .iface ft fx] 265)
  have hl0 := HK0.out.lt
  clear hB0
  go_enter Tryz.func117, Tryz.ntmps117
  go_wp2_with fail
  refine (HA.out _ _).mono ?_
  rintro x w1 ⟨rfl, hb⟩
  have HB1 : Hid (Below w.heap.size w w1) := HB0.out.trans (hb.mono hs0)
  have K1 := HK0.out.below hb hl0
  have b2 := K1.cell 2
  simp at b2
  have hl1 := K1.lt
  clear hb K1
  go_wp2_with fail
  refine (HB.out _ _).mono ?_
  rintro x w2 ⟨rfl, hb⟩
  have HB2 : Hid (Below w.heap.size w w2) := HB1.out.trans (hb.mono HB1.out.size)
  clear hb
  go_wp2_with fail
  go_ret
  exact ⟨rfl, HB2.out⟩
 | _ => intro he; exact he.elim
theorem number_any (z : Int) (w : World) : Calls Tryz.prog 165 #[.int .i64 z] w fun x w' => x = .returned (.agg #[.int .i64 16, .int .i64 z, .string ⟨#[]⟩]) ∧ Below w.heap.size w w' := by
 go_enter Tryz.func165, Tryz.ntmps165
 go_wp2_with fail
 refine bodyPost_ret (v := .agg #[.int .i64 16, .int .i64 z, .string ⟨#[]⟩]) (by simp [results, Tryz.results165, go_sem]) rfl ?_
 exact ⟨rfl, by go_grown⟩
theorem isNull_any (kd z : Int) (s : ByteArray) (w : World) : Calls Tryz.prog 122 #[.agg #[.int .i64 kd, .int .i64 z, .string s]] w fun x w' => x = .returned (.bool (kd == 14)) ∧ Below w.heap.size w w' := by
 go_enter Tryz.func122, Tryz.ntmps122
 go_wp2_with fail
 go_ret
 exact ⟨rfl, by go_grown⟩
theorem fits_1 (w : World) : Calls Tryz.prog 118 #[.int .i64 1, .int .i64 1] w fun x w' => x = .returned (.bool true) ∧ w' = w := by
 go_enter Tryz.func118, Tryz.ntmps118
 go_wp2_with fail
 go_ret
 exact ⟨rfl, rfl⟩
end Mn
namespace Mn
def ValOut (w : World) (r : Except Nat Int) (x : Ending) (w' : World) : Prop := Below w.heap.size w w' ∧ match r with
 | .ok z => x = .returned (.agg #[.int .i64 16, .int .i64 z, .string ⟨#[]⟩])
 | .error c => x = Flt 0 c
theorem allOf_11 (g : Nat) (w : World) (hg : g < w.heap.size) (h0 : w.cell? ⟨g, 0, none⟩ = some (.int .i64 1)) (h1 : w.cell? ⟨g, 1, none⟩ = some (.int .i64 1)) :
   Calls Tryz.prog 214 #[.int .i64 1, .slice (some ⟨g, 0, none⟩) 2 2] w fun x w' => x = .returned (.int .i64 1) ∧ w' = w := by
 have HC : Hid (∀ k, k < 2 → w.cell? ⟨g, k, none⟩ = some (.int .i64 1)) := fun k hk => by
  rcases (show k = 0 ∨ k = 1 by omega) with rfl | rfl
  · exact h0
  · exact h1
 clear h0 h1
 go_enter Tryz.func214, Tryz.ntmps214
 go_wp2_with fail
 go_loopw [9] (fun i wr => ∃ k : Nat, k ≤ 2 ∧ i = .int .i64 k ∧ wr = w) (fun i _ => 2 - (intOf i).toNat)
 case atStart => exact ⟨0, by omega, rfl, rfl⟩
 case round =>
  obtain ⟨k, hk, rfl, rfl⟩ := hrel
  by_cases hlt : k < 2
  · have c := HC.out k hlt
    have z1 : decide ((k : Int) < 2) = true := decide_eq_true (by omega)
    have z2 : decide (k < 2) = true := decide_eq_true (by omega)
    go_wp2_with fail
    refine (fits_1 _).mono ?_
    rintro x w1 ⟨rfl, rfl⟩
    go_wp2_with fail
    refine (must_true _ _).mono ?_
    rintro x w2 ⟨rfl, rfl⟩
    go_wp2_with fail
    go_roundw
    case rel => exact ⟨k + 1, by omega, by go_num, by first | rfl | trivial⟩
    case measure => simp [intOf]; omega
  · have z1 : decide ((k : Int) < 2) = false := decide_eq_false (by omega)
    have z2 : decide (k < 2) = false := decide_eq_false (by omega)
    go_wp2_with fail
    go_ret
    exact ⟨rfl, rfl⟩
theorem typeOfBinary_ar (k : Nat) (w : World) (hk : 32 ≤ k ∧ k ≤ 36) :
   Calls Tryz.prog 163 #[.int .i64 (k : Int), .int .i64 1, .int .i64 1] w fun x w' => x = .returned (.int .i64 1) ∧ Below w.heap.size w w' := by
 have hk' : k = 32 ∨ k = 33 ∨ k = 34 ∨ k = 35 ∨ k = 36 := by omega
 clear hk
 have HB := hd (Blk.new w #[.int .i64 1, .int .i64 1] 3)
 have hl := HB.out.lt
 have HA := hd (allOf_11 w.heap.size _ hl ((HB.out.cell 0).trans rfl) ((HB.out.cell 1).trans rfl))
 have HG : Hid (Below w.heap.size w (w.alloc (.cells #[.int .i64 1, .int .i64 1] 3))) := by show Below _ _ _; go_grown
 rcases hk' with rfl | rfl | rfl | rfl | rfl
 all_goals
  go_enter Tryz.func163, Tryz.ntmps163
  go_wp2_with fail
  refine HA.out.mono ?_
  rintro x w1 ⟨rfl, rfl⟩
  go_wp2_with fail
  go_ret
  exact ⟨rfl, HG.out⟩
theorem binary_ar (k : Nat) (a b : Int) (w : World) (hk : 32 ≤ k ∧ k ≤ 36) (ha : -9223372036854775808 ≤ a ∧ a ≤ 9223372036854775807) (hb : -9223372036854775808 ≤ b ∧ b ≤ 9223372036854775807) :
   Calls Tryz.prog 168 #[.int .i64 (k : Int), .agg #[.int .i64 16, .int .i64 a, .string ⟨#[]⟩], .agg #[.int .i64 16, .int .i64 b, .string ⟨#[]⟩]] w (ValOut w (Mg.arith k a b)) := by
 have HC := hd (fun w => calculated_any k a b w hk ha hb)
 have k23 : ((k : Int) == 23) = false := by simp; omega
 have k24 : ((k : Int) == 24) = false := by simp; omega
 have k31 : ((k : Int) == 31) = false := by simp; omega
 have d25 : decide (25 ≤ (k : Int)) = true := decide_eq_true (by omega)
 have d25' : decide (25 ≤ k) = true := decide_eq_true (by omega)
 have d30 : decide ((k : Int) ≤ 30) = false := decide_eq_false (by omega)
 have d30' : decide (k ≤ 30) = false := decide_eq_false (by omega)
 have HK1 := hd (((Blk.new w #[.int .i64 16, .int .i64 a, .string ⟨#[]⟩] 24).alloc (.cells #[.int .i64 16, .int .i64 b, .string ⟨#[]⟩] 24)).alloc (.cells #[.int .i64 0, .int .i64 0, .string ⟨#[]⟩] 24))
 have HK2 := hd ((Blk.new (w.alloc (.cells #[.int .i64 16, .int .i64 a, .string ⟨#[]⟩] 24)) #[.int .i64 16, .int .i64 b, .string ⟨#[]⟩] 24).alloc (.cells #[.int .i64 0, .int .i64 0, .string ⟨#[]⟩] 24))
 have HK3 := hd (Blk.new ((w.alloc (.cells #[.int .i64 16, .int .i64 a, .string ⟨#[]⟩] 24)).alloc (.cells #[.int .i64 16, .int .i64 b, .string ⟨#[]⟩] 24)) #[.int .i64 0, .int .i64 0, .string ⟨#[]⟩] 24)
 have HB0 : Hid (Below w.heap.size w (((w.alloc (.cells #[.int .i64 16, .int .i64 a, .string ⟨#[]⟩] 24)).alloc (.cells #[.int .i64 16, .int .i64 b, .string ⟨#[]⟩] 24)).alloc (.cells #[.int .i64 0, .int .i64 0, .string ⟨#[]⟩] 24))) := by show Below _ _ _; go_grown
 have hk1 : (w.alloc (.cells #[.int .i64 16, .int .i64 a, .string ⟨#[]⟩] 24)).heap.size = w.heap.size + 1 := by simp
 have hk2 : ((w.alloc (.cells #[.int .i64 16, .int .i64 a, .string ⟨#[]⟩] 24)).alloc (.cells #[.int .i64 16, .int .i64 b, .string ⟨#[]⟩] 24)).heap.size = w.heap.size + 1 + 1 := by simp
 rw [hk1] at HK2
 rw [hk2] at HK3
 clear hk1 hk2
 go_enter Tryz.func168, Tryz.ntmps168
 go_wp2_with fail
 generalize (((w.alloc (.cells #[.int .i64 16, .int .i64 a, .string ⟨#[]⟩] 24)).alloc (.cells #[.int .i64 16, .int .i64 b, .string ⟨#[]⟩] 24)).alloc (.cells #[.int .i64 0, .int .i64 0, .string ⟨#[]⟩] 24)) = W at *
 refine (isNull_any _ _ _ _).mono ?_
 rintro x w1 ⟨rfl, hb⟩
 have HB1 : Hid (Below w.heap.size w w1) := HB0.out.trans (hb.mono HB0.out.size)
 have HK11 := hd (HK1.out.below hb HK1.out.lt)
 have HK21 := hd (HK2.out.below hb HK2.out.lt)
 have HK31 := hd (HK3.out.below hb HK3.out.lt)
 clear hb HK1 HK2 HK3
 have c0 := HK21.out.cell 0
 have c1 := HK21.out.cell 1
 have c2 := HK21.out.cell 2
 simp at c0 c1 c2
 have hl := HK21.out.lt
 go_wp2_with fail
 refine (isNull_any _ _ _ _).mono ?_
 rintro x w2 ⟨rfl, hb⟩
 have HB2 : Hid (Below w.heap.size w w2) := HB1.out.trans (hb.mono HB1.out.size)
 have HK12 := hd (HK11.out.below hb HK11.out.lt)
 have HK22 := hd (HK21.out.below hb HK21.out.lt)
 have HK32 := hd (HK31.out.below hb HK31.out.lt)
 clear hb HK11 HK21 HK31 c0 c1 c2 hl
 have c1 := HK12.out.cell 1
 have d1 := HK22.out.cell 1
 simp at c1 d1
 have hl1 := HK12.out.lt
 have hl2 := HK22.out.lt
 go_wp2_with fail
 refine (HC.out _).mono ?_
 rintro x w3 ⟨hb, hx⟩
 have HB3 : Hid (Below w.heap.size w w3) := HB2.out.trans (hb.mono HB2.out.size)
 have HK33 := hd (HK32.out.below hb HK32.out.lt)
 have HX := hd hx
 clear hb hx HC HK12 HK22 HK32 c1 d1 hl1 hl2
 cases hr : Mg.arith k a b with
 | error c =>
  rw [hr] at HX
  obtain rfl := HX.out
  exact ⟨rfl, HB3.out, rfl⟩
 | ok z =>
  rw [hr] at HX
  have HR := hd hr
  obtain rfl := HX.out
  clear HX hr
  go_wp2_with fail
  refine (number_any z _).mono ?_
  rintro x w4 ⟨rfl, hb⟩
  have HB4 : Hid (Below w.heap.size w w4) := HB3.out.trans (hb.mono HB3.out.size)
  have K4 := HK33.out.below hb HK33.out.lt
  have e0 := K4.cell 0
  have e1 := K4.cell 1
  have e2 := K4.cell 2
  simp at e0 e1 e2
  have f0 := K4.free 0
  have f1 := K4.free 1
  have f2 := K4.free 2
  have hl := K4.lt
  clear hb K4
  go_wp2_with fail
  refine bodyPost_ret (v := .agg #[.int .i64 16, .int .i64 z, .string ⟨#[]⟩]) (by simp [results, Tryz.results168, go_sem, e0, e1, e2]) rfl ?_
  exact ⟨((HB4.out.setCell (p := ⟨w.heap.size + 1 + 1, 0, none⟩) (by simp; omega) _).setCell (p := ⟨w.heap.size + 1 + 1, 1, none⟩) (by simp; omega) _).setCell (p := ⟨w.heap.size + 1 + 1, 2, none⟩) (by simp; omega) _, by rw [HR.out]⟩
theorem type_ar (e : Px.E) : ∀ (he : Mg.Ar e) (sv : Value) (w : World), Calls Tryz.prog 119 #[sv, ev e] w fun x w' => x = .returned (.int .i64 1) ∧ Below w.heap.size w w' := by
 induction e with
 | num z =>
  intro he sv w
  have a1 := taNumberBool (.int .i64 z)
  have a2 := taNumberNumber (.int .i64 z)
  unfold ev
  go_enter Tryz.func119, Tryz.ntmps119
  go_wp2_with fail
  go_ret
  exact ⟨rfl, by go_grown⟩
 | bin k a b iha ihb =>
  intro he sv w
  obtain ⟨et, ex, hea⟩ := ev_iface a
  obtain ⟨ft, fx, heb⟩ := ev_iface b
  have hA := iha he.2.1
  have hB := ihb he.2.2
  rw [hea] at hA
  rw [heb] at hB
  have HA := hd hA
  have HB := hd hB
  have HT := hd (fun w => typeOfBinary_ar k w he.1)
  have a1 := taBinaryBool (.int .i64 (k : Int)) (.iface et ex) (.iface ft fx)
  have a2 := taBinaryNumber (.int .i64 (k : Int)) (.iface et ex) (.iface ft fx)
  have a3 := taBinaryString (.int .i64 (k : Int)) (.iface et ex) (.iface ft fx)
  have a4 := taBinaryName (.int .i64 (k : Int)) (.iface et ex) (.iface ft fx)
  have a5 := taBinaryUnary (.int .i64 (k : Int)) (.iface et ex) (.iface ft fx)
  have a6 := taBinaryBinary (.int .i64 (k : Int)) (.iface et ex) (.iface ft fx)
  unfold ev
  rw [hea, heb]
  clear hA hB hea heb iha ihb he
  have hB0 : Below w.heap.size w (w.alloc (.cells #[.int .i64 (k : Int), .iface et ex, .iface ft fx] 265)) := by go_grown
  have HB0 := hd hB0
  have hs0 := hB0.size
  have HK0 := hd (Blk.new w #[.int .i64 (k : Int), .iface et ex, .iface ft fx] 265)
  have hl0 := HK0.out.lt
  clear hB0
  go_enter Tryz.func119, Tryz.ntmps119
  go_wp2_with fail
  go_region_held3 (fun w' => w'.cell? ⟨w.heap.size, 0, none⟩ = some (.int .i64 (k : Int)) ∧ w'.cell? ⟨w.heap.size, 1, none⟩ = some (.iface et ex) ∧ w'.cell? ⟨w.heap.size, 2, none⟩ = some (.iface ft fx)) (go_keep)
    (first
     | (go_at_call 119
        refine (HA.out _ _).mono ?_
        rintro x w1 ⟨rfl, hb1⟩
        have K1 := HK0.out.drew.below hb1 hl0
        have q0 := K1.cell 0
        have q1 := K1.cell 1
        have q2 := K1.cell 2
        simp at q0 q1 q2
        clear HA)
     | (go_at_call 119
        refine (HB.out _ _).mono ?_
        rintro x w2 ⟨rfl, hb2⟩
        have K2 := K1.below hb2 K1.lt
        have r0 := K2.cell 0
        have r1 := K2.cell 1
        have r2 := K2.cell 2
        simp at r0 r1 r2
        clear HB)
     | (go_at_call 163
        refine (HT.out _).mono ?_
        rintro x w3 ⟨rfl, hb3⟩
        have K3 := K2.below hb3 K2.lt
        have s0 := K3.cell 0
        have s1 := K3.cell 1
        have s2 := K3.cell 2
        simp at s0 s1 s2
        clear HT))
  all_goals
   go_wp2_with fail
   go_ret
   exact ⟨rfl, (HB0.out.drew.trans (hb1.mono hs0)).trans ((hb2.mono (HB0.out.drew.trans (hb1.mono hs0)).size).trans (hb3.mono ((HB0.out.drew.trans (hb1.mono hs0)).trans (hb2.mono (HB0.out.drew.trans (hb1.mono hs0)).size)).size))⟩
 | _ => intro he; exact he.elim
end Mn
end Go.Proofs.YtaiebhhommgnbaaGreatDoor
