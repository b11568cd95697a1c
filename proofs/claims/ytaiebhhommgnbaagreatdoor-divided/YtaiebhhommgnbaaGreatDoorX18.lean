/- Parts of the proof: Ea Ek Lw Lx2 -/
import Derived.Test.YtaiebhhommgnbaaGreatDoorX8
import Derived.Test.YtaiebhhommgnbaaGreatDoorX3
import Derived.Test.YtaiebhhommgnbaaGreatDoorX17
namespace Go.Proofs.YtaiebhhommgnbaaGreatDoor
set_option linter.unusedSimpArgs false
set_option linter.unusedVariables false
set_option maxRecDepth 100000
set_option maxHeartbeats 16000000
open Go.RowKit
section
namespace Mg
open Px (E)
def I64 (z : Int) : Prop := -9223372036854775808 ≤ z ∧ z ≤ 9223372036854775807
theorem ar_bin {k : Nat} {a b : Int} (hk : 32 ≤ k ∧ k ≤ 36) (ha : I64 a) (hb : I64 b) : Ar (.bin k (.num a) (.num b)) := ⟨hk, ha, hb⟩
theorem ar_e3 {a b : Int} (ha : I64 a) (hb : I64 b) : Ar (Px.e3 a b) := ⟨by omega, ⟨by omega, ⟨by omega, ha, hb⟩, hb⟩, ⟨by omega, ha, hb⟩⟩
theorem div_0 (k : Nat) (a : Int) (hk : k = 35 ∨ k = 36) : arith k a 0 = .error 13 := by
 rcases hk with rfl | rfl <;> rfl
theorem div_min : arith 35 (-9223372036854775808) (-1) = .error 12 := by rfl
theorem mod_min : arith 36 (-9223372036854775808) (-1) = .ok 0 := by rfl
theorem div_ok {a b : Int} (ha : I64 a) (hb : b ≠ 0) (h : ¬(a = -9223372036854775808 ∧ b = -1)) : arith 35 a b = .ok (a.tdiv b) := by
 obtain ⟨h1, h2⟩ := div_fit ha hb h
 unfold arith
 rw [if_neg (by decide), if_neg (by decide), if_neg (by decide), if_neg hb, if_pos rfl, ck_ok h1 h2]
theorem mod_ok {a b : Int} (hb : b ≠ 0) : arith 36 a b = .ok (a.tmod b) := by
 unfold arith
 rw [if_neg (by decide), if_neg (by decide), if_neg (by decide), if_neg hb, if_neg (by decide)]
theorem mod_near {a b : Int} (hb : b ≠ 0) : (a.tmod b).natAbs < b.natAbs := by
 rw [Int.natAbs_tmod]; exact Nat.mod_lt _ (by omega)
theorem mod_side {a b : Int} : (0 ≤ a → 0 ≤ a.tmod b) ∧ (a ≤ 0 → a.tmod b ≤ 0) := by
 refine ⟨fun h => Int.tmod_nonneg b h, fun h => ?_⟩
 have := Int.tmod_nonneg (a := -a) b (by omega)
 rw [Int.neg_tmod] at this
 omega
theorem mod_abs {a b : Int} : (a.tmod b).natAbs ≤ a.natAbs := by
 rw [Int.natAbs_tmod]; exact Nat.mod_le _ _
theorem val_e3 {a b : Int} (ha : I64 a) (hb : b ≠ 0) (h : ¬(a = -9223372036854775808 ∧ b = -1)) : val (Px.e3 a b) = .ok a := by
 have h1 := div_ok ha hb h
 have h2 := mod_ok (a := a) hb
 have h3 := div_mod a b
 have h4 := mod_abs (a := a) (b := b)
 have h5 := mod_side (a := a) (b := b)
 unfold I64 at ha
 have hm : a.tdiv b * b = a - a.tmod b := by rw [Int.mul_comm]; omega
 have e1 : arith 34 (a.tdiv b) b = .ok (a - a.tmod b) := by
  show ck (a.tdiv b * b) = _
  rw [hm]
  exact ck_ok (by omega) (by omega)
 have e2 : arith 32 (a - a.tmod b) (a.tmod b) = .ok a := by
  show ck (a - a.tmod b + a.tmod b) = _
  rw [show a - a.tmod b + a.tmod b = a by omega]
  exact ck_ok (by omega) (by omega)
 simp only [Px.e3, val]
 rw [h1]; simp only
 rw [e1]; simp only
 rw [h2]; simp only
 exact e2
end Mg
end
namespace Lw
theorem wfI {z : Int} (h : (Lit.int .i64 z).wf = true) : Mg.I64 z := by
 simp only [Lit.wf, Bool.and_eq_true, decide_eq_true_eq] at h
 have e1 : IntKind.i64.min = -9223372036854775808 := by rfl
 have e2 : IntKind.i64.max = 9223372036854775807 := by rfl
 rw [e1, e2] at h
 exact h
def num (z : Int) : ByteArray := ⟨(Px.decI z).toArray⟩
theorem num_size (z : Int) : (num z).size ≤ 21 := by
 have := Px.decI_len z
 show (Px.decI z).toArray.size ≤ 21
 rw [List.size_toArray]; exact this
theorem told_any' (z : Int) (hz : Mg.I64 z) (w : World) (he : EnvD w) : Calls Tryz.prog 5 #[.int .i64 z] w fun x w' => x = .returned (.string (num z)) ∧ Below w.heap.size w w' := told_num z hz.1 hz.2 w he
theorem I64.ok {z : Int} (h : Mg.I64 z) : (Px.E.num z).ok 2000 := h
theorem ask1 (k : Nat) (hk : 32 ≤ k ∧ k ≤ 36) (op : UInt8) (hop : (Px.sgnT k).1 = [op]) (a b : Int) (ha : Mg.I64 a) (hb : Mg.I64 b) (w : World) (he : EnvP w) :
   Calls Tryz.prog 6 #[.string (num a ++ (⟨#[32, op, 32]⟩ : ByteArray) ++ num b)] w (Tx.OneOut w (Mg.arith k a b)) := by
 have hl := Px.decI_len a
 have hl2 := Px.decI_len b
 refine Tx.single_any (.bin k (.num a) (.num b)) (Mg.ar_bin hk ha hb) (Px.t1 k a b) (Px.parse_t1 hk (I64.ok ha) (I64.ok hb)) ?_ _ ?_ w he
 · simp [Px.t1, hop]; omega
 · simp [Px.t1, hop, num]
theorem ask3 (a b : Int) (ha : Mg.I64 a) (hb : Mg.I64 b) (w : World) (he : EnvP w) :
   Calls Tryz.prog 6 #[.string ((⟨#[40]⟩ : ByteArray) ++ num a ++ (⟨#[32, 47, 32]⟩ : ByteArray) ++ num b ++ (⟨#[41, 32, 42, 32]⟩ : ByteArray) ++ num b ++ (⟨#[32, 43, 32]⟩ : ByteArray) ++ num a ++ (⟨#[32, 37, 32]⟩ : ByteArray) ++ num b)] w (Tx.OneOut w (Mg.val (Px.e3 a b))) := by
 have hl := Px.decI_len a
 have hl2 := Px.decI_len b
 refine Tx.single_any (Px.e3 a b) (Mg.ar_e3 ha hb) (Px.t3 a b) (Px.parse_t3 (I64.ok ha) (I64.ok hb)) ?_ _ ?_ w he
 · simp [Px.t3]; omega
 · simp [Px.t3, num]
theorem out_ok {w w' : World} {x : Ending} {z : Int} {r : Except Nat Int} (h : Tx.OneOut w r x w') (hr : r = .ok z) : x = .returned (.tuple #[.agg #[.int .i64 16, .int .i64 z, .string ⟨#[]⟩], .int .i64 0]) := by
 subst hr; exact h.2
theorem out_no {w w' : World} {x : Ending} {c : Nat} {r : Except Nat Int} (h : Tx.OneOut w r x w') (hr : r = .error c) : x = .returned (.tuple #[.agg #[.int .i64 0, .int .i64 0, .string ⟨#[]⟩], .int .i64 (c : Int)]) := by
 subst hr; exact h.2
end Lw
namespace Lw
theorem div_zero (a : Int) (ha : Mg.I64 a) (W : World) (he : EnvD W) :
   Calls Tryz.prog 3 #[.int .i64 a, .int .i64 0] W fun e W' => e = .returned (.bool true) ∧ Below W.heap.size W W' := by
 have HE := hd he
 have HA := hd ha
 have hb : Mg.I64 0 := by unfold Mg.I64; omega
 have HB := hd hb
 have hs1 := num_size a
 have hs2 := num_size 0
 clear he ha hb
 go_enter Tryz.func3, Tryz.ntmps3
 go_wp2_with fail
 refine (told_any' a HA.out W HE.out).mono ?_
 rintro x w1 ⟨rfl, hb1⟩
 have H1 := hd hb1
 clear hb1
 go_wp2_with fail
 refine (told_any' 0 HB.out w1 (HE.out.below H1.out)).mono ?_
 rintro x w2 ⟨rfl, hb2⟩
 have H2 : Hid (Below W.heap.size W w2) := H1.out.trans (hb2.mono H1.out.size)
 clear hb2
 go_wp2_with fail
 refine (ask1 35 (by omega) 47 rfl a 0 HA.out HB.out w2 (HE.out.below H2.out).envp).mono ?_
 rintro x w3 ho
 obtain rfl := out_no ho (Mg.div_0 35 a (.inl rfl))
 have h3 : Below W.heap.size W w3 := H2.out.trans (ho.1.mono H2.out.size)
 have H3 : Hid (Below W.heap.size W (w3.alloc (.cells #[.int .i64 0, .int .i64 0, .string ⟨#[]⟩] 24))) := h3.alloc h3.size _
 clear ho h3
 go_wp2_with fail
 refine (ask1 36 (by omega) 37 rfl a 0 HA.out HB.out _ (HE.out.below H3.out).envp).mono ?_
 rintro x w4 ho
 obtain rfl := out_no ho (Mg.div_0 36 a (.inr rfl))
 have h4 : Below W.heap.size W w4 := H3.out.trans (ho.1.mono H3.out.size)
 have H4 : Hid (Below W.heap.size W (w4.alloc (.cells #[.int .i64 0, .int .i64 0, .string ⟨#[]⟩] 24))) := h4.alloc h4.size _
 clear ho h4
 go_wp2
 go_ret
 exact ⟨rfl, H4.out⟩
theorem div_least (W : World) (he : EnvD W) :
   Calls Tryz.prog 3 #[.int .i64 (-9223372036854775808), .int .i64 (-1)] W fun e W' => e = .returned (.bool true) ∧ Below W.heap.size W W' := by
 have HE := hd he
 have ha : Mg.I64 (-9223372036854775808) := by unfold Mg.I64; omega
 have hb : Mg.I64 (-1) := by unfold Mg.I64; omega
 have HA := hd ha
 have HB := hd hb
 have hs1 := num_size (-9223372036854775808)
 have hs2 := num_size (-1)
 clear he ha hb
 go_enter Tryz.func3, Tryz.ntmps3
 go_wp2_with fail
 refine (told_any' (-9223372036854775808) HA.out W HE.out).mono ?_
 rintro x w1 ⟨rfl, hb1⟩
 have H1 := hd hb1
 clear hb1
 go_wp2_with fail
 refine (told_any' (-1) HB.out w1 (HE.out.below H1.out)).mono ?_
 rintro x w2 ⟨rfl, hb2⟩
 have H2 : Hid (Below W.heap.size W w2) := H1.out.trans (hb2.mono H1.out.size)
 clear hb2
 go_wp2_with fail
 refine (ask1 35 (by omega) 47 rfl (-9223372036854775808) (-1) HA.out HB.out w2 (HE.out.below H2.out).envp).mono ?_
 rintro x w3 ho
 obtain rfl := out_no ho Mg.div_min
 have h3 : Below W.heap.size W w3 := H2.out.trans (ho.1.mono H2.out.size)
 have H3 : Hid (Below W.heap.size W (w3.alloc (.cells #[.int .i64 0, .int .i64 0, .string ⟨#[]⟩] 24))) := h3.alloc h3.size _
 clear ho h3
 go_wp2_with fail
 refine (ask1 36 (by omega) 37 rfl (-9223372036854775808) (-1) HA.out HB.out _ (HE.out.below H3.out).envp).mono ?_
 rintro x w4 ho
 obtain rfl := out_ok ho Mg.mod_min
 have h4 : Below W.heap.size W w4 := H3.out.trans (ho.1.mono H3.out.size)
 have H4 : Hid (Below W.heap.size W (w4.alloc (.cells #[.int .i64 16, .int .i64 0, .string ⟨#[]⟩] 24))) := h4.alloc h4.size _
 clear ho h4
 go_wp2
 go_ret
 exact ⟨rfl, H4.out⟩
theorem div_else (a b : Int) (ha : Mg.I64 a) (hb : Mg.I64 b) (hb0 : b ≠ 0) (hb1' : b ≠ -1) (W : World) (he : EnvD W) :
   Calls Tryz.prog 3 #[.int .i64 a, .int .i64 b] W fun e W' => e = .returned (.bool true) ∧ Below W.heap.size W W' := by
 have hm : ¬(a = -9223372036854775808 ∧ b = -1) := fun h => hb1' h.2
 have HE := hd he
 have HA := hd ha
 have HB := hd hb
 have hs1 := num_size a
 have hs2 := num_size b
 have HQ := hd (Mg.div_ok ha hb0 hm)
 have HM := hd (Mg.mod_ok (a := a) hb0)
 have H3V := hd (Mg.val_e3 ha hb0 hm)
 have HN := hd (Mg.mod_near (a := a) hb0)
 have HSD := hd (Mg.mod_side (a := a) (b := b))
 have f0 : (b == (0 : Int)) = false := by simpa using hb0
 have f1 : (b == (-1 : Int)) = false := by simpa using hb1'
 have HM0 := hd hm
 have HNB : Hid (b ≠ 0) := hb0
 clear he ha hb hm hb0
 generalize a.tmod b = r at *
 generalize a.tdiv b = q at *
 go_enter Tryz.func3, Tryz.ntmps3
 go_wp2_with fail
 refine (told_any' a HA.out W HE.out).mono ?_
 rintro x w1 ⟨rfl, hb1⟩
 have H1 := hd hb1
 clear hb1
 go_wp2_with fail
 refine (told_any' b HB.out w1 (HE.out.below H1.out)).mono ?_
 rintro x w2 ⟨rfl, hb2⟩
 have H2 : Hid (Below W.heap.size W w2) := H1.out.trans (hb2.mono H1.out.size)
 clear hb2
 go_wp2_with fail
 refine (ask1 35 (by omega) 47 rfl a b HA.out HB.out w2 (HE.out.below H2.out).envp).mono ?_
 rintro x w3 ho
 obtain rfl := out_ok ho HQ.out
 have h3 : Below W.heap.size W w3 := H2.out.trans (ho.1.mono H2.out.size)
 have H3 : Hid (Below W.heap.size W (w3.alloc (.cells #[.int .i64 16, .int .i64 q, .string ⟨#[]⟩] 24))) := h3.alloc h3.size _
 have KQ := hd (Blk.new w3 #[.int .i64 16, .int .i64 q, .string ⟨#[]⟩] 24)
 clear ho h3
 go_wp2_with fail
 refine (ask1 36 (by omega) 37 rfl a b HA.out HB.out _ (HE.out.below H3.out).envp).mono ?_
 rintro x w4 ho
 obtain rfl := out_ok ho HM.out
 have h4 : Below W.heap.size W w4 := H3.out.trans (ho.1.mono H3.out.size)
 have H4 : Hid (Below W.heap.size W (w4.alloc (.cells #[.int .i64 16, .int .i64 r, .string ⟨#[]⟩] 24))) := h4.alloc h4.size _
 have KQ2 := hd ((KQ.out.below ho.1 KQ.out.lt).alloc (.cells #[.int .i64 16, .int .i64 r, .string ⟨#[]⟩] 24))
 have KR := hd (Blk.new w4 #[.int .i64 16, .int .i64 r, .string ⟨#[]⟩] 24)
 clear ho h4 KQ H3
 go_wp2_with fail
 refine (ask3 a b HA.out HB.out _ (HE.out.below H4.out).envp).mono ?_
 rintro x w5 ho
 obtain rfl := out_ok ho H3V.out
 have h5 : Below W.heap.size W w5 := H4.out.trans (ho.1.mono H4.out.size)
 have H5 : Hid (Below W.heap.size W (w5.alloc (.cells #[.int .i64 16, .int .i64 a, .string ⟨#[]⟩] 24))) := h5.alloc h5.size _
 have KQ3 := (KQ2.out.below ho.1 KQ2.out.lt).alloc (.cells #[.int .i64 16, .int .i64 a, .string ⟨#[]⟩] 24)
 have KR3 := (KR.out.below ho.1 KR.out.lt).alloc (.cells #[.int .i64 16, .int .i64 a, .string ⟨#[]⟩] 24)
 have q0 := KQ3.cell 0
 have r0 := KR3.cell 0
 have r1 := KR3.cell 1
 simp at q0 r0 r1
 have hq := KQ3.lt
 have hr := KR3.lt
 clear ho h5 KQ2 KR KQ3 KR3
 have hA := HA.out
 have hB := HB.out
 have hN := HN.out
 have hS := HSD.out
 unfold Mg.I64 at hA hB
 go_wp2
 all_goals go_ret
 all_goals refine ⟨?_, H5.out⟩
 all_goals first
  | rfl
  | (clear HE HA HB H3V HN HSD H1 H2 H4 H5; simp; omega)
  | (exfalso
     rename_i h1 h2
     obtain ⟨_, h2⟩ := h2
     by_cases c1 : r < 0
     · by_cases c2 : a < 0
       · simp [c1, c2] at h2
       · omega
     · by_cases c2 : a < 0
       · omega
       · simp [c1, c2] at h2)
end Lw
namespace Lw
theorem div_m1 (a : Int) (ha : Mg.I64 a) (hm' : a ≠ -9223372036854775808) (W : World) (he : EnvD W) :
   Calls Tryz.prog 3 #[.int .i64 a, .int .i64 (-1)] W fun e W' => e = .returned (.bool true) ∧ Below W.heap.size W W' := by
 have hb : Mg.I64 (-1) := by unfold Mg.I64; omega
 have hb0 : (-1 : Int) ≠ 0 := by omega
 have hm : ¬(a = -9223372036854775808 ∧ (-1 : Int) = -1) := fun h => hm' h.1
 have hz : a.tmod (-1) = 0 := by have := Mg.mod_near (a := a) (b := -1) (by omega); omega
 have HE := hd he
 have HA := hd ha
 have HB := hd hb
 have hs1 := num_size a
 have hs2 := num_size (-1)
 have HQ := hd (Mg.div_ok ha hb0 hm)
 have HM : Hid (Mg.arith 36 a (-1) = .ok 0) := by show _ = _; rw [Mg.mod_ok (a := a) hb0, hz]
 have H3V := hd (Mg.val_e3 ha hb0 hm)
 have f1 : (a == (-9223372036854775808 : Int)) = false := by simpa using hm'
 clear he ha hb hm hb0 hz
 generalize a.tdiv (-1) = q at *
 go_enter Tryz.func3, Tryz.ntmps3
 go_wp2_with fail
 refine (told_any' a HA.out W HE.out).mono ?_
 rintro x w1 ⟨rfl, hb1⟩
 have H1 := hd hb1
 clear hb1
 go_wp2_with fail
 refine (told_any' (-1) HB.out w1 (HE.out.below H1.out)).mono ?_
 rintro x w2 ⟨rfl, hb2⟩
 have H2 : Hid (Below W.heap.size W w2) := H1.out.trans (hb2.mono H1.out.size)
 clear hb2
 go_wp2_with fail
 refine (ask1 35 (by omega) 47 rfl a (-1) HA.out HB.out w2 (HE.out.below H2.out).envp).mono ?_
 rintro x w3 ho
 obtain rfl := out_ok ho HQ.out
 have h3 : Below W.heap.size W w3 := H2.out.trans (ho.1.mono H2.out.size)
 have H3 : Hid (Below W.heap.size W (w3.alloc (.cells #[.int .i64 16, .int .i64 q, .string ⟨#[]⟩] 24))) := h3.alloc h3.size _
 have KQ := hd (Blk.new w3 #[.int .i64 16, .int .i64 q, .string ⟨#[]⟩] 24)
 clear ho h3
 go_wp2_with fail
 refine (ask1 36 (by omega) 37 rfl a (-1) HA.out HB.out _ (HE.out.below H3.out).envp).mono ?_
 rintro x w4 ho
 obtain rfl := out_ok ho HM.out
 have h4 : Below W.heap.size W w4 := H3.out.trans (ho.1.mono H3.out.size)
 have H4 : Hid (Below W.heap.size W (w4.alloc (.cells #[.int .i64 16, .int .i64 0, .string ⟨#[]⟩] 24))) := h4.alloc h4.size _
 have KQ2 := hd ((KQ.out.below ho.1 KQ.out.lt).alloc (.cells #[.int .i64 16, .int .i64 0, .string ⟨#[]⟩] 24))
 have KR := hd (Blk.new w4 #[.int .i64 16, .int .i64 0, .string ⟨#[]⟩] 24)
 clear ho h4 KQ H3
 go_wp2_with fail
 refine (ask3 a (-1) HA.out HB.out _ (HE.out.below H4.out).envp).mono ?_
 rintro x w5 ho
 obtain rfl := out_ok ho H3V.out
 have h5 : Below W.heap.size W w5 := H4.out.trans (ho.1.mono H4.out.size)
 have H5 : Hid (Below W.heap.size W (w5.alloc (.cells #[.int .i64 16, .int .i64 a, .string ⟨#[]⟩] 24))) := h5.alloc h5.size _
 have KQ3 := (KQ2.out.below ho.1 KQ2.out.lt).alloc (.cells #[.int .i64 16, .int .i64 a, .string ⟨#[]⟩] 24)
 have KR3 := (KR.out.below ho.1 KR.out.lt).alloc (.cells #[.int .i64 16, .int .i64 a, .string ⟨#[]⟩] 24)
 have q0 := KQ3.cell 0
 have r0 := KR3.cell 0
 have r1 := KR3.cell 1
 simp at q0 r0 r1
 have hq := KQ3.lt
 have hr := KR3.lt
 clear ho h5 KQ2 KR KQ3 KR3
 go_wp2
 all_goals go_ret
 all_goals refine ⟨?_, H5.out⟩
 all_goals rfl
theorem divided_any (a b : Int) (W : World) (he : EnvD W) (ha : (Lit.int .i64 a).wf = true) (hb : (Lit.int .i64 b).wf = true) :
   Calls Tryz.prog 3 #[.int .i64 a, .int .i64 b] W fun e W' => e = .returned (.bool true) ∧ Below W.heap.size W W' := by
 by_cases h0 : b = 0
 · subst h0; exact div_zero a (wfI ha) W he
 by_cases h1 : b = -1
 · subst h1
   by_cases h2 : a = -9223372036854775808
   · subst h2; exact div_least W he
   · exact div_m1 a (wfI ha) h2 W he
 · exact div_else a b (wfI ha) (wfI hb) h0 h1 W he
end Lw
end Go.Proofs.YtaiebhhommgnbaaGreatDoor
