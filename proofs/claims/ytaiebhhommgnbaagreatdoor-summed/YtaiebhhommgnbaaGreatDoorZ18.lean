/- Parts of the proof: Ea Ek Ls -/
import Derived.Test.YtaiebhhommgnbaaGreatDoorZ8
import Derived.Test.YtaiebhhommgnbaaGreatDoorZ3
import Derived.Test.YtaiebhhommgnbaaGreatDoorZ17
namespace Go.Proofs.YtaiebhhommgnbaaGreatDoor
set_option linter.unusedSimpArgs false
set_option linter.unusedVariables false
set_option maxRecDepth 100000
set_option maxHeartbeats 16000000
open Go.RowKit
section
namespace Mg
open Px (E)
def I64 (z : Int) : Prop := -9223372036854775808 ≤ z ∧ z ≤ 9223372036854775807
theorem ar_bin {k : Nat} {a b : Int} (hk : 32 ≤ k ∧ k ≤ 36) (ha : I64 a) (hb : I64 b) : Ar (.bin k (.num a) (.num b)) := ⟨hk, ha, hb⟩
theorem ar_e2 {a b : Int} (ha : I64 a) (hb : I64 b) : Ar (Px.e2 32 a b) := ⟨by omega, ⟨by omega, ha, hb⟩, hb⟩
theorem val_e2 {a b : Int} (ha : I64 a) (h : I64 (a + b)) : val (Px.e2 32 a b) = .ok a := by
 unfold I64 at ha h
 have e1 : arith 32 a b = .ok (a + b) := ck_ok (by omega) (by omega)
 simp only [Px.e2, val]
 rw [e1]; simp only
 show ck (a + b - b) = _
 rw [show a + b - b = a by omega]
 exact ck_ok (by omega) (by omega)
theorem sum_ok {a b : Int} (h : I64 (a + b)) : arith 32 a b = .ok (a + b) := by unfold I64 at h; exact ck_ok (by omega) (by omega)
theorem sum_no {a b : Int} (h : ¬ I64 (a + b)) : arith 32 a b = .error 12 := by unfold I64 at h; exact ck_no (by omega)
end Mg
end
namespace Lw
theorem wfI {z : Int} (h : (Lit.int .i64 z).wf = true) : Mg.I64 z := by
 simp only [Lit.wf, Bool.and_eq_true, decide_eq_true_eq] at h
 have e1 : IntKind.i64.min = -9223372036854775808 := by rfl
 have e2 : IntKind.i64.max = 9223372036854775807 := by rfl
 rw [e1, e2] at h
 exact h
def num (z : Int) : ByteArray := ⟨(Px.decI z).toArray⟩
theorem num_size (z : Int) : (num z).size ≤ 21 := by
 have := Px.decI_len z
 show (Px.decI z).toArray.size ≤ 21
 rw [List.size_toArray]; exact this
theorem told_any' (z : Int) (hz : Mg.I64 z) (w : World) (he : EnvD w) : Calls Tryz.prog 5 #[.int .i64 z] w fun x w' => x = .returned (.string (num z)) ∧ Below w.heap.size w w' := told_num z hz.1 hz.2 w he
theorem I64.ok {z : Int} (h : Mg.I64 z) : (Px.E.num z).ok 2000 := h
theorem ask1 (k : Nat) (hk : 32 ≤ k ∧ k ≤ 36) (op : UInt8) (hop : (Px.sgnT k).1 = [op]) (a b : Int) (ha : Mg.I64 a) (hb : Mg.I64 b) (w : World) (he : EnvP w) :
   Calls Tryz.prog 6 #[.string (num a ++ (⟨#[32, op, 32]⟩ : ByteArray) ++ num b)] w (Tx.OneOut w (Mg.arith k a b)) := by
 have hl := Px.decI_len a
 have hl2 := Px.decI_len b
 refine Tx.single_any (.bin k (.num a) (.num b)) (Mg.ar_bin hk ha hb) (Px.t1 k a b) (Px.parse_t1 hk (I64.ok ha) (I64.ok hb)) ?_ _ ?_ w he
 · simp [Px.t1, hop]; omega
 · simp [Px.t1, hop, num]
theorem ask2 (a b : Int) (ha : Mg.I64 a) (hb : Mg.I64 b) (w : World) (he : EnvP w) :
   Calls Tryz.prog 6 #[.string ((⟨#[40]⟩ : ByteArray) ++ num a ++ (⟨#[32, 43, 32]⟩ : ByteArray) ++ num b ++ (⟨#[41, 32, 45, 32]⟩ : ByteArray) ++ num b)] w (Tx.OneOut w (Mg.val (Px.e2 32 a b))) := by
 have hl := Px.decI_len a
 have hl2 := Px.decI_len b
 refine Tx.single_any (Px.e2 32 a b) (Mg.ar_e2 ha hb) (Px.t2 a b) (Px.parse_t2 (I64.ok ha) (I64.ok hb)) ?_ _ ?_ w he
 · simp [Px.t2]; omega
 · simp [Px.t2, num]
theorem out_ok {w w' : World} {x : Ending} {z : Int} {r : Except Nat Int} (h : Tx.OneOut w r x w') (hr : r = .ok z) : x = .returned (.tuple #[.agg #[.int .i64 16, .int .i64 z, .string ⟨#[]⟩], .int .i64 0]) := by
 subst hr; exact h.2
theorem out_no {w w' : World} {x : Ending} {c : Nat} {r : Except Nat Int} (h : Tx.OneOut w r x w') (hr : r = .error c) : x = .returned (.tuple #[.agg #[.int .i64 0, .int .i64 0, .string ⟨#[]⟩], .int .i64 (c : Int)]) := by
 subst hr; exact h.2
end Lw
namespace Lw
theorem sum_over1 (a b n : Int) (ha : Mg.I64 a) (hb : Mg.I64 b) (hn : ¬ Mg.I64 (a + b)) (hk : wrap64 (a + b) = n) (hsa : 0 ≤ a) (hsb : 0 ≤ b) (hsn : n < 0) (W : World) (he : EnvD W) :
   Calls Tryz.prog 4 #[.int .i64 a, .int .i64 b] W fun e W' => e = .returned (.bool true) ∧ Below W.heap.size W W' := by
 have HE := hd he
 have HA := hd ha
 have HB := hd hb
 have hs1 := num_size a
 have hs2 := num_size b
 have HQ := hd (Mg.sum_no hn)
 have hA := ha
 have hB := hb
 unfold Mg.I64 at hA hB hn
 clear he ha hb
 have ea : decide (a < 0) = false := by simp; omega
 have na : ¬ a < 0 := by omega
 have eb : decide (b < 0) = false := by simp; omega
 have nb : ¬ b < 0 := by omega
 have en : decide (n < 0) = true := by simp; omega
 go_enter Tryz.func4, Tryz.ntmps4
 go_wp2_with fail
 refine (told_any' a HA.out W HE.out).mono ?_
 rintro x w1 ⟨rfl, hb1⟩
 have H1 := hd hb1
 clear hb1
 go_wp2_with fail
 refine (told_any' b HB.out w1 (HE.out.below H1.out)).mono ?_
 rintro x w2 ⟨rfl, hb2⟩
 have H2 : Hid (Below W.heap.size W w2) := H1.out.trans (hb2.mono H1.out.size)
 clear hb2
 go_wp2_with fail
 refine (ask1 32 (by omega) 43 rfl a b HA.out HB.out w2 (HE.out.below H2.out).envp).mono ?_
 rintro x w3 ho
 obtain rfl := out_no ho HQ.out
 have h3 : Below W.heap.size W w3 := H2.out.trans (ho.1.mono H2.out.size)
 have H3 : Hid (Below W.heap.size W (w3.alloc (.cells #[.int .i64 0, .int .i64 0, .string ⟨#[]⟩] 24))) := h3.alloc h3.size _
 clear ho h3
 go_wp2
 all_goals go_ret
 all_goals refine ⟨?_, H3.out⟩
 all_goals rfl
theorem sum_over2 (a b n : Int) (ha : Mg.I64 a) (hb : Mg.I64 b) (hn : ¬ Mg.I64 (a + b)) (hk : wrap64 (a + b) = n) (hsa : a < 0) (hsb : b < 0) (hsn : 0 ≤ n) (W : World) (he : EnvD W) :
   Calls Tryz.prog 4 #[.int .i64 a, .int .i64 b] W fun e W' => e = .returned (.bool true) ∧ Below W.heap.size W W' := by
 have HE := hd he
 have HA := hd ha
 have HB := hd hb
 have hs1 := num_size a
 have hs2 := num_size b
 have HQ := hd (Mg.sum_no hn)
 have hA := ha
 have hB := hb
 unfold Mg.I64 at hA hB hn
 clear he ha hb
 have ea : decide (a < 0) = true := by simp; omega
 have eb : decide (b < 0) = true := by simp; omega
 have en : decide (n < 0) = false := by simp; omega
 have nn : ¬ n < 0 := by omega
 go_enter Tryz.func4, Tryz.ntmps4
 go_wp2_with fail
 refine (told_any' a HA.out W HE.out).mono ?_
 rintro x w1 ⟨rfl, hb1⟩
 have H1 := hd hb1
 clear hb1
 go_wp2_with fail
 refine (told_any' b HB.out w1 (HE.out.below H1.out)).mono ?_
 rintro x w2 ⟨rfl, hb2⟩
 have H2 : Hid (Below W.heap.size W w2) := H1.out.trans (hb2.mono H1.out.size)
 clear hb2
 go_wp2_with fail
 refine (ask1 32 (by omega) 43 rfl a b HA.out HB.out w2 (HE.out.below H2.out).envp).mono ?_
 rintro x w3 ho
 obtain rfl := out_no ho HQ.out
 have h3 : Below W.heap.size W w3 := H2.out.trans (ho.1.mono H2.out.size)
 have H3 : Hid (Below W.heap.size W (w3.alloc (.cells #[.int .i64 0, .int .i64 0, .string ⟨#[]⟩] 24))) := h3.alloc h3.size _
 clear ho h3
 go_wp2
 all_goals go_ret
 all_goals refine ⟨?_, H3.out⟩
 all_goals rfl
theorem sum_fits1 (a b : Int) (ha : Mg.I64 a) (hb : Mg.I64 b) (hn : Mg.I64 (a + b)) (hsa : 0 ≤ a) (hsb : 0 ≤ b) (W : World) (he : EnvD W) :
   Calls Tryz.prog 4 #[.int .i64 a, .int .i64 b] W fun e W' => e = .returned (.bool true) ∧ Below W.heap.size W W' := by
 have HE := hd he
 have HA := hd ha
 have HB := hd hb
 have hs1 := num_size a
 have hs2 := num_size b
 have HQ := hd (Mg.sum_ok hn)
 have H2V := hd (Mg.val_e2 ha hn)
 have hk : wrap64 (a + b) = a + b := Mn.wrap_in _ hn
 have hA := ha
 have hB := hb
 unfold Mg.I64 at hA hB hn
 have hsn : 0 ≤ a + b := by omega
 clear he ha hb
 have ea : decide (a < 0) = false := by simp; omega
 have na : ¬ a < 0 := by omega
 have eb : decide (b < 0) = false := by simp; omega
 have nb : ¬ b < 0 := by omega
 have en : decide (a + b < 0) = false := by simp; omega
 have nn : ¬ a + b < 0 := by omega
 go_enter Tryz.func4, Tryz.ntmps4
 go_wp2_with fail
 refine (told_any' a HA.out W HE.out).mono ?_
 rintro x w1 ⟨rfl, hb1⟩
 have H1 := hd hb1
 clear hb1
 go_wp2_with fail
 refine (told_any' b HB.out w1 (HE.out.below H1.out)).mono ?_
 rintro x w2 ⟨rfl, hb2⟩
 have H2 : Hid (Below W.heap.size W w2) := H1.out.trans (hb2.mono H1.out.size)
 clear hb2
 go_wp2_with fail
 refine (ask1 32 (by omega) 43 rfl a b HA.out HB.out w2 (HE.out.below H2.out).envp).mono ?_
 rintro x w3 ho
 obtain rfl := out_ok ho HQ.out
 have h3 : Below W.heap.size W w3 := H2.out.trans (ho.1.mono H2.out.size)
 have H3 : Hid (Below W.heap.size W (w3.alloc (.cells #[.int .i64 16, .int .i64 (a + b), .string ⟨#[]⟩] 24))) := h3.alloc h3.size _
 have KQ := hd (Blk.new w3 #[.int .i64 16, .int .i64 (a + b), .string ⟨#[]⟩] 24)
 clear ho h3
 go_wp2_with fail
 refine (ask2 a b HA.out HB.out _ (HE.out.below H3.out).envp).mono ?_
 rintro x w5 ho
 obtain rfl := out_ok ho H2V.out
 have h5 : Below W.heap.size W w5 := H3.out.trans (ho.1.mono H3.out.size)
 have H5 : Hid (Below W.heap.size W (w5.alloc (.cells #[.int .i64 16, .int .i64 a, .string ⟨#[]⟩] 24))) := h5.alloc h5.size _
 have KQ3 := (KQ.out.below ho.1 KQ.out.lt).alloc (.cells #[.int .i64 16, .int .i64 a, .string ⟨#[]⟩] 24)
 have q0 := KQ3.cell 0
 have q1 := KQ3.cell 1
 have q2 := KQ3.cell 2
 simp at q0 q1 q2
 have hq := KQ3.lt
 clear ho h5 KQ KQ3
 go_wp2
 all_goals go_ret
 all_goals refine ⟨?_, H5.out⟩
 all_goals first | rfl | (simp; done) | simp
theorem sum_fits2 (a b : Int) (ha : Mg.I64 a) (hb : Mg.I64 b) (hn : Mg.I64 (a + b)) (hsa : a < 0) (hsb : b < 0) (W : World) (he : EnvD W) :
   Calls Tryz.prog 4 #[.int .i64 a, .int .i64 b] W fun e W' => e = .returned (.bool true) ∧ Below W.heap.size W W' := by
 have HE := hd he
 have HA := hd ha
 have HB := hd hb
 have hs1 := num_size a
 have hs2 := num_size b
 have HQ := hd (Mg.sum_ok hn)
 have H2V := hd (Mg.val_e2 ha hn)
 have hk : wrap64 (a + b) = a + b := Mn.wrap_in _ hn
 have hA := ha
 have hB := hb
 unfold Mg.I64 at hA hB hn
 have hsn : a + b < 0 := by omega
 clear he ha hb
 have ea : decide (a < 0) = true := by simp; omega
 have eb : decide (b < 0) = true := by simp; omega
 have en : decide (a + b < 0) = true := by simp; omega
 go_enter Tryz.func4, Tryz.ntmps4
 go_wp2_with fail
 refine (told_any' a HA.out W HE.out).mono ?_
 rintro x w1 ⟨rfl, hb1⟩
 have H1 := hd hb1
 clear hb1
 go_wp2_with fail
 refine (told_any' b HB.out w1 (HE.out.below H1.out)).mono ?_
 rintro x w2 ⟨rfl, hb2⟩
 have H2 : Hid (Below W.heap.size W w2) := H1.out.trans (hb2.mono H1.out.size)
 clear hb2
 go_wp2_with fail
 refine (ask1 32 (by omega) 43 rfl a b HA.out HB.out w2 (HE.out.below H2.out).envp).mono ?_
 rintro x w3 ho
 obtain rfl := out_ok ho HQ.out
 have h3 : Below W.heap.size W w3 := H2.out.trans (ho.1.mono H2.out.size)
 have H3 : Hid (Below W.heap.size W (w3.alloc (.cells #[.int .i64 16, .int .i64 (a + b), .string ⟨#[]⟩] 24))) := h3.alloc h3.size _
 have KQ := hd (Blk.new w3 #[.int .i64 16, .int .i64 (a + b), .string ⟨#[]⟩] 24)
 clear ho h3
 go_wp2_with fail
 refine (ask2 a b HA.out HB.out _ (HE.out.below H3.out).envp).mono ?_
 rintro x w5 ho
 obtain rfl := out_ok ho H2V.out
 have h5 : Below W.heap.size W w5 := H3.out.trans (ho.1.mono H3.out.size)
 have H5 : Hid (Below W.heap.size W (w5.alloc (.cells #[.int .i64 16, .int .i64 a, .string ⟨#[]⟩] 24))) := h5.alloc h5.size _
 have KQ3 := (KQ.out.below ho.1 KQ.out.lt).alloc (.cells #[.int .i64 16, .int .i64 a, .string ⟨#[]⟩] 24)
 have q0 := KQ3.cell 0
 have q1 := KQ3.cell 1
 have q2 := KQ3.cell 2
 simp at q0 q1 q2
 have hq := KQ3.lt
 clear ho h5 KQ KQ3
 go_wp2
 all_goals go_ret
 all_goals refine ⟨?_, H5.out⟩
 all_goals first | rfl | (simp; done) | simp
theorem sum_fits3 (a b : Int) (ha : Mg.I64 a) (hb : Mg.I64 b) (hn : Mg.I64 (a + b)) (hsa : 0 ≤ a) (hsb : b < 0) (W : World) (he : EnvD W) :
   Calls Tryz.prog 4 #[.int .i64 a, .int .i64 b] W fun e W' => e = .returned (.bool true) ∧ Below W.heap.size W W' := by
 have HE := hd he
 have HA := hd ha
 have HB := hd hb
 have hs1 := num_size a
 have hs2 := num_size b
 have HQ := hd (Mg.sum_ok hn)
 have H2V := hd (Mg.val_e2 ha hn)
 have hk : wrap64 (a + b) = a + b := Mn.wrap_in _ hn
 have hA := ha
 have hB := hb
 unfold Mg.I64 at hA hB hn
 clear he ha hb
 have ea : decide (a < 0) = false := by simp; omega
 have na : ¬ a < 0 := by omega
 have eb : decide (b < 0) = true := by simp; omega
 go_enter Tryz.func4, Tryz.ntmps4
 go_wp2_with fail
 refine (told_any' a HA.out W HE.out).mono ?_
 rintro x w1 ⟨rfl, hb1⟩
 have H1 := hd hb1
 clear hb1
 go_wp2_with fail
 refine (told_any' b HB.out w1 (HE.out.below H1.out)).mono ?_
 rintro x w2 ⟨rfl, hb2⟩
 have H2 : Hid (Below W.heap.size W w2) := H1.out.trans (hb2.mono H1.out.size)
 clear hb2
 go_wp2_with fail
 refine (ask1 32 (by omega) 43 rfl a b HA.out HB.out w2 (HE.out.below H2.out).envp).mono ?_
 rintro x w3 ho
 obtain rfl := out_ok ho HQ.out
 have h3 : Below W.heap.size W w3 := H2.out.trans (ho.1.mono H2.out.size)
 have H3 : Hid (Below W.heap.size W (w3.alloc (.cells #[.int .i64 16, .int .i64 (a + b), .string ⟨#[]⟩] 24))) := h3.alloc h3.size _
 have KQ := hd (Blk.new w3 #[.int .i64 16, .int .i64 (a + b), .string ⟨#[]⟩] 24)
 clear ho h3
 go_wp2_with fail
 refine (ask2 a b HA.out HB.out _ (HE.out.below H3.out).envp).mono ?_
 rintro x w5 ho
 obtain rfl := out_ok ho H2V.out
 have h5 : Below W.heap.size W w5 := H3.out.trans (ho.1.mono H3.out.size)
 have H5 : Hid (Below W.heap.size W (w5.alloc (.cells #[.int .i64 16, .int .i64 a, .string ⟨#[]⟩] 24))) := h5.alloc h5.size _
 have KQ3 := (KQ.out.below ho.1 KQ.out.lt).alloc (.cells #[.int .i64 16, .int .i64 a, .string ⟨#[]⟩] 24)
 have q0 := KQ3.cell 0
 have q1 := KQ3.cell 1
 have q2 := KQ3.cell 2
 simp at q0 q1 q2
 have hq := KQ3.lt
 clear ho h5 KQ KQ3
 go_wp2
 all_goals go_ret
 all_goals refine ⟨?_, H5.out⟩
 all_goals first | rfl | (simp; done) | simp
theorem sum_fits4 (a b : Int) (ha : Mg.I64 a) (hb : Mg.I64 b) (hn : Mg.I64 (a + b)) (hsa : a < 0) (hsb : 0 ≤ b) (W : World) (he : EnvD W) :
   Calls Tryz.prog 4 #[.int .i64 a, .int .i64 b] W fun e W' => e = .returned (.bool true) ∧ Below W.heap.size W W' := by
 have HE := hd he
 have HA := hd ha
 have HB := hd hb
 have hs1 := num_size a
 have hs2 := num_size b
 have HQ := hd (Mg.sum_ok hn)
 have H2V := hd (Mg.val_e2 ha hn)
 have hk : wrap64 (a + b) = a + b := Mn.wrap_in _ hn
 have hA := ha
 have hB := hb
 unfold Mg.I64 at hA hB hn
 clear he ha hb
 have ea : decide (a < 0) = true := by simp; omega
 have eb : decide (b < 0) = false := by simp; omega
 have nb : ¬ b < 0 := by omega
 go_enter Tryz.func4, Tryz.ntmps4
 go_wp2_with fail
 refine (told_any' a HA.out W HE.out).mono ?_
 rintro x w1 ⟨rfl, hb1⟩
 have H1 := hd hb1
 clear hb1
 go_wp2_with fail
 refine (told_any' b HB.out w1 (HE.out.below H1.out)).mono ?_
 rintro x w2 ⟨rfl, hb2⟩
 have H2 : Hid (Below W.heap.size W w2) := H1.out.trans (hb2.mono H1.out.size)
 clear hb2
 go_wp2_with fail
 refine (ask1 32 (by omega) 43 rfl a b HA.out HB.out w2 (HE.out.below H2.out).envp).mono ?_
 rintro x w3 ho
 obtain rfl := out_ok ho HQ.out
 have h3 : Below W.heap.size W w3 := H2.out.trans (ho.1.mono H2.out.size)
 have H3 : Hid (Below W.heap.size W (w3.alloc (.cells #[.int .i64 16, .int .i64 (a + b), .string ⟨#[]⟩] 24))) := h3.alloc h3.size _
 have KQ := hd (Blk.new w3 #[.int .i64 16, .int .i64 (a + b), .string ⟨#[]⟩] 24)
 clear ho h3
 go_wp2_with fail
 refine (ask2 a b HA.out HB.out _ (HE.out.below H3.out).envp).mono ?_
 rintro x w5 ho
 obtain rfl := out_ok ho H2V.out
 have h5 : Below W.heap.size W w5 := H3.out.trans (ho.1.mono H3.out.size)
 have H5 : Hid (Below W.heap.size W (w5.alloc (.cells #[.int .i64 16, .int .i64 a, .string ⟨#[]⟩] 24))) := h5.alloc h5.size _
 have KQ3 := (KQ.out.below ho.1 KQ.out.lt).alloc (.cells #[.int .i64 16, .int .i64 a, .string ⟨#[]⟩] 24)
 have q0 := KQ3.cell 0
 have q1 := KQ3.cell 1
 have q2 := KQ3.cell 2
 simp at q0 q1 q2
 have hq := KQ3.lt
 clear ho h5 KQ KQ3
 go_wp2
 all_goals go_ret
 all_goals refine ⟨?_, H5.out⟩
 all_goals first | rfl | (simp; done) | simp
theorem summed_any (a b : Int) (W : World) (he : EnvD W) (ha : (Lit.int .i64 a).wf = true) (hb : (Lit.int .i64 b).wf = true) :
   Calls Tryz.prog 4 #[.int .i64 a, .int .i64 b] W fun e W' => e = .returned (.bool true) ∧ Below W.heap.size W W' := by
 have hA := wfI ha
 have hB := wfI hb
 have hA' := hA
 have hB' := hB
 unfold Mg.I64 at hA' hB'
 by_cases hn : Mg.I64 (a + b)
 · by_cases h1 : 0 ≤ a
   · by_cases h2 : 0 ≤ b
     · exact sum_fits1 a b hA hB hn h1 h2 W he
     · exact sum_fits3 a b hA hB hn h1 (by omega) W he
   · by_cases h2 : 0 ≤ b
     · exact sum_fits4 a b hA hB hn (by omega) h2 W he
     · exact sum_fits2 a b hA hB hn (by omega) (by omega) W he
 · obtain ⟨k, hk, hw1, hw2⟩ := Mn.wrap_k (a + b)
   have hn' := hn
   unfold Mg.I64 at hn'
   by_cases h1 : 0 ≤ a
   · exact sum_over1 a b _ hA hB hn rfl h1 (by omega) (by omega) W he
   · exact sum_over2 a b _ hA hB hn rfl (by omega) (by omega) (by omega) W he
end Lw
end Go.Proofs.YtaiebhhommgnbaaGreatDoor
