/- Contracts of the document's own readers of characters: follows, char, Valid. -/
import Derived.Test.YtihchcoclncjdaaDoorRefA
namespace Go.Proofs.YtihchcoclncjdaaDoor
open Go.RowKit
set_option linter.unusedSimpArgs false
set_option linter.unusedVariables false

set_option maxHeartbeats 400000 in
theorem follows_any (s : ByteArray) (a lo hi : Int) (w : World) (hs : s.size ≤ maxLen) (ha : 0 ≤ a) (hl : 0 ≤ lo) (hh : 0 ≤ hi) :
    Calls Tryd.prog 47 #[.string s, .int .i64 a, .int .u8 lo, .int .u8 hi] w fun e w' => e = .returned (.bool (Lx.folB s.data.toList a.toNat lo.toNat hi.toNat)) ∧ w' = w := by
  unfold maxLen at hs
  obtain ⟨k, rfl⟩ := Int.eq_ofNat_of_zero_le ha
  rw [Int.toNat_natCast]
  by_cases hlt : k < s.size
  · have hf : Lx.folB s.data.toList k lo.toNat hi.toNat = decide (lo.toNat ≤ s[k].toNat ∧ s[k].toNat ≤ hi.toNat) := by
      unfold Lx.folB
      rw [List.getElem?_eq_getElem (by simpa using hlt)]
      rfl
    have HF : Hid _ := hf
    clear hf
    go_enter Tryd.func47, Tryd.ntmps47
    go_wp2
    all_goals
      go_ret
      refine ⟨ret_bool ?_, rfl⟩
      rw [HF.out, Bool.eq_iff_iff]; simp; omega
  · have hf : Lx.folB s.data.toList k lo.toNat hi.toNat = false := by
      unfold Lx.folB
      rw [List.getElem?_eq_none (by simpa using hlt)]
    rw [hf]
    go_enter Tryd.func47, Tryd.ntmps47
    go_wp2
    all_goals
      go_ret
      exact ⟨ret_bool rfl, rfl⟩

set_option maxRecDepth 100000 in
set_option maxHeartbeats 1000000 in
theorem char_any (s : ByteArray) (a : Nat) (w : World) (ha : a < s.size) (hs : s.size ≤ 1000000000) :
    Calls Tryd.prog 36 #[.string s, .int .i64 a] w fun e w' => e = .returned (.int .i64 (Lx.charN (s.data.toList.drop a) : Nat)) ∧ w' = w := by
  have hm : s.size ≤ maxLen := by unfold maxLen; omega
  have hB : Hid (Lx.charN (s.data.toList.drop a) = _) := charN_at s a ha
  have hlo : Hid (Lx.loOf s[a].toNat = if s[a].toNat = 224 then 160 else if s[a].toNat = 240 then 144 else 128) := rfl
  have hhi : Hid (Lx.hiOf s[a].toNat = if s[a].toNat = 237 then 159 else if s[a].toNat = 244 then 143 else 191) := rfl
  have hb : s[a].toNat < 256 := s[a].toNat_lt
  go_enter Tryd.func36, Tryd.ntmps36
  go_wp2_with fail
  refine (follows_any s _ _ _ _ hm (by omega) (by omega) (by omega)).mono ?_
  rintro e w' ⟨rfl, rfl⟩
  rw [show ((a : Int) + 1).toNat = a + 1 from by omega]
  go_wp2_with fail
  refine (follows_any s _ _ _ _ hm (by omega) (by omega) (by omega)).mono ?_
  rintro e w' ⟨rfl, rfl⟩
  rw [show ((a : Int) + 2).toNat = a + 2 from by omega]
  go_wp2_with fail
  refine (follows_any s _ _ _ _ hm (by omega) (by omega) (by omega)).mono ?_
  rintro e w' ⟨rfl, rfl⟩
  rw [show ((a : Int) + 3).toNat = a + 3 from by omega]
  generalize s[a].toNat = c at *
  go_wp2_with fail
  all_goals
    have hN : ∀ lo hi : Int, lo = Lx.loOf c → hi = Lx.hiOf c → Lx.folB s.data.toList ((a : Int) + 1).toNat lo.toNat hi.toNat = Lx.folB s.data.toList (a + 1) (Lx.loOf c) (Lx.hiOf c) := by
      intro lo hi e1 e2; rw [e1, e2, Int.toNat_natCast, Int.toNat_natCast, show ((a : Int) + 1).toNat = a + 1 from by omega]
    have HN : Hid _ := hN
    clear hN
    refine (follows_any s _ _ _ _ hm (by omega) (by omega) (by omega)).mono ?_
    rintro e w' ⟨rfl, rfl⟩
    first
      | (have q := beq_yes (c := c) (n := 224) (by assumption)
         rw [HN.out _ _ (by rw [hlo.out, if_pos q]; rfl) (by rw [hhi.out, if_neg (by omega), if_neg (by omega)]; rfl)])
      | (have q0 := beq_no (c := c) (n := 224) (by assumption)
         have q := beq_yes (c := c) (n := 237) (by assumption)
         rw [HN.out _ _ (by rw [hlo.out, if_neg q0, if_neg (by omega)]; rfl) (by rw [hhi.out, if_pos q]; rfl)])
      | (have q0 := beq_no (c := c) (n := 224) (by assumption)
         have q := beq_yes (c := c) (n := 240) (by assumption)
         rw [HN.out _ _ (by rw [hlo.out, if_neg q0, if_pos q]; rfl) (by rw [hhi.out, if_neg (by omega), if_neg (by omega)]; rfl)])
      | (have q0 := beq_no (c := c) (n := 224) (by assumption)
         have q := beq_yes (c := c) (n := 244) (by assumption)
         rw [HN.out _ _ (by rw [hlo.out, if_neg q0, if_neg (by omega)]; rfl) (by rw [hhi.out, if_neg (by omega), if_pos q]; rfl)])
      | (have q1 := beq_no (c := c) (n := 224) (by assumption)
         have q2 := beq_no (c := c) (n := 237) (by assumption)
         have q3 := beq_no (c := c) (n := 240) (by assumption)
         have q4 := beq_no (c := c) (n := 244) (by assumption)
         rw [HN.out _ _ (by rw [hlo.out, if_neg q1, if_neg q3]; rfl) (by rw [hhi.out, if_neg q2, if_neg q4]; rfl)])
    clear HN
  all_goals
    generalize Lx.folB s.data.toList (a + 1) 128 191 = f1 at *
    generalize Lx.folB s.data.toList (a + 1) (Lx.loOf c) (Lx.hiOf c) = fn at *
    generalize Lx.folB s.data.toList (a + 2) 128 191 = f2 at *
    generalize Lx.folB s.data.toList (a + 3) 128 191 = f3 at *
    go_wp2_with fail
  all_goals
    go_ret
    refine ⟨ret_int ?_, rfl⟩
    go_light
    rw [hB.out]
    clear hB hlo hhi
    simp only [beq_iff_eq, beq_eq_false_iff_ne, ne_eq] at *
    unfold charB
    try simp only [*]
    repeat' (split)
    all_goals (first | rfl | omega | (simp at * <;> omega))
end Go.Proofs.YtihchcoclncjdaaDoor
