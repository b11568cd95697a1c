/- The contract of the document's own reader of one token: a sign; and all together. -/
import Derived.Test.YtihchcoclncjdaaDoorRefG
namespace Go.Proofs.YtihchcoclncjdaaDoor
open Go.RowKit
set_option linter.unusedSimpArgs false
set_option linter.unusedVariables false

set_option maxRecDepth 100000 in
set_option maxHeartbeats 1000000 in
theorem one_sign (s : ByteArray) (a : Nat) (w : World) (hs : s.size ≤ 1000000) (ha : a < s.size) (hl : Lx.isLet s[a] = false) (hd : Lx.isDig s[a] = false) (hq : ¬ (s[a].toNat = 39 ∨ s[a].toNat = 34)) : OneSays s a w := by
  unfold OneSays
  have HS : Hid _ := oneT_sign s a ha hl hd hq
  have hq1 : ((s[a].toNat : Int) == 39) = false := by rw [beq_eq_false_iff_ne]; omega
  have hq2 : ((s[a].toNat : Int) == 34) = false := by rw [beq_eq_false_iff_ne]; omega
  have e2 : Hid ((s.extract a (a + 2)).data.toList = (s.data.toList.drop a).take 2) := by show _ = _; rw [Lib.extract_data]; congr 1; omega
  have e1 : Hid ((s.extract a (a + 1)).data.toList = (s.data.toList.drop a).take 1) := by show _ = _; rw [Lib.extract_data]; congr 1; omega
  clear hq
  by_cases h2 : a + 2 ≤ s.size
  · go_enter Tryd.func15, Tryd.ntmps15
    go_wp2_with fail
    refine (letter_any _ _).mono ?_
    rintro e w' ⟨rfl, rfl⟩
    go_wp2_with fail
    refine (digit_any _ _).mono ?_
    rintro e w' ⟨rfl, rfl⟩
    go_wp2_with fail
    refine (In_any _ _ 4 Lx.twos _ (by decide) (row_cell _ _ _ _ rfl _ (by simp))).mono ?_
    rintro e w' ⟨rfl, rfl⟩
    rw [e2.out]
    cases h3 : Lx.hasB Lx.twos ((s.data.toList.drop a).take 2)
    · go_wp2_with fail
      refine (In_any _ _ 12 Lx.ones _ (by decide) (row_cell _ _ _ _ rfl _ (by simp))).mono ?_
      rintro e w' ⟨rfl, rfl⟩
      rw [e1.out]
      cases h4 : Lx.hasB Lx.ones ((s.data.toList.drop a).take 1)
      · go_wp2_with fail
        refine bodyPost_ret (v := .tuple #[.agg #[.int .i64 51, .string ⟨#[]⟩, .int .i64 a], .int .i64 a, .int .i64 2]) (by simp [results, Tryd.results15, go_sem]) rfl ⟨_, _, _, _, _, rfl, ?_, ?_⟩
        · rw [HS.out, if_neg (by rw [h3]; simp), if_neg (by rw [h4]; simp)]; exact ⟨rfl, by omega⟩
        · exact ((((Below.refl _ _).alloc (Nat.le_refl _) _).alloc (by simp <;> omega) _).alloc (by simp <;> omega) _).alloc (by simp <;> omega) _
      · go_wp2_with fail
        refine bodyPost_ret (v := .tuple #[.agg #[.int .i64 51, .string (s.extract a (a + 1)), .int .i64 a], .int .i64 (a + 1), .int .i64 0]) (by simp [results, Tryd.results15, go_sem]) rfl ⟨_, _, _, _, _, rfl, ?_, ?_⟩
        · rw [HS.out, if_neg (by rw [h3]; simp), if_pos h4]; exact ⟨rfl, rfl, e1.out, rfl, by omega⟩
        · exact ((((Below.refl _ _).alloc (Nat.le_refl _) _).alloc (by simp <;> omega) _).alloc (by simp <;> omega) _).alloc (by simp <;> omega) _
    · go_wp2_with fail
      refine bodyPost_ret (v := .tuple #[.agg #[.int .i64 51, .string (s.extract a (a + 2)), .int .i64 a], .int .i64 (a + 2), .int .i64 0]) (by simp [results, Tryd.results15, go_sem]) rfl ⟨_, _, _, _, _, rfl, ?_, ?_⟩
      · rw [HS.out, if_pos ⟨by omega, h3⟩]; exact ⟨rfl, rfl, e2.out, rfl, by omega⟩
      · exact (((Below.refl _ _).alloc (Nat.le_refl _) _).alloc (by simp <;> omega) _).alloc (by simp <;> omega) _
  · go_enter Tryd.func15, Tryd.ntmps15
    go_wp2_with fail
    refine (letter_any _ _).mono ?_
    rintro e w' ⟨rfl, rfl⟩
    go_wp2_with fail
    refine (digit_any _ _).mono ?_
    rintro e w' ⟨rfl, rfl⟩
    go_wp2_with fail
    refine (In_any _ _ 12 Lx.ones _ (by decide) (row_cell _ _ _ _ rfl _ (by simp))).mono ?_
    rintro e w' ⟨rfl, rfl⟩
    rw [e1.out]
    cases h4 : Lx.hasB Lx.ones ((s.data.toList.drop a).take 1)
    · go_wp2_with fail
      refine bodyPost_ret (v := .tuple #[.agg #[.int .i64 51, .string ⟨#[]⟩, .int .i64 a], .int .i64 a, .int .i64 2]) (by simp [results, Tryd.results15, go_sem]) rfl ⟨_, _, _, _, _, rfl, ?_, ?_⟩
      · rw [HS.out, if_neg (by omega), if_neg (by rw [h4]; simp)]; exact ⟨rfl, by omega⟩
      · exact (((Below.refl _ _).alloc (Nat.le_refl _) _).alloc (by simp <;> omega) _).alloc (by simp <;> omega) _
    · go_wp2_with fail
      refine bodyPost_ret (v := .tuple #[.agg #[.int .i64 51, .string (s.extract a (a + 1)), .int .i64 a], .int .i64 (a + 1), .int .i64 0]) (by simp [results, Tryd.results15, go_sem]) rfl ⟨_, _, _, _, _, rfl, ?_, ?_⟩
      · rw [HS.out, if_neg (by omega), if_pos h4]; exact ⟨rfl, rfl, e1.out, rfl, by omega⟩
      · exact (((Below.refl _ _).alloc (Nat.le_refl _) _).alloc (by simp <;> omega) _).alloc (by simp <;> omega) _

/-- 'one' reads the token that stands at a place. -/
theorem one_any (s : ByteArray) (a : Nat) (w : World) (hs : s.size ≤ 1000000) (ha : a < s.size) : OneSays s a w := by
  cases hl : Lx.isLet s[a]
  · cases hd : Lx.isDig s[a]
    · by_cases h1 : s[a].toNat = 39
      · exact one_quote39 s a w hs ha hl hd h1
      · by_cases h2 : s[a].toNat = 34
        · exact one_quote34 s a w hs ha hl hd h2
        · exact one_sign s a w hs ha hl hd (by omega)
    · exact one_digit s a w hs ha hl hd
  · exact one_letter s a w hs ha hl
end Go.Proofs.YtihchcoclncjdaaDoor
