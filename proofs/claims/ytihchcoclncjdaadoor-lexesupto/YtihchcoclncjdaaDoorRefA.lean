/- Contracts of the document's own small readers: space, letter, digit, follows. -/
import Derived.Test.YtihchcoclncjdaaDoorBas
namespace Go.Proofs.YtihchcoclncjdaaDoor
open Go.RowKit
set_option linter.unusedSimpArgs false
set_option linter.unusedVariables false

set_option maxHeartbeats 400000 in
theorem space_any (b : UInt8) (w : World) :
    Calls Tryd.prog 19 #[.int .u8 (b.toNat : Int)] w fun e w' => e = .returned (.bool (Lx.isSp b)) ∧ w' = w := by
  go_enter Tryd.func19, Tryd.ntmps19
  go_wp2
  all_goals
    go_ret
    refine ⟨ret_bool ?_, rfl⟩
    rw [Bool.eq_iff_iff]; simp [Lx.isSp]; omega

set_option maxHeartbeats 400000 in
theorem digit_any (b : UInt8) (w : World) :
    Calls Tryd.prog 21 #[.int .u8 (b.toNat : Int)] w fun e w' => e = .returned (.bool (Lx.isDig b)) ∧ w' = w := by
  go_enter Tryd.func21, Tryd.ntmps21
  go_wp2
  all_goals
    go_ret
    refine ⟨ret_bool ?_, rfl⟩
    rw [Bool.eq_iff_iff]; simp [Lx.isDig]; omega

set_option maxHeartbeats 400000 in
theorem letter_any (b : UInt8) (w : World) :
    Calls Tryd.prog 20 #[.int .u8 (b.toNat : Int)] w fun e w' => e = .returned (.bool (Lx.isLet b)) ∧ w' = w := by
  go_enter Tryd.func20, Tryd.ntmps20
  go_wp2
  all_goals
    go_ret
    refine ⟨ret_bool ?_, rfl⟩
    rw [Bool.eq_iff_iff]; simp [Lx.isLet]; omega

set_option maxHeartbeats 400000 in
theorem run_any (s : ByteArray) (a : Nat) (lets : Bool) (w : World) (hs : s.size ≤ maxLen) (ha : a ≤ s.size) :
    Calls Tryd.prog 22 #[.string s, .int .i64 a, .bool lets] w fun e w' => e = .returned (.int .i64 (a + Lx.cnt (if lets then Lx.isWd else Lx.isDig) (s.data.toList.drop a) : Nat)) ∧ w' = w := by
  unfold maxLen at hs
  obtain ⟨p, hp⟩ : ∃ p, p = (if lets = true then Lx.isWd else Lx.isDig) := ⟨_, rfl⟩
  have hpp : ∀ b, p b = (Lx.isDig b || (lets && Lx.isLet b)) := by
    intro b; subst hp; cases lets <;> simp [Lx.isWd]
  rw [← hp]
  have HP : Hid (∀ b, p b = (Lx.isDig b || (lets && Lx.isLet b))) := hpp
  clear hpp hp
  go_enter Tryd.func22, Tryd.ntmps22
  go_wp2
  go_loop [1] (fun i => ∃ k : Nat, k ≤ s.size ∧ i = .int .i64 k ∧ Hid (a + Lx.cnt p (s.data.toList.drop a) = k + Lx.cnt p (s.data.toList.drop k))) (fun i => s.size - (intOf i).toNat)
  case atStart => exact ⟨a, ha, rfl, rfl⟩
  case round =>
    obtain ⟨k, hk, rfl, HK⟩ := hrel
    by_cases hlt : k < s.size
    · have HC : Hid (Lx.cnt p (s.data.toList.drop k) = if p s[k] = true then Lx.cnt p (s.data.toList.drop (k + 1)) + 1 else 0) := cnt_at p s k hlt
      cases hd : Lx.isDig s[k] <;> cases hl : Lx.isLet s[k] <;> cases lets
      all_goals
        have HQ := HP.out s[k]
        simp only [hd, hl, Bool.or_true, Bool.true_or, Bool.or_false, Bool.false_or, Bool.and_true, Bool.and_false] at HQ
        have HQ' : Hid _ := HQ
        clear HQ
        go_wp2_with (first | (go_at_call 21; refine (digit_any _ _).mono ?_; rintro e w' ⟨rfl, rfl⟩) | (go_at_call 20; refine (letter_any _ _).mono ?_; rintro e w' ⟨rfl, rfl⟩))
      all_goals first
        | (go_round
           case rel => exact ⟨k + 1, by omega, by go_num, by have h1 := HK.out; have h2 := HC.out; rw [HQ'.out] at h2; simp at h2; show _ = _; omega⟩
           case measure => simp [intOf]; omega)
        | (go_ret
           exact ⟨ret_int (by have h1 := HK.out; have h2 := HC.out; rw [HQ'.out] at h2; simp at h2; omega), rfl⟩)
    · go_wp2
      go_ret
      exact ⟨ret_int (by have h1 := HK.out; rw [cnt_end p s k (by omega)] at h1; omega), rfl⟩
end Go.Proofs.YtihchcoclncjdaaDoor
