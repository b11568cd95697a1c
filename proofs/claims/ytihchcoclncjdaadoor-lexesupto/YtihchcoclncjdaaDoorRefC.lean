/- Contracts of the document's own readers: Valid, least, skip. -/
import Derived.Test.YtihchcoclncjdaaDoorRefB
namespace Go.Proofs.YtihchcoclncjdaaDoor
open Go.RowKit
set_option linter.unusedSimpArgs false
set_option linter.unusedVariables false

set_option maxHeartbeats 400000 in
theorem Valid_any (s : ByteArray) (w : World) (hs : s.size ≤ 1000000000) :
    Calls Tryd.prog 29 #[.string s] w fun e w' => e = .returned (.bool (Lx.validN s.data.toList)) ∧ w' = w := by
  go_enter Tryd.func29, Tryd.ntmps29
  go_wp2
  go_loop [3] (fun i => ∃ k : Nat, k ≤ s.size ∧ i = .int .i64 k ∧ Hid (Lx.validN s.data.toList = Lx.validN (s.data.toList.drop k))) (fun i => s.size - (intOf i).toNat)
  case atStart => exact ⟨0, by omega, rfl, by show _ = _; simp⟩
  case round =>
    obtain ⟨k, hk, rfl, HK⟩ := hrel
    by_cases hlt : k < s.size
    · have HC : Hid (Lx.validN (s.data.toList.drop k) = _) := valid_at s k hlt
      have hle := Lx.charN_le (s.data.toList.drop k)
      simp only [List.length_drop, Array.length_toList] at hle
      have hle2 : Lx.charN (s.data.toList.drop k) ≤ s.size - k := hle
      clear hle
      go_wp2_with (go_at_call 36; refine (char_any _ _ _ hlt hs).mono ?_; rintro e w' ⟨rfl, rfl⟩; generalize Lx.charN (List.drop k s.data.toList) = n at *)
      · go_ret
        exact ⟨ret_bool (by rw [HK.out, HC.out, if_pos (.inl ‹_›)]), rfl⟩
      · go_ret
        exact ⟨ret_bool (by rw [HK.out, HC.out, if_pos (or_zero ‹_›)]), rfl⟩
      · go_round
        case rel => exact ⟨k + n, by omega, by go_num, by show _ = _; rw [HK.out, HC.out, if_neg (and_zero ‹_›)]⟩
        case measure => have := and_zero ‹_›; simp [intOf]; omega
    · go_wp2
      go_ret
      exact ⟨ret_bool (by rw [HK.out, valid_end s k (by omega)]), rfl⟩

set_option maxHeartbeats 400000 in
theorem least_any (s : ByteArray) (w : World) (hs : s.size ≤ 1000000000) :
    Calls Tryd.prog 27 #[.string s] w fun e w' => ∃ t : ByteArray, e = .returned (.string t) ∧ t.data.toList = Lx.leastB s.data.toList ∧ w' = w := by
  go_enter Tryd.func27, Tryd.ntmps27
  go_wp2
  go_loop [0] (fun v => ∃ t : ByteArray, t.size ≤ s.size ∧ v = .string t ∧ Hid (Lx.leastB s.data.toList = Lx.leastB t.data.toList)) (fun v => strSize v)
  case atStart => exact ⟨s, by omega, rfl, rfl⟩
  case round =>
    obtain ⟨t, ht, rfl, HK⟩ := hrel
    by_cases h1 : 1 < t.size
    · have HE : Hid (Lx.leastB t.data.toList = if t[0].toNat = 48 then Lx.leastB (t.data.toList.drop 1) else t.data.toList) := least_at t h1
      go_wp2
      · go_round
        case rel =>
          have q := beq_yes (c := t[0].toNat) (n := 48) (by assumption)
          exact ⟨t.extract 1 t.size, by simp; omega, rfl, by show _ = _; rw [HK.out, HE.out, if_pos q, Lib.extract_to_end]⟩
        case measure => simp [strSize]; omega
      · go_ret
        have q := beq_no (c := t[0].toNat) (n := 48) (by assumption)
        exact ⟨t, rfl, by rw [HK.out, HE.out, if_neg q], rfl⟩
    · go_wp2
      go_ret
      exact ⟨t, rfl, by rw [HK.out, least_short t (by omega)], rfl⟩

set_option maxHeartbeats 1000000 in
theorem skip_any (s : ByteArray) (a : Nat) (w : World) (hs : s.size ≤ 1000000000) (ha : a ≤ s.size) :
    Calls Tryd.prog 14 #[.string s, .int .i64 a] w fun e w' => e = .returned (.int .i64 (a + Lx.skipN (s.data.toList.drop a) : Nat)) ∧ w' = w := by
  go_enter Tryd.func14, Tryd.ntmps14
  go_wp2
  go_loop [1] (fun i => ∃ k : Nat, k ≤ s.size ∧ i = .int .i64 k ∧ Hid (a + Lx.skipM false (s.data.toList.drop a) = k + Lx.skipM false (s.data.toList.drop k))) (fun i => s.size - (intOf i).toNat)
  case atStart => exact ⟨a, by omega, rfl, rfl⟩
  case round =>
    obtain ⟨k, hk, rfl, HK⟩ := hrel
    by_cases hlt : k < s.size
    · go_wp2_with fail
      · have hd := skip_dash s k (by assumption) (by assumption)
        obtain ⟨hd1, hd2⟩ := hd
        have HD1 : Hid _ := hd1
        have HD2 : Hid _ := hd2
        clear hd1 hd2
        go_loop [1] (fun i => ∃ j : Nat, k ≤ j ∧ j ≤ s.size ∧ i = .int .i64 j ∧ Hid (a + Lx.skipM false (s.data.toList.drop a) = j + Lx.skipM true (s.data.toList.drop j))) (fun i => s.size - (intOf i).toNat)
        case atStart => exact ⟨k, by omega, by omega, rfl, by show _ = _; rw [HK.out, HD1.out]⟩
        case round =>
          obtain ⟨j, hj1, hj2, rfl, HJ⟩ := hrel
          by_cases hjl : j < s.size
          · have HI : Hid _ := skip_in s j hjl
            go_wp2
            · go_round
              case rel =>
                have q := bne_yes (c := s[j].toNat) (n := 10) (by assumption)
                exact ⟨j + 1, by omega, by omega, by go_num, by have h1 := HJ.out; have h2 := HI.out; rw [if_neg q] at h2; show _ = _; omega⟩
              case measure => simp [intOf]; omega
            · go_round
              case rel =>
                have q := bne_no (c := s[j].toNat) (n := 10) (by assumption)
                refine ⟨j, by omega, rfl, ?_⟩
                have h1 := HJ.out; have h2 := HI.out; rw [if_pos q] at h2
                have h3 := skip_nl s j hjl q
                show _ = _; omega
              case measure =>
                have q := bne_no (c := s[j].toNat) (n := 10) (by assumption)
                have h1 := HD2.out
                have : j ≠ k := by rintro rfl; omega
                simp [intOf]; omega
          · go_wp2
            go_round
            case rel =>
              refine ⟨j, by omega, rfl, ?_⟩
              have h1 := HJ.out
              rw [skip_end true s j (by omega)] at h1
              show _ = _; rw [skip_end false s j (by omega)]; omega
            case measure => simp [intOf]; omega
      · refine (space_any _ _).mono ?_
        rintro e w' ⟨rfl, rfl⟩
        have HP : Hid _ := skip_plain s k hlt (.inl (by assumption))
        cases hsp : Lx.isSp s[k]
        all_goals go_wp2
        · go_ret
          exact ⟨ret_int (by have h1 := HK.out; have h2 := HP.out; rw [hsp] at h2; simp at h2; unfold Lx.skipN; omega), rfl⟩
        · go_round
          case rel => exact ⟨k + 1, by omega, by go_num, by have h1 := HK.out; have h2 := HP.out; rw [hsp] at h2; simp at h2; show _ = _; omega⟩
          case measure => simp [intOf]; omega
      · refine (space_any _ _).mono ?_
        rintro e w' ⟨rfl, rfl⟩
        have HP : Hid _ := skip_plain s k hlt (.inr (by assumption))
        cases hsp : Lx.isSp s[k]
        all_goals go_wp2
        · go_ret
          exact ⟨ret_int (by have h1 := HK.out; have h2 := HP.out; rw [hsp] at h2; simp at h2; unfold Lx.skipN; omega), rfl⟩
        · go_round
          case rel => exact ⟨k + 1, by omega, by go_num, by have h1 := HK.out; have h2 := HP.out; rw [hsp] at h2; simp at h2; show _ = _; omega⟩
          case measure => simp [intOf]; omega
    · go_wp2
      go_ret
      exact ⟨ret_int (by have h1 := HK.out; rw [skip_end false s k (by omega)] at h1; unfold Lx.skipN; omega), rfl⟩
end Go.Proofs.YtihchcoclncjdaaDoor
