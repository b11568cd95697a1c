/- The contract of the document's own reader of one token: a word, a number. -/
import Derived.Test.YtihchcoclncjdaaDoorRefE
namespace Go.Proofs.YtihchcoclncjdaaDoor
open Go.RowKit
set_option linter.unusedSimpArgs false
set_option linter.unusedVariables false

/-- A call of 'one' at a place. -/
def OneSays (s : ByteArray) (a : Nat) (w : World) : Prop :=
  Calls Tryd.prog 15 #[.string s, .int .i64 a] w fun e w' => ∃ (kv : Int) (tv : ByteArray) (pv en ec : Int),
    e = .returned (.tuple #[.agg #[.int .i64 kv, .string tv, .int .i64 pv], .int .i64 en, .int .i64 ec]) ∧ OneV (Lx.oneT (s.data.toList.drop a)) a kv tv pv en ec ∧ Below w.heap.size w w'

set_option maxRecDepth 100000 in
set_option maxHeartbeats 1000000 in
theorem one_letter (s : ByteArray) (a : Nat) (w : World) (hs : s.size ≤ 1000000) (ha : a < s.size) (hl : Lx.isLet s[a] = true) : OneSays s a w := by
  unfold OneSays
  have hm : s.size ≤ maxLen := by unfold maxLen; omega
  have HL : Hid _ := oneT_letter s a ha hl
  have hcn := Lx.cnt_le Lx.isWd (s.data.toList.drop a)
  simp only [List.length_drop, Array.length_toList] at hcn
  have hcn2 : Lx.cnt Lx.isWd (s.data.toList.drop a) ≤ s.size - a := hcn
  clear hcn
  have HR := run_any s a true w hm (by omega)
  generalize hgn : Lx.cnt Lx.isWd (s.data.toList.drop a) = n at *
  have HGN : Hid _ := hgn
  clear hgn HR
  go_enter Tryd.func15, Tryd.ntmps15
  go_wp2_with fail
  refine (letter_any _ _).mono ?_
  rintro e w' ⟨rfl, rfl⟩
  go_wp2_with fail
  refine (digit_any _ _).mono ?_
  rintro e w' ⟨rfl, rfl⟩
  go_wp2_with fail
  refine (run_any s a true _ hm (by omega)).mono ?_
  rintro e w' ⟨rfl, rfl⟩
  simp only [if_true]
  rw [HGN.out]
  go_wp2_with fail
  refine (upper_any _ _ (by simp; omega)).mono ?_
  rintro e w1 ⟨up, rfl, hup, hb1⟩
  have HU : Hid _ := hup
  clear hup
  have A1 : Blk w1 w.heap.size #[.int .i64 0, .string ⟨#[]⟩, .int .i64 0] 43 := ((Blk.new w _ _).alloc _).below hb1 (by simp; omega)
  have B1 : Blk w1 (w.heap.size + 1) #[.int .i64 0, .string ⟨#[]⟩, .int .i64 a] 43 := (by have h := Blk.new (w.alloc (.cells #[.int .i64 0, .string ⟨#[]⟩, .int .i64 0] 43)) #[.int .i64 0, .string ⟨#[]⟩, .int .i64 a] 43; simp only [World.size_alloc] at h; exact h.below hb1 (by simp))
  have hz1 : w.heap.size + 1 < w1.heap.size := B1.lt
  obtain ⟨⟨a10, a11, a12⟩, a13, a14, a15⟩ := A1.three
  obtain ⟨⟨b10, b11, b12⟩, b13, b14, b15⟩ := B1.three
  have hB1 : Hid (Below w.heap.size w w1) := (((Below.refl _ _).alloc (Nat.le_refl _) _).alloc (by simp) _).trans (hb1.mono (by simp; omega))
  clear hb1
  have HK2 : Hid (up.data.toList = ((s.data.toList.drop a).take n).map Lx.upB) := by have h := HU.out; rw [Lib.extract_data] at h; rw [h]; show _ = _; congr 2; omega
  go_wp2_with fail
  refine (keywords_any _).mono ?_
  rintro e w2 ⟨rfl, rfl⟩
  go_wp2_with fail
  refine (In_any up _ 27 Lx.keys _ (by decide) (strRow_cell _ _ _)).mono ?_
  rintro e w3 ⟨rfl, rfl⟩
  cases hk : Lx.hasB Lx.keys up.data.toList
  all_goals
    go_wp2_with fail
    refine (lower_any _ _ (by simp; omega)).mono ?_
    rintro e w4 ⟨lo, rfl, hlo, hb4⟩
    have HLO : Hid (lo.data.toList = ((s.data.toList.drop a).take n).map Lx.lowB) := by rw [Lib.extract_data] at hlo; rw [hlo]; show _ = _; congr 2; omega
    clear hlo
    have A4 := ((A1.far ⟨w.heap.size + 1, 0, none⟩ (.int .i64 18) (by simp)).alloc (.cells (strRow Lx.keys) 9)).below hb4 (by simp; omega)
    have B4 := ((B1.set 0 (.int .i64 18)).alloc (.cells (strRow Lx.keys) 9)).below hb4 (by simp; omega)
    have hB4 : Hid (Below w.heap.size w w4) := ((hB1.out.setCell (by simp) _).alloc (by simp; omega) _).trans (hb4.mono (by simp; omega))
    clear hb4 a10 a11 a12 a13 a14 a15 b10 b11 b12 b13 b14 b15
    have hz4 : w.heap.size + 1 < w4.heap.size := B4.lt
    obtain ⟨⟨a40, a41, a42⟩, a43, a44, a45⟩ := A4.three
    obtain ⟨⟨b40, b41, b42⟩, b43, b44, b45⟩ := Blk.three B4
    go_wp2
  · have D := far1 ⟨A4, hB4.out⟩ 1 (.string lo)
    obtain ⟨F, G⟩ := fin3 D.1 D.2 18 lo a
    obtain ⟨⟨f0, f1, f2⟩, -⟩ := Blk.three F
    refine bodyPost_ret (v := .tuple #[.agg #[.int .i64 18, .string lo, .int .i64 a], .int .i64 (a + n), .int .i64 0]) ?_ rfl ⟨18, lo, a, a + n, 0, rfl, ?_, G⟩
    · simp only [f0, f1, f2, results, Tryd.results15, go_sem]
      simp [f0, f1, f2, go_sem]
    · rw [HL.out, ← HK2.out, hk, ← HLO.out]
      exact ⟨rfl, rfl, rfl, rfl, by omega⟩
  · have D := far1 (far1 (far1 ⟨A4, hB4.out⟩ 1 (.string lo)) 0 (.int .i64 50)) 1 (.string up)
    obtain ⟨F, G⟩ := fin3 D.1 D.2 50 up a
    obtain ⟨⟨f0, f1, f2⟩, -⟩ := Blk.three F
    refine bodyPost_ret (v := .tuple #[.agg #[.int .i64 50, .string up, .int .i64 a], .int .i64 (a + n), .int .i64 0]) ?_ rfl ⟨50, up, a, a + n, 0, rfl, ?_, G⟩
    · simp only [f0, f1, f2, results, Tryd.results15, go_sem]
      simp [f0, f1, f2, go_sem]
    · rw [HL.out, ← HK2.out, hk]
      exact ⟨rfl, rfl, rfl, rfl, by omega⟩

set_option maxRecDepth 100000 in
set_option maxHeartbeats 1000000 in
theorem one_digit (s : ByteArray) (a : Nat) (w : World) (hs : s.size ≤ 1000000) (ha : a < s.size) (hl : Lx.isLet s[a] = false) (hd : Lx.isDig s[a] = true) : OneSays s a w := by
  unfold OneSays
  have hm : s.size ≤ maxLen := by unfold maxLen; omega
  have HL : Hid _ := oneT_digit s a ha hl hd
  have hcn := Lx.cnt_le Lx.isWd (s.data.toList.drop a)
  have hcd := Lx.cnt_le Lx.isDig (s.data.toList.drop a)
  simp only [List.length_drop, Array.length_toList] at hcn hcd
  have hcn2 : Lx.cnt Lx.isWd (s.data.toList.drop a) ≤ s.size - a := hcn
  have hcd2 : Lx.cnt Lx.isDig (s.data.toList.drop a) ≤ s.size - a := hcd
  clear hcn hcd
  generalize hgn : Lx.cnt Lx.isWd (s.data.toList.drop a) = n at *
  generalize hgd : Lx.cnt Lx.isDig (s.data.toList.drop a) = d at *
  have HGN : Hid _ := hgn
  have HGD : Hid _ := hgd
  clear hgn hgd
  go_enter Tryd.func15, Tryd.ntmps15
  go_wp2_with fail
  refine (letter_any _ _).mono ?_
  rintro e w' ⟨rfl, rfl⟩
  go_wp2_with fail
  refine (digit_any _ _).mono ?_
  rintro e w' ⟨rfl, rfl⟩
  go_wp2_with fail
  refine (run_any s a false _ hm (by omega)).mono ?_
  rintro e w' ⟨rfl, rfl⟩
  simp only [Bool.false_eq_true, if_false]
  rw [HGD.out]
  go_wp2_with fail
  refine (run_any s a true _ hm (by omega)).mono ?_
  rintro e w' ⟨rfl, rfl⟩
  simp only [if_true]
  rw [HGN.out]
  by_cases hdn : d < n
  · have hov : Lx.oneT (s.data.toList.drop a) = .error 2 := by rw [HL.out, if_pos hdn]
    have HV : Hid _ := hov
    clear hov
    go_wp2_with fail
    refine bodyPost_ret (v := .tuple #[.agg #[.int .i64 0, .string ⟨#[]⟩, .int .i64 a], .int .i64 a, .int .i64 2]) (by simp [results, Tryd.results15, go_sem]) rfl ⟨_, _, _, _, _, rfl, ?_, ?_⟩
    · rw [HV.out]; exact ⟨rfl, by omega⟩
    · exact ((Below.refl _ _).alloc (Nat.le_refl _) _).alloc (by simp) _
  · go_wp2_with fail
    refine (least_any _ _ (by simp; omega)).mono ?_
    rintro e w' ⟨t, rfl, ht, rfl⟩
    have HT : Hid (t.data.toList = Lx.leastB ((s.data.toList.drop a).take d)) := by rw [Lib.extract_data] at ht; rw [ht]; show _ = _; congr 2; omega
    clear ht
    have HN : Hid (Lx.oneT (s.data.toList.drop a) = if Lx.overTop t.data.toList then .error 3 else .ok (16, t.data.toList, d)) := by rw [HL.out, if_neg hdn, HT.out]; rfl
    have hts : t.size = t.data.toList.length := Lib.size_eq t
    have HTS : Hid _ := hts
    clear hts
    go_wp2
    · refine bodyPost_ret (v := .tuple #[.agg #[.int .i64 16, .string t, .int .i64 a], .int .i64 a, .int .i64 3]) (by simp [results, Tryd.results15, go_sem]) rfl ⟨_, _, _, _, _, rfl, ?_, ?_⟩
      · rw [HN.out, if_pos (over_yes HTS.out (.inr ⟨‹_›, ‹_›⟩))]; exact ⟨rfl, by omega⟩
      · exact ((Below.refl _ _).alloc (Nat.le_refl _) _).alloc (by simp) _
    · refine bodyPost_ret (v := .tuple #[.agg #[.int .i64 16, .string t, .int .i64 a], .int .i64 (a + d), .int .i64 0]) (by simp [results, Tryd.results15, go_sem]) rfl ⟨_, _, _, _, _, rfl, ?_, ?_⟩
      · rw [HN.out, if_neg (over_no HTS.out ‹_› (.inr ‹_›))]; exact ⟨rfl, rfl, rfl, rfl, by omega⟩
      · exact ((Below.refl _ _).alloc (Nat.le_refl _) _).alloc (by simp) _
    · refine bodyPost_ret (v := .tuple #[.agg #[.int .i64 16, .string t, .int .i64 a], .int .i64 (a + d), .int .i64 0]) (by simp [results, Tryd.results15, go_sem]) rfl ⟨_, _, _, _, _, rfl, ?_, ?_⟩
      · rw [HN.out, if_neg (over_no HTS.out ‹_› (.inl ‹_›))]; exact ⟨rfl, rfl, rfl, rfl, by omega⟩
      · exact ((Below.refl _ _).alloc (Nat.le_refl _) _).alloc (by simp) _
    · refine bodyPost_ret (v := .tuple #[.agg #[.int .i64 16, .string t, .int .i64 a], .int .i64 a, .int .i64 3]) (by simp [results, Tryd.results15, go_sem]) rfl ⟨_, _, _, _, _, rfl, ?_, ?_⟩
      · rw [HN.out, if_pos (over_yes HTS.out (.inl ‹_›))]; exact ⟨rfl, by omega⟩
      · exact ((Below.refl _ _).alloc (Nat.le_refl _) _).alloc (by simp) _
end Go.Proofs.YtihchcoclncjdaaDoor
