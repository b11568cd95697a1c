/- The contract of the document's own reader of one token: what stands in quotes, a sign; and all together. -/
import Derived.Test.YtihchcoclncjdaaDoorRefF
namespace Go.Proofs.YtihchcoclncjdaaDoor
open Go.RowKit
set_option linter.unusedSimpArgs false
set_option linter.unusedVariables false

set_option maxRecDepth 100000 in
set_option maxHeartbeats 1000000 in
theorem one_quote39 (s : ByteArray) (a : Nat) (w : World) (hs : s.size ≤ 1000000) (ha : a < s.size) (hl : Lx.isLet s[a] = false) (hd : Lx.isDig s[a] = false) (hq : s[a].toNat = 39) : OneSays s a w := by
  unfold OneSays
  have HQ : Hid (∀ t n, _) := quote_bad s a ha hl hd (by omega)
  have HG : Hid (∀ t n, _) := quote_good s a ha hl hd (by omega)
  have q1 : 39 ≤ s[a].toNat := by omega
  have q2 : s[a].toNat ≤ 39 := by omega
  have hq1 : ((s[a].toNat : Int) == 39) = true := by rw [hq]; rfl
  have hq2 : ((s[a].toNat : Int) == 34) = false := by rw [hq]; rfl
  have HQ0 : Hid _ := hq
  clear hq
  go_enter Tryd.func15, Tryd.ntmps15
  go_wp2_with fail
  refine (letter_any _ _).mono ?_
  rintro e w' ⟨rfl, rfl⟩
  go_wp2_with fail
  refine (digit_any _ _).mono ?_
  rintro e w' ⟨rfl, rfl⟩
  go_wp2_with fail
  refine (between_any s a _ hs ha).mono ?_
  rintro e w1 ⟨t, n, rfl, hbt, hb1⟩
  have hts := betwV_size hbt
  simp only [List.length_drop, Array.length_toList] at hts
  have hts2 : t.size ≤ s.size - (a + 1) := hts
  clear hts
  have HBT : Hid _ := hbt
  clear hbt
  have A1 : Blk w1 w.heap.size #[.int .i64 0, .string ⟨#[]⟩, .int .i64 0] 43 := ((Blk.new w _ _).alloc _).below hb1 (by simp; omega)
  have B1 : Blk w1 (w.heap.size + 1) #[.int .i64 0, .string ⟨#[]⟩, .int .i64 a] 43 := (by have h := Blk.new (w.alloc (.cells #[.int .i64 0, .string ⟨#[]⟩, .int .i64 0] 43)) #[.int .i64 0, .string ⟨#[]⟩, .int .i64 a] 43; simp only [World.size_alloc] at h; exact h.below hb1 (by simp))
  have hz1 : w.heap.size + 1 < w1.heap.size := B1.lt
  obtain ⟨⟨a10, a11, a12⟩, a13, a14, a15⟩ := A1.three
  obtain ⟨⟨b10, b11, b12⟩, b13, b14, b15⟩ := B1.three
  have hB1 : Hid (Below w.heap.size w w1) := (((Below.refl _ _).alloc (Nat.le_refl _) _).alloc (by simp) _).trans (hb1.mono (by simp; omega))
  clear hb1
  go_wp2_with fail
  refine (Valid_any t _ (by omega)).mono ?_
  rintro e w' ⟨rfl, rfl⟩
  by_cases h0 : 0 ≤ n
  · cases hv : Lx.validN t.data.toList
    · go_wp2
      obtain ⟨F, G⟩ := fin3 A1 hB1.out 0 ⟨#[]⟩ a
      obtain ⟨⟨f0, f1, f2⟩, -⟩ := Blk.three F
      refine bodyPost_ret (v := .tuple #[.agg #[.int .i64 0, .string ⟨#[]⟩, .int .i64 a], .int .i64 a, .int .i64 2]) ?_ rfl ⟨_, _, _, _, _, rfl, ?_, G⟩
      · simp only [f0, f1, f2, results, Tryd.results15, go_sem]
        simp [f0, f1, f2, go_sem]
      · rw [HQ.out t n HBT.out (.inr (.inl hv))]; exact ⟨rfl, by omega⟩
    · go_wp2
      have D := far1 (far1 ⟨A1, hB1.out⟩ 0 (.int .i64 17)) 1 (.string t)
      obtain ⟨F, G⟩ := fin3 D.1 D.2 17 t a
      obtain ⟨⟨f0, f1, f2⟩, -⟩ := Blk.three F
      refine bodyPost_ret (v := .tuple #[.agg #[.int .i64 17, .string t, .int .i64 a], .int .i64 n, .int .i64 0]) ?_ rfl ⟨_, _, _, _, _, rfl, ?_, G⟩
      · simp only [f0, f1, f2, results, Tryd.results15, go_sem]
        simp [f0, f1, f2, go_sem]
      · have h := HG.out t n HBT.out h0 hv (fun q => by have := HQ0.out; omega)
        rw [h.1, HQ0.out]; exact ⟨rfl, rfl, rfl, rfl, by have := h.2; omega⟩
  · go_wp2
    obtain ⟨F, G⟩ := fin3 A1 hB1.out 0 ⟨#[]⟩ a
    obtain ⟨⟨f0, f1, f2⟩, -⟩ := Blk.three F
    refine bodyPost_ret (v := .tuple #[.agg #[.int .i64 0, .string ⟨#[]⟩, .int .i64 a], .int .i64 a, .int .i64 2]) ?_ rfl ⟨_, _, _, _, _, rfl, ?_, G⟩
    · simp only [f0, f1, f2, results, Tryd.results15, go_sem]
      simp [f0, f1, f2, go_sem]
    · rw [HQ.out t n HBT.out (.inl (by omega))]; exact ⟨rfl, by omega⟩

set_option maxRecDepth 100000 in
set_option maxHeartbeats 1000000 in
theorem one_quote34 (s : ByteArray) (a : Nat) (w : World) (hs : s.size ≤ 1000000) (ha : a < s.size) (hl : Lx.isLet s[a] = false) (hd : Lx.isDig s[a] = false) (hq : s[a].toNat = 34) : OneSays s a w := by
  unfold OneSays
  have HQ : Hid (∀ t n, _) := quote_bad s a ha hl hd (by omega)
  have HG : Hid (∀ t n, _) := quote_good s a ha hl hd (by omega)
  have q1 : 34 ≤ s[a].toNat := by omega
  have q2 : s[a].toNat ≤ 34 := by omega
  have hq1 : ((s[a].toNat : Int) == 39) = false := by rw [hq]; rfl
  have hq2 : ((s[a].toNat : Int) == 34) = true := by rw [hq]; rfl
  have HQ0 : Hid _ := hq
  clear hq
  go_enter Tryd.func15, Tryd.ntmps15
  go_wp2_with fail
  refine (letter_any _ _).mono ?_
  rintro e w' ⟨rfl, rfl⟩
  go_wp2_with fail
  refine (digit_any _ _).mono ?_
  rintro e w' ⟨rfl, rfl⟩
  go_wp2_with fail
  refine (between_any s a _ hs ha).mono ?_
  rintro e w1 ⟨t, n, rfl, hbt, hb1⟩
  have hts := betwV_size hbt
  simp only [List.length_drop, Array.length_toList] at hts
  have hts2 : t.size ≤ s.size - (a + 1) := hts
  clear hts
  have HBT : Hid _ := hbt
  clear hbt
  have A1 : Blk w1 w.heap.size #[.int .i64 0, .string ⟨#[]⟩, .int .i64 0] 43 := ((Blk.new w _ _).alloc _).below hb1 (by simp; omega)
  have B1 : Blk w1 (w.heap.size + 1) #[.int .i64 0, .string ⟨#[]⟩, .int .i64 a] 43 := (by have h := Blk.new (w.alloc (.cells #[.int .i64 0, .string ⟨#[]⟩, .int .i64 0] 43)) #[.int .i64 0, .string ⟨#[]⟩, .int .i64 a] 43; simp only [World.size_alloc] at h; exact h.below hb1 (by simp))
  have hz1 : w.heap.size + 1 < w1.heap.size := B1.lt
  obtain ⟨⟨a10, a11, a12⟩, a13, a14, a15⟩ := A1.three
  obtain ⟨⟨b10, b11, b12⟩, b13, b14, b15⟩ := B1.three
  have hB1 : Hid (Below w.heap.size w w1) := (((Below.refl _ _).alloc (Nat.le_refl _) _).alloc (by simp) _).trans (hb1.mono (by simp; omega))
  clear hb1
  go_wp2_with fail
  refine (Valid_any t _ (by omega)).mono ?_
  rintro e w' ⟨rfl, rfl⟩
  by_cases h0 : 0 ≤ n
  · cases hv : Lx.validN t.data.toList
    · go_wp2
      obtain ⟨F, G⟩ := fin3 A1 hB1.out 0 ⟨#[]⟩ a
      obtain ⟨⟨f0, f1, f2⟩, -⟩ := Blk.three F
      refine bodyPost_ret (v := .tuple #[.agg #[.int .i64 0, .string ⟨#[]⟩, .int .i64 a], .int .i64 a, .int .i64 2]) ?_ rfl ⟨_, _, _, _, _, rfl, ?_, G⟩
      · simp only [f0, f1, f2, results, Tryd.results15, go_sem]
        simp [f0, f1, f2, go_sem]
      · rw [HQ.out t n HBT.out (.inr (.inl hv))]; exact ⟨rfl, by omega⟩
    · go_wp2
      · have q : n < 0 ∨ t.toList.isEmpty = true := by assumption
        obtain ⟨F, G⟩ := fin3 A1 hB1.out 0 ⟨#[]⟩ a
        obtain ⟨⟨f0, f1, f2⟩, -⟩ := Blk.three F
        refine bodyPost_ret (v := .tuple #[.agg #[.int .i64 0, .string ⟨#[]⟩, .int .i64 a], .int .i64 a, .int .i64 2]) ?_ rfl ⟨_, _, _, _, _, rfl, ?_, G⟩
        · simp only [f0, f1, f2, results, Tryd.results15, go_sem]
          simp [f0, f1, f2, go_sem]
        · rw [HQ.out t n HBT.out (q.imp_right fun q => .inr ⟨HQ0.out, by rw [Lib.toList_data] at q; simpa using q⟩)]; exact ⟨rfl, by omega⟩
      · have q : 0 ≤ n ∧ t.toList.isEmpty = false := by assumption
        have D := far1 (far1 (far1 ⟨A1, hB1.out⟩ 0 (.int .i64 17)) 0 (.int .i64 18)) 1 (.string t)
        obtain ⟨F, G⟩ := fin3 D.1 D.2 18 t a
        obtain ⟨⟨f0, f1, f2⟩, -⟩ := Blk.three F
        refine bodyPost_ret (v := .tuple #[.agg #[.int .i64 18, .string t, .int .i64 a], .int .i64 n, .int .i64 0]) ?_ rfl ⟨_, _, _, _, _, rfl, ?_, G⟩
        · simp only [f0, f1, f2, results, Tryd.results15, go_sem]
          simp [f0, f1, f2, go_sem]
        · have h := HG.out t n HBT.out h0 hv (fun x => by have := q.2; rw [Lib.toList_data, x.2] at this; cases this)
          rw [h.1, HQ0.out]; exact ⟨rfl, rfl, rfl, rfl, by have := h.2; omega⟩
  · go_wp2
    obtain ⟨F, G⟩ := fin3 A1 hB1.out 0 ⟨#[]⟩ a
    obtain ⟨⟨f0, f1, f2⟩, -⟩ := Blk.three F
    refine bodyPost_ret (v := .tuple #[.agg #[.int .i64 0, .string ⟨#[]⟩, .int .i64 a], .int .i64 a, .int .i64 2]) ?_ rfl ⟨_, _, _, _, _, rfl, ?_, G⟩
    · simp only [f0, f1, f2, results, Tryd.results15, go_sem]
      simp [f0, f1, f2, go_sem]
    · rw [HQ.out t n HBT.out (.inl (by omega))]; exact ⟨rfl, by omega⟩
end Go.Proofs.YtihchcoclncjdaaDoor
