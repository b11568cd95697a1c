/- Contracts of the document's own readers: In, keywords, upper, lower. -/
import Derived.Test.YtihchcoclncjdaaDoorRefC
namespace Go.Proofs.YtihchcoclncjdaaDoor
open Go.RowKit
set_option linter.unusedSimpArgs false
set_option linter.unusedVariables false

set_option maxHeartbeats 400000 in
theorem In_any (s : ByteArray) (g cap : Nat) (ss : List Lx.Bs) (w : World) (hn : ss.length ≤ 1000)
    (hc : ∀ i, i < ss.length → ∃ t : ByteArray, w.cell? ⟨g, i, none⟩ = some (.string t) ∧ t.data.toList = ss.getD i []) :
    Calls Tryd.prog 24 #[.string s, .slice (some ⟨g, 0, none⟩) ss.length cap] w fun e w' => e = .returned (.bool (Lx.hasB ss s.data.toList)) ∧ w' = w := by
  have HC : Hid _ := hc
  clear hc
  go_enter Tryd.func24, Tryd.ntmps24
  go_wp2
  go_loop [5] (fun i => ∃ k : Nat, k ≤ ss.length ∧ i = .int .i64 k ∧ Hid (Lx.hasB ss s.data.toList = Lx.hasB (ss.drop k) s.data.toList)) (fun i => ss.length - (intOf i).toNat)
  case atStart => exact ⟨0, by omega, rfl, by show _ = _; simp⟩
  case round =>
    obtain ⟨k, hk, rfl, HK⟩ := hrel
    by_cases hlt : k < ss.length
    · obtain ⟨t, ht, ht2⟩ := HC.out k hlt
      have HT : Hid (t.data.toList = ss.getD k []) := ht2
      clear ht2
      have HS : Hid _ := contains_at ss s.data.toList k hlt
      go_wp2
      · go_ret
        have q : (t.toList == s.toList) = true := by assumption
        exact ⟨ret_bool (by rw [HK.out, HS.out, ← HT.out, ← Lib.toList_data, ← Lib.toList_data, q]; simp), rfl⟩
      · go_round
        case rel =>
          have q : (t.toList == s.toList) = false := by assumption
          exact ⟨k + 1, by omega, by go_num, by show _ = _; rw [HK.out, HS.out, ← HT.out]; rw [Lib.toList_data, Lib.toList_data] at q; rw [q]; simp⟩
        case measure => simp [intOf]; omega
    · go_wp2
      go_ret
      exact ⟨ret_bool (by rw [HK.out, List.drop_eq_nil_of_le (by omega)]; rfl), rfl⟩

set_option maxHeartbeats 400000 in
theorem keywords_any (w : World) :
    Calls Tryd.prog 25 #[] w fun e w' => e = .returned (.slice (some ⟨w.heap.size, 0, none⟩) 27 27) ∧ w' = w.alloc (.cells (strRow Lx.keys) 9) := by
  go_enter Tryd.func25, Tryd.ntmps25
  go_wp2
  go_ret
  exact ⟨rfl, rfl⟩

set_option maxHeartbeats 1000000 in
theorem upper_any (s : ByteArray) (w : World) (hs : s.size ≤ 1000000000) :
    Calls Tryd.prog 23 #[.string s] w fun e w' => ∃ t : ByteArray, e = .returned (.string t) ∧ t.data.toList = s.data.toList.map Lx.upB ∧ Below w.heap.size w w' := by
  have hcv := fun (w : World) => run_bytes_of_string (P := Tryd.prog) w 9 76 5 s Tryd.underlying9 Tryd.underlying76 Tryd.underlying5
  go_enter Tryd.func23, Tryd.ntmps23
  go_wp2
  clear hcv
  generalize hcap : grownCap w s.size 0 5 = cap
  clear hcap
  go_loopw [4] (fun i wr => ∃ k : Nat, k ≤ s.size ∧ i = .int .i64 k ∧ Hid (Cased Lx.upB s w.heap.size k wr ∧ Below w.heap.size w wr)) (fun i _ => s.size - (intOf i).toNat)
  case atStart => exact ⟨0, by omega, rfl, Cased.start _ _ _ _, Below.cased _ _⟩
  case round =>
    obtain ⟨k, hk, rfl, HK⟩ := hrel
    by_cases hlt : k < s.size
    · obtain ⟨hck, hfk⟩ := HK.out.1 k hlt
      simp only [Nat.lt_irrefl, if_false] at hck
      have hb : s[k].toNat < 256 := s[k].toNat_lt
      go_wp2
      all_goals
        go_roundw
        case rel =>
          refine ⟨k + 1, by omega, by go_num, ?_⟩
          first
            | exact ⟨HK.out.1.set hlt _ (upper_num ‹_› ‹_›), HK.out.2.setCell (by simp) _⟩
            | exact ⟨HK.out.1.keep hlt (upper_same (by omega)), HK.out.2⟩
        case measure => simp [intOf]; omega
    · have e : k = s.size := by omega
      subst e
      obtain ⟨t, ht⟩ : ∃ t : ByteArray, t = ⟨(s.data.toList.map Lx.upB).toArray⟩ := ⟨_, rfl⟩
      have hcv : ∀ cap, (convert 76 9 (.slice (some ⟨w.heap.size, 0, none⟩) s.size cap)).run Tryd.prog wr = .ok (.string t) wr := by
        intro cap
        have h := run_convert_bytes_back (P := Tryd.prog) wr 76 9 5 ⟨w.heap.size, 0, none⟩ cap (s.data.toList.map Lx.upB) Tryd.underlying76 Tryd.underlying5 Tryd.underlying9 HK.out.1.done
        rw [ht, ← h]
        simp only [List.length_map, Array.length_toList]
        rfl
      have HT : Hid (t.data.toList = s.data.toList.map Lx.upB) := by rw [ht]; show _ = _; simp
      clear ht
      go_wp2
      go_ret
      exact ⟨t, rfl, HT.out, HK.out.2⟩

set_option maxHeartbeats 1000000 in
theorem lower_any (s : ByteArray) (w : World) (hs : s.size ≤ 1000000000) :
    Calls Tryd.prog 26 #[.string s] w fun e w' => ∃ t : ByteArray, e = .returned (.string t) ∧ t.data.toList = s.data.toList.map Lx.lowB ∧ Below w.heap.size w w' := by
  have hcv := fun (w : World) => run_bytes_of_string (P := Tryd.prog) w 9 76 5 s Tryd.underlying9 Tryd.underlying76 Tryd.underlying5
  go_enter Tryd.func26, Tryd.ntmps26
  go_wp2
  clear hcv
  generalize hcap : grownCap w s.size 0 5 = cap
  clear hcap
  go_loopw [4] (fun i wr => ∃ k : Nat, k ≤ s.size ∧ i = .int .i64 k ∧ Hid (Cased Lx.lowB s w.heap.size k wr ∧ Below w.heap.size w wr)) (fun i _ => s.size - (intOf i).toNat)
  case atStart => exact ⟨0, by omega, rfl, Cased.start _ _ _ _, Below.cased _ _⟩
  case round =>
    obtain ⟨k, hk, rfl, HK⟩ := hrel
    by_cases hlt : k < s.size
    · obtain ⟨hck, hfk⟩ := HK.out.1 k hlt
      simp only [Nat.lt_irrefl, if_false] at hck
      have hb : s[k].toNat < 256 := s[k].toNat_lt
      go_wp2
      all_goals
        go_roundw
        case rel =>
          refine ⟨k + 1, by omega, by go_num, ?_⟩
          first
            | exact ⟨HK.out.1.set hlt _ (lower_num ‹_› ‹_›), HK.out.2.setCell (by simp) _⟩
            | exact ⟨HK.out.1.keep hlt (lower_same (by omega)), HK.out.2⟩
        case measure => simp [intOf]; omega
    · have e : k = s.size := by omega
      subst e
      obtain ⟨t, ht⟩ : ∃ t : ByteArray, t = ⟨(s.data.toList.map Lx.lowB).toArray⟩ := ⟨_, rfl⟩
      have hcv : ∀ cap, (convert 76 9 (.slice (some ⟨w.heap.size, 0, none⟩) s.size cap)).run Tryd.prog wr = .ok (.string t) wr := by
        intro cap
        have h := run_convert_bytes_back (P := Tryd.prog) wr 76 9 5 ⟨w.heap.size, 0, none⟩ cap (s.data.toList.map Lx.lowB) Tryd.underlying76 Tryd.underlying5 Tryd.underlying9 HK.out.1.done
        rw [ht, ← h]
        simp only [List.length_map, Array.length_toList]
        rfl
      have HT : Hid (t.data.toList = s.data.toList.map Lx.lowB) := by rw [ht]; show _ = _; simp
      clear ht
      go_wp2
      go_ret
      exact ⟨t, rfl, HT.out, HK.out.2⟩
end Go.Proofs.YtihchcoclncjdaaDoor
