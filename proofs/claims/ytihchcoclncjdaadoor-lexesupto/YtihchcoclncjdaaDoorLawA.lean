/- The statement's own small functions: num, mark, sameTokens; and a law on append to a list that is written full. -/
import Derived.Test.YtihchcoclncjdaaDoorRefI
import Derived.ArgAppend
import Derived.Deep.Draws
namespace Go.Proofs.YtihchcoclncjdaaDoor
open Go.RowKit
set_option linter.unusedSimpArgs false
set_option linter.unusedVariables false

/-- The mark's cells, over and over. -/
def mcell (m : Int) (j : Nat) : Value := if j % 3 = 1 then .string ⟨#[]⟩ else .int .i64 m

/-- A list of n tokens, all of them the mark m. -/
def FullV (w : World) (v : Value) (n : Nat) (m : Int) : Prop :=
  (v = .slice none 0 0 ∧ n = 0) ∨ ∃ g cap cur, v = .slice (some ⟨g, 0, none⟩) n cap ∧ w.heap[g]? = some (.cells cur 43 (0, 0)) ∧ n ≤ cap ∧ cap ≤ maxLen ∧ cur.size = cap * 3 ∧ ∀ j, j < n * 3 → cur[j]? = some (mcell m j)

def marks (m : Int) : Nat → List Value
  | 0 => []
  | k + 1 => [.int .i64 m, .string ⟨#[]⟩, .int .i64 m] ++ marks m k
theorem marks_length (m : Int) : ∀ k, (marks m k).length = k * 3
  | 0 => rfl
  | k + 1 => by simp [marks, marks_length m k]; omega
theorem marks_at (m : Int) : ∀ k j, j < k * 3 → (marks m k)[j]? = some (mcell m j)
  | 0, j, h => by omega
  | k + 1, j, h => by
    unfold marks
    by_cases h3 : j < 3
    · have : j = 0 ∨ j = 1 ∨ j = 2 := by omega
      rcases this with rfl | rfl | rfl <;> rfl
    · obtain ⟨i, rfl⟩ : ∃ i, j = i + 3 := ⟨j - 3, by omega⟩
      rw [List.getElem?_append_right (by simp)]
      simp only [List.length_cons, List.length_nil, Nat.add_sub_cancel]
      rw [marks_at m k i (by omega)]
      unfold mcell
      rw [Nat.add_mod_right]
theorem marks_one (m : Int) (k : Nat) : ∀ u ∈ marks m k, u.oneCell' = true := by
  intro u hu
  induction k with
  | zero => simp [marks] at hu
  | succ k ih =>
    simp only [marks, List.mem_append, List.mem_cons, List.not_mem_nil, or_false] at hu
    rcases hu with (rfl | rfl | rfl) | h
    · rfl
    · rfl
    · rfl
    · exact ih h

theorem mcell_shift (m : Int) (n j : Nat) : mcell m (n * 3 + j) = mcell m j := by
  unfold mcell; rw [Nat.add_comm, Nat.add_mul_mod_self_right]

theorem FullV.of_own {w : World} {base n : Nat} {v : Value} {m : Int} {xs : List Value} (h : w.ownsRow base 43 3 v n xs) (hx : ∀ j, j < n * 3 → xs[j]? = some (mcell m j)) : FullV w v n m := by
  rcases h.2 with hn | ⟨g, cap, cur, rfl, hb, hg, h1, h2, h3, h4⟩
  · exact .inl hn
  · refine .inr ⟨g, cap, cur, rfl, hg, h1, h2, h3, fun j hj => ?_⟩
    have := hx j hj
    rw [← h4, List.getElem?_take_of_lt hj] at this
    simpa using this

/-- Whatever leaves the list's block as it was leaves it full. -/
theorem FullV.keep {w w' : World} {v : Value} {n : Nat} {m : Int} (h : FullV w v n m) (hk : ∀ g, v.ownBlock = some g → w'.heap[g]? = w.heap[g]?) : FullV w' v n m := by
  rcases h with h | ⟨g, cap, cur, rfl, hg, r⟩
  · exact .inl h
  · exact .inr ⟨g, cap, cur, rfl, by rw [hk g rfl]; exact hg, r⟩
theorem FullV.lt {w : World} {v : Value} {n : Nat} {m : Int} (h : FullV w v n m) : ∀ g, v.ownBlock = some g → g < w.heap.size ∧ ∃ cur, w.heap[g]? = some (.cells cur 43 (0, 0)) := by
  intro g hg
  rcases h with ⟨rfl, _⟩ | ⟨g', cap, cur, rfl, hh, _⟩
  · simp [Value.ownBlock] at hg
  · simp [Value.ownBlock] at hg
    subst hg
    exact ⟨(Array.getElem?_eq_some_iff.1 hh).1, cur, hh⟩

/-- APPEND TO A LIST THAT IS FULL OF THE MARK, OF MORE OF THE MARK: what comes is full, and every list that was full of this mark is full still; blocks other than the list's own are as they were. -/
theorem run_append_mark (w : World) (ty : TypeId) (m : Int) (v : Value) (n k : Nat) (hv : FullV w v n m) (a : Addr) (c : Nat) (hnews : ∀ j u, (marks m k)[j]? = some u → w.cell? (a.add j) = some u) (hn : n + k ≤ 1000000) :
    ∃ v' w', (Builtin.append_ #[33, 33] ty #[v, .slice (some a) k c]).run Tryd.prog w = .ok v' w' ∧ FullV w' v' (n + k) m ∧ w.grownBy w' v.ownBlock ∧ (∀ u q, FullV w u q m → FullV w' u q m) ∧ (v'.ownBlock = v.ownBlock ∨ ∀ g, v'.ownBlock = some g → w.heap.size ≤ g) := by
  obtain ⟨i0, hi, hz0, hz1, hz2⟩ := info_parts Tryd.info43
  have h63 : n + k ≤ maxLen := by unfold maxLen; omega
  rcases hv with ⟨rfl, rfl⟩ | ⟨g, cap, cur, rfl, hg, h1, h2, h3, h4⟩
  · obtain ⟨v', w', hr, ho, hgr, -⟩ := run_append_own (P := Tryd.prog) w w.heap.size 33 ty 43 i0 _ 3 32 Tryd.underlying33 hi hz0 hz1 hz2 rfl (by decide) (.slice none 0 0) 0 [] (World.ownsRow_nil _ _ _ _) a k c (marks m k) (marks_length m k) hnews (marks_one m k) h63 (by omega) (Nat.le_refl _)
    refine ⟨v', w', hr, FullV.of_own ho (fun j hj => ?_), hgr, fun u q hu => hu.keep (fun g hg => ?_), .inr (fun g hg => (ho.lt g hg).1)⟩
    · rw [List.nil_append]; exact marks_at m k j (by omega)
    · exact hgr.block g (hu.lt g hg).1 (by simp [Value.ownBlock])
  · have hold : ∀ j u, (cur.toList.take (n * 3))[j]? = some u → w.cell? ((⟨g, 0, none⟩ : Addr).add j) = some u := by
      intro j u hu
      rw [Addr.add_lit, Nat.zero_add, cell_of_row w g j cur _ _ hg]
      rw [List.getElem?_take] at hu
      split at hu
      · simpa using hu
      · cases hu
    have hlo : (cur.toList.take (n * 3)).length = n * 3 := by simp; omega
    have hat : ∀ j, j < n * 3 → (cur.toList.take (n * 3))[j]? = some (mcell m j) := by
      intro j hj
      rw [List.getElem?_take_of_lt hj]; simpa using h4 j hj
    by_cases hroom : n + k ≤ cap
    · have hr := run_append_room (P := Tryd.prog) w 33 ty 43 i0 Tryd.underlying33 hi g n cap cur hg a k c (marks m k) (by rw [hz1]; exact marks_length m k) hnews (marks_one m k) hroom (by rw [hz1, marks_length]; omega)
      rw [hz1, marks_length] at hr
      have hnew : (w.setRow g (cur.toList.take (n * 3) ++ marks m k ++ cur.toList.drop (n * 3 + k * 3)).toArray).heap[g]? = some (.cells (cur.toList.take (n * 3) ++ marks m k ++ cur.toList.drop (n * 3 + k * 3)).toArray 43 (0, 0)) := setRow_heap w g cur _ _ _ hg
      have hsz : (cur.toList.take (n * 3) ++ marks m k ++ cur.toList.drop (n * 3 + k * 3)).toArray.size = cap * 3 := by
        simp [hlo, marks_length]; omega
      have hcell : ∀ j, j < (n + k) * 3 → (cur.toList.take (n * 3) ++ marks m k ++ cur.toList.drop (n * 3 + k * 3)).toArray[j]? = some (mcell m j) := by
        intro j hj
        rw [List.getElem?_toArray, List.getElem?_append_left (by simp [hlo, marks_length]; omega)]
        by_cases hjn : j < n * 3
        · rw [List.getElem?_append_left (by rw [hlo]; exact hjn)]; exact hat j hjn
        · obtain ⟨i, rfl⟩ : ∃ i, j = n * 3 + i := ⟨j - n * 3, by omega⟩
          rw [List.getElem?_append_right (by rw [hlo]; omega), hlo, Nat.add_sub_cancel_left, mcell_shift]
          exact marks_at m k i (by omega)
      have hback : ∀ j, (n + k) * 3 ≤ j → (cur.toList.take (n * 3) ++ marks m k ++ cur.toList.drop (n * 3 + k * 3)).toArray[j]? = cur[j]? := by
        intro j hj
        rw [List.getElem?_toArray, List.getElem?_append_right (by simp [hlo, marks_length]; omega), List.getElem?_drop]
        have : n * 3 + k * 3 + (j - (List.take (n * 3) cur.toList ++ marks m k).length) = j := by
          rw [List.length_append, hlo, marks_length]; omega
        rw [this]; simp
      refine ⟨_, _, hr, .inr ⟨g, cap, _, rfl, hnew, hroom, h2, hsz, hcell⟩, ⟨rfl, rfl, rfl, by simp, fun b hb hne => setRow_other w g b _ (by simpa [Value.ownBlock] using hne)⟩, fun u q hu => ?_, .inl rfl⟩
      rcases hu with hu | ⟨g', cap', cur', rfl, hg', h1', h2', h3', h4'⟩
      · exact .inl hu
      · by_cases hgg : g' = g
        · subst hgg
          rw [hg] at hg'
          simp only [Option.some.injEq, Obj.cells.injEq, true_and, and_true] at hg'
          subst hg'
          refine .inr ⟨g', cap', _, rfl, hnew, h1', h2', by rw [hsz]; omega, fun j hj => ?_⟩
          by_cases hjn : j < (n + k) * 3
          · exact hcell j hjn
          · rw [hback j (by omega)]; exact h4' j hj
        · exact .inr ⟨g', cap', cur', rfl, by rw [setRow_other w g g' _ hgg]; exact hg', h1', h2', h3', h4'⟩
    · obtain ⟨v', w', hr, ho, hgr⟩ := run_append_arg_grows (P := Tryd.prog) w 33 ty 43 i0 _ 3 32 Tryd.underlying33 hi hz0 hz1 hz2 rfl (by decide) ⟨g, 0, none⟩ n cap (cur.toList.take (n * 3)) hlo hold a k c (marks m k) (marks_length m k) hnews (by omega) h63 (by omega)
      refine ⟨v', w', hr, FullV.of_own ho (fun j hj => ?_), ⟨hgr.os, hgr.tape, hgr.output, hgr.size, fun b hb _ => hgr.block b hb (by simp)⟩, fun u q hu => hu.keep (fun b hb => hgr.block b (hu.lt b hb).1 (by simp)), .inr (fun b hb => (ho.lt b hb).1)⟩
      by_cases hjn : j < n * 3
      · rw [List.getElem?_append_left (by rw [hlo]; exact hjn)]; exact hat j hjn
      · obtain ⟨i, rfl⟩ : ∃ i, j = n * 3 + i := ⟨j - n * 3, by omega⟩
        rw [List.getElem?_append_right (by rw [hlo]; omega), hlo, Nat.add_sub_cancel_left, mcell_shift]
        exact marks_at m k i (by omega)

set_option maxHeartbeats 400000 in
theorem num_any (c : Int) (w : World) : Calls Tryd.prog 10 #[.int .i64 c] w fun e w' => e = .returned (.int .i64 c) ∧ w' = w := by
  go_enter Tryd.func10, Tryd.ntmps10
  go_wp2
  go_ret
  exact ⟨rfl, rfl⟩

/-- The book's seven cells. -/
def bookV (tv mv : Value) (nx : Int) : Array Value := #[tv, mv, .slice none 0 0, .slice none 0 0, .slice none 0 0, .slice none 0 0, .int .i64 nx]

set_option maxHeartbeats 400000 in
theorem mark_any (b : Nat) (tv mv : Value) (nx : Int) (w : World) (h : Blk w b (bookV tv mv nx) 29) (h1 : -1000000000 ≤ nx) (h2 : nx ≤ 0) :
    Calls Tryd.prog 16 #[.pointer (some ⟨b, 0, none⟩)] w fun e w' => e = .returned (.int .i64 (nx - 1)) ∧ w' = w.setCell ⟨b, 6, none⟩ (.int .i64 (nx - 1)) := by
  have c6 : w.cell? ⟨b, 6, none⟩ = some (.int .i64 nx) := h.cell 6
  have f6 := h.free 6
  go_enter Tryd.func16, Tryd.ntmps16
  go_wp2
  go_ret
  exact ⟨rfl, rfl⟩

end Go.Proofs.YtihchcoclncjdaaDoor
