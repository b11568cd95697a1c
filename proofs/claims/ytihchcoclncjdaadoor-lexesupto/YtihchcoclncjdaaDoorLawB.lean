/- The statement's own sameTokens: two lists of the same tokens are the same. -/
import Derived.Test.YtihchcoclncjdaaDoorLawA
import Derived.BigQuiet
import Derived.Deep.QuietTactic
namespace Go.Proofs.YtihchcoclncjdaaDoor
open Go.RowKit
set_option linter.unusedSimpArgs false
set_option linter.unusedVariables false

theorem toksV_at : ∀ (ts : List Lx.Tok) (k : Nat) (h : k < ts.length), (toksV ts)[k * 3]? = some (.int .i64 (ts[k].kind : Int)) ∧ (toksV ts)[k * 3 + 1]? = some (.string ⟨ts[k].text.toArray⟩) ∧ (toksV ts)[k * 3 + 2]? = some (.int .i64 (ts[k].pos : Int))
  | t :: ts, 0, _ => ⟨rfl, rfl, rfl⟩
  | t :: ts, k + 1, h => by
    have ih := toksV_at ts k (by simpa using h)
    have e : ∀ j, (toksV (t :: ts))[j + 3]? = (toksV ts)[j]? := by
      intro j
      show (tokV t ++ toksV ts)[j + 3]? = _
      rw [List.getElem?_append_right (by simp [tokV])]
      simp [tokV]
    rw [show (k + 1) * 3 = k * 3 + 3 from by omega, show k * 3 + 3 + 1 = (k * 3 + 1) + 3 from by omega, show k * 3 + 3 + 2 = (k * 3 + 2) + 3 from by omega, e, e, e]
    simpa using ih

/-- A list's cells, read by its address. -/
theorem own_cells {w : World} {base n : Nat} {v : Value} {ts : List Lx.Tok} (h : w.ownsRow base 43 3 v ts.length (toksV ts)) (hne : ts ≠ []) : ∃ g cap, v = .slice (some ⟨g, 0, none⟩) ts.length cap ∧ ts.length ≤ cap ∧ cap ≤ maxLen ∧
    ∀ k, (hk : k < ts.length) → w.cell? ⟨g, k * 3, none⟩ = some (.int .i64 (ts[k].kind : Int)) ∧ w.cell? ⟨g, k * 3 + 1, none⟩ = some (.string ⟨ts[k].text.toArray⟩) ∧ w.cell? ⟨g, k * 3 + 2, none⟩ = some (.int .i64 (ts[k].pos : Int)) := by
  rcases h.2 with ⟨_, hn⟩ | ⟨g, cap, cur, rfl, hb, hg, h1, h2, h3, h4⟩
  · exact absurd (List.length_eq_zero_iff.1 hn) hne
  · refine ⟨g, cap, rfl, h1, h2, fun k hk => ?_⟩
    have hc := h.cells (g := g) rfl
    obtain ⟨q0, q1, q2⟩ := toksV_at ts k hk
    have a0 := hc _ _ q0
    have a1 := hc _ _ q1
    have a2 := hc _ _ q2
    simp only [Addr.add_lit, Nat.zero_add] at a0 a1 a2
    exact ⟨a0, a1, a2⟩

set_option maxRecDepth 100000 in
set_option maxHeartbeats 1000000 in
theorem same_any (v u : Value) (ts : List Lx.Tok) (b1 b2 : Nat) (w : World) (hn : ts.length ≤ 2000) (h1 : w.ownsRow b1 43 3 v ts.length (toksV ts)) (h2 : w.ownsRow b2 43 3 u ts.length (toksV ts)) :
    Calls Tryd.prog 8 #[v, u] w fun e w' => e = .returned (.bool true) ∧ w'.heap = w.heap ∧ Below w.heap.size w w' := by
  by_cases hne : ts = []
  · subst hne
    obtain ⟨a1, c1, rfl⟩ : ∃ a c, v = .slice a 0 c := by
      rcases h1.2 with ⟨rfl, _⟩ | ⟨g, cap, cur, rfl, _⟩
      · exact ⟨_, _, rfl⟩
      · exact ⟨_, _, rfl⟩
    obtain ⟨a2, c2, rfl⟩ : ∃ a c, u = .slice a 0 c := by
      rcases h2.2 with ⟨rfl, _⟩ | ⟨g, cap, cur, rfl, _⟩
      · exact ⟨_, _, rfl⟩
      · exact ⟨_, _, rfl⟩
    clear h1 h2
    go_enter Tryd.func8, Tryd.ntmps8
    go_wp2
    refine wp_loop_rounds 1 ?_
    rw [rounds_succ]
    go_wp2
    go_ret
    exact ⟨rfl, rfl, Below.refl _ _⟩
  · obtain ⟨g1, c1, rfl, hc1, hm1, hk1⟩ := own_cells (n := 0) h1 hne
    obtain ⟨g2, c2, rfl, hc2, hm2, hk2⟩ := own_cells (n := 0) h2 hne
    have HK1 := hd hk1
    have HK2 := hd hk2
    clear hk1 hk2 h1 h2
    unfold maxLen at hm1 hm2
    go_enter Tryd.func8, Tryd.ntmps8
    go_wp2
    go_loopw [5] (fun i wr => ∃ k : Nat, k ≤ ts.length ∧ i = .int .i64 k ∧ Hid (wr.heap = w.heap ∧ Below w.heap.size w wr)) (fun i _ => ts.length - (intOf i).toNat)
    case atStart => exact ⟨0, by omega, rfl, rfl, Below.refl _ _⟩
    case round =>
      obtain ⟨k, hk, rfl, HW⟩ := hrel
      by_cases hlt : k < ts.length
      · obtain ⟨p0, p1, p2⟩ := HK1.out k hlt
        obtain ⟨q0, q1, q2⟩ := HK2.out k hlt
        have hcc : ∀ a, wr.cell? a = w.cell? a := fun a => by simp only [World.cell?, HW.out.1]
        rw [← hcc] at p0 p1 p2 q0 q1 q2
        clear hcc
        generalize ts[k] = t at *
        obtain ⟨tk, tt, tp⟩ := t
        simp only at p0 p1 p2 q0 q1 q2
        have z1 : (0 : Int) ≤ (k : Int) := by omega
        go_wp2
        go_region
        all_goals
          go_wp2
          go_roundw
          case rel => exact ⟨k + 1, by omega, by go_num, HW.out.1, HW.out.2.drew⟩
          case measure => simp [intOf]; omega
      · go_wp2
        go_ret
        exact ⟨rfl, HW.out⟩

end Go.Proofs.YtihchcoclncjdaaDoor
