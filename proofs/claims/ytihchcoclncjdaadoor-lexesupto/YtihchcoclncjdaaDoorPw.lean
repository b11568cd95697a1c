/- What is read as an expression is one tree: its depth. -/
import Derived.Test.YtihchcoclncjdaaDoorPz
namespace Go.Proofs.YtihchcoclncjdaaDoor
namespace Px
open Lx (Bs Tok)

theorem tr_grows : ∀ n l, ∀ m r, n ≤ m → tr n l = some r → tr m l = some r := by
  intro n
  induction n with
  | zero => intro l m r _ h; cases h
  | succ n ih =>
    intro l m r hm h
    cases m with
    | zero => omega
    | succ m =>
      cases l with
      | nil => cases h
      | cons x t =>
        unfold tr at h ⊢
        split at h
        · rename_i c; rw [if_pos c]; exact h
        · rename_i c
          rw [if_neg c]
          split at h
          · rename_i c2
            rw [if_pos c2]
            obtain ⟨y, h1, h2⟩ := Option.bind_eq_some_iff.1 h
            rw [ih t m y (by omega) h1]; exact h2
          · rename_i c2
            rw [if_neg c2]
            split at h
            · rename_i c3
              rw [if_pos c3]
              obtain ⟨y, h1, h2⟩ := Option.bind_eq_some_iff.1 h
              obtain ⟨z, h3, h4⟩ := Option.bind_eq_some_iff.1 h2
              rw [ih t m y (by omega) h1]
              show (tr m y.2).bind _ = _
              rw [ih y.2 m z (by omega) h3]; exact h4
            · cases h

/-- One tree, of a depth; its head is of an expression. -/
def IsT (b : List Nd) (d : Nat) : Prop := (∀ q, ∃ n, n ≤ b.length ∧ tr n (b ++ q) = some (d, q)) ∧ d ≤ b.length ∧ ∃ x r, b = x :: r ∧ isExpr x.kind = true

theorem IsT.leaf (k : Int) (t : Bs) (n : Int) (h : isExpr k = true) : IsT (leaf k t n) 1 := by
  refine ⟨fun q => ⟨1, by simp [Px.leaf], ?_⟩, by simp [Px.leaf], _, _, rfl, h⟩
  simp [Px.leaf, tr]
theorem IsT.over1 {a : List Nd} {d : Nat} (k : Int) (hk : isExpr k = true) (h : IsT a d) : IsT (over1 k a) (d + 1) := by
  refine ⟨fun q => ?_, by have := h.2.1; simp [Px.over1]; omega, _, _, rfl, hk⟩
  obtain ⟨n, hl, hn⟩ := h.1 q
  refine ⟨n + 1, by simp [Px.over1]; omega, ?_⟩
  simp only [Px.over1, List.cons_append]
  unfold tr
  rw [if_neg (by show ¬ (1 : Int) = 0; decide), if_pos rfl, hn]
  rfl
theorem IsT.over2 {a b : List Nd} {d e : Nat} (k : Int) (hk : isExpr k = true) (h : IsT a d) (h' : IsT b e) : IsT (over2 k a b) (max d e + 1) := by
  refine ⟨fun q => ?_, by have := h.2.1; have := h'.2.1; simp [Px.over2]; omega, _, _, rfl, hk⟩
  obtain ⟨n, hl, hn⟩ := h.1 (b ++ q)
  obtain ⟨m, hl', hm⟩ := h'.1 q
  refine ⟨max n m + 1, by simp [Px.over2]; omega, ?_⟩
  simp only [Px.over2, List.cons_append, List.append_assoc]
  unfold tr
  rw [if_neg (by show ¬ (2 : Int) = 0; decide), if_neg (by show ¬ (2 : Int) = 1; decide), if_pos rfl, tr_grows n _ (max n m) _ (Nat.le_max_left _ _) hn]
  show (tr (max n m) (b ++ q)).bind _ = _
  rw [tr_grows m _ (max n m) _ (Nat.le_max_right _ _) hm]
  rfl

theorem opIn_expr : ∀ (l : List (Nat × Bs × Nat)) (lv : Nat) (s : Bs), (∀ x ∈ l, 23 ≤ x.2.2 ∧ x.2.2 ≤ 36) → opIn l lv s ≠ 0 → 23 ≤ opIn l lv s ∧ opIn l lv s ≤ 36
  | [], _, _, _, h => absurd rfl h
  | x :: r, lv, s, hx, h => by
    unfold opIn at h ⊢
    split
    · exact hx x (by simp)
    · rename_i c
      rw [if_neg c] at h
      exact opIn_expr r lv s (fun y hy => hx y (by simp [hy])) h
theorem oper_one (m : Nat) (t : Tok) (r : List Tok) : oper m (t :: r) = if t.kind = 50 ∨ t.kind = 51 then opIn opTab m t.text else 0 := rfl
theorem oper_high (m : Nat) (ts : List Tok) (h : 8 ≤ m) : oper m ts = 0 := by
  cases ts with
  | nil => rfl
  | cons t r =>
    rw [oper_one]
    split
    · simp only [opTab, opIn]
      repeat rw [if_neg (by omega)]
    · rfl
theorem oper_range {m : Nat} {ts : List Tok} (h : oper m ts ≠ 0) : 23 ≤ oper m ts ∧ oper m ts ≤ 36 := by
  cases ts with
  | nil => exact absurd rfl h
  | cons t r =>
    rw [oper_one] at h ⊢
    split
    · rename_i c
      rw [if_pos c] at h
      exact opIn_expr opTab m t.text (by decide) h
    · rename_i c
      rw [if_neg c] at h
      exact absurd rfl h
theorem oper_expr {m : Nat} {ts : List Tok} (h : oper m ts ≠ 0) : isExpr (oper m ts : Int) = true := by
  have := oper_range h
  simp [isExpr]; omega

theorem atom_tree {sz : Nat} {ts q : List Tok} {b : List Nd} (h : atom sz ts = some (.ok (b, q))) : IsT b 1 := by
  unfold Px.atom at h
  repeat' split at h
  all_goals first | (cases h; done) | (cases h; exact IsT.leaf _ _ _ (by decide))

/-- WHAT IS READ IS ONE TREE. -/
theorem ex_tree {sz : Nat} : ∀ n m a ts b q, ex sz n m a ts = some (.ok (b, q)) → (10 ≤ m → ∃ d, IsT a d) → ∃ d, IsT b d := by
  intro n
  induction n with
  | zero => intro m a ts b q h; cases h
  | succ n ih =>
    intro m a ts b q h ha
    unfold ex at h
    split at h
    · rename_i c1
      split at h
      · cases h; exact ha c1
      · rename_i c2
        rcases obind_some h with ⟨e, _, h2⟩ | ⟨b1, q1, h1, h2⟩
        · cases h2
        · by_cases hm : 10 ≤ m - 9
          · exfalso
            exact c2 (oper_high _ _ (by omega))
          · obtain ⟨d1, i1⟩ := ih _ _ _ _ _ h1 (fun h => absurd h hm)
            obtain ⟨d0, i0⟩ := ha c1
            exact ih _ _ _ _ _ h2 (fun _ => ⟨_, i0.over2 _ (oper_expr c2) i1⟩)
    · rename_i c1
      split at h
      · split at h
        · rcases obind_some h with ⟨e, _, h2⟩ | ⟨b1, q1, h1, h2⟩
          · cases h2
          · cases h2
            obtain ⟨d1, i1⟩ := ih _ _ _ _ _ h1 (fun h => by omega)
            exact ⟨_, i1.over1 20 (by decide)⟩
        · exact ih _ _ _ _ _ h (fun h => by omega)
      · split at h
        · rcases obind_some h with ⟨e, _, h2⟩ | ⟨b1, q1, h1, h2⟩
          · cases h2
          · obtain ⟨d1, i1⟩ := ih _ _ _ _ _ h1 (fun h => by omega)
            unfold tail4 at h2
            split at h2
            · split at h2
              · rcases obind_some h2 with ⟨e, _, h3⟩ | ⟨b2, q2, h3, h4⟩
                · cases h3
                · cases h4; exact ⟨_, i1.over1 22 (by decide)⟩
              · rcases obind_some h2 with ⟨e, _, h3⟩ | ⟨b2, q2, h3, h4⟩
                · cases h3
                · cases h4; exact ⟨_, i1.over1 21 (by decide)⟩
            · split at h2
              · cases h2; exact ⟨_, i1⟩
              · rename_i c5
                rcases obind_some h2 with ⟨e, _, h3⟩ | ⟨b2, q2, h3, h4⟩
                · cases h3
                · cases h4
                  obtain ⟨d2, i2⟩ := ih _ _ _ _ _ h3 (fun h => by omega)
                  exact ⟨_, i1.over2 _ (oper_expr c5) i2⟩
        · split at h
          · split at h
            · split at h
              · cases h; exact ⟨_, IsT.leaf _ _ _ (by decide)⟩
              · rcases obind_some h with ⟨e, _, h2⟩ | ⟨b1, q1, h1, h2⟩
                · cases h2
                · obtain ⟨d1, i1⟩ := ih _ _ _ _ _ h1 (fun h => by omega)
                  unfold negate at h2
                  split at h2
                  · cases h2; exact ⟨_, i1.over1 19 (by decide)⟩
                  · split at h2
                    · cases h2; exact ⟨_, i1.over1 19 (by decide)⟩
                    · split at h2
                      · cases h2
                      · cases h2; exact ⟨_, IsT.leaf _ _ _ (by decide)⟩
            · exact ih _ _ _ _ _ h (fun h => by omega)
          · split at h
            · split at h
              · rcases obind_some h with ⟨e, _, h2⟩ | ⟨b1, q1, h1, h2⟩
                · cases h2
                · obtain ⟨d1, i1⟩ := ih _ _ _ _ _ h1 (fun h => by omega)
                  rcases obind_some h2 with ⟨e, _, h3⟩ | ⟨b2, q2, h3, h4⟩
                  · cases h3
                  · cases h4; exact ⟨_, i1⟩
              · exact ⟨1, atom_tree h⟩
            · rcases obind_some h with ⟨e, _, h2⟩ | ⟨b1, q1, h1, h2⟩
              · cases h2
              · obtain ⟨d1, i1⟩ := ih _ _ _ _ _ h1 (fun h => by omega)
                exact ih _ _ _ _ _ h2 (fun _ => ⟨d1, i1⟩)

theorem Ex.tree {sz m : Nat} {a b : List Nd} {ts q : List Tok} (hm : m < 10) (h : Ex sz m a ts (.ok (b, q))) : ∃ d, IsT b d := by
  obtain ⟨n, hn⟩ := h
  exact ex_tree n m a ts b q hn (fun h => by omega)

/-- A list of nodes that are none of an expression, and of trees: its greatest depth. -/
def IsS (l : List Nd) (d : Nat) : Prop := ∀ q e, (∃ n, n ≤ q.length + 1 ∧ deep n q = some e) → ∃ n, n ≤ (l ++ q).length + 1 ∧ deep n (l ++ q) = some (max d e)

theorem deep_grows : ∀ n l, ∀ m r, n ≤ m → deep n l = some r → deep m l = some r := by
  intro n
  induction n with
  | zero => intro l m r _ h; cases h
  | succ n ih =>
    intro l m r hm h
    cases m with
    | zero => omega
    | succ m =>
      cases l with
      | nil => exact h
      | cons x t =>
        unfold deep at h ⊢
        split at h
        · rename_i c
          rw [if_pos c]
          obtain ⟨y, h1, h2⟩ := Option.bind_eq_some_iff.1 h
          obtain ⟨z, h3, h4⟩ := Option.bind_eq_some_iff.1 h2
          rw [tr_grows (n + 1) _ (m + 1) y (by omega) h1]
          show (deep m y.2).bind _ = _
          rw [ih y.2 m z (by omega) h3]; exact h4
        · rename_i c
          rw [if_neg c]
          exact ih t m r (by omega) h

theorem IsS.nil : IsS [] 0 := fun q e ⟨n, h1, h2⟩ => ⟨n, h1, by simpa using h2⟩
theorem IsS.append {a b : List Nd} {d e : Nat} (h : IsS a d) (h' : IsS b e) : IsS (a ++ b) (max d e) := by
  intro q f hq
  have := h (b ++ q) _ (h' q f hq)
  rw [List.append_assoc, Nat.max_assoc]
  exact this
theorem IsS.plain (x : Nd) (h : isExpr x.kind = false) : IsS [x] 0 := by
  intro q e ⟨n, h1, h2⟩
  refine ⟨n + 1, by simp; omega, ?_⟩
  simp only [List.cons_append, List.nil_append]
  unfold deep
  rw [if_neg (by simp [h]), h2]
  simp
theorem IsS.tree {b : List Nd} {d : Nat} (h : IsT b d) : IsS b d := by
  intro q e ⟨n, h1, h2⟩
  obtain ⟨n1, hl, hn⟩ := h.1 q
  obtain ⟨x, r, rfl, hx⟩ := h.2.2
  refine ⟨max n n1 + 1, ?_, ?_⟩
  · rw [List.length_append]
    simp only [List.length_cons] at *
    omega
  · simp only [List.cons_append]
    unfold deep
    rw [if_pos hx]
    have : tr (max n n1 + 1) (x :: (r ++ q)) = some (d, q) := tr_grows n1 _ _ _ (by omega) hn
    rw [this]
    show (deep (max n n1) q).bind _ = _
    rw [deep_grows n q _ _ (Nat.le_max_left _ _) h2]
    rfl
theorem IsS.deep {l : List Nd} {d : Nat} (h : IsS l d) : Px.deep (l.length + 1) l = some d := by
  obtain ⟨n, h1, h2⟩ := h [] 0 ⟨1, by simp, rfl⟩
  rw [List.append_nil, Nat.max_zero] at h2
  exact deep_grows n l _ _ (by simpa using h1) h2
theorem IsS.cons {x : Nd} {l : List Nd} {d : Nat} (hx : isExpr x.kind = false) (h : IsS l d) : IsS (x :: l) d := by
  have := (IsS.plain x hx).append h
  rwa [Nat.zero_max] at this
end Px
end Go.Proofs.YtihchcoclncjdaaDoor
