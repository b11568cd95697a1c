/- Rules for readings of expressions: how a reading is put together; how much is read. -/
import Derived.Test.YtihchcoclncjdaaDoorPx
namespace Go.Proofs.YtihchcoclncjdaaDoor
namespace Px
open Lx (Bs Tok)

abbrev Res (α : Type) := Except (Nat × Nat) (α × List Tok)

/-- What follows a reading: an error stays. -/
def Then {α β : Type} (r : Res α) (f : α → List Tok → Res β → Prop) (r' : Res β) : Prop :=
  match r with
  | .error e => r' = .error e
  | .ok (b, q) => f b q r'

theorem ex_bind {sz m : Nat} {a : List Nd} {ts : List Tok} {r r' : Res (List Nd)} {g : Nat → List Nd → List Tok → Out (List Nd)} (hg : ∀ b q, Grows fun n => g n b q)
    (h : Ex sz m a ts r) (h' : Then r (fun b q s => ∃ n, g n b q = some s) r') : ∃ n, obind (ex sz n m a ts) (g n) = some r' := by
  obtain ⟨n, hn⟩ := h
  match r, h' with
  | .error e, h' =>
    refine ⟨n, ?_⟩
    rw [hn]
    simp only [Then] at h'
    rw [h']; rfl
  | .ok (b, q), h' =>
    obtain ⟨k, hk⟩ := h'
    refine ⟨max n k, ?_⟩
    rw [show ex sz (max n k) m a ts = _ from ex_grows sz m a ts n (max n k) _ (Nat.le_max_left _ _) hn]
    exact hg b q k (max n k) r' (Nat.le_max_right _ _) hk

/-- Level 3 with NOT. -/
theorem Ex.not {sz : Nat} {a : List Nd} {ts : List Tok} {r r' : Res (List Nd)} (hs : sees kNOT ts = true) (h : Ex sz 3 [] ts.tail r) (h' : Then r (fun b q s => s = .ok (over1 20 b, q)) r') : Ex sz 3 a ts r' := by
  obtain ⟨n, hn⟩ := ex_bind (g := fun _ b q => some (.ok (over1 20 b, q))) (fun b q => grows_const _) h (r' := r') (by
    match r, h' with
    | .error e, h' => exact h'
    | .ok (b, q), h' => exact ⟨0, by rw [show r' = _ from h']⟩)
  refine ⟨n + 1, ?_⟩
  unfold ex
  rw [if_neg (by omega), if_pos rfl, if_pos hs]
  exact hn
theorem Ex.up3 {sz : Nat} {a : List Nd} {ts : List Tok} {r : Res (List Nd)} (hs : sees kNOT ts = false) (h : Ex sz 4 [] ts r) : Ex sz 3 a ts r := by
  obtain ⟨n, hn⟩ := h
  refine ⟨n + 1, ?_⟩
  unfold ex
  rw [if_neg (by omega), if_pos rfl, if_neg (by simp [hs])]
  exact hn

theorem tail4_grows (sz : Nat) (b : List Nd) (q : List Tok) : Grows fun n => tail4 sz (ex sz n 5 []) b q := by
  unfold tail4
  refine grows_if (grows_const _) (grows_if (grows_const _) (grows_bind (ex_grows sz 5 [] _) fun _ _ => grows_const _))

/-- Level 4: the left operand, then what follows. -/
theorem Ex.cmp {sz : Nat} {a : List Nd} {ts : List Tok} {r r' : Res (List Nd)} (h : Ex sz 5 [] ts r) (h' : Then r (fun b q s => ∃ n, tail4 sz (ex sz n 5 []) b q = some s) r') : Ex sz 4 a ts r' := by
  obtain ⟨n, hn⟩ := ex_bind (g := fun n b q => tail4 sz (ex sz n 5 []) b q) (fun b q => tail4_grows sz b q) h h'
  refine ⟨n + 1, ?_⟩
  unfold ex
  rw [if_neg (by omega), if_neg (by omega), if_pos rfl]
  exact hn
theorem tail4_is {sz : Nat} {b : List Nd} {q : List Tok} (hs : sees kIS q = true) (hn : sees kNOT q.tail = false) :
    ∃ n, tail4 sz (ex sz n 5 []) b q = some (if sees kNULL q.tail = true then .ok (over1 21 b, q.tail.tail) else .error (plc sz q.tail, 4)) := by
  refine ⟨0, ?_⟩
  unfold tail4 must
  rw [if_pos hs, if_neg (by simp [hn])]
  split <;> simp [obind, *]
theorem tail4_isnot {sz : Nat} {b : List Nd} {q : List Tok} (hs : sees kIS q = true) (hn : sees kNOT q.tail = true) :
    ∃ n, tail4 sz (ex sz n 5 []) b q = some (if sees kNULL q.tail.tail = true then .ok (over1 22 b, q.tail.tail.tail) else .error (plc sz q.tail.tail, 4)) := by
  refine ⟨0, ?_⟩
  unfold tail4 must
  rw [if_pos hs, if_pos hn]
  split <;> simp [obind, *]
theorem tail4_none {sz : Nat} {b : List Nd} {q : List Tok} (hs : sees kIS q = false) (ho : oper 4 q = 0) : ∃ n, tail4 sz (ex sz n 5 []) b q = some (.ok (b, q)) := by
  refine ⟨0, ?_⟩
  unfold tail4
  rw [if_neg (by simp [hs]), if_pos ho]
theorem tail4_op {sz : Nat} {b : List Nd} {q : List Tok} {r r' : Res (List Nd)} (hs : sees kIS q = false) (ho : oper 4 q ≠ 0) (h : Ex sz 5 [] q.tail r) (h' : Then r (fun c p s => s = .ok (over2 (oper 4 q) b c, p)) r') :
    ∃ n, tail4 sz (ex sz n 5 []) b q = some r' := by
  obtain ⟨n, hn⟩ := ex_bind (g := fun _ c p => some (.ok (over2 (oper 4 q) b c, p))) (fun _ _ => grows_const _) h (r' := r') (by
    match r, h' with
    | .error e, h' => exact h'
    | .ok (c, p), h' => exact ⟨0, by rw [show r' = _ from h']⟩)
  refine ⟨n, ?_⟩
  unfold tail4
  rw [if_neg (by simp [hs]), if_neg ho]
  exact hn

/-- Level 8. -/
theorem Ex.top {sz : Nat} {a : List Nd} {ts : List Tok} (hs : sees gMinus ts = true) (ht : isTop ts.tail = true) : Ex sz 8 a ts (.ok (leaf 16 [] bot, ts.tail.tail)) := by
  refine ⟨1, ?_⟩
  unfold ex
  rw [if_neg (by omega), if_neg (by omega), if_neg (by omega), if_pos rfl, if_pos hs, if_pos ht]
theorem Ex.neg {sz : Nat} {a : List Nd} {ts : List Tok} {r r' : Res (List Nd)} (hs : sees gMinus ts = true) (ht : isTop ts.tail = false) (h : Ex sz 8 [] ts.tail r) (h' : Then r (fun b q s => negate (plc sz ts) b q = some s) r') : Ex sz 8 a ts r' := by
  obtain ⟨n, hn⟩ := ex_bind (g := fun _ b q => negate (plc sz ts) b q) (fun _ _ => grows_const _) h (r' := r') (by
    match r, h' with
    | .error e, h' => exact h'
    | .ok (b, q), h' => exact ⟨0, h'⟩)
  refine ⟨n + 1, ?_⟩
  unfold ex
  rw [if_neg (by omega), if_neg (by omega), if_neg (by omega), if_pos rfl, if_pos hs, if_neg (by simp [ht])]
  exact hn
theorem Ex.up8 {sz : Nat} {a : List Nd} {ts : List Tok} {r : Res (List Nd)} (hs : sees gMinus ts = false) (h : Ex sz 9 [] ts r) : Ex sz 8 a ts r := by
  obtain ⟨n, hn⟩ := h
  refine ⟨n + 1, ?_⟩
  unfold ex
  rw [if_neg (by omega), if_neg (by omega), if_neg (by omega), if_pos rfl, if_neg (by simp [hs])]
  exact hn

/-- Level 9. -/
theorem Ex.bra {sz : Nat} {a : List Nd} {ts : List Tok} {r r' : Res (List Nd)} (hs : sees gOpen ts = true) (h : Ex sz 1 [] ts.tail r)
    (h' : Then r (fun b q s => s = if sees gShut q = true then .ok (b, q.tail) else .error (plc sz q, 4)) r') : Ex sz 9 a ts r' := by
  obtain ⟨n, hn⟩ := ex_bind (g := fun _ b q => obind (must sz gShut q) fun _ q => some (.ok (b, q))) (fun _ _ => grows_const _) h (r' := r') (by
    match r, h' with
    | .error e, h' => exact h'
    | .ok (b, q), h' =>
      refine ⟨0, ?_⟩
      rw [show r' = _ from h']
      unfold must
      split <;> simp [obind, *])
  refine ⟨n + 1, ?_⟩
  unfold ex
  rw [if_neg (by omega), if_neg (by omega), if_neg (by omega), if_neg (by omega), if_pos rfl, if_pos hs]
  exact hn
theorem Ex.atom {sz : Nat} {a : List Nd} {ts : List Tok} {r : Res (List Nd)} (hs : sees gOpen ts = false) (h : atom sz ts = some r) : Ex sz 9 a ts r := by
  refine ⟨1, ?_⟩
  unfold ex
  rw [if_neg (by omega), if_neg (by omega), if_neg (by omega), if_neg (by omega), if_pos rfl, if_neg (by simp [hs])]
  exact h

/-- The levels from the left: the first operand, then the round of operators. -/
theorem Ex.left {sz m : Nat} {a : List Nd} {ts : List Tok} {r r' : Res (List Nd)} (hm : m < 8) (h3 : m ≠ 3) (h4 : m ≠ 4) (h : Ex sz (m + 1) [] ts r) (h' : Then r (fun b q s => Ex sz (m + 10) b q s) r') : Ex sz m a ts r' := by
  obtain ⟨n, hn⟩ := ex_bind (g := fun n b q => ex sz n (m + 10) b q) (fun b q => ex_grows sz _ b q) h h'
  refine ⟨n + 1, ?_⟩
  unfold ex
  rw [if_neg (by omega), if_neg h3, if_neg h4, if_neg (by omega), if_neg (by omega)]
  exact hn
theorem Ex.end_ {sz m : Nat} {a : List Nd} {ts : List Tok} (ho : oper m ts = 0) : Ex sz (m + 10) a ts (.ok (a, ts)) := by
  refine ⟨1, ?_⟩
  unfold ex
  rw [if_pos (by omega), if_pos (by rw [Nat.add_sub_cancel]; exact ho)]
theorem Ex.more {sz m : Nat} {a : List Nd} {ts : List Tok} {r r' : Res (List Nd)} (ho : oper m ts ≠ 0) (h : Ex sz (m + 1) [] ts.tail r) (h' : Then r (fun b q s => Ex sz (m + 10) (over2 (oper m ts) a b) q s) r') : Ex sz (m + 10) a ts r' := by
  obtain ⟨n, hn⟩ := ex_bind (g := fun n b q => ex sz n (m + 10) (over2 (oper m ts) a b) q) (fun b q => ex_grows sz _ _ q) h h'
  refine ⟨n + 1, ?_⟩
  unfold ex
  rw [if_pos (by omega), if_neg (by rw [Nat.add_sub_cancel]; exact ho)]
  rw [Nat.add_sub_cancel, show m + 10 - 9 = m + 1 by omega]
  exact hn

theorem sees_cons {s : Bs} {ts : List Tok} (h : sees s ts = true) : ∃ t r, ts = t :: r := by
  cases ts with
  | nil => cases h
  | cons t r => exact ⟨t, r, rfl⟩
theorem oper_cons {m : Nat} {ts : List Tok} (h : oper m ts ≠ 0) : ∃ t r, ts = t :: r := by
  cases ts with
  | nil => exact absurd rfl h
  | cons t r => exact ⟨t, r, rfl⟩
theorem sees_len {s : Bs} {ts : List Tok} (h : sees s ts = true) : ts.tail.length + 1 = ts.length := by
  obtain ⟨t, r, rfl⟩ := sees_cons h; rfl
theorem oper_len {m : Nat} {ts : List Tok} (h : oper m ts ≠ 0) : ts.tail.length + 1 = ts.length := by
  obtain ⟨t, r, rfl⟩ := oper_cons h; rfl

theorem must_some {sz : Nat} {s : Bs} {ts : List Tok} {r : Res Unit} (h : must sz s ts = some r) : (sees s ts = true ∧ r = .ok ((), ts.tail)) ∨ (sees s ts = false ∧ r = .error (plc sz ts, 4)) := by
  unfold must at h
  split at h
  · rename_i c; cases h; exact Or.inl ⟨c, rfl⟩
  · rename_i c; cases h; exact Or.inr ⟨by simpa using c, rfl⟩

/-- HOW MUCH IS READ: each node takes a token at least; what is left is a part of what was there. -/
theorem ex_len {sz : Nat} : ∀ n m a ts b q, ex sz n m a ts = some (.ok (b, q)) → (m < 10 → b ≠ [] ∧ b.length + q.length ≤ ts.length) ∧ (10 ≤ m → (a ≠ [] → b ≠ []) ∧ b.length + q.length ≤ a.length + ts.length) := by
  intro n
  induction n with
  | zero => intro m a ts b q h; cases h
  | succ n ih =>
    intro m a ts b q h
    unfold ex at h
    split at h
    · rename_i c1
      refine ⟨fun h => by omega, fun _ => ?_⟩
      split at h
      · cases h; exact ⟨fun h => h, Nat.le_refl _⟩
      · rename_i c2
        rcases obind_some h with ⟨e, _, h2⟩ | ⟨b1, q1, h1, h2⟩
        · cases h2
        · have i1 := (ih _ _ _ _ _ h1).1
          have i2 := (ih _ _ _ _ _ h2).2 c1
          have hl := oper_len c2
          by_cases hm : m - 9 < 10
          · have := (i1 hm).2
            refine ⟨fun _ => i2.1 (by simp [over2]), ?_⟩
            have i3 := i2.2
            simp [over2] at i3
            omega
          · have := ((ih _ _ _ _ _ h1).2 (by omega)).2
            refine ⟨fun _ => i2.1 (by simp [over2]), ?_⟩
            have i3 := i2.2
            simp [over2] at i3 this
            omega
    · rename_i c1
      refine ⟨fun _ => ?_, fun h => by omega⟩
      split at h
      · split at h
        · rename_i c3
          rcases obind_some h with ⟨e, _, h2⟩ | ⟨b1, q1, h1, h2⟩
          · cases h2
          · cases h2
            have i1 := (ih _ _ _ _ _ h1).1 (by omega)
            have hl := sees_len c3
            refine ⟨by simp [over1], ?_⟩
            have := i1.2
            simp [over1]
            omega
        · exact (ih _ _ _ _ _ h).1 (by omega)
      · split at h
        · rcases obind_some h with ⟨e, _, h2⟩ | ⟨b1, q1, h1, h2⟩
          · cases h2
          · have i1 := (ih _ _ _ _ _ h1).1 (by omega)
            unfold tail4 at h2
            split at h2
            · rename_i c4
              have hl := sees_len c4
              split at h2
              · rename_i c5
                have hl2 := sees_len c5
                rcases obind_some h2 with ⟨e, _, h3⟩ | ⟨b2, q2, h3, h4⟩
                · cases h3
                · cases h4
                  rcases must_some h3 with ⟨c6, h6⟩ | ⟨_, h6⟩
                  · cases h6
                    have hl3 := sees_len c6
                    refine ⟨by simp [over1], ?_⟩
                    have := i1.2
                    simp [over1] at *
                    omega
                  · cases h6
              · rcases obind_some h2 with ⟨e, _, h3⟩ | ⟨b2, q2, h3, h4⟩
                · cases h3
                · cases h4
                  rcases must_some h3 with ⟨c6, h6⟩ | ⟨_, h6⟩
                  · cases h6
                    have hl3 := sees_len c6
                    refine ⟨by simp [over1], ?_⟩
                    have := i1.2
                    simp [over1] at *
                    omega
                  · cases h6
            · split at h2
              · cases h2; exact i1
              · rename_i c5
                have hl := oper_len c5
                rcases obind_some h2 with ⟨e, _, h3⟩ | ⟨b2, q2, h3, h4⟩
                · cases h3
                · cases h4
                  have i2 := (ih _ _ _ _ _ h3).1 (by omega)
                  refine ⟨by simp [over2], ?_⟩
                  have := i1.2
                  have := i2.2
                  simp [over2] at *
                  omega
        · split at h
          · split at h
            · rename_i c5
              have hl := sees_len c5
              split at h
              · rename_i c6
                cases h
                have hl2 : ts.tail.tail.length + 1 = ts.tail.length := by
                  cases h7 : ts.tail with
                  | nil => rw [h7] at c6; cases c6
                  | cons t r => simp
                refine ⟨by simp [leaf], ?_⟩
                simp [leaf] at *
                omega
              · rcases obind_some h with ⟨e, _, h2⟩ | ⟨b1, q1, h1, h2⟩
                · cases h2
                · have i1 := (ih _ _ _ _ _ h1).1 (by omega)
                  unfold negate at h2
                  split at h2
                  · cases h2
                    refine ⟨by simp [over1], ?_⟩
                    have := i1.2
                    simp [over1] at *
                  · split at h2
                    · cases h2
                      refine ⟨by simp [over1], ?_⟩
                      have := i1.2
                      simp [over1] at *
                      omega
                    · split at h2
                      · cases h2
                      · cases h2
                        refine ⟨by simp [leaf], ?_⟩
                        have := i1.2
                        simp [leaf] at *
                        omega
            · exact (ih _ _ _ _ _ h).1 (by omega)
          · split at h
            · split at h
              · rename_i c6
                have hl := sees_len c6
                rcases obind_some h with ⟨e, _, h2⟩ | ⟨b1, q1, h1, h2⟩
                · cases h2
                · have i1 := (ih _ _ _ _ _ h1).1 (by omega)
                  rcases obind_some h2 with ⟨e, _, h3⟩ | ⟨b2, q2, h3, h4⟩
                  · cases h3
                  · cases h4
                    rcases must_some h3 with ⟨c7, h7⟩ | ⟨_, h7⟩
                    · cases h7
                      have hl3 := sees_len c7
                      refine ⟨i1.1, ?_⟩
                      have := i1.2
                      omega
                    · cases h7
              · unfold Px.atom at h
                repeat' split at h
                all_goals first | (cases h; done) | (cases h; simp [leaf]; omega)
            · rcases obind_some h with ⟨e, _, h2⟩ | ⟨b1, q1, h1, h2⟩
              · cases h2
              · rename_i c2 c3 c4 c5
                have i2 := (ih _ _ _ _ _ h2).2 (by omega)
                by_cases hm : m + 1 < 10
                · have i1 := (ih _ _ _ _ _ h1).1 hm
                  exact ⟨i2.1 i1.1, by have := i1.2; have := i2.2; omega⟩
                · omega

theorem Ex.len {sz m : Nat} {a b : List Nd} {ts q : List Tok} (hm : m < 10) (h : Ex sz m a ts (.ok (b, q))) : b ≠ [] ∧ b.length + q.length ≤ ts.length := by
  obtain ⟨n, hn⟩ := h
  exact (ex_len n m a ts b q hn).1 hm
end Px
end Go.Proofs.YtihchcoclncjdaaDoor
