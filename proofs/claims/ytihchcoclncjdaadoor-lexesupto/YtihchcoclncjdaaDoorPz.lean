/- What the tokens of a text are like: their kinds, places, texts; the value of a number's digits. -/
import Derived.Test.YtihchcoclncjdaaDoorPt
namespace Go.Proofs.YtihchcoclncjdaaDoor
namespace Lx

/-- What a token is, as the reading of tokens gives it. -/
structure TokOk (t : Tok) : Prop where
  kind : t.kind = 16 ∨ t.kind = 17 ∨ t.kind = 18 ∨ t.kind = 50 ∨ t.kind = 51
  digs : t.kind = 16 → t.text ≠ [] ∧ (∀ b ∈ t.text, isDig b = true) ∧ overTop t.text = false

theorem leastB_mem : ∀ (l : Bs) (b : UInt8), b ∈ leastB l → b ∈ l
  | [], b, h => h
  | [x], b, h => h
  | x :: c :: r, b, h => by
    unfold leastB at h
    split at h
    · exact List.mem_cons_of_mem _ (leastB_mem (c :: r) b h)
    · exact h
theorem leastB_ne : ∀ l : Bs, l ≠ [] → leastB l ≠ []
  | [], h => absurd rfl h
  | [x], _ => by simp [leastB]
  | x :: c :: r, _ => by
    unfold leastB
    split
    · exact leastB_ne (c :: r) (by simp)
    · simp
theorem cnt_all (p : UInt8 → Bool) : ∀ l : Bs, ∀ b ∈ l.take (cnt p l), p b = true
  | [], b, h => by simp at h
  | x :: r, b, h => by
    unfold cnt at h
    split at h
    · rename_i hx
      rw [List.take_succ_cons] at h
      rcases List.mem_cons.1 h with rfl | h
      · exact hx
      · exact cnt_all p r b h
    · simp at h

theorem oneT_ok {l : Bs} {k : Nat} {t : Bs} {n : Nat} (h : oneT l = .ok (k, t, n)) (p : Nat) : TokOk ⟨k, t, p⟩ := by
  unfold oneT at h
  split at h
  · simp at h
  · rename_i b r
    split at h
    · split at h
      · simp only [Except.ok.injEq, Prod.mk.injEq] at h
        obtain ⟨rfl, rfl, rfl⟩ := h
        exact ⟨by simp, fun e => by simp at e⟩
      · simp only [Except.ok.injEq, Prod.mk.injEq] at h
        obtain ⟨rfl, rfl, rfl⟩ := h
        exact ⟨by simp, fun e => by simp at e⟩
    · split at h
      · rename_i hd
        split at h
        · simp at h
        · split at h
          · simp at h
          · rename_i h3
            simp only [Except.ok.injEq, Prod.mk.injEq] at h
            obtain ⟨rfl, rfl, rfl⟩ := h
            refine ⟨by simp, fun _ => ⟨leastB_ne _ ?_, fun b hb => ?_, by simpa using h3⟩⟩
            · have : 0 < cnt isDig (b :: r) := cnt_pos hd
              intro e
              have := congrArg List.length e
              simp at this
              omega
            · exact cnt_all isDig _ b (leastB_mem _ b hb)
      · split at h
        · split at h
          · simp at h
          · split at h
            · simp at h
            · simp only [Except.ok.injEq, Prod.mk.injEq] at h
              obtain ⟨rfl, rfl, rfl⟩ := h
              refine ⟨?_, fun e => ?_⟩
              · dsimp only; split <;> simp
              · dsimp only at e; split at e <;> simp at e
        · split at h
          · simp only [Except.ok.injEq, Prod.mk.injEq] at h
            obtain ⟨rfl, rfl, rfl⟩ := h
            exact ⟨by simp, fun e => by simp at e⟩
          · split at h
            · simp only [Except.ok.injEq, Prod.mk.injEq] at h
              obtain ⟨rfl, rfl, rfl⟩ := h
              exact ⟨by simp, fun e => by simp at e⟩
            · simp at h

theorem lexM_ok : ∀ (m : Nat) (l : Bs) (pos : Nat) (ts : List Tok), l.length ≤ m → lexM 0 pos l = .ok ts → ts.length ≤ l.length ∧ ∀ t ∈ ts, TokOk t ∧ pos ≤ t.pos ∧ t.pos < pos + l.length ∧ t.text.length ≤ l.length := by
  intro m
  induction m with
  | zero =>
    intro l pos ts hl h
    obtain rfl := List.length_eq_zero_iff.1 (Nat.le_zero.1 hl)
    simp only [lexM, Except.ok.injEq] at h
    subst h
    exact ⟨by simp, fun t ht => by cases ht⟩
  | succ m ih =>
    intro l pos ts hl h
    cases l with
    | nil =>
      simp only [lexM, Except.ok.injEq] at h
      subst h
      exact ⟨by simp, fun t ht => by cases ht⟩
    | cons b r =>
      rw [lexM_cons] at h
      split at h
      · simp at h
      · rename_i k t n h1
        have hn := oneT_len h1
        have hs := skipN_le ((b :: r).drop n)
        simp only [List.length_drop, List.length_cons] at hs hn hl
        split at h
        · rename_i us h2
          simp only [Except.ok.injEq] at h
          subst h
          have i := ih _ _ _ (by simp; omega) h2
          simp only [List.length_drop, List.length_cons] at i
          refine ⟨by simp; omega, fun x hx => ?_⟩
          rcases List.mem_cons.1 hx with rfl | hx
          · exact ⟨oneT_ok h1 pos, Nat.le_refl _, by simp, by simp; omega⟩
          · obtain ⟨j1, j2, j3, j4⟩ := i.2 x hx
            exact ⟨j1, by omega, by simp; omega, by simp; omega⟩
        · simp at h

theorem lex_ok {l : Bs} {ts : List Tok} (h : lex l = .ok ts) : l.length ≤ 2000 ∧ ts.length ≤ l.length ∧ ∀ t ∈ ts, TokOk t ∧ t.pos < l.length ∧ t.text.length ≤ l.length := by
  unfold lex at h
  split at h
  · simp at h
  · rename_i hl
    have hs := skipN_le l
    have i := lexM_ok _ _ _ _ (Nat.le_refl _) h
    simp only [List.length_drop] at i
    refine ⟨by omega, by omega, fun t ht => ?_⟩
    obtain ⟨j1, j2, j3, j4⟩ := i.2 t ht
    exact ⟨j1, by omega, by omega⟩
end Lx

namespace Px
open Lx (Bs Tok)
def dfold (s : Bs) (a : Nat) : Nat := s.foldl (fun n c => 10 * n + (c.toNat - 48)) a
theorem dval_fold (s : Bs) : dval s = dfold s 0 := by unfold dval dfold; exact Eq.refl _
theorem dfold_cons (c : UInt8) (s : Bs) (a : Nat) : dfold (c :: s) a = dfold s (10 * a + (c.toNat - 48)) := by unfold dfold; rw [List.foldl_cons]
theorem dfold_append (s t : Bs) (a : Nat) : dfold (s ++ t) a = dfold t (dfold s a) := by unfold dfold; rw [List.foldl_append]
theorem dfold_le : ∀ (s : Bs) (a b : Nat), a ≤ b → dfold s a ≤ dfold s b
  | [], a, b, h => h
  | c :: s, a, b, h => by rw [dfold_cons, dfold_cons]; exact dfold_le s _ _ (by omega)
theorem dfold_ge : ∀ (s : Bs) (a : Nat), a ≤ dfold s a
  | [], a => Nat.le_refl _
  | c :: s, a => by rw [dfold_cons]; exact Nat.le_trans (by omega) (dfold_ge s _)
theorem dfold_lt : ∀ (s t : Bs) (a b : Nat), s.length = t.length → (∀ c ∈ s, Lx.isDig c = true) → a < b → dfold s a < dfold t b
  | [], [], a, b, _, _, h => h
  | [], _ :: _, _, _, h, _, _ => by simp at h
  | _ :: _, [], _, _, h, _, _ => by simp at h
  | c :: s, d :: t, a, b, hl, hd, h => by
    rw [dfold_cons, dfold_cons]
    have hc := hd c (by simp)
    simp only [Lx.isDig, decide_eq_true_eq] at hc
    exact dfold_lt s t _ _ (by simpa using hl) (fun x hx => hd x (by simp [hx])) (by omega)
theorem dfold_less : ∀ (s t : Bs) (a : Nat), s.length = t.length → (∀ c ∈ s, Lx.isDig c = true) → (∀ c ∈ t, Lx.isDig c = true) → Op.bytesLess s t = true → dfold s a < dfold t a
  | [], [], _, _, _, _, h => by simp [Op.bytesLess] at h
  | [], _ :: _, _, h, _, _, _ => by simp at h
  | _ :: _, [], _, h, _, _, _ => by simp at h
  | c :: s, d :: t, a, hl, hs, ht, h => by
    rw [dfold_cons, dfold_cons]
    have hc := hs c (by simp)
    have hd := ht d (by simp)
    simp only [Lx.isDig, decide_eq_true_eq] at hc hd
    simp only [Op.bytesLess, Bool.or_eq_true, decide_eq_true_eq, Bool.and_eq_true, beq_iff_eq] at h
    rcases h with h | ⟨rfl, h⟩
    · have : c.toNat < d.toNat := UInt8.lt_iff_toNat_lt.1 h
      exact dfold_lt s t _ _ (by simpa using hl) (fun x hx => hs x (by simp [hx])) (by omega)
    · exact dfold_less s t _ (by simpa using hl) (fun x hx => hs x (by simp [hx])) (fun x hx => ht x (by simp [hx])) h
theorem dfold_pow : ∀ (s : Bs) (a : Nat), (∀ c ∈ s, Lx.isDig c = true) → dfold s a + 1 ≤ (a + 1) * 10 ^ s.length
  | [], a, _ => by simp [dfold]
  | c :: s, a, h => by
    rw [dfold_cons]
    have hc := h c (by simp)
    simp only [Lx.isDig, decide_eq_true_eq] at hc
    have i := dfold_pow s (10 * a + (c.toNat - 48)) (fun x hx => h x (by simp [hx]))
    have e : (10 * a + (c.toNat - 48) + 1) * 10 ^ s.length ≤ (10 * (a + 1)) * 10 ^ s.length := Nat.mul_le_mul_right _ (by omega)
    rw [List.length_cons, Nat.pow_succ, show (a + 1) * (10 ^ s.length * 10) = (10 * (a + 1)) * 10 ^ s.length from by rw [Nat.mul_comm (10 ^ s.length) 10, ← Nat.mul_assoc, Nat.mul_comm (a + 1) 10]]
    omega
theorem dval_topv : dval Lx.top = 9223372036854775808 := by decide
theorem top_digs : ∀ c ∈ Lx.top, Lx.isDig c = true := by decide
/-- A number's digits: its value is below the greatest, but for that itself. -/
theorem dval_lt {t : Bs} (hd : ∀ b ∈ t, Lx.isDig b = true) (ho : Lx.overTop t = false) (hne : t ≠ Lx.top) : dval t < 9223372036854775808 := by
  simp only [Lx.overTop, Bool.or_eq_false_iff, Bool.and_eq_false_iff, decide_eq_false_iff_not, Bool.not_eq_eq_eq_not, Bool.not_false] at ho
  obtain ⟨h1, h2⟩ := ho
  rcases h2 with h2 | h2
  · have i := dfold_pow t 0 hd
    have hl : t.length ≤ 18 := by omega
    have e : 10 ^ t.length ≤ 10 ^ 18 := Nat.pow_le_pow_right (by omega) hl
    rw [dval_fold]
    have : (10 : Nat) ^ 18 = 1000000000000000000 := by decide
    omega
  · by_cases hl : t.length = 19
    · rcases h2 with h2 | h2
      · have := dfold_less t Lx.top 0 hl hd top_digs h2
        rw [← dval_fold, ← dval_fold, dval_topv] at this
        exact this
      · exact absurd (by simpa using h2) hne
    · have i := dfold_pow t 0 hd
      have e : 10 ^ t.length ≤ 10 ^ 18 := Nat.pow_le_pow_right (by omega) (by omega)
      rw [dval_fold]
      have : (10 : Nat) ^ 18 = 1000000000000000000 := by decide
      omega
end Px
end Go.Proofs.YtihchcoclncjdaaDoor
