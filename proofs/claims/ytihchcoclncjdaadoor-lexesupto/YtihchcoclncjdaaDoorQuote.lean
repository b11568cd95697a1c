/- What stands in quotes, read character by character: plain lemmas. -/
import Derived.Test.YtihchcoclncjdaaDoorCodeB
namespace Go.Proofs.YtihchcoclncjdaaDoor
open Go.RowKit
set_option linter.unusedSimpArgs false
set_option linter.unusedVariables false

theorem folB_take (l x : Lx.Bs) (n i lo hi : Nat) (hi' : i < n) (hn : n ≤ l.length) : Lx.folB (l.take n ++ x) i lo hi = Lx.folB l i lo hi := by
  unfold Lx.folB
  rw [List.getElem?_append_left (by simp; omega), List.getElem?_take_of_lt hi']

theorem charN_take (l x : Lx.Bs) (h0 : Lx.charN l ≠ 0) : Lx.charN (l.take (Lx.charN l) ++ x) = Lx.charN l := by
  have hle := Lx.charN_le l
  obtain ⟨n, hn⟩ : ∃ n, Lx.charN l = n := ⟨_, rfl⟩
  rw [hn] at h0 hle ⊢
  match l, hn, hle with
  | [], hn, hle => simp [Lx.charN] at hn; omega
  | b :: r, hn, hle =>
    obtain ⟨n', rfl⟩ : ∃ n', n = n' + 1 := ⟨n - 1, by omega⟩
    have ft := folB_take (b :: r) x (n' + 1)
    have e : (b :: r).take (n' + 1) ++ x = b :: (r.take n' ++ x) := by simp
    simp only [e] at ft
    rw [e]
    simp only [Lx.charN] at hn ⊢
    by_cases c1 : b.toNat < 128
    · rw [if_pos c1] at hn ⊢; exact hn
    · rw [if_neg c1] at hn ⊢
      by_cases c2 : (194 ≤ b.toNat ∧ b.toNat ≤ 223) ∧ Lx.folB (b :: r) 1 128 191 = true
      · rw [if_pos c2] at hn
        rw [if_pos ⟨c2.1, by rw [ft 1 128 191 (by omega) hle]; exact c2.2⟩]; exact hn
      · rw [if_neg c2] at hn
        by_cases c3 : (224 ≤ b.toNat ∧ b.toNat ≤ 239) ∧ Lx.folB (b :: r) 1 (Lx.loOf b.toNat) (Lx.hiOf b.toNat) = true ∧ Lx.folB (b :: r) 2 128 191 = true
        · rw [if_pos c3] at hn
          rw [if_neg (by omega), if_pos ⟨c3.1, by rw [ft 1 _ _ (by omega) hle]; exact c3.2.1, by rw [ft 2 _ _ (by omega) hle]; exact c3.2.2⟩]; exact hn
        · rw [if_neg c3] at hn
          by_cases c4 : (240 ≤ b.toNat ∧ b.toNat ≤ 244) ∧ Lx.folB (b :: r) 1 (Lx.loOf b.toNat) (Lx.hiOf b.toNat) = true ∧ Lx.folB (b :: r) 2 128 191 = true ∧ Lx.folB (b :: r) 3 128 191 = true
          · rw [if_pos c4] at hn
            rw [if_neg (by omega), if_neg (by omega), if_pos ⟨c4.1, by rw [ft 1 _ _ (by omega) hle]; exact c4.2.1, by rw [ft 2 _ _ (by omega) hle]; exact c4.2.2.1, by rw [ft 3 _ _ (by omega) hle]; exact c4.2.2.2⟩]; exact hn
          · rw [if_neg c4] at hn; omega

/-- A valid character that is no nought goes ahead of whatever follows. -/
theorem valid_char (l x : Lx.Bs) (h0 : Lx.charN l ≠ 0) (hb : ∀ b r, l = b :: r → b.toNat ≠ 0) : Lx.validN (l.take (Lx.charN l) ++ x) = Lx.validN x := by
  have hle := Lx.charN_le l
  have hc := charN_take l x h0
  obtain ⟨n, hn⟩ : ∃ n, Lx.charN l = n := ⟨_, rfl⟩
  rw [hn] at h0 hle hc ⊢
  match l, hb, hle, hc with
  | [], hb, hle, hc => simp at hle; omega
  | b :: r, hb, hle, hc =>
    obtain ⟨n', rfl⟩ : ∃ n', n = n' + 1 := ⟨n - 1, by omega⟩
    have e : (b :: r).take (n' + 1) ++ x = b :: (r.take n' ++ x) := by simp
    rw [e] at hc ⊢
    rw [Lx.validN_cons, hc, if_neg (by have := hb b r rfl; omega)]
    congr 1
    simp only [List.drop_succ_cons]
    have hl : (r.take n').length = n' := by simp at hle ⊢; omega
    rw [List.drop_append, hl, Nat.sub_self, List.drop_zero, List.drop_eq_nil_of_le (by omega), List.nil_append]

theorem betw_head (m : UInt8) (r x : Lx.Bs) (n lo hi : Nat) (hm : m.toNat < lo) (h : Lx.betw m r = some (x, n)) : Lx.folB x 0 lo hi = Lx.folB r 0 lo hi ∧ (Lx.folB r 0 lo hi = true → ∃ c r1 x1 n1, r = c :: r1 ∧ x = c :: x1 ∧ Lx.betw m r1 = some (x1, n1)) := by
  match r, h with
  | [], h => simp [Lx.betw] at h
  | c :: r1, h =>
    by_cases hc : c = m
    · subst hc
      have fr : Lx.folB (c :: r1) 0 lo hi = false := by simp [Lx.folB]; omega
      rw [fr]
      refine ⟨?_, by simp⟩
      match r1, h with
      | [], h => simp [Lx.betw] at h; rw [h.1]; rfl
      | d :: r2, h =>
        simp only [Lx.betw, if_true] at h
        split at h
        · simp only [Option.map_eq_some_iff, Prod.exists, Prod.mk.injEq] at h
          obtain ⟨x', n', _, rfl, _⟩ := h
          simp [Lx.folB]; omega
        · simp at h; rw [h.1]; rfl
    · rw [betw_other m c r1 hc] at h
      simp only [Option.map_eq_some_iff, Prod.exists, Prod.mk.injEq] at h
      obtain ⟨x1, n1, h1, rfl, _⟩ := h
      exact ⟨rfl, fun _ => ⟨c, r1, x1, n1, rfl, rfl, h1⟩⟩

theorem folB_succ (b : UInt8) (r : Lx.Bs) (i lo hi : Nat) : Lx.folB (b :: r) (i + 1) lo hi = Lx.folB r i lo hi := by
  unfold Lx.folB
  rw [List.getElem?_cons_succ]

/-- Where no valid character begins, none begins in what stands between. -/
theorem betw_char (m b : UInt8) (r x : Lx.Bs) (n : Nat) (hm : m.toNat < 128) (h : Lx.betw m r = some (x, n)) : Lx.charN (b :: x) = Lx.charN (b :: r) := by
  have lo : ∀ b, 128 ≤ Lx.loOf b := by
    intro b; unfold Lx.loOf
    repeat' split
    all_goals omega
  have e1 := (betw_head m r x n 128 191 (by omega) h).1
  have e2 := betw_head m r x n (Lx.loOf b.toNat) (Lx.hiOf b.toNat) (by have := lo b.toNat; omega) h
  simp only [Lx.charN, folB_succ b x 0, folB_succ b r 0, folB_succ b x 1, folB_succ b r 1, folB_succ b x 2, folB_succ b r 2, e1, e2.1]
  cases hn : Lx.folB r 0 (Lx.loOf b.toNat) (Lx.hiOf b.toNat)
  · simp
  · obtain ⟨c, r1, x1, n1, rfl, rfl, h1⟩ := e2.2 hn
    have e3 := betw_head m r1 x1 n1 128 191 (by omega) h1
    simp only [folB_succ c x1 0, folB_succ c r1 0, folB_succ c x1 1, folB_succ c r1 1, e3.1]
    cases hn2 : Lx.folB r1 0 128 191
    · simp
    · obtain ⟨d, r2, x2, n2, rfl, rfl, h2⟩ := e3.2 hn2
      have e4 := betw_head m r2 x2 n2 128 191 (by omega) h2
      simp only [folB_succ d x2 0, folB_succ d r2 0, e4.1]

/-- What stands between is not valid where the reader meets a byte that begins no character, or a nought. -/
theorem betw_bad (m : UInt8) (l t : Lx.Bs) (n : Nat) (hm : m.toNat < 128) (hm0 : m.toNat ≠ 0) (hl : l ≠ []) (h : Lx.betw m l = some (t, n)) (hb : Lx.charN l = 0 ∨ l.head? = some 0) : Lx.validN t = false := by
  match l, hl, h, hb with
  | b :: r, _, h, hb =>
    have hbm : b ≠ m := by
      rintro rfl
      rcases hb with hb | hb
      · simp [Lx.charN, hm] at hb
      · simp at hb; subst hb; simp at hm0
    rw [betw_other m b r hbm] at h
    simp only [Option.map_eq_some_iff, Prod.exists, Prod.mk.injEq] at h
    obtain ⟨x, n', h1, rfl, _⟩ := h
    rw [Lx.validN_cons, if_pos]
    rcases hb with hb | hb
    · left; rw [betw_char m b r x n' hm h1]; exact hb
    · right; simp at hb; subst hb; rfl

theorem BetwAt.others {m : UInt8} : ∀ (n : Nat) {l : Lx.Bs} {k : Nat} {acc : Lx.Bs}, BetwAt m l k acc → k + n ≤ l.length → (∀ j, j < n → (l.drop k)[j]? ≠ some m) → BetwAt m l (k + n) (acc ++ (l.drop k).take n)
  | 0, l, k, acc, h, _, _ => by simpa using h
  | n + 1, l, k, acc, h, hk, hne => by
    have e : l.drop k = l[k]'(by omega) :: l.drop (k + 1) := List.drop_eq_getElem_cons (by omega)
    have h1 := h.other e (by have := hne 0 (by omega); rw [e, List.getElem?_cons_zero] at this; exact fun q => this (by rw [q]))
    have h2 := BetwAt.others n h1 (by omega) (fun j hj => by have := hne (j + 1) (by omega); rw [e, List.getElem?_cons_succ] at this; exact this)
    rw [show k + 1 + n = k + (n + 1) from by omega] at h2
    rw [e, List.take_succ_cons]
    simpa using h2

/-- What the reader says of what stands in quotes. -/
def quoteR (s : ByteArray) (k : Nat) (m : UInt8) : Except Nat (Nat × Lx.Bs × Nat) :=
  match Lx.betw m (s.data.toList.drop (k + 1)) with
  | some (t, n) => if Lx.validN t = true then .ok (0, t, n + 1) else .error 2
  | none => .error 2

/-- The reader's state in quotes: what is read is valid so far. -/
structure Quo (s : ByteArray) (k : Nat) (m : UInt8) (j : Nat) (acc : Lx.Bs) : Prop where
  at_ : BetwAt m (s.data.toList.drop (k + 1)) (j - (k + 1)) acc
  ge : k + 1 ≤ j
  ok : ∀ x, Lx.validN (acc ++ x) = Lx.validN x

theorem Quo.dropped {s : ByteArray} {k : Nat} {m : UInt8} {j : Nat} {acc : Lx.Bs} (h : Quo s k m j acc) : (s.data.toList.drop (k + 1)).drop (j - (k + 1)) = s.data.toList.drop j := by
  rw [List.drop_drop]; congr 1; have := h.ge; omega
theorem Quo.len {s : ByteArray} {k : Nat} {m : UInt8} {j : Nat} {acc : Lx.Bs} (h : Quo s k m j acc) : acc.length ≤ j := by
  have := h.at_.2; omega

theorem Quo.start (s : ByteArray) (k : Nat) (m : UInt8) : Quo s k m (k + 1) [] :=
  ⟨by rw [Nat.sub_self]; exact BetwAt.start _ _, by omega, fun x => rfl⟩

/-- The text ends, or a byte begins no character, or there is a nought: it gives up. -/
theorem Quo.fail {s : ByteArray} {k : Nat} {m : UInt8} {j : Nat} {acc : Lx.Bs} (h : Quo s k m j acc) (hm : m.toNat < 128) (hm0 : m.toNat ≠ 0)
    (hb : s.data.toList.drop j = [] ∨ Lx.charN (s.data.toList.drop j) = 0 ∨ (s.data.toList.drop j).head? = some 0) : quoteR s k m = .error 2 := by
  unfold quoteR
  have hq := h.at_.1
  rw [h.dropped] at hq
  by_cases he : s.data.toList.drop j = []
  · rw [he] at hq
    rw [hq]; rfl
  · cases hbe : Lx.betw m (s.data.toList.drop j) with
    | none => rw [hbe] at hq; rw [hq]; rfl
    | some y =>
      obtain ⟨x, n⟩ := y
      rw [hbe] at hq
      rw [hq]
      simp only [Option.map_some]
      rw [h.ok, betw_bad m _ x n hm hm0 he hbe (hb.resolve_left he)]
      rfl

/-- A mark that stands alone ends it. -/
theorem Quo.done {s : ByteArray} {k : Nat} {m : UInt8} {j : Nat} {acc r : Lx.Bs} (h : Quo s k m j acc) (e : s.data.toList.drop j = m :: r) (hr : r.head? ≠ some m) : quoteR s k m = .ok (0, acc, j - k + 1) := by
  unfold quoteR
  have hq := h.at_.last (r := r) (by rw [h.dropped, e]) hr
  rw [hq]
  have hv := h.ok []
  rw [List.append_nil] at hv
  simp only
  rw [hv, if_pos (show Lx.validN [] = true from rfl)]
  have := h.ge
  congr 3; omega

/-- Two marks stand for one. -/
theorem Quo.double {s : ByteArray} {k : Nat} {m : UInt8} {j : Nat} {acc r : Lx.Bs} (h : Quo s k m j acc) (hm : m.toNat < 128) (hm0 : m.toNat ≠ 0) (e : s.data.toList.drop j = m :: m :: r) : Quo s k m (j + 2) (acc ++ [m]) := by
  have hg := h.ge
  refine ⟨?_, by omega, ?_⟩
  · rw [show j + 2 - (k + 1) = j - (k + 1) + 2 from by omega]
    exact h.at_.double (r := r) (by rw [h.dropped, e])
  · intro x
    rw [List.append_assoc, h.ok]
    have hc : Lx.charN [m] = 1 := by simp [Lx.charN, hm]
    have := valid_char [m] x (by rw [hc]; simp) (by rintro b r' e'; simp at e'; rw [← e'.1]; exact hm0)
    rw [hc] at this
    exact this

/-- A character that is no mark stands for itself. -/
theorem Quo.char {s : ByteArray} {k : Nat} {m : UInt8} {j : Nat} {acc : Lx.Bs} (h : Quo s k m j acc) (hj : j < s.size) (hm : m.toNat < 128) (hc : Lx.charN (s.data.toList.drop j) ≠ 0) (h0 : s[j].toNat ≠ 0) (hne : s[j] ≠ m) :
    Quo s k m (j + Lx.charN (s.data.toList.drop j)) (acc ++ (s.data.toList.drop j).take (Lx.charN (s.data.toList.drop j))) := by
  have hg := h.ge
  have hle := Lx.charN_le (s.data.toList.drop j)
  have hsz : s.data.toList.length = s.size := by simp
  rw [List.length_drop, hsz] at hle
  have hgood := dec_good s j hj hc
  have e := drop_at s j hj
  refine ⟨?_, by omega, ?_⟩
  · rw [show j + Lx.charN (s.data.toList.drop j) - (k + 1) = j - (k + 1) + Lx.charN (s.data.toList.drop j) from by omega]
    have := BetwAt.others (Lx.charN (s.data.toList.drop j)) h.at_ (by rw [List.length_drop, hsz]; omega) (by
      intro i hi
      rw [h.dropped, List.getElem?_drop, List.getElem?_eq_getElem (by rw [hsz]; omega)]
      rcases hgood.2.2 with ⟨q, _, _⟩ | ⟨q, _, q2⟩
      · have : i = 0 := by omega
        subst this
        exact fun q => hne (Option.some.inj q)
      · have hh := (char_high s j hj q2).2.2 i (by rw [hgood.1]; exact hi)
        rw [get_here s (j + i) (by omega)] at hh
        intro e2
        have : s[j + i] = m := Option.some.inj e2
        rw [this] at hh
        omega)
    rw [h.dropped] at this
    exact this
  · intro x
    rw [List.append_assoc, h.ok]
    exact valid_char _ x hc (by rintro b r' e'; rw [e] at e'; simp at e'; rw [← e'.1]; exact h0)

end Go.Proofs.YtihchcoclncjdaaDoor
