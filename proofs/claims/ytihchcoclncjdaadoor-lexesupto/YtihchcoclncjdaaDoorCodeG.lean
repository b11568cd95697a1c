/- Contracts of the program's own reader: quotedName, token, next, Tokens. -/
import Derived.Test.YtihchcoclncjdaaDoorCodeE
import Derived.Test.YtihchcoclncjdaaDoorCodeF
namespace Go.Proofs.YtihchcoclncjdaaDoor
open Go.RowKit
set_option linter.unusedSimpArgs false
set_option linter.unusedVariables false

/-- What the reader says of a name in quotes. -/
def nameR (r : Except Nat (Nat × Lx.Bs × Nat)) : Except Nat (Nat × Lx.Bs × Nat) :=
  match r with
  | .ok (c, t, n) => if t = [] then .error 2 else .ok (c, t, n)
  | .error c => .error c

set_option maxRecDepth 100000 in
set_option maxHeartbeats 1000000 in
theorem quotedName_any (w : World) (B : Nat) (s : ByteArray) (k st : Nat) (h : Rd w B s k st) (hk : k < s.size) (hm : s[k].toNat < 128) (hm0 : s[k].toNat ≠ 0) :
    Calls Tryd.prog 44 #[.pointer (some ⟨B, 0, none⟩)] w (Told (nameR (quoteR s k s[k])) w B s k st outOne) := by
  have HQ := quoted_any w B s k st h hk hm hm0
  generalize quoteR s k s[k] = r at *
  have HQ2 := hd HQ
  clear HQ
  go_enter Tryd.func44, Tryd.ntmps44
  go_wp2_with fail
  refine HQ2.out.mono ?_
  rintro e w1 ⟨g1, ht⟩
  match r, ht with
  | .error c, ht =>
    subst ht
    exact ⟨rfl, g1, rfl⟩
  | .ok (c, t, n), ht =>
    obtain ⟨tv, rfl, rfl, h1⟩ := ht
    unfold outOne
    cases hem : tv.toList.isEmpty
    · have hne : tv.data.toList ≠ [] := by intro e; rw [Lib.toList_data, e] at hem; cases hem
      have HNE := hd hne
      clear hne
      go_wp2
      go_ret
      refine ⟨g1, ?_⟩
      unfold nameR
      simp only
      rw [if_neg HNE.out]
      exact ⟨tv, rfl, rfl, h1⟩
    · have he : tv.data.toList = [] := by rw [Lib.toList_data] at hem; simpa using hem
      have HE := hd he
      clear he
      go_wp2_with fail
      refine (fail_any _ B s (k + n) st 2 h1).mono ?_
      rintro e w3 ⟨rfl, rfl⟩
      refine ⟨rfl, g1, ?_⟩
      unfold nameR
      simp only
      rw [if_pos HE.out]
      rfl

theorem quote_spec (s : ByteArray) (k : Nat) (hk : k < s.size) (hl : Lx.isLet s[k] = false) (hdg : Lx.isDig s[k] = false) (hq : s[k].toNat = 39 ∨ s[k].toNat = 34) :
    Lx.oneT (s.data.toList.drop k) = match (if s[k].toNat = 34 then nameR (quoteR s k s[k]) else quoteR s k s[k]) with | .ok (_, t, n) => .ok (if s[k].toNat = 34 then 18 else 17, t, n) | .error c => .error c := by
  rw [oneT_quote s k hk hl hdg hq]
  unfold quoteR nameR
  cases Lx.betw s[k] (s.data.toList.drop (k + 1)) with
  | none => by_cases h34 : s[k].toNat = 34 <;> simp [h34]
  | some y =>
    obtain ⟨t, n⟩ := y
    simp only
    cases hv : Lx.validN t
    · by_cases h34 : s[k].toNat = 34 <;> simp [h34]
    · simp only [if_true, Bool.true_eq_false, false_or]
      by_cases h34 : s[k].toNat = 34
      · by_cases ht : t = []
        · simp [h34, ht]
        · simp [h34, ht]
      · simp [h34]

/-- The rune next, where a byte stands. -/
theorem peek_byte (s : ByteArray) (k : Nat) (hk : k < s.size) : ((peekN s k).1 = (s[k].toNat : Int) ∧ s[k].toNat < 128) ∨ (((peekN s k).1 = -2 ∨ 128 ≤ (peekN s k).1) ∧ 128 ≤ s[k].toNat) := by
  unfold peekN
  rw [if_pos hk]
  by_cases hc : Lx.charN (s.data.toList.drop k) = 0
  · rw [if_pos hc]; exact .inr ⟨.inl rfl, (dec_bad s k hk hc).2⟩
  · rw [if_neg hc]
    rcases (dec_good s k hk hc).2.2 with ⟨_, q2, q3⟩ | ⟨_, q2, q3⟩
    · exact .inl ⟨by simp only; rw [q2], q3⟩
    · exact .inr ⟨.inr (by simp only; omega), q3⟩

/-- What the reader says of the token: with its kind. -/
theorem told_kind {r : Except Nat (Nat × Lx.Bs × Nat)} {w : World} {B : Nat} {s : ByteArray} {k st : Nat} {e : Ending} {w' : World} (h : Told r w B s k st outOne e w') :
    w.grownBy w' (some B) ∧ ((∃ c, r = .error c ∧ e = .panicked [{ v := .iface 58 (.agg #[.int .i64 (st : Int), .int .i64 (c : Int)]), recovered := false }]) ∨ (∃ c t n tv, r = .ok (c, t, n) ∧ e = .returned (.string tv) ∧ tv.data.toList = t ∧ Rd w' B s (k + n) st)) := by
  refine ⟨h.1, ?_⟩
  match r, h.2 with
  | .error c, ht => exact .inl ⟨c, rfl, ht⟩
  | .ok (c, t, n), ⟨tv, h1, h2, h3⟩ => exact .inr ⟨c, t, n, tv, rfl, h2, h1, h3⟩

set_option maxRecDepth 100000 in
set_option maxHeartbeats 2000000 in
theorem token_any (w : World) (B : Nat) (s : ByteArray) (k st : Nat) (h : Rd w B s k st) (hk : k < s.size) :
    Calls Tryd.prog 34 #[.pointer (some ⟨B, 0, none⟩)] w (Told (Lx.oneT (s.data.toList.drop k)) w B s k st outTwo) := by
  have HPB := hd (peek_byte s k hk)
  go_enter Tryd.func34, Tryd.ntmps34
  go_wp2_with fail
  refine (peek_any w B s k st h).mono ?_
  rintro e w1 ⟨rfl, hb1⟩
  have h1 := h.below hb1
  have HG1 : Hid (w.grownBy w1 (some B)) := Below.grownBy hb1
  clear hb1
  generalize peekN s k = d at *
  obtain ⟨c, n⟩ := d
  simp only at HPB ⊢
  go_wp2_with fail
  refine (isDigit_any _ _).mono ?_
  rintro e w' ⟨rfl, rfl⟩
  cases hdg : Lx.isDig s[k]
  · have hd1 : rDig c = false := by
      unfold Lx.isDig at hdg; unfold rDig
      have := HPB.out; simp at hdg ⊢; omega
    cases hl : Lx.isLet s[k]
    · have hw1 : rWd c = false := by
        unfold Lx.isLet at hl; unfold rWd; unfold Lx.isDig at hdg
        have := HPB.out; simp at hdg hl ⊢; omega
      rw [hd1]
      go_wp2_with fail
      refine (inWord_any _ _).mono ?_
      rintro e w' ⟨rfl, rfl⟩
      rw [hw1]
      by_cases h39 : s[k].toNat = 39
      · have HS := hd (quote_spec s k hk hl hdg (.inl h39))
        have hc : c = 39 := by have := HPB.out; omega
        subst hc
        rw [if_neg (by omega)] at HS
        have HT := hd (quoted_any _ B s k st h1 hk (by omega) (by omega))
        generalize quoteR s k s[k] = r at *
        go_wp2_with fail
        refine HT.out.mono ?_
        intro e w2 ht
        rcases told_kind ht with ⟨g2, ⟨c, rfl, rfl⟩ | ⟨c, t, n, tv, rfl, rfl, htv, h2⟩⟩
        · exact ⟨rfl, grownBy_trans HG1.out g2, by rw [HS.out]⟩
        · go_wp2
          go_ret2
          refine ⟨grownBy_trans HG1.out g2, ?_⟩
          rw [HS.out]
          simp only
          rw [if_neg (by omega)]
          exact ⟨tv, htv, rfl, h2⟩
      · by_cases h34 : s[k].toNat = 34
        · have HS := hd (quote_spec s k hk hl hdg (.inr h34))
          have hc : c = 34 := by have := HPB.out; omega
          subst hc
          rw [if_pos h34] at HS
          have HT := hd (quotedName_any _ B s k st h1 hk (by omega) (by omega))
          generalize nameR (quoteR s k s[k]) = r at *
          go_wp2_with fail
          refine HT.out.mono ?_
          intro e w2 ht
          rcases told_kind ht with ⟨g2, ⟨c, rfl, rfl⟩ | ⟨c, t, n, tv, rfl, rfl, htv, h2⟩⟩
          · exact ⟨rfl, grownBy_trans HG1.out g2, by rw [HS.out]⟩
          · go_wp2
            go_ret2
            refine ⟨grownBy_trans HG1.out g2, ?_⟩
            rw [HS.out]
            simp only
            rw [if_pos h34]
            exact ⟨tv, htv, rfl, h2⟩
        · have n1 : (c == 39) = false := by rw [beq_eq_false_iff_ne]; have := HPB.out; omega
          have n2 : (c == 34) = false := by rw [beq_eq_false_iff_ne]; have := HPB.out; omega
          have HT := hd (sign_any _ B s k st h1 hk hl hdg (by omega))
          have HK : Hid (∀ x y z, Lx.oneT (s.data.toList.drop k) = .ok (x, y, z) → x = 51) := by
            intro x y z e
            rw [sign_spec s k hk hl hdg (by omega)] at e
            split at e
            · simp only [Except.ok.injEq, Prod.mk.injEq] at e; exact e.1.symm
            · cases e
          generalize Lx.oneT (s.data.toList.drop k) = r at *
          go_wp2_with fail
          refine HT.out.mono ?_
          intro e w2 ht
          rcases told_kind ht with ⟨g2, ⟨c, rfl, rfl⟩ | ⟨c, t, n, tv, rfl, rfl, htv, h2⟩⟩
          · exact ⟨rfl, grownBy_trans HG1.out g2, rfl⟩
          · obtain rfl := HK.out _ _ _ rfl
            go_wp2
            go_ret2
            exact ⟨grownBy_trans HG1.out g2, tv, htv, rfl, h2⟩
    · have hw1 : rWd c = true := by
        unfold Lx.isLet at hl; unfold rWd
        have := HPB.out; simp at hl ⊢; omega
      rw [hd1]
      go_wp2_with fail
      refine (inWord_any _ _).mono ?_
      rintro e w' ⟨rfl, rfl⟩
      rw [hw1]
      have HT := hd (word_any _ B s k st h1 hk hl)
      generalize Lx.oneT (s.data.toList.drop k) = r at *
      go_wp2_with fail
      refine HT.out.mono ?_
      intro e w2 ht
      obtain ⟨g2, ht⟩ := ht
      match r, ht with
      | .error c, ht => subst ht; exact ⟨rfl, grownBy_trans HG1.out g2, rfl⟩
      | .ok (c, t, n), ⟨tv, htv, he, h2⟩ =>
        subst he
        unfold outTwo
        go_wp2
        go_ret2
        exact ⟨grownBy_trans HG1.out g2, tv, htv, rfl, h2⟩
  · have hl : Lx.isLet s[k] = false := by unfold Lx.isDig at hdg; unfold Lx.isLet; simp at hdg ⊢; omega
    have hd1 : rDig c = true := by
      unfold Lx.isDig at hdg; unfold rDig
      have := HPB.out; simp at hdg ⊢; omega
    rw [hd1]
    have HT := hd (number_any _ B s k st h1 hk hl hdg)
    have HK : Hid (∀ x y z, Lx.oneT (s.data.toList.drop k) = .ok (x, y, z) → x = 16) := by
      intro x y z e
      rw [oneT_digit s k hk hl hdg] at e
      split at e
      · cases e
      · split at e
        · cases e
        · simp only [Except.ok.injEq, Prod.mk.injEq] at e; exact e.1.symm
    generalize Lx.oneT (s.data.toList.drop k) = r at *
    go_wp2_with fail
    refine HT.out.mono ?_
    intro e w2 ht
    rcases told_kind ht with ⟨g2, ⟨c, rfl, rfl⟩ | ⟨c, t, n, tv, rfl, rfl, htv, h2⟩⟩
    · exact ⟨rfl, grownBy_trans HG1.out g2, rfl⟩
    · obtain rfl := HK.out _ _ _ rfl
      go_wp2
      go_ret2
      exact ⟨grownBy_trans HG1.out g2, tv, htv, rfl, h2⟩

theorem clone_any (t : ByteArray) (w : World) (h : t.size ≤ 100000) : Calls Tryd.prog 35 #[.string t] w fun e w' => e = .returned (.string t) ∧ Below w.heap.size w w' := by
  go_enter Tryd.func35, Tryd.ntmps35
  go_wp2_with fail
  refine (Tryd.stringslite_Clone t w (by omega)).mono ?_
  rintro e w' ⟨rfl, hb⟩
  go_wp2
  go_ret
  exact ⟨rfl, hb⟩

theorem size_setCell (w : World) (p : Addr) (v : Value) : (w.setCell p v).heap.size = w.heap.size := by simp [World.setCell]

/-- A store into memory that is new leaves what was there. -/
theorem grownBy_far {w w1 : World} {row : Option Nat} (h : w.grownBy w1 row) (i : Nat) (v : Value) : w.grownBy (w1.setCell ⟨w.heap.size, i, none⟩ v) row :=
  ⟨h.os, h.tape, h.output, by rw [size_setCell]; exact h.size, fun k hk hne => (Below.heap_setCell w1 _ v k (by simp; omega)).trans (h.block k hk hne)⟩
theorem Rd.far {w : World} {B N : Nat} {s : ByteArray} {k st : Nat} (h : Rd w B s k st) (hne : ¬ N = B) (i : Nat) (v : Value) (hN : 6 ≤ N := by omega) : Rd (w.setCell ⟨N, i, none⟩ v) B s k st :=
  ⟨h.blk.far _ _ hne, h.low, h.env.grown (grownBy_set w N i v) hN, h.le, h.small⟩

/-- What 'next' says. -/
def NextV (r : Except Nat (Nat × Lx.Bs × Nat)) (w : World) (B : Nat) (s : ByteArray) (k : Nat) (e : Ending) (w' : World) : Prop :=
  w.grownBy w' (some B) ∧ match r with
  | .ok (c, t, n) => ∃ tv : ByteArray, tv.data.toList = t ∧ e = .returned (.agg #[.int .i64 (c : Int), .string tv, .int .i64 (k : Int)]) ∧ Rd w' B s (k + n) k
  | .error c => e = .panicked [{ v := .iface 58 (.agg #[.int .i64 (k : Int), .int .i64 (c : Int)]), recovered := false }]

set_option maxRecDepth 100000 in
set_option maxHeartbeats 2000000 in
theorem next_any (w : World) (B : Nat) (s : ByteArray) (k st : Nat) (h : Rd w B s k st) (hk : k < s.size) :
    Calls Tryd.prog 18 #[.pointer (some ⟨B, 0, none⟩)] w (NextV (Lx.oneT (s.data.toList.drop k)) w B s k) := by
  have hsm := h.small
  obtain ⟨⟨b0, b1, b2⟩, b3, b4, b5⟩ := h.blk.three
  have hBlt := h.blk.lt
  have hone : ∀ c t n, Lx.oneT (s.data.toList.drop k) = .ok (c, t, n) → t.length ≤ 2000 := by
    intro c t n e
    have := Lx.oneT_len e
    rw [List.length_drop, show s.data.toList.length = s.size from by simp] at this
    omega
  have HON := hd hone
  clear hone
  go_enter Tryd.func18, Tryd.ntmps18
  go_wp2_with fail
  have h1 : Rd ((w.setCell ⟨B, 2, none⟩ (.int .i64 (k : Int))).alloc (.cells #[.int .i64 0, .string ⟨#[]⟩, .int .i64 0] 43)) B s k k := (h.set2 k).below ((Below.refl _ _).alloc (Nat.le_refl _) _)
  have HG1 := hd (grownBy_trans (grownBy_set w B 2 (.int .i64 (k : Int))) (World.grownBy_alloc (w.setCell ⟨B, 2, none⟩ (.int .i64 (k : Int))) (.cells #[.int .i64 0, .string ⟨#[]⟩, .int .i64 0] 43) (some B)))
  have R1 : Blk ((w.setCell ⟨B, 2, none⟩ (.int .i64 (k : Int))).alloc (.cells #[.int .i64 0, .string ⟨#[]⟩, .int .i64 0] 43)) w.heap.size #[.int .i64 0, .string ⟨#[]⟩, .int .i64 0] 43 := (by have x := Blk.new (w.setCell ⟨B, 2, none⟩ (.int .i64 (k : Int))) #[.int .i64 0, .string ⟨#[]⟩, .int .i64 0] 43; rwa [size_setCell] at x)
  refine (token_any _ B s k k h1 hk).mono ?_
  rintro e w2 ⟨g2, ht⟩
  have HG2 := hd (grownBy_trans HG1.out g2)
  have R2 : Blk w2 w.heap.size #[.int .i64 0, .string ⟨#[]⟩, .int .i64 0] 43 := by
    unfold Blk at R1 ⊢
    rw [g2.block _ (Array.getElem?_eq_some_iff.1 R1).1 (by simp; omega)]; exact R1
  clear g2 R1 h1
  rcases hr : Lx.oneT (s.data.toList.drop k) with c | ⟨c, t, n⟩
  · rw [hr] at ht
    simp only at ht
    subst ht
    exact ⟨rfl, HG2.out, rfl⟩
  · rw [hr] at ht
    obtain ⟨tv, htv, rfl, h2⟩ := ht
    have hlen := HON.out c t n hr
    have htl : tv.size ≤ 2000 := by rw [Lib.size_eq, htv]; exact hlen
    have HR := hd hr
    have HTV := hd htv
    clear hr htv hlen
    unfold outTwo
    obtain ⟨⟨a0, a1, a2⟩, a3, a4, a5⟩ := h2.blk.three
    obtain ⟨⟨r0, r1, r2⟩, r3, r4, r5⟩ := R2.three
    have hz2 : w.heap.size < w2.heap.size := R2.lt
    have hne : ¬ w.heap.size = B := by omega
    have hlow := h.low
    clear b0 b1 b2 b3 b4 b5
    go_wp2
    go_region_with (go_at_call 35; refine (clone_any tv _ (by omega)).mono ?_; rintro e w3 ⟨rfl, hb3⟩; have c2 := (h2.drew.below hb3).blk.cell 2; have q0 := (R2.drew.below hb3 hz2).cell 0; have q1 := (R2.drew.below hb3 hz2).cell 1; have q2 := (R2.drew.below hb3 hz2).cell 2; have q3 := (R2.drew.below hb3 hz2).free 0; have q4 := (R2.drew.below hb3 hz2).free 1; have q5 := (R2.drew.below hb3 hz2).free 2; simp at c2 q0 q1 q2)
    all_goals
      go_wp2
      have F := (((R2.drew.below hb3 hz2).set 0 (.int .i64 (c : Int))).set 1 (.string tv)).set 2 (.int .i64 (k : Int))
      obtain ⟨⟨f0, f1, f2⟩, -⟩ := Blk.three F
      have h3 := h2.drew.below hb3
      refine bodyPost_ret (v := .agg #[.int .i64 (c : Int), .string tv, .int .i64 (k : Int)]) ?_ rfl ⟨?_, ?_⟩
      · simp only [f0, f1, f2, results, Tryd.results18, go_sem]
        simp [f0, f1, f2, go_sem]
      · exact grownBy_far (grownBy_far (grownBy_far (grownBy_trans (grownBy_drew HG2.out) (Below.grownBy hb3)) 0 _) 1 _) 2 _
      · rw [HR.out]
        exact ⟨tv, HTV.out, rfl, ((h3.far hne 0 _).far hne 1 _).far hne 2 _⟩

end Go.Proofs.YtihchcoclncjdaaDoor
