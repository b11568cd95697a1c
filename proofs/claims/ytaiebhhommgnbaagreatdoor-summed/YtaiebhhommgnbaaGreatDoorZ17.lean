/- Parts of the proof: CodeG CodeH CodeT CqB Loc Eg Eh Ej -/
import Derived.Test.YtaiebhhommgnbaaGreatDoorZ16
import Derived.Recover
import Derived.Defers
import Derived.Test.YtaiebhhommgnbaaGreatDoorZ15
import Derived.Test.YtaiebhhommgnbaaGreatDoorRows
import Derived.Conc.MuLib
import Derived.KernelRfl
import Derived.Conc.MuLone
import Derived.Test.YtaiebhhommgnbaaGreatDoorZ3
import Derived.Test.YtaiebhhommgnbaaGreatDoorZ13
namespace Go.Proofs.YtaiebhhommgnbaaGreatDoor
set_option linter.unusedSimpArgs false
set_option linter.unusedVariables false
set_option maxRecDepth 100000
set_option maxHeartbeats 16000000
open Go.RowKit
def nameR (r : Except Nat (Nat × Lx.Bs × Nat)) : Except Nat (Nat × Lx.Bs × Nat) :=
 match r with
 | .ok (c, t, n) => if t = [] then .error 2 else .ok (c, t, n)
 | .error c => .error c
theorem quotedName_any (w : World) (B : Nat) (s : ByteArray) (k st : Nat) (h : Rd w B s k st) (hk : k < s.size) (hm : s[k].toNat < 128) (hm0 : s[k].toNat ≠ 0) :
   Calls Tryz.prog 145 #[.pointer (some ⟨B, 0, none⟩)] w (Told (nameR (quoteR s k s[k])) w B s k st outOne) := by
 have HQ := quoted_any w B s k st h hk hm hm0
 generalize quoteR s k s[k] = r at *
 have HQ2 := hd HQ
 clear HQ
 go_enter Tryz.func145, Tryz.ntmps145
 go_wp2_with fail
 refine HQ2.out.mono ?_
 rintro e w1 ⟨g1, ht⟩
 match r, ht with
 | .error c, ht =>
  subst ht
  exact ⟨rfl, g1, rfl⟩
 | .ok (c, t, n), ht =>
  obtain ⟨tv, rfl, rfl, h1⟩ := ht
  unfold outOne
  cases hem : tv.toList.isEmpty
  · have hne : tv.data.toList ≠ [] := by intro e; rw [Lib.toList_data, e] at hem; cases hem
    have HNE := hd hne
    clear hne
    go_wp2
    go_ret
    refine ⟨g1, ?_⟩
    unfold nameR
    simp only
    rw [if_neg HNE.out]
    exact ⟨tv, rfl, rfl, h1⟩
  · have he : tv.data.toList = [] := by rw [Lib.toList_data] at hem; simpa using hem
    have HE := hd he
    clear he
    go_wp2_with fail
    refine (fail_any _ B s (k + n) st 2 h1).mono ?_
    rintro e w3 ⟨rfl, rfl⟩
    refine ⟨rfl, g1, ?_⟩
    unfold nameR
    simp only
    rw [if_pos HE.out]
    rfl
theorem quote_spec (s : ByteArray) (k : Nat) (hk : k < s.size) (hl : Lx.isLet s[k] = false) (hdg : Lx.isDig s[k] = false) (hq : s[k].toNat = 39 ∨ s[k].toNat = 34) :
   Lx.oneT (s.data.toList.drop k) = match (if s[k].toNat = 34 then nameR (quoteR s k s[k]) else quoteR s k s[k]) with | .ok (_, t, n) => .ok (if s[k].toNat = 34 then 18 else 17, t, n) | .error c => .error c := by
 rw [oneT_quote s k hk hl hdg hq]
 unfold quoteR nameR
 cases Lx.betw s[k] (s.data.toList.drop (k + 1)) with
 | none => by_cases h34 : s[k].toNat = 34 <;> simp [h34]
 | some y =>
  obtain ⟨t, n⟩ := y
  simp only
  cases hv : Lx.validN t
  · by_cases h34 : s[k].toNat = 34 <;> simp [h34]
  · simp only [if_true, Bool.true_eq_false, false_or]
    by_cases h34 : s[k].toNat = 34
    · by_cases ht : t = []
      · simp [h34, ht]
      · simp [h34, ht]
    · simp [h34]
theorem peek_byte (s : ByteArray) (k : Nat) (hk : k < s.size) : ((peekN s k).1 = (s[k].toNat : Int) ∧ s[k].toNat < 128) ∨ (((peekN s k).1 = -2 ∨ 128 ≤ (peekN s k).1) ∧ 128 ≤ s[k].toNat) := by
 unfold peekN
 rw [if_pos hk]
 by_cases hc : Lx.charN (s.data.toList.drop k) = 0
 · rw [if_pos hc]; exact .inr ⟨.inl rfl, (dec_bad s k hk hc).2⟩
 · rw [if_neg hc]
   rcases (dec_good s k hk hc).2.2 with ⟨_, q2, q3⟩ | ⟨_, q2, q3⟩
   · exact .inl ⟨by simp only; rw [q2], q3⟩
   · exact .inr ⟨.inr (by simp only; omega), q3⟩
theorem told_kind {r : Except Nat (Nat × Lx.Bs × Nat)} {w : World} {B : Nat} {s : ByteArray} {k st : Nat} {e : Ending} {w' : World} (h : Told r w B s k st outOne e w') :
   w.grownBy w' (some B) ∧ ((∃ c, r = .error c ∧ e = .panicked [{ v := .iface 61 (.agg #[.int .i64 (st : Int), .int .i64 (c : Int)]), recovered := false }]) ∨ (∃ c t n tv, r = .ok (c, t, n) ∧ e = .returned (.string tv) ∧ tv.data.toList = t ∧ Rd w' B s (k + n) st)) := by
 refine ⟨h.1, ?_⟩
 match r, h.2 with
 | .error c, ht => exact .inl ⟨c, rfl, ht⟩
 | .ok (c, t, n), ⟨tv, h1, h2, h3⟩ => exact .inr ⟨c, t, n, tv, rfl, h2, h1, h3⟩
theorem token_any (w : World) (B : Nat) (s : ByteArray) (k st : Nat) (h : Rd w B s k st) (hk : k < s.size) :
   Calls Tryz.prog 88 #[.pointer (some ⟨B, 0, none⟩)] w (Told (Lx.oneT (s.data.toList.drop k)) w B s k st outTwo) := by
 have HPB := hd (peek_byte s k hk)
 go_enter Tryz.func88, Tryz.ntmps88
 go_wp2_with fail
 refine (peek_any w B s k st h).mono ?_
 rintro e w1 ⟨rfl, hb1⟩
 have h1 := h.below hb1
 have HG1 : Hid (w.grownBy w1 (some B)) := Below.grownBy hb1
 clear hb1
 generalize peekN s k = d at *
 obtain ⟨c, n⟩ := d
 simp only at HPB ⊢
 go_wp2_with fail
 refine (isDigit_any _ _).mono ?_
 rintro e w' ⟨rfl, rfl⟩
 cases hdg : Lx.isDig s[k]
 · have hd1 : rDig c = false := by
    unfold Lx.isDig at hdg; unfold rDig
    have := HPB.out; simp at hdg ⊢; omega
   cases hl : Lx.isLet s[k]
   · have hw1 : rWd c = false := by
      unfold Lx.isLet at hl; unfold rWd; unfold Lx.isDig at hdg
      have := HPB.out; simp at hdg hl ⊢; omega
     rw [hd1]
     go_wp2_with fail
     refine (inWord_any _ _).mono ?_
     rintro e w' ⟨rfl, rfl⟩
     rw [hw1]
     by_cases h39 : s[k].toNat = 39
     · have HS := hd (quote_spec s k hk hl hdg (.inl h39))
       have hc : c = 39 := by have := HPB.out; omega
       subst hc
       rw [if_neg (by omega)] at HS
       have HT := hd (quoted_any _ B s k st h1 hk (by omega) (by omega))
       generalize quoteR s k s[k] = r at *
       go_wp2_with fail
       refine HT.out.mono ?_
       intro e w2 ht
       rcases told_kind ht with ⟨g2, ⟨c, rfl, rfl⟩ | ⟨c, t, n, tv, rfl, rfl, htv, h2⟩⟩
       · exact ⟨rfl, grownBy_trans HG1.out g2, by rw [HS.out]⟩
       · go_wp2
         go_ret2
         refine ⟨grownBy_trans HG1.out g2, ?_⟩
         rw [HS.out]
         simp only
         rw [if_neg (by omega)]
         exact ⟨tv, htv, rfl, h2⟩
     · by_cases h34 : s[k].toNat = 34
       · have HS := hd (quote_spec s k hk hl hdg (.inr h34))
         have hc : c = 34 := by have := HPB.out; omega
         subst hc
         rw [if_pos h34] at HS
         have HT := hd (quotedName_any _ B s k st h1 hk (by omega) (by omega))
         generalize nameR (quoteR s k s[k]) = r at *
         go_wp2_with fail
         refine HT.out.mono ?_
         intro e w2 ht
         rcases told_kind ht with ⟨g2, ⟨c, rfl, rfl⟩ | ⟨c, t, n, tv, rfl, rfl, htv, h2⟩⟩
         · exact ⟨rfl, grownBy_trans HG1.out g2, by rw [HS.out]⟩
         · go_wp2
           go_ret2
           refine ⟨grownBy_trans HG1.out g2, ?_⟩
           rw [HS.out]
           simp only
           rw [if_pos h34]
           exact ⟨tv, htv, rfl, h2⟩
       · have n1 : (c == 39) = false := by rw [beq_eq_false_iff_ne]; have := HPB.out; omega
         have n2 : (c == 34) = false := by rw [beq_eq_false_iff_ne]; have := HPB.out; omega
         have HT := hd (sign_any _ B s k st h1 hk hl hdg (by omega))
         have HK : Hid (∀ x y z, Lx.oneT (s.data.toList.drop k) = .ok (x, y, z) → x = 51) := by
          intro x y z e
          rw [sign_spec s k hk hl hdg (by omega)] at e
          split at e
          · simp only [Except.ok.injEq, Prod.mk.injEq] at e; exact e.1.symm
          · cases e
         generalize Lx.oneT (s.data.toList.drop k) = r at *
         go_wp2_with fail
         refine HT.out.mono ?_
         intro e w2 ht
         rcases told_kind ht with ⟨g2, ⟨c, rfl, rfl⟩ | ⟨c, t, n, tv, rfl, rfl, htv, h2⟩⟩
         · exact ⟨rfl, grownBy_trans HG1.out g2, rfl⟩
         · obtain rfl := HK.out _ _ _ rfl
           go_wp2
           go_ret2
           exact ⟨grownBy_trans HG1.out g2, tv, htv, rfl, h2⟩
   · have hw1 : rWd c = true := by
      unfold Lx.isLet at hl; unfold rWd
      have := HPB.out; simp at hl ⊢; omega
     rw [hd1]
     go_wp2_with fail
     refine (inWord_any _ _).mono ?_
     rintro e w' ⟨rfl, rfl⟩
     rw [hw1]
     have HT := hd (word_any _ B s k st h1 hk hl)
     generalize Lx.oneT (s.data.toList.drop k) = r at *
     go_wp2_with fail
     refine HT.out.mono ?_
     intro e w2 ht
     obtain ⟨g2, ht⟩ := ht
     match r, ht with
     | .error c, ht => subst ht; exact ⟨rfl, grownBy_trans HG1.out g2, rfl⟩
     | .ok (c, t, n), ⟨tv, htv, he, h2⟩ =>
      subst he
      unfold outTwo
      go_wp2
      go_ret2
      exact ⟨grownBy_trans HG1.out g2, tv, htv, rfl, h2⟩
 · have hl : Lx.isLet s[k] = false := by unfold Lx.isDig at hdg; unfold Lx.isLet; simp at hdg ⊢; omega
   have hd1 : rDig c = true := by
    unfold Lx.isDig at hdg; unfold rDig
    have := HPB.out; simp at hdg ⊢; omega
   rw [hd1]
   have HT := hd (number_any _ B s k st h1 hk hl hdg)
   have HK : Hid (∀ x y z, Lx.oneT (s.data.toList.drop k) = .ok (x, y, z) → x = 16) := by
    intro x y z e
    rw [oneT_digit s k hk hl hdg] at e
    split at e
    · cases e
    · split at e
      · cases e
      · simp only [Except.ok.injEq, Prod.mk.injEq] at e; exact e.1.symm
   generalize Lx.oneT (s.data.toList.drop k) = r at *
   go_wp2_with fail
   refine HT.out.mono ?_
   intro e w2 ht
   rcases told_kind ht with ⟨g2, ⟨c, rfl, rfl⟩ | ⟨c, t, n, tv, rfl, rfl, htv, h2⟩⟩
   · exact ⟨rfl, grownBy_trans HG1.out g2, rfl⟩
   · obtain rfl := HK.out _ _ _ rfl
     go_wp2
     go_ret2
     exact ⟨grownBy_trans HG1.out g2, tv, htv, rfl, h2⟩
theorem clone_any (t : ByteArray) (w : World) (h : t.size ≤ 100000) : Calls Tryz.prog 89 #[.string t] w fun e w' => e = .returned (.string t) ∧ Below w.heap.size w w' := by
 go_enter Tryz.func89, Tryz.ntmps89
 go_wp2_with fail
 refine (Tryz.stringslite_Clone t w (by omega)).mono ?_
 rintro e w' ⟨rfl, hb⟩
 go_wp2
 go_ret
 exact ⟨rfl, hb⟩
theorem size_setCell (w : World) (p : Addr) (v : Value) : (w.setCell p v).heap.size = w.heap.size := by simp [World.setCell]
theorem grownBy_far {w w1 : World} {row : Option Nat} (h : w.grownBy w1 row) (i : Nat) (v : Value) : w.grownBy (w1.setCell ⟨w.heap.size, i, none⟩ v) row :=
 ⟨h.os, h.tape, h.output, by rw [size_setCell]; exact h.size, fun k hk hne => (Below.heap_setCell w1 _ v k (by simp; omega)).trans (h.block k hk hne)⟩
theorem Rd.far {w : World} {B N : Nat} {s : ByteArray} {k st : Nat} (h : Rd w B s k st) (hne : ¬ N = B) (i : Nat) (v : Value) (hN : 12 ≤ N := by omega) : Rd (w.setCell ⟨N, i, none⟩ v) B s k st :=
 ⟨h.blk.far _ _ hne, h.low, h.env.grown (grownBy_set w N i v) hN, h.le, h.small⟩
def NextV (r : Except Nat (Nat × Lx.Bs × Nat)) (w : World) (B : Nat) (s : ByteArray) (k : Nat) (e : Ending) (w' : World) : Prop :=
 w.grownBy w' (some B) ∧ match r with
 | .ok (c, t, n) => ∃ tv : ByteArray, tv.data.toList = t ∧ e = .returned (.agg #[.int .i64 (c : Int), .string tv, .int .i64 (k : Int)]) ∧ Rd w' B s (k + n) k
 | .error c => e = .panicked [{ v := .iface 61 (.agg #[.int .i64 (k : Int), .int .i64 (c : Int)]), recovered := false }]
theorem next_any (w : World) (B : Nat) (s : ByteArray) (k st : Nat) (h : Rd w B s k st) (hk : k < s.size) :
   Calls Tryz.prog 35 #[.pointer (some ⟨B, 0, none⟩)] w (NextV (Lx.oneT (s.data.toList.drop k)) w B s k) := by
 have hsm := h.small
 obtain ⟨⟨b0, b1, b2⟩, b3, b4, b5⟩ := h.blk.three
 have hBlt := h.blk.lt
 have hone : ∀ c t n, Lx.oneT (s.data.toList.drop k) = .ok (c, t, n) → t.length ≤ 2000 := by
  intro c t n e
  have := Lx.oneT_len e
  rw [List.length_drop, show s.data.toList.length = s.size from by simp] at this
  omega
 have HON := hd hone
 clear hone
 go_enter Tryz.func35, Tryz.ntmps35
 go_wp2_with fail
 have h1 : Rd ((w.setCell ⟨B, 2, none⟩ (.int .i64 (k : Int))).alloc (.cells #[.int .i64 0, .string ⟨#[]⟩, .int .i64 0] 109)) B s k k := (h.set2 k).below ((Below.refl _ _).alloc (Nat.le_refl _) _)
 have HG1 := hd (grownBy_trans (grownBy_set w B 2 (.int .i64 (k : Int))) (World.grownBy_alloc (w.setCell ⟨B, 2, none⟩ (.int .i64 (k : Int))) (.cells #[.int .i64 0, .string ⟨#[]⟩, .int .i64 0] 109) (some B)))
 have R1 : Blk ((w.setCell ⟨B, 2, none⟩ (.int .i64 (k : Int))).alloc (.cells #[.int .i64 0, .string ⟨#[]⟩, .int .i64 0] 109)) w.heap.size #[.int .i64 0, .string ⟨#[]⟩, .int .i64 0] 109 := (by have x := Blk.new (w.setCell ⟨B, 2, none⟩ (.int .i64 (k : Int))) #[.int .i64 0, .string ⟨#[]⟩, .int .i64 0] 109; rwa [size_setCell] at x)
 refine (token_any _ B s k k h1 hk).mono ?_
 rintro e w2 ⟨g2, ht⟩
 have HG2 := hd (grownBy_trans HG1.out g2)
 have R2 : Blk w2 w.heap.size #[.int .i64 0, .string ⟨#[]⟩, .int .i64 0] 109 := by
  unfold Blk at R1 ⊢
  rw [g2.block _ (Array.getElem?_eq_some_iff.1 R1).1 (by simp; omega)]; exact R1
 clear g2 R1 h1
 rcases hr : Lx.oneT (s.data.toList.drop k) with c | ⟨c, t, n⟩
 · rw [hr] at ht
   simp only at ht
   subst ht
   exact ⟨rfl, HG2.out, rfl⟩
 · rw [hr] at ht
   obtain ⟨tv, htv, rfl, h2⟩ := ht
   have hlen := HON.out c t n hr
   have htl : tv.size ≤ 2000 := by rw [Lib.size_eq, htv]; exact hlen
   have HR := hd hr
   have HTV := hd htv
   clear hr htv hlen
   unfold outTwo
   obtain ⟨⟨a0, a1, a2⟩, a3, a4, a5⟩ := h2.blk.three
   obtain ⟨⟨r0, r1, r2⟩, r3, r4, r5⟩ := R2.three
   have hz2 : w.heap.size < w2.heap.size := R2.lt
   have hne : ¬ w.heap.size = B := by omega
   have hlow := h.low
   clear b0 b1 b2 b3 b4 b5
   go_wp2
   go_region_with (go_at_call 89; refine (clone_any tv _ (by omega)).mono ?_; rintro e w3 ⟨rfl, hb3⟩; have c2 := (h2.drew.below hb3).blk.cell 2; have q0 := (R2.drew.below hb3 hz2).cell 0; have q1 := (R2.drew.below hb3 hz2).cell 1; have q2 := (R2.drew.below hb3 hz2).cell 2; have q3 := (R2.drew.below hb3 hz2).free 0; have q4 := (R2.drew.below hb3 hz2).free 1; have q5 := (R2.drew.below hb3 hz2).free 2; simp at c2 q0 q1 q2)
   all_goals
    go_wp2
    have F := (((R2.drew.below hb3 hz2).set 0 (.int .i64 (c : Int))).set 1 (.string tv)).set 2 (.int .i64 (k : Int))
    obtain ⟨⟨f0, f1, f2⟩, -⟩ := Blk.three F
    have h3 := h2.drew.below hb3
    refine bodyPost_ret (v := .agg #[.int .i64 (c : Int), .string tv, .int .i64 (k : Int)]) ?_ rfl ⟨?_, ?_⟩
    · simp only [f0, f1, f2, results, Tryz.results35, go_sem]
      simp [f0, f1, f2, go_sem]
    · exact grownBy_far (grownBy_far (grownBy_far (grownBy_trans (grownBy_drew HG2.out) (Below.grownBy hb3)) 0 _) 1 _) 2 _
    · rw [HR.out]
      exact ⟨tv, HTV.out, rfl, ((h3.far hne 0 _).far hne 1 _).far hne 2 _⟩
theorem owns_base {w : World} {base base' : Nat} {e : TypeId} {size : Nat} {v : Value} {n : Nat} {xs : List Value} (h : w.ownsRow base e size v n xs) (hb : base' ≤ base) : w.ownsRow base' e size v n xs := by
 refine ⟨h.1, ?_⟩
 rcases h.2 with hn | ⟨g, cap, cur, hv, hg, r⟩
 · exact .inl hn
 · exact .inr ⟨g, cap, cur, hv, by omega, r⟩
theorem Rd.kept {w w' : World} {B : Nat} {s : ByteArray} {k st : Nat} {row : Option Nat} (h : Rd w B s k st) (hg : w.grownBy w' row) (hB : some B ≠ row) (hlow : ∀ q, row = some q → 12 ≤ q) : Rd w' B s k st := by
 have hr := h.env.room
 have hb : ∀ i, i < 12 → w'.heap[i]? = w.heap[i]? := fun i hi => hg.block i (by omega) (fun e => by have := hlow i e.symm; omega)
 refine ⟨?_, h.low, ⟨⟨fun c hc => ?_, fun i hi => ?_⟩, ?_, ?_, Nat.le_trans hr hg.size⟩, h.le, h.small⟩
 · have := h.blk
   unfold Blk at this ⊢
   rw [hg.block B h.blk.lt hB]; exact this
 · rw [World.cell?_of_block (w := w) (hb _ (by simp))]; exact h.env.tabs.1 c hc
 · rw [World.cell?_of_block (w := w) (hb _ (by simp)), World.cell?_of_block (w := w) (hb _ (by simp))]; exact h.env.tabs.2 i hi
 · rw [hb _ (by simp)]; exact h.env.kws
 · rw [hb _ (by simp)]; exact h.env.sgs
def RTok (r : Except (Nat × Nat) (List Lx.Tok)) (w : World) (e : Ending) (w' : World) : Prop :=
 Below w.heap.size w w' ∧ match r with
 | .error (p, c) => e = .panicked [{ v := .iface 61 (.agg #[.int .i64 (p : Int), .int .i64 (c : Int)]), recovered := false }]
 | .ok ts => ∃ v, e = .returned v ∧ w'.ownsRow w.heap.size 109 3 v ts.length (toksV ts)
theorem rdTokens_any (s : ByteArray) (w : World) (he : Env w) (hm : s.size ≤ maxLen) :
   Calls Tryz.prog 18 #[.string s] w (RTok (Lx.lex s.data.toList) w) := by
 unfold maxLen at hm
 obtain ⟨i0, hi, hz0, hz1, hz2⟩ := info_parts Tryz.info109
 have HSL := hd (Lib.size_eq s).symm
 by_cases hlong : 2000 < s.size
 · have HL : Hid (Lx.lex s.data.toList = .error (0, 1)) := by show _ = _; unfold Lx.lex; rw [if_pos (by rw [HSL.out]; exact hlong)]
   go_enter Tryz.func18, Tryz.ntmps18
   go_wp2_with fail
   refine ⟨rfl, Below.refl _ _, ?_⟩
   rw [HL.out]
   rfl
 · have HL : Hid (Lx.lex s.data.toList = Lx.lexM 0 (Lx.skipN s.data.toList) (s.data.toList.drop (Lx.skipN s.data.toList))) := by show _ = _; unfold Lx.lex; rw [if_neg (by rw [HSL.out]; exact hlong)]
   have hroom := he.room
   have HE := hd he
   clear he
   go_enter Tryz.func18, Tryz.ntmps18
   go_wp2_with fail
   go_loopw [4] (fun v wr => ∃ (j : Nat) (ts : List Lx.Tok) (st : Nat), Hid (Rd wr w.heap.size s j st) ∧ Hid (wr.ownsRow (w.heap.size + 1) 109 3 v ts.length (toksV ts)) ∧ Hid (LexAt s.data.toList (j + Lx.skipN (s.data.toList.drop j)) ts) ∧ ts.length ≤ j ∧ Hid (Below w.heap.size w wr)) (fun _ wr => s.size - atOf wr w.heap.size)
   case atStart =>
    refine ⟨0, [], 0, ⟨Blk.new _ _ _, hroom, HE.out.below ((Below.refl _ _).alloc (Nat.le_refl _) _), by omega, by omega⟩, World.ownsRow_nil _ _ _ _, ?_, by simp, (Below.refl _ _).alloc (Nat.le_refl _) _⟩
    rw [List.drop_zero, Nat.zero_add]; exact LexAt.start _
   case round =>
    obtain ⟨j, ts, st, HR, HO, HX, hts, HW⟩ := hrel
    have hjle := HR.out.le
    go_wp2_with fail
    refine (pass_any wr w.heap.size s j st HR.out).mono ?_
    rintro e w1 ⟨rfl, h1, g1⟩
    have HW1 : Hid (Below w.heap.size w w1) := HW.out.grown g1 HW.out.size (fun q hq => by simp at hq; omega)
    have HO1 : Hid (w1.ownsRow (w.heap.size + 1) 109 3 u4 ts.length (toksV ts)) := HO.out.kept g1 (by
     cases hv : u4.ownBlock with
     | none => exact .inl rfl
     | some g => right; have := (HO.out.lt g hv).1; simp; omega)
    have hg1 := g1.size
    clear g1
    have hkle := h1.le
    generalize hkk : j + Lx.skipN (s.data.toList.drop j) = k at *
    have HKK := hd hkk
    clear hkk
    by_cases hlt : k < s.size
    · go_wp2_with fail
      refine (next_any w1 w.heap.size s k st h1 hlt).mono ?_
      rintro e w2 ⟨g2, ht⟩
      have HW2 : Hid (Below w.heap.size w w2) := HW1.out.grown g2 HW1.out.size (fun q hq => by simp at hq; omega)
      have HO2 : Hid (w2.ownsRow (w.heap.size + 1) 109 3 u4 ts.length (toksV ts)) := HO1.out.kept g2 (by
       cases hv : u4.ownBlock with
       | none => exact .inl rfl
       | some g => right; have := (HO1.out.lt g hv).1; simp; omega)
      have hg2 := g2.size
      clear g2
      rcases hone : Lx.oneT (s.data.toList.drop k) with c | ⟨c, t, n⟩
      · rw [hone] at ht
        simp only at ht
        subst ht
        refine ⟨rfl, HW2.out, ?_⟩
        rw [HL.out, HX.out.fail (by rw [HSL.out]; exact hlt) hone]
      · rw [hone] at ht
        obtain ⟨tv, htv, rfl, h2⟩ := ht
        have hlen := Lx.oneT_len hone
        simp only [List.length_drop] at hlen
        rw [HSL.out] at hlen
        have HS := hd (HX.out.step (by rw [HSL.out]; exact hlt) hone)
        have HT : Hid (tv = ⟨t.toArray⟩) := by rw [← htv]; exact (Lib.mk_data tv).symm
        have hzw := HW2.out.size
        have hBlt : w.heap.size < w2.heap.size := h2.blk.lt
        clear hone htv
        go_wp2_with (first
         | (at_builtin; refine wpList_append_own _ rfl _ _ 63 rfl (w.heap.size + 1) 109 i0 (.agg #[.int .i64 0, .string ⟨#[]⟩, .int .i64 0]) 3 32 Tryz.underlying63 hi hz0 hz1 hz2 rfl (by decide) _ _ _ rfl (HO2.out.alloc _) ⟨w2.heap.size, 0, none⟩ 1 1 [.int .i64 (c : Int), .string tv, .int .i64 (k : Int)] rfl rfl ?c1 ?c2 ?c3 ?c4 ?c5 ?_)
         | fail)
        case c1 => exact three_news w2 _ _ _ _ _ rfl
        case c2 => intro u hu; simp at hu; rcases hu with rfl | rfl | rfl <;> rfl
        case c3 => unfold maxLen; omega
        case c4 => omega
        case c5 => simp; omega
        intro v' w3 hown' hgrow _
        have HO3 : Hid (w3.ownsRow (w.heap.size + 1) 109 3 v' (ts ++ [Lx.Tok.mk c t k]).length (toksV (ts ++ [Lx.Tok.mk c t k]))) := by
         rw [List.length_append, List.length_singleton, toksV_append, toksV_one]
         show World.ownsRow _ _ _ _ _ _ _
         unfold tokV
         rw [← HT.out]; exact hown'
        have HW3 : Hid (Below w.heap.size w w3) := ((HW2.out.alloc hzw _)).grown hgrow (by simp; omega) (fun q hq => by have := (HO2.out.lt q hq).1; omega)
        have h3 : Rd w3 w.heap.size s (k + n) k := (h2.below ((Below.refl _ _).alloc (Nat.le_refl _) _)).kept hgrow (by
         cases hv : u4.ownBlock with
         | none => simp
         | some g => have := (HO2.out.lt g hv).1; simp; omega) (by
         intro q hq; have := (HO2.out.lt q hq).1; omega)
        clear hown' hgrow
        go_wp2_with fail
        go_roundw
        case rel => exact ⟨k + n, ts ++ [Lx.Tok.mk c t k], k, h3, HO3, HS, by simp; have := HKK.out; omega, HW3⟩
        case measure => rw [h3.atOf, HR.out.atOf]; have := HKK.out; omega
    · go_wp2_with fail
      go_ret
      refine ⟨HW1.out, ?_⟩
      rw [HL.out, HX.out.done (by rw [HSL.out]; omega)]
      exact ⟨_, rfl, owns_base HO1.out (by omega)⟩
theorem fault_is (p c : Int) (w : World) : (Instr.typeAssert (.iface 61 (.agg #[.int .i64 p, .int .i64 c])) 20 61 true).run Tryz.prog w = .ok (.tuple #[.agg #[.int .i64 p, .int .i64 c], .bool true]) w := by kernel_rfl
theorem told_any (p c : Int) (w : World) :
   Calls Tryz.prog 12 #[.iface 61 (.agg #[.int .i64 p, .int .i64 c])] w fun e w' => e = .returned (.tuple #[.int .i64 p, .int .i64 c]) ∧ Below w.heap.size w w' := by
 have hta := fault_is p c
 go_enter Tryz.func12, Tryz.ntmps12
 go_wp2
 go_region
 all_goals go_wp2
 all_goals go_ret2
 all_goals exact ⟨rfl, ((Below.refl _ _).alloc (Nat.le_refl _) _).drew⟩
theorem any_deep : ∀ l : List Px.E, l.any deepE = decide (40 < Px.deepest l)
 | [] => rfl
 | e :: l => by
  rw [List.any_cons, any_deep l]
  show (decide (40 < e.depth) || decide (40 < Px.deepest l)) = decide (40 < max e.depth (Px.deepest l))
  generalize e.depth = a
  generalize Px.deepest l = d
  rw [Bool.eq_iff_iff]
  simp only [Bool.or_eq_true, decide_eq_true_eq]
  rcases Nat.le_total a d with h | h
  · rw [Nat.max_eq_right h]; omega
  · rw [Nat.max_eq_left h]; omega
def StF (base : Nat) (x : Ending) (w' : World) : Except (Nat × Nat) Px.St → Prop
 | .error (p, c) => x = Flt p c
 | .ok st => ∃ v B, x = .returned v ∧ base ≤ B ∧ stV B st v w'
def StOut (w : World) (s : Lx.Bs) (x : Ending) (w' : World) : Prop := Below w.heap.size w w' ∧ ∃ r, Px.ParseR s r ∧ StF w.heap.size x w' r
theorem Cx.end_ {w : World} {B : Nat} {lv : Value} {ts : List Lx.Tok} {sz : Nat} {q : List Lx.Tok} {dp : Bool} (h : Cx w B lv ts sz q dp) : ∃ (k : Nat) (ao : Option Addr) (cap : Nat), lv = .slice ao ts.length cap ∧ k ≤ 2000 ∧ ts.length ≤ 2000 ∧ (q = [] ↔ k = ts.length) ∧ w.cell? ⟨B, 0, none⟩ = some (.slice ao ts.length cap) ∧ w.cell? ⟨B, 1, none⟩ = some (.int .i64 (k : Int)) ∧ w.cell? ⟨B, 3, none⟩ = some (.bool dp) := by
 obtain ⟨k, rfl, h⟩ := h
 obtain ⟨ao, cap, rfl, _⟩ := h.tok
 have := h.le
 have := h.len
 refine ⟨k, ao, cap, rfl, by omega, h.len, ?_, h.cells.1, h.cells.2.1, h.cells.2.2.2⟩
 constructor
 · intro e
   have := congrArg List.length e
   simp at this
   omega
 · intro e
   exact List.drop_eq_nil_of_le (by omega)
theorem c_Statement_any (s : ByteArray) (w : World) (he : EnvP w) (hm : s.size ≤ maxLen) : Calls Tryz.prog 13 #[.string s] w (StOut w s.data.toList) := by
 have HT := hd (rdTokens_any s w he.env hm)
 have HE := hd he
 have hroom := he.env.room
 have HSL := hd (Lib.size_eq s).symm
 unfold maxLen at hm
 clear he
 go_enter Tryz.func13, Tryz.ntmps13
 go_wp2_with fail
 refine HT.out.mono ?_
 rintro x w1 ⟨hb1, ht⟩
 rcases hl : Lx.lex s.data.toList with ⟨p, c⟩ | ts
 · rw [hl] at ht
   simp only at ht
   subst ht
   exact ⟨rfl, hb1, .error (p, c), by unfold Px.ParseR; rw [hl], rfl⟩
 · rw [hl] at ht
   obtain ⟨v, rfl, hown⟩ := ht
   obtain ⟨hl1, hl2, hl3⟩ := Lx.lex_ok hl
   have hsg := Px.lex_sgn hl
   have hs1 := hb1.size
   have hsz : s.size ≤ 2000 := by rw [← HSL.out]; exact hl1
   obtain ⟨ao, n, cp, rfl⟩ := own_slice hown
   have HX0 : Hid (Cx (w1.alloc (.cells #[.slice ao n cp, .int .i64 0, .int .i64 (s.size : Int), .bool false] 66)) w1.heap.size (.slice ao n cp) ts s.size ts false) := by
    refine ⟨0, rfl, Blk.new _ _ _, ⟨_, own_alloc hown _⟩, ?_, ?_, by omega, hsz, by omega, (HE.out.below hb1).below ((Below.refl _ _).alloc (Nat.le_refl _) _), by omega⟩
    · intro e
      have := (hown.lt _ e).2
      omega
    · intro t ht
      obtain ⟨h1, h2, h3⟩ := hl3 t ht
      exact ⟨h1, hsg t ht, by omega, by omega⟩
   have HLX := hd hl
   have HB1 := hd hb1
   clear hown hb1 hl3 hsg hl HE HT
   go_wp2_with fail
   refine (c_stmt_any w1.heap.size (.slice ao n cp) ts s.size false _ ts HX0.out).mono ?_
   rintro x w2 ho
   obtain ⟨hg, ⟨p, c, hr, rfl⟩ | ⟨st, q, v, hr, rfl, hv, hx⟩⟩ := ho.cases
   · have hbel : Below w.heap.size w w2 := by
      refine (HB1.out.alloc hs1 (.cells #[.slice ao n cp, .int .i64 0, .int .i64 (s.size : Int), .bool false] 66)).grown hg (by simp; omega) (fun b hb => ?_)
      simp only [Option.some.injEq] at hb
      omega
     refine ⟨rfl, hbel, .error (p, c), ?_, rfl⟩
     unfold Px.ParseR
     rw [HLX.out]
     refine ⟨_, (by rw [HSL.out]; exact hr), rfl⟩
   · have hbel : Below w.heap.size w w2 := by
      refine (HB1.out.alloc hs1 (.cells #[.slice ao n cp, .int .i64 0, .int .i64 (s.size : Int), .bool false] 66)).grown hg (by simp; omega) (fun b hb => ?_)
      simp only [Option.some.injEq] at hb
      omega
     have HBF := hd hbel
     have HR := hd hr
     have HV := hd hv
     have HX2 := hd hx
     obtain ⟨k, ao', cap', hlv, hk1, hk2, hend, c0, c1, c3⟩ := hx.end_
     obtain ⟨t, y, rfl⟩ : ∃ t y, v = .iface t y := by
      cases st with
      | create t c => obtain ⟨u, h1, h2⟩ := hv; exact ⟨_, _, h1⟩
      | drop t => exact ⟨_, _, hv⟩
      | insert t r => obtain ⟨u, h1, h2⟩ := hv; exact ⟨_, _, h1⟩
      | delete t o => exact ⟨_, _, hv⟩
      | update t s o => obtain ⟨u, h1, h2⟩ := hv; exact ⟨_, _, h1⟩
      | select i t o r l => obtain ⟨u, u', h1, h2, h3⟩ := hv; exact ⟨_, _, h1⟩
     have HEND := hd hend
     clear hr hv hx hg ho hbel HX0 hend hlv
     by_cases hq : q = []
     · have hkt := HEND.out.1 hq
       have hkb : ((k : Int) == (ts.length : Int)) = true := by simp [hkt]
       go_wp2_with fail
       refine (c_must_yes _ _).mono ?_
       rintro x w3 ⟨rfl, rfl⟩
       cases hdp : deepSt st with
       | true =>
        simp only [hdp, Bool.true_or] at c3
        go_wp2_with fail
        refine ⟨rfl, HBF.out, .error (0, 6), ?_, rfl⟩
        unfold Px.ParseR
        rw [HLX.out]
        refine ⟨_, (by rw [HSL.out]; exact HR.out), ?_⟩
        simp only [if_pos hq]
        rw [if_pos (by have := any_deep st.exprs; rw [show st.exprs.any deepE = true from hdp] at this; exact of_decide_eq_true this.symm)]
       | false =>
        simp only [hdp, Bool.false_or] at c3
        go_wp2_with fail
        go_ret
        refine ⟨HBF.out, .ok st, ?_, _, w1.heap.size, rfl, hs1, HV.out⟩
        unfold Px.ParseR
        rw [HLX.out]
        refine ⟨_, (by rw [HSL.out]; exact HR.out), ?_⟩
        simp only [if_pos hq]
        rw [if_neg (by have := any_deep st.exprs; rw [show st.exprs.any deepE = false from hdp] at this; exact of_decide_eq_false this.symm)]
     · have hkt : ¬ k = ts.length := fun e => hq (HEND.out.2 e)
       have hkb : ((k : Int) == (ts.length : Int)) = false := by rw [beq_eq_false_iff_ne]; omega
       go_wp2_with fail
       refine (c_must_no w2 w1.heap.size (.slice ao n cp) ts s.size q _ HX2.out).mono ?_
       rintro x w3 ⟨rfl, hb3⟩
       refine ⟨rfl, HBF.out.trans (hb3.mono HBF.out.size), .error (Px.plc s.size q, 4), ?_, rfl⟩
       unfold Px.ParseR
       rw [HLX.out]
       refine ⟨_, (by rw [HSL.out]; exact HR.out), ?_⟩
       simp only [if_neg hq]
       rw [HSL.out]
abbrev muLink : Go.Conc.Locks.MuLink := { lock := 14, unlock := 15, ilock := 21, iunlock := 22, lockSlow := 50, unlockSlow := 53, disable := 46, enable := 48, acquire := 49, relMerge := 51, cas32 := 47, add32 := 52, tMutex := 42, tIMutex := 40, tPMutex := 69, tPIMutex := 121, tPI32 := 123, tUP := 125, tNoCopy := 37, tU32 := 38 }
theorem muLib : Go.Conc.Locks.MuLib Tryz.prog muLink :=
 ⟨Tryz.func14, Tryz.func15, Tryz.func21, Tryz.func22, Tryz.func46, Tryz.func48, Tryz.func49, Tryz.func51, Tryz.func47, Tryz.func52, Tryz.underlying40, Tryz.runUnderlying40, Tryz.sizeOf40, Tryz.isAgg40, Tryz.zeroValue40, Tryz.underlying42, Tryz.runUnderlying42, Tryz.sizeOf42, Tryz.isAgg42, Tryz.zeroValue42, Tryz.underlying69, Tryz.runUnderlying69, Tryz.sizeOf69, Tryz.isAgg69, Tryz.zeroValue69, Tryz.underlying121, Tryz.runUnderlying121, Tryz.sizeOf121, Tryz.isAgg121, Tryz.zeroValue121, Tryz.underlying123, Tryz.runUnderlying123, Tryz.sizeOf123, Tryz.isAgg123, Tryz.zeroValue123, Tryz.underlying125, Tryz.runUnderlying125, Tryz.sizeOf125, Tryz.isAgg125, Tryz.zeroValue125, Tryz.underlying37, Tryz.runUnderlying37, Tryz.sizeOf37, Tryz.isAgg37, Tryz.zeroValue37, Tryz.underlying21, Tryz.runUnderlying21, Tryz.sizeOf21, Tryz.isAgg21, Tryz.zeroValue21, (by kernel_rfl)⟩
section
namespace Tx
open Tb Tw
theorem run_catch (b1 : Nat) (y p c : Int) (older : List PanicEntry) (w : World) (h1 : Blk w b1 #[.int .i64 y] 25) :
   CallsD Tryz.prog 11 #[.pointer (some ⟨b1, 0, none⟩)] (.panicking ({ v := .iface 61 (.agg #[.int .i64 p, .int .i64 c]), recovered := false } :: older)) w fun e u' w' =>
    e = .returned (.tuple #[]) ∧ u' = .panicking ({ v := .iface 61 (.agg #[.int .i64 p, .int .i64 c]), recovered := true } :: older) ∧ ∃ w1, Below w.heap.size w w1 ∧ w' = w1.setCell ⟨b1, 0, none⟩ (.int .i64 c) := by
 refine callsD_of_wpS Tryz.func11 rfl fun c₀ cs hu => ?_
 apply wpS_seq
 apply wpS_region
 simp [wpOpsS, go_sem, recoverD, hu, Tryz.ntmps11, Exit.thenS]
 apply wpS_seq
 apply wpS_region
 simp [wpOpsS, go_sem, recoverD, hu, Tryz.ntmps11, Exit.thenS]
 refine wpS_cond (t := true) (by simp [Act.eval, Array.replicate]) ?_
 simp only [if_true]
 refine wpS_of_wp ?_
 simp only [Array.replicate, List.replicate, List.toArray_replicate]
 go_wp2_with fail
 refine (told_any p c w).mono ?_
 rintro e w1 ⟨rfl, hb1⟩
 have k1 := h1.below hb1 h1.lt
 have c1 : w1.cell? ⟨b1, 0, none⟩ = some (.int .i64 y) := k1.cell 0
 have f1 := k1.free 0
 go_wp2
 refine ⟨rfl, _, rfl, .tuple #[], by simp [results, Tryz.results11], rfl, rfl, w1, hb1, rfl⟩
theorem run_idle (q : Addr) (w : World) :
   CallsD Tryz.prog 11 #[.pointer (some q)] .returning w fun e u' w' => e = .returned (.tuple #[]) ∧ u' = .returning ∧ w' = w := by
 refine callsD_of_wpS Tryz.func11 rfl fun c₀ cs hu => ?_
 apply wpS_seq
 apply wpS_region
 simp [wpOpsS, go_sem, recoverD, hu, Tryz.ntmps11, Exit.thenS]
 apply wpS_seq
 apply wpS_region
 simp [wpOpsS, go_sem, recoverD, hu, Tryz.ntmps11, Exit.thenS]
 refine wpS_cond (t := false) (by simp [Act.eval, Array.replicate]) ?_
 simp only [Bool.false_eq_true, if_false]
 refine wpS_of_wp (wp_skip ?_)
 cases c₀
 simp_all [bodyPostS, results, Tryz.results11]
theorem Apart.refl {a c : Nat} (w : World) : Apart a c w w := ⟨rfl, rfl, rfl, Nat.le_refl _, fun _ _ _ => rfl⟩
theorem setAp {w : World} {a c x i : Nat} {v : Value} (h : a ≤ x ∧ x < c) : Apart a c w (w.setCell ⟨x, i, none⟩ v) :=
 ⟨rfl, rfl, rfl, by simp, fun k hk _ => Below.heap_setCell _ _ _ _ (by show k ≠ x; omega)⟩
def Ans (x : Ending) : Prop := (∃ (a : Int) (ao : Option Addr) (k cp : Nat) (n : Int), x = .returned (.agg #[.int .i64 a, .slice ao k cp, .int .i64 n])) ∨ ∃ c : Nat, x = Flt 0 c
def Told (x0 x : Ending) : Prop := (∃ v, x0 = .returned v ∧ x = .returned (.tuple #[v, .int .i64 0])) ∨ ∃ c : Nat, x0 = Flt 0 c ∧ x = .returned (.tuple #[.agg #[.int .i64 0, .slice none 0 0, .int .i64 0], .int .i64 (c : Int)])
theorem st_iface {B : Nat} {st : Px.St} {v : Value} {w : World} (hst : stV B st v w) : ∃ t y, v = .iface t y := by
 cases st with
 | create t c => obtain ⟨u, h1, h2⟩ := hst; exact ⟨_, _, h1⟩
 | drop t => exact ⟨_, _, hst⟩
 | insert t r => obtain ⟨u, h1, h2⟩ := hst; exact ⟨_, _, h1⟩
 | delete t o => exact ⟨_, _, hst⟩
 | update t s o => obtain ⟨u, h1, h2⟩ := hst; exact ⟨_, _, h1⟩
 | select i t o r l => obtain ⟨u, u', h1, h2, h3⟩ := hst; exact ⟨_, _, h1⟩
theorem sRun_any (st : Px.St) (s : ByteArray) (hp : Px.ParseR s.data.toList (.ok st)) (hm : s.size ≤ maxLen) (b : Nat) (cs : Array Value) (w : World) (he : EnvP w) (hB : Blk w b cs 52) (h0 : cs[0]? = some (.int .i32 0))
   (R : World → Value → Ending → World → Prop)
   (hD : ∀ wp v B, Below w.heap.size w wp → w.heap.size + 2 ≤ B → stV B st v wp → Calls Tryz.prog 16 #[.pointer (some ⟨b, 2, none⟩), v] (wp.setCell ⟨b, 0, none⟩ (.int .i32 1)) (R wp v))
   (hR : ∀ wp v x w2, Below w.heap.size w wp → R wp v x w2 → Ans x ∧ (∀ k, w.heap.size ≤ k → k < wp.heap.size → w2.heap[k]? = wp.heap[k]?) ∧ (∃ cs', Blk w2 b cs' 52 ∧ cs'[0]? = some (.int .i32 1)) ∧ wp.heap.size ≤ w2.heap.size) :
   Calls Tryz.prog 9 #[.pointer (some ⟨b, 0, none⟩), .string s] w fun x w' => ∃ wp v x0 w2 W3, Below w.heap.size w wp ∧ w.heap.size + 2 ≤ wp.heap.size ∧ R wp v x0 w2 ∧ Told x0 x ∧ Apart w.heap.size (w.heap.size + 2) w2 W3 ∧ Apart w.heap.size (w.heap.size + 2) (W3.setCell ⟨b, 0, none⟩ (.int .i32 0)) w' := by
 have hmf : ∀ (fn : Fn) (first cap : Array Value) (w : World), (Instr.makeFunc fn first cap).run Tryz.prog w = .ok (.func fn first cap) w := fun _ _ _ _ => rfl
 have HD := hd hD
 have HR := hd hR
 have HP := hd hp
 have HB := hd hB
 have H0 := hd h0
 have hbl := hB.lt
 have hb0 : Below w.heap.size w ((w.alloc (.cells #[.int .i64 0, .slice none 0 0, .int .i64 0] 33)).alloc (.cells #[.int .i64 0] 25)) := ((Below.refl _ _).alloc (Nat.le_refl _) _).alloc (by simp) _
 have HT := hd (c_Statement_any s ((w.alloc (.cells #[.int .i64 0, .slice none 0 0, .int .i64 0] 33)).alloc (.cells #[.int .i64 0] 25)) (he.below hb0) hm)
 have K0 : Blk ((w.alloc (.cells #[.int .i64 0, .slice none 0 0, .int .i64 0] 33)).alloc (.cells #[.int .i64 0] 25)) w.heap.size #[.int .i64 0, .slice none 0 0, .int .i64 0] 33 := (Blk.new w _ _).alloc _
 have K1 : Blk ((w.alloc (.cells #[.int .i64 0, .slice none 0 0, .int .i64 0] 33)).alloc (.cells #[.int .i64 0] 25)) (w.heap.size + 1) #[.int .i64 0] 25 := (by have h := Blk.new (w.alloc (.cells #[.int .i64 0, .slice none 0 0, .int .i64 0] 33)) #[.int .i64 0] 25; rwa [World.size_alloc] at h)
 clear hD hR hp hB h0 he
 go_enter_defers Tryz.func9, Tryz.ntmps9
 go_wp2_with fail
 refine HT.out.mono ?_
 rintro e wp ⟨hb1, r, hr, ht⟩
 obtain rfl := Px.parse_one HP.out hr
 obtain ⟨v, B, rfl, hBb, hst⟩ := ht
 have HK0 := hd (K0.below hb1 (by simp; omega))
 have HK1 := hd (K1.below hb1 (by simp))
 have HB1 : Hid (Below w.heap.size w wp) := hb0.trans (hb1.mono (by simp; omega))
 have HBS := hd (HB.out.below HB1.out HB.out.lt)
 have HBb : Hid (w.heap.size + 2 ≤ B) := by show _ ≤ _; simpa using hBb
 obtain ⟨tv, xv, rfl⟩ := st_iface hst
 have HST := hd hst
 have hw2 : w.heap.size + 1 < wp.heap.size := HK1.out.lt
 have hbp := HBS.out.lt
 clear hb1 K0 K1 hb0 HT hr hst hBb
 go_wp2_with fail
 refine (Go.MuLone.lock_free muLib ⟨b, 0, none⟩ wp ((HBS.out.cell 0).trans H0.out) (HBS.out.free 0)).mono ?_
 rintro x w1 ⟨rfl, rfl⟩
 go_wp2_with fail
 refine (HD.out wp (.iface tv xv) B HB1.out HBb.out HST.out).mono ?_
 rintro x0 w2 hRx
 obtain ⟨hx, hk, ⟨cs', hcb, hc0⟩, hs2⟩ := HR.out wp _ x0 w2 HB1.out hRx
 have HRX := hd hRx
 have HA := hd (blk_block HK0.out hs2 (hk _ (Nat.le_refl _) (by omega)))
 have HE := hd (blk_block HK1.out hs2 (hk _ (by omega) (by omega)))
 clear hRx hk HK0 HK1 HR HD HST
 rcases hx with ⟨a, ao, k, cp, n, rfl⟩ | ⟨c, rfl⟩
 · have a0 := HA.out.cell 0
   have a1 := HA.out.cell 1
   have a2 := HA.out.cell 2
   have e0 := HE.out.cell 0
   simp at a0 a1 a2 e0
   have fa0 := HA.out.free 0
   have fa1 := HA.out.free 1
   have fa2 := HA.out.free 2
   have fe0 := HE.out.free 0
   have hne : w.heap.size ≠ w.heap.size + 1 := by omega
   have HCB := hd hcb
   have HC0 := hd hc0
   have k0 := ((((HA.out.set 0 (.int .i64 a)).set 1 (.slice ao k cp)).set 2 (.int .i64 n)).far ⟨w.heap.size + 1, 0, none⟩ (.int .i64 0) (by simp))
   have k1 := ((((HE.out.far ⟨w.heap.size, 0, none⟩ (.int .i64 a) (by simp)).far ⟨w.heap.size, 1, none⟩ (.slice ao k cp) (by simp)).far ⟨w.heap.size, 2, none⟩ (.int .i64 n) (by simp)).set 0 (.int .i64 0))
   have kb := ((((hcb.far ⟨w.heap.size, 0, none⟩ (.int .i64 a) (by simp; omega)).far ⟨w.heap.size, 1, none⟩ (.slice ao k cp) (by simp; omega)).far ⟨w.heap.size, 2, none⟩ (.int .i64 n) (by simp; omega)).far ⟨w.heap.size + 1, 0, none⟩ (.int .i64 0) (by simp; omega))
   have HL0 := hd k0
   have HL1 := hd k1
   have HLB := hd kb
   clear k0 k1 kb hcb hc0
   go_wp2
   refine leaves_cons (f := 15) (args := #[.pointer (some ⟨b, 0, none⟩)]) (by simp) (by simp [go_sem]) ?_
   refine (Go.MuLone.unlock_deferred muLib ⟨b, 0, none⟩ _ _ ((HLB.out.cell 0).trans HC0.out) (HLB.out.free 0)).mono ?_
   rintro e u' w'' ⟨rfl, rfl, rfl⟩
   refine leaves_cons (f := 11) (args := #[.pointer (some ⟨w.heap.size + 1, 0, none⟩)]) (by simp [settle]) (by simp [go_sem]) ?_
   refine (run_idle ⟨w.heap.size + 1, 0, none⟩ _).mono ?_
   rintro e u' w'' ⟨rfl, rfl, rfl⟩
   have d0 := (HL0.out.far ⟨b, 0, none⟩ (.int .i32 0) (by show b ≠ _; omega)).cell 0
   have d1 := (HL0.out.far ⟨b, 0, none⟩ (.int .i32 0) (by show b ≠ _; omega)).cell 1
   have d2 := (HL0.out.far ⟨b, 0, none⟩ (.int .i32 0) (by show b ≠ _; omega)).cell 2
   have d3 := (HL1.out.far ⟨b, 0, none⟩ (.int .i32 0) (by show b ≠ _; omega)).cell 0
   simp at d0 d1 d2 d3
   simp [Leaves, settle, results, Tryz.results9, go_sem, d0, d1, d2, d3]
   exact ⟨wp, HB1.out, by omega, _, _, w2, HRX.out, .inl ⟨_, rfl, rfl⟩, _, ((setAp (by omega)).trans (setAp (by omega))).trans ((setAp (by omega)).trans (setAp (by omega))), Apart.refl _⟩
 · refine leaves_cons (f := 15) (args := #[.pointer (some ⟨b, 0, none⟩)]) (by simp) (by simp [go_sem]) ?_
   refine (Go.MuLone.unlock_deferred muLib ⟨b, 0, none⟩ _ w2 ((hcb.cell 0).trans hc0) (hcb.free 0)).mono ?_
   rintro e u' w'' ⟨rfl, rfl, rfl⟩
   refine leaves_cons (f := 11) (args := #[.pointer (some ⟨w.heap.size + 1, 0, none⟩)]) (by simp [settle]) (by simp [go_sem]) ?_
   refine (run_catch (w.heap.size + 1) 0 0 (c : Int) [] _ (HE.out.far ⟨b, 0, none⟩ _ (by show b ≠ _; omega))).mono ?_
   rintro e u' w'' ⟨rfl, rfl, w3, hb3, rfl⟩
   have k0 := (((HA.out.far ⟨b, 0, none⟩ (.int .i32 0) (by show b ≠ _; omega)).below hb3 (by simpa using HA.out.lt)).far ⟨w.heap.size + 1, 0, none⟩ (.int .i64 (c : Int)) (by simp))
   have k1 := (((HE.out.far ⟨b, 0, none⟩ (.int .i32 0) (by show b ≠ _; omega)).below hb3 (by simpa using HE.out.lt)).set 0 (.int .i64 (c : Int)))
   have d0 := k0.cell 0
   have d1 := k0.cell 1
   have d2 := k0.cell 2
   have d3 := k1.cell 0
   simp at d0 d1 d2 d3
   simp [Leaves, settle, results, Tryz.results9, go_sem, d0, d1, d2, d3]
   exact ⟨wp, HB1.out, by omega, _, _, w2, HRX.out, .inr ⟨c, rfl, rfl⟩, w2, Apart.refl _, (below_apart hb3).trans (setAp (by omega))⟩
end Tx
end
section
namespace Tx
open Tb Tw
structure Keep (p b : Nat) (W W' : World) : Prop where
 os : W'.os = W.os
 tape : W'.tape = W.tape
 output : W'.output = W.output
 size : W.heap.size ≤ W'.heap.size
 block : ∀ k, k ≠ p → k ≠ b → k < W.heap.size → W'.heap[k]? = W.heap[k]?
theorem Keep.trans {p b : Nat} {u v w : World} (h : Keep p b u v) (g : Keep p b v w) : Keep p b u w :=
 ⟨g.os.trans h.os, g.tape.trans h.tape, g.output.trans h.output, Nat.le_trans h.size g.size, fun k h1 h2 hl => (g.block k h1 h2 (Nat.lt_of_lt_of_le hl h.size)).trans (h.block k h1 h2 hl)⟩
theorem Keep.low {p b B : Nat} {W W' : World} (h : Keep p b W W') (hp : B ≤ p) (hb : B ≤ b) (hB : B ≤ W.heap.size) : Below B W W' :=
 ⟨h.os, h.tape, h.output, h.size, fun k hk => h.block k (by omega) (by omega) (by omega)⟩
theorem Keep.of_below {p b : Nat} {W W' : World} (h : Below W.heap.size W W') : Keep p b W W' := ⟨h.os, h.tape, h.output, h.size, fun k _ _ hl => h.block k hl⟩
theorem Keep.of_apart {p b x : Nat} {W W' : World} (h : Apart x (x + 1) W W') (hx : x = p ∨ x = b) : Keep p b W W' := ⟨h.os, h.tape, h.output, h.size, fun k h1 h2 hl => h.block k (by omega) hl⟩
theorem Keep.over {p b A C : Nat} {w W W' : World} (h : Keep p b w W) (h2 : Apart A C W W') (hA : w.heap.size ≤ A) : Keep p b w W' :=
 ⟨h2.os.trans h.os, h2.tape.trans h.tape, h2.output.trans h.output, Nat.le_trans h.size h2.size, fun k h1 h1' hl => (h2.block k (.inl (by omega)) (Nat.lt_of_lt_of_le hl h.size)).trans (h.block k h1 h1' hl)⟩
theorem kept {p b : Nat} {w wp w2 W3 w' : World} (h1 : Below w.heap.size w wp) (h2 : Keep p b (wp.setCell ⟨b, 0, none⟩ (.int .i32 1)) w2) (h3 : Apart w.heap.size (w.heap.size + 2) w2 W3) (h4 : Apart w.heap.size (w.heap.size + 2) (W3.setCell ⟨b, 0, none⟩ (.int .i32 0)) w') : Keep p b w w' := by
 have k1 : Keep p b w wp := Keep.of_below h1
 have k2 : Keep p b wp (wp.setCell ⟨b, 0, none⟩ (.int .i32 1)) := Keep.of_apart set_apart (.inr rfl)
 have k3 := ((k1.trans k2).trans h2).over h3 (Nat.le_refl _)
 have k4 : Keep p b W3 (W3.setCell ⟨b, 0, none⟩ (.int .i32 0)) := Keep.of_apart set_apart (.inr rfl)
 exact (k3.trans k4).over h4 (Nat.le_refl _)
theorem lockOne {p b g cap ge ce : Nat} {r : Value} {n : Int} {A : Nat} {w2 W3 w' : World} (h : One w2 b 1 p g cap ge ce r n) (hb : b < A) (hp : p < A ∨ A + 2 ≤ p) (hg : g < A ∨ A + 2 ≤ g) (hge : ge < A ∨ A + 2 ≤ ge) (hpb : p ≠ b) (hgb : g ≠ b) (hgeb : ge ≠ b)
   (h3 : Apart A (A + 2) w2 W3) (h4 : Apart A (A + 2) (W3.setCell ⟨b, 0, none⟩ (.int .i32 0)) w') : One w' b 0 p g cap ge ce r n :=
 ((h.apart h3 (.inl hb) hp hg hge).lock 0 hpb hgb hgeb).apart h4 (.inl hb) hp hg hge
theorem lockRow {p b gr cr gv cv A : Nat} {w2 W3 w' : World} (h : OneRow w2 p gr cr gv cv) (hp : p < A ∨ A + 2 ≤ p) (hg : gr < A ∨ A + 2 ≤ gr) (hpb : p ≠ b) (hgb : gr ≠ b) (h3 : Apart A (A + 2) w2 W3) (h4 : Apart A (A + 2) (W3.setCell ⟨b, 0, none⟩ (.int .i32 0)) w') : OneRow w' p gr cr gv cv :=
 row_apart (row_lock (row_apart h h3 hp hg) _ _ hpb hgb) h4 hp hg
theorem new_any (w : World) : Calls Tryz.prog 8 #[] w fun x w' => x = .returned (.pointer (some ⟨w.heap.size, 0, none⟩)) ∧ w' = w.alloc (.cells (sCs 0 (.slice none 0 0) 0) 52) := by
 go_enter Tryz.func8, Tryz.ntmps8
 go_wp2_with fail
 go_ret
 exact ⟨rfl, rfl⟩
theorem told_ret {x : Ending} {v : Value} (h : Told (.returned v) x) : x = .returned (.tuple #[v, .int .i64 0]) := by
 rcases h with ⟨u, h1, rfl⟩ | ⟨c, h1, _⟩
 · injection h1 with h1; rw [h1]
 · cases h1
theorem told_flt {x : Ending} {c : Nat} (h : Told (Flt 0 c) x) : x = .returned (.tuple #[.agg #[.int .i64 0, .slice none 0 0, .int .i64 0], .int .i64 (c : Int)]) := by
 rcases h with ⟨u, h1, _⟩ | ⟨d, h1, rfl⟩
 · cases h1
 · unfold Flt at h1
   injection h1 with h1
   injection h1 with h1
   injection h1 with h1
   injection h1 with _ h1
   injection h1 with h1
   have := congrArg (fun a : Array Value => a[1]?) h1
   simp at this
   rw [← this]
theorem run_create (b : Nat) (w : World) (he : EnvP w) (hB : Blk w b (sCs 0 (.slice none 0 0) 0) 52) :
   Calls Tryz.prog 9 #[.pointer (some ⟨b, 0, none⟩), .string ⟨Px.tCreate.toArray⟩] w fun x w' => x = .returned (.tuple #[.agg #[.int .i64 0, .slice none 0 0, .int .i64 0], .int .i64 0]) ∧ Keep b b w w' ∧
     ∃ p g cap ge ce, w.heap.size ≤ p ∧ w.heap.size ≤ g ∧ w.heap.size ≤ ge ∧ p ≠ g ∧ p ≠ ge ∧ One w' b 0 p g cap ge ce (.slice none 0 0) 0 := by
 have hbl := hB.lt
 refine (sRun_any Px.sCreate ⟨Px.tCreate.toArray⟩ (by simpa using Px.parse_create) (by simp [ByteArray.size, Px.tCreate, maxLen]) b _ w he hB rfl
   (fun wp v x w2 => x = .returned (.agg #[.int .i64 0, .slice none 0 0, .int .i64 0]) ∧ Apart b (b + 1) (wp.setCell ⟨b, 0, none⟩ (.int .i32 1)) w2 ∧ ∃ p g cap ge ce, w.heap.size + 2 ≤ p ∧ w.heap.size + 2 ≤ g ∧ w.heap.size + 2 ≤ ge ∧ p ≠ g ∧ p ≠ ge ∧ One w2 b 1 p g cap ge ce (.slice none 0 0) 0) ?_ ?_).mono ?_
 · intro wp v B hb hBB hst
   obtain ⟨u, rfl, hu⟩ := hst
   have hu' : wp.ownsRow (B + 1) 192 2 u 1 [.string ⟨#[97]⟩, .int .i64 1] := hu
   obtain ⟨g, cap, rfl, hg1, hg2, hcap, _, hcell⟩ := own_open hu' (by omega)
   have hK : Blk (wp.setCell ⟨b, 0, none⟩ (.int .i32 1)) b (sCs 1 (.slice none 0 0) 0) 52 := by simpa [sCs] using (hB.below hb hB.lt).set 0 (.int .i32 1)
   have hgb : g ≠ b := by omega
   refine (dRun_create b g cap _ hK (by simpa using hg2) hgb ((World.cell?_setCell_far wp _ _ _ (by show b ≠ g; omega)).trans (hcell 0 _ rfl)) ((World.cell?_setCell_far wp _ _ _ (by show b ≠ g; omega)).trans (hcell 1 _ rfl)) (by omega)).mono ?_
   rintro x w2 ⟨rfl, hA, p, ge, ce, hp, hge, hpe, hO⟩
   have hsz : w.heap.size + 2 ≤ wp.heap.size := by omega
   simp at hp hge
   exact ⟨rfl, hA, p, g, cap, ge, ce, by omega, by omega, by omega, by omega, hpe, hO⟩
 · rintro wp v x w2 hb ⟨rfl, hA, p, g, cap, ge, ce, _, _, _, _, _, hO⟩
   refine ⟨.inl ⟨_, _, _, _, _, rfl⟩, fun k hk hl => ?_, ⟨_, hO.blk, rfl⟩, by simpa using hA.size⟩
   rw [hA.block k (by omega) (by simpa using hl)]
   exact Below.heap_setCell _ _ _ _ (by show k ≠ b; omega)
 · rintro x w' ⟨wp, v, x0, w2, W3, hb, hsz, ⟨rfl, hA, p, g, cap, ge, ce, h1, h2, h3, h4, h5, hO⟩, hT, hA3, hA4⟩
   refine ⟨told_ret hT, kept hb (Keep.of_apart hA (.inl rfl)) hA3 hA4, p, g, cap, ge, ce, by omega, by omega, by omega, h4, h5, lockOne hO hbl (.inr h1) (.inr h2) (.inr h3) (by omega) (by omega) (by omega) hA3 hA4⟩
theorem run_insert {b p g cap ge ce : Nat} (w : World) (he : EnvP w) (hO : One w b 0 p g cap ge ce (.slice none 0 0) 0) (hpb : p ≠ b) (hgb : g ≠ b) (hgeb : ge ≠ b) (hpg : p ≠ g) (hpe : p ≠ ge) :
   Calls Tryz.prog 9 #[.pointer (some ⟨b, 0, none⟩), .string ⟨Px.tInsert.toArray⟩] w fun x w' => x = .returned (.tuple #[.agg #[.int .i64 0, .slice none 0 0, .int .i64 1], .int .i64 0]) ∧ Keep p b w w' ∧
     ∃ gr cr gv cv, gr ≠ b ∧ gr ≠ p ∧ One w' b 0 p g cap ge ce (.slice (some ⟨gr, 0, none⟩) 1 cr) 1 ∧ OneRow w' p gr cr gv cv := by
 have hbl := hO.blk.lt
 have hpl := hO.col.blk.lt
 have hgl := hO.col.hg
 have hel := hO.hge
 refine (sRun_any Px.sInsert ⟨Px.tInsert.toArray⟩ (by simpa using Px.parse_insert) (by simp [ByteArray.size, Px.tInsert, maxLen]) b _ w he hO.blk rfl
   (fun wp v x w2 => x = .returned (.agg #[.int .i64 0, .slice none 0 0, .int .i64 1]) ∧ Apart p (p + 1) (wp.setCell ⟨b, 0, none⟩ (.int .i32 1)) w2 ∧ ∃ gr cr gv cv, w.heap.size + 2 ≤ gr ∧ One w2 b 1 p g cap ge ce (.slice (some ⟨gr, 0, none⟩) 1 cr) 1 ∧ OneRow w2 p gr cr gv cv) ?_ ?_).mono ?_
 · intro wp v B hb hBB hst
   obtain ⟨u, rfl, vs, hu, hvs⟩ := hst
   obtain ⟨gr, cr, rfl, hg1, hg2, _, _, hcell⟩ := own_open hu (by simp)
   match vs, hvs, hcell with
   | [y], hvs, hcell =>
    obtain ⟨hy, _⟩ := hvs
    have hy' : wp.ownsRow (B + 1) 85 1 y 1 [ev (.num 0)] := hy
    obtain ⟨gy, cy, rfl, hy1, hy2, _, _, hycell⟩ := own_open hy' (by omega)
    have hK := (hO.below hb).lock 1 hpb hgb hgeb
    refine (dRun_insert _ hK hpb hpg hpe (show gr < _ by simpa using hg2) ((World.cell?_setCell_far wp _ _ _ (by show b ≠ gr; omega)).trans (hcell 0 _ rfl)) (show gy < _ by simpa using hy2) ((World.cell?_setCell_far wp _ _ _ (by show b ≠ gy; omega)).trans (hycell 0 _ rfl))).mono ?_
    rintro x w2 ⟨rfl, hA, g2, c2, gv, cv, h1, h2, h3⟩
    simp at h1
    exact ⟨rfl, hA, g2, c2, gv, cv, by omega, h2, h3⟩
 · rintro wp v x w2 hb ⟨rfl, hA, gr, cr, gv, cv, _, h2, h3⟩
   refine ⟨.inl ⟨_, _, _, _, _, rfl⟩, fun k hk hl => ?_, ⟨_, h2.blk, rfl⟩, by simpa using hA.size⟩
   rw [hA.block k (by omega) (by simpa using hl)]
   exact Below.heap_setCell _ _ _ _ (by show k ≠ b; omega)
 · rintro x w' ⟨wp, v, x0, w2, W3, hb, hsz, ⟨rfl, hA, gr, cr, gv, cv, h1, h2, h3⟩, hT, hA3, hA4⟩
   exact ⟨told_ret hT, kept hb (Keep.of_apart hA (.inl rfl)) hA3 hA4, gr, cr, gv, cv, by omega, by omega, lockOne h2 hbl (.inl hpl) (.inl hgl) (.inl hel) hpb hgb hgeb hA3 hA4, lockRow h3 (.inl hpl) (.inr h1) hpb (by omega) hA3 hA4⟩
def AskOut (b : Nat) (w : World) (r : Except Nat Int) (x : Ending) (w' : World) : Prop := Keep b b w w' ∧ match r with
 | .ok z => ∃ v, x = .returned (.tuple #[.agg #[.int .i64 1, v, .int .i64 0], .int .i64 0]) ∧ w'.ownsRow (w.heap.size + 2) 24 3 v 1 [.int .i64 16, .int .i64 z, .string ⟨#[]⟩]
 | .error c => x = .returned (.tuple #[.agg #[.int .i64 0, .slice none 0 0, .int .i64 0], .int .i64 (c : Int)])
theorem own_aparts {w w' : World} {B a c : Nat} {T : TypeId} {s : Nat} {v : Value} {n : Nat} {xs : List Value} (h : w.ownsRow B T s v n xs) (hA : Apart a c w w') (hc : c ≤ B) : w'.ownsRow B T s v n xs := by
 refine ⟨h.1, ?_⟩
 rcases h.2 with h2 | ⟨g, cap, cur, h0, h1, h2, h3⟩
 · exact .inl h2
 · exact .inr ⟨g, cap, cur, h0, h1, (hA.block g (.inr (by omega)) (Array.getElem?_eq_some_iff.1 h2).1).trans h2, h3⟩
theorem run_select {b p g cap ge ce gr cr gv cv : Nat} {n : Int} (e : Px.E) (hE : Mg.Ar e) (s : ByteArray) (hp : Px.ParseR s.data.toList (.ok (Px.sSelect e))) (hm : s.size ≤ maxLen) (w : World) (he : EnvP w) (hO : One w b 0 p g cap ge ce (.slice (some ⟨gr, 0, none⟩) 1 cr) n) (hr : OneRow w p gr cr gv cv) (hpb : p ≠ b) (hgb : g ≠ b) (hgeb : ge ≠ b) (hrb : gr ≠ b) :
   Calls Tryz.prog 9 #[.pointer (some ⟨b, 0, none⟩), .string s] w (AskOut b w (Mg.val e)) := by
 have hbl := hO.blk.lt
 refine (sRun_any (Px.sSelect e) s hp hm b _ w he hO.blk rfl (fun wp v x w2 => SelOut (wp.setCell ⟨b, 0, none⟩ (.int .i32 1)) (Mg.val e) x w2 ∧ w.heap.size + 2 ≤ wp.heap.size ∧ b < wp.heap.size) ?_ ?_).mono ?_
 · intro wp v B hb hBB hst
   obtain ⟨u, u', rfl, hu, hu'⟩ := hst
   have hu2 : wp.ownsRow (B + 1) 206 2 u 1 [.bool false, ev e] := hu
   obtain ⟨gi, ci, rfl, hg1, hg2, _, _, hcell⟩ := own_open hu2 (by omega)
   obtain ⟨ao, co, rfl⟩ : ∃ ao co, u' = .slice ao 0 co := by
    have hu3 : wp.ownsRow (B + 1) 210 2 u' 0 [] := hu'
    rcases hu3.2 with ⟨rfl, _⟩ | ⟨g', cap', cur, rfl, _⟩
    · exact ⟨_, _, rfl⟩
    · exact ⟨_, _, rfl⟩
   have hK := (hO.below hb).lock 1 hpb hgb hgeb
   have hK2 := row_lock (hr.below hb) (.int .i32 1) 0 hpb hrb
   refine (dRun_select e hE _ hK hK2 (show gi < _ by simpa using hg2) ((World.cell?_setCell_far wp _ _ _ (by show b ≠ gi; omega)).trans (hcell 0 _ rfl)) ((World.cell?_setCell_far wp _ _ _ (by show b ≠ gi; omega)).trans (hcell 1 _ rfl))).mono ?_
   intro x w2 hx
   exact ⟨hx, by omega, Nat.lt_of_lt_of_le hbl hb.size⟩
 · rintro wp v x w2 hb ⟨⟨hB, hx⟩, hsz, hb2⟩
   have hK : Blk (wp.setCell ⟨b, 0, none⟩ (.int .i32 1)) b (sCs 1 (.slice (some ⟨ge, 0, none⟩) 1 ce) 1) 52 := by simpa [sCs] using (hO.blk.below hb hO.blk.lt).set 0 (.int .i32 1)
   have hK2 := hK.below hB hK.lt
   refine ⟨?_, fun k hk hl => ?_, ⟨_, hK2, rfl⟩, by simpa using hB.size⟩
   · cases hv : Mg.val e with
     | ok z =>
      rw [hv] at hx
      obtain ⟨v, rfl, ho⟩ := hx
      obtain ⟨ao, m, cp, rfl⟩ := own_slice ho
      exact .inl ⟨_, _, _, _, _, rfl⟩
     | error c => rw [hv] at hx; exact .inr ⟨c, hx⟩
   · rw [hB.block k (by simpa using hl)]
     exact Below.heap_setCell _ _ _ _ (by show k ≠ b; omega)
 · rintro x w' ⟨wp, v, x0, w2, W3, hb, hsz, ⟨⟨hB, hx⟩, _, _⟩, hT, hA3, hA4⟩
   refine ⟨kept hb (Keep.of_below hB) hA3 hA4, ?_⟩
   cases hv : Mg.val e with
   | ok z =>
    rw [hv] at hx
    obtain ⟨v, rfl, ho⟩ := hx
    refine ⟨v, told_ret hT, ?_⟩
    have ho1 : w2.ownsRow (w.heap.size + 2) 24 3 v 1 [.int .i64 16, .int .i64 z, .string ⟨#[]⟩] := ownBase ho (by simpa using hsz)
    exact own_aparts (Tw.own_far (own_aparts ho1 hA3 (Nat.le_refl _)) _ (by show b < _; omega)) hA4 (Nat.le_refl _)
   | error c =>
    rw [hv] at hx
    have hx' : x0 = Flt 0 c := hx
    subst hx'
    exact told_flt hT
end Tx
end
section
namespace Tx
open Tb Tw
theorem Keep.blk {p b k : Nat} {W W' : World} {cs : Array Value} {T : TypeId} (h : Keep p b W W') (hk : Blk W k cs T) (h1 : k ≠ p) (h2 : k ≠ b) : Blk W' k cs T := blk_block hk h.size (h.block k h1 h2 hk.lt)
def OneOut (w : World) (r : Except Nat Int) (x : Ending) (w' : World) : Prop := Below w.heap.size w w' ∧ match r with
 | .ok z => x = .returned (.tuple #[.agg #[.int .i64 16, .int .i64 z, .string ⟨#[]⟩], .int .i64 0])
 | .error c => x = .returned (.tuple #[.agg #[.int .i64 0, .int .i64 0, .string ⟨#[]⟩], .int .i64 (c : Int)])
theorem val_low {e : Px.E} {c : Nat} (hE : Mg.Ar e) (h : Mg.val e = .error c) : c = 12 ∨ c = 13 := by
 induction e generalizing c with
 | num z => cases h
 | bin k a b iha ihb =>
  simp only [Mg.val] at h
  cases ha : Mg.val a with
  | error d => rw [ha] at h; cases h; exact iha hE.2.1 ha
  | ok x =>
   cases hb : Mg.val b with
   | error d => rw [ha, hb] at h; cases h; exact ihb hE.2.2 hb
   | ok y =>
    rw [ha, hb] at h
    simp only [Mg.arith, Mg.ck] at h
    repeat' split at h
    all_goals first | (cases h; done) | (injection h with h; omega)
 | _ => exact hE.elim
theorem single_any (e : Px.E) (hE : Mg.Ar e) (t : Lx.Bs) (hp : Px.ParseR (Px.bSel ++ (t ++ Px.bFrom)) (.ok (Px.sSelect e))) (ht : t.length ≤ 1000) (s : ByteArray) (hs : s.data.toList = t) (w : World) (he : EnvP w) :
   Calls Tryz.prog 6 #[.string s] w (OneOut w (Mg.val e)) := by
 have hb0 : Below w.heap.size w ((w.alloc (.cells #[.int .i64 0, .int .i64 0, .string ⟨#[]⟩] 24)).alloc (.cells (sCs 0 (.slice none 0 0) 0) 52)) := ((Below.refl _ _).alloc (Nat.le_refl _) _).alloc (by simp) _
 have HKA := hd ((Blk.new w #[.int .i64 0, .int .i64 0, .string ⟨#[]⟩] 24).alloc (.cells (sCs 0 (.slice none 0 0) 0) 52))
 have HKB : Hid (Blk ((w.alloc (.cells #[.int .i64 0, .int .i64 0, .string ⟨#[]⟩] 24)).alloc (.cells (sCs 0 (.slice none 0 0) 0) 52)) (w.heap.size + 1) (sCs 0 (.slice none 0 0) 0) 52) := (by have h := Blk.new (w.alloc (.cells #[.int .i64 0, .int .i64 0, .string ⟨#[]⟩] 24)) (sCs 0 (.slice none 0 0) 0) 52; rw [World.size_alloc] at h; exact h)
 have HEN := hd (he.below hb0)
 have HEW := hd he
 have HB0 := hd hb0
 have HAR := hd hE
 have HPS := hd hp
 have hss : s.size = t.length := by
  rw [← hs]
  show s.data.size = s.data.toList.length
  rw [Array.length_toList]
 have HS : Hid (s.data.toList = t) := hs
 have hsz0 : ((w.alloc (.cells #[.int .i64 0, .int .i64 0, .string ⟨#[]⟩] 24)).alloc (.cells (sCs 0 (.slice none 0 0) 0) 52)).heap.size = w.heap.size + 2 := by simp
 have hmx : 100000 ≤ maxLen := by decide
 clear hb0 he hE hp hs
 go_enter Tryz.func6, Tryz.ntmps6
 go_wp2_with fail
 refine (new_any _).mono ?_
 rintro x w1 ⟨rfl, rfl⟩
 generalize ((w.alloc (.cells #[.int .i64 0, .int .i64 0, .string ⟨#[]⟩] 24)).alloc (.cells (sCs 0 (.slice none 0 0) 0) 52)) = V at *
 simp only [World.size_alloc]
 go_wp2_with fail
 refine (run_create (w.heap.size + 1) V HEN.out HKB.out).mono ?_
 rintro x w2 ⟨rfl, hk, p, g, cap, ge, ce, h1, h2, h3, h4, h5, hO⟩
 have hle2 := hk.size
 have HB2 : Hid (Below w.heap.size w w2) := HB0.out.trans (hk.low (by omega) (by omega) (by omega))
 have HA2 := hd (hk.blk HKA.out (by omega) (by omega))
 have hOl := hO.blk.lt
 have hlow : V.heap.size = w.heap.size + 2 := hsz0
 have HO2 := hd (hO.below ((Below.refl w2.heap.size w2).alloc (Nat.le_refl _) (.cells #[.int .i64 0, .slice none 0 0, .int .i64 0] 33)))
 have hbb : Below w.heap.size w (w2.alloc (.cells #[.int .i64 0, .slice none 0 0, .int .i64 0] 33)) := HB2.out.alloc HB2.out.size _
 have HE2 := hd (HEW.out.below hbb)
 have HB3 := hd hbb
 have HA3 := hd (HA2.out.alloc (.cells #[.int .i64 0, .slice none 0 0, .int .i64 0] 33))
 clear hk hO hbb HB2 HA2 HEN HKA HKB HB0
 go_wp2_with fail
 generalize (w2.alloc (.cells #[.int .i64 0, .slice none 0 0, .int .i64 0] 33)) = V2 at *
 refine (run_insert V2 HE2.out HO2.out (by omega) (by omega) (by omega) h4 h5).mono ?_
 rintro x w3 ⟨rfl, hk, gr, cr, gv, cv, hgb, hgp, hO, hR⟩
 have HB4 : Hid (Below w.heap.size w w3) := HB3.out.trans (hk.low (by omega) (by omega) HB3.out.size)
 have HA4 := hd (hk.blk HA3.out (by omega) (by omega))
 have HO4 := hd (hO.below ((Below.refl w3.heap.size w3).alloc (Nat.le_refl _) (.cells #[.int .i64 0, .slice none 0 0, .int .i64 1] 33)))
 have HR4 := hd (hR.below ((Below.refl w3.heap.size w3).alloc (Nat.le_refl _) (.cells #[.int .i64 0, .slice none 0 0, .int .i64 1] 33)))
 have hbb : Below w.heap.size w (w3.alloc (.cells #[.int .i64 0, .slice none 0 0, .int .i64 1] 33)) := HB4.out.alloc HB4.out.size _
 have HE4 := hd (HEW.out.below hbb)
 have HB5 := hd hbb
 have HA5 := hd (HA4.out.alloc (.cells #[.int .i64 0, .slice none 0 0, .int .i64 1] 33))
 clear hk hO hR hbb HB4 HA4 HE2 HO2 HB3 HA3
 go_wp2_with fail
 generalize (w3.alloc (.cells #[.int .i64 0, .slice none 0 0, .int .i64 1] 33)) = V3 at *
 refine (run_select e HAR.out _ ?ps ?pl V3 HE4.out HO4.out HR4.out (by omega) (by omega) (by omega) (by omega)).mono ?_
 case ps =>
  have : (Px.bSel ++ (t ++ Px.bFrom)) = ((⟨#[83, 69, 76, 69, 67, 84, 32]⟩ : ByteArray) ++ s ++ (⟨#[32, 70, 82, 79, 77, 32, 111]⟩ : ByteArray)).data.toList := by
   simp [Px.bSel, Px.bFrom, HS.out]
  rw [← this]
  exact HPS.out
 case pl =>
  rw [ByteArray.size_append, ByteArray.size_append]
  show 7 + s.size + 7 ≤ maxLen
  omega
 rintro x w4 ⟨hk, hx⟩
 have HB6 : Hid (Below w.heap.size w w4) := HB5.out.trans (hk.low (by omega) (by omega) HB5.out.size)
 have HA6 := hd (hk.blk HA5.out (by omega) (by omega))
 have hl6 := HA6.out.lt
 clear hk
 cases hv : Mg.val e with
 | ok z =>
  have HVE := hd hv
  rw [hv] at hx
  clear hv
  obtain ⟨v, rfl, hown⟩ := hx
  obtain ⟨gc, cc, rfl, hg1, hg2, _, _, hcell⟩ := own_open hown (by omega)
  have hlA : w.heap.size < V3.heap.size := HA5.out.lt
  have q0 := hcell 0 _ rfl
  have q1 := hcell 1 _ rfl
  have q2 := hcell 2 _ rfl
  have a0 := HA6.out.cell 0
  have a1 := HA6.out.cell 1
  have a2 := HA6.out.cell 2
  simp at a0 a1 a2
  have fa0 := HA6.out.free 0
  have fa1 := HA6.out.free 1
  have fa2 := HA6.out.free 2
  clear hown hcell
  have K5 := (((HA6.out.set 0 (.int .i64 16)).set 1 (.int .i64 z)).set 2 (.string ⟨#[]⟩)).alloc (.cells #[.int .i64 1, .slice (some ⟨gc, 0, none⟩) 1 cc, .int .i64 0] 33)
  have g0 := K5.cell 0
  have g1 := K5.cell 1
  have g2 := K5.cell 2
  simp at g0 g1 g2
  have hbl : Below w.heap.size w ((((w4.setCell ⟨w.heap.size, 0, none⟩ (.int .i64 16)).setCell ⟨w.heap.size, 1, none⟩ (.int .i64 z)).setCell ⟨w.heap.size, 2, none⟩ (.string ⟨#[]⟩)).alloc (.cells #[.int .i64 1, .slice (some ⟨gc, 0, none⟩) 1 cc, .int .i64 0] 33)) :=
   (((HB6.out.setCell (p := ⟨w.heap.size, 0, none⟩) (Nat.le_refl _) _).setCell (p := ⟨w.heap.size, 1, none⟩) (Nat.le_refl _) _).setCell (p := ⟨w.heap.size, 2, none⟩) (Nat.le_refl _) _).alloc (by simp; omega) _
  have HBL := hd hbl
  clear K5 hbl
  go_wp2
  refine ⟨rfl, .tuple #[.agg #[.int .i64 16, .int .i64 z, .string ⟨#[]⟩], .int .i64 0], by simp [results, Tryz.results6, go_sem, g0, g1, g2], HBL.out, ?_⟩
  rw [HVE.out]
 | error c =>
  have HVE := hd hv
  rw [hv] at hx
  have hc := val_low HAR.out hv
  clear hv
  have hx' := hx
  subst hx'
  have a0 := HA6.out.cell 0
  have a1 := HA6.out.cell 1
  have a2 := HA6.out.cell 2
  simp at a0 a1 a2
  have fa0 := HA6.out.free 0
  have fa1 := HA6.out.free 1
  have fa2 := HA6.out.free 2
  rcases hc with rfl | rfl
  · have K5 := (((HA6.out.set 0 (.int .i64 0)).set 1 (.int .i64 0)).set 2 (.string ⟨#[]⟩)).alloc (.cells #[.int .i64 0, .slice none 0 0, .int .i64 0] 33)
    have g0 := K5.cell 0
    have g1 := K5.cell 1
    have g2 := K5.cell 2
    simp at g0 g1 g2
    have hbl : Below w.heap.size w ((((w4.setCell ⟨w.heap.size, 0, none⟩ (.int .i64 0)).setCell ⟨w.heap.size, 1, none⟩ (.int .i64 0)).setCell ⟨w.heap.size, 2, none⟩ (.string ⟨#[]⟩)).alloc (.cells #[.int .i64 0, .slice none 0 0, .int .i64 0] 33)) :=
     (((HB6.out.setCell (p := ⟨w.heap.size, 0, none⟩) (Nat.le_refl _) _).setCell (p := ⟨w.heap.size, 1, none⟩) (Nat.le_refl _) _).setCell (p := ⟨w.heap.size, 2, none⟩) (Nat.le_refl _) _).alloc (by simp; omega) _
    have HBL := hd hbl
    clear K5 hbl
    go_wp2
    refine ⟨rfl, .tuple #[.agg #[.int .i64 0, .int .i64 0, .string ⟨#[]⟩], .int .i64 12], by simp [results, Tryz.results6, go_sem, g0, g1, g2], HBL.out, ?_⟩
    rw [HVE.out]
    rfl
  · have K5 := (((HA6.out.set 0 (.int .i64 0)).set 1 (.int .i64 0)).set 2 (.string ⟨#[]⟩)).alloc (.cells #[.int .i64 0, .slice none 0 0, .int .i64 0] 33)
    have g0 := K5.cell 0
    have g1 := K5.cell 1
    have g2 := K5.cell 2
    simp at g0 g1 g2
    have hbl : Below w.heap.size w ((((w4.setCell ⟨w.heap.size, 0, none⟩ (.int .i64 0)).setCell ⟨w.heap.size, 1, none⟩ (.int .i64 0)).setCell ⟨w.heap.size, 2, none⟩ (.string ⟨#[]⟩)).alloc (.cells #[.int .i64 0, .slice none 0 0, .int .i64 0] 33)) :=
     (((HB6.out.setCell (p := ⟨w.heap.size, 0, none⟩) (Nat.le_refl _) _).setCell (p := ⟨w.heap.size, 1, none⟩) (Nat.le_refl _) _).setCell (p := ⟨w.heap.size, 2, none⟩) (Nat.le_refl _) _).alloc (by simp; omega) _
    have HBL := hd hbl
    clear K5 hbl
    go_wp2
    refine ⟨rfl, .tuple #[.agg #[.int .i64 0, .int .i64 0, .string ⟨#[]⟩], .int .i64 13], by simp [results, Tryz.results6, go_sem, g0, g1, g2], HBL.out, ?_⟩
    rw [HVE.out]
    rfl
end Tx
end
end Go.Proofs.YtaiebhhommgnbaaGreatDoor
