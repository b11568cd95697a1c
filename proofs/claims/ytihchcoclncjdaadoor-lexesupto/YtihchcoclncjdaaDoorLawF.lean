/- The statement's own tokensOf. -/
import Derived.Test.YtihchcoclncjdaaDoorLawE
import Derived.Test.YtihchcoclncjdaaDoorCodeI
namespace Go.Proofs.YtihchcoclncjdaaDoor
open Go.RowKit
set_option linter.unusedSimpArgs false
set_option linter.unusedVariables false

/-- How many tokens a text has. -/
theorem lex_len {l : Lx.Bs} {ts : List Lx.Tok} (h : Lx.lex l = .ok ts) : ts.length ≤ 2000 := by
  have key : ∀ (n : Nat) (l : Lx.Bs) (p : Nat) (ts : List Lx.Tok), l.length ≤ n → Lx.lexM 0 p l = .ok ts → ts.length ≤ l.length := by
    intro n
    induction n with
    | zero =>
      intro l p ts hl h
      have : l = [] := List.length_eq_zero_iff.1 (by omega)
      subst this
      simp [Lx.lexM] at h; subst h; simp
    | succ n ih =>
      intro l p ts hl h
      match l, hl, h with
      | [], _, h => simp [Lx.lexM] at h; subst h; simp
      | b :: r, hl, h =>
        rw [Lx.lexM_cons] at h
        split at h
        · cases h
        · rename_i k t m ho
          have hlen := Lx.oneT_len ho
          split at h
          · rename_i ts' hr
            simp only [Except.ok.injEq] at h
            subst h
            have := ih _ _ _ (by simp at hl hlen ⊢; omega) hr
            simp at this hlen ⊢; omega
          · cases h
  unfold Lx.lex at h
  split at h
  · cases h
  · rename_i hl
    have := key _ _ _ _ (Nat.le_refl _) h
    simp at this hl
    omega

/-- What 'tokensOf' leaves: the book with four lists more. -/
def TokOfV (w : World) (base b : Nat) (es : List En) (nx : Int) (w' : World) : Prop :=
  ∃ (es' : List En) (tv' mv' : Value), es'.length = es.length + 4 ∧ Bk w' base b es' (es'.map (·.v)) (es'.map fun e => .int .i64 e.m) (nx - 1) tv' mv' ∧ Below base w w'

set_option maxRecDepth 100000 in
set_option maxHeartbeats 2000000 in
theorem tokensOf_any (w : World) (base b : Nat) (es : List En) (nx : Int) (tv mv : Value) (h : Bk w base b es (es.map (·.v)) (es.map fun e => .int .i64 e.m) nx tv mv) (s : ByteArray) (he : Env w) (hm : s.size ≤ maxLen)
    (hN : es.length ≤ 10000000) (hx1 : -100000000 ≤ nx) (hx2 : nx ≤ 0) (hbw : base ≤ w.heap.size) :
    Calls Tryd.prog 4 #[.pointer (some ⟨b, 0, none⟩), .string s] w fun e w' => e = .returned (.bool true) ∧ TokOfV w base b es nx w' := by
  have HLen : Hid (∀ ts, Lx.lex s.data.toList = .ok ts → ts.length ≤ 2000) := fun ts q => lex_len q
  generalize hr : Lx.lex s.data.toList = r at *
  have HR := hd hr
  clear hr
  have hes : ∀ e ∈ es, ∀ g, e.v.ownBlock = some g → g < w.heap.size := fun e he g hg => ((h.full e he).1.lt g hg).1
  have HES := hd hes
  clear hes
  go_enter Tryd.func4, Tryd.ntmps4
  go_wp2_with fail
  refine (cTokens_any s w he hm).mono ?_
  rintro e w1 ⟨v, n, c, rfl, ht1, hb1⟩
  rw [HR.out] at ht1
  go_wp2_with fail
  refine (rTokens_any s w1 hm).mono ?_
  rintro e w2 ⟨v2, n2, c2, rfl, ht2, hb2⟩
  rw [HR.out] at ht2
  have HB2 : Hid (Below w.heap.size w w2) := hb1.trans (hb2.mono hb1.size)
  have hsz2 := HB2.out.size
  -- both lists hold the same tokens
  have hboth : ∃ ts : List Lx.Tok, ts.length ≤ 2000 ∧ w2.ownsRow w.heap.size 43 3 v ts.length (toksV ts) ∧ w2.ownsRow w.heap.size 43 3 v2 ts.length (toksV ts) ∧ n = n2 ∧ c = c2 := by
    rcases r with ⟨p, e⟩ | ts
    · obtain ⟨rfl, rfl, rfl⟩ := ht1
      obtain ⟨rfl, rfl, rfl⟩ := ht2
      exact ⟨[], by simp, World.ownsRow_nil _ _ _ _, World.ownsRow_nil _ _ _ _, rfl, rfl⟩
    · obtain ⟨o1, rfl, rfl⟩ := ht1
      obtain ⟨o2, rfl, rfl⟩ := ht2
      exact ⟨ts, HLen.out ts rfl, owns_below o1 hb2, owns_base o2 hb1.size, rfl, rfl⟩
  obtain ⟨ts, htl, O1, O2, rfl, rfl⟩ := hboth
  clear ht1 ht2 hb1 hb2
  have hB2 := h.below HB2.out
  go_wp2_with fail
  refine (same_any v v2 ts _ _ w2 htl O1 O2).mono ?_
  rintro e w3 ⟨rfl, hh3, hb3⟩
  have hB3 := hB2.below hb3
  have O3 := owns_below O1 hb3
  have HL3 : Hid (Below base w w3) := (HB2.out.mono hbw).trans (hb3.mono (by omega))
  have hsz3 := hb3.size
  clear hh3 hb3
  go_wp2_with fail
  refine (owns_any w3 base b es _ _ nx tv mv hB3 v ts.length _ htl (owns_base O3 hbw) (fun e he g hg => ?_) (by simpa using hN) (by simpa using hN) hx1 hx2 (by omega)).mono ?_
  · intro q
    have := (O3.lt g q).1
    have := HES.out e he g hg
    omega
  rintro e w4 ⟨rfl, one, two, three, tv', mv', hB4, hb4⟩
  go_wp2_with (go_at_call 10; refine (num_any _ _).mono ?_; rintro e w' ⟨rfl, rfl⟩)
  go_ret
  exact ⟨rfl, es ++ [⟨v, nx - 1, ts.length⟩, ⟨one, nx - 1, ts.length + 1⟩, ⟨two, nx - 1, ts.length + 2⟩, ⟨three, nx - 1, ts.length + 3⟩], tv', mv', by simp, by rw [List.map_append, List.map_append]; exact hB4, HL3.out.trans hb4⟩

/-- The state of the loop of the statement. -/
structure Lst (W : World) (k : Nat) (wr : World) : Prop where
  book : ∃ (es : List En) (tv mv : Value), Bk wr W.heap.size W.heap.size es (es.map (·.v)) (es.map fun e => .int .i64 e.m) (-(k : Int)) tv mv ∧ es.length = 4 * k
  below : Below W.heap.size W wr

set_option maxRecDepth 100000 in
set_option maxHeartbeats 2000000 in
theorem lexes_any (W : World) (ao : Option Addr) (len cap : Nat) (ss : List ByteArray) (he : Env W) (hlen : len ≤ 1048576) (hl2 : len ≤ ss.length)
    (hcells : ∀ i, i < len → ∃ a off, ao = some ⟨a, off, none⟩ ∧ a < W.heap.size ∧ W.cell? ⟨a, off + i, none⟩ = some (.string (ss.getD i ByteArray.empty))) (hsz : ∀ i, (ss.getD i ByteArray.empty).size ≤ maxLen) :
    Calls Tryd.prog 3 #[.slice ao len cap] W fun e w' => e = .returned (.bool true) ∧ Below W.heap.size W w' := by
  have HE := hd he
  have HC := hd hcells
  have HZ := hd hsz
  clear he hcells hsz
  go_enter Tryd.func3, Tryd.ntmps3
  go_wp2
  go_loopw [4] (fun i wr => ∃ k : Nat, k ≤ len ∧ i = .int .i64 k ∧ Hid (Lst W k wr)) (fun i _ => len - (intOf i).toNat)
  case atStart =>
    refine ⟨0, by omega, rfl, ⟨[], .slice none 0 0, .slice none 0 0, ⟨Blk.new _ _ _, Nat.le_refl _, World.ownsRow_nil _ _ _ _, World.ownsRow_nil _ _ _ _, by simp, by simp⟩, rfl⟩, (Below.refl _ _).alloc (Nat.le_refl _) _⟩
  case round =>
    obtain ⟨k, hk, rfl, HL⟩ := hrel
    by_cases hlt : k < len
    · obtain ⟨a, off, hao, halt, hcell⟩ := HC.out k hlt
      obtain ⟨es, tv, mv, hB, hel⟩ := HL.out.book
      have hbel := HL.out.below
      have hc1 : wr.cell? ⟨a, off + k, none⟩ = some (.string (ss.getD k ByteArray.empty)) := (hbel.cell (p := ⟨a, off + k, none⟩) halt).trans hcell
      have hz1 := HZ.out k
      generalize ss.getD k ByteArray.empty = s at *
      have henv := HE.out.below hbel
      have hwsz := hbel.size
      have HEL := hd hel
      have hel2 : es.length ≤ 4194304 := by omega
      rw [hao]
      clear hcell hel
      go_wp2_with fail
      refine (tokensOf_any wr W.heap.size W.heap.size es (-(k : Int)) tv mv hB s henv hz1 (by omega) (by omega) (by omega) hwsz).mono ?_
      rintro e w1 ⟨rfl, es', tv', mv', hel1, hB1, hb1⟩
      go_wp2_with fail
      refine (looks_any w1 W.heap.size W.heap.size es' (-(k : Int) - 1) tv' mv' hB1 (by omega) (by omega)).mono ?_
      rintro e w2 ⟨rfl, hh2, hb2⟩
      have hb1s := hb1.size
      have hB2 := hB1.below hb2
      have hLst : Lst W (k + 1) w2 := by
        refine ⟨⟨es', tv', mv', ?_, by have := HEL.out; omega⟩, (hbel.trans hb1).trans (hb2.mono (by omega))⟩
        rw [show (-((k + 1 : Nat) : Int)) = -(k : Int) - 1 from by omega]
        exact hB2
      clear hB1 hB2 hb1 hb2 hh2 hB hel1
      go_wp2
      go_roundw
      case rel => exact ⟨k + 1, by omega, by go_num, hLst⟩
      case measure => simp [intOf]; omega
    · go_wp2
      go_ret
      exact ⟨rfl, HL.out.below⟩

end Go.Proofs.YtihchcoclncjdaaDoor
