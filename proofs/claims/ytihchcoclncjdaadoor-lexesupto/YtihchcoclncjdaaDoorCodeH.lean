/- Contracts of the program's own Tokens: the reader's, and the face's. -/
import Derived.Test.YtihchcoclncjdaaDoorCodeG
import Derived.Recover
namespace Go.Proofs.YtihchcoclncjdaaDoor
open Go.RowKit
set_option linter.unusedSimpArgs false
set_option linter.unusedVariables false

theorem owns_base {w : World} {base base' : Nat} {e : TypeId} {size : Nat} {v : Value} {n : Nat} {xs : List Value} (h : w.ownsRow base e size v n xs) (hb : base' ≤ base) : w.ownsRow base' e size v n xs := by
  refine ⟨h.1, ?_⟩
  rcases h.2 with hn | ⟨g, cap, cur, hv, hg, r⟩
  · exact .inl hn
  · exact .inr ⟨g, cap, cur, hv, by omega, r⟩

theorem Rd.kept {w w' : World} {B : Nat} {s : ByteArray} {k st : Nat} {row : Option Nat} (h : Rd w B s k st) (hg : w.grownBy w' row) (hB : some B ≠ row) (hlow : ∀ q, row = some q → 6 ≤ q) : Rd w' B s k st := by
  have hr := h.env.room
  have hb : ∀ i, i < 6 → w'.heap[i]? = w.heap[i]? := fun i hi => hg.block i (by omega) (fun e => by have := hlow i e.symm; omega)
  refine ⟨?_, h.low, ⟨⟨fun c hc => ?_, fun i hi => ?_⟩, ?_, ?_, Nat.le_trans hr hg.size⟩, h.le, h.small⟩
  · have := h.blk
    unfold Blk at this ⊢
    rw [hg.block B h.blk.lt hB]; exact this
  · rw [World.cell?_of_block (w := w) (hb _ (by simp))]; exact h.env.tabs.1 c hc
  · rw [World.cell?_of_block (w := w) (hb _ (by simp)), World.cell?_of_block (w := w) (hb _ (by simp))]; exact h.env.tabs.2 i hi
  · rw [hb _ (by simp)]; exact h.env.kws
  · rw [hb _ (by simp)]; exact h.env.sgs

/-- What the reader's Tokens says of a text. -/
def RTok (r : Except (Nat × Nat) (List Lx.Tok)) (w : World) (e : Ending) (w' : World) : Prop :=
  Below w.heap.size w w' ∧ match r with
  | .error (p, c) => e = .panicked [{ v := .iface 58 (.agg #[.int .i64 (p : Int), .int .i64 (c : Int)]), recovered := false }]
  | .ok ts => ∃ v, e = .returned v ∧ w'.ownsRow w.heap.size 43 3 v ts.length (toksV ts)

set_option maxRecDepth 100000 in
set_option maxHeartbeats 2000000 in
theorem rdTokens_any (s : ByteArray) (w : World) (he : Env w) (hm : s.size ≤ maxLen) :
    Calls Tryd.prog 13 #[.string s] w (RTok (Lx.lex s.data.toList) w) := by
  unfold maxLen at hm
  obtain ⟨i0, hi, hz0, hz1, hz2⟩ := info_parts Tryd.info43
  have HSL := hd (Lib.size_eq s).symm
  by_cases hlong : 2000 < s.size
  · have HL : Hid (Lx.lex s.data.toList = .error (0, 1)) := by show _ = _; unfold Lx.lex; rw [if_pos (by rw [HSL.out]; exact hlong)]
    go_enter Tryd.func13, Tryd.ntmps13
    go_wp2_with fail
    refine ⟨rfl, Below.refl _ _, ?_⟩
    rw [HL.out]
    rfl
  · have HL : Hid (Lx.lex s.data.toList = Lx.lexM 0 (Lx.skipN s.data.toList) (s.data.toList.drop (Lx.skipN s.data.toList))) := by show _ = _; unfold Lx.lex; rw [if_neg (by rw [HSL.out]; exact hlong)]
    have hroom := he.room
    have HE := hd he
    clear he
    go_enter Tryd.func13, Tryd.ntmps13
    go_wp2_with fail
    go_loopw [4] (fun v wr => ∃ (j : Nat) (ts : List Lx.Tok) (st : Nat), Hid (Rd wr w.heap.size s j st) ∧ Hid (wr.ownsRow (w.heap.size + 1) 43 3 v ts.length (toksV ts)) ∧ Hid (LexAt s.data.toList (j + Lx.skipN (s.data.toList.drop j)) ts) ∧ ts.length ≤ j ∧ Hid (Below w.heap.size w wr)) (fun _ wr => s.size - atOf wr w.heap.size)
    case atStart =>
      refine ⟨0, [], 0, ⟨Blk.new _ _ _, hroom, HE.out.below ((Below.refl _ _).alloc (Nat.le_refl _) _), by omega, by omega⟩, World.ownsRow_nil _ _ _ _, ?_, by simp, (Below.refl _ _).alloc (Nat.le_refl _) _⟩
      rw [List.drop_zero, Nat.zero_add]; exact LexAt.start _
    case round =>
      obtain ⟨j, ts, st, HR, HO, HX, hts, HW⟩ := hrel
      have hjle := HR.out.le
      go_wp2_with fail
      refine (pass_any wr w.heap.size s j st HR.out).mono ?_
      rintro e w1 ⟨rfl, h1, g1⟩
      have HW1 : Hid (Below w.heap.size w w1) := HW.out.grown g1 HW.out.size (fun q hq => by simp at hq; omega)
      have HO1 : Hid (w1.ownsRow (w.heap.size + 1) 43 3 u4 ts.length (toksV ts)) := HO.out.kept g1 (by
        cases hv : u4.ownBlock with
        | none => exact .inl rfl
        | some g => right; have := (HO.out.lt g hv).1; simp; omega)
      have hg1 := g1.size
      clear g1
      have hkle := h1.le
      generalize hkk : j + Lx.skipN (s.data.toList.drop j) = k at *
      have HKK := hd hkk
      clear hkk
      by_cases hlt : k < s.size
      · go_wp2_with fail
        refine (next_any w1 w.heap.size s k st h1 hlt).mono ?_
        rintro e w2 ⟨g2, ht⟩
        have HW2 : Hid (Below w.heap.size w w2) := HW1.out.grown g2 HW1.out.size (fun q hq => by simp at hq; omega)
        have HO2 : Hid (w2.ownsRow (w.heap.size + 1) 43 3 u4 ts.length (toksV ts)) := HO1.out.kept g2 (by
          cases hv : u4.ownBlock with
          | none => exact .inl rfl
          | some g => right; have := (HO1.out.lt g hv).1; simp; omega)
        have hg2 := g2.size
        clear g2
        rcases hone : Lx.oneT (s.data.toList.drop k) with c | ⟨c, t, n⟩
        · rw [hone] at ht
          simp only at ht
          subst ht
          refine ⟨rfl, HW2.out, ?_⟩
          rw [HL.out, HX.out.fail (by rw [HSL.out]; exact hlt) hone]
        · rw [hone] at ht
          obtain ⟨tv, htv, rfl, h2⟩ := ht
          have hlen := Lx.oneT_len hone
          simp only [List.length_drop] at hlen
          rw [HSL.out] at hlen
          have HS := hd (HX.out.step (by rw [HSL.out]; exact hlt) hone)
          have HT : Hid (tv = ⟨t.toArray⟩) := by rw [← htv]; exact (Lib.mk_data tv).symm
          have hzw := HW2.out.size
          have hBlt : w.heap.size < w2.heap.size := h2.blk.lt
          clear hone htv
          go_wp2_with (first
            | (at_builtin; refine wpList_append_own _ rfl _ _ 33 rfl (w.heap.size + 1) 43 i0 (.agg #[.int .i64 0, .string ⟨#[]⟩, .int .i64 0]) 3 32 Tryd.underlying33 hi hz0 hz1 hz2 rfl (by decide) _ _ _ rfl (HO2.out.alloc _) ⟨w2.heap.size, 0, none⟩ 1 1 [.int .i64 (c : Int), .string tv, .int .i64 (k : Int)] rfl rfl ?c1 ?c2 ?c3 ?c4 ?c5 ?_)
            | fail)
          case c1 => exact three_news w2 _ _ _ _ _ rfl
          case c2 => intro u hu; simp at hu; rcases hu with rfl | rfl | rfl <;> rfl
          case c3 => unfold maxLen; omega
          case c4 => omega
          case c5 => simp; omega
          intro v' w3 hown' hgrow _
          have HO3 : Hid (w3.ownsRow (w.heap.size + 1) 43 3 v' (ts ++ [Lx.Tok.mk c t k]).length (toksV (ts ++ [Lx.Tok.mk c t k]))) := by
            rw [List.length_append, List.length_singleton, toksV_append, toksV_one]
            show World.ownsRow _ _ _ _ _ _ _
            unfold tokV
            rw [← HT.out]; exact hown'
          have HW3 : Hid (Below w.heap.size w w3) := ((HW2.out.alloc hzw _)).grown hgrow (by simp; omega) (fun q hq => by have := (HO2.out.lt q hq).1; omega)
          have h3 : Rd w3 w.heap.size s (k + n) k := (h2.below ((Below.refl _ _).alloc (Nat.le_refl _) _)).kept hgrow (by
            cases hv : u4.ownBlock with
            | none => simp
            | some g => have := (HO2.out.lt g hv).1; simp; omega) (by
            intro q hq; have := (HO2.out.lt q hq).1; omega)
          clear hown' hgrow
          go_wp2_with fail
          go_roundw
          case rel => exact ⟨k + n, ts ++ [Lx.Tok.mk c t k], k, h3, HO3, HS, by simp; have := HKK.out; omega, HW3⟩
          case measure => rw [h3.atOf, HR.out.atOf]; have := HKK.out; omega
      · go_wp2_with fail
        go_ret
        refine ⟨HW1.out, ?_⟩
        rw [HL.out, HX.out.done (by rw [HSL.out]; omega)]
        exact ⟨_, rfl, owns_base HO1.out (by omega)⟩

end Go.Proofs.YtihchcoclncjdaaDoor
