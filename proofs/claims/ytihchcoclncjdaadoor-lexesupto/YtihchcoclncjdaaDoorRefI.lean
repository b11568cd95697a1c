/- The contract of the document's own Tokens. -/
import Derived.Test.YtihchcoclncjdaaDoorRefH
namespace Go.Proofs.YtihchcoclncjdaaDoor
open Go.RowKit
set_option linter.unusedSimpArgs false
set_option linter.unusedVariables false

theorem skip_at (s : ByteArray) (k n : Nat) (w : World) (hs : s.size ≤ 1000000000) (ha : k + n ≤ s.size) :
    Calls Tryd.prog 14 #[.string s, .int .i64 ((k : Int) + (n : Int))] w fun e w' => e = .returned (.int .i64 (k + n + Lx.skipN (s.data.toList.drop (k + n)) : Nat)) ∧ w' = w :=
  skip_any s (k + n) w hs ha

set_option maxRecDepth 100000 in
set_option maxHeartbeats 1000000 in
theorem rTokens_any (s : ByteArray) (w : World) (hm : s.size ≤ maxLen) :
    Calls Tryd.prog 7 #[.string s] w fun e w' => ∃ (v : Value) (n c : Int), e = .returned (.tuple #[v, .int .i64 n, .int .i64 c]) ∧ TokV (Lx.lex s.data.toList) w.heap.size w' v n c ∧ Below w.heap.size w w' := by
  unfold maxLen at hm
  obtain ⟨i0, hi, hz0, hz1, hz2⟩ := info_parts Tryd.info43
  have hsl : s.data.toList.length = s.size := (Lib.size_eq s).symm
  have HSL : Hid _ := hsl
  clear hsl
  by_cases hlong : 2000 < s.size
  · have HL : Hid (Lx.lex s.data.toList = .error (0, 1)) := by show _ = _; unfold Lx.lex; rw [if_pos (by rw [HSL.out]; exact hlong)]
    go_enter Tryd.func7, Tryd.ntmps7
    go_wp2_with fail
    go_ret3
    refine ⟨_, _, _, rfl, ?_, Below.refl _ _⟩
    rw [HL.out]
    exact ⟨rfl, rfl, rfl⟩
  · have HL : Hid (Lx.lex s.data.toList = Lx.lexM 0 (Lx.skipN s.data.toList) (s.data.toList.drop (Lx.skipN s.data.toList))) := by show _ = _; unfold Lx.lex; rw [if_neg (by rw [HSL.out]; exact hlong)]
    have hsk := Lx.skipN_le s.data.toList
    rw [HSL.out] at hsk
    go_enter Tryd.func7, Tryd.ntmps7
    go_wp2_with fail
    refine (skip_any s 0 _ (by omega) (by omega)).mono ?_
    rintro e w' ⟨rfl, rfl⟩
    rw [List.drop_zero, Nat.zero_add]
    go_wp2_with fail
    go_loopw [5, 6] (fun v i wr => ∃ (k : Nat) (ts : List Lx.Tok), k ≤ s.size ∧ i = .int .i64 (k : Int) ∧ ts.length ≤ 2000 ∧ Hid (wr.ownsRow w'.heap.size 43 3 v ts.length (toksV ts)) ∧ Hid (LexAt s.data.toList k ts) ∧ Hid (Below w'.heap.size w' wr))
      (fun _ i _ => s.size - (intOf i).toNat)
    case atStart => exact ⟨_, [], hsk, rfl, by simp, World.ownsRow_nil _ _ _ _, LexAt.start _, Below.refl _ _⟩
    case round =>
      obtain ⟨k, ts, hk, rfl, hts, HO, HB, HW⟩ := hrel
      by_cases hlt : k < s.size
      · go_wp2_with fail
        have h1 := one_any s k wr (by omega) hlt
        unfold OneSays at h1
        refine h1.mono ?_
        clear h1
        rintro e w1 ⟨kv, tv, pv, en, ec, rfl, hov, hb1⟩
        have HW1 : Hid (Below w'.heap.size w' w1) := HW.out.trans (hb1.mono HW.out.size)
        have HO1 : Hid (w1.ownsRow w'.heap.size 43 3 u5 ts.length (toksV ts)) := owns_below HO.out hb1
        clear hb1
        rcases hone : Lx.oneT (s.data.toList.drop k) with c | ⟨c, t, n⟩
        · rw [hone] at hov
          obtain ⟨rfl, hc0⟩ := hov
          have hc1 : ((c : Int) != 0) = true := by rw [bne_iff_ne]; omega
          have HE : Hid _ := HB.out.fail (by rw [HSL.out]; exact hlt) hone
          clear hone
          go_wp2_with fail
          go_ret3
          refine ⟨_, _, _, rfl, ?_, HW1.out.alloc (HW1.out.size) _⟩
          rw [HL.out, HE.out]
          exact ⟨rfl, rfl, rfl⟩
        · rw [hone] at hov
          obtain ⟨rfl, rfl, ht, rfl, rfl⟩ := hov
          have hlen := Lx.oneT_len hone
          simp only [List.length_drop] at hlen
          rw [HSL.out] at hlen
          have HS := hd (HB.out.step (by rw [HSL.out]; exact hlt) hone)
          have HT : Hid (tv = ⟨t.toArray⟩) := by rw [← ht]; exact (Lib.mk_data tv).symm
          have hsk2 := Lx.skipN_le (s.data.toList.drop (k + n))
          simp only [List.length_drop] at hsk2
          rw [HSL.out] at hsk2
          have hzw := HW1.out.size
          have HTS : Hid (ts.length ≤ k) := HB.out.1
          clear hone ht
          go_wp2_with (first
            | (at_builtin; refine wpList_append_own _ rfl _ _ 33 rfl w'.heap.size 43 i0 (.agg #[.int .i64 0, .string ⟨#[]⟩, .int .i64 0]) 3 32 Tryd.underlying33 hi hz0 hz1 hz2 rfl (by decide) _ _ _ rfl ((HO1.out.alloc _).alloc _) ⟨w1.heap.size + 1, 0, none⟩ 1 1 [.int .i64 (c : Int), .string tv, .int .i64 (k : Int)] rfl rfl ?c1 ?c2 ?c3 ?c4 ?c5 ?_)
            | fail)
          case c1 => exact three_news (w1.alloc _) _ _ _ _ _ (by simp)
          case c2 => intro u hu; simp at hu; rcases hu with rfl | rfl | rfl <;> rfl
          case c3 => have := HTS.out; unfold maxLen; omega
          case c4 => have := HTS.out; omega
          case c5 => simp; omega
          intro v' w2 hown' hgrow _
          have HO2 : Hid (w2.ownsRow w'.heap.size 43 3 v' (ts ++ [Lx.Tok.mk c t k]).length (toksV (ts ++ [Lx.Tok.mk c t k]))) := by
            rw [List.length_append, List.length_singleton, toksV_append, toksV_one]
            show World.ownsRow _ _ _ _ _ _ _
            unfold tokV
            rw [← HT.out]; exact hown'
          have HW2 : Hid (Below w'.heap.size w' w2) := ((HW1.out.alloc hzw _).alloc (by simp; omega) _).grown hgrow (by simp; omega) (fun q hq => (HO1.out.lt q hq).1)
          clear hown' hgrow
          go_wp2_with fail
          refine (skip_at s k n _ (by omega) (by omega)).mono ?_
          rintro e w3 ⟨rfl, rfl⟩
          go_wp2_with fail
          go_roundw
          case rel => exact ⟨_, ts ++ [Lx.Tok.mk c t k], by omega, rfl, by have := HTS.out; simp; omega, HO2, HS, HW2⟩
          case measure => simp [intOf]; omega
      · go_wp2_with fail
        go_ret3
        refine ⟨_, _, _, rfl, ?_, HW.out⟩
        rw [HL.out, HB.out.done (by rw [HSL.out]; omega)]
        exact ⟨HO.out, rfl, rfl⟩
end Go.Proofs.YtihchcoclncjdaaDoor
