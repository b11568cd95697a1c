/- The contract of the document's own reader of what stands between two marks. -/
import Derived.Test.YtihchcoclncjdaaDoorRefD
namespace Go.Proofs.YtihchcoclncjdaaDoor
open Go.RowKit
set_option linter.unusedSimpArgs false
set_option linter.unusedVariables false

set_option maxRecDepth 100000 in
set_option maxHeartbeats 1000000 in
theorem between_any (s : ByteArray) (a : Nat) (w : World) (hs : s.size ≤ 1000000) (ha : a < s.size) :
    Calls Tryd.prog 28 #[.string s, .int .i64 a] w fun e w' => ∃ (t : ByteArray) (n : Int), e = .returned (.tuple #[.string t, .int .i64 n]) ∧ betwV (Lx.betw s[a] (s.data.toList.drop (a + 1))) a t n ∧ Below w.heap.size w w' := by
  obtain ⟨i0, hi, hz0, hz1, hz2⟩ := info_parts Tryd.info5
  go_enter Tryd.func28, Tryd.ntmps28
  go_wp2
  go_loopw [7, 8] (fun v i wr => ∃ (j : Nat) (acc : Lx.Bs), a + 1 ≤ j ∧ j ≤ s.size ∧ i = .int .i64 (j : Int) ∧ acc.length ≤ j - (a + 1) ∧ Hid (wr.ownsRow w.heap.size 5 1 v acc.length (acc.map byteV)) ∧ Hid (BetwAt s[a] (s.data.toList.drop (a + 1)) (j - (a + 1)) acc) ∧ Hid (Below w.heap.size w wr))
    (fun _ i _ => s.size - (intOf i).toNat)
  case atStart => exact ⟨a + 1, [], by omega, by omega, by go_num, by simp, World.ownsRow_nil _ _ _ _, by rw [Nat.sub_self]; exact BetwAt.start _ _, Below.refl _ _⟩
  case round =>
    obtain ⟨j, acc, hj1, hj2, rfl, hacc, HO, HB, HW⟩ := hrel
    have HD : Hid ((s.data.toList.drop (a + 1)).drop (j - (a + 1)) = s.data.toList.drop j) := by show _ = _; rw [List.drop_drop]; congr 1; omega
    have hsz := HW.out.size
    by_cases hlt : j < s.size
    · have HD1 : Hid ((s.data.toList.drop (a + 1)).drop (j - (a + 1)) = s[j] :: s.data.toList.drop (j + 1)) := HD.out.trans (drop_at s j hlt)
      by_cases hm : s[j] = s[a]
      · have t1 : ((s[j].toNat : Int) != (s[a].toNat : Int)) = false := by rw [hm]; simp
        have HM : Hid _ := hm
        clear hm
        by_cases hlt2 : j + 1 < s.size
        · have HD2 : Hid _ := drop_at s (j + 1) hlt2
          by_cases hm2 : s[j + 1] = s[a]
          · have t2 : ((s[j + 1].toNat : Int) == (s[a].toNat : Int)) = true := by rw [hm2]; simp
            have HM2 : Hid _ := hm2
            clear hm2
            go_wp2_with (at_builtin; refine wpList_append_own _ rfl _ _ 76 rfl w.heap.size 5 i0 (.int .u8 0) 1 1 Tryd.underlying76 hi hz0 hz1 hz2 rfl (by decide) _ _ _ rfl (HO.out.alloc _) ⟨wr.heap.size, 0, none⟩ 1 1 [byteV s[a]] rfl rfl ?d1 ?d2 ?d3 ?d4 ?d5 ?_)
            case d1 => exact (cell_one_new _ _ _)
            case d2 => intro u hu; simp at hu; subst hu; rfl
            case d3 => unfold maxLen; omega
            case d4 => omega
            case d5 => simp; omega
            · intro v' w1 hown' hgrow _
              have HN : Hid _ := And.intro hown' hgrow
              clear hown' hgrow
              go_wp2
              go_roundw
              case rel =>
                refine ⟨j + 2, acc ++ [s[a]], by omega, by omega, by go_num, by simp; omega, ?_, ?_, ?_⟩
                · have := HN.out.1; show World.ownsRow _ _ _ _ _ _ _; simpa using this
                · have h := HB.out.double (r := s.data.toList.drop (j + 2)) (by rw [HD1.out, HD2.out, HM.out, HM2.out])
                  show BetwAt _ _ _ _
                  rw [show j + 2 - (a + 1) = j - (a + 1) + 2 from by omega]; exact h
                · exact (HW.out.alloc hsz _).grown HN.out.2 (by simp; omega) (fun q hq => (HO.out.lt q hq).1)
              case measure => simp [intOf]; omega
          · have t2 : ((s[j + 1].toNat : Int) == (s[a].toNat : Int)) = false := by
              rw [beq_eq_false_iff_ne]; intro e; exact hm2 (UInt8.toNat_inj.1 (by omega))
            have HM2 : Hid _ := hm2
            clear hm2
            obtain ⟨t, hcv, ht⟩ := conv_own HO.out
            have HT : Hid _ := ht
            clear ht
            go_wp2
            go_ret2
            refine ⟨t, _, rfl, ?_, HW.out⟩
            rw [HB.out.last (r := s.data.toList.drop (j + 1)) (by rw [HD1.out, HM.out]) (by rw [HD2.out]; simpa using HM2.out)]
            exact ⟨HT.out, by omega⟩
        · obtain ⟨t, hcv, ht⟩ := conv_own HO.out
          have HT : Hid _ := ht
          clear ht
          go_wp2
          go_ret2
          refine ⟨t, _, rfl, ?_, HW.out⟩
          rw [HB.out.last (r := s.data.toList.drop (j + 1)) (by rw [HD1.out, HM.out]) (by rw [List.drop_eq_nil_of_le (by simp; have : s.data.size = s.size := rfl; omega)]; simp)]
          exact ⟨HT.out, by omega⟩
      · have t1 : ((s[j].toNat : Int) != (s[a].toNat : Int)) = true := by
          rw [bne_iff_ne]; intro e; exact hm (UInt8.toNat_inj.1 (by omega))
        have HM : Hid _ := hm
        clear hm
        go_wp2_with (at_builtin; refine wpList_append_own _ rfl _ _ 76 rfl w.heap.size 5 i0 (.int .u8 0) 1 1 Tryd.underlying76 hi hz0 hz1 hz2 rfl (by decide) _ _ _ rfl (HO.out.alloc _) ⟨wr.heap.size, 0, none⟩ 1 1 [byteV s[j]] rfl rfl ?c1 ?c2 ?c3 ?c4 ?c5 ?_)
        case c1 => exact (cell_one_new _ _ _)
        case c2 => intro u hu; simp at hu; subst hu; rfl
        case c3 => unfold maxLen; omega
        case c4 => omega
        case c5 => simp; omega
        · intro v' w1 hown' hgrow _
          have HN : Hid _ := And.intro hown' hgrow
          clear hown' hgrow
          go_wp2
          go_roundw
          case rel =>
            refine ⟨j + 1, acc ++ [s[j]], by omega, by omega, by go_num, by simp; omega, ?_, ?_, ?_⟩
            · have := HN.out.1; show World.ownsRow _ _ _ _ _ _ _; simpa using this
            · have h := HB.out.other HD1.out HM.out
              show BetwAt _ _ _ _
              rw [show j + 1 - (a + 1) = j - (a + 1) + 1 from by omega]; exact h
            · exact (HW.out.alloc hsz _).grown HN.out.2 (by simp; omega) (fun q hq => (HO.out.lt q hq).1)
          case measure => simp [intOf]; omega
    · go_wp2
      go_ret2
      refine ⟨ByteArray.empty, -1, rfl, ?_, HW.out⟩
      rw [HB.out.none (by rw [HD.out, List.drop_eq_nil_of_le (by simp; have : s.data.size = s.size := rfl; omega)])]
      exact ⟨rfl, rfl⟩
end Go.Proofs.YtihchcoclncjdaaDoor
