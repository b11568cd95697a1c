/- The contract of the document's own reader of what stands between two marks. -/
import Derived.Test.YtneinfnadiedmaaDoorRefD
namespace Go.Proofs.YtneinfnadiedmaaDoor
open Go.RowKit
set_option linter.unusedSimpArgs false
set_option linter.unusedVariables false

/-- A byte as a value. -/
def byteV (b : UInt8) : Value := .int .u8 (b.toNat : Int)

theorem Tryd.info5 : (Tryd.prog.info? 5).map (fun i => (i.zero, i.size, i.bytes)) = some (some (.int .u8 0), 1, 1) := by kernel_rfl

theorem conv_own {w : World} {base : Nat} {v : Value} {acc : Lx.Bs} (h : w.ownsRow base 5 1 v acc.length (acc.map byteV)) :
    ∃ t : ByteArray, (convert 76 9 v).run Tryd.prog w = .ok (.string t) w ∧ t.data.toList = acc := by
  rcases h.2 with ⟨rfl, hn⟩ | ⟨g, cap, cur, rfl, _, hg, hn, _, _, htake⟩
  · have : acc = [] := List.length_eq_zero_iff.1 hn
    subst this
    refine ⟨ByteArray.empty, ?_, rfl⟩
    rw [run_convert_bytes_string w 76 9 5 none 0 0 Tryd.underlying76 Tryd.underlying5 Tryd.underlying9]
    rfl
  · refine ⟨⟨acc.toArray⟩, ?_, by simp⟩
    refine run_convert_bytes_back (P := Tryd.prog) w 76 9 5 ⟨g, 0, none⟩ cap acc Tryd.underlying76 Tryd.underlying5 Tryd.underlying9 ?_
    intro j hj
    refine h.cells (g := g) rfl j _ ?_
    simp [List.getElem?_eq_getElem hj, byteV]

theorem betw_other (m : UInt8) (b : UInt8) (r : Lx.Bs) (h : b ≠ m) : Lx.betw m (b :: r) = (Lx.betw m r).map (fun x => (b :: x.1, x.2 + 1)) := by
  cases r with
  | nil => simp [Lx.betw, h]
  | cons c r => simp [Lx.betw, h]

/-- What has been read so far of what stands between. -/
def BetwAt (m : UInt8) (l : Lx.Bs) (k : Nat) (acc : Lx.Bs) : Prop :=
  Lx.betw m l = (Lx.betw m (l.drop k)).map (fun x => (acc ++ x.1, x.2 + k)) ∧ acc.length ≤ k

theorem BetwAt.start (m : UInt8) (l : Lx.Bs) : BetwAt m l 0 [] := by
  unfold BetwAt
  simp

theorem BetwAt.other {m : UInt8} {l : Lx.Bs} {k : Nat} {acc : Lx.Bs} {b : UInt8} {r : Lx.Bs} (h : BetwAt m l k acc) (e : l.drop k = b :: r) (hb : b ≠ m) : BetwAt m l (k + 1) (acc ++ [b]) := by
  unfold BetwAt at *
  have e2 : l.drop (k + 1) = r := by rw [← List.drop_drop, e]; rfl
  refine ⟨?_, by simp; omega⟩
  rw [h.1, e, betw_other m b r hb, e2, Option.map_map]
  congr 1
  funext x
  simp; omega

theorem BetwAt.double {m : UInt8} {l : Lx.Bs} {k : Nat} {acc : Lx.Bs} {r : Lx.Bs} (h : BetwAt m l k acc) (e : l.drop k = m :: m :: r) : BetwAt m l (k + 2) (acc ++ [m]) := by
  unfold BetwAt at *
  have e2 : l.drop (k + 2) = r := by rw [← List.drop_drop, e]; rfl
  refine ⟨?_, by simp; omega⟩
  rw [h.1, e, e2]
  simp only [Lx.betw, if_true, Option.map_map]
  congr 1
  funext x
  simp; omega

theorem BetwAt.last {m : UInt8} {l : Lx.Bs} {k : Nat} {acc : Lx.Bs} {r : Lx.Bs} (h : BetwAt m l k acc) (e : l.drop k = m :: r) (hr : r.head? ≠ some m) : Lx.betw m l = some (acc, k + 1) := by
  unfold BetwAt at *
  rw [h.1, e]
  cases r with
  | nil => simp [Lx.betw]; omega
  | cons c r =>
    have : c ≠ m := by simpa using hr
    simp [Lx.betw, this]; omega

theorem BetwAt.none {m : UInt8} {l : Lx.Bs} {k : Nat} {acc : Lx.Bs} (h : BetwAt m l k acc) (e : l.drop k = []) : Lx.betw m l = none := by
  unfold BetwAt at *
  rw [h.1, e]
  rfl

/-- What 'between' answers. -/
def betwV (r : Option (Lx.Bs × Nat)) (a : Nat) (t : ByteArray) (n : Int) : Prop :=
  match r with
  | some (x, k) => t.data.toList = x ∧ n = (a + 1 + k : Nat)
  | none => t.data.toList = [] ∧ n = -1

set_option maxRecDepth 100000 in
set_option maxHeartbeats 1000000 in
theorem between_any (s : ByteArray) (a : Nat) (w : World) (hs : s.size ≤ 1000000) (ha : a < s.size) :
    Calls Tryd.prog 28 #[.string s, .int .i64 a] w fun e w' => ∃ (t : ByteArray) (n : Int), e = .returned (.tuple #[.string t, .int .i64 n]) ∧ betwV (Lx.betw s[a] (s.data.toList.drop (a + 1))) a t n ∧ Below w.heap.size w w' := by
  obtain ⟨i0, hi, hz0, hz1, hz2⟩ := info_parts Tryd.info5
  go_enter Tryd.func28, Tryd.ntmps28
  go_wp2
  go_loopw [7, 8] (fun v i wr => ∃ (j : Nat) (acc : Lx.Bs), a + 1 ≤ j ∧ j ≤ s.size ∧ i = .int .i64 (j : Int) ∧ acc.length ≤ j - (a + 1) ∧ Hid (wr.ownsRow w.heap.size 5 1 v acc.length (acc.map byteV)) ∧ Hid (BetwAt s[a] (s.data.toList.drop (a + 1)) (j - (a + 1)) acc) ∧ Hid (Below w.heap.size w wr))
    (fun _ i _ => s.size - (intOf i).toNat)
  case atStart => exact ⟨a + 1, [], by omega, by omega, by go_num, by simp, World.ownsRow_nil _ _ _ _, by rw [Nat.sub_self]; exact BetwAt.start _ _, Below.refl _ _⟩
  case round =>
    obtain ⟨j, acc, hj1, hj2, rfl, hacc, HO, HB, HW⟩ := hrel
    have HD : Hid ((s.data.toList.drop (a + 1)).drop (j - (a + 1)) = s.data.toList.drop j) := by show _ = _; rw [List.drop_drop]; congr 1; omega
    have hsz := HW.out.size
    by_cases hlt : j < s.size
    · have HD1 : Hid ((s.data.toList.drop (a + 1)).drop (j - (a + 1)) = s[j] :: s.data.toList.drop (j + 1)) := HD.out.trans (drop_at s j hlt)
      by_cases hm : s[j] = s[a]
      · have t1 : ((s[j].toNat : Int) != (s[a].toNat : Int)) = false := by rw [hm]; simp
        have HM : Hid _ := hm
        clear hm
        by_cases hlt2 : j + 1 < s.size
        · have HD2 : Hid _ := drop_at s (j + 1) hlt2
          by_cases hm2 : s[j + 1] = s[a]
          · have t2 : ((s[j + 1].toNat : Int) == (s[a].toNat : Int)) = true := by rw [hm2]; simp
            have HM2 : Hid _ := hm2
            clear hm2
            go_wp2_with (at_builtin; refine wpList_append_own _ rfl _ _ 76 rfl w.heap.size 5 i0 (.int .u8 0) 1 1 Tryd.underlying76 hi hz0 hz1 hz2 rfl (by decide) _ _ _ rfl (HO.out.alloc _) ⟨wr.heap.size, 0, none⟩ 1 1 [byteV s[a]] rfl rfl ?d1 ?d2 ?d3 ?d4 ?d5 ?_)
            case d1 => exact (cell_one_new _ _ _)
            case d2 => intro u hu; simp at hu; subst hu; rfl
            case d3 => unfold maxLen; omega
            case d4 => omega
            case d5 => simp; omega
            · intro v' w1 hown' hgrow _
              have HN : Hid _ := And.intro hown' hgrow
              clear hown' hgrow
              go_wp2
              go_roundw
              case rel =>
                refine ⟨j + 2, acc ++ [s[a]], by omega, by omega, by go_num, by simp; omega, ?_, ?_, ?_⟩
                · have := HN.out.1; show World.ownsRow _ _ _ _ _ _ _; simpa using this
                · have h := HB.out.double (r := s.data.toList.drop (j + 2)) (by rw [HD1.out, HD2.out, HM.out, HM2.out])
                  show BetwAt _ _ _ _
                  rw [show j + 2 - (a + 1) = j - (a + 1) + 2 from by omega]; exact h
                · exact (HW.out.alloc hsz _).grown HN.out.2 (by simp; omega) (fun q hq => (HO.out.lt q hq).1)
              case measure => simp [intOf]; omega
          · have t2 : ((s[j + 1].toNat : Int) == (s[a].toNat : Int)) = false := by
              rw [beq_eq_false_iff_ne]; intro e; exact hm2 (UInt8.toNat_inj.1 (by omega))
            have HM2 : Hid _ := hm2
            clear hm2
            obtain ⟨t, hcv, ht⟩ := conv_own HO.out
            have HT : Hid _ := ht
            clear ht
            go_wp2
            go_ret2
            refine ⟨t, _, rfl, ?_, HW.out⟩
            rw [HB.out.last (r := s.data.toList.drop (j + 1)) (by rw [HD1.out, HM.out]) (by rw [HD2.out]; simpa using HM2.out)]
            exact ⟨HT.out, by omega⟩
        · obtain ⟨t, hcv, ht⟩ := conv_own HO.out
          have HT : Hid _ := ht
          clear ht
          go_wp2
          go_ret2
          refine ⟨t, _, rfl, ?_, HW.out⟩
          rw [HB.out.last (r := s.data.toList.drop (j + 1)) (by rw [HD1.out, HM.out]) (by rw [List.drop_eq_nil_of_le (by simp; have : s.data.size = s.size := rfl; omega)]; simp)]
          exact ⟨HT.out, by omega⟩
      · have t1 : ((s[j].toNat : Int) != (s[a].toNat : Int)) = true := by
          rw [bne_iff_ne]; intro e; exact hm (UInt8.toNat_inj.1 (by omega))
        have HM : Hid _ := hm
        clear hm
        go_wp2_with (at_builtin; refine wpList_append_own _ rfl _ _ 76 rfl w.heap.size 5 i0 (.int .u8 0) 1 1 Tryd.underlying76 hi hz0 hz1 hz2 rfl (by decide) _ _ _ rfl (HO.out.alloc _) ⟨wr.heap.size, 0, none⟩ 1 1 [byteV s[j]] rfl rfl ?c1 ?c2 ?c3 ?c4 ?c5 ?_)
        case c1 => exact (cell_one_new _ _ _)
        case c2 => intro u hu; simp at hu; subst hu; rfl
        case c3 => unfold maxLen; omega
        case c4 => omega
        case c5 => simp; omega
        · intro v' w1 hown' hgrow _
          have HN : Hid _ := And.intro hown' hgrow
          clear hown' hgrow
          go_wp2
          go_roundw
          case rel =>
            refine ⟨j + 1, acc ++ [s[j]], by omega, by omega, by go_num, by simp; omega, ?_, ?_, ?_⟩
            · have := HN.out.1; show World.ownsRow _ _ _ _ _ _ _; simpa using this
            · have h := HB.out.other HD1.out HM.out
              show BetwAt _ _ _ _
              rw [show j + 1 - (a + 1) = j - (a + 1) + 1 from by omega]; exact h
            · exact (HW.out.alloc hsz _).grown HN.out.2 (by simp; omega) (fun q hq => (HO.out.lt q hq).1)
          case measure => simp [intOf]; omega
    · go_wp2
      go_ret2
      refine ⟨ByteArray.empty, -1, rfl, ?_, HW.out⟩
      rw [HB.out.none (by rw [HD.out, List.drop_eq_nil_of_le (by simp; have : s.data.size = s.size := rfl; omega)])]
      exact ⟨rfl, rfl⟩

end Go.Proofs.YtneinfnadiedmaaDoor
