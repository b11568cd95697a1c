/- Contracts of the program's own reader: pass. -/
import Derived.Test.YtihchcoclncjdaaDoorCodeB
namespace Go.Proofs.YtihchcoclncjdaaDoor
open Go.RowKit
set_option linter.unusedSimpArgs false
set_option linter.unusedVariables false

/-- Where the reader in block B stands. -/
def atOf (w : World) (B : Nat) : Nat := match w.cell? ⟨B, 1, none⟩ with | some (.int _ q) => q.toNat | _ => 0
theorem Rd.atOf {w : World} {B : Nat} {s : ByteArray} {k st : Nat} (h : Rd w B s k st) : atOf w B = k := by
  have e : w.cell? ⟨B, 1, none⟩ = some (.int .i64 (k : Int)) := h.blk.cell 1
  unfold Go.Proofs.YtihchcoclncjdaaDoor.atOf
  rw [e]; simp

theorem skip_spaces : ∀ l : Lx.Bs, Lx.skipM false l = Lx.cnt Lx.isSp l + Lx.skipM false (l.drop (Lx.cnt Lx.isSp l))
  | [] => by simp [Lx.skipM, Lx.cnt]
  | b :: r => by
    by_cases hb : Lx.isSp b = true
    · have ih := skip_spaces r
      have h45 : b.toNat ≠ 45 := by unfold Lx.isSp at hb; simp at hb; omega
      simp only [Lx.cnt, hb, if_true, List.drop_succ_cons]
      conv => lhs; unfold Lx.skipM
      rw [if_neg (by omega), if_pos hb]; omega
    · simp [Lx.cnt, hb]
theorem cnt_stop (q : UInt8 → Bool) : ∀ l : Lx.Bs, Lx.cnt q (l.drop (Lx.cnt q l)) = 0
  | [] => by simp [Lx.cnt]
  | b :: r => by
    by_cases hb : q b = true
    · simp only [Lx.cnt, hb, if_true, List.drop_succ_cons]; exact cnt_stop q r
    · simp [Lx.cnt, hb]
theorem skip_line : ∀ l : Lx.Bs, Lx.skipM true l = Lx.cnt Lx.notNl l + Lx.skipM false (l.drop (Lx.cnt Lx.notNl l))
  | [] => by simp [Lx.skipM, Lx.cnt]
  | b :: r => by
    by_cases hb : Lx.notNl b = true
    · have ih := skip_line r
      simp only [Lx.cnt, hb, if_true, List.drop_succ_cons]
      conv => lhs; unfold Lx.skipM
      rw [if_pos hb]; omega
    · have h10 : b.toNat = 10 := by unfold Lx.notNl at hb; simpa using hb
      have hs : Lx.isSp b = true := by unfold Lx.isSp; simp [h10]
      simp only [Lx.cnt, hb, Bool.false_eq_true, if_false, List.drop_zero, Nat.zero_add]
      conv => lhs; unfold Lx.skipM
      conv => rhs; unfold Lx.skipM
      rw [if_neg hb, if_neg (by omega), if_pos hs]

/-- Behind space: a comment, or nothing more is passed. -/
theorem skip_here (l : Lx.Bs) (h : Lx.cnt Lx.isSp l = 0) : Lx.skipM false l = if Lib.hasPrefix l [45, 45] = true then Lx.cnt Lx.notNl l + Lx.skipM false (l.drop (Lx.cnt Lx.notNl l)) else 0 := by
  have hp : Lib.hasPrefix l [45, 45] = true ↔ ∃ r, l = 45 :: 45 :: r := by
    unfold Lib.hasPrefix
    match l with
    | [] => simp
    | [b] => simp
    | b :: c :: r =>
      simp only [List.isPrefixOf, Bool.and_eq_true, beq_iff_eq, Bool.and_true]
      constructor
      · rintro ⟨rfl, rfl⟩; exact ⟨r, rfl⟩
      · rintro ⟨r', e⟩; simp at e; exact ⟨e.1.symm, e.2.1.symm⟩
  split
  · rename_i hq
    obtain ⟨r, rfl⟩ := hp.1 hq
    rw [← skip_line]
    conv => lhs; unfold Lx.skipM
    conv => rhs; unfold Lx.skipM
    rw [if_pos ⟨rfl, rfl⟩, if_pos (by decide)]
  · rename_i hq
    match l, h, hq, hp with
    | [], _, _, _ => rfl
    | b :: r, h, hq, hp =>
      have hs : ¬ Lx.isSp b = true := by intro hb; simp [Lx.cnt, hb] at h
      unfold Lx.skipM
      rw [if_neg, if_neg hs]
      rintro ⟨q1, q2⟩
      have : b = 45 := UInt8.toNat_inj.1 (by rw [q1]; rfl)
      subst this
      cases r with
      | nil => simp at q2
      | cons c r => simp at q2; subst q2; exact hq (hp.2 ⟨r, rfl⟩)

theorem dash_two (l : Lx.Bs) (h : Lib.hasPrefix l [45, 45] = true) : 1 ≤ Lx.cnt Lx.notNl l := by
  match l, h with
  | [], h => simp [Lib.hasPrefix] at h
  | b :: r, h =>
    have : b = 45 := by
      unfold Lib.hasPrefix at h
      simp only [List.isPrefixOf, Bool.and_eq_true, beq_iff_eq] at h
      exact h.1.symm
    subst this
    have : Lx.notNl 45 = true := by decide
    simp [Lx.cnt, this]

set_option maxRecDepth 100000 in
set_option maxHeartbeats 2000000 in
theorem pass_any (w : World) (B : Nat) (s : ByteArray) (k st : Nat) (h : Rd w B s k st) :
    Calls Tryd.prog 17 #[.pointer (some ⟨B, 0, none⟩)] w fun e w' => e = .returned (.bool (decide (k + Lx.skipN (s.data.toList.drop k) < s.size))) ∧ Rd w' B s (k + Lx.skipN (s.data.toList.drop k)) st ∧ w.grownBy w' (some B) := by
  have hsm := h.small
  have H := hd h
  clear h
  go_enter Tryd.func17, Tryd.ntmps17
  go_wp2
  go_loopw [4] (fun _ wr => ∃ j : Nat, Hid (Rd wr B s j st) ∧ Hid (w.grownBy wr (some B)) ∧ Hid (k + Lx.skipN (s.data.toList.drop k) = j + Lx.skipM false (s.data.toList.drop j))) (fun _ wr => s.size - atOf wr B)
  case atStart => exact ⟨k, H, grownBy_refl _ _, rfl⟩
  case round =>
    obtain ⟨j, HR, HG, HK⟩ := hrel
    go_wp2_with fail
    refine (takeAll_isSpace wr B s j st HR.out).mono ?_
    rintro e w1 ⟨u, rfl, -, h1, g1⟩
    have HE := hd (skip_spaces (s.data.toList.drop j))
    have HST := hd (cnt_stop Lx.isSp (s.data.toList.drop j))
    rw [List.drop_drop] at HE HST
    have hn : 0 ≤ Lx.cnt Lx.isSp (s.data.toList.drop j) := by omega
    generalize Lx.cnt Lx.isSp (s.data.toList.drop j) = n at *
    have G1 := hd (grownBy_trans HG.out g1)
    clear g1
    obtain ⟨⟨b0, b1, b2⟩, b3, b4, b5⟩ := h1.blk.three
    have hle1 := h1.le
    have HSK := hd (skip_here (s.data.toList.drop (j + n)) HST.out)
    have HX := hd (Lib.extract_to_end s (j + n))
    cases hpx : Lib.hasPrefix (s.data.toList.drop (j + n)) [45, 45]
    · go_wp2
      go_region_with (go_at_call 32; refine (Tryd.strings_HasPrefix _ _ _).mono ?_; rintro e w' ⟨rfl, rfl⟩; rw [HX.out])
      all_goals
        go_wp2
        go_region
        all_goals go_wp2
        all_goals go_ret
        all_goals
          have hk : k + Lx.skipN (s.data.toList.drop k) = j + n := by
            have e1 := HK.out; have e2 := HE.out; have e3 := HSK.out
            rw [hpx] at e3; simp only [Bool.false_eq_true, if_false] at e3; omega
          rw [hk]
          exact ⟨ret_bool (by rw [Bool.eq_iff_iff]; simp; omega), h1.drew.drew, grownBy_drew (grownBy_drew G1.out)⟩
    · have hd2 := dash_two _ hpx
      go_wp2
      go_region_with (go_at_call 32; refine (Tryd.strings_HasPrefix _ _ _).mono ?_; rintro e w' ⟨rfl, rfl⟩; rw [HX.out])
      all_goals
        go_wp2_with fail
        refine (takeAll_inLine _ B s (j + n) st h1.drew).mono ?_
        rintro e w2 ⟨u2, rfl, -, h2, g2⟩
        go_wp2
        refine ⟨⟨j + n + Lx.cnt Lx.notNl (s.data.toList.drop (j + n)), h2, grownBy_trans (grownBy_drew G1.out) g2, ?_⟩, ?_⟩
        · have e1 := HK.out; have e2 := HE.out; have e3 := HSK.out
          rw [hpx, List.drop_drop] at e3; simp only [if_true] at e3
          show _ = _; omega
        · have hle2 := h2.le
          rw [h2.atOf, HR.out.atOf]; omega

end Go.Proofs.YtihchcoclncjdaaDoor
