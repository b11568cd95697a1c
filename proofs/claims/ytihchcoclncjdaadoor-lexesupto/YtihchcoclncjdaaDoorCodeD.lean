/- Contracts of the program's own reader: isKeyword, isAbove, word, number, sign. -/
import Derived.Test.YtihchcoclncjdaaDoorCodeC
namespace Go.Proofs.YtihchcoclncjdaaDoor
open Go.RowKit
set_option linter.unusedSimpArgs false
set_option linter.unusedVariables false

theorem index_key (k : Nat) (h : k < 27) (w : World) : (Instr.index 106 (.agg (strRow Lx.keys)) (.int .i64 (k : Int))).run Tryd.prog w = .ok (.string ⟨(Lx.keys.getD k []).toArray⟩) w := by
  have hk : Lx.keys[k]? = some (Lx.keys.getD k []) := by
    rw [List.getD_eq_getElem?_getD, List.getElem?_eq_getElem (show k < Lx.keys.length from h)]; rfl
  have hc : (strRow Lx.keys)[k]? = some (.string ⟨(Lx.keys.getD k []).toArray⟩) := by
    unfold strRow
    simp only [List.getElem?_toArray, List.getElem?_map, hk, Option.map_some]
  generalize strRow Lx.keys = cs at *
  simp [Instr.index, run_underlying Tryd.underlying106, asIntOf, part, Tryd.isAgg9, Tryd.sizeOf9, go_sem, h, hc]

theorem index_sign (k : Nat) (h : k < 16) (w : World) : (Instr.index 92 (.agg (strRow sgns)) (.int .i64 (k : Int))).run Tryd.prog w = .ok (.string ⟨(sgns.getD k []).toArray⟩) w := by
  have hk : sgns[k]? = some (sgns.getD k []) := by
    rw [List.getD_eq_getElem?_getD, List.getElem?_eq_getElem (show k < sgns.length from h)]; rfl
  have hc : (strRow sgns)[k]? = some (.string ⟨(sgns.getD k []).toArray⟩) := by
    unfold strRow
    simp only [List.getElem?_toArray, List.getElem?_map, hk, Option.map_some]
  generalize strRow sgns = cs at *
  simp [Instr.index, run_underlying Tryd.underlying92, asIntOf, part, Tryd.isAgg9, Tryd.sizeOf9, go_sem, h, hc]

set_option maxRecDepth 100000 in
set_option maxHeartbeats 1000000 in
theorem isKeyword_any (t : ByteArray) (w : World) (he : Env w) : Calls Tryd.prog 53 #[.string t] w fun e w' => e = .returned (.bool (Lx.hasB Lx.keys t.data.toList)) ∧ w' = w := by
  obtain ⟨ty, fr, hg⟩ := he.kws
  have HG := hd hg
  clear hg
  go_enter Tryd.func53, Tryd.ntmps53
  go_wp2_with (refine wpList_load_row rfl 106 _ rfl 1 rfl ty _ fr _ HG.out Tryd.underlying106 rfl (by kernel_rfl) ?_)
  go_loop [6] (fun i => ∃ k : Nat, k ≤ 27 ∧ i = .int .i64 k ∧ Hid (Lx.hasB Lx.keys t.data.toList = Lx.hasB (Lx.keys.drop k) t.data.toList)) (fun i => 27 - (intOf i).toNat)
  case atStart => exact ⟨0, by omega, rfl, rfl⟩
  case round =>
    obtain ⟨k, hk, rfl, HK⟩ := hrel
    by_cases hlt : k < 27
    · have hix := index_key k hlt
      have HS := hd (contains_at Lx.keys t.data.toList k hlt)
      obtain ⟨u, hu⟩ : ∃ u : ByteArray, u = ⟨(Lx.keys.getD k []).toArray⟩ := ⟨_, rfl⟩
      have HU : Hid (u.data.toList = Lx.keys.getD k []) := by rw [hu]; show _ = _; simp
      rw [← hu] at hix
      clear hu
      go_wp2
      · go_ret
        have q : (u.toList == t.toList) = true := by assumption
        exact ⟨ret_bool (by rw [HK.out, HS.out, ← HU.out, ← Lib.toList_data, ← Lib.toList_data, q]; simp), rfl⟩
      · go_round
        case rel =>
          have q : (u.toList == t.toList) = false := by assumption
          exact ⟨k + 1, by omega, by go_num, by show _ = _; rw [HK.out, HS.out, ← HU.out]; rw [Lib.toList_data, Lib.toList_data] at q; rw [q]; simp⟩
        case measure => simp [intOf]; omega
    · go_wp2
      go_ret
      exact ⟨ret_bool (by rw [HK.out, List.drop_eq_nil_of_le (by show 27 ≤ k; omega)]; rfl), rfl⟩

set_option maxRecDepth 100000 in
set_option maxHeartbeats 1000000 in
theorem isAbove_any (t : ByteArray) (w : World) (hm : t.size ≤ 100000) : Calls Tryd.prog 51 #[.string t, .string ⟨#[57, 50, 50, 51, 51, 55, 50, 48, 51, 54, 56, 53, 52, 55, 55, 53, 56, 48, 56]⟩] w fun e w' => e = .returned (.bool (Lx.overTop t.data.toList)) ∧ w' = w := by
  have HS := hd (Lib.size_eq t)
  have HTL := hd (Lib.toList_data t)
  by_cases h19 : t.size = 19
  · have q : ((t.size : Int) != 19) = false := by rw [h19]; rfl
    have HO : Hid (Lx.overTop t.data.toList = (!Op.bytesLess t.data.toList Lx.top && !(t.data.toList == Lx.top))) := by
      show _ = _
      unfold Lx.overTop
      rw [← HS.out, h19]; simp
    have H19 := hd h19
    clear h19
    go_enter Tryd.func51, Tryd.ntmps51
    go_wp2
    go_ret
    refine ⟨ret_bool ?_, rfl⟩
    rw [HO.out, ← HTL.out]
    rfl
  · have q : ((t.size : Int) != 19) = true := by rw [bne_iff_ne]; omega
    have HO : Hid (Lx.overTop t.data.toList = decide (19 < t.size)) := by
      show _ = _
      unfold Lx.overTop
      rw [← HS.out]; simp [h19]
    clear h19
    go_enter Tryd.func51, Tryd.ntmps51
    go_wp2
    go_ret
    refine ⟨ret_bool ?_, rfl⟩
    rw [HO.out, Bool.eq_iff_iff]; simp; omega

/-- What the reader says of one token: the token, and it stands behind it; or it gives up. -/
def Told (r : Except Nat (Nat × Lx.Bs × Nat)) (w : World) (B : Nat) (s : ByteArray) (k st : Nat) (out : Nat → ByteArray → Value) (e : Ending) (w' : World) : Prop :=
  w.grownBy w' (some B) ∧ match r with
  | .ok (c, t, n) => ∃ tv : ByteArray, tv.data.toList = t ∧ e = .returned (out c tv) ∧ Rd w' B s (k + n) st
  | .error c => e = .panicked [{ v := .iface 58 (.agg #[.int .i64 (st : Int), .int .i64 (c : Int)]), recovered := false }]

theorem cnt_wd_ascii : ∀ (l : Lx.Bs) (j : Nat) (b : UInt8), (l.take (Lx.cnt Lx.isWd l))[j]? = some b → b.toNat < 128
  | [], j, b, h => by simp at h
  | a :: r, j, b, h => by
    by_cases ha : Lx.isWd a = true
    · simp only [Lx.cnt, ha, if_true, List.take_succ_cons] at h
      cases j with
      | zero =>
        simp at h; subst h
        unfold Lx.isWd Lx.isDig Lx.isLet at ha
        simp at ha; omega
      | succ j => exact cnt_wd_ascii r j b (by simpa using h)
    · simp [Lx.cnt, ha] at h

theorem upperA_eq (l : Lx.Bs) : Lib.toUpperA l = l.map Lx.upB := by
  unfold Lib.toUpperA
  congr 1
  funext b
  unfold Lib.upperB Lx.upB Lib.isLowerB
  by_cases h : 97 ≤ b.toNat ∧ b.toNat ≤ 122
  · rw [if_pos h, if_pos]; simp [UInt8.le_iff_toNat_le]; exact h
  · rw [if_neg h, if_neg]; simp [UInt8.le_iff_toNat_le]; omega
theorem lowerA_eq (l : Lx.Bs) : Lib.toLowerA l = l.map Lx.lowB := by
  unfold Lib.toLowerA
  congr 1
  funext b
  unfold Lib.lowerB Lx.lowB Lib.isUpperB
  by_cases h : 65 ≤ b.toNat ∧ b.toNat ≤ 90
  · rw [if_pos h, if_pos]; simp [UInt8.le_iff_toNat_le]; exact h
  · rw [if_neg h, if_neg]; simp [UInt8.le_iff_toNat_le]; omega

def outTwo (c : Nat) (t : ByteArray) : Value := .tuple #[.int .i64 (c : Int), .string t]
def outOne (_ : Nat) (t : ByteArray) : Value := .string t

set_option maxRecDepth 100000 in
set_option maxHeartbeats 1000000 in
theorem word_any (w : World) (B : Nat) (s : ByteArray) (k st : Nat) (h : Rd w B s k st) (hk : k < s.size) (hl : Lx.isLet s[k] = true) :
    Calls Tryd.prog 42 #[.pointer (some ⟨B, 0, none⟩)] w (Told (Lx.oneT (s.data.toList.drop k)) w B s k st outTwo) := by
  have hsm := h.small
  have HL := hd (oneT_letter s k hk hl)
  have HA := hd (cnt_wd_ascii (s.data.toList.drop k))
  go_enter Tryd.func42, Tryd.ntmps42
  go_wp2_with fail
  refine (takeAll_inWord w B s k st h).mono ?_
  rintro e w1 ⟨u, rfl, hu, h1, g1⟩
  have HU := hd hu
  have hus : u.size ≤ 2000 := by
    rw [Lib.size_eq, hu]
    simp
    omega
  clear hu
  go_wp2_with fail
  refine (Tryd.strings_ToUpper_ascii u w1 (by omega) (by rw [HU.out]; exact HA.out)).mono ?_
  rintro e w2 ⟨rfl, hb2⟩
  rw [upperA_eq]
  obtain ⟨up, hup⟩ : ∃ up : ByteArray, up = ⟨(u.data.toList.map Lx.upB).toArray⟩ := ⟨_, rfl⟩
  rw [← hup]
  have HUP : Hid (up.data.toList = u.data.toList.map Lx.upB) := by rw [hup]; show _ = _; simp
  clear hup
  have h2 := h1.below hb2
  have G2 := hd (grownBy_trans g1 (Below.grownBy hb2))
  clear hb2
  go_wp2_with fail
  refine (isKeyword_any up w2 h2.env).mono ?_
  rintro e w' ⟨rfl, rfl⟩
  cases hkey : Lx.hasB Lx.keys up.data.toList
  · go_wp2_with fail
    refine (Tryd.strings_ToLower_ascii u _ (by omega) (by rw [HU.out]; exact HA.out)).mono ?_
    rintro e w3 ⟨rfl, hb3⟩
    rw [lowerA_eq]
    go_wp2
    go_ret2
    refine ⟨grownBy_trans G2.out (Below.grownBy hb3), ?_⟩
    rw [HL.out, ← HU.out, ← HUP.out, hkey]
    exact ⟨⟨(u.data.toList.map Lx.lowB).toArray⟩, by simp, rfl, h2.below hb3⟩
  · go_wp2
    go_ret2
    refine ⟨G2.out, ?_⟩
    rw [HL.out, ← HU.out, ← HUP.out, hkey]
    exact ⟨up, rfl, rfl, h2⟩

end Go.Proofs.YtihchcoclncjdaaDoor
