/- Parts of the proof: CodeC CodeD CodeE Quote CodeF -/
import Derived.Test.YtaiebhhommgnbaaGreatDoorZ3
namespace Go.Proofs.YtaiebhhommgnbaaGreatDoor
set_option linter.unusedSimpArgs false
set_option linter.unusedVariables false
set_option maxRecDepth 100000
set_option maxHeartbeats 16000000
open Go.RowKit
def atOf (w : World) (B : Nat) : Nat := match w.cell? ⟨B, 1, none⟩ with | some (.int _ q) => q.toNat | _ => 0
theorem Rd.atOf {w : World} {B : Nat} {s : ByteArray} {k st : Nat} (h : Rd w B s k st) : atOf w B = k := by
 have e : w.cell? ⟨B, 1, none⟩ = some (.int .i64 (k : Int)) := h.blk.cell 1
 unfold Go.Proofs.YtaiebhhommgnbaaGreatDoor.atOf
 rw [e]; simp
theorem skip_spaces : ∀ l : Lx.Bs, Lx.skipM false l = Lx.cnt Lx.isSp l + Lx.skipM false (l.drop (Lx.cnt Lx.isSp l))
 | [] => by simp [Lx.skipM, Lx.cnt]
 | b :: r => by
  by_cases hb : Lx.isSp b = true
  · have ih := skip_spaces r
    have h45 : b.toNat ≠ 45 := by unfold Lx.isSp at hb; simp at hb; omega
    simp only [Lx.cnt, hb, if_true, List.drop_succ_cons]
    conv => lhs; unfold Lx.skipM
    rw [if_neg (by omega), if_pos hb]; omega
  · simp [Lx.cnt, hb]
theorem cnt_stop (q : UInt8 → Bool) : ∀ l : Lx.Bs, Lx.cnt q (l.drop (Lx.cnt q l)) = 0
 | [] => by simp [Lx.cnt]
 | b :: r => by
  by_cases hb : q b = true
  · simp only [Lx.cnt, hb, if_true, List.drop_succ_cons]; exact cnt_stop q r
  · simp [Lx.cnt, hb]
theorem skip_line : ∀ l : Lx.Bs, Lx.skipM true l = Lx.cnt Lx.notNl l + Lx.skipM false (l.drop (Lx.cnt Lx.notNl l))
 | [] => by simp [Lx.skipM, Lx.cnt]
 | b :: r => by
  by_cases hb : Lx.notNl b = true
  · have ih := skip_line r
    simp only [Lx.cnt, hb, if_true, List.drop_succ_cons]
    conv => lhs; unfold Lx.skipM
    rw [if_pos hb]; omega
  · have h10 : b.toNat = 10 := by unfold Lx.notNl at hb; simpa using hb
    have hs : Lx.isSp b = true := by unfold Lx.isSp; simp [h10]
    simp only [Lx.cnt, hb, Bool.false_eq_true, if_false, List.drop_zero, Nat.zero_add]
    conv => lhs; unfold Lx.skipM
    conv => rhs; unfold Lx.skipM
    rw [if_neg hb, if_neg (by omega), if_pos hs]
theorem skip_here (l : Lx.Bs) (h : Lx.cnt Lx.isSp l = 0) : Lx.skipM false l = if Lib.hasPrefix l [45, 45] = true then Lx.cnt Lx.notNl l + Lx.skipM false (l.drop (Lx.cnt Lx.notNl l)) else 0 := by
 have hp : Lib.hasPrefix l [45, 45] = true ↔ ∃ r, l = 45 :: 45 :: r := by
  unfold Lib.hasPrefix
  match l with
  | [] => simp
  | [b] => simp
  | b :: c :: r =>
   simp only [List.isPrefixOf, Bool.and_eq_true, beq_iff_eq, Bool.and_true]
   constructor
   · rintro ⟨rfl, rfl⟩; exact ⟨r, rfl⟩
   · rintro ⟨r', e⟩; simp at e; exact ⟨e.1.symm, e.2.1.symm⟩
 split
 · rename_i hq
   obtain ⟨r, rfl⟩ := hp.1 hq
   rw [← skip_line]
   conv => lhs; unfold Lx.skipM
   conv => rhs; unfold Lx.skipM
   rw [if_pos ⟨rfl, rfl⟩, if_pos (by decide)]
 · rename_i hq
   match l, h, hq, hp with
   | [], _, _, _ => rfl
   | b :: r, h, hq, hp =>
    have hs : ¬ Lx.isSp b = true := by intro hb; simp [Lx.cnt, hb] at h
    unfold Lx.skipM
    rw [if_neg, if_neg hs]
    rintro ⟨q1, q2⟩
    have : b = 45 := UInt8.toNat_inj.1 (by rw [q1]; rfl)
    subst this
    cases r with
    | nil => simp at q2
    | cons c r => simp at q2; subst q2; exact hq (hp.2 ⟨r, rfl⟩)
theorem dash_two (l : Lx.Bs) (h : Lib.hasPrefix l [45, 45] = true) : 1 ≤ Lx.cnt Lx.notNl l := by
 match l, h with
 | [], h => simp [Lib.hasPrefix] at h
 | b :: r, h =>
  have : b = 45 := by
   unfold Lib.hasPrefix at h
   simp only [List.isPrefixOf, Bool.and_eq_true, beq_iff_eq] at h
   exact h.1.symm
  subst this
  have : Lx.notNl 45 = true := by decide
  simp [Lx.cnt, this]
theorem pass_any (w : World) (B : Nat) (s : ByteArray) (k st : Nat) (h : Rd w B s k st) :
   Calls Tryz.prog 34 #[.pointer (some ⟨B, 0, none⟩)] w fun e w' => e = .returned (.bool (decide (k + Lx.skipN (s.data.toList.drop k) < s.size))) ∧ Rd w' B s (k + Lx.skipN (s.data.toList.drop k)) st ∧ w.grownBy w' (some B) := by
 have hsm := h.small
 have H := hd h
 clear h
 go_enter Tryz.func34, Tryz.ntmps34
 go_wp2
 go_loopw [4] (fun _ wr => ∃ j : Nat, Hid (Rd wr B s j st) ∧ Hid (w.grownBy wr (some B)) ∧ Hid (k + Lx.skipN (s.data.toList.drop k) = j + Lx.skipM false (s.data.toList.drop j))) (fun _ wr => s.size - atOf wr B)
 case atStart => exact ⟨k, H, grownBy_refl _ _, rfl⟩
 case round =>
  obtain ⟨j, HR, HG, HK⟩ := hrel
  go_wp2_with fail
  refine (takeAll_isSpace wr B s j st HR.out).mono ?_
  rintro e w1 ⟨u, rfl, -, h1, g1⟩
  have HE := hd (skip_spaces (s.data.toList.drop j))
  have HST := hd (cnt_stop Lx.isSp (s.data.toList.drop j))
  rw [List.drop_drop] at HE HST
  have hn : 0 ≤ Lx.cnt Lx.isSp (s.data.toList.drop j) := by omega
  generalize Lx.cnt Lx.isSp (s.data.toList.drop j) = n at *
  have G1 := hd (grownBy_trans HG.out g1)
  clear g1
  obtain ⟨⟨b0, b1, b2⟩, b3, b4, b5⟩ := h1.blk.three
  have hle1 := h1.le
  have HSK := hd (skip_here (s.data.toList.drop (j + n)) HST.out)
  have HX := hd (Lib.extract_to_end s (j + n))
  cases hpx : Lib.hasPrefix (s.data.toList.drop (j + n)) [45, 45]
  · go_wp2
    go_region_with (go_at_call 86; refine (Tryz.strings_HasPrefix _ _ _).mono ?_; rintro e w' ⟨rfl, rfl⟩; rw [HX.out])
    all_goals
     go_wp2
     go_region
     all_goals go_wp2
     all_goals go_ret
     all_goals
      have hk : k + Lx.skipN (s.data.toList.drop k) = j + n := by
       have e1 := HK.out; have e2 := HE.out; have e3 := HSK.out
       rw [hpx] at e3; simp only [Bool.false_eq_true, if_false] at e3; omega
      rw [hk]
      exact ⟨ret_bool (by rw [Bool.eq_iff_iff]; simp; omega), h1.drew.drew, grownBy_drew (grownBy_drew G1.out)⟩
  · have hd2 := dash_two _ hpx
    go_wp2
    go_region_with (go_at_call 86; refine (Tryz.strings_HasPrefix _ _ _).mono ?_; rintro e w' ⟨rfl, rfl⟩; rw [HX.out])
    all_goals
     go_wp2_with fail
     refine (takeAll_inLine _ B s (j + n) st h1.drew).mono ?_
     rintro e w2 ⟨u2, rfl, -, h2, g2⟩
     go_wp2
     refine ⟨⟨j + n + Lx.cnt Lx.notNl (s.data.toList.drop (j + n)), h2, grownBy_trans (grownBy_drew G1.out) g2, ?_⟩, ?_⟩
     · have e1 := HK.out; have e2 := HE.out; have e3 := HSK.out
       rw [hpx, List.drop_drop] at e3; simp only [if_true] at e3
       show _ = _; omega
     · have hle2 := h2.le
       rw [h2.atOf, HR.out.atOf]; omega
theorem index_key (k : Nat) (h : k < 27) (w : World) : (Instr.index 340 (.agg (strRow Lx.keys)) (.int .i64 (k : Int))).run Tryz.prog w = .ok (.string ⟨(Lx.keys.getD k []).toArray⟩) w := by
 have hk : Lx.keys[k]? = some (Lx.keys.getD k []) := by
  rw [List.getD_eq_getElem?_getD, List.getElem?_eq_getElem (show k < Lx.keys.length from h)]; rfl
 have hc : (strRow Lx.keys)[k]? = some (.string ⟨(Lx.keys.getD k []).toArray⟩) := by
  unfold strRow
  simp only [List.getElem?_toArray, List.getElem?_map, hk, Option.map_some]
 generalize strRow Lx.keys = cs at *
 simp [Instr.index, run_underlying Tryz.underlying340, asIntOf, part, Tryz.isAgg9, Tryz.sizeOf9, go_sem, h, hc]
theorem index_sign (k : Nat) (h : k < 16) (w : World) : (Instr.index 305 (.agg (strRow sgns)) (.int .i64 (k : Int))).run Tryz.prog w = .ok (.string ⟨(sgns.getD k []).toArray⟩) w := by
 have hk : sgns[k]? = some (sgns.getD k []) := by
  rw [List.getD_eq_getElem?_getD, List.getElem?_eq_getElem (show k < sgns.length from h)]; rfl
 have hc : (strRow sgns)[k]? = some (.string ⟨(sgns.getD k []).toArray⟩) := by
  unfold strRow
  simp only [List.getElem?_toArray, List.getElem?_map, hk, Option.map_some]
 generalize strRow sgns = cs at *
 simp [Instr.index, run_underlying Tryz.underlying305, asIntOf, part, Tryz.isAgg9, Tryz.sizeOf9, go_sem, h, hc]
theorem isKeyword_any (t : ByteArray) (w : World) (he : Env0 w) : Calls Tryz.prog 192 #[.string t] w fun e w' => e = .returned (.bool (Lx.hasB Lx.keys t.data.toList)) ∧ w' = w := by
 obtain ⟨ty, fr, hg⟩ := he.kws
 have HG := hd hg
 clear hg
 go_enter Tryz.func192, Tryz.ntmps192
 go_wp2_with (refine wpList_load_row rfl 340 _ rfl 4 rfl ty _ fr _ HG.out Tryz.underlying340 rfl (by kernel_rfl) ?_)
 go_loop [6] (fun i => ∃ k : Nat, k ≤ 27 ∧ i = .int .i64 k ∧ Hid (Lx.hasB Lx.keys t.data.toList = Lx.hasB (Lx.keys.drop k) t.data.toList)) (fun i => 27 - (intOf i).toNat)
 case atStart => exact ⟨0, by omega, rfl, rfl⟩
 case round =>
  obtain ⟨k, hk, rfl, HK⟩ := hrel
  by_cases hlt : k < 27
  · have hix := index_key k hlt
    have HS := hd (contains_at Lx.keys t.data.toList k hlt)
    obtain ⟨u, hu⟩ : ∃ u : ByteArray, u = ⟨(Lx.keys.getD k []).toArray⟩ := ⟨_, rfl⟩
    have HU : Hid (u.data.toList = Lx.keys.getD k []) := by rw [hu]; show _ = _; simp
    rw [← hu] at hix
    clear hu
    go_wp2
    · go_ret
      have q : (u.toList == t.toList) = true := by assumption
      exact ⟨ret_bool (by rw [HK.out, HS.out, ← HU.out, ← Lib.toList_data, ← Lib.toList_data, q]; simp), rfl⟩
    · go_round
      case rel =>
       have q : (u.toList == t.toList) = false := by assumption
       exact ⟨k + 1, by omega, by go_num, by show _ = _; rw [HK.out, HS.out, ← HU.out]; rw [Lib.toList_data, Lib.toList_data] at q; rw [q]; simp⟩
      case measure => simp [intOf]; omega
  · go_wp2
    go_ret
    exact ⟨ret_bool (by rw [HK.out, List.drop_eq_nil_of_le (by show 27 ≤ k; omega)]; rfl), rfl⟩
theorem isAbove_any (t : ByteArray) (w : World) (hm : t.size ≤ 100000) : Calls Tryz.prog 190 #[.string t, .string ⟨#[57, 50, 50, 51, 51, 55, 50, 48, 51, 54, 56, 53, 52, 55, 55, 53, 56, 48, 56]⟩] w fun e w' => e = .returned (.bool (Lx.overTop t.data.toList)) ∧ w' = w := by
 have HS := hd (Lib.size_eq t)
 have HTL := hd (Lib.toList_data t)
 by_cases h19 : t.size = 19
 · have q : ((t.size : Int) != 19) = false := by rw [h19]; rfl
   have HO : Hid (Lx.overTop t.data.toList = (!Op.bytesLess t.data.toList Lx.top && !(t.data.toList == Lx.top))) := by
    show _ = _
    unfold Lx.overTop
    rw [← HS.out, h19]; simp
   have H19 := hd h19
   clear h19
   go_enter Tryz.func190, Tryz.ntmps190
   go_wp2
   go_ret
   refine ⟨ret_bool ?_, rfl⟩
   rw [HO.out, ← HTL.out]
   rfl
 · have q : ((t.size : Int) != 19) = true := by rw [bne_iff_ne]; omega
   have HO : Hid (Lx.overTop t.data.toList = decide (19 < t.size)) := by
    show _ = _
    unfold Lx.overTop
    rw [← HS.out]; simp [h19]
   clear h19
   go_enter Tryz.func190, Tryz.ntmps190
   go_wp2
   go_ret
   refine ⟨ret_bool ?_, rfl⟩
   rw [HO.out, Bool.eq_iff_iff]; simp; omega
def Told (r : Except Nat (Nat × Lx.Bs × Nat)) (w : World) (B : Nat) (s : ByteArray) (k st : Nat) (out : Nat → ByteArray → Value) (e : Ending) (w' : World) : Prop :=
 w.grownBy w' (some B) ∧ match r with
 | .ok (c, t, n) => ∃ tv : ByteArray, tv.data.toList = t ∧ e = .returned (out c tv) ∧ Rd w' B s (k + n) st
 | .error c => e = .panicked [{ v := .iface 61 (.agg #[.int .i64 (st : Int), .int .i64 (c : Int)]), recovered := false }]
theorem cnt_wd_ascii : ∀ (l : Lx.Bs) (j : Nat) (b : UInt8), (l.take (Lx.cnt Lx.isWd l))[j]? = some b → b.toNat < 128
 | [], j, b, h => by simp at h
 | a :: r, j, b, h => by
  by_cases ha : Lx.isWd a = true
  · simp only [Lx.cnt, ha, if_true, List.take_succ_cons] at h
    cases j with
    | zero =>
     simp at h; subst h
     unfold Lx.isWd Lx.isDig Lx.isLet at ha
     simp at ha; omega
    | succ j => exact cnt_wd_ascii r j b (by simpa using h)
  · simp [Lx.cnt, ha] at h
theorem upperA_eq (l : Lx.Bs) : Lib.toUpperA l = l.map Lx.upB := by
 unfold Lib.toUpperA
 congr 1
 funext b
 unfold Lib.upperB Lx.upB Lib.isLowerB
 by_cases h : 97 ≤ b.toNat ∧ b.toNat ≤ 122
 · rw [if_pos h, if_pos]; simp [UInt8.le_iff_toNat_le]; exact h
 · rw [if_neg h, if_neg]; simp [UInt8.le_iff_toNat_le]; omega
theorem lowerA_eq (l : Lx.Bs) : Lib.toLowerA l = l.map Lx.lowB := by
 unfold Lib.toLowerA
 congr 1
 funext b
 unfold Lib.lowerB Lx.lowB Lib.isUpperB
 by_cases h : 65 ≤ b.toNat ∧ b.toNat ≤ 90
 · rw [if_pos h, if_pos]; simp [UInt8.le_iff_toNat_le]; exact h
 · rw [if_neg h, if_neg]; simp [UInt8.le_iff_toNat_le]; omega
def outTwo (c : Nat) (t : ByteArray) : Value := .tuple #[.int .i64 (c : Int), .string t]
def outOne (_ : Nat) (t : ByteArray) : Value := .string t
theorem word_any (w : World) (B : Nat) (s : ByteArray) (k st : Nat) (h : Rd w B s k st) (hk : k < s.size) (hl : Lx.isLet s[k] = true) :
   Calls Tryz.prog 143 #[.pointer (some ⟨B, 0, none⟩)] w (Told (Lx.oneT (s.data.toList.drop k)) w B s k st outTwo) := by
 have hsm := h.small
 have HL := hd (oneT_letter s k hk hl)
 have HA := hd (cnt_wd_ascii (s.data.toList.drop k))
 go_enter Tryz.func143, Tryz.ntmps143
 go_wp2_with fail
 refine (takeAll_inWord w B s k st h).mono ?_
 rintro e w1 ⟨u, rfl, hu, h1, g1⟩
 have HU := hd hu
 have hus : u.size ≤ 2000 := by
  rw [Lib.size_eq, hu]
  simp
  omega
 clear hu
 go_wp2_with fail
 refine (Tryz.strings_ToUpper_ascii u w1 (by omega) (by rw [HU.out]; exact HA.out)).mono ?_
 rintro e w2 ⟨rfl, hb2⟩
 rw [upperA_eq]
 obtain ⟨up, hup⟩ : ∃ up : ByteArray, up = ⟨(u.data.toList.map Lx.upB).toArray⟩ := ⟨_, rfl⟩
 rw [← hup]
 have HUP : Hid (up.data.toList = u.data.toList.map Lx.upB) := by rw [hup]; show _ = _; simp
 clear hup
 have h2 := h1.below hb2
 have G2 := hd (grownBy_trans g1 (Below.grownBy hb2))
 clear hb2
 go_wp2_with fail
 refine (isKeyword_any up w2 h2.env.weak).mono ?_
 rintro e w' ⟨rfl, rfl⟩
 cases hkey : Lx.hasB Lx.keys up.data.toList
 · go_wp2_with fail
   refine (Tryz.strings_ToLower_ascii u _ (by omega) (by rw [HU.out]; exact HA.out)).mono ?_
   rintro e w3 ⟨rfl, hb3⟩
   rw [lowerA_eq]
   go_wp2
   go_ret2
   refine ⟨grownBy_trans G2.out (Below.grownBy hb3), ?_⟩
   rw [HL.out, ← HU.out, ← HUP.out, hkey]
   exact ⟨⟨(u.data.toList.map Lx.lowB).toArray⟩, by simp, rfl, h2.below hb3⟩
 · go_wp2
   go_ret2
   refine ⟨G2.out, ?_⟩
   rw [HL.out, ← HU.out, ← HUP.out, hkey]
   exact ⟨up, rfl, rfl, h2⟩
theorem peek_fits {p : Int → Bool} {q : UInt8 → Bool} (hf : Fits p q) (h1 : p (-1) = false) (h2 : p (-2) = false) (hhigh : ∀ b : UInt8, 128 ≤ b.toNat → q b = false) (s : ByteArray) (k : Nat) : p (peekN s k).1 = decide (0 < Lx.cnt q (s.data.toList.drop k)) := by
 unfold peekN
 by_cases hk : k < s.size
 · rw [if_pos hk]
   by_cases hc : Lx.charN (s.data.toList.drop k) = 0
   · rw [if_pos hc]
     have := (dec_bad s k hk hc).2
     rw [cnt_at q s k hk, if_neg (by rw [hhigh _ this]; simp)]
     simpa using h2
   · rw [if_neg hc]
     simp only
     cases hp : p ((Utf8.decode s k).1 : Int)
     · rw [hf.no s k hk hp]; simp
     · have := hf.yes s k hk hp
       rw [this.1]; simp; omega
 · rw [if_neg hk, cnt_end q s k (by omega)]
   simpa using h1
theorem cnt_sub : ∀ l : Lx.Bs, Lx.cnt Lx.isWd l = Lx.cnt Lx.isDig l + Lx.cnt Lx.isWd (l.drop (Lx.cnt Lx.isDig l))
 | [] => by simp [Lx.cnt]
 | b :: r => by
  have ih := cnt_sub r
  by_cases hb : Lx.isDig b = true
  · have hw : Lx.isWd b = true := by simp [Lx.isWd, hb]
    simp only [Lx.cnt, hb, hw, if_true, List.drop_succ_cons]; omega
  · simp [Lx.cnt, hb]
theorem least_trim : ∀ l : Lx.Bs, l ≠ [] → Lx.leastB l = if l.dropWhile (· == 48) = [] then [48] else l.dropWhile (· == 48)
 | [], h => absurd rfl h
 | [b], _ => by
  by_cases hb : b = 48
  · subst hb; rfl
  · have hq : (b == 48) = false := by simpa using hb
    simp [Lx.leastB, List.dropWhile, hq]
 | b :: c :: r, _ => by
  have ih := least_trim (c :: r) (by simp)
  unfold Lx.leastB
  by_cases hb : b = 48
  · subst hb
    have e : List.dropWhile (fun x => x == 48) ((48 : UInt8) :: c :: r) = List.dropWhile (fun x => x == 48) (c :: r) := by rw [List.dropWhile_cons]; rfl
    rw [if_pos (show (48 : UInt8).toNat = 48 from rfl), ih, e]
  · have : ¬ b.toNat = 48 := fun e => hb (UInt8.toNat_inj.1 (by rw [e]; rfl))
    rw [if_neg this]
    have hq : (b == 48) = false := by simpa using hb
    simp [List.dropWhile, hq]
theorem number_any (w : World) (B : Nat) (s : ByteArray) (k st : Nat) (h : Rd w B s k st) (hk : k < s.size) (hl : Lx.isLet s[k] = false) (hdg : Lx.isDig s[k] = true) :
   Calls Tryz.prog 141 #[.pointer (some ⟨B, 0, none⟩)] w (Told (Lx.oneT (s.data.toList.drop k)) w B s k st outOne) := by
 have hsm := h.small
 have HL := hd (oneT_digit s k hk hl hdg)
 have HPos : Hid (0 < Lx.cnt Lx.isDig (s.data.toList.drop k)) := by show 0 < _; rw [drop_at s k hk]; exact Lx.cnt_pos hdg
 have HSub := hd (cnt_sub (s.data.toList.drop k))
 rw [List.drop_drop] at HSub
 go_enter Tryz.func141, Tryz.ntmps141
 go_wp2_with fail
 refine (takeAll_isDigit w B s k st h).mono ?_
 rintro e w1 ⟨u, rfl, hu, h1, g1⟩
 have hcl := Lx.cnt_le Lx.isDig (s.data.toList.drop k)
 rw [List.length_drop, show s.data.toList.length = s.size from by simp] at hcl
 generalize hgn : Lx.cnt Lx.isDig (s.data.toList.drop k) = n at *
 have HGN := hd hgn
 clear hgn
 have HU := hd hu
 have hus : u.size = n := by
  rw [Lib.size_eq, hu]
  simp; omega
 have hus2 : u.size ≤ 2000 := by omega
 have HUS := hd hus
 clear hu hus
 go_wp2_with fail
 refine (peek_any w1 B s (k + n) st h1).mono ?_
 rintro e w2 ⟨rfl, hb2⟩
 have h2 := h1.below hb2
 have G2 := hd (grownBy_trans g1 (Below.grownBy hb2))
 clear hb2
 have HPk := hd (peek_fits fits_wd (by decide) (by decide) (fun b hb => by unfold Lx.isWd Lx.isDig Lx.isLet; simp; omega) s (k + n))
 generalize peekN s (k + n) = d at *
 obtain ⟨c, m⟩ := d
 simp only at HPk ⊢
 go_wp2_with fail
 refine (inWord_any _ _).mono ?_
 rintro e w' ⟨rfl, rfl⟩
 rw [HPk.out]
 by_cases hw : 0 < Lx.cnt Lx.isWd (s.data.toList.drop (k + n))
 · go_wp2_with fail
   refine (fail_any _ B s (k + n) st 2 h2).mono ?_
   rintro e w3 ⟨rfl, rfl⟩
   refine ⟨rfl, G2.out, ?_⟩
   rw [HL.out, if_pos (by rw [HSub.out]; omega)]
   rfl
 · have HL2 : Hid (Lx.oneT (s.data.toList.drop k) = if Lx.overTop (Lx.leastB u.data.toList) then .error 3 else .ok (16, Lx.leastB u.data.toList, n)) := by rw [HL.out, if_neg (by rw [HSub.out]; omega), HU.out]; rfl
   go_wp2_with fail
   refine (Tryz.strings_TrimLeft_one u 48 (by decide) _).mono ?_
   rintro e w3 ⟨rfl, rfl⟩
   obtain ⟨t, htt⟩ : ∃ t : ByteArray, t = ⟨(Lib.trimLeftB u.data.toList 48).toArray⟩ := ⟨_, rfl⟩
   rw [← htt]
   have HTT : Hid (t.data.toList = u.data.toList.dropWhile (· == 48)) := by rw [htt]; show _ = _; simp [Lib.trimLeftB]
   clear htt
   have hts : t.size ≤ 2000 := by
    rw [Lib.size_eq, HTT.out]
    have := (List.dropWhile_suffix (l := u.data.toList) (· == 48)).length_le
    rw [← Lib.size_eq] at this
    omega
   have HLT := hd (least_trim u.data.toList (by intro e; have := HUS.out; rw [Lib.size_eq, e] at this; have := HPos.out; simp at *; omega))
   rw [← HTT.out] at HLT
   cases hem : t.toList.isEmpty
   · have hne : t.data.toList ≠ [] := by intro e; rw [Lib.toList_data, e] at hem; cases hem
     have HNE := hd hne
     clear hne
     go_wp2_with fail
     refine (isAbove_any t _ (by omega)).mono ?_
     rintro e w3 ⟨rfl, rfl⟩
     cases hov : Lx.overTop t.data.toList
     · go_wp2
       go_ret
       refine ⟨G2.out, ?_⟩
       rw [HL2.out, HLT.out, if_neg HNE.out, hov]
       exact ⟨t, rfl, rfl, h2⟩
     · go_wp2_with fail
       refine (fail_any _ B s (k + n) st 3 h2).mono ?_
       rintro e w3 ⟨rfl, rfl⟩
       refine ⟨rfl, G2.out, ?_⟩
       rw [HL2.out, HLT.out, if_neg HNE.out, hov]
       rfl
   · have he : t.data.toList = [] := by rw [Lib.toList_data] at hem; simpa using hem
     have HE := hd he
     clear he
     go_wp2
     go_ret
     refine ⟨G2.out, ?_⟩
     rw [HL2.out, HLT.out, if_pos HE.out]
     exact ⟨⟨#[48]⟩, rfl, rfl, h2⟩
def firstPre : List Lx.Bs → Lx.Bs → Option Lx.Bs
 | [], _ => none
 | a :: r, l => if Lib.hasPrefix l a then some a else firstPre r l
theorem hasB_cons (a : Lx.Bs) (ss : List Lx.Bs) (x : Lx.Bs) : Lx.hasB (a :: ss) x = true ↔ a = x ∨ Lx.hasB ss x = true := by
 show (a == x || Lx.hasB ss x) = true ↔ _
 simp
theorem firstPre_two (l : Lx.Bs) : ∀ ss : List Lx.Bs, (∀ x ∈ ss, x.length = 2) → ∀ rest, firstPre (ss ++ rest) l = if 2 ≤ l.length ∧ Lx.hasB ss (l.take 2) = true then some (l.take 2) else firstPre rest l
 | [], _, rest => by simp [Lx.hasB]
 | a :: ss, h, rest => by
  have ih := firstPre_two l ss (fun x hx => h x (by simp [hx])) rest
  have ha : a.length = 2 := h a (by simp)
  have hp := Lib.hasPrefix_of_take l a
  rw [ha] at hp
  show (if Lib.hasPrefix l a = true then some a else firstPre (ss ++ rest) l) = _
  by_cases hc : 2 ≤ l.length ∧ l.take 2 = a
  · rw [if_pos (by rw [← hp]; simp [hc.1, hc.2]), if_pos ⟨hc.1, (hasB_cons _ _ _).2 (.inl hc.2.symm)⟩, hc.2]
  · rw [if_neg (by rw [← hp]; simpa using fun h1 h2 => hc ⟨h1, h2⟩), ih]
    by_cases hd : 2 ≤ l.length ∧ Lx.hasB ss (l.take 2) = true
    · rw [if_pos hd, if_pos ⟨hd.1, (hasB_cons _ _ _).2 (.inr hd.2)⟩]
    · rw [if_neg hd, if_neg]
      rintro ⟨q1, q2⟩
      rcases (hasB_cons _ _ _).1 q2 with q | q
      · exact hc ⟨q1, q.symm⟩
      · exact hd ⟨q1, q⟩
theorem firstPre_one (l : Lx.Bs) (hl : l ≠ []) : ∀ ss : List Lx.Bs, (∀ x ∈ ss, x.length = 1) → firstPre ss l = if Lx.hasB ss (l.take 1) = true then some (l.take 1) else none
 | [], _ => by simp [Lx.hasB, firstPre]
 | a :: ss, h => by
  have ih := firstPre_one l hl ss (fun x hx => h x (by simp [hx]))
  have ha : a.length = 1 := h a (by simp)
  have hp := Lib.hasPrefix_of_take l a
  rw [ha] at hp
  have h1 : 1 ≤ l.length := List.length_pos_iff.2 hl
  show (if Lib.hasPrefix l a = true then some a else firstPre ss l) = _
  by_cases hc : l.take 1 = a
  · rw [if_pos (by rw [← hp]; simp [h1, hc]), if_pos ((hasB_cons _ _ _).2 (.inl hc.symm)), hc]
  · rw [if_neg (by rw [← hp]; simpa using fun _ h2 => hc h2), ih]
    by_cases hd : Lx.hasB ss (l.take 1) = true
    · rw [if_pos hd, if_pos ((hasB_cons _ _ _).2 (.inr hd))]
    · rw [if_neg hd, if_neg]
      intro q2
      rcases (hasB_cons _ _ _).1 q2 with q | q
      · exact hc q.symm
      · exact hd q
theorem sign_spec (s : ByteArray) (k : Nat) (hk : k < s.size) (hl : Lx.isLet s[k] = false) (hdg : Lx.isDig s[k] = false) (hq : ¬ (s[k].toNat = 39 ∨ s[k].toNat = 34)) :
   Lx.oneT (s.data.toList.drop k) = match firstPre sgns (s.data.toList.drop k) with | some x => .ok (51, x, x.length) | none => .error 2 := by
 have e := drop_at s k hk
 have el : (s.data.toList.drop k).length = s.size - k := by simp
 rw [oneT_sign s k hk hl hdg hq]
 unfold sgns
 rw [firstPre_two _ Lx.twos (by decide) Lx.ones, firstPre_one _ (by rw [e]; simp) Lx.ones (by decide), el]
 by_cases h1 : 2 ≤ s.size - k ∧ Lx.hasB Lx.twos ((s.data.toList.drop k).take 2) = true
 · rw [if_pos h1, if_pos h1]
   simp only
   rw [List.length_take, el, Nat.min_eq_left h1.1]
 · rw [if_neg h1, if_neg h1]
   by_cases h2 : Lx.hasB Lx.ones ((s.data.toList.drop k).take 1) = true
   · rw [if_pos h2, if_pos h2]
     simp only
     rw [List.length_take, el, Nat.min_eq_left (by omega)]
   · rw [if_neg h2, if_neg h2]
theorem firstPre_at (ss : List Lx.Bs) (l : Lx.Bs) (k : Nat) (h : k < ss.length) : firstPre (ss.drop k) l = if Lib.hasPrefix l (ss.getD k []) then some (ss.getD k []) else firstPre (ss.drop (k + 1)) l := by
 rw [List.drop_eq_getElem_cons h, List.getD_eq_getElem?_getD, List.getElem?_eq_getElem h]
 rfl
theorem hasPrefix_le {l p : Lx.Bs} (h : Lib.hasPrefix l p = true) : p.length ≤ l.length := by
 unfold Lib.hasPrefix at h
 exact (List.isPrefixOf_iff_prefix.1 h).length_le
theorem sign_any (w : World) (B : Nat) (s : ByteArray) (k st : Nat) (h : Rd w B s k st) (hk : k < s.size) (hl : Lx.isLet s[k] = false) (hdg : Lx.isDig s[k] = false) (hq : ¬ (s[k].toNat = 39 ∨ s[k].toNat = 34)) :
   Calls Tryz.prog 146 #[.pointer (some ⟨B, 0, none⟩)] w (Told (Lx.oneT (s.data.toList.drop k)) w B s k st outOne) := by
 have hsm := h.small
 have HSp := hd (sign_spec s k hk hl hdg hq)
 obtain ⟨ty, fr, hg⟩ := h.env.sgs
 have HG : Hid (w.drew.heap[3]? = some (.cells (strRow sgns) ty fr)) := hg
 clear hg hl hdg hq
 obtain ⟨⟨b0, b1, b2⟩, b3, b4, b5⟩ := h.blk.three
 have HX := hd (Lib.extract_to_end s k)
 go_enter Tryz.func146, Tryz.ntmps146
 go_wp2
 go_region
 all_goals go_wp2_with (refine wpList_load_row rfl 305 _ rfl 3 rfl ty _ fr _ HG.out Tryz.underlying305 rfl (by kernel_rfl) ?_)
 go_loop [16] (fun i => ∃ j : Nat, j ≤ 16 ∧ i = .int .i64 j ∧ Hid (firstPre sgns (s.data.toList.drop k) = firstPre (sgns.drop j) (s.data.toList.drop k))) (fun i => 16 - (intOf i).toNat)
 case atStart => exact ⟨0, by omega, rfl, rfl⟩
 case round =>
  obtain ⟨j, hj, rfl, HK⟩ := hrel
  by_cases hlt : j < 16
  · have hix := index_sign j hlt
    have HS := hd (firstPre_at sgns (s.data.toList.drop k) j hlt)
    obtain ⟨u, hu⟩ : ∃ u : ByteArray, u = ⟨(sgns.getD j []).toArray⟩ := ⟨_, rfl⟩
    have HU : Hid (u.data.toList = sgns.getD j []) := by rw [hu]; show _ = _; simp
    rw [← hu] at hix
    clear hu
    rw [← HU.out] at HS
    go_wp2_with fail
    refine (Tryz.strings_HasPrefix _ _ _).mono ?_
    rintro e w' ⟨rfl, rfl⟩
    rw [HX.out]
    cases hpx : Lib.hasPrefix (s.data.toList.drop k) u.data.toList
    · go_wp2
      go_round
      case rel => exact ⟨j + 1, by omega, by go_num, by show _ = _; rw [HK.out, HS.out, hpx]; rfl⟩
      case measure => simp [intOf]; omega
    · have hul : u.size ≤ s.size - k := by
       have := hasPrefix_le hpx
       rw [← Lib.size_eq] at this
       simpa using this
      go_wp2
      go_ret
      refine ⟨grownBy_trans (grownBy_drew (grownBy_refl _ _)) (grownBy_set _ B 1 _), ?_⟩
      rw [HSp.out, HK.out, HS.out, hpx]
      refine ⟨u, rfl, rfl, ?_⟩
      have := h.drew.set1 (k + u.size) (by omega)
      rw [← Lib.size_eq]; exact this
  · go_wp2_with fail
    refine (fail_any _ B s k st 2 h.drew).mono ?_
    rintro e w3 ⟨rfl, rfl⟩
    refine ⟨rfl, grownBy_drew (grownBy_refl _ _), ?_⟩
    rw [HSp.out, HK.out, List.drop_eq_nil_of_le (by show 16 ≤ j; omega)]
    rfl
theorem folB_take (l x : Lx.Bs) (n i lo hi : Nat) (hi' : i < n) (hn : n ≤ l.length) : Lx.folB (l.take n ++ x) i lo hi = Lx.folB l i lo hi := by
 unfold Lx.folB
 rw [List.getElem?_append_left (by simp; omega), List.getElem?_take_of_lt hi']
theorem charN_take (l x : Lx.Bs) (h0 : Lx.charN l ≠ 0) : Lx.charN (l.take (Lx.charN l) ++ x) = Lx.charN l := by
 have hle := Lx.charN_le l
 obtain ⟨n, hn⟩ : ∃ n, Lx.charN l = n := ⟨_, rfl⟩
 rw [hn] at h0 hle ⊢
 match l, hn, hle with
 | [], hn, hle => simp [Lx.charN] at hn; omega
 | b :: r, hn, hle =>
  obtain ⟨n', rfl⟩ : ∃ n', n = n' + 1 := ⟨n - 1, by omega⟩
  have ft := folB_take (b :: r) x (n' + 1)
  have e : (b :: r).take (n' + 1) ++ x = b :: (r.take n' ++ x) := by simp
  simp only [e] at ft
  rw [e]
  simp only [Lx.charN] at hn ⊢
  by_cases c1 : b.toNat < 128
  · rw [if_pos c1] at hn ⊢; exact hn
  · rw [if_neg c1] at hn ⊢
    by_cases c2 : (194 ≤ b.toNat ∧ b.toNat ≤ 223) ∧ Lx.folB (b :: r) 1 128 191 = true
    · rw [if_pos c2] at hn
      rw [if_pos ⟨c2.1, by rw [ft 1 128 191 (by omega) hle]; exact c2.2⟩]; exact hn
    · rw [if_neg c2] at hn
      by_cases c3 : (224 ≤ b.toNat ∧ b.toNat ≤ 239) ∧ Lx.folB (b :: r) 1 (Lx.loOf b.toNat) (Lx.hiOf b.toNat) = true ∧ Lx.folB (b :: r) 2 128 191 = true
      · rw [if_pos c3] at hn
        rw [if_neg (by omega), if_pos ⟨c3.1, by rw [ft 1 _ _ (by omega) hle]; exact c3.2.1, by rw [ft 2 _ _ (by omega) hle]; exact c3.2.2⟩]; exact hn
      · rw [if_neg c3] at hn
        by_cases c4 : (240 ≤ b.toNat ∧ b.toNat ≤ 244) ∧ Lx.folB (b :: r) 1 (Lx.loOf b.toNat) (Lx.hiOf b.toNat) = true ∧ Lx.folB (b :: r) 2 128 191 = true ∧ Lx.folB (b :: r) 3 128 191 = true
        · rw [if_pos c4] at hn
          rw [if_neg (by omega), if_neg (by omega), if_pos ⟨c4.1, by rw [ft 1 _ _ (by omega) hle]; exact c4.2.1, by rw [ft 2 _ _ (by omega) hle]; exact c4.2.2.1, by rw [ft 3 _ _ (by omega) hle]; exact c4.2.2.2⟩]; exact hn
        · rw [if_neg c4] at hn; omega
theorem valid_char (l x : Lx.Bs) (h0 : Lx.charN l ≠ 0) (hb : ∀ b r, l = b :: r → b.toNat ≠ 0) : Lx.validN (l.take (Lx.charN l) ++ x) = Lx.validN x := by
 have hle := Lx.charN_le l
 have hc := charN_take l x h0
 obtain ⟨n, hn⟩ : ∃ n, Lx.charN l = n := ⟨_, rfl⟩
 rw [hn] at h0 hle hc ⊢
 match l, hb, hle, hc with
 | [], hb, hle, hc => simp at hle; omega
 | b :: r, hb, hle, hc =>
  obtain ⟨n', rfl⟩ : ∃ n', n = n' + 1 := ⟨n - 1, by omega⟩
  have e : (b :: r).take (n' + 1) ++ x = b :: (r.take n' ++ x) := by simp
  rw [e] at hc ⊢
  rw [Lx.validN_cons, hc, if_neg (by have := hb b r rfl; omega)]
  congr 1
  simp only [List.drop_succ_cons]
  have hl : (r.take n').length = n' := by simp at hle ⊢; omega
  rw [List.drop_append, hl, Nat.sub_self, List.drop_zero, List.drop_eq_nil_of_le (by omega), List.nil_append]
theorem betw_head (m : UInt8) (r x : Lx.Bs) (n lo hi : Nat) (hm : m.toNat < lo) (h : Lx.betw m r = some (x, n)) : Lx.folB x 0 lo hi = Lx.folB r 0 lo hi ∧ (Lx.folB r 0 lo hi = true → ∃ c r1 x1 n1, r = c :: r1 ∧ x = c :: x1 ∧ Lx.betw m r1 = some (x1, n1)) := by
 match r, h with
 | [], h => simp [Lx.betw] at h
 | c :: r1, h =>
  by_cases hc : c = m
  · subst hc
    have fr : Lx.folB (c :: r1) 0 lo hi = false := by simp [Lx.folB]; omega
    rw [fr]
    refine ⟨?_, by simp⟩
    match r1, h with
    | [], h => simp [Lx.betw] at h; rw [h.1]; rfl
    | d :: r2, h =>
     simp only [Lx.betw, if_true] at h
     split at h
     · simp only [Option.map_eq_some_iff, Prod.exists, Prod.mk.injEq] at h
       obtain ⟨x', n', _, rfl, _⟩ := h
       simp [Lx.folB]; omega
     · simp at h; rw [h.1]; rfl
  · rw [betw_other m c r1 hc] at h
    simp only [Option.map_eq_some_iff, Prod.exists, Prod.mk.injEq] at h
    obtain ⟨x1, n1, h1, rfl, _⟩ := h
    exact ⟨rfl, fun _ => ⟨c, r1, x1, n1, rfl, rfl, h1⟩⟩
theorem folB_succ (b : UInt8) (r : Lx.Bs) (i lo hi : Nat) : Lx.folB (b :: r) (i + 1) lo hi = Lx.folB r i lo hi := by
 unfold Lx.folB
 rw [List.getElem?_cons_succ]
theorem betw_char (m b : UInt8) (r x : Lx.Bs) (n : Nat) (hm : m.toNat < 128) (h : Lx.betw m r = some (x, n)) : Lx.charN (b :: x) = Lx.charN (b :: r) := by
 have lo : ∀ b, 128 ≤ Lx.loOf b := by
  intro b; unfold Lx.loOf
  repeat' split
  all_goals omega
 have e1 := (betw_head m r x n 128 191 (by omega) h).1
 have e2 := betw_head m r x n (Lx.loOf b.toNat) (Lx.hiOf b.toNat) (by have := lo b.toNat; omega) h
 simp only [Lx.charN, folB_succ b x 0, folB_succ b r 0, folB_succ b x 1, folB_succ b r 1, folB_succ b x 2, folB_succ b r 2, e1, e2.1]
 cases hn : Lx.folB r 0 (Lx.loOf b.toNat) (Lx.hiOf b.toNat)
 · simp
 · obtain ⟨c, r1, x1, n1, rfl, rfl, h1⟩ := e2.2 hn
   have e3 := betw_head m r1 x1 n1 128 191 (by omega) h1
   simp only [folB_succ c x1 0, folB_succ c r1 0, folB_succ c x1 1, folB_succ c r1 1, e3.1]
   cases hn2 : Lx.folB r1 0 128 191
   · simp
   · obtain ⟨d, r2, x2, n2, rfl, rfl, h2⟩ := e3.2 hn2
     have e4 := betw_head m r2 x2 n2 128 191 (by omega) h2
     simp only [folB_succ d x2 0, folB_succ d r2 0, e4.1]
theorem betw_bad (m : UInt8) (l t : Lx.Bs) (n : Nat) (hm : m.toNat < 128) (hm0 : m.toNat ≠ 0) (hl : l ≠ []) (h : Lx.betw m l = some (t, n)) (hb : Lx.charN l = 0 ∨ l.head? = some 0) : Lx.validN t = false := by
 match l, hl, h, hb with
 | b :: r, _, h, hb =>
  have hbm : b ≠ m := by
   rintro rfl
   rcases hb with hb | hb
   · simp [Lx.charN, hm] at hb
   · simp at hb; subst hb; simp at hm0
  rw [betw_other m b r hbm] at h
  simp only [Option.map_eq_some_iff, Prod.exists, Prod.mk.injEq] at h
  obtain ⟨x, n', h1, rfl, _⟩ := h
  rw [Lx.validN_cons, if_pos]
  rcases hb with hb | hb
  · left; rw [betw_char m b r x n' hm h1]; exact hb
  · right; simp at hb; subst hb; rfl
theorem BetwAt.others {m : UInt8} : ∀ (n : Nat) {l : Lx.Bs} {k : Nat} {acc : Lx.Bs}, BetwAt m l k acc → k + n ≤ l.length → (∀ j, j < n → (l.drop k)[j]? ≠ some m) → BetwAt m l (k + n) (acc ++ (l.drop k).take n)
 | 0, l, k, acc, h, _, _ => by simpa using h
 | n + 1, l, k, acc, h, hk, hne => by
  have e : l.drop k = l[k]'(by omega) :: l.drop (k + 1) := List.drop_eq_getElem_cons (by omega)
  have h1 := h.other e (by have := hne 0 (by omega); rw [e, List.getElem?_cons_zero] at this; exact fun q => this (by rw [q]))
  have h2 := BetwAt.others n h1 (by omega) (fun j hj => by have := hne (j + 1) (by omega); rw [e, List.getElem?_cons_succ] at this; exact this)
  rw [show k + 1 + n = k + (n + 1) from by omega] at h2
  rw [e, List.take_succ_cons]
  simpa using h2
def quoteR (s : ByteArray) (k : Nat) (m : UInt8) : Except Nat (Nat × Lx.Bs × Nat) :=
 match Lx.betw m (s.data.toList.drop (k + 1)) with
 | some (t, n) => if Lx.validN t = true then .ok (0, t, n + 1) else .error 2
 | none => .error 2
structure Quo (s : ByteArray) (k : Nat) (m : UInt8) (j : Nat) (acc : Lx.Bs) : Prop where
 at_ : BetwAt m (s.data.toList.drop (k + 1)) (j - (k + 1)) acc
 ge : k + 1 ≤ j
 ok : ∀ x, Lx.validN (acc ++ x) = Lx.validN x
theorem Quo.dropped {s : ByteArray} {k : Nat} {m : UInt8} {j : Nat} {acc : Lx.Bs} (h : Quo s k m j acc) : (s.data.toList.drop (k + 1)).drop (j - (k + 1)) = s.data.toList.drop j := by
 rw [List.drop_drop]; congr 1; have := h.ge; omega
theorem Quo.len {s : ByteArray} {k : Nat} {m : UInt8} {j : Nat} {acc : Lx.Bs} (h : Quo s k m j acc) : acc.length ≤ j := by
 have := h.at_.2; omega
theorem Quo.start (s : ByteArray) (k : Nat) (m : UInt8) : Quo s k m (k + 1) [] :=
 ⟨by rw [Nat.sub_self]; exact BetwAt.start _ _, by omega, fun x => rfl⟩
theorem Quo.fail {s : ByteArray} {k : Nat} {m : UInt8} {j : Nat} {acc : Lx.Bs} (h : Quo s k m j acc) (hm : m.toNat < 128) (hm0 : m.toNat ≠ 0)
   (hb : s.data.toList.drop j = [] ∨ Lx.charN (s.data.toList.drop j) = 0 ∨ (s.data.toList.drop j).head? = some 0) : quoteR s k m = .error 2 := by
 unfold quoteR
 have hq := h.at_.1
 rw [h.dropped] at hq
 by_cases he : s.data.toList.drop j = []
 · rw [he] at hq
   rw [hq]; rfl
 · cases hbe : Lx.betw m (s.data.toList.drop j) with
   | none => rw [hbe] at hq; rw [hq]; rfl
   | some y =>
    obtain ⟨x, n⟩ := y
    rw [hbe] at hq
    rw [hq]
    simp only [Option.map_some]
    rw [h.ok, betw_bad m _ x n hm hm0 he hbe (hb.resolve_left he)]
    rfl
theorem Quo.done {s : ByteArray} {k : Nat} {m : UInt8} {j : Nat} {acc r : Lx.Bs} (h : Quo s k m j acc) (e : s.data.toList.drop j = m :: r) (hr : r.head? ≠ some m) : quoteR s k m = .ok (0, acc, j - k + 1) := by
 unfold quoteR
 have hq := h.at_.last (r := r) (by rw [h.dropped, e]) hr
 rw [hq]
 have hv := h.ok []
 rw [List.append_nil] at hv
 simp only
 rw [hv, if_pos (show Lx.validN [] = true from rfl)]
 have := h.ge
 congr 3; omega
theorem Quo.double {s : ByteArray} {k : Nat} {m : UInt8} {j : Nat} {acc r : Lx.Bs} (h : Quo s k m j acc) (hm : m.toNat < 128) (hm0 : m.toNat ≠ 0) (e : s.data.toList.drop j = m :: m :: r) : Quo s k m (j + 2) (acc ++ [m]) := by
 have hg := h.ge
 refine ⟨?_, by omega, ?_⟩
 · rw [show j + 2 - (k + 1) = j - (k + 1) + 2 from by omega]
   exact h.at_.double (r := r) (by rw [h.dropped, e])
 · intro x
   rw [List.append_assoc, h.ok]
   have hc : Lx.charN [m] = 1 := by simp [Lx.charN, hm]
   have := valid_char [m] x (by rw [hc]; simp) (by rintro b r' e'; simp at e'; rw [← e'.1]; exact hm0)
   rw [hc] at this
   exact this
theorem Quo.char {s : ByteArray} {k : Nat} {m : UInt8} {j : Nat} {acc : Lx.Bs} (h : Quo s k m j acc) (hj : j < s.size) (hm : m.toNat < 128) (hc : Lx.charN (s.data.toList.drop j) ≠ 0) (h0 : s[j].toNat ≠ 0) (hne : s[j] ≠ m) :
   Quo s k m (j + Lx.charN (s.data.toList.drop j)) (acc ++ (s.data.toList.drop j).take (Lx.charN (s.data.toList.drop j))) := by
 have hg := h.ge
 have hle := Lx.charN_le (s.data.toList.drop j)
 have hsz : s.data.toList.length = s.size := by simp
 rw [List.length_drop, hsz] at hle
 have hgood := dec_good s j hj hc
 have e := drop_at s j hj
 refine ⟨?_, by omega, ?_⟩
 · rw [show j + Lx.charN (s.data.toList.drop j) - (k + 1) = j - (k + 1) + Lx.charN (s.data.toList.drop j) from by omega]
   have := BetwAt.others (Lx.charN (s.data.toList.drop j)) h.at_ (by rw [List.length_drop, hsz]; omega) (by
    intro i hi
    rw [h.dropped, List.getElem?_drop, List.getElem?_eq_getElem (by rw [hsz]; omega)]
    rcases hgood.2.2 with ⟨q, _, _⟩ | ⟨q, _, q2⟩
    · have : i = 0 := by omega
      subst this
      exact fun q => hne (Option.some.inj q)
    · have hh := (char_high s j hj q2).2.2 i (by rw [hgood.1]; exact hi)
      rw [get_here s (j + i) (by omega)] at hh
      intro e2
      have : s[j + i] = m := Option.some.inj e2
      rw [this] at hh
      omega)
   rw [h.dropped] at this
   exact this
 · intro x
   rw [List.append_assoc, h.ok]
   exact valid_char _ x hc (by rintro b r' e'; rw [e] at e'; simp at e'; rw [← e'.1]; exact h0)
theorem Rd.under {w w' : World} {B N : Nat} {s : ByteArray} {k st : Nat} (h : Rd w B s k st) (hb : Below N w w') (hB : B < N) : Rd w' B s k st := by
 have hlow := h.low
 have hk : ∀ i, i < 12 → w'.heap[i]? = w.heap[i]? := fun i hi => hb.block i (by omega)
 refine ⟨h.blk.below hb hB, h.low, ⟨⟨fun c hc => ?_, fun i hi => ?_⟩, ?_, ?_, Nat.le_trans h.env.room hb.size⟩, h.le, h.small⟩
 · rw [World.cell?_of_block (w := w) (hk _ (by simp))]; exact h.env.tabs.1 c hc
 · rw [World.cell?_of_block (w := w) (hk _ (by simp)), World.cell?_of_block (w := w) (hk _ (by simp))]; exact h.env.tabs.2 i hi
 · rw [hk _ (by simp)]; exact h.env.kws
 · rw [hk _ (by simp)]; exact h.env.sgs
theorem grownBy_under {w w1 w2 : World} {N : Nat} {row : Option Nat} (h : w.grownBy w1 row) (hb : Below N w1 w2) (hN : w.heap.size ≤ N) : w.grownBy w2 row :=
 ⟨hb.os.trans h.os, hb.tape.trans h.tape, hb.output.trans h.output, Nat.le_trans h.size hb.size, fun k hk hne => (hb.block k (by omega)).trans (h.block k hk hne)⟩
theorem builder_kept {T e : TypeId} {N b B : Nat} {bs : List Value} {w w' : World} (h : Lib.IsBuilderF T e N b bs w) (hg : w.grownBy w' (some B)) (hB : B < N) : Lib.IsBuilderF T e N b bs w' := by
 have one : ∀ p, Lib.BuilderAtF T e N b p bs w → Lib.BuilderAtF T e N b p bs w' := by
  rintro p ⟨hNb, v, hb, hown, hne⟩
  refine ⟨hNb, v, ?_, hown.kept hg ?_, hne⟩
  · rw [hg.block b (Array.getElem?_eq_some_iff.1 hb).1 (by simp; omega)]; exact hb
  · cases hv : v.ownBlock with
    | none => exact .inl rfl
    | some g => right; have := (hown.lt g hv).1; simp; omega
 exact h.elim (fun x => .inl (one _ x)) (fun x => .inr (one _ x))
theorem builder_new (w : World) (T e : TypeId) : Lib.IsBuilderF T e w.heap.size w.heap.size [] (w.alloc (.cells #[.pointer none, .slice none 0 0] T)) :=
 .inl ⟨Nat.le_refl _, .slice none 0 0, heap_alloc_new w _, World.ownsRowF_nil _ _ _ _, by simp [Value.ownBlock]⟩
theorem peek_mark (s : ByteArray) (k : Nat) (m : UInt8) (hm : m.toNat < 128) : (peekN s k).1 = (m.toNat : Int) ↔ (s.data.toList.drop k).head? = some m := by
 unfold peekN
 by_cases hk : k < s.size
 · rw [if_pos hk, drop_at s k hk, List.head?_cons, ← drop_at s k hk]
   by_cases hc : Lx.charN (s.data.toList.drop k) = 0
   · rw [if_pos hc]
     have := (dec_bad s k hk hc).2
     constructor
     · intro e; simp at e
     · intro e; simp at e; rw [e] at this; omega
   · rw [if_neg hc]
     rcases (dec_good s k hk hc).2.2 with ⟨_, q2, q3⟩ | ⟨_, q2, q3⟩
     · simp only
       rw [q2]
       constructor
       · intro e; congr 1; exact UInt8.toNat_inj.1 (by omega)
       · intro e; simp at e; rw [e]
     · simp only
       constructor
       · intro e; omega
       · intro e; simp at e; rw [e] at q3; omega
 · rw [if_neg hk, List.drop_eq_nil_of_le (by simp; have : s.data.size = s.size := rfl; omega)]
   simp
theorem enc_mark (m : UInt8) (hm : m.toNat < 128) : Lib.byteCells [m] = Lib.runeCells (m.toNat : Int) := by
 rw [← Lib.byteCells_encodeRune]
 unfold Lib.encodeRune
 rw [Lib.encodeRuneZ_one (by omega) (by omega)]
 simp
theorem quoted_any (w : World) (B : Nat) (s : ByteArray) (k st : Nat) (h : Rd w B s k st) (hk : k < s.size) (hm : s[k].toNat < 128) (hm0 : s[k].toNat ≠ 0) :
   Calls Tryz.prog 144 #[.pointer (some ⟨B, 0, none⟩)] w (Told (quoteR s k s[k]) w B s k st outOne) := by
 have hsm := h.small
 have hpk : peekN s k = ((s[k].toNat : Int), 1) := by
  have hc : Lx.charN (s.data.toList.drop k) = 1 := by rw [drop_at s k hk]; simp [Lx.charN, hm]
  unfold peekN
  rw [if_pos hk, hc, if_neg (by simp), decode_ascii s k hk hm]
 obtain ⟨m, hmm⟩ : ∃ m, m = s[k] := ⟨_, rfl⟩
 rw [← hmm] at hm hm0 hpk ⊢
 clear hmm
 have HPK := hd hpk
 clear hpk
 go_enter Tryz.func144, Tryz.ntmps144
 go_wp2_with fail
 refine (take_any w B s k st h).mono ?_
 rintro e w1 ⟨rfl, h1, g1⟩
 rw [HPK.out] at h1 ⊢
 simp only at h1 ⊢
 have hBlt : B < w1.heap.size := h1.blk.lt
 have hwle : w.heap.size ≤ w1.heap.size := g1.size
 have HG1 := hd g1
 clear g1
 go_wp2
 go_loopw [5] (fun _ wr => ∃ (j : Nat) (acc : Lx.Bs), Hid (Quo s k m j acc) ∧ Hid (Rd wr B s j st) ∧ Hid (w.grownBy wr (some B)) ∧ Hid (Lib.IsBuilderF 303 5 w1.heap.size w1.heap.size (Lib.byteCells acc) wr) ∧ w1.heap.size ≤ wr.heap.size) (fun _ wr => s.size - atOf wr B)
 case atStart => exact ⟨k + 1, [], Quo.start _ _ _, h1.below ((Below.refl _ _).alloc (Nat.le_refl _) _), grownBy_trans HG1.out (Below.grownBy ((Below.refl _ _).alloc (Nat.le_refl _) _)), builder_new _ _ _, by simp⟩
 case round =>
  obtain ⟨j, acc, HQ, HR, HG, HBd, hsz⟩ := hrel
  have hjle := HR.out.le
  have haccl := HQ.out.len
  go_wp2_with fail
  refine (take_any wr B s j st HR.out).mono ?_
  rintro e w2 ⟨rfl, h2, g2⟩
  have HG2 := hd (grownBy_trans HG.out g2)
  have HB2 := hd (builder_kept HBd.out g2 hBlt)
  have hsz2 : w1.heap.size ≤ w2.heap.size := Nat.le_trans hsz g2.size
  clear g2
  by_cases hjs : j < s.size
  · by_cases hc : Lx.charN (s.data.toList.drop j) = 0
    · have hp : peekN s j = (-2, 1) := by unfold peekN; rw [if_pos hjs, if_pos hc]
      have HF := hd (HQ.out.fail hm hm0 (.inr (.inl hc)))
      rw [hp] at h2 ⊢
      simp only at h2 ⊢
      clear hp hc
      go_wp2_with fail
      refine (fail_any _ B s (j + 1) st 2 h2).mono ?_
      rintro e w3 ⟨rfl, rfl⟩
      refine ⟨rfl, HG2.out, ?_⟩
      rw [HF.out]
      rfl
    · obtain ⟨d1, d2, d3⟩ := dec_good s j hjs hc
      have hp : peekN s j = (((Utf8.decode s j).1 : Int), Lx.charN (s.data.toList.drop j)) := by unfold peekN; rw [if_pos hjs, if_neg hc]
      by_cases h0 : s[j].toNat = 0
      · have hp0 : peekN s j = (0, 1) := by
         rw [hp]
         rcases d3 with ⟨q1, q2, _⟩ | ⟨_, _, q3⟩
         · rw [q1, q2, h0]; rfl
         · omega
        have HF := hd (HQ.out.fail hm hm0 (.inr (.inr (by rw [drop_at s j hjs, List.head?_cons]; congr 1; exact UInt8.toNat_inj.1 (by rw [h0]; rfl)))))
        rw [hp0] at h2 ⊢
        simp only at h2 ⊢
        clear hp hp0 hc d1 d2 d3 h0
        go_wp2_with fail
        refine (fail_any _ B s (j + 1) st 2 h2).mono ?_
        rintro e w3 ⟨rfl, rfl⟩
        refine ⟨rfl, HG2.out, ?_⟩
        rw [HF.out]
        rfl
      · by_cases hmk : s[j] = m
        · have hp0 : peekN s j = ((m.toNat : Int), 1) := by
           rw [hp]
           rcases d3 with ⟨q1, q2, _⟩ | ⟨_, _, q3⟩
           · rw [q1, q2, hmk]
           · rw [hmk] at q3; omega
          have HD : Hid (s.data.toList.drop j = m :: s.data.toList.drop (j + 1)) := (drop_at s j hjs).trans (by rw [hmk])
          rw [hp0] at h2 ⊢
          simp only at h2 ⊢
          clear hp hp0 hc d1 d2 d3 h0 hmk
          have n1 : ¬ (m.toNat : Int) = 0 := by omega
          go_wp2_with fail
          refine (peek_any _ B s (j + 1) st h2).mono ?_
          rintro e w3 ⟨rfl, hb3⟩
          have h3 := h2.below hb3
          have HG3 := hd (grownBy_trans HG2.out (Below.grownBy hb3))
          have HB3 := hd (builder_kept HB2.out (Below.grownBy (row := some B) hb3) hBlt)
          have hsz3 : w1.heap.size ≤ w3.heap.size := Nat.le_trans hsz2 hb3.size
          clear hb3
          have HM := hd (peek_mark s (j + 1) m hm)
          by_cases hnx : (s.data.toList.drop (j + 1)).head? = some m
          · have hj1 : j + 1 < s.size := by
             rcases Nat.lt_or_ge (j + 1) s.size with q | q
             · exact q
             · rw [List.drop_eq_nil_of_le (by simp; have : s.data.size = s.size := rfl; omega)] at hnx; simp at hnx
            have hsj : s[j + 1] = m := by rw [drop_at s (j + 1) hj1] at hnx; simpa using hnx
            have hc1 : Lx.charN (s.data.toList.drop (j + 1)) = 1 := by rw [drop_at s (j + 1) hj1, hsj]; simp [Lx.charN, hm]
            have hp1 : peekN s (j + 1) = ((m.toNat : Int), 1) := by
             unfold peekN
             rw [if_pos hj1, hc1, if_neg (by simp), decode_ascii s (j + 1) hj1 (by rw [hsj]; exact hm), hsj]
            have HQ2 := hd (HQ.out.double (r := s.data.toList.drop (j + 2)) hm hm0 (by rw [HD.out, drop_at s (j + 1) hj1, hsj]))
            have HP1 := hd hp1
            rw [hp1]
            simp only
            clear hnx hsj hc1 hp1
            go_wp2_with fail
            refine (take_any w3 B s (j + 1) st h3).mono ?_
            rintro e w4 ⟨rfl, h4, g4⟩
            rw [HP1.out] at h4 ⊢
            simp only at h4 ⊢
            have HG4 := hd (grownBy_trans HG3.out g4)
            have HB4 := hd (builder_kept HB3.out g4 hBlt)
            have hsz4 : w1.heap.size ≤ w4.heap.size := Nat.le_trans hsz3 g4.size
            clear g4
            go_wp2_with fail
            refine (Tryz.Builder_WriteRune_k w1.heap.size w1.heap.size (Lib.byteCells acc) (m.toNat : Int) (by omega) (by omega) w4 HB4.out (by rw [Lib.byteCells_length]; omega) hsz4).mono ?_
            rintro e w5 ⟨rfl, hbd5, hb5, -⟩
            go_wp2_with fail
            refine ⟨⟨j + 2, acc ++ [m], HQ2.out, h4.under hb5 hBlt, grownBy_under HG4.out hb5 hwle, ?_, Nat.le_trans hsz4 hb5.size⟩, ?_⟩
            · right
              rw [Lib.byteCells_append, enc_mark m hm]; exact hbd5
            · rw [(h4.under hb5 hBlt).atOf, HR.out.atOf]; omega
          · have hne : ¬ (peekN s (j + 1)).1 = (m.toNat : Int) := fun q => hnx (HM.out.1 q)
            have HDn := hd (HQ.out.done HD.out hnx)
            generalize peekN s (j + 1) = pk at *
            obtain ⟨c', n'⟩ := pk
            simp only at hne ⊢
            have hne2 : (c' != (m.toNat : Int)) = true := by rw [bne_iff_ne]; exact hne
            clear hne hnx HM
            go_wp2_with fail
            refine (Tryz.Builder_String_any_k w1.heap.size w1.heap.size acc w3 HB3.out hsz3).mono ?_
            rintro e w4 ⟨rfl, -, hb4, -⟩
            go_wp2
            go_ret
            refine ⟨grownBy_under HG3.out hb4 hwle, ?_⟩
            rw [HDn.out]
            refine ⟨⟨acc.toArray⟩, by simp, rfl, ?_⟩
            have hge := HQ.out.ge
            rw [show k + (j - k + 1) = j + 1 from by omega]
            exact h3.under hb4 hBlt
        · have HQ2 := hd (HQ.out.char hjs hm hc h0 hmk)
          have hcm : ¬ ((Utf8.decode s j).1 : Int) = (m.toNat : Int) := by
           intro q
           rcases d3 with ⟨_, q2, _⟩ | ⟨_, q2, _⟩
           · exact hmk (UInt8.toNat_inj.1 (by omega))
           · omega
          have hc0 : ¬ ((Utf8.decode s j).1 : Int) = 0 := by
           intro q
           rcases d3 with ⟨_, q2, _⟩ | ⟨_, q2, _⟩ <;> omega
          have hcle := decode_le s j
          have hcN := Lx.charN_le (s.data.toList.drop j)
          rw [List.length_drop, show s.data.toList.length = s.size from by simp] at hcN
          rw [hp] at h2 ⊢
          simp only at h2 ⊢
          have HD2 := hd d2
          clear d1 d2 d3 hp h0 hmk
          generalize Lx.charN (s.data.toList.drop j) = n at *
          generalize (Utf8.decode s j).1 = c at *
          go_wp2_with fail
          refine (Tryz.Builder_WriteRune_k w1.heap.size w1.heap.size (Lib.byteCells acc) (c : Int) (by omega) (by omega) w2 HB2.out (by rw [Lib.byteCells_length]; omega) hsz2).mono ?_
          rintro e w5 ⟨rfl, hbd5, hb5, -⟩
          go_wp2_with fail
          refine ⟨⟨j + n, acc ++ (s.data.toList.drop j).take n, HQ2.out, h2.under hb5 hBlt, grownBy_under HG2.out hb5 hwle, ?_, Nat.le_trans hsz2 hb5.size⟩, ?_⟩
          · right
            rw [Lib.byteCells_append, ← HD2.out, Lib.byteCells_encodeRune]; exact hbd5
          · rw [(h2.under hb5 hBlt).atOf, HR.out.atOf]; omega
  · have hp : peekN s j = (-1, 0) := by unfold peekN; rw [if_neg hjs]
    have HF := hd (HQ.out.fail hm hm0 (.inl (List.drop_eq_nil_of_le (by simp; have : s.data.size = s.size := rfl; omega))))
    rw [hp] at h2 ⊢
    simp only at h2 ⊢
    clear hp
    go_wp2_with fail
    refine (fail_any _ B s (j + 0) st 2 h2).mono ?_
    rintro e w3 ⟨rfl, rfl⟩
    refine ⟨rfl, HG2.out, ?_⟩
    rw [HF.out]
    rfl
end Go.Proofs.YtaiebhhommgnbaaGreatDoor
