/- Contracts of the program's own reader: number, sign. -/
import Derived.Test.YtihchcoclncjdaaDoorCodeD
namespace Go.Proofs.YtihchcoclncjdaaDoor
open Go.RowKit
set_option linter.unusedSimpArgs false
set_option linter.unusedVariables false

/-- The rune that stands next is one of a word just where the byte is. -/
theorem peek_fits {p : Int → Bool} {q : UInt8 → Bool} (hf : Fits p q) (h1 : p (-1) = false) (h2 : p (-2) = false) (hhigh : ∀ b : UInt8, 128 ≤ b.toNat → q b = false) (s : ByteArray) (k : Nat) : p (peekN s k).1 = decide (0 < Lx.cnt q (s.data.toList.drop k)) := by
  unfold peekN
  by_cases hk : k < s.size
  · rw [if_pos hk]
    by_cases hc : Lx.charN (s.data.toList.drop k) = 0
    · rw [if_pos hc]
      have := (dec_bad s k hk hc).2
      rw [cnt_at q s k hk, if_neg (by rw [hhigh _ this]; simp)]
      simpa using h2
    · rw [if_neg hc]
      simp only
      cases hp : p ((Utf8.decode s k).1 : Int)
      · rw [hf.no s k hk hp]; simp
      · have := hf.yes s k hk hp
        rw [this.1]; simp; omega
  · rw [if_neg hk, cnt_end q s k (by omega)]
    simpa using h1

theorem cnt_sub : ∀ l : Lx.Bs, Lx.cnt Lx.isWd l = Lx.cnt Lx.isDig l + Lx.cnt Lx.isWd (l.drop (Lx.cnt Lx.isDig l))
  | [] => by simp [Lx.cnt]
  | b :: r => by
    have ih := cnt_sub r
    by_cases hb : Lx.isDig b = true
    · have hw : Lx.isWd b = true := by simp [Lx.isWd, hb]
      simp only [Lx.cnt, hb, hw, if_true, List.drop_succ_cons]; omega
    · simp [Lx.cnt, hb]

theorem cnt_all (q : UInt8 → Bool) : ∀ l : Lx.Bs, ∀ b ∈ l.take (Lx.cnt q l), q b = true
  | [], b, h => by simp at h
  | a :: r, b, h => by
    by_cases ha : q a = true
    · simp only [Lx.cnt, ha, if_true, List.take_succ_cons, List.mem_cons] at h
      rcases h with rfl | h
      · exact ha
      · exact cnt_all q r b h
    · simp [Lx.cnt, ha] at h

theorem least_trim : ∀ l : Lx.Bs, l ≠ [] → Lx.leastB l = if l.dropWhile (· == 48) = [] then [48] else l.dropWhile (· == 48)
  | [], h => absurd rfl h
  | [b], _ => by
    by_cases hb : b = 48
    · subst hb; rfl
    · have hq : (b == 48) = false := by simpa using hb
      simp [Lx.leastB, List.dropWhile, hq]
  | b :: c :: r, _ => by
    have ih := least_trim (c :: r) (by simp)
    unfold Lx.leastB
    by_cases hb : b = 48
    · subst hb
      have e : List.dropWhile (fun x => x == 48) ((48 : UInt8) :: c :: r) = List.dropWhile (fun x => x == 48) (c :: r) := by rw [List.dropWhile_cons]; rfl
      rw [if_pos (show (48 : UInt8).toNat = 48 from rfl), ih, e]
    · have : ¬ b.toNat = 48 := fun e => hb (UInt8.toNat_inj.1 (by rw [e]; rfl))
      rw [if_neg this]
      have hq : (b == 48) = false := by simpa using hb
      simp [List.dropWhile, hq]

set_option maxRecDepth 100000 in
set_option maxHeartbeats 1000000 in
theorem number_any (w : World) (B : Nat) (s : ByteArray) (k st : Nat) (h : Rd w B s k st) (hk : k < s.size) (hl : Lx.isLet s[k] = false) (hdg : Lx.isDig s[k] = true) :
    Calls Tryd.prog 40 #[.pointer (some ⟨B, 0, none⟩)] w (Told (Lx.oneT (s.data.toList.drop k)) w B s k st outOne) := by
  have hsm := h.small
  have HL := hd (oneT_digit s k hk hl hdg)
  have HPos : Hid (0 < Lx.cnt Lx.isDig (s.data.toList.drop k)) := by show 0 < _; rw [drop_at s k hk]; exact Lx.cnt_pos hdg
  have HSub := hd (cnt_sub (s.data.toList.drop k))
  rw [List.drop_drop] at HSub
  go_enter Tryd.func40, Tryd.ntmps40
  go_wp2_with fail
  refine (takeAll_isDigit w B s k st h).mono ?_
  rintro e w1 ⟨u, rfl, hu, h1, g1⟩
  have hcl := Lx.cnt_le Lx.isDig (s.data.toList.drop k)
  rw [List.length_drop, show s.data.toList.length = s.size from by simp] at hcl
  generalize hgn : Lx.cnt Lx.isDig (s.data.toList.drop k) = n at *
  have HGN := hd hgn
  clear hgn
  have HU := hd hu
  have hus : u.size = n := by
    rw [Lib.size_eq, hu]
    simp; omega
  have hus2 : u.size ≤ 2000 := by omega
  have HUS := hd hus
  clear hu hus
  go_wp2_with fail
  refine (peek_any w1 B s (k + n) st h1).mono ?_
  rintro e w2 ⟨rfl, hb2⟩
  have h2 := h1.below hb2
  have G2 := hd (grownBy_trans g1 (Below.grownBy hb2))
  clear hb2
  have HPk := hd (peek_fits fits_wd (by decide) (by decide) (fun b hb => by unfold Lx.isWd Lx.isDig Lx.isLet; simp; omega) s (k + n))
  generalize peekN s (k + n) = d at *
  obtain ⟨c, m⟩ := d
  simp only at HPk ⊢
  go_wp2_with fail
  refine (inWord_any _ _).mono ?_
  rintro e w' ⟨rfl, rfl⟩
  rw [HPk.out]
  by_cases hw : 0 < Lx.cnt Lx.isWd (s.data.toList.drop (k + n))
  · go_wp2_with fail
    refine (fail_any _ B s (k + n) st 2 h2).mono ?_
    rintro e w3 ⟨rfl, rfl⟩
    refine ⟨rfl, G2.out, ?_⟩
    rw [HL.out, if_pos (by rw [HSub.out]; omega)]
    rfl
  · have HL2 : Hid (Lx.oneT (s.data.toList.drop k) = if Lx.overTop (Lx.leastB u.data.toList) then .error 3 else .ok (16, Lx.leastB u.data.toList, n)) := by rw [HL.out, if_neg (by rw [HSub.out]; omega), HU.out]; rfl
    go_wp2_with fail
    refine (Tryd.strings_TrimLeft_one u 48 (by decide) _).mono ?_
    rintro e w3 ⟨rfl, rfl⟩
    obtain ⟨t, htt⟩ : ∃ t : ByteArray, t = ⟨(Lib.trimLeftB u.data.toList 48).toArray⟩ := ⟨_, rfl⟩
    rw [← htt]
    have HTT : Hid (t.data.toList = u.data.toList.dropWhile (· == 48)) := by rw [htt]; show _ = _; simp [Lib.trimLeftB]
    clear htt
    have hts : t.size ≤ 2000 := by
      rw [Lib.size_eq, HTT.out]
      have := (List.dropWhile_suffix (l := u.data.toList) (· == 48)).length_le
      rw [← Lib.size_eq] at this
      omega
    have HLT := hd (least_trim u.data.toList (by intro e; have := HUS.out; rw [Lib.size_eq, e] at this; have := HPos.out; simp at *; omega))
    rw [← HTT.out] at HLT
    cases hem : t.toList.isEmpty
    · have hne : t.data.toList ≠ [] := by intro e; rw [Lib.toList_data, e] at hem; cases hem
      have HNE := hd hne
      clear hne
      go_wp2_with fail
      refine (isAbove_any t _ (by omega)).mono ?_
      rintro e w3 ⟨rfl, rfl⟩
      cases hov : Lx.overTop t.data.toList
      · go_wp2
        go_ret
        refine ⟨G2.out, ?_⟩
        rw [HL2.out, HLT.out, if_neg HNE.out, hov]
        exact ⟨t, rfl, rfl, h2⟩
      · go_wp2_with fail
        refine (fail_any _ B s (k + n) st 3 h2).mono ?_
        rintro e w3 ⟨rfl, rfl⟩
        refine ⟨rfl, G2.out, ?_⟩
        rw [HL2.out, HLT.out, if_neg HNE.out, hov]
        rfl
    · have he : t.data.toList = [] := by rw [Lib.toList_data] at hem; simpa using hem
      have HE := hd he
      clear he
      go_wp2
      go_ret
      refine ⟨G2.out, ?_⟩
      rw [HL2.out, HLT.out, if_pos HE.out]
      exact ⟨⟨#[48]⟩, rfl, rfl, h2⟩

/-- The first sign of a list that a text begins with. -/
def firstPre : List Lx.Bs → Lx.Bs → Option Lx.Bs
  | [], _ => none
  | a :: r, l => if Lib.hasPrefix l a then some a else firstPre r l

theorem hasB_cons (a : Lx.Bs) (ss : List Lx.Bs) (x : Lx.Bs) : Lx.hasB (a :: ss) x = true ↔ a = x ∨ Lx.hasB ss x = true := by
  show (a == x || Lx.hasB ss x) = true ↔ _
  simp

theorem firstPre_two (l : Lx.Bs) : ∀ ss : List Lx.Bs, (∀ x ∈ ss, x.length = 2) → ∀ rest, firstPre (ss ++ rest) l = if 2 ≤ l.length ∧ Lx.hasB ss (l.take 2) = true then some (l.take 2) else firstPre rest l
  | [], _, rest => by simp [Lx.hasB]
  | a :: ss, h, rest => by
    have ih := firstPre_two l ss (fun x hx => h x (by simp [hx])) rest
    have ha : a.length = 2 := h a (by simp)
    have hp := Lib.hasPrefix_of_take l a
    rw [ha] at hp
    show (if Lib.hasPrefix l a = true then some a else firstPre (ss ++ rest) l) = _
    by_cases hc : 2 ≤ l.length ∧ l.take 2 = a
    · rw [if_pos (by rw [← hp]; simp [hc.1, hc.2]), if_pos ⟨hc.1, (hasB_cons _ _ _).2 (.inl hc.2.symm)⟩, hc.2]
    · rw [if_neg (by rw [← hp]; simpa using fun h1 h2 => hc ⟨h1, h2⟩), ih]
      by_cases hd : 2 ≤ l.length ∧ Lx.hasB ss (l.take 2) = true
      · rw [if_pos hd, if_pos ⟨hd.1, (hasB_cons _ _ _).2 (.inr hd.2)⟩]
      · rw [if_neg hd, if_neg]
        rintro ⟨q1, q2⟩
        rcases (hasB_cons _ _ _).1 q2 with q | q
        · exact hc ⟨q1, q.symm⟩
        · exact hd ⟨q1, q⟩
theorem firstPre_one (l : Lx.Bs) (hl : l ≠ []) : ∀ ss : List Lx.Bs, (∀ x ∈ ss, x.length = 1) → firstPre ss l = if Lx.hasB ss (l.take 1) = true then some (l.take 1) else none
  | [], _ => by simp [Lx.hasB, firstPre]
  | a :: ss, h => by
    have ih := firstPre_one l hl ss (fun x hx => h x (by simp [hx]))
    have ha : a.length = 1 := h a (by simp)
    have hp := Lib.hasPrefix_of_take l a
    rw [ha] at hp
    have h1 : 1 ≤ l.length := List.length_pos_iff.2 hl
    show (if Lib.hasPrefix l a = true then some a else firstPre ss l) = _
    by_cases hc : l.take 1 = a
    · rw [if_pos (by rw [← hp]; simp [h1, hc]), if_pos ((hasB_cons _ _ _).2 (.inl hc.symm)), hc]
    · rw [if_neg (by rw [← hp]; simpa using fun _ h2 => hc h2), ih]
      by_cases hd : Lx.hasB ss (l.take 1) = true
      · rw [if_pos hd, if_pos ((hasB_cons _ _ _).2 (.inr hd))]
      · rw [if_neg hd, if_neg]
        intro q2
        rcases (hasB_cons _ _ _).1 q2 with q | q
        · exact hc q.symm
        · exact hd q

theorem sign_spec (s : ByteArray) (k : Nat) (hk : k < s.size) (hl : Lx.isLet s[k] = false) (hdg : Lx.isDig s[k] = false) (hq : ¬ (s[k].toNat = 39 ∨ s[k].toNat = 34)) :
    Lx.oneT (s.data.toList.drop k) = match firstPre sgns (s.data.toList.drop k) with | some x => .ok (51, x, x.length) | none => .error 2 := by
  have e := drop_at s k hk
  have el : (s.data.toList.drop k).length = s.size - k := by simp
  rw [oneT_sign s k hk hl hdg hq]
  unfold sgns
  rw [firstPre_two _ Lx.twos (by decide) Lx.ones, firstPre_one _ (by rw [e]; simp) Lx.ones (by decide), el]
  by_cases h1 : 2 ≤ s.size - k ∧ Lx.hasB Lx.twos ((s.data.toList.drop k).take 2) = true
  · rw [if_pos h1, if_pos h1]
    simp only
    rw [List.length_take, el, Nat.min_eq_left h1.1]
  · rw [if_neg h1, if_neg h1]
    by_cases h2 : Lx.hasB Lx.ones ((s.data.toList.drop k).take 1) = true
    · rw [if_pos h2, if_pos h2]
      simp only
      rw [List.length_take, el, Nat.min_eq_left (by omega)]
    · rw [if_neg h2, if_neg h2]

theorem firstPre_at (ss : List Lx.Bs) (l : Lx.Bs) (k : Nat) (h : k < ss.length) : firstPre (ss.drop k) l = if Lib.hasPrefix l (ss.getD k []) then some (ss.getD k []) else firstPre (ss.drop (k + 1)) l := by
  rw [List.drop_eq_getElem_cons h, List.getD_eq_getElem?_getD, List.getElem?_eq_getElem h]
  rfl

theorem hasPrefix_le {l p : Lx.Bs} (h : Lib.hasPrefix l p = true) : p.length ≤ l.length := by
  unfold Lib.hasPrefix at h
  exact (List.isPrefixOf_iff_prefix.1 h).length_le

set_option maxRecDepth 100000 in
set_option maxHeartbeats 1000000 in
theorem sign_any (w : World) (B : Nat) (s : ByteArray) (k st : Nat) (h : Rd w B s k st) (hk : k < s.size) (hl : Lx.isLet s[k] = false) (hdg : Lx.isDig s[k] = false) (hq : ¬ (s[k].toNat = 39 ∨ s[k].toNat = 34)) :
    Calls Tryd.prog 45 #[.pointer (some ⟨B, 0, none⟩)] w (Told (Lx.oneT (s.data.toList.drop k)) w B s k st outOne) := by
  have hsm := h.small
  have HSp := hd (sign_spec s k hk hl hdg hq)
  obtain ⟨ty, fr, hg⟩ := h.env.sgs
  have HG : Hid (w.drew.heap[0]? = some (.cells (strRow sgns) ty fr)) := hg
  clear hg hl hdg hq
  obtain ⟨⟨b0, b1, b2⟩, b3, b4, b5⟩ := h.blk.three
  have HX := hd (Lib.extract_to_end s k)
  go_enter Tryd.func45, Tryd.ntmps45
  go_wp2
  go_region
  all_goals go_wp2_with (refine wpList_load_row rfl 92 _ rfl 0 rfl ty _ fr _ HG.out Tryd.underlying92 rfl (by kernel_rfl) ?_)
  go_loop [16] (fun i => ∃ j : Nat, j ≤ 16 ∧ i = .int .i64 j ∧ Hid (firstPre sgns (s.data.toList.drop k) = firstPre (sgns.drop j) (s.data.toList.drop k))) (fun i => 16 - (intOf i).toNat)
  case atStart => exact ⟨0, by omega, rfl, rfl⟩
  case round =>
    obtain ⟨j, hj, rfl, HK⟩ := hrel
    by_cases hlt : j < 16
    · have hix := index_sign j hlt
      have HS := hd (firstPre_at sgns (s.data.toList.drop k) j hlt)
      obtain ⟨u, hu⟩ : ∃ u : ByteArray, u = ⟨(sgns.getD j []).toArray⟩ := ⟨_, rfl⟩
      have HU : Hid (u.data.toList = sgns.getD j []) := by rw [hu]; show _ = _; simp
      rw [← hu] at hix
      clear hu
      rw [← HU.out] at HS
      go_wp2_with fail
      refine (Tryd.strings_HasPrefix _ _ _).mono ?_
      rintro e w' ⟨rfl, rfl⟩
      rw [HX.out]
      cases hpx : Lib.hasPrefix (s.data.toList.drop k) u.data.toList
      · go_wp2
        go_round
        case rel => exact ⟨j + 1, by omega, by go_num, by show _ = _; rw [HK.out, HS.out, hpx]; rfl⟩
        case measure => simp [intOf]; omega
      · have hul : u.size ≤ s.size - k := by
          have := hasPrefix_le hpx
          rw [← Lib.size_eq] at this
          simpa using this
        go_wp2
        go_ret
        refine ⟨grownBy_trans (grownBy_drew (grownBy_refl _ _)) (grownBy_set _ B 1 _), ?_⟩
        rw [HSp.out, HK.out, HS.out, hpx]
        refine ⟨u, rfl, rfl, ?_⟩
        have := h.drew.set1 (k + u.size) (by omega)
        rw [← Lib.size_eq]; exact this
    · go_wp2_with fail
      refine (fail_any _ B s k st 2 h.drew).mono ?_
      rintro e w3 ⟨rfl, rfl⟩
      refine ⟨rfl, grownBy_drew (grownBy_refl _ _), ?_⟩
      rw [HSp.out, HK.out, List.drop_eq_nil_of_le (by show 16 ≤ j; omega)]
      rfl

end Go.Proofs.YtihchcoclncjdaaDoor
