/- Contracts of the program's own reader: take, takeAll. -/
import Derived.Test.YtihchcoclncjdaaDoorCodeA
namespace Go.Proofs.YtihchcoclncjdaaDoor
open Go.RowKit
set_option linter.unusedSimpArgs false
set_option linter.unusedVariables false

theorem peekN_le (s : ByteArray) (k : Nat) (h : k ≤ s.size) : k + (peekN s k).2 ≤ s.size := by
  unfold peekN
  split
  · rename_i hk
    split
    · simp; omega
    · have hle := Lx.charN_le (s.data.toList.drop k)
      rw [List.length_drop, show s.data.toList.length = s.size from by simp] at hle
      simp; omega
  · simp; omega

set_option maxRecDepth 100000 in
set_option maxHeartbeats 1000000 in
theorem take_any (w : World) (B : Nat) (s : ByteArray) (k st : Nat) (h : Rd w B s k st) :
    Calls Tryd.prog 55 #[.pointer (some ⟨B, 0, none⟩)] w fun e w' => e = .returned (.int .i32 (peekN s k).1) ∧ Rd w' B s (k + (peekN s k).2) st ∧ w.grownBy w' (some B) := by
  have hpl := peekN_le s k h.le
  have hsm := h.small
  obtain ⟨c, n, hpk⟩ : ∃ c n, peekN s k = (c, n) := ⟨_, _, rfl⟩
  rw [hpk] at hpl ⊢
  have HPK : Hid _ := hpk
  clear hpk
  simp only at hpl ⊢
  go_enter Tryd.func55, Tryd.ntmps55
  go_wp2_with fail
  refine (peek_any w B s k st h).mono ?_
  rintro e w1 ⟨rfl, hb1⟩
  rw [HPK.out]
  have h1 := h.below hb1
  obtain ⟨⟨b0, b1, b2⟩, b3, b4, b5⟩ := h1.blk.three
  go_wp2
  go_ret
  refine ⟨rfl, ?_, ?_⟩
  · exact h1.set1 (k + n) hpl
  · exact grownBy_trans (Below.grownBy hb1) (grownBy_set w1 B 1 _)

/-- Whatever is no ASCII byte begins, and goes on, with none. -/
theorem char_high (s : ByteArray) (i : Nat) (h : i < s.size) (hb : 128 ≤ s[i].toNat) : i + (Utf8.decode s i).2 ≤ s.size ∧ 1 ≤ (Utf8.decode s i).2 ∧ ∀ j, j < (Utf8.decode s i).2 → 128 ≤ (s.get! (i + j)).toNat := by
  by_cases hc : Lx.charN (s.data.toList.drop i) = 0
  · rw [(dec_bad s i h hc).1]
    refine ⟨by simp; omega, by simp, ?_⟩
    intro j hj
    have : j = 0 := by simp at hj; exact hj
    subst this
    rw [Nat.add_zero, get_here s i h]; exact hb
  · have hle := Lx.charN_le (s.data.toList.drop i)
    rw [List.length_drop, show s.data.toList.length = s.size from by simp] at hle
    have hg := dec_good s i h hc
    have hcls := charN_cls s i h
    rw [get_here s i h] at hcls
    rw [hg.1]
    refine ⟨by omega, by omega, ?_⟩
    intro j hj
    rcases hg.2.2 with ⟨q, _, q2⟩ | ⟨q, _⟩
    · omega
    · have hn : Lx.charN (s.data.toList.drop i) = 2 ∨ Lx.charN (s.data.toList.drop i) = 3 ∨ Lx.charN (s.data.toList.drop i) = 4 := by
        have : ∀ n b0 b1 b2 b3, clsN n b0 b1 b2 b3 ≤ 4 := by
          intro n b0 b1 b2 b3
          unfold clsN
          repeat' split
          all_goals omega
        have := this (s.size - i) s[i].toNat (s.get! (i + 1)).toNat (s.get! (i + 2)).toNat (s.get! (i + 3)).toNat
        rw [← hcls] at this
        omega
      have lo : ∀ b, 128 ≤ Lx.loOf b := by
        intro b; unfold Lx.loOf
        repeat' split
        all_goals omega
      have hj0 : j = 0 → 128 ≤ (s.get! (i + j)).toNat := by rintro rfl; rw [Nat.add_zero, get_here s i h]; exact hb
      rcases hn with e | e | e
      · rw [e] at hcls hj
        obtain ⟨_, q1, _⟩ := cls_two _ _ _ _ _ hcls.symm
        have : j = 0 ∨ j = 1 := by omega
        rcases this with rfl | rfl
        · exact hj0 rfl
        · exact q1.2.1
      · rw [e] at hcls hj
        obtain ⟨_, q1, q2, _⟩ := cls_three _ _ _ _ _ hcls.symm
        have := lo s[i].toNat
        have : j = 0 ∨ j = 1 ∨ j = 2 := by omega
        rcases this with rfl | rfl | rfl
        · exact hj0 rfl
        · omega
        · exact q2.2.1
      · rw [e] at hcls hj
        obtain ⟨_, q1, q2, q3, _⟩ := cls_four _ _ _ _ _ hcls.symm
        have := lo s[i].toNat
        have : j = 0 ∨ j = 1 ∨ j = 2 ∨ j = 3 := by omega
        rcases this with rfl | rfl | rfl | rfl
        · exact hj0 rfl
        · omega
        · exact q2.2.1
        · exact q3.2.1

/-- A test on runes and the test on bytes that it comes to. -/
structure Fits (p : Int → Bool) (q : UInt8 → Bool) : Prop where
  low : ∀ b : UInt8, b.toNat < 128 → p (b.toNat : Int) = q b
  high : (∀ r : Int, 128 ≤ r → p r = false) ∧ (∀ b : UInt8, 128 ≤ b.toNat → q b = false) ∨ (∀ r : Int, 128 ≤ r → p r = true) ∧ (∀ b : UInt8, 128 ≤ b.toNat → q b = true)

theorem cnt_run (q : UInt8 → Bool) (s : ByteArray) : ∀ (n i : Nat), i + n ≤ s.size → (∀ j, j < n → q (s.get! (i + j)) = true) → Lx.cnt q (s.data.toList.drop i) = n + Lx.cnt q (s.data.toList.drop (i + n))
  | 0, i, _, _ => by simp
  | n + 1, i, h, hq => by
    rw [cnt_at q s i (by omega), if_pos (by have := hq 0 (by omega); rwa [Nat.add_zero, get_here s i (by omega)] at this)]
    rw [cnt_run q s n (i + 1) (by omega) (fun j hj => by have := hq (j + 1) (by omega); rwa [show i + (j + 1) = i + 1 + j from by omega] at this)]
    rw [show i + 1 + n = i + (n + 1) from by omega]; omega

/-- The rune at a place meets the test: so do all its bytes. -/
theorem Fits.yes {p : Int → Bool} {q : UInt8 → Bool} (hf : Fits p q) (s : ByteArray) (i : Nat) (h : i < s.size) (hp : p ((Utf8.decode s i).1 : Int) = true) :
    Lx.cnt q (s.data.toList.drop i) = (Utf8.decode s i).2 + Lx.cnt q (s.data.toList.drop (i + (Utf8.decode s i).2)) ∧ i + (Utf8.decode s i).2 ≤ s.size ∧ 1 ≤ (Utf8.decode s i).2 := by
  by_cases hb : s[i].toNat < 128
  · rw [decode_ascii s i h hb] at hp ⊢
    simp only at hp ⊢
    rw [hf.low _ hb] at hp
    refine ⟨?_, by omega, by omega⟩
    rw [cnt_at q s i h, if_pos hp]; omega
  · have hh := char_high s i h (by omega)
    have hr := (decode_high s i h (by omega)).1
    refine ⟨?_, hh.1, hh.2.1⟩
    rcases hf.high with ⟨h1, _⟩ | ⟨_, h2⟩
    · rw [h1 _ (by omega)] at hp; cases hp
    · exact cnt_run q s _ i hh.1 (fun j hj => h2 _ (hh.2.2 j hj))
theorem Fits.no {p : Int → Bool} {q : UInt8 → Bool} (hf : Fits p q) (s : ByteArray) (i : Nat) (h : i < s.size) (hp : p ((Utf8.decode s i).1 : Int) = false) : Lx.cnt q (s.data.toList.drop i) = 0 := by
  rw [cnt_at q s i h, if_neg]
  intro hq
  by_cases hb : s[i].toNat < 128
  · rw [decode_ascii s i h hb] at hp
    rw [hf.low _ hb, hq] at hp
    cases hp
  · have hr := (decode_high s i h (by omega)).1
    rcases hf.high with ⟨_, h2⟩ | ⟨h1, _⟩
    · rw [h2 _ (by omega)] at hq; cases hq
    · rw [h1 _ (by omega)] at hp; cases hp

theorem fits_sp : Fits rSp Lx.isSp := by
  refine ⟨fun b hb => ?_, .inl ⟨fun r hr => ?_, fun b hb => ?_⟩⟩
  · unfold rSp Lx.isSp; rw [Bool.eq_iff_iff]; simp; omega
  · unfold rSp; simp; omega
  · unfold Lx.isSp; simp; omega
theorem fits_line : Fits rLine Lx.notNl := by
  refine ⟨fun b hb => ?_, .inr ⟨fun r hr => ?_, fun b hb => ?_⟩⟩
  · unfold rLine Lx.notNl; rw [Bool.eq_iff_iff]; simp; omega
  · unfold rLine; simp; omega
  · unfold Lx.notNl; simp; omega
theorem fits_dig : Fits rDig Lx.isDig := by
  refine ⟨fun b hb => ?_, .inl ⟨fun r hr => ?_, fun b hb => ?_⟩⟩
  · unfold rDig Lx.isDig; rw [Bool.eq_iff_iff]; simp; omega
  · unfold rDig; simp; omega
  · unfold Lx.isDig; simp; omega
theorem fits_wd : Fits rWd Lx.isWd := by
  refine ⟨fun b hb => ?_, .inl ⟨fun r hr => ?_, fun b hb => ?_⟩⟩
  · unfold rWd Lx.isWd Lx.isDig Lx.isLet; rw [Bool.eq_iff_iff]; simp; omega
  · unfold rWd; simp; omega
  · unfold Lx.isWd Lx.isDig Lx.isLet; simp; omega

theorem Rd.iter {w : World} {B : Nat} {s : ByteArray} {k st : Nat} (h : Rd w B s k st) (t : ByteArray) (p : Nat) : Rd (w.drew.iter t p) B s k st :=
  h.drew.below ((Below.refl _ _).alloc (Nat.le_refl _) _)
theorem grownBy_iter (w : World) (t : ByteArray) (p B : Nat) : w.grownBy (w.drew.iter t p) (some B) :=
  grownBy_trans (grownBy_drew (grownBy_refl w _)) (Below.grownBy ((Below.refl _ _).alloc (Nat.le_refl _) _))

set_option maxRecDepth 100000 in
set_option maxHeartbeats 1000000 in
theorem takeAll_isDigit (w : World) (B : Nat) (s : ByteArray) (k st : Nat) (h : Rd w B s k st) :
    Calls Tryd.prog 30 #[.pointer (some ⟨B, 0, none⟩), .func (.func 39) #[] #[]] w fun e w' => ∃ u : ByteArray, e = .returned (.string u) ∧ u.data.toList = (s.data.toList.drop k).take (Lx.cnt Lx.isDig (s.data.toList.drop k)) ∧ Rd w' B s (k + Lx.cnt Lx.isDig (s.data.toList.drop k)) st ∧ w.grownBy w' (some B) := by
  obtain ⟨⟨b0, b1, b2⟩, b3, b4, b5⟩ := h.blk.three
  have hle := h.le
  have hsm := h.small
  obtain ⟨t, ht⟩ : ∃ t, t = s.extract k s.size := ⟨_, rfl⟩
  have hT : t.data.toList = s.data.toList.drop k := by rw [ht]; exact Lib.extract_to_end s k
  have hts : t.size + k = s.size := by rw [ht]; simp; omega
  rw [← hT]
  have HT := hd hT
  have HTT := hd ht
  clear ht hT
  have hI1 : ∀ p, (w.drew.iter t p).cell? ⟨B, 1, none⟩ = some (.int .i64 (k : Int)) := fun p => (h.iter t p).blk.cell 1
  have hI2 : ∀ p, (w.drew.iter t p).frozen? ⟨B, 1, none⟩ = false := fun p => (h.iter t p).blk.free 1
  go_enter Tryd.func30, Tryd.ntmps30
  go_wp2
  go_region
  all_goals go_wp2
  rw [← HTT.out]
  go_loopw [6] (fun v wr => ∃ pos : Nat, v = .int .i64 (t.size : Int) ∧ wr = w.drew.iter t pos ∧ pos ≤ t.size ∧ Hid (Lx.cnt Lx.isDig t.data.toList = pos + Lx.cnt Lx.isDig (t.data.toList.drop pos))) (fun _ wr => t.size - wr.iterPos w.heap.size)
  case atStart => exact ⟨0, by rw [show s.size - k = t.size from by omega], rfl, by omega, by show _ = _; simp⟩
  case round =>
    obtain ⟨pos, rfl, rfl, hpos, HK⟩ := hrel
    by_cases hlt : pos < t.size
    · have hnx : ∀ ty, (Instr.next (.pointer (some ⟨w.heap.size, 0, none⟩)) true ty).run Tryd.prog (w.drew.iter t pos) = .ok (.tuple #[.bool true, .int .i64 pos, .int .i32 (Utf8.decode t pos).1]) (w.drew.iter t (pos + (Utf8.decode t pos).2)) := fun ty => run_next_any (P := Tryd.prog) w.drew t pos ty hlt
      cases hp : rDig ((Utf8.decode t pos).1 : Int)
      · have HN := hd (fits_dig.no t pos hlt hp)
        generalize (Utf8.decode t pos) = d at *
        obtain ⟨c, n⟩ := d
        go_wp2_with (go_at_call 39; refine (isDigit_any _ _).mono ?_; rintro e w' ⟨rfl, rfl⟩)
        go_ret
        have hc : Lx.cnt Lx.isDig t.data.toList = pos := by rw [HK.out, HN.out]; rfl
        rw [hc]
        refine ⟨_, rfl, ?_, (h.iter t (pos + n)).set1 (k + pos) (by omega), grownBy_trans (grownBy_iter w t (pos + n) B) (grownBy_set _ B 1 _)⟩
        rw [Lib.extract_data]; simp
      · have HY := hd (fits_dig.yes t pos hlt hp)
        generalize (Utf8.decode t pos) = d at *
        obtain ⟨c, n⟩ := d
        go_wp2_with (go_at_call 39; refine (isDigit_any _ _).mono ?_; rintro e w' ⟨rfl, rfl⟩)
        go_roundw
        case rel =>
          obtain ⟨y1, y2, y3⟩ := HY.out
          try simp only at y1 y2 y3
          exact ⟨pos + n, rfl, rfl, y2, by have h1 := HK.out; show _ = _; omega⟩
        case measure =>
          obtain ⟨y1, y2, y3⟩ := HY.out
          try simp only at y1 y2 y3
          show t.size - (w.drew.iter t (pos + n)).iterPos w.drew.heap.size < t.size - (w.drew.iter t pos).iterPos w.drew.heap.size
          rw [World.iterPos_iter, World.iterPos_iter]; omega
    · have hnx : ∀ ty, (Instr.next (.pointer (some ⟨w.heap.size, 0, none⟩)) true ty).run Tryd.prog (w.drew.iter t pos) = .ok (.tuple #[.bool false]) (w.drew.iter t pos) := fun ty => run_next_end (P := Tryd.prog) w.drew t pos ty hlt
      go_wp2
      go_ret
      have hc : Lx.cnt Lx.isDig t.data.toList = t.size := by rw [HK.out, cnt_end Lx.isDig t pos (by omega)]; omega
      rw [hc]
      refine ⟨_, rfl, ?_, (h.iter t pos).set1 (k + t.size) (by omega), grownBy_trans (grownBy_iter w t pos B) (grownBy_set _ B 1 _)⟩
      rw [List.take_of_length_le (by simp)]

set_option maxRecDepth 100000 in
set_option maxHeartbeats 1000000 in
theorem takeAll_isSpace (w : World) (B : Nat) (s : ByteArray) (k st : Nat) (h : Rd w B s k st) :
    Calls Tryd.prog 30 #[.pointer (some ⟨B, 0, none⟩), .func (.func 31) #[] #[]] w fun e w' => ∃ u : ByteArray, e = .returned (.string u) ∧ u.data.toList = (s.data.toList.drop k).take (Lx.cnt Lx.isSp (s.data.toList.drop k)) ∧ Rd w' B s (k + Lx.cnt Lx.isSp (s.data.toList.drop k)) st ∧ w.grownBy w' (some B) := by
  obtain ⟨⟨b0, b1, b2⟩, b3, b4, b5⟩ := h.blk.three
  have hle := h.le
  have hsm := h.small
  obtain ⟨t, ht⟩ : ∃ t, t = s.extract k s.size := ⟨_, rfl⟩
  have hT : t.data.toList = s.data.toList.drop k := by rw [ht]; exact Lib.extract_to_end s k
  have hts : t.size + k = s.size := by rw [ht]; simp; omega
  rw [← hT]
  have HT := hd hT
  have HTT := hd ht
  clear ht hT
  have hI1 : ∀ p, (w.drew.iter t p).cell? ⟨B, 1, none⟩ = some (.int .i64 (k : Int)) := fun p => (h.iter t p).blk.cell 1
  have hI2 : ∀ p, (w.drew.iter t p).frozen? ⟨B, 1, none⟩ = false := fun p => (h.iter t p).blk.free 1
  go_enter Tryd.func30, Tryd.ntmps30
  go_wp2
  go_region
  all_goals go_wp2
  rw [← HTT.out]
  go_loopw [6] (fun v wr => ∃ pos : Nat, v = .int .i64 (t.size : Int) ∧ wr = w.drew.iter t pos ∧ pos ≤ t.size ∧ Hid (Lx.cnt Lx.isSp t.data.toList = pos + Lx.cnt Lx.isSp (t.data.toList.drop pos))) (fun _ wr => t.size - wr.iterPos w.heap.size)
  case atStart => exact ⟨0, by rw [show s.size - k = t.size from by omega], rfl, by omega, by show _ = _; simp⟩
  case round =>
    obtain ⟨pos, rfl, rfl, hpos, HK⟩ := hrel
    by_cases hlt : pos < t.size
    · have hnx : ∀ ty, (Instr.next (.pointer (some ⟨w.heap.size, 0, none⟩)) true ty).run Tryd.prog (w.drew.iter t pos) = .ok (.tuple #[.bool true, .int .i64 pos, .int .i32 (Utf8.decode t pos).1]) (w.drew.iter t (pos + (Utf8.decode t pos).2)) := fun ty => run_next_any (P := Tryd.prog) w.drew t pos ty hlt
      cases hp : rSp ((Utf8.decode t pos).1 : Int)
      · have HN := hd (fits_sp.no t pos hlt hp)
        generalize (Utf8.decode t pos) = d at *
        obtain ⟨c, n⟩ := d
        go_wp2_with (go_at_call 31; refine (isSpace_any _ _).mono ?_; rintro e w' ⟨rfl, rfl⟩)
        go_ret
        have hc : Lx.cnt Lx.isSp t.data.toList = pos := by rw [HK.out, HN.out]; rfl
        rw [hc]
        refine ⟨_, rfl, ?_, (h.iter t (pos + n)).set1 (k + pos) (by omega), grownBy_trans (grownBy_iter w t (pos + n) B) (grownBy_set _ B 1 _)⟩
        rw [Lib.extract_data]; simp
      · have HY := hd (fits_sp.yes t pos hlt hp)
        generalize (Utf8.decode t pos) = d at *
        obtain ⟨c, n⟩ := d
        go_wp2_with (go_at_call 31; refine (isSpace_any _ _).mono ?_; rintro e w' ⟨rfl, rfl⟩)
        go_roundw
        case rel =>
          obtain ⟨y1, y2, y3⟩ := HY.out
          try simp only at y1 y2 y3
          exact ⟨pos + n, rfl, rfl, y2, by have h1 := HK.out; show _ = _; omega⟩
        case measure =>
          obtain ⟨y1, y2, y3⟩ := HY.out
          try simp only at y1 y2 y3
          show t.size - (w.drew.iter t (pos + n)).iterPos w.drew.heap.size < t.size - (w.drew.iter t pos).iterPos w.drew.heap.size
          rw [World.iterPos_iter, World.iterPos_iter]; omega
    · have hnx : ∀ ty, (Instr.next (.pointer (some ⟨w.heap.size, 0, none⟩)) true ty).run Tryd.prog (w.drew.iter t pos) = .ok (.tuple #[.bool false]) (w.drew.iter t pos) := fun ty => run_next_end (P := Tryd.prog) w.drew t pos ty hlt
      go_wp2
      go_ret
      have hc : Lx.cnt Lx.isSp t.data.toList = t.size := by rw [HK.out, cnt_end Lx.isSp t pos (by omega)]; omega
      rw [hc]
      refine ⟨_, rfl, ?_, (h.iter t pos).set1 (k + t.size) (by omega), grownBy_trans (grownBy_iter w t pos B) (grownBy_set _ B 1 _)⟩
      rw [List.take_of_length_le (by simp)]

set_option maxRecDepth 100000 in
set_option maxHeartbeats 1000000 in
theorem takeAll_inLine (w : World) (B : Nat) (s : ByteArray) (k st : Nat) (h : Rd w B s k st) :
    Calls Tryd.prog 30 #[.pointer (some ⟨B, 0, none⟩), .func (.func 33) #[] #[]] w fun e w' => ∃ u : ByteArray, e = .returned (.string u) ∧ u.data.toList = (s.data.toList.drop k).take (Lx.cnt Lx.notNl (s.data.toList.drop k)) ∧ Rd w' B s (k + Lx.cnt Lx.notNl (s.data.toList.drop k)) st ∧ w.grownBy w' (some B) := by
  obtain ⟨⟨b0, b1, b2⟩, b3, b4, b5⟩ := h.blk.three
  have hle := h.le
  have hsm := h.small
  obtain ⟨t, ht⟩ : ∃ t, t = s.extract k s.size := ⟨_, rfl⟩
  have hT : t.data.toList = s.data.toList.drop k := by rw [ht]; exact Lib.extract_to_end s k
  have hts : t.size + k = s.size := by rw [ht]; simp; omega
  rw [← hT]
  have HT := hd hT
  have HTT := hd ht
  clear ht hT
  have hI1 : ∀ p, (w.drew.iter t p).cell? ⟨B, 1, none⟩ = some (.int .i64 (k : Int)) := fun p => (h.iter t p).blk.cell 1
  have hI2 : ∀ p, (w.drew.iter t p).frozen? ⟨B, 1, none⟩ = false := fun p => (h.iter t p).blk.free 1
  go_enter Tryd.func30, Tryd.ntmps30
  go_wp2
  go_region
  all_goals go_wp2
  rw [← HTT.out]
  go_loopw [6] (fun v wr => ∃ pos : Nat, v = .int .i64 (t.size : Int) ∧ wr = w.drew.iter t pos ∧ pos ≤ t.size ∧ Hid (Lx.cnt Lx.notNl t.data.toList = pos + Lx.cnt Lx.notNl (t.data.toList.drop pos))) (fun _ wr => t.size - wr.iterPos w.heap.size)
  case atStart => exact ⟨0, by rw [show s.size - k = t.size from by omega], rfl, by omega, by show _ = _; simp⟩
  case round =>
    obtain ⟨pos, rfl, rfl, hpos, HK⟩ := hrel
    by_cases hlt : pos < t.size
    · have hnx : ∀ ty, (Instr.next (.pointer (some ⟨w.heap.size, 0, none⟩)) true ty).run Tryd.prog (w.drew.iter t pos) = .ok (.tuple #[.bool true, .int .i64 pos, .int .i32 (Utf8.decode t pos).1]) (w.drew.iter t (pos + (Utf8.decode t pos).2)) := fun ty => run_next_any (P := Tryd.prog) w.drew t pos ty hlt
      cases hp : rLine ((Utf8.decode t pos).1 : Int)
      · have HN := hd (fits_line.no t pos hlt hp)
        generalize (Utf8.decode t pos) = d at *
        obtain ⟨c, n⟩ := d
        go_wp2_with (go_at_call 33; refine (inLine_any _ _).mono ?_; rintro e w' ⟨rfl, rfl⟩)
        go_ret
        have hc : Lx.cnt Lx.notNl t.data.toList = pos := by rw [HK.out, HN.out]; rfl
        rw [hc]
        refine ⟨_, rfl, ?_, (h.iter t (pos + n)).set1 (k + pos) (by omega), grownBy_trans (grownBy_iter w t (pos + n) B) (grownBy_set _ B 1 _)⟩
        rw [Lib.extract_data]; simp
      · have HY := hd (fits_line.yes t pos hlt hp)
        generalize (Utf8.decode t pos) = d at *
        obtain ⟨c, n⟩ := d
        go_wp2_with (go_at_call 33; refine (inLine_any _ _).mono ?_; rintro e w' ⟨rfl, rfl⟩)
        go_roundw
        case rel =>
          obtain ⟨y1, y2, y3⟩ := HY.out
          try simp only at y1 y2 y3
          exact ⟨pos + n, rfl, rfl, y2, by have h1 := HK.out; show _ = _; omega⟩
        case measure =>
          obtain ⟨y1, y2, y3⟩ := HY.out
          try simp only at y1 y2 y3
          show t.size - (w.drew.iter t (pos + n)).iterPos w.drew.heap.size < t.size - (w.drew.iter t pos).iterPos w.drew.heap.size
          rw [World.iterPos_iter, World.iterPos_iter]; omega
    · have hnx : ∀ ty, (Instr.next (.pointer (some ⟨w.heap.size, 0, none⟩)) true ty).run Tryd.prog (w.drew.iter t pos) = .ok (.tuple #[.bool false]) (w.drew.iter t pos) := fun ty => run_next_end (P := Tryd.prog) w.drew t pos ty hlt
      go_wp2
      go_ret
      have hc : Lx.cnt Lx.notNl t.data.toList = t.size := by rw [HK.out, cnt_end Lx.notNl t pos (by omega)]; omega
      rw [hc]
      refine ⟨_, rfl, ?_, (h.iter t pos).set1 (k + t.size) (by omega), grownBy_trans (grownBy_iter w t pos B) (grownBy_set _ B 1 _)⟩
      rw [List.take_of_length_le (by simp)]

set_option maxRecDepth 100000 in
set_option maxHeartbeats 1000000 in
theorem takeAll_inWord (w : World) (B : Nat) (s : ByteArray) (k st : Nat) (h : Rd w B s k st) :
    Calls Tryd.prog 30 #[.pointer (some ⟨B, 0, none⟩), .func (.func 41) #[] #[]] w fun e w' => ∃ u : ByteArray, e = .returned (.string u) ∧ u.data.toList = (s.data.toList.drop k).take (Lx.cnt Lx.isWd (s.data.toList.drop k)) ∧ Rd w' B s (k + Lx.cnt Lx.isWd (s.data.toList.drop k)) st ∧ w.grownBy w' (some B) := by
  obtain ⟨⟨b0, b1, b2⟩, b3, b4, b5⟩ := h.blk.three
  have hle := h.le
  have hsm := h.small
  obtain ⟨t, ht⟩ : ∃ t, t = s.extract k s.size := ⟨_, rfl⟩
  have hT : t.data.toList = s.data.toList.drop k := by rw [ht]; exact Lib.extract_to_end s k
  have hts : t.size + k = s.size := by rw [ht]; simp; omega
  rw [← hT]
  have HT := hd hT
  have HTT := hd ht
  clear ht hT
  have hI1 : ∀ p, (w.drew.iter t p).cell? ⟨B, 1, none⟩ = some (.int .i64 (k : Int)) := fun p => (h.iter t p).blk.cell 1
  have hI2 : ∀ p, (w.drew.iter t p).frozen? ⟨B, 1, none⟩ = false := fun p => (h.iter t p).blk.free 1
  go_enter Tryd.func30, Tryd.ntmps30
  go_wp2
  go_region
  all_goals go_wp2
  rw [← HTT.out]
  go_loopw [6] (fun v wr => ∃ pos : Nat, v = .int .i64 (t.size : Int) ∧ wr = w.drew.iter t pos ∧ pos ≤ t.size ∧ Hid (Lx.cnt Lx.isWd t.data.toList = pos + Lx.cnt Lx.isWd (t.data.toList.drop pos))) (fun _ wr => t.size - wr.iterPos w.heap.size)
  case atStart => exact ⟨0, by rw [show s.size - k = t.size from by omega], rfl, by omega, by show _ = _; simp⟩
  case round =>
    obtain ⟨pos, rfl, rfl, hpos, HK⟩ := hrel
    by_cases hlt : pos < t.size
    · have hnx : ∀ ty, (Instr.next (.pointer (some ⟨w.heap.size, 0, none⟩)) true ty).run Tryd.prog (w.drew.iter t pos) = .ok (.tuple #[.bool true, .int .i64 pos, .int .i32 (Utf8.decode t pos).1]) (w.drew.iter t (pos + (Utf8.decode t pos).2)) := fun ty => run_next_any (P := Tryd.prog) w.drew t pos ty hlt
      cases hp : rWd ((Utf8.decode t pos).1 : Int)
      · have HN := hd (fits_wd.no t pos hlt hp)
        generalize (Utf8.decode t pos) = d at *
        obtain ⟨c, n⟩ := d
        go_wp2_with (go_at_call 41; refine (inWord_any _ _).mono ?_; rintro e w' ⟨rfl, rfl⟩)
        go_ret
        have hc : Lx.cnt Lx.isWd t.data.toList = pos := by rw [HK.out, HN.out]; rfl
        rw [hc]
        refine ⟨_, rfl, ?_, (h.iter t (pos + n)).set1 (k + pos) (by omega), grownBy_trans (grownBy_iter w t (pos + n) B) (grownBy_set _ B 1 _)⟩
        rw [Lib.extract_data]; simp
      · have HY := hd (fits_wd.yes t pos hlt hp)
        generalize (Utf8.decode t pos) = d at *
        obtain ⟨c, n⟩ := d
        go_wp2_with (go_at_call 41; refine (inWord_any _ _).mono ?_; rintro e w' ⟨rfl, rfl⟩)
        go_roundw
        case rel =>
          obtain ⟨y1, y2, y3⟩ := HY.out
          try simp only at y1 y2 y3
          exact ⟨pos + n, rfl, rfl, y2, by have h1 := HK.out; show _ = _; omega⟩
        case measure =>
          obtain ⟨y1, y2, y3⟩ := HY.out
          try simp only at y1 y2 y3
          show t.size - (w.drew.iter t (pos + n)).iterPos w.drew.heap.size < t.size - (w.drew.iter t pos).iterPos w.drew.heap.size
          rw [World.iterPos_iter, World.iterPos_iter]; omega
    · have hnx : ∀ ty, (Instr.next (.pointer (some ⟨w.heap.size, 0, none⟩)) true ty).run Tryd.prog (w.drew.iter t pos) = .ok (.tuple #[.bool false]) (w.drew.iter t pos) := fun ty => run_next_end (P := Tryd.prog) w.drew t pos ty hlt
      go_wp2
      go_ret
      have hc : Lx.cnt Lx.isWd t.data.toList = t.size := by rw [HK.out, cnt_end Lx.isWd t pos (by omega)]; omega
      rw [hc]
      refine ⟨_, rfl, ?_, (h.iter t pos).set1 (k + t.size) (by omega), grownBy_trans (grownBy_iter w t pos B) (grownBy_set _ B 1 _)⟩
      rw [List.take_of_length_le (by simp)]

end Go.Proofs.YtihchcoclncjdaaDoor
