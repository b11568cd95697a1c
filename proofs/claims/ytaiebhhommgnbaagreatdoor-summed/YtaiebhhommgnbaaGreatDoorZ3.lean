/- Parts of the proof: CodeB VarP Ra Rb Dig Rc Rd Sa Sb Sc Dv Dw Ed VarD CpB -/
import Derived.Test.YtaiebhhommgnbaaGreatDoorZ2
import Derived.Test.YtaiebhhommgnbaaGreatDoorZ1
import Derived.Lib.ItoaMem
import Derived.Lib.Replace
import Derived.Lib.CountLaws
import Derived.Lib.IndexBytes
import Derived.Test.YtaiebhhommgnbaaGreatDoorZShelfC
import Derived.Lib.AppendIntMem
import Derived.Shelf.Vars
import Derived.Test.YtaiebhhommgnbaaGreatDoorZShelfB
namespace Go.Proofs.YtaiebhhommgnbaaGreatDoor
set_option linter.unusedSimpArgs false
set_option linter.unusedVariables false
set_option maxRecDepth 100000
set_option maxHeartbeats 16000000
open Go.RowKit
theorem peekN_le (s : ByteArray) (k : Nat) (h : k ≤ s.size) : k + (peekN s k).2 ≤ s.size := by
 unfold peekN
 split
 · rename_i hk
   split
   · simp; omega
   · have hle := Lx.charN_le (s.data.toList.drop k)
     rw [List.length_drop, show s.data.toList.length = s.size from by simp] at hle
     simp; omega
 · simp; omega
theorem take_any (w : World) (B : Nat) (s : ByteArray) (k st : Nat) (h : Rd w B s k st) :
   Calls Tryz.prog 194 #[.pointer (some ⟨B, 0, none⟩)] w fun e w' => e = .returned (.int .i32 (peekN s k).1) ∧ Rd w' B s (k + (peekN s k).2) st ∧ w.grownBy w' (some B) := by
 have hpl := peekN_le s k h.le
 have hsm := h.small
 obtain ⟨c, n, hpk⟩ : ∃ c n, peekN s k = (c, n) := ⟨_, _, rfl⟩
 rw [hpk] at hpl ⊢
 have HPK : Hid _ := hpk
 clear hpk
 simp only at hpl ⊢
 go_enter Tryz.func194, Tryz.ntmps194
 go_wp2_with fail
 refine (peek_any w B s k st h).mono ?_
 rintro e w1 ⟨rfl, hb1⟩
 rw [HPK.out]
 have h1 := h.below hb1
 obtain ⟨⟨b0, b1, b2⟩, b3, b4, b5⟩ := h1.blk.three
 go_wp2
 go_ret
 refine ⟨rfl, ?_, ?_⟩
 · exact h1.set1 (k + n) hpl
 · exact grownBy_trans (Below.grownBy hb1) (grownBy_set w1 B 1 _)
theorem char_high (s : ByteArray) (i : Nat) (h : i < s.size) (hb : 128 ≤ s[i].toNat) : i + (Utf8.decode s i).2 ≤ s.size ∧ 1 ≤ (Utf8.decode s i).2 ∧ ∀ j, j < (Utf8.decode s i).2 → 128 ≤ (s.get! (i + j)).toNat := by
 by_cases hc : Lx.charN (s.data.toList.drop i) = 0
 · rw [(dec_bad s i h hc).1]
   refine ⟨by simp; omega, by simp, ?_⟩
   intro j hj
   have : j = 0 := by simp at hj; exact hj
   subst this
   rw [Nat.add_zero, get_here s i h]; exact hb
 · have hle := Lx.charN_le (s.data.toList.drop i)
   rw [List.length_drop, show s.data.toList.length = s.size from by simp] at hle
   have hg := dec_good s i h hc
   have hcls := charN_cls s i h
   rw [get_here s i h] at hcls
   rw [hg.1]
   refine ⟨by omega, by omega, ?_⟩
   intro j hj
   rcases hg.2.2 with ⟨q, _, q2⟩ | ⟨q, _⟩
   · omega
   · have hn : Lx.charN (s.data.toList.drop i) = 2 ∨ Lx.charN (s.data.toList.drop i) = 3 ∨ Lx.charN (s.data.toList.drop i) = 4 := by
      have : ∀ n b0 b1 b2 b3, clsN n b0 b1 b2 b3 ≤ 4 := by
       intro n b0 b1 b2 b3
       unfold clsN
       repeat' split
       all_goals omega
      have := this (s.size - i) s[i].toNat (s.get! (i + 1)).toNat (s.get! (i + 2)).toNat (s.get! (i + 3)).toNat
      rw [← hcls] at this
      omega
     have lo : ∀ b, 128 ≤ Lx.loOf b := by
      intro b; unfold Lx.loOf
      repeat' split
      all_goals omega
     have hj0 : j = 0 → 128 ≤ (s.get! (i + j)).toNat := by rintro rfl; rw [Nat.add_zero, get_here s i h]; exact hb
     rcases hn with e | e | e
     · rw [e] at hcls hj
       obtain ⟨_, q1, _⟩ := cls_two _ _ _ _ _ hcls.symm
       have : j = 0 ∨ j = 1 := by omega
       rcases this with rfl | rfl
       · exact hj0 rfl
       · exact q1.2.1
     · rw [e] at hcls hj
       obtain ⟨_, q1, q2, _⟩ := cls_three _ _ _ _ _ hcls.symm
       have := lo s[i].toNat
       have : j = 0 ∨ j = 1 ∨ j = 2 := by omega
       rcases this with rfl | rfl | rfl
       · exact hj0 rfl
       · omega
       · exact q2.2.1
     · rw [e] at hcls hj
       obtain ⟨_, q1, q2, q3, _⟩ := cls_four _ _ _ _ _ hcls.symm
       have := lo s[i].toNat
       have : j = 0 ∨ j = 1 ∨ j = 2 ∨ j = 3 := by omega
       rcases this with rfl | rfl | rfl | rfl
       · exact hj0 rfl
       · omega
       · exact q2.2.1
       · exact q3.2.1
structure Fits (p : Int → Bool) (q : UInt8 → Bool) : Prop where
 low : ∀ b : UInt8, b.toNat < 128 → p (b.toNat : Int) = q b
 high : (∀ r : Int, 128 ≤ r → p r = false) ∧ (∀ b : UInt8, 128 ≤ b.toNat → q b = false) ∨ (∀ r : Int, 128 ≤ r → p r = true) ∧ (∀ b : UInt8, 128 ≤ b.toNat → q b = true)
theorem cnt_run (q : UInt8 → Bool) (s : ByteArray) : ∀ (n i : Nat), i + n ≤ s.size → (∀ j, j < n → q (s.get! (i + j)) = true) → Lx.cnt q (s.data.toList.drop i) = n + Lx.cnt q (s.data.toList.drop (i + n))
 | 0, i, _, _ => by simp
 | n + 1, i, h, hq => by
  rw [cnt_at q s i (by omega), if_pos (by have := hq 0 (by omega); rwa [Nat.add_zero, get_here s i (by omega)] at this)]
  rw [cnt_run q s n (i + 1) (by omega) (fun j hj => by have := hq (j + 1) (by omega); rwa [show i + (j + 1) = i + 1 + j from by omega] at this)]
  rw [show i + 1 + n = i + (n + 1) from by omega]; omega
theorem Fits.yes {p : Int → Bool} {q : UInt8 → Bool} (hf : Fits p q) (s : ByteArray) (i : Nat) (h : i < s.size) (hp : p ((Utf8.decode s i).1 : Int) = true) :
   Lx.cnt q (s.data.toList.drop i) = (Utf8.decode s i).2 + Lx.cnt q (s.data.toList.drop (i + (Utf8.decode s i).2)) ∧ i + (Utf8.decode s i).2 ≤ s.size ∧ 1 ≤ (Utf8.decode s i).2 := by
 by_cases hb : s[i].toNat < 128
 · rw [decode_ascii s i h hb] at hp ⊢
   simp only at hp ⊢
   rw [hf.low _ hb] at hp
   refine ⟨?_, by omega, by omega⟩
   rw [cnt_at q s i h, if_pos hp]; omega
 · have hh := char_high s i h (by omega)
   have hr := (decode_high s i h (by omega)).1
   refine ⟨?_, hh.1, hh.2.1⟩
   rcases hf.high with ⟨h1, _⟩ | ⟨_, h2⟩
   · rw [h1 _ (by omega)] at hp; cases hp
   · exact cnt_run q s _ i hh.1 (fun j hj => h2 _ (hh.2.2 j hj))
theorem Fits.no {p : Int → Bool} {q : UInt8 → Bool} (hf : Fits p q) (s : ByteArray) (i : Nat) (h : i < s.size) (hp : p ((Utf8.decode s i).1 : Int) = false) : Lx.cnt q (s.data.toList.drop i) = 0 := by
 rw [cnt_at q s i h, if_neg]
 intro hq
 by_cases hb : s[i].toNat < 128
 · rw [decode_ascii s i h hb] at hp
   rw [hf.low _ hb, hq] at hp
   cases hp
 · have hr := (decode_high s i h (by omega)).1
   rcases hf.high with ⟨_, h2⟩ | ⟨h1, _⟩
   · rw [h2 _ (by omega)] at hq; cases hq
   · rw [h1 _ (by omega)] at hp; cases hp
theorem fits_sp : Fits rSp Lx.isSp := by
 refine ⟨fun b hb => ?_, .inl ⟨fun r hr => ?_, fun b hb => ?_⟩⟩
 · unfold rSp Lx.isSp; rw [Bool.eq_iff_iff]; simp; omega
 · unfold rSp; simp; omega
 · unfold Lx.isSp; simp; omega
theorem fits_line : Fits rLine Lx.notNl := by
 refine ⟨fun b hb => ?_, .inr ⟨fun r hr => ?_, fun b hb => ?_⟩⟩
 · unfold rLine Lx.notNl; rw [Bool.eq_iff_iff]; simp; omega
 · unfold rLine; simp; omega
 · unfold Lx.notNl; simp; omega
theorem fits_dig : Fits rDig Lx.isDig := by
 refine ⟨fun b hb => ?_, .inl ⟨fun r hr => ?_, fun b hb => ?_⟩⟩
 · unfold rDig Lx.isDig; rw [Bool.eq_iff_iff]; simp; omega
 · unfold rDig; simp; omega
 · unfold Lx.isDig; simp; omega
theorem fits_wd : Fits rWd Lx.isWd := by
 refine ⟨fun b hb => ?_, .inl ⟨fun r hr => ?_, fun b hb => ?_⟩⟩
 · unfold rWd Lx.isWd Lx.isDig Lx.isLet; rw [Bool.eq_iff_iff]; simp; omega
 · unfold rWd; simp; omega
 · unfold Lx.isWd Lx.isDig Lx.isLet; simp; omega
theorem Rd.iter {w : World} {B : Nat} {s : ByteArray} {k st : Nat} (h : Rd w B s k st) (t : ByteArray) (p : Nat) : Rd (w.drew.iter t p) B s k st :=
 h.drew.below ((Below.refl _ _).alloc (Nat.le_refl _) _)
theorem grownBy_iter (w : World) (t : ByteArray) (p B : Nat) : w.grownBy (w.drew.iter t p) (some B) :=
 grownBy_trans (grownBy_drew (grownBy_refl w _)) (Below.grownBy ((Below.refl _ _).alloc (Nat.le_refl _) _))
theorem takeAll_isDigit (w : World) (B : Nat) (s : ByteArray) (k st : Nat) (h : Rd w B s k st) :
   Calls Tryz.prog 84 #[.pointer (some ⟨B, 0, none⟩), .func (.func 140) #[] #[]] w fun e w' => ∃ u : ByteArray, e = .returned (.string u) ∧ u.data.toList = (s.data.toList.drop k).take (Lx.cnt Lx.isDig (s.data.toList.drop k)) ∧ Rd w' B s (k + Lx.cnt Lx.isDig (s.data.toList.drop k)) st ∧ w.grownBy w' (some B) := by
 obtain ⟨⟨b0, b1, b2⟩, b3, b4, b5⟩ := h.blk.three
 have hle := h.le
 have hsm := h.small
 obtain ⟨t, ht⟩ : ∃ t, t = s.extract k s.size := ⟨_, rfl⟩
 have hT : t.data.toList = s.data.toList.drop k := by rw [ht]; exact Lib.extract_to_end s k
 have hts : t.size + k = s.size := by rw [ht]; simp; omega
 rw [← hT]
 have HT := hd hT
 have HTT := hd ht
 clear ht hT
 have hI1 : ∀ p, (w.drew.iter t p).cell? ⟨B, 1, none⟩ = some (.int .i64 (k : Int)) := fun p => (h.iter t p).blk.cell 1
 have hI2 : ∀ p, (w.drew.iter t p).frozen? ⟨B, 1, none⟩ = false := fun p => (h.iter t p).blk.free 1
 go_enter Tryz.func84, Tryz.ntmps84
 go_wp2
 go_region
 all_goals go_wp2
 rw [← HTT.out]
 go_loopw [6] (fun v wr => ∃ pos : Nat, v = .int .i64 (t.size : Int) ∧ wr = w.drew.iter t pos ∧ pos ≤ t.size ∧ Hid (Lx.cnt Lx.isDig t.data.toList = pos + Lx.cnt Lx.isDig (t.data.toList.drop pos))) (fun _ wr => t.size - wr.iterPos w.heap.size)
 case atStart => exact ⟨0, by rw [show s.size - k = t.size from by omega], rfl, by omega, by show _ = _; simp⟩
 case round =>
  obtain ⟨pos, rfl, rfl, hpos, HK⟩ := hrel
  by_cases hlt : pos < t.size
  · have hnx : ∀ ty, (Instr.next (.pointer (some ⟨w.heap.size, 0, none⟩)) true ty).run Tryz.prog (w.drew.iter t pos) = .ok (.tuple #[.bool true, .int .i64 pos, .int .i32 (Utf8.decode t pos).1]) (w.drew.iter t (pos + (Utf8.decode t pos).2)) := fun ty => run_next_any (P := Tryz.prog) w.drew t pos ty hlt
    cases hp : rDig ((Utf8.decode t pos).1 : Int)
    · have HN := hd (fits_dig.no t pos hlt hp)
      generalize (Utf8.decode t pos) = d at *
      obtain ⟨c, n⟩ := d
      go_wp2_with (go_at_call 140; refine (isDigit_any _ _).mono ?_; rintro e w' ⟨rfl, rfl⟩)
      go_ret
      have hc : Lx.cnt Lx.isDig t.data.toList = pos := by rw [HK.out, HN.out]; rfl
      rw [hc]
      refine ⟨_, rfl, ?_, (h.iter t (pos + n)).set1 (k + pos) (by omega), grownBy_trans (grownBy_iter w t (pos + n) B) (grownBy_set _ B 1 _)⟩
      rw [Lib.extract_data]; simp
    · have HY := hd (fits_dig.yes t pos hlt hp)
      generalize (Utf8.decode t pos) = d at *
      obtain ⟨c, n⟩ := d
      go_wp2_with (go_at_call 140; refine (isDigit_any _ _).mono ?_; rintro e w' ⟨rfl, rfl⟩)
      go_roundw
      case rel =>
       obtain ⟨y1, y2, y3⟩ := HY.out
       try simp only at y1 y2 y3
       exact ⟨pos + n, rfl, rfl, y2, by have h1 := HK.out; show _ = _; omega⟩
      case measure =>
       obtain ⟨y1, y2, y3⟩ := HY.out
       try simp only at y1 y2 y3
       show t.size - (w.drew.iter t (pos + n)).iterPos w.drew.heap.size < t.size - (w.drew.iter t pos).iterPos w.drew.heap.size
       rw [World.iterPos_iter, World.iterPos_iter]; omega
  · have hnx : ∀ ty, (Instr.next (.pointer (some ⟨w.heap.size, 0, none⟩)) true ty).run Tryz.prog (w.drew.iter t pos) = .ok (.tuple #[.bool false]) (w.drew.iter t pos) := fun ty => run_next_end (P := Tryz.prog) w.drew t pos ty hlt
    go_wp2
    go_ret
    have hc : Lx.cnt Lx.isDig t.data.toList = t.size := by rw [HK.out, cnt_end Lx.isDig t pos (by omega)]; omega
    rw [hc]
    refine ⟨_, rfl, ?_, (h.iter t pos).set1 (k + t.size) (by omega), grownBy_trans (grownBy_iter w t pos B) (grownBy_set _ B 1 _)⟩
    rw [List.take_of_length_le (by simp)]
theorem takeAll_isSpace (w : World) (B : Nat) (s : ByteArray) (k st : Nat) (h : Rd w B s k st) :
   Calls Tryz.prog 84 #[.pointer (some ⟨B, 0, none⟩), .func (.func 85) #[] #[]] w fun e w' => ∃ u : ByteArray, e = .returned (.string u) ∧ u.data.toList = (s.data.toList.drop k).take (Lx.cnt Lx.isSp (s.data.toList.drop k)) ∧ Rd w' B s (k + Lx.cnt Lx.isSp (s.data.toList.drop k)) st ∧ w.grownBy w' (some B) := by
 obtain ⟨⟨b0, b1, b2⟩, b3, b4, b5⟩ := h.blk.three
 have hle := h.le
 have hsm := h.small
 obtain ⟨t, ht⟩ : ∃ t, t = s.extract k s.size := ⟨_, rfl⟩
 have hT : t.data.toList = s.data.toList.drop k := by rw [ht]; exact Lib.extract_to_end s k
 have hts : t.size + k = s.size := by rw [ht]; simp; omega
 rw [← hT]
 have HT := hd hT
 have HTT := hd ht
 clear ht hT
 have hI1 : ∀ p, (w.drew.iter t p).cell? ⟨B, 1, none⟩ = some (.int .i64 (k : Int)) := fun p => (h.iter t p).blk.cell 1
 have hI2 : ∀ p, (w.drew.iter t p).frozen? ⟨B, 1, none⟩ = false := fun p => (h.iter t p).blk.free 1
 go_enter Tryz.func84, Tryz.ntmps84
 go_wp2
 go_region
 all_goals go_wp2
 rw [← HTT.out]
 go_loopw [6] (fun v wr => ∃ pos : Nat, v = .int .i64 (t.size : Int) ∧ wr = w.drew.iter t pos ∧ pos ≤ t.size ∧ Hid (Lx.cnt Lx.isSp t.data.toList = pos + Lx.cnt Lx.isSp (t.data.toList.drop pos))) (fun _ wr => t.size - wr.iterPos w.heap.size)
 case atStart => exact ⟨0, by rw [show s.size - k = t.size from by omega], rfl, by omega, by show _ = _; simp⟩
 case round =>
  obtain ⟨pos, rfl, rfl, hpos, HK⟩ := hrel
  by_cases hlt : pos < t.size
  · have hnx : ∀ ty, (Instr.next (.pointer (some ⟨w.heap.size, 0, none⟩)) true ty).run Tryz.prog (w.drew.iter t pos) = .ok (.tuple #[.bool true, .int .i64 pos, .int .i32 (Utf8.decode t pos).1]) (w.drew.iter t (pos + (Utf8.decode t pos).2)) := fun ty => run_next_any (P := Tryz.prog) w.drew t pos ty hlt
    cases hp : rSp ((Utf8.decode t pos).1 : Int)
    · have HN := hd (fits_sp.no t pos hlt hp)
      generalize (Utf8.decode t pos) = d at *
      obtain ⟨c, n⟩ := d
      go_wp2_with (go_at_call 85; refine (isSpace_any _ _).mono ?_; rintro e w' ⟨rfl, rfl⟩)
      go_ret
      have hc : Lx.cnt Lx.isSp t.data.toList = pos := by rw [HK.out, HN.out]; rfl
      rw [hc]
      refine ⟨_, rfl, ?_, (h.iter t (pos + n)).set1 (k + pos) (by omega), grownBy_trans (grownBy_iter w t (pos + n) B) (grownBy_set _ B 1 _)⟩
      rw [Lib.extract_data]; simp
    · have HY := hd (fits_sp.yes t pos hlt hp)
      generalize (Utf8.decode t pos) = d at *
      obtain ⟨c, n⟩ := d
      go_wp2_with (go_at_call 85; refine (isSpace_any _ _).mono ?_; rintro e w' ⟨rfl, rfl⟩)
      go_roundw
      case rel =>
       obtain ⟨y1, y2, y3⟩ := HY.out
       try simp only at y1 y2 y3
       exact ⟨pos + n, rfl, rfl, y2, by have h1 := HK.out; show _ = _; omega⟩
      case measure =>
       obtain ⟨y1, y2, y3⟩ := HY.out
       try simp only at y1 y2 y3
       show t.size - (w.drew.iter t (pos + n)).iterPos w.drew.heap.size < t.size - (w.drew.iter t pos).iterPos w.drew.heap.size
       rw [World.iterPos_iter, World.iterPos_iter]; omega
  · have hnx : ∀ ty, (Instr.next (.pointer (some ⟨w.heap.size, 0, none⟩)) true ty).run Tryz.prog (w.drew.iter t pos) = .ok (.tuple #[.bool false]) (w.drew.iter t pos) := fun ty => run_next_end (P := Tryz.prog) w.drew t pos ty hlt
    go_wp2
    go_ret
    have hc : Lx.cnt Lx.isSp t.data.toList = t.size := by rw [HK.out, cnt_end Lx.isSp t pos (by omega)]; omega
    rw [hc]
    refine ⟨_, rfl, ?_, (h.iter t pos).set1 (k + t.size) (by omega), grownBy_trans (grownBy_iter w t pos B) (grownBy_set _ B 1 _)⟩
    rw [List.take_of_length_le (by simp)]
theorem takeAll_inLine (w : World) (B : Nat) (s : ByteArray) (k st : Nat) (h : Rd w B s k st) :
   Calls Tryz.prog 84 #[.pointer (some ⟨B, 0, none⟩), .func (.func 87) #[] #[]] w fun e w' => ∃ u : ByteArray, e = .returned (.string u) ∧ u.data.toList = (s.data.toList.drop k).take (Lx.cnt Lx.notNl (s.data.toList.drop k)) ∧ Rd w' B s (k + Lx.cnt Lx.notNl (s.data.toList.drop k)) st ∧ w.grownBy w' (some B) := by
 obtain ⟨⟨b0, b1, b2⟩, b3, b4, b5⟩ := h.blk.three
 have hle := h.le
 have hsm := h.small
 obtain ⟨t, ht⟩ : ∃ t, t = s.extract k s.size := ⟨_, rfl⟩
 have hT : t.data.toList = s.data.toList.drop k := by rw [ht]; exact Lib.extract_to_end s k
 have hts : t.size + k = s.size := by rw [ht]; simp; omega
 rw [← hT]
 have HT := hd hT
 have HTT := hd ht
 clear ht hT
 have hI1 : ∀ p, (w.drew.iter t p).cell? ⟨B, 1, none⟩ = some (.int .i64 (k : Int)) := fun p => (h.iter t p).blk.cell 1
 have hI2 : ∀ p, (w.drew.iter t p).frozen? ⟨B, 1, none⟩ = false := fun p => (h.iter t p).blk.free 1
 go_enter Tryz.func84, Tryz.ntmps84
 go_wp2
 go_region
 all_goals go_wp2
 rw [← HTT.out]
 go_loopw [6] (fun v wr => ∃ pos : Nat, v = .int .i64 (t.size : Int) ∧ wr = w.drew.iter t pos ∧ pos ≤ t.size ∧ Hid (Lx.cnt Lx.notNl t.data.toList = pos + Lx.cnt Lx.notNl (t.data.toList.drop pos))) (fun _ wr => t.size - wr.iterPos w.heap.size)
 case atStart => exact ⟨0, by rw [show s.size - k = t.size from by omega], rfl, by omega, by show _ = _; simp⟩
 case round =>
  obtain ⟨pos, rfl, rfl, hpos, HK⟩ := hrel
  by_cases hlt : pos < t.size
  · have hnx : ∀ ty, (Instr.next (.pointer (some ⟨w.heap.size, 0, none⟩)) true ty).run Tryz.prog (w.drew.iter t pos) = .ok (.tuple #[.bool true, .int .i64 pos, .int .i32 (Utf8.decode t pos).1]) (w.drew.iter t (pos + (Utf8.decode t pos).2)) := fun ty => run_next_any (P := Tryz.prog) w.drew t pos ty hlt
    cases hp : rLine ((Utf8.decode t pos).1 : Int)
    · have HN := hd (fits_line.no t pos hlt hp)
      generalize (Utf8.decode t pos) = d at *
      obtain ⟨c, n⟩ := d
      go_wp2_with (go_at_call 87; refine (inLine_any _ _).mono ?_; rintro e w' ⟨rfl, rfl⟩)
      go_ret
      have hc : Lx.cnt Lx.notNl t.data.toList = pos := by rw [HK.out, HN.out]; rfl
      rw [hc]
      refine ⟨_, rfl, ?_, (h.iter t (pos + n)).set1 (k + pos) (by omega), grownBy_trans (grownBy_iter w t (pos + n) B) (grownBy_set _ B 1 _)⟩
      rw [Lib.extract_data]; simp
    · have HY := hd (fits_line.yes t pos hlt hp)
      generalize (Utf8.decode t pos) = d at *
      obtain ⟨c, n⟩ := d
      go_wp2_with (go_at_call 87; refine (inLine_any _ _).mono ?_; rintro e w' ⟨rfl, rfl⟩)
      go_roundw
      case rel =>
       obtain ⟨y1, y2, y3⟩ := HY.out
       try simp only at y1 y2 y3
       exact ⟨pos + n, rfl, rfl, y2, by have h1 := HK.out; show _ = _; omega⟩
      case measure =>
       obtain ⟨y1, y2, y3⟩ := HY.out
       try simp only at y1 y2 y3
       show t.size - (w.drew.iter t (pos + n)).iterPos w.drew.heap.size < t.size - (w.drew.iter t pos).iterPos w.drew.heap.size
       rw [World.iterPos_iter, World.iterPos_iter]; omega
  · have hnx : ∀ ty, (Instr.next (.pointer (some ⟨w.heap.size, 0, none⟩)) true ty).run Tryz.prog (w.drew.iter t pos) = .ok (.tuple #[.bool false]) (w.drew.iter t pos) := fun ty => run_next_end (P := Tryz.prog) w.drew t pos ty hlt
    go_wp2
    go_ret
    have hc : Lx.cnt Lx.notNl t.data.toList = t.size := by rw [HK.out, cnt_end Lx.notNl t pos (by omega)]; omega
    rw [hc]
    refine ⟨_, rfl, ?_, (h.iter t pos).set1 (k + t.size) (by omega), grownBy_trans (grownBy_iter w t pos B) (grownBy_set _ B 1 _)⟩
    rw [List.take_of_length_le (by simp)]
theorem takeAll_inWord (w : World) (B : Nat) (s : ByteArray) (k st : Nat) (h : Rd w B s k st) :
   Calls Tryz.prog 84 #[.pointer (some ⟨B, 0, none⟩), .func (.func 142) #[] #[]] w fun e w' => ∃ u : ByteArray, e = .returned (.string u) ∧ u.data.toList = (s.data.toList.drop k).take (Lx.cnt Lx.isWd (s.data.toList.drop k)) ∧ Rd w' B s (k + Lx.cnt Lx.isWd (s.data.toList.drop k)) st ∧ w.grownBy w' (some B) := by
 obtain ⟨⟨b0, b1, b2⟩, b3, b4, b5⟩ := h.blk.three
 have hle := h.le
 have hsm := h.small
 obtain ⟨t, ht⟩ : ∃ t, t = s.extract k s.size := ⟨_, rfl⟩
 have hT : t.data.toList = s.data.toList.drop k := by rw [ht]; exact Lib.extract_to_end s k
 have hts : t.size + k = s.size := by rw [ht]; simp; omega
 rw [← hT]
 have HT := hd hT
 have HTT := hd ht
 clear ht hT
 have hI1 : ∀ p, (w.drew.iter t p).cell? ⟨B, 1, none⟩ = some (.int .i64 (k : Int)) := fun p => (h.iter t p).blk.cell 1
 have hI2 : ∀ p, (w.drew.iter t p).frozen? ⟨B, 1, none⟩ = false := fun p => (h.iter t p).blk.free 1
 go_enter Tryz.func84, Tryz.ntmps84
 go_wp2
 go_region
 all_goals go_wp2
 rw [← HTT.out]
 go_loopw [6] (fun v wr => ∃ pos : Nat, v = .int .i64 (t.size : Int) ∧ wr = w.drew.iter t pos ∧ pos ≤ t.size ∧ Hid (Lx.cnt Lx.isWd t.data.toList = pos + Lx.cnt Lx.isWd (t.data.toList.drop pos))) (fun _ wr => t.size - wr.iterPos w.heap.size)
 case atStart => exact ⟨0, by rw [show s.size - k = t.size from by omega], rfl, by omega, by show _ = _; simp⟩
 case round =>
  obtain ⟨pos, rfl, rfl, hpos, HK⟩ := hrel
  by_cases hlt : pos < t.size
  · have hnx : ∀ ty, (Instr.next (.pointer (some ⟨w.heap.size, 0, none⟩)) true ty).run Tryz.prog (w.drew.iter t pos) = .ok (.tuple #[.bool true, .int .i64 pos, .int .i32 (Utf8.decode t pos).1]) (w.drew.iter t (pos + (Utf8.decode t pos).2)) := fun ty => run_next_any (P := Tryz.prog) w.drew t pos ty hlt
    cases hp : rWd ((Utf8.decode t pos).1 : Int)
    · have HN := hd (fits_wd.no t pos hlt hp)
      generalize (Utf8.decode t pos) = d at *
      obtain ⟨c, n⟩ := d
      go_wp2_with (go_at_call 142; refine (inWord_any _ _).mono ?_; rintro e w' ⟨rfl, rfl⟩)
      go_ret
      have hc : Lx.cnt Lx.isWd t.data.toList = pos := by rw [HK.out, HN.out]; rfl
      rw [hc]
      refine ⟨_, rfl, ?_, (h.iter t (pos + n)).set1 (k + pos) (by omega), grownBy_trans (grownBy_iter w t (pos + n) B) (grownBy_set _ B 1 _)⟩
      rw [Lib.extract_data]; simp
    · have HY := hd (fits_wd.yes t pos hlt hp)
      generalize (Utf8.decode t pos) = d at *
      obtain ⟨c, n⟩ := d
      go_wp2_with (go_at_call 142; refine (inWord_any _ _).mono ?_; rintro e w' ⟨rfl, rfl⟩)
      go_roundw
      case rel =>
       obtain ⟨y1, y2, y3⟩ := HY.out
       try simp only at y1 y2 y3
       exact ⟨pos + n, rfl, rfl, y2, by have h1 := HK.out; show _ = _; omega⟩
      case measure =>
       obtain ⟨y1, y2, y3⟩ := HY.out
       try simp only at y1 y2 y3
       show t.size - (w.drew.iter t (pos + n)).iterPos w.drew.heap.size < t.size - (w.drew.iter t pos).iterPos w.drew.heap.size
       rw [World.iterPos_iter, World.iterPos_iter]; omega
  · have hnx : ∀ ty, (Instr.next (.pointer (some ⟨w.heap.size, 0, none⟩)) true ty).run Tryz.prog (w.drew.iter t pos) = .ok (.tuple #[.bool false]) (w.drew.iter t pos) := fun ty => run_next_end (P := Tryz.prog) w.drew t pos ty hlt
    go_wp2
    go_ret
    have hc : Lx.cnt Lx.isWd t.data.toList = t.size := by rw [HK.out, cnt_end Lx.isWd t pos (by omega)]; omega
    rw [hc]
    refine ⟨_, rfl, ?_, (h.iter t pos).set1 (k + t.size) (by omega), grownBy_trans (grownBy_iter w t pos B) (grownBy_set _ B 1 _)⟩
    rw [List.take_of_length_le (by simp)]
section
open Go.RowKit Go.Shelf Go.Lib
theorem u8types : U8Types Tryz.prog Tryz.lays197_ren := ⟨by kernel_rfl, by kernel_rfl, by kernel_rfl, by kernel_rfl⟩
theorem u8extra : U8Extra Tryz.prog Tryz.lays197_ren := ⟨by kernel_rfl, by kernel_rfl, by kernel_rfl, by kernel_rfl, by kernel_rfl, by kernel_rfl, by kernel_rfl⟩
theorem accept_eq : (Rows.laid_unicode_utf8_acceptRanges : DataW Unit) = acceptData := by kernel_rfl
theorem first_eq : Rows.laid_unicode_utf8_first = firstData := Pinned.utf8First_eq
theorem keys_eq : (Rows.laid_clause_reader_keywords : DataW Unit) = .agg (Lx.keys.map fun x => .lit (.string x)) := by kernel_rfl
theorem signs_eq : (Rows.laid_clause_reader_signs : DataW Unit) = .agg (sgns.map fun x => .lit (.string x)) := by kernel_rfl
theorem ops_eq : (Rows.laid_clause_syntax_operators : DataW Unit) = .agg (Px.opTab.map opData) := by kernel_rfl
theorem room_of_shape {W : World} (h : W.ShapedOpen Tryz.prog) : 12 ≤ W.heap.size := by
 have hz : (((begin Tryz.prog (fun _ _ => 0) default).world.heap[12 - 1]?).bind Obj.row?).isSome = true := by kernel_rfl
 obtain ⟨⟨zero, t⟩, he⟩ := Option.isSome_iff_exists.1 hz
 obtain ⟨cs, hc, _⟩ := h.1 (12 - 1) zero t (of_decide_eq_true (by kernel_rfl)) he
 obtain ⟨hlt, _⟩ := Array.getElem?_eq_some_iff.1 hc
 exact hlt
theorem envP_of_reads {W : World} (ha : VarReads Tryz.prog W "unicode/utf8.acceptRanges" Rows.laid_unicode_utf8_acceptRanges) (hk : VarReads Tryz.prog W "clause/reader.keywords" Rows.laid_clause_reader_keywords)
   (hs : VarReads Tryz.prog W "clause/reader.signs" Rows.laid_clause_reader_signs) (hf : VarReads Tryz.prog W "unicode/utf8.first" Rows.laid_unicode_utf8_first)
   (ho : VarReads Tryz.prog W "clause/syntax.operators" Rows.laid_clause_syntax_operators) (hr : VarReads Tryz.prog W "strconv.ErrRange" Rows.laid_strconv_ErrRange) (hsh : W.ShapedOpen Tryz.prog) : EnvP W where
 env := {
   tabs := utf8Tabs_of_readsT u8types u8extra (first_eq ▸ hf) (accept_eq ▸ ha)
   kws := strs_of_reads (t := 340) (e := 9) (m := 27) Lx.keys (by kernel_rfl) (by kernel_rfl) (by kernel_rfl) (by kernel_rfl) (by kernel_rfl) (by kernel_rfl) (keys_eq ▸ hk)
   sgs := strs_of_reads (t := 305) (e := 9) (m := 16) sgns (by kernel_rfl) (by kernel_rfl) (by kernel_rfl) (by kernel_rfl) (by kernel_rfl) (by kernel_rfl) (signs_eq ▸ hs)
   room := room_of_shape hsh }
 ops := ops_of_reads (t := 363) (e := 362) (m := 14) Px.opTab (by kernel_rfl) (by kernel_rfl) (by kernel_rfl) Tryz.underlying362 (by kernel_rfl) (by kernel_rfl) rfl (by kernel_rfl) (by kernel_rfl) (by kernel_rfl) (by kernel_rfl) (by kernel_rfl) (by kernel_rfl) rfl rfl rfl (ops_eq ▸ ho)
 rng := err_of_reads (t := 248) (by kernel_rfl) (by kernel_rfl) Tryz.underlying248 hr
end
section
namespace Px
open Lx (Bs Tok)
def pkN : List Nd → Int
 | [] => 0
 | x :: _ => x.kind
def rA (x : Nd) : Option E :=
 if x.kind = 14 then if bareN x 0 = true then some .null else none
 else if x.kind = 15 then if x.text = [] ∧ x.kids = 0 ∧ (x.num = 0 ∨ x.num = 1) then some (.bool (decide (x.num = 1))) else none
 else if x.kind = 16 then if x.text = [] ∧ x.kids = 0 then some (.num x.num) else none
 else if x.kind = 17 then if Lx.validN x.text = true ∧ x.num = 0 ∧ x.kids = 0 then some (.str x.text) else none
 else if x.kind = 18 then if isName x.text = true ∧ x.num = 0 ∧ x.kids = 0 then some (.nm x.text) else none
 else none
def rE : Nat → List Nd → Option (E × List Nd)
 | 0, _ => none
 | _ + 1, [] => none
 | f + 1, x :: r =>
  if x.kind = 19 ∨ x.kind = 20 ∨ x.kind = 21 ∨ x.kind = 22 then
    if bareN x 1 = true ∧ ¬ (x.kind = 19 ∧ pkN r = 16) then (rE f r).map fun y => (.un x.kind.toNat y.1, y.2) else none
  else if 23 ≤ x.kind ∧ x.kind ≤ 36 then
    if bareN x 2 = true then (rE f r).bind fun y => (rE f y.2).map fun z => (.bin x.kind.toNat y.1 z.1, z.2) else none
  else (rA x).map fun e => (e, r)
def rN {α : Type} (x : List Nd → Option (α × List Nd)) : Nat → List Nd → Option (List α × List Nd)
 | 0, l => some ([], l)
 | k + 1, l => (x l).bind fun y => (rN x k y.2).map fun z => (y.1 :: z.1, z.2)
def rW {α : Type} (is : Int → Bool) (x : List Nd → Option (α × List Nd)) : Nat → List Nd → Option (List α × Nat × List Nd)
 | 0, l => some ([], 0, l)
 | k + 1, l => if is (pkN l) = true then (x l).bind fun y => (rW is x k y.2).map fun z => (y.1 :: z.1, z.2) else some ([], k + 1, l)
def rCol : List Nd → Option ((Bs × Nat) × List Nd)
 | [] => none
 | x :: r => if x.kind = 2 ∧ isName x.text = true ∧ x.kids = 0 ∧ 1 ≤ (if 4 < x.num then x.num - 4 else x.num) ∧ (if 4 < x.num then x.num - 4 else x.num) ≤ 3 then some ((x.text, x.num.toNat), r) else none
def rRow : List Nd → Option (List E × List Nd)
 | [] => none
 | x :: r => if x.kind = 5 ∧ x.text = [] ∧ x.num = 0 ∧ 1 ≤ x.kids then rN (rE 40) x.kids.toNat r else none
def rSet : List Nd → Option ((Bs × E) × List Nd)
 | [] => none
 | x :: r => if x.kind = 8 ∧ isName x.text = true ∧ x.num = 0 ∧ x.kids = 1 then (rE 40 r).map fun y => ((x.text, y.1), y.2) else none
def rItem : List Nd → Option (Option E × List Nd)
 | [] => none
 | x :: r => if x.kind = 10 then if bareN x 0 = true then some (none, r) else none else (rE 40 (x :: r)).map fun y => (some y.1, y.2)
def rOrder : List Nd → Option ((E × Bool) × List Nd)
 | [] => none
 | x :: r => if x.text = [] ∧ x.kids = 1 ∧ (x.num = 0 ∨ x.num = 1) then (rE 40 r).map fun y => ((y.1, decide (x.num = 1)), y.2) else none
def rWhere (left : Nat) (l : List Nd) : Option (Option E × Nat × List Nd) :=
 if left ≠ 0 ∧ pkN l = 11 then
   match l with
   | [] => none
   | x :: r => if bareN x 1 = true then (rE 40 r).map fun y => (some y.1, left - 1, y.2) else none
 else some (none, left, l)
def rLim (left : Nat) (l : List Nd) : Option (Option Nat × Nat × List Nd) :=
 if left ≠ 0 ∧ pkN l = 13 then
   match l with
   | [] => none
   | x :: r => if x.text = [] ∧ x.kids = 0 ∧ 0 ≤ x.num ∧ x.num ≤ 1000000000 then some (some x.num.toNat, left - 1, r) else none
 else some (none, left, l)
def isTail (k : Int) : Bool := decide (k = 11 ∨ k = 12 ∨ k = 13)
def rSt : List Nd → Option (St × List Nd)
 | [] => none
 | x :: r =>
  if x.num = 0 ∧ isName x.text = true then
    if x.kind = 1 then if 1 ≤ x.kids ∧ x.kids ≤ 6 then (rN rCol x.kids.toNat r).map fun y => (.create x.text y.1, y.2) else none
    else if x.kind = 3 then if x.kids = 0 then some (.drop x.text, r) else none
    else if x.kind = 4 then if 1 ≤ x.kids then (rN rRow x.kids.toNat r).map fun y => (.insert x.text y.1, y.2) else none
    else if x.kind = 6 then if x.kids < 0 then none else (rWhere x.kids.toNat r).bind fun y => if y.2.1 = 0 then some (.delete x.text y.1, y.2.2) else none
    else if x.kind = 7 then if x.kids < 0 then none else (rW (fun k => decide (k = 8)) rSet x.kids.toNat r).bind fun y => (rWhere y.2.1 y.2.2).bind fun z => if z.2.1 = 0 ∧ y.1 ≠ [] then some (.update x.text y.1 z.1, z.2.2) else none
    else if x.kind = 9 then if x.kids < 0 then none else (rW (fun k => !isTail k) rItem x.kids.toNat r).bind fun y => (rWhere y.2.1 y.2.2).bind fun z => (rW (fun k => decide (k = 12)) rOrder z.2.1 z.2.2).bind fun o =>
     (rLim o.2.1 o.2.2).bind fun u => if u.2.1 = 0 ∧ y.1 ≠ [] then some (.select y.1 x.text z.1 o.1 u.1, u.2.2) else none
    else none
  else none
def rS (l : List Nd) : Option St := (rSt l).bind fun y => if y.2 = [] then some y.1 else none
theorem bare_of (k : Int) (n : Int) : bareN ⟨k, [], 0, n⟩ n = true := by simp [bareN]
theorem rE_nodes (e : E) : ∀ (f : Nat) (r : List Nd), e.ok 2000 → e.good → e.depth ≤ f → rE f (e.nodes ++ r) = some (e, r) := by
 induction e with
 | null =>
  intro f r _ _ hd
  match f, hd with
  | f + 1, _ => simp [E.nodes, leaf, rE, rA, bareN]
 | bool b =>
  intro f r _ _ hd
  match f, hd with
  | f + 1, _ => cases b <;> simp [E.nodes, leaf, rE, rA]
 | num z =>
  intro f r _ _ hd
  match f, hd with
  | f + 1, _ => simp [E.nodes, leaf, rE, rA]
 | str s =>
  intro f r _ hg hd
  match f, hd with
  | f + 1, _ =>
   have : Lx.validN s = true := hg
   simp [E.nodes, leaf, rE, rA, this]
 | nm s =>
  intro f r _ hg hd
  match f, hd with
  | f + 1, _ =>
   have : isName s = true := hg
   simp [E.nodes, leaf, rE, rA, this]
 | un k e ih =>
  intro f r ho hg hd
  match f, hd with
  | f + 1, hd =>
   obtain ⟨h1, h2, h3, h4⟩ := ho
   have hi := ih f r h4 hg (by simp only [E.depth] at hd; omega)
   simp only [E.nodes, over1, List.cons_append]
   unfold rE
   have hk : (k : Int) = 19 ∨ (k : Int) = 20 ∨ (k : Int) = 21 ∨ (k : Int) = 22 := by omega
   have hp : ¬ ((k : Int) = 19 ∧ pkN (e.nodes ++ r) = 16) := by
    rintro ⟨e1, e2⟩
    have hn := h3 (by omega)
    cases e with
    | num z => simp [E.isNum] at hn
    | un k' e' => simp only [E.nodes, over1, List.cons_append, pkN] at e2; have := h4.1; have := h4.2.1; omega
    | bin k' a b => simp only [E.nodes, over2, List.cons_append, pkN] at e2; have := h4.1; have := h4.2.1; omega
    | _ => simp [E.nodes, leaf, pkN] at e2
   simp only [if_pos hk]
   rw [if_pos (by (repeat' apply And.intro) <;> first | trivial | rfl | assumption | exact bare_of _ _ | omega | (split <;> omega) | (split <;> simp)), hi]
   simp
 | bin k a b iha ihb =>
  intro f r ho hg hd
  match f, hd with
  | f + 1, hd =>
   obtain ⟨h1, h2, h3, h4⟩ := ho
   simp only [E.depth] at hd
   have hi := iha f (b.nodes ++ r) h3 hg.1 (by omega)
   have hj := ihb f r h4 hg.2 (by omega)
   simp only [E.nodes, over2, List.cons_append, List.append_assoc]
   unfold rE
   have hk : ¬ ((k : Int) = 19 ∨ (k : Int) = 20 ∨ (k : Int) = 21 ∨ (k : Int) = 22) := by omega
   simp only [if_neg hk]
   rw [if_pos (by omega), if_pos (bare_of _ _), hi]
   simp only [Option.bind_some]
   rw [hj]
   simp
theorem rN_nodes {α : Type} {x : List Nd → Option (α × List Nd)} {nd : α → List Nd} : ∀ (l : List α) (r : List Nd), (∀ a ∈ l, ∀ r, x (nd a ++ r) = some (a, r)) → rN x l.length (l.flatMap nd ++ r) = some (l, r)
 | [], r, _ => rfl
 | a :: l, r, h => by
  simp only [List.length_cons, List.flatMap_cons, List.append_assoc, rN]
  rw [h a (by simp)]
  simp only [Option.bind_some]
  rw [rN_nodes l r (fun b hb => h b (by simp [hb]))]
  rfl
theorem rW_nodes {α : Type} {is : Int → Bool} {x : List Nd → Option (α × List Nd)} {nd : α → List Nd} : ∀ (l : List α) (k : Nat) (r : List Nd), (∀ a ∈ l, ∀ r, is (pkN (nd a ++ r)) = true ∧ x (nd a ++ r) = some (a, r)) → (k ≠ 0 → is (pkN r) = false) → rW is x (l.length + k) (l.flatMap nd ++ r) = some (l, k, r)
 | [], k, r, _, hr => by
  match k, hr with
  | 0, _ => rfl
  | k + 1, hr =>
   rw [show ([] : List α).length + (k + 1) = k + 1 from by simp]
   simp only [List.flatMap_nil, List.nil_append, rW]
   rw [if_neg (by rw [hr (by omega)]; decide)]
 | a :: l, k, r, h, hr => by
  obtain ⟨h1, h2⟩ := h a (by simp) (l.flatMap nd ++ r)
  rw [show (a :: l).length + k = (l.length + k) + 1 from by simp; omega]
  simp only [List.flatMap_cons, List.append_assoc, rW]
  rw [if_pos h1, h2]
  simp only [Option.bind_some]
  rw [rW_nodes l k r (fun b hb => h b (by simp [hb])) hr]
  rfl
theorem flat_cols : ∀ l : List (Bs × Nat), l.flatMap (fun x => [colN x]) = l.map colN
 | [] => rfl
 | a :: l => by simp only [List.flatMap_cons, List.map_cons, List.singleton_append]; rw [flat_cols l]
theorem deepest_mem {l : List E} {e : E} (h : e ∈ l) : e.depth ≤ deepest l := by
 induction l with
 | nil => cases h
 | cons a l ih =>
  simp only [deepest]
  rcases List.mem_cons.1 h with rfl | h
  · omega
  · have := ih h; omega
theorem E.head (e : E) (n : Nat) (ho : e.ok n) (r : List Nd) : 14 ≤ pkN (e.nodes ++ r) ∧ pkN (e.nodes ++ r) ≤ 36 := by
 cases e with
 | un k e => simp only [E.nodes, over1, List.cons_append, pkN]; have := ho.1; have := ho.2.1; omega
 | bin k a b => simp only [E.nodes, over2, List.cons_append, pkN]; have := ho.1; have := ho.2.1; omega
 | _ => simp [E.nodes, leaf, pkN]
theorem rWhere_nodes (w : Option E) (k : Nat) (r : List Nd) (h : ∀ e ∈ w.toList, e.ok 2000 ∧ e.good ∧ e.depth ≤ 40) (hr : k ≠ 0 → pkN r ≠ 11) : rWhere (one? w + k) (whereN w ++ r) = some (w, k, r) := by
 cases w with
 | none =>
  simp only [one?, whereN, Nat.zero_add, List.nil_append, rWhere]
  rw [if_neg (by rintro ⟨h1, h2⟩; exact hr h1 h2)]
 | some e =>
  obtain ⟨h1, h2, h3⟩ := h e (by simp)
  simp only [one?, whereN, over1, List.cons_append, rWhere, pkN]
  rw [if_pos (by (repeat' apply And.intro) <;> first | trivial | rfl | assumption | exact bare_of _ _ | omega | (split <;> omega) | (split <;> simp)), if_pos (bare_of _ _), rE_nodes e 40 r h1 h2 h3]
  simp
theorem rLim_nodes (l : Option Nat) (h : ∀ n, l = some n → n ≤ 1000000000) : rLim (one? l) (limN l) = some (l, 0, []) := by
 cases l with
 | none => simp [one?, limN, rLim]
 | some n =>
  have := h n rfl
  simp only [one?, limN, rLim, pkN]
  rw [if_pos (by (repeat' apply And.intro) <;> first | trivial | rfl | assumption | exact bare_of _ _ | omega | (split <;> omega) | (split <;> simp)), if_pos (by (repeat' apply And.intro) <;> first | trivial | rfl | assumption | exact bare_of _ _ | omega | (split <;> omega) | (split <;> simp))]
  simp
theorem rS_nodes (s : St) (hf : s.Fit) (hg : ∀ e ∈ s.exprs, e.good) (hd : deepest s.exprs ≤ 40) : rS s.nodes = some s := by
 have hall : ∀ e ∈ s.exprs, e.ok 2000 ∧ e.good ∧ e.depth ≤ 40 := fun e he => ⟨hf.exprs e he, hg e he, by have := deepest_mem he; omega⟩
 have hp := hf.parts
 unfold rS
 cases s with
 | create t c =>
  obtain ⟨h1, h2, h3, h4⟩ := hp
  have hn : rN rCol c.length (c.flatMap (fun x => [colN x]) ++ []) = some (c, []) := rN_nodes c [] (fun a ha r => by
   obtain ⟨q1, q2, q3, q4⟩ := h4 a ha
   simp only [colN, List.cons_append, List.nil_append, rCol]
   rw [if_pos (by (repeat' apply And.intro) <;> first | trivial | rfl | assumption | exact bare_of _ _ | omega | (split <;> omega) | (split <;> simp))]
   simp)
  have hm : c.flatMap (fun x => [colN x]) ++ [] = c.map colN := by rw [List.append_nil]; exact flat_cols c
  rw [hm] at hn
  simp only [St.nodes, rSt]
  rw [if_pos (by (repeat' apply And.intro) <;> first | trivial | rfl | assumption | exact bare_of _ _ | omega | (split <;> omega) | (split <;> simp))]
  simp only [if_true]
  rw [if_pos (by (repeat' apply And.intro) <;> first | trivial | rfl | assumption | exact bare_of _ _ | omega | (split <;> omega) | (split <;> simp))]
  simp [hn]
 | drop t =>
  have h1 : isName t = true := hp
  simp [St.nodes, rSt, h1]
 | insert t rs =>
  obtain ⟨h1, h2, h3⟩ := hp
  have hrow : ∀ a ∈ rs, ∀ r, rRow (rowN a ++ r) = some (a, r) := by
   intro a ha r
   have hne := h3 a ha
   have hl : 1 ≤ a.length := List.length_pos_iff.2 hne
   simp only [rowN, List.cons_append, rRow]
   rw [if_pos (by (repeat' apply And.intro) <;> first | trivial | rfl | assumption | exact bare_of _ _ | omega | (split <;> omega) | (split <;> simp))]
   simp only [Int.toNat_natCast]
   refine rN_nodes a r (fun e he r => ?_)
   obtain ⟨q1, q2, q3⟩ := hall e (by simp only [St.exprs, List.mem_flatten]; exact ⟨a, ha, he⟩)
   exact rE_nodes e 40 r q1 q2 q3
  have hl : 1 ≤ rs.length := List.length_pos_iff.2 h2
  have hn := rN_nodes (x := rRow) (nd := rowN) rs [] hrow
  rw [List.append_nil] at hn
  simp only [St.nodes, rSt]
  rw [if_pos (by (repeat' apply And.intro) <;> first | trivial | rfl | assumption | exact bare_of _ _ | omega | (split <;> omega) | (split <;> simp))]
  simp only [show ¬ ((4 : Int) = 1) by decide, show ¬ ((4 : Int) = 3) by decide, if_false, if_true]
  rw [if_pos (by omega)]
  simp [hn]
 | delete t w =>
  have h1 : isName t = true := hp
  have hw := rWhere_nodes w 0 [] (fun e he => hall e (by simpa [St.exprs] using he)) (by simp)
  rw [Nat.add_zero, List.append_nil] at hw
  simp only [St.nodes, rSt]
  rw [if_pos (by (repeat' apply And.intro) <;> first | trivial | rfl | assumption | exact bare_of _ _ | omega | (split <;> omega) | (split <;> simp))]
  simp only [show ¬ ((6 : Int) = 1) by decide, show ¬ ((6 : Int) = 3) by decide, show ¬ ((6 : Int) = 4) by decide, if_false, if_true]
  rw [if_neg (by omega)]
  simp [hw]
 | update t ss w =>
  obtain ⟨h1, h2, h3⟩ := hp
  have hs : ∀ a ∈ ss, ∀ r, decide (pkN (setN a ++ r) = 8) = true ∧ rSet (setN a ++ r) = some (a, r) := by
   intro a ha r
   obtain ⟨q1, q2, q3⟩ := hall a.2 (by simp only [St.exprs, List.mem_append, List.mem_map]; exact .inl ⟨a, ha, rfl⟩)
   have h3' := h3 a ha
   simp only [setN, List.cons_append, pkN, rSet]
   rw [if_pos (by (repeat' apply And.intro) <;> first | trivial | rfl | assumption | exact bare_of _ _ | omega | (split <;> omega) | (split <;> simp)), rE_nodes a.2 40 r q1 q2 q3]
   simp
  have hw := rWhere_nodes w 0 [] (fun e he => hall e (by simp only [St.exprs, List.mem_append]; exact .inr he)) (by simp)
  rw [Nat.add_zero, List.append_nil] at hw
  have hr := rW_nodes (is := fun k => decide (k = 8)) (x := rSet) (nd := setN) ss (one? w) (whereN w) hs (fun _ => by
   cases w with
   | none => simp [whereN, pkN]
   | some e => simp [whereN, over1, pkN])
  simp only [St.nodes, rSt]
  rw [if_pos (by (repeat' apply And.intro) <;> first | trivial | rfl | assumption | exact bare_of _ _ | omega | (split <;> omega) | (split <;> simp))]
  simp only [show ¬ ((7 : Int) = 1) by decide, show ¬ ((7 : Int) = 3) by decide, show ¬ ((7 : Int) = 4) by decide, show ¬ ((7 : Int) = 6) by decide, if_false, if_true]
  rw [if_neg (by omega)]
  rw [show ((ss.length : Int) + (one? w : Int)).toNat = ss.length + one? w from by omega, hr]
  simp [hw, h2]
 | select is t w os lim =>
  obtain ⟨h1, h2, h3⟩ := hp
  have hi : ∀ a ∈ is, ∀ r, (!isTail (pkN (itemN a ++ r))) = true ∧ rItem (itemN a ++ r) = some (a, r) := by
   intro a ha r
   cases a with
   | none => simp [itemN, pkN, isTail, rItem, bareN]
   | some e =>
    obtain ⟨q1, q2, q3⟩ := hall e (by simp only [St.exprs, List.mem_append, List.mem_filterMap, id]; exact .inl (.inl ⟨some e, ha, rfl⟩))
    have hh := e.head 2000 q1 r
    have hx := rE_nodes e 40 r q1 q2 q3
    simp only [itemN]
    refine ⟨by simp [isTail]; omega, ?_⟩
    match hn : e.nodes ++ r, hh, hx with
    | [], hh, hx => simp [pkN] at hh
    | x :: r', hh, hx =>
     simp only [pkN] at hh
     simp only [rItem]
     rw [if_neg (by omega), hx]
     rfl
  have ho : ∀ a ∈ os, ∀ r, decide (pkN (orderN a ++ r) = 12) = true ∧ rOrder (orderN a ++ r) = some (a, r) := by
   intro a ha r
   obtain ⟨q1, q2, q3⟩ := hall a.1 (by simp only [St.exprs, List.mem_append, List.mem_map]; exact .inr ⟨a, ha, rfl⟩)
   simp only [orderN, List.cons_append, pkN, rOrder]
   refine ⟨by simp, ?_⟩
   rw [if_pos (by (repeat' apply And.intro) <;> first | trivial | rfl | assumption | exact bare_of _ _ | omega | (split <;> omega) | (split <;> simp)), rE_nodes a.1 40 r q1 q2 q3]
   obtain ⟨e, b⟩ := a
   cases b <;> simp
  have hl := rLim_nodes lim h3
  have hlim : pkN (limN lim) = 0 ∨ pkN (limN lim) = 13 := by cases lim <;> simp [limN, pkN]
  have hor := rW_nodes (is := fun k => decide (k = 12)) (x := rOrder) (nd := orderN) os (one? lim) (limN lim) ho (fun _ => by rcases hlim with h | h <;> rw [h] <;> decide)
  have hpo : ∀ l, pkN (os.flatMap orderN ++ limN lim) = l → l = 0 ∨ l = 12 ∨ l = 13 := by
   intro l e
   cases os with
   | nil => simp only [List.flatMap_nil, List.nil_append] at e; rw [← e]; rcases hlim with h | h <;> omega
   | cons a r => simp only [List.flatMap_cons, orderN, List.cons_append, pkN] at e; omega
  have hw := rWhere_nodes w (os.length + one? lim) (os.flatMap orderN ++ limN lim) (fun e he => hall e (by simp only [St.exprs, List.mem_append]; exact .inl (.inr he))) (fun _ e => by rcases hpo _ e with h | h | h <;> omega)
  have hit := rW_nodes (is := fun k => !isTail k) (x := rItem) (nd := itemN) is (one? w + (os.length + one? lim)) (whereN w ++ (os.flatMap orderN ++ limN lim)) hi (fun hne => by
   cases w with
   | some e => simp [whereN, over1, pkN, isTail]
   | none =>
    simp only [whereN, List.nil_append]
    cases os with
    | cons a r => simp [orderN, pkN, isTail]
    | nil =>
     cases lim with
     | some n => simp [limN, pkN, isTail]
     | none => simp [one?] at hne)
  simp only [St.nodes, rSt]
  rw [if_pos (by (repeat' apply And.intro) <;> first | trivial | rfl | assumption | exact bare_of _ _ | omega | (split <;> omega) | (split <;> simp))]
  simp only [show ¬ ((9 : Int) = 1) by decide, show ¬ ((9 : Int) = 3) by decide, show ¬ ((9 : Int) = 4) by decide, show ¬ ((9 : Int) = 6) by decide, show ¬ ((9 : Int) = 7) by decide, if_false, if_true]
  rw [if_neg (by omega)]
  rw [show ((is.length : Int) + (one? w : Int) + (os.length : Int) + (one? lim : Int)).toNat = is.length + (one? w + (os.length + one? lim)) from by omega]
  rw [show is.flatMap itemN ++ whereN w ++ os.flatMap orderN ++ limN lim = is.flatMap itemN ++ (whereN w ++ (os.flatMap orderN ++ limN lim)) from by simp [List.append_assoc], hit]
  simp only [Option.bind_some]
  rw [hw]
  simp only [Option.bind_some]
  rw [hor]
  simp only [Option.bind_some]
  rw [hl]
  simp [h2]
end Px
end
section
namespace Px
open Lx (Bs Tok)
end Px
end
section
open Lx (Bs)
theorem decF_lib : ∀ (f n : Nat), n < 10 ^ (f + 1) → Px.decF (f + 1) n = Lib.decDigits n
 | 0, n, h => by
  have h1 : n < 10 := by simpa using h
  rw [Px.decF, Lib.decDigits, if_pos h1, dif_pos h1]
 | f + 1, n, h => by
  rw [Px.decF, Lib.decDigits]
  by_cases h1 : n < 10
  · rw [if_pos h1, dif_pos h1]
  · rw [if_neg h1, dif_neg h1, decF_lib f (n / 10) (by rw [Nat.pow_succ] at h; omega)]
theorem itoa_pos (n : Nat) (h : n ≤ 9223372036854775808) : Lib.itoa (n : Int) = Px.decF 20 n := by
 rw [Lib.itoa_nonneg, decF_lib 19 n (by omega)]
theorem itoa_min (n : Nat) (h0 : 1 ≤ n) (h : n ≤ 9223372036854775808) : Lib.itoa (-(n : Int)) = 45 :: Px.decF 20 n := by
 rw [Lib.itoa_neg n h0, decF_lib 19 n (by omega)]
end
section
namespace Px
variable {α : Type}
end Px
end
section
namespace Px
open Lx (Bs)
end Px
end
namespace Lx
theorem valid_ascii : ∀ l : Bs, (∀ b ∈ l, 0 < b.toNat ∧ b.toNat < 128) → validN l = true
 | [], _ => rfl
 | b :: r, h => by
  have hb := h b (by simp)
  have hc : charN (b :: r) = 1 := by unfold charN; simp only; rw [if_pos hb.2]
  rw [validN_cons, hc, if_neg (by omega)]
  exact valid_ascii r (fun x hx => h x (by simp [hx]))
structure TokVal (t : Tok) : Prop where
 str : t.kind = 17 → validN t.text = true
 name : t.kind = 18 → validN t.text = true ∧ t.text ≠ []
theorem wd_low (b : UInt8) (h : isWd b = true) : 0 < (lowB b).toNat ∧ (lowB b).toNat < 128 := by
 simp only [isWd, isDig, isLet, Bool.or_eq_true, decide_eq_true_eq] at h
 unfold lowB
 split
 · rename_i h1
   have : (b + 32).toNat = b.toNat + 32 := by
    rw [UInt8.toNat_add]
    show (b.toNat + 32) % 256 = _
    omega
   omega
 · omega
theorem oneT_val {l : Bs} {k : Nat} {t : Bs} {n : Nat} (h : oneT l = .ok (k, t, n)) (p : Nat) : TokVal ⟨k, t, p⟩ := by
 unfold oneT at h
 split at h
 · simp at h
 · rename_i b r
   split at h
   · rename_i hlet
     split at h
     · simp only [Except.ok.injEq, Prod.mk.injEq] at h
       obtain ⟨rfl, rfl, rfl⟩ := h
       exact ⟨fun e => by simp at e, fun e => by simp at e⟩
     · simp only [Except.ok.injEq, Prod.mk.injEq] at h
       obtain ⟨rfl, rfl, rfl⟩ := h
       refine ⟨fun e => by simp at e, fun _ => ⟨?_, ?_⟩⟩
       · apply valid_ascii
         intro x hx
         obtain ⟨y, hy, rfl⟩ := List.mem_map.1 hx
         exact wd_low y (cnt_all isWd (b :: r) y hy)
       · have hw : isWd b = true := by unfold isWd; rw [hlet]; simp
         have := cnt_pos (r := r) hw
         intro e
         have e2 := congrArg List.length e
         simp only [List.length_map, List.length_take, List.length_nil, List.length_cons] at e2
         omega
   · split at h
     · split at h
       · simp at h
       · split at h
         · simp at h
         · simp only [Except.ok.injEq, Prod.mk.injEq] at h
           obtain ⟨rfl, rfl, rfl⟩ := h
           exact ⟨fun e => by simp at e, fun e => by simp at e⟩
     · split at h
       · split at h
         · simp at h
         · split at h
           · simp at h
           · rename_i hv
             simp only [Except.ok.injEq, Prod.mk.injEq] at h
             obtain ⟨rfl, rfl, rfl⟩ := h
             rename_i t' n' _
             have hv1 : validN t' = true := by
              cases hh : validN t' with
              | true => rfl
              | false => exact absurd (.inl hh) hv
             refine ⟨fun _ => hv1, fun e => ⟨hv1, fun e2 => ?_⟩⟩
             by_cases h34 : b.toNat = 34
             · exact hv (.inr ⟨h34, e2⟩)
             · simp only at e
               rw [if_neg h34] at e
               simp at e
       · split at h
         · simp only [Except.ok.injEq, Prod.mk.injEq] at h
           obtain ⟨rfl, rfl, rfl⟩ := h
           exact ⟨fun e => by simp at e, fun e => by simp at e⟩
         · split at h
           · simp only [Except.ok.injEq, Prod.mk.injEq] at h
             obtain ⟨rfl, rfl, rfl⟩ := h
             exact ⟨fun e => by simp at e, fun e => by simp at e⟩
           · simp at h
theorem lexM_val : ∀ (m : Nat) (l : Bs) (pos : Nat) (ts : List Tok), l.length ≤ m → lexM 0 pos l = .ok ts → ∀ t ∈ ts, TokVal t := by
 intro m
 induction m with
 | zero =>
  intro l pos ts hl h
  obtain rfl := List.length_eq_zero_iff.1 (Nat.le_zero.1 hl)
  simp only [lexM, Except.ok.injEq] at h
  subst h
  exact fun t ht => by cases ht
 | succ m ih =>
  intro l pos ts hl h
  cases l with
  | nil =>
   simp only [lexM, Except.ok.injEq] at h
   subst h
   exact fun t ht => by cases ht
  | cons b r =>
   rw [lexM_cons] at h
   split at h
   · simp at h
   · rename_i k t n h1
     have hn := oneT_len h1
     split at h
     · rename_i us h2
       simp only [Except.ok.injEq] at h
       subst h
       intro x hx
       rcases List.mem_cons.1 hx with rfl | hx
       · exact oneT_val h1 pos
       · refine ih _ _ _ ?_ h2 x hx
         simp only [List.length_drop, List.length_cons] at hl hn ⊢
         omega
     · simp at h
theorem lex_val {l : Bs} {ts : List Tok} (h : lex l = .ok ts) : ∀ t ∈ ts, TokVal t := by
 unfold lex at h
 split at h
 · simp at h
 · exact lexM_val _ _ _ _ (Nat.le_refl _) h
end Lx
section
namespace Px
open Lx (Bs Tok TokVal)
def NdGood (x : Nd) : Prop := (x.kind = 17 → Lx.validN x.text = true) ∧ (x.kind = 18 → isName x.text = true)
def AllV (ts : List Tok) : Prop := ∀ t ∈ ts, TokVal t
def AllG (l : List Nd) : Prop := ∀ x ∈ l, NdGood x
theorem AllV.tail {ts : List Tok} (h : AllV ts) : AllV ts.tail := fun t ht => h t (List.mem_of_mem_tail ht)
theorem AllG.over1 {k : Int} {l : List Nd} (h : AllG l) (hk : k ≠ 18) : AllG (over1 k l) := by
 intro x hx
 rcases List.mem_cons.1 hx with rfl | hx
 · exact ⟨fun _ => rfl, fun e => absurd e hk⟩
 · exact h x hx
theorem AllG.over2 {k : Int} {a b : List Nd} (ha : AllG a) (hb : AllG b) (hk : k ≠ 18) : AllG (over2 k a b) := by
 intro x hx
 rcases List.mem_cons.1 hx with rfl | hx
 · exact ⟨fun _ => rfl, fun e => absurd e hk⟩
 · rcases List.mem_append.1 hx with hx | hx
   · exact ha x hx
   · exact hb x hx
theorem AllG.num (z : Int) : AllG (leaf 16 [] z) := by
 intro x hx
 simp [leaf] at hx
 subst hx
 exact ⟨fun e => by simp at e, fun e => by simp at e⟩
theorem opIn_ne (lv : Nat) (s : Bs) : ∀ l : List (Nat × Bs × Nat), (∀ o ∈ l, o.2.2 ≠ 18) → opIn l lv s ≠ 18
 | [], _ => by simp [opIn]
 | o :: r, h => by
  unfold opIn
  split
  · exact h o (by simp)
  · exact opIn_ne lv s r (fun x hx => h x (by simp [hx]))
theorem oper_ne (l : Nat) (ts : List Tok) : ((oper l ts : Nat) : Int) ≠ 18 := by
 have : oper l ts ≠ 18 := by
  unfold oper
  split
  · simp
  · split
    · exact opIn_ne l _ opTab (by decide)
    · simp
 omega
theorem atom_good {sz : Nat} {ts q : List Tok} {b : List Nd} (h : atom sz ts = some (.ok (b, q))) (hv : AllV ts) : AllG b ∧ AllV q := by
 match ts, h, hv with
 | [], h, _ => simp [atom] at h
 | t :: r, h, hv =>
  have ht := hv t (by simp)
  have hr : AllV r := fun x hx => hv x (by simp [hx])
  unfold atom at h
  simp only at h
  repeat' split at h
  all_goals first
   | (cases h; done)
   | (cases h
      refine ⟨?_, hr⟩
      intro x hx
      simp [leaf] at hx
      subst hx
      refine ⟨fun e => ?_, fun e => ?_⟩
      all_goals first
       | (simp at e; done)
       | exact ht.str (by assumption)
       | skip
      all_goals
       have h18 := ht.name (by assumption)
       unfold isName
       rw [h18.1]
       have h30 : t.text.length ≤ 30 := by omega
       cases hh : t.text with
       | nil => exact absurd hh h18.2
       | cons c r' => rw [hh] at h30; simp at h30 ⊢; exact h30)
theorem ex_good {sz : Nat} : ∀ n m a ts b q, ex sz n m a ts = some (.ok (b, q)) → AllV ts → AllG a → AllG b ∧ AllV q := by
 intro n
 induction n with
 | zero => intro m a ts b q h; cases h
 | succ n ih =>
  intro m a ts b q h hv ha
  have nil : AllG [] := fun x hx => by cases hx
  unfold ex at h
  split at h
  · split at h
    · cases h; exact ⟨ha, hv⟩
    · rcases obind_some h with ⟨e, _, h2⟩ | ⟨b1, q1, h1, h2⟩
      · cases h2
      · have i1 := ih _ _ _ _ _ h1 hv.tail nil
        exact ih _ _ _ _ _ h2 i1.2 (ha.over2 i1.1 (oper_ne _ _))
  · split at h
    · split at h
      · rcases obind_some h with ⟨e, _, h2⟩ | ⟨b1, q1, h1, h2⟩
        · cases h2
        · cases h2
          have i1 := ih _ _ _ _ _ h1 hv.tail nil
          exact ⟨i1.1.over1 (by decide), i1.2⟩
      · exact ih _ _ _ _ _ h hv nil
    · split at h
      · rcases obind_some h with ⟨e, _, h2⟩ | ⟨b1, q1, h1, h2⟩
        · cases h2
        · have i1 := ih _ _ _ _ _ h1 hv nil
          unfold tail4 at h2
          split at h2
          · split at h2
            · rcases obind_some h2 with ⟨e, _, h3⟩ | ⟨b2, q2, h3, h4⟩
              · cases h3
              · cases h4
                rcases must_some h3 with ⟨c6, h6⟩ | ⟨_, h6⟩
                · cases h6
                  exact ⟨i1.1.over1 (by decide), i1.2.tail.tail.tail⟩
                · cases h6
            · rcases obind_some h2 with ⟨e, _, h3⟩ | ⟨b2, q2, h3, h4⟩
              · cases h3
              · cases h4
                rcases must_some h3 with ⟨c6, h6⟩ | ⟨_, h6⟩
                · cases h6
                  exact ⟨i1.1.over1 (by decide), i1.2.tail.tail⟩
                · cases h6
          · split at h2
            · cases h2; exact i1
            · rcases obind_some h2 with ⟨e, _, h3⟩ | ⟨b2, q2, h3, h4⟩
              · cases h3
              · cases h4
                have i2 := ih _ _ _ _ _ h3 i1.2.tail nil
                exact ⟨i1.1.over2 i2.1 (oper_ne _ _), i2.2⟩
      · split at h
        · split at h
          · split at h
            · cases h
              exact ⟨AllG.num _, hv.tail.tail⟩
            · rcases obind_some h with ⟨e, _, h2⟩ | ⟨b1, q1, h1, h2⟩
              · cases h2
              · have i1 := ih _ _ _ _ _ h1 hv.tail nil
                unfold negate at h2
                split at h2
                · cases h2
                  exact ⟨i1.1.over1 (by decide), i1.2⟩
                · split at h2
                  · cases h2
                    exact ⟨i1.1.over1 (by decide), i1.2⟩
                  · split at h2
                    · cases h2
                    · cases h2
                      exact ⟨AllG.num _, i1.2⟩
          · exact ih _ _ _ _ _ h hv nil
        · split at h
          · split at h
            · rcases obind_some h with ⟨e, _, h2⟩ | ⟨b1, q1, h1, h2⟩
              · cases h2
              · have i1 := ih _ _ _ _ _ h1 hv.tail nil
                rcases obind_some h2 with ⟨e, _, h3⟩ | ⟨b2, q2, h3, h4⟩
                · cases h3
                · cases h4
                  rcases must_some h3 with ⟨c7, h7⟩ | ⟨_, h7⟩
                  · cases h7
                    exact ⟨i1.1, i1.2.tail⟩
                  · cases h7
            · exact atom_good h hv
          · rcases obind_some h with ⟨e, _, h2⟩ | ⟨b1, q1, h1, h2⟩
            · cases h2
            · have i1 := ih _ _ _ _ _ h1 hv nil
              exact ih _ _ _ _ _ h2 i1.2 i1.1
theorem E.good_of : ∀ e : E, AllG e.nodes → e.good
 | .null, _ => trivial
 | .bool _, _ => trivial
 | .num _, _ => trivial
 | .str s, h => (h ⟨17, s, 0, 0⟩ (by simp [E.nodes, leaf])).1 rfl
 | .nm s, h => (h ⟨18, s, 0, 0⟩ (by simp [E.nodes, leaf])).2 rfl
 | .un k e, h => E.good_of e (fun x hx => h x (by simp [E.nodes, over1, hx]))
 | .bin k a b, h => ⟨E.good_of a (fun x hx => h x (by simp [E.nodes, over2, hx])), E.good_of b (fun x hx => h x (by simp [E.nodes, over2, hx]))⟩
theorem exR_good {sz : Nat} {ts q : List Tok} {e : E} (h : exR sz ts (.ok (e, q))) (hv : AllV ts) : e.good ∧ AllV q ∧ e.ok 2000 := by
 obtain ⟨⟨n, hn⟩, h2⟩ := h
 have := ex_good n 1 [] ts e.nodes q hn hv (fun x hx => by cases hx)
 exact ⟨E.good_of e this.1, this.2, (h2 e q rfl).1⟩
theorem nameR_good {sz : Nat} {ts q : List Tok} {s : Bs} (h : nameR sz ts (.ok (s, q))) (hv : AllV ts) : isName s = true ∧ AllV q := by
 unfold nameR name at h
 split at h
 · cases h
 · rename_i t r
   split at h
   · cases h
   · rename_i hk
     split at h
     · cases h
     · rename_i hl
       cases h
       have h18 := (hv t (by simp)).name (by simpa using hk)
       refine ⟨?_, fun x hx => hv x (by simp [hx])⟩
       unfold isName
       rw [h18.1]
       cases hh : t.text with
       | nil => exact absurd hh h18.2
       | cons c r' => rw [hh] at hl; simp at hl ⊢; omega
end Px
end
section
namespace Px
open Lx (Bs Tok TokVal)
variable {α β : Type}
def RgP (x : Rg α) (P : α → Prop) : Prop := ∀ ts a q, x ts (.ok (a, q)) → AllV ts → P a ∧ AllV q
theorem RgP.seq {x : Rg α} {f : α → Rg β} {P : α → Prop} {Q : β → Prop} (hx : RgP x P) (hf : ∀ a, P a → RgP (f a) Q) : RgP (Rg.seq x f) Q := by
 rintro ts b q ⟨r1, h1, h2⟩ hv
 match r1, h1, h2 with
 | .error e, h1, h2 => cases h2
 | .ok (a, q1), h1, h2 =>
  obtain ⟨p1, p2⟩ := hx ts a q1 h1 hv
  exact hf a p1 q1 b q h2 p2
theorem RgP.ret {a : α} {P : α → Prop} (h : P a) : RgP (Rg.ret a) P := by
 intro ts b q h1 hv
 cases h1
 exact ⟨h, hv⟩
theorem RgP.must (sz : Nat) (s : Bs) : RgP (mustR sz s) fun _ => True := by
 intro ts a q h hv
 rcases must_some h with ⟨_, h2⟩ | ⟨_, h2⟩
 · cases h2; exact ⟨trivial, hv.tail⟩
 · cases h2
theorem RgP.name (sz : Nat) : RgP (nameR sz) fun s => isName s = true := fun ts a q h hv => nameR_good h hv
theorem RgP.ex (sz : Nat) : RgP (exR sz) fun e => e.good ∧ e.ok 2000 := fun ts a q h hv => by
 have := exR_good h hv
 exact ⟨⟨this.1, this.2.2⟩, this.2.1⟩
theorem reach_good {x : Nat → Rg α} {P : α → Prop} (hx : ∀ i, RgP (x i) P) {ts : List Tok} {l : List α} {q : List Tok} (h : Reach x ts l q) (hv : AllV ts) : (l ≠ [] ∧ ∀ a ∈ l, P a) ∧ AllV q := by
 induction h with
 | first h1 =>
  have := hx 0 _ _ _ h1 hv
  exact ⟨⟨by simp, fun a ha => by simp at ha; subst ha; exact this.1⟩, this.2⟩
 | step h1 h2 h3 ih =>
  have := hx _ _ _ _ h3 ih.2.tail
  refine ⟨⟨by simp, fun a ha => ?_⟩, this.2⟩
  rcases List.mem_append.1 ha with ha | ha
  · exact ih.1.2 a ha
  · simp at ha; subst ha; exact this.1
theorem RgP.sep {x : Nat → Rg α} {P : α → Prop} (hx : ∀ i, RgP (x i) P) : RgP (Sep x) fun l => l ≠ [] ∧ ∀ a ∈ l, P a := by
 intro ts l q h hv
 cases h with
 | stop h1 h2 => exact reach_good hx h1 hv
def WhOk (o : Option E) : Prop := ∀ e ∈ o.toList, e.good ∧ e.ok 2000
theorem RgP.where (sz : Nat) : RgP (whereR sz) WhOk := by
 intro ts a q h hv
 unfold whereR at h
 split at h
 · exact (RgP.seq (RgP.ex sz) (fun e he => RgP.ret (P := WhOk) (by intro e' h'; simp at h'; subst h'; exact he))) _ _ _ h hv.tail
 · cases h
   exact ⟨fun e he => (by simp at he), hv⟩
theorem RgP.mono {x : Rg α} {P Q : α → Prop} (hx : RgP x P) (h : ∀ a, P a → Q a) : RgP x Q := fun ts a q h1 hv => ⟨h a (hx ts a q h1 hv).1, (hx ts a q h1 hv).2⟩
theorem RgP.kind (sz : Nat) : RgP (kindR sz) fun k => 1 ≤ k ∧ k ≤ 3 := by
 intro ts a q h hv
 unfold kindR at h
 split at h
 · cases h; exact ⟨by omega, hv.tail⟩
 · split at h
   · cases h; exact ⟨by omega, hv.tail⟩
   · exact (RgP.seq (RgP.must sz _) (fun _ _ => RgP.ret (P := fun k => 1 ≤ k ∧ k ≤ 3) (by omega))) _ _ _ h hv
def ColOk (x : Bs × Nat) : Prop := isName x.1 = true ∧ 1 ≤ x.2 ∧ x.2 ≤ 7 ∧ x.2 ≠ 4
theorem RgP.null (sz : Nat) (n : Bs) (k : Nat) (hn : isName n = true) (hk : 1 ≤ k ∧ k ≤ 3) : RgP (nullR sz n k) ColOk := by
 intro ts a q h hv
 unfold nullR at h
 split at h
 · exact (RgP.seq (RgP.must sz _) (fun _ _ => RgP.ret (P := ColOk) ⟨hn, by simp only; omega, by simp only; omega, by simp only; omega⟩)) _ _ _ h hv.tail
 · cases h
   exact ⟨⟨hn, by simp only; omega, by simp only; omega, by simp only; omega⟩, hv⟩
theorem RgP.col (sz i : Nat) : RgP (colR sz i) fun x => ColOk x ∧ i < 6 := by
 intro ts a q h hv
 unfold colR at h
 refine (RgP.seq (Q := fun x => ColOk x ∧ i < 6) (f := fun n q r => if 6 ≤ i then r = .error (plc sz ts, 4) else Rg.seq (kindR sz) (nullR sz n) q r) (RgP.name sz) (fun n hn => ?_)) _ _ _ h hv
 intro ts2 b q2 h2 hv2
 split at h2
 · cases h2
 · rename_i hi
   have := (RgP.seq (RgP.kind sz) (fun k hk => RgP.null sz n k hn hk)) _ _ _ h2 hv2
   exact ⟨⟨this.1, by omega⟩, this.2⟩
def StOk (s : St) : Prop := s.Fit ∧ ∀ e ∈ s.exprs, e.good
theorem RgP.colsep (sz : Nat) : RgP (Sep (colR sz)) fun l => (l ≠ [] ∧ ∀ a ∈ l, ColOk a) ∧ l.length ≤ 6 := by
 intro ts l q h hv
 cases h with
 | stop h1 h2 =>
  have := reach_good (P := ColOk) (fun i => (RgP.col sz i).mono fun a ha => ha.1) h1 hv
  refine ⟨⟨this.1, ?_⟩, this.2⟩
  have key : ∀ {l : List (Bs × Nat)} {q : List Tok}, Reach (colR sz) ts l q → l.length ≤ 6 := by
   intro l q h
   induction h with
   | first _ => simp
   | step h1 h2 h3 ih =>
    rename_i l' q' a' q''
    have hv' := (reach_good (P := ColOk) (fun i => (RgP.col sz i).mono fun a ha => ha.1) h1 hv).2
    have := (RgP.col sz _ _ _ _ h3 hv'.tail).1.2
    simp only [List.length_append, List.length_singleton]
    omega
  exact key h1
theorem stmtR_ok (sz : Nat) : RgP (stmtR sz) StOk := by
 intro ts s q h hv
 unfold stmtR at h
 split at h
 · exact (RgP.seq (RgP.must sz _) fun _ _ => RgP.seq (RgP.name sz) fun t ht => RgP.seq (RgP.must sz _) fun _ _ => RgP.seq (RgP.colsep sz) fun l hl => RgP.seq (RgP.must sz _) fun _ _ => RgP.ret (a := St.create t l) (P := StOk)
     ⟨⟨fun e he => (by simp [St.exprs] at he), ht, List.length_pos_iff.2 hl.1.1, hl.2, hl.1.2⟩, fun e he => (by simp [St.exprs] at he)⟩) _ _ _ h hv.tail
 · split at h
   · exact (RgP.seq (RgP.must sz _) fun _ _ => RgP.seq (RgP.name sz) fun t ht => RgP.ret (a := St.drop t) (P := StOk) ⟨⟨fun e he => (by simp [St.exprs] at he), ht⟩, fun e he => (by simp [St.exprs] at he)⟩) _ _ _ h hv.tail
   · split at h
     · have hrow : RgP (rowR sz) fun l => l ≠ [] ∧ ∀ e ∈ l, e.good ∧ e.ok 2000 := RgP.seq (RgP.must sz _) fun _ _ => RgP.seq (RgP.sep fun _ => RgP.ex sz) fun l hl => RgP.seq (RgP.must sz _) fun _ _ => RgP.ret hl
       refine (RgP.seq (RgP.must sz _) fun _ _ => RgP.seq (RgP.name sz) fun t ht => RgP.seq (RgP.must sz _) fun _ _ => RgP.seq (RgP.sep fun _ => hrow) fun l hl => RgP.ret (a := St.insert t l) (P := StOk) ⟨⟨?_, ht, hl.1, fun x hx => (hl.2 x hx).1⟩, ?_⟩) _ _ _ h hv.tail
       · intro e he
         obtain ⟨r, hr, her⟩ := List.mem_flatten.1 he
         exact ((hl.2 r hr).2 e her).2
       · intro e he
         obtain ⟨r, hr, her⟩ := List.mem_flatten.1 he
         exact ((hl.2 r hr).2 e her).1
     · split at h
       · exact (RgP.seq (RgP.must sz _) fun _ _ => RgP.seq (RgP.name sz) fun t ht => RgP.seq (RgP.where sz) fun w hw => RgP.ret (a := St.delete t w) (P := StOk) ⟨⟨fun e he => (hw e he).2, ht⟩, fun e he => (hw e he).1⟩) _ _ _ h hv.tail
       · split at h
         · have hset : RgP (setR sz) fun x => isName x.1 = true ∧ x.2.good ∧ x.2.ok 2000 := RgP.seq (RgP.name sz) fun n hn => RgP.seq (RgP.must sz _) fun _ _ => RgP.seq (RgP.ex sz) fun e he => RgP.ret ⟨hn, he⟩
           refine (RgP.seq (RgP.name sz) fun t ht => RgP.seq (RgP.must sz _) fun _ _ => RgP.seq (RgP.sep fun _ => hset) fun l hl => RgP.seq (RgP.where sz) fun w hw => RgP.ret (a := St.update t l w) (P := StOk) ⟨⟨?_, ht, hl.1, fun x hx => (hl.2 x hx).1⟩, ?_⟩) _ _ _ h hv.tail
           · intro e he
             rcases List.mem_append.1 he with he | he
             · obtain ⟨x, hx, rfl⟩ := List.mem_map.1 he
               exact (hl.2 x hx).2.2
             · exact (hw e he).2
           · intro e he
             rcases List.mem_append.1 he with he | he
             · obtain ⟨x, hx, rfl⟩ := List.mem_map.1 he
               exact (hl.2 x hx).2.1
             · exact (hw e he).1
         · have hitem : RgP (itemR sz) WhOk := by
            intro ts a q h hv
            unfold itemR at h
            split at h
            · cases h
              exact ⟨fun e he => (by simp at he), hv.tail⟩
            · exact (RgP.seq (RgP.ex sz) (fun e he => RgP.ret (P := WhOk) (by intro e' h'; simp at h'; subst h'; exact he))) _ _ _ h hv
           have hdesc : ∀ e : E, (e.good ∧ e.ok 2000) → RgP (descR e) fun x => x.1.good ∧ x.1.ok 2000 := by
            intro e he ts a q h hv
            unfold descR at h
            split at h
            · cases h; exact ⟨he, hv.tail⟩
            · split at h
              · cases h; exact ⟨he, hv.tail⟩
              · cases h; exact ⟨he, hv⟩
           have hords : RgP (ordersR sz) fun l => ∀ x ∈ l, x.1.good ∧ x.1.ok 2000 := by
            intro ts a q h hv
            unfold ordersR at h
            split at h
            · exact ((RgP.seq (RgP.must sz _) fun _ _ => (RgP.sep fun _ => RgP.seq (RgP.ex sz) hdesc).mono fun l hl => hl.2)) _ _ _ h hv.tail
            · cases h
              exact ⟨fun x hx => (by cases hx), hv⟩
           have hlim : RgP (limR sz) fun l => ∀ n, l = some n → n ≤ 1000000000 := by
            intro ts a q h hv
            unfold limR at h
            split at h
            · refine (RgP.seq (P := fun n => n ≤ 1000000000) (Q := fun l => ∀ n, l = some n → n ≤ 1000000000) (x := fun ts r => limit sz ts = some r) ?_ fun n hn => RgP.ret (by intro m hm; cases hm; exact hn)) _ _ _ h hv.tail
              intro ts2 n q2 h2 hv2
              unfold limit at h2
              split at h2
              · cases h2
              · split at h2
                · cases h2
                · split at h2
                  · cases h2
                  · rename_i hx
                    cases h2
                    exact ⟨by omega, fun x hx => hv2 x (by simp [hx])⟩
            · cases h
              exact ⟨fun n hn => (by cases hn), hv⟩
           refine (RgP.seq (RgP.must sz _) fun _ _ => RgP.seq (RgP.sep fun _ => hitem) fun i hi => RgP.seq (RgP.must sz _) fun _ _ => RgP.seq (RgP.name sz) fun t ht => RgP.seq (RgP.where sz) fun w hw => RgP.seq hords fun o ho => RgP.seq hlim fun l hl => RgP.ret (a := St.select i t w o l) (P := StOk) ⟨⟨?_, ht, hi.1, hl⟩, ?_⟩) _ _ _ h hv
           · intro e he
             simp only [St.exprs, List.mem_append, List.mem_filterMap, id, List.mem_map] at he
             rcases he with (⟨x, hx, rfl⟩ | he) | ⟨x, hx, rfl⟩
             · exact (hi.2 (some e) hx e (by simp)).2
             · exact (hw e he).2
             · exact (ho x hx).2
           · intro e he
             simp only [St.exprs, List.mem_append, List.mem_filterMap, id, List.mem_map] at he
             rcases he with (⟨x, hx, rfl⟩ | he) | ⟨x, hx, rfl⟩
             · exact (hi.2 (some e) hx e (by simp)).1
             · exact (hw e he).1
             · exact (ho x hx).1
theorem parse_fit {s : Bs} {st : St} (h : ParseR s (.ok st)) : st.Fit ∧ (∀ e ∈ st.exprs, e.good) ∧ deepest st.exprs ≤ 40 := by
 unfold ParseR at h
 cases hl : Lx.lex s with
 | error e => rw [hl] at h; cases h
 | ok ts =>
  rw [hl] at h
  obtain ⟨q, h1, h2⟩ := h
  match q, h1, h2 with
  | .error e, h1, h2 => cases h2
  | .ok (a, u), h1, h2 =>
   have hs := (stmtR_ok s.length ts a u h1 (Lx.lex_val hl)).1
   simp only at h2
   split at h2
   · split at h2
     · cases h2
     · rename_i hd
       cases h2
       exact ⟨hs.1, hs.2, by omega⟩
   · cases h2
end Px
end
section
namespace Px
open Lx (Bs Tok)
theorem parse_one {s : Bs} {st : St} {r : Except (Nat × Nat) St} (h : ParseR s (.ok st)) (h' : ParseR s r) : r = .ok st := by
 have e := Parse.one (parse_meets h) (parse_meets h')
 match r, h', e with
 | .error x, _, e => cases e
 | .ok st', h', e =>
  have e2 : st.nodes = st'.nodes := by injection e
  obtain ⟨f, g, d⟩ := parse_fit h
  obtain ⟨f', g', d'⟩ := parse_fit h'
  have e3 := rS_nodes st f g d
  have e4 := rS_nodes st' f' g' d'
  rw [e2, e4] at e3
  injection e3 with e3
  rw [e3]
def sCreate : St := .create [111] [([97], 1)]
def sInsert : St := .insert [111] [[.num 0]]
def sSelect (e : E) : St := .select [some e] [111] none [] none
def tCreate : Bs := [67, 82, 69, 65, 84, 69, 32, 84, 65, 66, 76, 69, 32, 111, 32, 40, 97, 32, 73, 78, 84, 69, 71, 69, 82, 41]
def tInsert : Bs := [73, 78, 83, 69, 82, 84, 32, 73, 78, 84, 79, 32, 111, 32, 86, 65, 76, 85, 69, 83, 32, 40, 48, 41]
theorem create_text : render sCreate.pt = tCreate := by decide
theorem insert_text : render sInsert.pt = tInsert := by decide
theorem parse_create : ParseR tCreate (.ok sCreate) := by
 rw [← create_text]
 refine round sCreate ⟨by simp [sCreate, St.exprs], ?_⟩ (by simp [sCreate, St.exprs]) (by simp [sCreate, St.exprs, deepest]) (by rw [create_text]; decide)
 exact ⟨by decide, by decide, by decide, by simp; decide⟩
theorem parse_insert : ParseR tInsert (.ok sInsert) := by
 rw [← insert_text]
 refine round sInsert ⟨by simp [sInsert, St.exprs, E.ok], ?_⟩ (by simp [sInsert, St.exprs, E.good]) (by decide) (by rw [insert_text]; decide)
 exact ⟨by decide, by decide, by decide⟩
theorem parse_select (P : List PT) (e : E) (hP : ∀ t ∈ P, t.Ok) (hd : e.depth ≤ 40) (hR : ∀ sz ts rest, Same ts P → Stops 1 rest → exR sz (ts ++ rest) (.ok (e, rest))) (hh : ∃ t r, P = t :: r ∧ ((t.kind ≠ 50 ∧ t.kind ≠ 51) ∨ t.val ≠ gStar))
   (hl : (render (kwT kSELECT :: (P ++ [kwT kFROM, nmT [111]]))).length ≤ 2000) : ParseR (render (kwT kSELECT :: (P ++ [kwT kFROM, nmT [111]]))) (.ok (sSelect e)) := by
 have hok : ∀ t ∈ kwT kSELECT :: (P ++ [kwT kFROM, nmT [111]]), t.Ok := by
  intro t ht
  simp only [List.mem_cons, List.mem_append, List.not_mem_nil, or_false] at ht
  rcases ht with rfl | ht | rfl | rfl
  · exact kwT_ok (by decide)
  · exact hP t ht
  · exact kwT_ok (by decide)
  · exact nmT_ok (by decide)
 obtain ⟨ts, h1, h2⟩ := lex_text _ hok hl
 unfold ParseR
 rw [h1]
 obtain ⟨p0, q0, rfl, hq0⟩ := Same.cons h2
 obtain ⟨x, y, rfl, hx, hy⟩ := hq0.app
 obtain ⟨p1, q1, rfl, hq1⟩ := hy.cons
 obtain ⟨p2, q2, rfl, hq2⟩ := hq1.cons
 obtain rfl := hq2.nil
 refine ⟨.ok (sSelect e, []), ?_, ?_⟩
 · unfold stmtR
   rw [if_neg (by exact no_sees rfl), if_neg (by exact no_sees rfl), if_neg (by exact no_sees rfl), if_neg (by exact no_sees rfl), if_neg (by exact no_sees rfl)]
   refine Rg.go (must_kw (.inl rfl)) ?_
   have hst : ∀ r, Stops 1 (⟨50, kFROM, p1⟩ :: r) := fun r => stops_kw ⟨by decide, by decide⟩
   have hitem : itemR (render (kwT kSELECT :: (P ++ [kwT kFROM, nmT [111]]))).length (x ++ (⟨50, kFROM, p1⟩ :: ⟨18, [111], p2⟩ :: [])) (.ok (some e, ⟨50, kFROM, p1⟩ :: ⟨18, [111], p2⟩ :: [])) := by
    unfold itemR
    have hne : sees gStar (x ++ (⟨50, kFROM, p1⟩ :: ⟨18, [111], p2⟩ :: [])) = false := by
     obtain ⟨t, r, rfl, hne⟩ := hh
     obtain ⟨p, q, rfl, _⟩ := hx.cons
     simp only [List.cons_append, sees_tok, Bool.and_eq_false_iff, Bool.or_eq_false_iff, decide_eq_false_iff_not, beq_eq_false_iff_ne]
     exact hne
    rw [if_neg (by simp [hne])]
    exact Rg.go (hR _ x _ hx (hst _)) rfl
   refine Rg.go (Sep.stop (Reach.first hitem) rfl) ?_
   refine Rg.go (must_kw (.inl rfl)) ?_
   refine Rg.go (name_nm (by decide)) ?_
   refine Rg.go (a := none) (q := []) rfl ?_
   refine Rg.go (a := []) (q := []) rfl ?_
   refine Rg.go (a := none) (q := []) rfl ?_
   rfl
 · simp only [if_true]
   rw [if_neg (by simp [sSelect, St.exprs, deepest]; exact hd)]
theorem num_reads {sz : Nat} {z : Int} (ho : (E.num z).ok 2000) {m : Nat} (h1 : 1 ≤ m) (h8 : m ≤ 8) {ts rest : List Tok} (hs : Same ts (E.num z).pt) (hst : Stops m rest) : Ex sz m [] (ts ++ rest) (.ok ((E.num z).nodes, rest)) := by
 refine brk_reads ho (core _ ho).1 (head_min _ ho) h1 (by omega) ?_ hst
 rw [show brkT (E.num z).lvl m (E.num z).pt = (E.num z).pt by unfold brkT; rw [if_neg (by simp only [E.lvl]; split <;> omega)]]
 exact hs
theorem ex_of {sz : Nat} {e : E} (ho : e.ok 2000) {ts rest : List Tok} (h : Ex sz 1 [] (ts ++ rest) (.ok (e.nodes, rest))) : exR sz (ts ++ rest) (.ok (e, rest)) := by
 refine ⟨h, fun e' q he => ?_⟩
 cases he
 refine ⟨ho, ?_⟩
 have := (Ex.len (by omega) h).2
 rwa [E.nodes_length] at this
theorem bra_reads {sz : Nat} {e : E} (ho : e.ok 2000) {m : Nat} (h1 : 1 ≤ m) (h9 : m ≤ 9) {ts rest : List Tok} (hs : Same ts (sgT [40] :: (e.pt ++ [sgT [41]]))) (hst : Stops m rest) : Ex sz m [] (ts ++ rest) (.ok (e.nodes, rest)) := by
 obtain ⟨p, q, rfl, hs2⟩ := hs.cons
 obtain ⟨x, y, rfl, hx, hy⟩ := hs2.app
 obtain ⟨p2, q2, rfl, hq⟩ := hy.cons
 obtain rfl := hq.nil
 have hin := expr_reads (sz := sz) e ho hx (rest := ⟨51, [41], p2⟩ :: rest) (stops_tok (.inr ⟨by decide, by decide⟩))
 have hbra : Ex sz 9 [] (⟨51, [40], p⟩ :: (x ++ (⟨51, [41], p2⟩ :: rest))) (.ok (e.nodes, rest)) := Ex.bra rfl hin rfl
 have := Ex.down h1 (Nat.le_refl 9) h9 hbra hst (fun _ => rfl) (fun _ => rfl)
 simpa [sgT] using this
theorem stops_op {k m p : Nat} {r : List Tok} (h1 : 25 ≤ k) (h2 : k ≤ 36) (hm : (sgnT k).2 < m) : Stops m (⟨(opT k).kind, (opT k).val, p⟩ :: r) :=
 ⟨fun l hl => by rw [oper_op (by omega) h2, if_neg (by omega)], fun _ => sees_op (by omega) h2 p r⟩
def P2 (k : Nat) (a b : Int) : List PT := sgT [40] :: ((E.bin k (.num a) (.num b)).pt ++ [sgT [41]]) ++ sgT [45] :: (E.num b).pt
def e2 (k : Nat) (a b : Int) : E := .bin 33 (.bin k (.num a) (.num b)) (.num b)
theorem reads2 {k : Nat} {a b : Int} (hk : 32 ≤ k ∧ k ≤ 36) (ha : (E.num a).ok 2000) (hb : (E.num b).ok 2000) (sz : Nat) (ts rest : List Tok) (hs : Same ts (P2 k a b)) (hst : Stops 1 rest) : exR sz (ts ++ rest) (.ok (e2 k a b, rest)) := by
 have ho1 : (E.bin k (.num a) (.num b)).ok 2000 := ⟨by omega, by omega, ha, hb⟩
 refine ex_of (e := e2 k a b) ⟨by omega, by omega, ho1, hb⟩ ?_
 obtain ⟨x, y, rfl, hx, hy⟩ := hs.app
 obtain ⟨p, q, rfl, hq⟩ := hy.cons
 rw [List.append_assoc]
 have h7 : Ex sz 7 [] (x ++ (⟨51, [45], p⟩ :: (q ++ rest))) (.ok ((E.bin k (.num a) (.num b)).nodes, ⟨51, [45], p⟩ :: (q ++ rest))) := bra_reads ho1 (by omega) (by omega) hx (stops_op (k := 33) (by omega) (by omega) (by decide))
 have h7b : Ex sz 7 [] (q ++ rest) (.ok ((E.num b).nodes, rest)) := num_reads hb (by omega) (by omega) hq (hst.up (by omega))
 have h6 : Ex sz 6 [] (x ++ (⟨51, [45], p⟩ :: (q ++ rest))) (.ok ((e2 k a b).nodes, rest)) :=
  Ex.left (m := 6) (by omega) (by omega) (by omega) h7 (Ex.more (m := 6) (show (33 : Nat) ≠ 0 by decide) h7b (Ex.end_ (hst.1 6 (by omega))))
 have := Ex.down (m := 1) (by omega) (by omega) (by omega) h6 hst (by omega) (fun _ => by
  obtain ⟨p0, q0, rfl, _⟩ := hx.cons
  rfl)
 simpa [sgT] using this
def e3 (a b : Int) : E := .bin 32 (.bin 34 (.bin 35 (.num a) (.num b)) (.num b)) (.bin 36 (.num a) (.num b))
end Px
end
section
namespace Px
open Lx (Bs Tok)
def decI (z : Int) : Bs := if z < 0 then 45 :: decF 20 z.natAbs else decF 20 z.natAbs
theorem decF_len' : ∀ f n, (decF f n).length ≤ f
 | 0, n => by simp [decF]
 | f + 1, n => by
  rw [decF]
  split
  · simp
  · have := decF_len' f (n / 10)
    simp; omega
theorem decI_len (z : Int) : (decI z).length ≤ 21 := by
 have := decF_len' 20 z.natAbs
 unfold decI
 split <;> simp <;> omega
theorem dec_out (n : Nat) (c : UInt8) (r : Bs) (hc : Lx.isDig c = false) : decF 20 n ≠ c :: r := by
 intro h
 have := decF_digs 20 n c (by rw [h]; simp)
 rw [this] at hc; cases hc
theorem dec_head (n : Nat) : ¬ (decF 20 n).head? = some 45 := by
 intro h
 cases hd : decF 20 n with
 | nil => rw [hd] at h; cases h
 | cons c r =>
  rw [hd] at h
  simp at h
  exact dec_out n c r (by rw [h]; decide) hd
theorem render_num (A B : PT) (R : List PT) (z : Int) (hA : A.pre = false) : render (A :: ((E.num z).pt ++ B :: R)) = A.out ++ ((if A.out = [40] then [] else [32]) ++ (decI z ++ ((if B.out = [41] ∨ B.out = [44] then [] else [32]) ++ render (B :: R)))) := by
 have h0 := fun n => dec_out n 40 [] (by decide)
 have h1 := fun n => dec_out n 41 [] (by decide)
 have h2 := fun n => dec_out n 44 [] (by decide)
 have h3 := dec_head
 have e0 : ∀ n, gap (dgT n) B = (if B.out = [41] ∨ B.out = [44] then [] else [32]) := by
  intro n
  unfold gap apart
  simp only [dgT, h0, false_or]
  by_cases hb : B.out = [41] ∨ B.out = [44]
  · simp [hb]
  · simp [hb]
 unfold E.pt decI
 by_cases hz : z < 0
 · rw [if_pos hz, if_pos hz]
   simp only [List.cons_append, List.nil_append, render]
   rw [e0]
   have e1 : gap A mnT = (if A.out = [40] then [] else [32]) := by
    unfold gap apart
    by_cases ha : A.out = [40]
    · simp [ha]
    · simp [ha, hA, mnT]
   have e2 : gap mnT (dgT z.natAbs) = [] := by
    unfold gap apart
    simp [mnT, dgT, h1, h2, h3]
   rw [e1, e2]
   simp [mnT, dgT]
 · rw [if_neg hz, if_neg hz]
   simp only [List.cons_append, List.nil_append, render]
   rw [e0]
   have e1 : gap A (dgT z.natAbs) = (if A.out = [40] then [] else [32]) := by
    unfold gap apart
    by_cases ha : A.out = [40]
    · simp [ha]
    · simp [ha, hA, dgT, h1, h2]
   rw [e1]
   simp [dgT]
def bSel : Bs := [83, 69, 76, 69, 67, 84, 32]
def bFrom : Bs := [32, 70, 82, 79, 77, 32, 111]
def t1 (k : Nat) (a b : Int) : Bs := decI a ++ (32 :: ((sgnT k).1 ++ (32 :: decI b)))
def t2 (a b : Int) : Bs := 40 :: (decI a ++ ([32, 43, 32] ++ (decI b ++ ([41, 32, 45, 32] ++ decI b))))
def t3 (a b : Int) : Bs := 40 :: (decI a ++ ([32, 47, 32] ++ (decI b ++ ([41, 32, 42, 32] ++ (decI b ++ ([32, 43, 32] ++ (decI a ++ ([32, 37, 32] ++ decI b))))))))
theorem num_ok {z : Int} (h : (E.num z).ok 2000) : ∀ t ∈ (E.num z).pt, t.Ok := by
 have hn : z.natAbs ≤ 9223372036854775808 := by have := h.1; have := h.2; omega
 intro t ht
 unfold E.pt at ht
 split at ht
 · simp only [List.mem_cons, List.not_mem_nil, or_false] at ht
   rcases ht with rfl | rfl
   · exact mnT_ok
   · exact dgT_ok hn
 · simp only [List.mem_cons, List.not_mem_nil, or_false] at ht
   subst ht
   exact dgT_ok hn
theorem lvl_num (z : Int) : 8 ≤ (E.num z).lvl := by simp only [E.lvl]; split <;> omega
theorem bin_pt {k : Nat} (hk : 32 ≤ k ∧ k ≤ 36) (a b : Int) : (E.bin k (.num a) (.num b)).pt = (E.num a).pt ++ sgT (sgnT k).1 :: (E.num b).pt := by
 have h1 := lvl_num a
 have h2 := lvl_num b
 have hl : (sgnT k).2 = 6 ∨ (sgnT k).2 = 7 := by rcases (show k = 32 ∨ k = 33 ∨ k = 34 ∨ k = 35 ∨ k = 36 by omega) with rfl | rfl | rfl | rfl | rfl <;> decide
 have e1 : leftOf k ≤ 7 := by unfold leftOf; split <;> omega
 have b1 : brkT (E.num a).lvl (leftOf k) (E.num a).pt = (E.num a).pt := by unfold brkT; rw [if_neg (by omega)]
 have b2 : brkT (E.num b).lvl ((sgnT k).2 + 1) (E.num b).pt = (E.num b).pt := by unfold brkT; rw [if_neg (by omega)]
 show brkT (E.num a).lvl (leftOf k) (E.num a).pt ++ opT k :: brkT (E.num b).lvl ((sgnT k).2 + 1) (E.num b).pt = _
 rw [b1, b2, opT, if_neg (by omega)]
theorem sg_ne {k : Nat} (hk : 32 ≤ k ∧ k ≤ 36) : (sgnT k).1 ≠ [40] ∧ (sgnT k).1 ≠ [41] ∧ (sgnT k).1 ≠ [44] ∧ (Lx.hasB Lx.twos (sgnT k).1 = true ∨ Lx.hasB Lx.ones (sgnT k).1 = true) := by
 rcases (show k = 32 ∨ k = 33 ∨ k = 34 ∨ k = 35 ∨ k = 36 by omega) with rfl | rfl | rfl | rfl | rfl <;> decide
theorem from_text : render [kwT kFROM, nmT [111]] = [70, 82, 79, 77, 32, 111] := by decide
theorem sg_len {k : Nat} (hk : 32 ≤ k ∧ k ≤ 36) : (sgnT k).1.length = 1 := by
 rcases (show k = 32 ∨ k = 33 ∨ k = 34 ∨ k = 35 ∨ k = 36 by omega) with rfl | rfl | rfl | rfl | rfl <;> decide
theorem parse_t1 {k : Nat} (hk : 32 ≤ k ∧ k ≤ 36) {a b : Int} (ha : (E.num a).ok 2000) (hb : (E.num b).ok 2000) : ParseR (bSel ++ (t1 k a b ++ bFrom)) (.ok (sSelect (.bin k (.num a) (.num b)))) := by
 obtain ⟨n1, n2, n3, n4⟩ := sg_ne hk
 have ho : (E.bin k (.num a) (.num b)).ok 2000 := ⟨by omega, by omega, ha, hb⟩
 have ht : render (kwT kSELECT :: ((E.bin k (.num a) (.num b)).pt ++ [kwT kFROM, nmT [111]])) = bSel ++ (t1 k a b ++ bFrom) := by
  rw [bin_pt hk, List.append_assoc, List.cons_append, render_num _ _ _ _ rfl, render_num _ _ _ _ rfl, from_text]
  simp [kwT, sgT, n1, n2, n3, bSel, bFrom, t1, kSELECT, kFROM]
 have hl := decI_len a
 have hl2 := decI_len b
 have hl3 := sg_len hk
 rw [← ht]
 refine parse_select _ _ ?_ (by simp [E.depth]) (fun sz ts rest hs hst => ex_pt ho hs hst) (head_star _ ho) (by rw [ht]; simp [bSel, bFrom, t1]; omega)
 intro t ht'
 rw [bin_pt hk] at ht'
 simp only [List.mem_cons, List.mem_append] at ht'
 rcases ht' with h | rfl | h
 · exact num_ok ha t h
 · exact sgT_ok n4
 · exact num_ok hb t h
theorem parse_t2 {a b : Int} (ha : (E.num a).ok 2000) (hb : (E.num b).ok 2000) : ParseR (bSel ++ (t2 a b ++ bFrom)) (.ok (sSelect (e2 32 a b))) := by
 have hk : 32 ≤ 32 ∧ 32 ≤ 36 := by omega
 have hp : P2 32 a b = sgT [40] :: ((E.num a).pt ++ sgT [43] :: ((E.num b).pt ++ sgT [41] :: (sgT [45] :: (E.num b).pt))) := by
  rw [P2, bin_pt hk]; simp [sgnT]
 have ht : render (kwT kSELECT :: (P2 32 a b ++ [kwT kFROM, nmT [111]])) = bSel ++ (t2 a b ++ bFrom) := by
  rw [hp]
  simp only [List.cons_append, List.append_assoc]
  rw [render, render_num _ _ _ _ rfl, render_num _ _ _ _ rfl, render, render_num _ _ _ _ rfl, from_text]
  simp [kwT, sgT, bSel, bFrom, t2, kSELECT, kFROM, gap, apart]
 have hl := decI_len a
 have hl2 := decI_len b
 rw [← ht]
 refine parse_select _ _ ?_ (by simp [e2, E.depth]) (fun sz ts rest hs hst => reads2 hk ha hb sz ts rest hs hst) ⟨sgT [40], _, hp, .inr (by decide)⟩ (by rw [ht]; simp [bSel, bFrom, t2]; omega)
 intro t ht'
 rw [hp] at ht'
 simp only [List.mem_cons, List.mem_append] at ht'
 rcases ht' with rfl | h | rfl | h | rfl | rfl | h
 · exact sgT_ok (by decide)
 · exact num_ok ha t h
 · exact sgT_ok (by decide)
 · exact num_ok hb t h
 · exact sgT_ok (by decide)
 · exact sgT_ok (by decide)
 · exact num_ok hb t h
end Px
end
structure EnvD (w : World) : Prop where
 envp : EnvP w
 pow : ∃ t fr, w.heap[0]? = some (.cells (Lib.pow10Tab.map fun z => Value.int .u64 z).toArray t fr)
theorem EnvD.below {w w' : World} (h : EnvD w) (hb : Below w.heap.size w w') : EnvD w' := by
 refine ⟨h.envp.below hb, ?_⟩
 have hr := h.envp.env.room
 rw [hb.block _ (Nat.lt_of_lt_of_le (by simp) hr)]; exact h.pow
theorem EnvD.tab {w : World} (h : EnvD w) : Lib.TabIs Tryz.prog w "internal/strconv.uint64pow10" .u64 Lib.pow10Tab := by
 obtain ⟨t, fr, hp⟩ := h.pow
 have hg : Tryz.prog.globalNamed "internal/strconv.uint64pow10" = some 0 := by kernel_rfl
 unfold Lib.TabIs World.var?
 rw [hg]
 simp only [Option.bind_some, hp]
theorem itoa_dec (z : Int) (h1 : -9223372036854775808 ≤ z) (h2 : z ≤ 9223372036854775807) : Lib.itoa z = Px.decI z := by
 unfold Px.decI
 by_cases hz : z < 0
 · rw [if_pos hz]
   have := itoa_min z.natAbs (by omega) (by omega)
   rwa [show -(z.natAbs : Int) = z by omega] at this
 · rw [if_neg hz]
   have := itoa_pos z.natAbs (by omega)
   rwa [show (z.natAbs : Int) = z by omega] at this
theorem told_num (z : Int) (h1 : -9223372036854775808 ≤ z) (h2 : z ≤ 9223372036854775807) (w : World) (he : EnvD w) :
   Calls Tryz.prog 5 #[.int .i64 z] w fun x w' => x = .returned (.string ⟨(Px.decI z).toArray⟩) ∧ Below w.heap.size w w' := by
 have HI := hd (Tryz.strconv_Itoa z h1 h2 w he.tab)
 have HD := hd (itoa_dec z h1 h2)
 go_enter Tryz.func5, Tryz.ntmps5
 go_wp2_with fail
 refine HI.out.mono ?_
 rintro x w1 ⟨rfl, kk, os, hw⟩
 have HB : Hid (Below w.heap.size w w1) := by show Below _ _ _; rw [hw]; exact Lib.below_grow _ w (Nat.le_refl _) kk os
 clear hw
 rw [HD.out]
 go_wp2_with fail
 go_ret
 exact ⟨rfl, HB.out⟩
section
open Go.RowKit Go.Shelf Go.Lib
theorem tab_of_reads {P : Program} {w : World} {nm : String} {g m : Nat} {t e : TypeId} {k : IntKind} (zs : List Int) (hg : P.globalNamed nm = some g) (hty : (P.globals[g]?).map (·.type) = some t)
   (ht : P.underlying t = some (.array m e)) (he : P.underlying e = some (.int k)) (hce : P.cellsOf e = 1) (hct : P.cellsOf t = m)
   (h : VarReads P w nm (tabData k zs)) : ∃ t' fr, w.heap[g]? = some (.cells (zs.map fun z => Value.int k z).toArray t' fr) := by
 obtain ⟨g', t', cs, fuel, p, hg', hty', hvar, hd⟩ := h
 obtain rfl := Option.some.inj (hg.symm.trans hg')
 obtain rfl := Option.some.inj (hty.symm.trans hty')
 have hcs : cs = (zs.map fun z => Value.int k z).toArray := by
  apply Array.ext'
  exact cells_of_tab ht he hce hct hd
 subst hcs
 simp only [World.var?, hg, Option.bind_some] at hvar
 split at hvar
 · rename_i c t2 fr hh
   cases hvar
   exact ⟨t2, fr, hh⟩
 · cases hvar
theorem pow_eq : (Rows.laid_internal_strconv_uint64pow10 : DataW Unit) = tabData .u64 pow10Tab := by kernel_rfl
theorem envD_of_reads {W : World} (hp : EnvP W) (h : VarReads Tryz.prog W "internal/strconv.uint64pow10" Rows.laid_internal_strconv_uint64pow10) (hsh : W.ShapedOpen Tryz.prog) : EnvD W where
 envp := hp
 pow := tab_of_reads (t := 178) (e := 99) (m := 20) pow10Tab (by kernel_rfl) (by kernel_rfl) (by kernel_rfl) (by kernel_rfl) (by kernel_rfl) (by kernel_rfl) (pow_eq ▸ h)
end
def OutF {α : Type} (B : Nat) (lv : Value) (ts : List Lx.Tok) (sz : Nat) (dp : Bool) (V : α → Value → World → Prop) (dv : α → Bool) (x : Ending) (w' : World) : Px.Res α → Prop
 | .error (p, c) => x = Flt p c
 | .ok (a, q') => ∃ v, x = .returned v ∧ V a v w' ∧ Cx w' B lv ts sz q' (dv a || dp)
def OutR {α : Type} (w : World) (B : Nat) (lv : Value) (ts : List Lx.Tok) (sz : Nat) (dp : Bool) (R : Px.Rg α) (q : List Lx.Tok) (V : α → Value → World → Prop) (dv : α → Bool) (x : Ending) (w' : World) : Prop :=
 w.grownBy w' (some B) ∧ ∃ r, R q r ∧ OutF B lv ts sz dp V dv x w' r
theorem OutR.err {α : Type} {w : World} {B : Nat} {lv : Value} {ts : List Lx.Tok} {sz : Nat} {dp : Bool} {R : Px.Rg α} {q : List Lx.Tok} {V : α → Value → World → Prop} {dv : α → Bool} {w' : World} {p c : Nat} (hg : w.grownBy w' (some B)) (h : R q (.error (p, c))) : OutR w B lv ts sz dp R q V dv (Flt p c) w' := ⟨hg, _, h, rfl⟩
theorem OutR.ok {α : Type} {w : World} {B : Nat} {lv : Value} {ts : List Lx.Tok} {sz : Nat} {dp : Bool} {R : Px.Rg α} {q : List Lx.Tok} {V : α → Value → World → Prop} {dv : α → Bool} {w' : World} {a : α} {q' : List Lx.Tok} {v : Value} (hg : w.grownBy w' (some B)) (h : R q (.ok (a, q'))) (hv : V a v w') (hx : Cx w' B lv ts sz q' (dv a || dp)) : OutR w B lv ts sz dp R q V dv (.returned v) w' := ⟨hg, _, h, v, rfl, hv, hx⟩
theorem OutR.cases {α : Type} {w : World} {B : Nat} {lv : Value} {ts : List Lx.Tok} {sz : Nat} {dp : Bool} {R : Px.Rg α} {q : List Lx.Tok} {V : α → Value → World → Prop} {dv : α → Bool} {x : Ending} {w' : World} (h : OutR w B lv ts sz dp R q V dv x w') :
   w.grownBy w' (some B) ∧ ((∃ p c, R q (.error (p, c)) ∧ x = Flt p c) ∨ ∃ a q' v, R q (.ok (a, q')) ∧ x = .returned v ∧ V a v w' ∧ Cx w' B lv ts sz q' (dv a || dp)) := by
 obtain ⟨hg, r, hr, hf⟩ := h
 refine ⟨hg, ?_⟩
 match r, hr, hf with
 | .error (p, c), hr, hf => exact .inl ⟨p, c, hr, hf⟩
 | .ok (a, q'), hr, ⟨v, h1, h2, h3⟩ => exact .inr ⟨a, q', v, hr, h1, h2, h3⟩
def strV (s : Lx.Bs) (v : Value) (_ : World) : Prop := v = .string ⟨s.toArray⟩
def numV (n : Nat) (v : Value) (_ : World) : Prop := v = .int .i64 (n : Int)
def unitV (_ : Unit) (v : Value) (_ : World) : Prop := v = .tuple #[]
def noDeep {α : Type} (_ : α) : Bool := false
theorem grownBy_alloc {w w1 : World} {row : Option Nat} (h : w.grownBy w1 row) (o : Obj) : w.grownBy (w1.alloc o) row :=
 ⟨h.os, h.tape, h.output, by have := h.size; simp; omega, fun k hk hne => by
  rw [← h.block k hk hne]
  exact heap_alloc_old w1 o (Nat.lt_of_lt_of_le hk h.size)⟩
theorem pk_cons {sz : Nat} {q : List Lx.Tok} {tk : Nat} {tt : Lx.Bs} {tp : Nat} (ht : pk sz q = ⟨tk, tt, tp⟩) (h0 : tk ≠ 0) : ∃ q', q = ⟨tk, tt, tp⟩ :: q' := by
 cases q with
 | nil => simp only [pk, Lx.Tok.mk.injEq] at ht; omega
 | cons t q' => simp only [pk] at ht; exact ⟨q', by rw [ht]⟩
theorem plc_tok {sz : Nat} {q : List Lx.Tok} {tk : Nat} {tt : Lx.Bs} {tp : Nat} (ht : pk sz q = ⟨tk, tt, tp⟩) : Px.plc sz q = tp := by rw [plc_pk, ht]
theorem c_expect_any (s : ByteArray) (w : World) (B g : Nat) (lv : Value) (ts : List Lx.Tok) (sz : Nat) (q : List Lx.Tok) (dp : Bool) (h : Cx w B lv ts sz q dp) (hne : s.data.toList ≠ []) (hv : w.cell? ⟨g, 0, none⟩ = some (.string s)) :
   Calls Tryz.prog 38 #[.pointer (some ⟨B, 0, none⟩), .slice (some ⟨g, 0, none⟩) 1 1] w (OutR w B lv ts sz dp (Px.mustR sz s.data.toList) q unitV noDeep) := by
 cases hs : Px.sees s.data.toList q with
 | true =>
  refine (c_expect_yes s w B g lv ts sz q dp h hs hne hv).mono ?_
  rintro x w' ⟨rfl, hx, hg⟩
  exact OutR.ok hg (by unfold Px.mustR Px.must; rw [if_pos hs]) rfl hx
 | false =>
  refine (c_expect_no s w B g lv ts sz q dp h hs hne hv).mono ?_
  rintro x w' ⟨rfl, hb⟩
  exact OutR.err (Below.grownBy hb) (by unfold Px.mustR Px.must; rw [if_neg (by simp [hs])])
theorem name_no {sz : Nat} {q : List Lx.Tok} {tk : Nat} {tt : Lx.Bs} {tp : Nat} (ht : pk sz q = ⟨tk, tt, tp⟩) (hk : tk ≠ 18) : Px.nameR sz q (.error (Px.plc sz q, 4)) := by
 unfold Px.nameR
 cases q with
 | nil => rfl
 | cons t q =>
  simp only [pk] at ht
  subst ht
  simp only [Px.name, Px.plc]
  rw [if_pos hk]
theorem c_name_any (w : World) (B : Nat) (lv : Value) (ts : List Lx.Tok) (sz : Nat) (q : List Lx.Tok) (dp : Bool) (h : Cx w B lv ts sz q dp) :
   Calls Tryz.prog 39 #[.pointer (some ⟨B, 0, none⟩)] w (OutR w B lv ts sz dp (Px.nameR sz) q strV noDeep) := by
 rcases ht : pk sz q with ⟨tk, tt, tp⟩
 by_cases hk : tk = 18
 · obtain ⟨q', rfl⟩ := pk_cons ht (by omega)
   have HX := hd h
   have HK := hd hk
   have hR : Px.nameR sz (⟨tk, tt, tp⟩ :: q') (if 30 < tt.length then .error (tp, 5) else .ok (tt, q')) := by
    unfold Px.nameR
    simp only [Px.name]
    rw [if_neg (by simpa using hk)]
    split <;> rfl
   have HR := hd hR
   clear h ht hk hR
   go_enter Tryz.func39, Tryz.ntmps39
   go_wp2_with fail
   refine (c_take_yes w B lv ts sz tk tt tp q' dp HX.out 18 HK.out).mono ?_
   rintro x w1 ⟨rfl, hx, hg⟩
   have HX1 := hd hx
   have HG1 := hd hg
   clear hx hg
   unfold tokA
   simp only
   by_cases hl : 30 < tt.length
   · have hl' : (30 : Int) < (tt.length : Int) := by omega
     go_wp2_with fail
     refine (c_fail_any _ _ tp 5).mono ?_
     rintro x w2 ⟨rfl, rfl⟩
     exact ⟨rfl, OutR.err (grownBy_alloc HG1.out _) (by have := HR.out; rwa [if_pos hl] at this)⟩
   · have hl' : ¬ (30 : Int) < (tt.length : Int) := by omega
     go_wp2_with fail
     go_ret
     exact OutR.ok (grownBy_alloc HG1.out _) (by have := HR.out; rwa [if_neg hl] at this) rfl (HX1.out.below ((Below.refl _ _).alloc (Nat.le_refl _) _))
 · have HX := hd h
   have HN := hd (name_no ht hk)
   go_enter Tryz.func39, Tryz.ntmps39
   go_wp2_with fail
   refine (c_take_no w B lv ts sz q dp HX.out tk tt tp ht 18 hk).mono ?_
   rintro x w1 ⟨rfl, hb⟩
   exact ⟨rfl, OutR.err (Below.grownBy hb) HN.out⟩
theorem parse_digits : ∀ (l : Lx.Bs) (acc : Nat), (∀ c ∈ l, Lx.isDig c = true) → Px.dfold l acc ≤ 9223372036854775808 → Lib.parseUint10 acc l = .ok (Px.dfold l acc)
 | [], acc, _, _ => rfl
 | c :: l, acc, hd, hv => by
  rw [Px.dfold_cons] at hv ⊢
  have hc := hd c (by simp)
  simp only [Lx.isDig, decide_eq_true_eq] at hc
  have hge := Px.dfold_ge l (10 * acc + (c.toNat - 48))
  unfold Lib.parseUint10
  rw [if_pos hc, if_neg (by omega), if_neg (by omega), Nat.mul_comm acc 10]
  exact parse_digits l _ (fun x hx => hd x (by simp [hx])) hv
theorem atoi_digits {t : Lx.Bs} (hne : t ≠ []) (hd : ∀ c ∈ t, Lx.isDig c = true) (hv : Px.dval t ≤ 9223372036854775808) : Lib.atoiAll t = if Px.dval t = 9223372036854775808 then .range else .ok (Px.dval t : Int) := by
 cases t with
 | nil => exact absurd rfl hne
 | cons c r =>
  have hc := hd c (by simp)
  simp only [Lx.isDig, decide_eq_true_eq] at hc
  rw [Px.dval_fold] at hv ⊢
  have hp := parse_digits (c :: r) 0 hd hv
  simp only [Lib.atoiAll]
  rw [if_neg (by omega)]
  unfold Lib.parseMag
  rw [if_neg (by simp), hp]
  simp only
  have h45 : ¬ c.toNat = 45 := by omega
  by_cases he : Px.dfold (c :: r) 0 = 9223372036854775808
  · rw [if_pos ⟨h45, by omega⟩, if_pos he]
  · rw [if_neg (by omega), if_neg (by omega), if_neg he, if_neg h45]
def numR (sz most : Nat) : Px.Rg Nat := fun ts r => match ts with
 | [] => r = .error (sz, 4)
 | t :: q => r = if t.kind ≠ 16 then .error (t.pos, 4) else if t.text = Lx.top ∨ most < Px.dval t.text then .error (t.pos, 3) else .ok (Px.dval t.text, q)
theorem num_no {sz most : Nat} {q : List Lx.Tok} {tk : Nat} {tt : Lx.Bs} {tp : Nat} (ht : pk sz q = ⟨tk, tt, tp⟩) (hk : tk ≠ 16) : numR sz most q (.error (Px.plc sz q, 4)) := by
 unfold numR
 cases q with
 | nil => rfl
 | cons t q =>
  simp only [pk] at ht
  subst ht
  simp only [Px.plc]
  rw [if_pos hk]
theorem top_iff {t : Lx.Bs} (hd : ∀ c ∈ t, Lx.isDig c = true) (ho : Lx.overTop t = false) : (Px.dval t = 9223372036854775808 ↔ t = Lx.top) ∧ Px.dval t ≤ 9223372036854775808 := by
 by_cases h : t = Lx.top
 · subst h; exact ⟨⟨fun _ => rfl, fun _ => Px.dval_topv⟩, by rw [Px.dval_topv]; omega⟩
 · have := Px.dval_lt hd ho h
   exact ⟨⟨fun e => by omega, fun e => absurd e h⟩, by omega⟩
theorem Cx.tok {w : World} {B : Nat} {lv : Value} {ts : List Lx.Tok} {sz : Nat} {t : Lx.Tok} {q : List Lx.Tok} {dp : Bool} (h : Cx w B lv ts sz (t :: q) dp) : Lx.TokOk t ∧ Px.SgnOk t ∧ t.pos ≤ 2000 ∧ t.text.length ≤ 2000 := by
 obtain ⟨k, h1, h2⟩ := h
 exact h2.toks t (List.mem_of_mem_drop (by rw [← h1]; simp))
theorem Cx.env {w : World} {B : Nat} {lv : Value} {ts : List Lx.Tok} {sz : Nat} {q : List Lx.Tok} {dp : Bool} (h : Cx w B lv ts sz q dp) : EnvP w := by
 obtain ⟨k, h1, h2⟩ := h
 exact h2.env
theorem c_number_any (w : World) (B : Nat) (lv : Value) (ts : List Lx.Tok) (sz : Nat) (q : List Lx.Tok) (dp : Bool) (h : Cx w B lv ts sz q dp) (most : Nat) (hm : most ≤ 9223372036854775807) :
   Calls Tryz.prog 104 #[.pointer (some ⟨B, 0, none⟩), .int .i64 (most : Int)] w (OutR w B lv ts sz dp (numR sz most) q numV noDeep) := by
 rcases ht : pk sz q with ⟨tk, tt, tp⟩
 by_cases hk : tk = 16
 · obtain ⟨q', rfl⟩ := pk_cons ht (by omega)
   have HX := hd h
   have HK := hd hk
   obtain ⟨hok, _, _, hlen⟩ := h.tok
   obtain ⟨hne, hdig, hov⟩ := hok.digs hk
   simp only at hne hdig hov hlen
   obtain ⟨htop, hle⟩ := top_iff hdig hov
   have hat := atoi_digits hne hdig hle
   have hR : numR sz most (⟨tk, tt, tp⟩ :: q') (if tt = Lx.top ∨ most < Px.dval tt then .error (tp, 3) else .ok (Px.dval tt, q')) := by
    unfold numR
    simp only
    rw [if_neg (show ¬ (tk ≠ 16) from fun e => e hk)]
   have HR := hd hR
   have hsz : (⟨tt.toArray⟩ : ByteArray).size ≤ 2000 := by simpa [ByteArray.size] using hlen
   clear h ht hk hR hok hne hdig hov
   go_enter Tryz.func104, Tryz.ntmps104
   go_wp2_with fail
   refine (c_take_yes w B lv ts sz tk tt tp q' dp HX.out 16 HK.out).mono ?_
   rintro x w1 ⟨rfl, hx, hg⟩
   have HX1 := hd (hx.below ((Below.refl _ _).alloc (Nat.le_refl _) (.cells #[.int .i64 (tk : Int), .string ⟨tt.toArray⟩, .int .i64 (tp : Int)] 109)))
   have HG1 := hd (grownBy_alloc hg (.cells #[.int .i64 (tk : Int), .string ⟨tt.toArray⟩, .int .i64 (tp : Int)] 109))
   have KN := Blk.new w1 #[.int .i64 (tk : Int), .string ⟨tt.toArray⟩, .int .i64 (tp : Int)] 109
   have HKN := hd KN
   clear hx hg KN
   unfold tokA
   simp only
   by_cases he : Px.dval tt = 9223372036854775808
   · rw [if_pos he] at hat
     obtain ⟨te, pe, hrng⟩ := HX1.out.env.rng
     have HA := hd ((Tryz.strconv_Atoi_range ⟨tt.toArray⟩ (by omega) hat _ _ hrng (.inr ⟨te, pe, rfl⟩)))
     clear hat hrng
     go_wp2_with fail
     refine HA.out.mono ?_
     rintro x w2 ⟨N, rfl, hN, _, hb⟩
     have KN2 := HKN.out.below hb (by simp)
     have n2 : w2.cell? ⟨w1.heap.size, 2, none⟩ = some (.int .i64 (tp : Int)) := KN2.cell 2
     have HB := hd hb
     clear hb KN2
     go_wp2_with fail
     refine (c_fail_any _ _ tp 3).mono ?_
     rintro x w3 ⟨rfl, rfl⟩
     exact ⟨rfl, OutR.err (grownBy_trans HG1.out (Below.grownBy HB.out)) (by have := HR.out; rwa [if_pos (.inl (htop.1 he))] at this)⟩
   · rw [if_neg he] at hat
     have HA := hd ((Tryz.strconv_Atoi_ok ⟨tt.toArray⟩ (by omega) _ hat (w1.alloc (.cells #[.int .i64 (tk : Int), .string ⟨tt.toArray⟩, .int .i64 (tp : Int)] 109))))
     have hlt : Px.dval tt < 9223372036854775808 := by omega
     clear hat
     go_wp2_with fail
     refine HA.out.mono ?_
     rintro x w2 ⟨rfl, hw⟩
     have hb : Below (w1.alloc (.cells #[.int .i64 (tk : Int), .string ⟨tt.toArray⟩, .int .i64 (tp : Int)] 109)).heap.size (w1.alloc (.cells #[.int .i64 (tk : Int), .string ⟨tt.toArray⟩, .int .i64 (tp : Int)] 109)) w2 := by
      rcases hw with rfl | ⟨t, rfl⟩
      · exact Below.refl _ _
      · exact Lib.bytesWorld_below _ _ _
     have KN2 := HKN.out.below hb (by simp)
     have n2 : w2.cell? ⟨w1.heap.size, 2, none⟩ = some (.int .i64 (tp : Int)) := KN2.cell 2
     have HB := hd hb
     clear hb KN2 hw
     generalize Px.dval tt = n at *
     by_cases hgt : most < n
     · have hgt' : (most : Int) < (n : Int) := by omega
       go_wp2_with fail
       refine (c_fail_any _ _ tp 3).mono ?_
       rintro x w3 ⟨rfl, rfl⟩
       exact ⟨rfl, OutR.err (grownBy_trans HG1.out (Below.grownBy HB.out)) (by have := HR.out; rwa [if_pos (.inr hgt)] at this)⟩
     · have hgt' : ¬ (most : Int) < (n : Int) := by omega
       go_wp2_with fail
       go_ret
       exact OutR.ok (grownBy_trans HG1.out (Below.grownBy HB.out)) (by have := HR.out; rwa [if_neg (by rintro (e | e); exact he (htop.2 e); exact hgt e)] at this) rfl (HX1.out.below HB.out)
 · have HX := hd h
   have HN := hd (num_no (most := most) ht hk)
   go_enter Tryz.func104, Tryz.ntmps104
   go_wp2_with fail
   refine (c_take_no w B lv ts sz q dp HX.out tk tt tp ht 16 hk).mono ?_
   rintro x w1 ⟨rfl, hb⟩
   exact ⟨rfl, OutR.err (Below.grownBy hb) HN.out⟩
def opAgg (x : Nat × Lx.Bs × Nat) : Value := .agg #[.int .i64 (x.2.2 : Int), .string ⟨x.2.1.toArray⟩, .int .i64 (x.1 : Int)]
end Go.Proofs.YtaiebhhommgnbaaGreatDoor
