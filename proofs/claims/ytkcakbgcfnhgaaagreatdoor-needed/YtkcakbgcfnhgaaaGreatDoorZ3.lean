/- Parts of the proof: CodeA CodeB CpA CpB CpC CpE Wa -/
import Derived.Test.YtkcakbgcfnhgaaaGreatDoorZ2
import Derived.Test.YtkcakbgcfnhgaaaGreatDoorZShelf
import Derived.Deep.RegionHeld3
import Derived.Deep.DrawnRows
import Derived.Deep.RegionWith
import Derived.Test.YtkcakbgcfnhgaaaGreatDoorZ1
import Derived.Test.YtkcakbgcfnhgaaaGreatDoorZShelfB
namespace Go.Proofs.YtkcakbgcfnhgaaaGreatDoor
set_option linter.unusedSimpArgs false
set_option linter.unusedVariables false
set_option maxRecDepth 100000
set_option maxHeartbeats 16000000
open Go.RowKit
def sgns : List Lx.Bs := Lx.twos ++ Lx.ones
structure Env (w : World) : Prop where
 tabs : Lib.Utf8Tabs 2 3 w
 kws : ∃ t fr, w.heap[1]? = some (.cells (strRow Lx.keys) t fr)
 sgs : ∃ t fr, w.heap[0]? = some (.cells (strRow sgns) t fr)
 room : 12 ≤ w.heap.size
theorem Env.grown {w w' : World} {B : Nat} (h : Env w) (hg : w.grownBy w' (some B)) (hB : 12 ≤ B) : Env w' := by
 have hr := h.room
 have hb : ∀ k, k < 12 → w'.heap[k]? = w.heap[k]? := fun k hk => hg.block k (by omega) (by simp; omega)
 refine ⟨⟨fun c hc => ?_, fun i hi => ?_⟩, ?_, ?_, Nat.le_trans hr hg.size⟩
 · rw [World.cell?_of_block (w := w) (hb _ (by simp))]; exact h.tabs.1 c hc
 · rw [World.cell?_of_block (w := w) (hb _ (by simp)), World.cell?_of_block (w := w) (hb _ (by simp))]; exact h.tabs.2 i hi
 · rw [hb _ (by simp)]; exact h.kws
 rw [hb _ (by simp)]; exact h.sgs
theorem Env.below {w w' : World} (h : Env w) (hb : Below w.heap.size w w') : Env w' := h.grown (B := w.heap.size) (Below.grownBy hb) h.room
theorem gbt {w w1 w2 : World} {row : Option Nat} (h : w.grownBy w1 row) (k : w1.grownBy w2 row) : w.grownBy w2 row :=
 ⟨k.os.trans h.os, k.tape.trans h.tape, k.output.trans h.output, Nat.le_trans h.size k.size, fun i hi hne => (k.block i (Nat.lt_of_lt_of_le hi h.size) hne).trans (h.block i hi hne)⟩
theorem grownBy_refl (w : World) (row : Option Nat) : w.grownBy w row := ⟨rfl, rfl, rfl, nlr _, fun _ _ _ => rfl⟩
theorem gbs (w : World) (B i : Nat) (v : Value) : w.grownBy (w.setCell ⟨B, i, none⟩ v) (some B) :=
 ⟨rfl, rfl, rfl, by simp [World.setCell], fun k _ hne => Below.heap_setCell w _ v k (by simpa using hne)⟩
theorem grownBy_drew {w w1 : World} {row : Option Nat} (h : w.grownBy w1 row) : w.grownBy w1.drew row := ⟨h.os, h.tape, h.output, h.size, h.block⟩
structure Rd (w : World) (B : Nat) (s : ByteArray) (k st : Nat) : Prop where
 blk : Blk w B #[.string s, .int .i64 (k : Int), .int .i64 (st : Int)] 114
 low : 12 ≤ B
 env : Env w
 le : k ≤ s.size
 small : s.size ≤ 2000
theorem Rd.below {w w' : World} {B : Nat} {s : ByteArray} {k st : Nat} (h : Rd w B s k st) (hb : Below w.heap.size w w') : Rd w' B s k st :=
 ⟨h.blk.below hb h.blk.lt, h.low, h.env.below hb, h.le, h.small⟩
theorem Rd.drew {w : World} {B : Nat} {s : ByteArray} {k st : Nat} (h : Rd w B s k st) : Rd w.drew B s k st :=
 ⟨h.blk, h.low, ⟨h.env.tabs, h.env.kws, h.env.sgs, h.env.room⟩, h.le, h.small⟩
theorem Rd.set1 {w : World} {B : Nat} {s : ByteArray} {k st : Nat} (h : Rd w B s k st) (j : Nat) (hj : j ≤ s.size) : Rd (w.setCell ⟨B, 1, none⟩ (.int .i64 (j : Int))) B s j st :=
 ⟨h.blk.set 1 _, h.low, h.env.grown (gbs w B 1 _) h.low, hj, h.small⟩
theorem Rd.set2 {w : World} {B : Nat} {s : ByteArray} {k st : Nat} (h : Rd w B s k st) (j : Nat) : Rd (w.setCell ⟨B, 2, none⟩ (.int .i64 (j : Int))) B s k j :=
 ⟨h.blk.set 2 _, h.low, h.env.grown (gbs w B 2 _) h.low, h.le, h.small⟩
def rSp (r : Int) : Bool := decide (r = 9 ∨ r = 10 ∨ r = 13 ∨ r = 32)
def rLine (r : Int) : Bool := decide (r ≠ 10)
def rDig (r : Int) : Bool := decide (48 ≤ r ∧ r ≤ 57)
def rWd (r : Int) : Bool := decide ((97 ≤ r ∧ r ≤ 122) ∨ (65 ≤ r ∧ r ≤ 90) ∨ r = 95 ∨ (48 ≤ r ∧ r ≤ 57))
theorem isSpace_any (r : Int) (w : World) : Calls Tryz.prog 93 #[.int .i32 r] w fun e w' => e = .returned (.bool (rSp r)) ∧ w' = w := by
 go_enter Tryz.func93, Tryz.ntmps93
 go_wp2
 all_goals
  go_ret
  refine ⟨ret_bool ?_, rfl⟩
  rw [Bool.eq_iff_iff]; simp [rSp]; omega
theorem inLine_any (r : Int) (w : World) : Calls Tryz.prog 95 #[.int .i32 r] w fun e w' => e = .returned (.bool (rLine r)) ∧ w' = w := by
 go_enter Tryz.func95, Tryz.ntmps95
 go_wp2
 all_goals
  go_ret
  refine ⟨ret_bool ?_, rfl⟩
  rw [Bool.eq_iff_iff]; simp [rLine]
theorem isDigit_any (r : Int) (w : World) : Calls Tryz.prog 157 #[.int .i32 r] w fun e w' => e = .returned (.bool (rDig r)) ∧ w' = w := by
 go_enter Tryz.func157, Tryz.ntmps157
 go_wp2
 all_goals
  go_ret
  refine ⟨ret_bool ?_, rfl⟩
  rw [Bool.eq_iff_iff]; simp [rDig]; omega
theorem inWord_any (r : Int) (w : World) : Calls Tryz.prog 159 #[.int .i32 r] w fun e w' => e = .returned (.bool (rWd r)) ∧ w' = w := by
 go_enter Tryz.func159, Tryz.ntmps159
 go_wp2_with (go_at_call 157; refine (isDigit_any _ _).mono ?_; rintro e w' ⟨rfl, rfl⟩)
 all_goals
  go_ret
  refine ⟨ret_bool ?_, rfl⟩
  rw [Bool.eq_iff_iff]; simp [rWd, rDig] <;> omega
theorem fail_any (w : World) (B : Nat) (s : ByteArray) (k st : Nat) (c : Int) (h : Rd w B s k st) :
   Calls Tryz.prog 191 #[.pointer (some ⟨B, 0, none⟩), .int .i64 c] w fun e w' => e = .panicked [{ v := .iface 70 (.agg #[.int .i64 (st : Int), .int .i64 c]), recovered := false }] ∧ w' = w := by
 obtain ⟨⟨b0, b1, b2⟩, b3, b4, b5⟩ := h.blk.three
 go_enter Tryz.func191, Tryz.ntmps191
 go_wp2
 exact ⟨rfl, rfl, rfl⟩
def peekN (s : ByteArray) (k : Nat) : Int × Nat :=
 if k < s.size then (if Lx.charN (s.data.toList.drop k) = 0 then (-2, 1) else ((Utf8.decode s k).1, Lx.charN (s.data.toList.drop k))) else (-1, 0)
theorem get_extract (s : ByteArray) (k j : Nat) : (s.extract k s.size).get! j = s.get! (k + j) := by
 have e : (s.extract k s.size).data.toList = s.data.toList.drop k := Lib.extract_to_end s k
 have g : ∀ (t : ByteArray) (i : Nat), t.get! i = (t.data.toList[i]?).getD default := by
  intro t i
  show t.data[i]! = _
  rw [getElem!_def]
  simp only [Array.getElem?_toList]
  cases t.data[i]? <;> rfl
 rw [g, g, e, List.getElem?_drop]
theorem decode_extract (s : ByteArray) (k : Nat) (h : k ≤ s.size) : Utf8.decode (s.extract k s.size) 0 = Utf8.decode s k := by
 rw [Lib.decode_at, Lib.decode_at]
 rw [get_extract, get_extract, get_extract, get_extract]
 simp only [Nat.zero_add, Nat.add_zero, Nat.sub_zero]
 congr 1
 simp
theorem decodeGo_at (s : ByteArray) (k : Nat) (h : k < s.size) : Lib.decodeGo (s.extract k s.size) = Utf8.decode s k := by
 unfold Lib.decodeGo
 rw [if_neg (by simp; omega), decode_extract s k (by omega)]
theorem decodeGo_end (s : ByteArray) (k : Nat) (h : ¬ k < s.size) : Lib.decodeGo (s.extract k s.size) = (65533, 0) := by
 unfold Lib.decodeGo
 rw [if_pos (by simp; omega)]
theorem peek_any (w : World) (B : Nat) (s : ByteArray) (k st : Nat) (h : Rd w B s k st) :
   Calls Tryz.prog 156 #[.pointer (some ⟨B, 0, none⟩)] w fun e w' => e = .returned (.tuple #[.int .i32 (peekN s k).1, .int .i64 ((peekN s k).2 : Int)]) ∧ Below w.heap.size w w' := by
 obtain ⟨⟨b0, b1, b2⟩, b3, b4, b5⟩ := h.blk.three
 have hle := h.le
 have hsm := h.small
 by_cases hk : k < s.size
 · by_cases hc : Lx.charN (s.data.toList.drop k) = 0
   · have hp : peekN s k = (-2, 1) := by unfold peekN; rw [if_pos hk, if_pos hc]
     have hd := (decodeGo_at s k hk).trans (dec_bad s k hk hc).1
     rw [hp]
     clear hp hc
     go_enter Tryz.func156, Tryz.ntmps156
     go_wp2
     go_region_with (go_at_call 190; refine (Tryz.utf8_DecodeRuneInString _ _ h.drew.env.tabs).mono ?_; rintro e w1 ⟨rfl, hb1⟩; simp only [hd])
     all_goals
      go_wp2
      go_ret2
      exact ⟨rfl, (Below.refl _ _).drew.trans (by assumption)⟩
   obtain ⟨hg1, hg2, hg3⟩ := dec_good s k hk hc
   have hp : peekN s k = (((Utf8.decode s k).1 : Int), (Utf8.decode s k).2) := by unfold peekN; rw [if_pos hk, if_neg hc, hg1]
   have hd := decodeGo_at s k hk
   have hx : ¬ ((Utf8.decode s k).1 = 65533 ∧ (Utf8.decode s k).2 ≤ 1) := by
    rintro ⟨q1, q2⟩
    rcases hg3 with ⟨_, q3, q4⟩ | ⟨q3, _⟩ <;> omega
   rw [hp]
   generalize Utf8.decode s k = d at *
   obtain ⟨c, n⟩ := d
   clear hp hc hg1 hg2 hg3
   simp only
   by_cases hc1 : c = 65533
   · subst hc1
     have hn : 1 < n := by simp at hx; omega
     clear hx
     go_enter Tryz.func156, Tryz.ntmps156
     go_wp2
     go_region_with (go_at_call 190; refine (Tryz.utf8_DecodeRuneInString _ _ h.drew.env.tabs).mono ?_; rintro e w1 ⟨rfl, hb1⟩; simp only [hd])
     all_goals
      go_wp2
      go_ret2
      exact ⟨rfl, (Below.refl _ _).drew.trans (by assumption)⟩
   have hn : ¬ (c : Int) = 65533 := by omega
   clear hx hc1
   go_enter Tryz.func156, Tryz.ntmps156
   go_wp2
   go_region_with (go_at_call 190; refine (Tryz.utf8_DecodeRuneInString _ _ h.drew.env.tabs).mono ?_; rintro e w1 ⟨rfl, hb1⟩; simp only [hd])
   all_goals
    go_wp2
    go_ret2
    exact ⟨rfl, (Below.refl _ _).drew.trans (by assumption)⟩
 have hp : peekN s k = (-1, 0) := by unfold peekN; rw [if_neg hk]
 have hd := decodeGo_end s k hk
 rw [hp]
 clear hp
 go_enter Tryz.func156, Tryz.ntmps156
 go_wp2
 go_region_with (go_at_call 190; refine (Tryz.utf8_DecodeRuneInString _ _ h.drew.env.tabs).mono ?_; rintro e w1 ⟨rfl, hb1⟩; simp only [hd])
 all_goals
  go_wp2
  go_ret2
  exact ⟨rfl, (Below.refl _ _).drew.trans (by assumption)⟩
theorem peekN_le (s : ByteArray) (k : Nat) (h : k ≤ s.size) : k + (peekN s k).2 ≤ s.size := by
 unfold peekN
 split
 · rename_i hk
   split
   · simp; omega
   have hle := Lx.charN_le (s.data.toList.drop k)
   rw [List.length_drop, show s.data.toList.length = s.size from by simp] at hle
   simp; omega
 simp; omega
theorem take_any (w : World) (B : Nat) (s : ByteArray) (k st : Nat) (h : Rd w B s k st) :
   Calls Tryz.prog 194 #[.pointer (some ⟨B, 0, none⟩)] w fun e w' => e = .returned (.int .i32 (peekN s k).1) ∧ Rd w' B s (k + (peekN s k).2) st ∧ w.grownBy w' (some B) := by
 have hpl := peekN_le s k h.le
 have hsm := h.small
 obtain ⟨c, n, hpk⟩ : ∃ c n, peekN s k = (c, n) := ⟨_, _, rfl⟩
 rw [hpk] at hpl ⊢
 have HPK : Hid _ := hpk
 clear hpk
 simp only at hpl ⊢
 go_enter Tryz.func194, Tryz.ntmps194
 go_wp2_with fail
 refine (peek_any w B s k st h).mono ?_
 rintro e w1 ⟨rfl, hb1⟩
 rw [HPK.out]
 have h1 := h.below hb1
 obtain ⟨⟨b0, b1, b2⟩, b3, b4, b5⟩ := h1.blk.three
 go_wp2
 go_ret
 refine ⟨rfl, ?_, ?_⟩
 · exact h1.set1 (k + n) hpl
 exact gbt (Below.grownBy hb1) (gbs w1 B 1 _)
theorem char_high (s : ByteArray) (i : Nat) (h : i < s.size) (hb : 128 ≤ s[i].toNat) : i + (Utf8.decode s i).2 ≤ s.size ∧ 1 ≤ (Utf8.decode s i).2 ∧ ∀ j, j < (Utf8.decode s i).2 → 128 ≤ (s.get! (i + j)).toNat := by
 by_cases hc : Lx.charN (s.data.toList.drop i) = 0
 · rw [(dec_bad s i h hc).1]
   refine ⟨by simp; omega, by simp, ?_⟩
   intro j hj
   have : j = 0 := by simp at hj; exact hj
   subst this
   rw [Nat.add_zero, get_here s i h]; exact hb
 have hle := Lx.charN_le (s.data.toList.drop i)
 rw [List.length_drop, show s.data.toList.length = s.size from by simp] at hle
 have hg := dec_good s i h hc
 have hcls := charN_cls s i h
 rw [get_here s i h] at hcls
 rw [hg.1]
 refine ⟨by omega, by omega, ?_⟩
 intro j hj
 rcases hg.2.2 with ⟨q, _, q2⟩ | ⟨q, _⟩
 · omega
 have hn : Lx.charN (s.data.toList.drop i) = 2 ∨ Lx.charN (s.data.toList.drop i) = 3 ∨ Lx.charN (s.data.toList.drop i) = 4 := by
  have : ∀ n b0 b1 b2 b3, clsN n b0 b1 b2 b3 ≤ 4 := by
   intro n b0 b1 b2 b3
   unfold clsN
   repeat' split
   all_goals omega
  have := this (s.size - i) s[i].toNat (s.get! (i + 1)).toNat (s.get! (i + 2)).toNat (s.get! (i + 3)).toNat
  rw [← hcls] at this
  omega
 have lo : ∀ b, 128 ≤ Lx.loOf b := by
  intro b; unfold Lx.loOf
  repeat' split
  all_goals omega
 have hj0 : j = 0 → 128 ≤ (s.get! (i + j)).toNat := by rintro rfl; rw [Nat.add_zero, get_here s i h]; exact hb
 rcases hn with e | e | e
 · rw [e] at hcls hj
   obtain ⟨_, q1, _⟩ := cls_two _ _ _ _ _ hcls.symm
   have : j = 0 ∨ j = 1 := by omega
   rcases this with rfl | rfl
   · exact hj0 rfl
   exact q1.2.1
 · rw [e] at hcls hj
   obtain ⟨_, q1, q2, _⟩ := cls_three _ _ _ _ _ hcls.symm
   have := lo s[i].toNat
   have : j = 0 ∨ j = 1 ∨ j = 2 := by omega
   rcases this with rfl | rfl | rfl
   · exact hj0 rfl
   · omega
   exact q2.2.1
 rw [e] at hcls hj
 obtain ⟨_, q1, q2, q3, _⟩ := cls_four _ _ _ _ _ hcls.symm
 have := lo s[i].toNat
 have : j = 0 ∨ j = 1 ∨ j = 2 ∨ j = 3 := by omega
 rcases this with rfl | rfl | rfl | rfl
 · exact hj0 rfl
 · omega
 · exact q2.2.1
 exact q3.2.1
structure Fits (p : Int → Bool) (q : UInt8 → Bool) : Prop where
 low : ∀ b : UInt8, b.toNat < 128 → p (b.toNat : Int) = q b
 high : (∀ r : Int, 128 ≤ r → p r = false) ∧ (∀ b : UInt8, 128 ≤ b.toNat → q b = false) ∨ (∀ r : Int, 128 ≤ r → p r = true) ∧ (∀ b : UInt8, 128 ≤ b.toNat → q b = true)
theorem cnt_run (q : UInt8 → Bool) (s : ByteArray) : ∀ (n i : Nat), i + n ≤ s.size → (∀ j, j < n → q (s.get! (i + j)) = true) → Lx.cnt q (s.data.toList.drop i) = n + Lx.cnt q (s.data.toList.drop (i + n))
 | 0, i, _, _ => by simp
 | n + 1, i, h, hq => by
  rw [cnt_at q s i (by omega), if_pos (by have := hq 0 (by omega); rwa [Nat.add_zero, get_here s i (by omega)] at this)]
  rw [cnt_run q s n (i + 1) (by omega) (fun j hj => by have := hq (j + 1) (by omega); rwa [show i + (j + 1) = i + 1 + j from by omega] at this)]
  rw [show i + 1 + n = i + (n + 1) from by omega]; omega
theorem Fits.yes {p : Int → Bool} {q : UInt8 → Bool} (hf : Fits p q) (s : ByteArray) (i : Nat) (h : i < s.size) (hp : p ((Utf8.decode s i).1 : Int) = true) :
   Lx.cnt q (s.data.toList.drop i) = (Utf8.decode s i).2 + Lx.cnt q (s.data.toList.drop (i + (Utf8.decode s i).2)) ∧ i + (Utf8.decode s i).2 ≤ s.size ∧ 1 ≤ (Utf8.decode s i).2 := by
 by_cases hb : s[i].toNat < 128
 · rw [decode_ascii s i h hb] at hp ⊢
   simp only at hp ⊢
   rw [hf.low _ hb] at hp
   refine ⟨?_, by omega, by omega⟩
   rw [cnt_at q s i h, if_pos hp]; omega
 have hh := char_high s i h (by omega)
 have hr := (decode_high s i h (by omega)).1
 refine ⟨?_, hh.1, hh.2.1⟩
 rcases hf.high with ⟨h1, _⟩ | ⟨_, h2⟩
 · rw [h1 _ (by omega)] at hp; cases hp
 exact cnt_run q s _ i hh.1 (fun j hj => h2 _ (hh.2.2 j hj))
theorem Fits.no {p : Int → Bool} {q : UInt8 → Bool} (hf : Fits p q) (s : ByteArray) (i : Nat) (h : i < s.size) (hp : p ((Utf8.decode s i).1 : Int) = false) : Lx.cnt q (s.data.toList.drop i) = 0 := by
 rw [cnt_at q s i h, if_neg]
 intro hq
 by_cases hb : s[i].toNat < 128
 · rw [decode_ascii s i h hb] at hp
   rw [hf.low _ hb, hq] at hp
   cases hp
 have hr := (decode_high s i h (by omega)).1
 rcases hf.high with ⟨_, h2⟩ | ⟨h1, _⟩
 · rw [h2 _ (by omega)] at hq; cases hq
 rw [h1 _ (by omega)] at hp; cases hp
theorem fits_sp : Fits rSp Lx.isSp := by
 refine ⟨fun b hb => ?_, .inl ⟨fun r hr => ?_, fun b hb => ?_⟩⟩
 · unfold rSp Lx.isSp; rw [Bool.eq_iff_iff]; simp; omega
 · unfold rSp; simp; omega
 unfold Lx.isSp; simp; omega
theorem fits_line : Fits rLine Lx.notNl := by
 refine ⟨fun b hb => ?_, .inr ⟨fun r hr => ?_, fun b hb => ?_⟩⟩
 · unfold rLine Lx.notNl; rw [Bool.eq_iff_iff]; simp; omega
 · unfold rLine; simp; omega
 unfold Lx.notNl; simp; omega
theorem fits_dig : Fits rDig Lx.isDig := by
 refine ⟨fun b hb => ?_, .inl ⟨fun r hr => ?_, fun b hb => ?_⟩⟩
 · unfold rDig Lx.isDig; rw [Bool.eq_iff_iff]; simp; omega
 · unfold rDig; simp; omega
 unfold Lx.isDig; simp; omega
theorem fits_wd : Fits rWd Lx.isWd := by
 refine ⟨fun b hb => ?_, .inl ⟨fun r hr => ?_, fun b hb => ?_⟩⟩
 · unfold rWd Lx.isWd Lx.isDig Lx.isLet; rw [Bool.eq_iff_iff]; simp; omega
 · unfold rWd; simp; omega
 unfold Lx.isWd Lx.isDig Lx.isLet; simp; omega
theorem Rd.iter {w : World} {B : Nat} {s : ByteArray} {k st : Nat} (h : Rd w B s k st) (t : ByteArray) (p : Nat) : Rd (w.drew.iter t p) B s k st :=
 h.drew.below ((Below.refl _ _).alloc (nlr _) _)
theorem grownBy_iter (w : World) (t : ByteArray) (p B : Nat) : w.grownBy (w.drew.iter t p) (some B) :=
 gbt (grownBy_drew (grownBy_refl w _)) (Below.grownBy ((Below.refl _ _).alloc (nlr _) _))
theorem takeAll_isDigit (w : World) (B : Nat) (s : ByteArray) (k st : Nat) (h : Rd w B s k st) :
   Calls Tryz.prog 92 #[.pointer (some ⟨B, 0, none⟩), .func (.func 157) #[] #[]] w fun e w' => ∃ u : ByteArray, e = .returned (.string u) ∧ u.data.toList = (s.data.toList.drop k).take (Lx.cnt Lx.isDig (s.data.toList.drop k)) ∧ Rd w' B s (k + Lx.cnt Lx.isDig (s.data.toList.drop k)) st ∧ w.grownBy w' (some B) := by
 obtain ⟨⟨b0, b1, b2⟩, b3, b4, b5⟩ := h.blk.three
 have hle := h.le
 have hsm := h.small
 obtain ⟨t, ht⟩ : ∃ t, t = s.extract k s.size := ⟨_, rfl⟩
 have hT : t.data.toList = s.data.toList.drop k := by rw [ht]; exact Lib.extract_to_end s k
 have hts : t.size + k = s.size := by rw [ht]; simp; omega
 rw [← hT]
 have HT := hd hT
 have HTT := hd ht
 clear ht hT
 have hI1 : ∀ p, (w.drew.iter t p).cell? ⟨B, 1, none⟩ = some (.int .i64 (k : Int)) := fun p => (h.iter t p).blk.cell 1
 have hI2 : ∀ p, (w.drew.iter t p).frozen? ⟨B, 1, none⟩ = false := fun p => (h.iter t p).blk.free 1
 go_enter Tryz.func92, Tryz.ntmps92
 go_wp2
 go_region
 all_goals go_wp2
 rw [← HTT.out]
 go_loopw [6] (fun v wr => ∃ pos : Nat, v = .int .i64 (t.size : Int) ∧ wr = w.drew.iter t pos ∧ pos ≤ t.size ∧ Hid (Lx.cnt Lx.isDig t.data.toList = pos + Lx.cnt Lx.isDig (t.data.toList.drop pos))) (fun _ wr => t.size - wr.iterPos w.heap.size)
 case atStart => exact ⟨0, by rw [show s.size - k = t.size from by omega], rfl, by omega, by show _ = _; simp⟩
 case round =>
  obtain ⟨pos, rfl, rfl, hpos, HK⟩ := hrel
  by_cases hlt : pos < t.size
  · have hnx : ∀ ty, (Instr.next (.pointer (some ⟨w.heap.size, 0, none⟩)) true ty).run Tryz.prog (w.drew.iter t pos) = .ok (.tuple #[.bool true, .int .i64 pos, .int .i32 (Utf8.decode t pos).1]) (w.drew.iter t (pos + (Utf8.decode t pos).2)) := fun ty => run_next_any (P := Tryz.prog) w.drew t pos ty hlt
    cases hp : rDig ((Utf8.decode t pos).1 : Int)
    · have HN := hd (fits_dig.no t pos hlt hp)
      generalize (Utf8.decode t pos) = d at *
      obtain ⟨c, n⟩ := d
      go_wp2_with (go_at_call 157; refine (isDigit_any _ _).mono ?_; rintro e w' ⟨rfl, rfl⟩)
      go_ret
      have hc : Lx.cnt Lx.isDig t.data.toList = pos := by rw [HK.out, HN.out]; rfl
      rw [hc]
      refine ⟨_, rfl, ?_, (h.iter t (pos + n)).set1 (k + pos) (by omega), gbt (grownBy_iter w t (pos + n) B) (gbs _ B 1 _)⟩
      rw [Lib.extract_data]; simp
    have HY := hd (fits_dig.yes t pos hlt hp)
    generalize (Utf8.decode t pos) = d at *
    obtain ⟨c, n⟩ := d
    go_wp2_with (go_at_call 157; refine (isDigit_any _ _).mono ?_; rintro e w' ⟨rfl, rfl⟩)
    go_roundw
    case rel =>
     obtain ⟨y1, y2, y3⟩ := HY.out
     try simp only at y1 y2 y3
     exact ⟨pos + n, rfl, rfl, y2, by have h1 := HK.out; show _ = _; omega⟩
    case measure =>
     obtain ⟨y1, y2, y3⟩ := HY.out
     try simp only at y1 y2 y3
     show t.size - (w.drew.iter t (pos + n)).iterPos w.drew.heap.size < t.size - (w.drew.iter t pos).iterPos w.drew.heap.size
     rw [World.iterPos_iter, World.iterPos_iter]; omega
  have hnx : ∀ ty, (Instr.next (.pointer (some ⟨w.heap.size, 0, none⟩)) true ty).run Tryz.prog (w.drew.iter t pos) = .ok (.tuple #[.bool false]) (w.drew.iter t pos) := fun ty => run_next_end (P := Tryz.prog) w.drew t pos ty hlt
  go_wp2
  go_ret
  have hc : Lx.cnt Lx.isDig t.data.toList = t.size := by rw [HK.out, cnt_end Lx.isDig t pos (by omega)]; omega
  rw [hc]
  refine ⟨_, rfl, ?_, (h.iter t pos).set1 (k + t.size) (by omega), gbt (grownBy_iter w t pos B) (gbs _ B 1 _)⟩
  rw [List.take_of_length_le (by simp)]
theorem takeAll_isSpace (w : World) (B : Nat) (s : ByteArray) (k st : Nat) (h : Rd w B s k st) :
   Calls Tryz.prog 92 #[.pointer (some ⟨B, 0, none⟩), .func (.func 93) #[] #[]] w fun e w' => ∃ u : ByteArray, e = .returned (.string u) ∧ u.data.toList = (s.data.toList.drop k).take (Lx.cnt Lx.isSp (s.data.toList.drop k)) ∧ Rd w' B s (k + Lx.cnt Lx.isSp (s.data.toList.drop k)) st ∧ w.grownBy w' (some B) := by
 obtain ⟨⟨b0, b1, b2⟩, b3, b4, b5⟩ := h.blk.three
 have hle := h.le
 have hsm := h.small
 obtain ⟨t, ht⟩ : ∃ t, t = s.extract k s.size := ⟨_, rfl⟩
 have hT : t.data.toList = s.data.toList.drop k := by rw [ht]; exact Lib.extract_to_end s k
 have hts : t.size + k = s.size := by rw [ht]; simp; omega
 rw [← hT]
 have HT := hd hT
 have HTT := hd ht
 clear ht hT
 have hI1 : ∀ p, (w.drew.iter t p).cell? ⟨B, 1, none⟩ = some (.int .i64 (k : Int)) := fun p => (h.iter t p).blk.cell 1
 have hI2 : ∀ p, (w.drew.iter t p).frozen? ⟨B, 1, none⟩ = false := fun p => (h.iter t p).blk.free 1
 go_enter Tryz.func92, Tryz.ntmps92
 go_wp2
 go_region
 all_goals go_wp2
 rw [← HTT.out]
 go_loopw [6] (fun v wr => ∃ pos : Nat, v = .int .i64 (t.size : Int) ∧ wr = w.drew.iter t pos ∧ pos ≤ t.size ∧ Hid (Lx.cnt Lx.isSp t.data.toList = pos + Lx.cnt Lx.isSp (t.data.toList.drop pos))) (fun _ wr => t.size - wr.iterPos w.heap.size)
 case atStart => exact ⟨0, by rw [show s.size - k = t.size from by omega], rfl, by omega, by show _ = _; simp⟩
 case round =>
  obtain ⟨pos, rfl, rfl, hpos, HK⟩ := hrel
  by_cases hlt : pos < t.size
  · have hnx : ∀ ty, (Instr.next (.pointer (some ⟨w.heap.size, 0, none⟩)) true ty).run Tryz.prog (w.drew.iter t pos) = .ok (.tuple #[.bool true, .int .i64 pos, .int .i32 (Utf8.decode t pos).1]) (w.drew.iter t (pos + (Utf8.decode t pos).2)) := fun ty => run_next_any (P := Tryz.prog) w.drew t pos ty hlt
    cases hp : rSp ((Utf8.decode t pos).1 : Int)
    · have HN := hd (fits_sp.no t pos hlt hp)
      generalize (Utf8.decode t pos) = d at *
      obtain ⟨c, n⟩ := d
      go_wp2_with (go_at_call 93; refine (isSpace_any _ _).mono ?_; rintro e w' ⟨rfl, rfl⟩)
      go_ret
      have hc : Lx.cnt Lx.isSp t.data.toList = pos := by rw [HK.out, HN.out]; rfl
      rw [hc]
      refine ⟨_, rfl, ?_, (h.iter t (pos + n)).set1 (k + pos) (by omega), gbt (grownBy_iter w t (pos + n) B) (gbs _ B 1 _)⟩
      rw [Lib.extract_data]; simp
    have HY := hd (fits_sp.yes t pos hlt hp)
    generalize (Utf8.decode t pos) = d at *
    obtain ⟨c, n⟩ := d
    go_wp2_with (go_at_call 93; refine (isSpace_any _ _).mono ?_; rintro e w' ⟨rfl, rfl⟩)
    go_roundw
    case rel =>
     obtain ⟨y1, y2, y3⟩ := HY.out
     try simp only at y1 y2 y3
     exact ⟨pos + n, rfl, rfl, y2, by have h1 := HK.out; show _ = _; omega⟩
    case measure =>
     obtain ⟨y1, y2, y3⟩ := HY.out
     try simp only at y1 y2 y3
     show t.size - (w.drew.iter t (pos + n)).iterPos w.drew.heap.size < t.size - (w.drew.iter t pos).iterPos w.drew.heap.size
     rw [World.iterPos_iter, World.iterPos_iter]; omega
  have hnx : ∀ ty, (Instr.next (.pointer (some ⟨w.heap.size, 0, none⟩)) true ty).run Tryz.prog (w.drew.iter t pos) = .ok (.tuple #[.bool false]) (w.drew.iter t pos) := fun ty => run_next_end (P := Tryz.prog) w.drew t pos ty hlt
  go_wp2
  go_ret
  have hc : Lx.cnt Lx.isSp t.data.toList = t.size := by rw [HK.out, cnt_end Lx.isSp t pos (by omega)]; omega
  rw [hc]
  refine ⟨_, rfl, ?_, (h.iter t pos).set1 (k + t.size) (by omega), gbt (grownBy_iter w t pos B) (gbs _ B 1 _)⟩
  rw [List.take_of_length_le (by simp)]
theorem takeAll_inLine (w : World) (B : Nat) (s : ByteArray) (k st : Nat) (h : Rd w B s k st) :
   Calls Tryz.prog 92 #[.pointer (some ⟨B, 0, none⟩), .func (.func 95) #[] #[]] w fun e w' => ∃ u : ByteArray, e = .returned (.string u) ∧ u.data.toList = (s.data.toList.drop k).take (Lx.cnt Lx.notNl (s.data.toList.drop k)) ∧ Rd w' B s (k + Lx.cnt Lx.notNl (s.data.toList.drop k)) st ∧ w.grownBy w' (some B) := by
 obtain ⟨⟨b0, b1, b2⟩, b3, b4, b5⟩ := h.blk.three
 have hle := h.le
 have hsm := h.small
 obtain ⟨t, ht⟩ : ∃ t, t = s.extract k s.size := ⟨_, rfl⟩
 have hT : t.data.toList = s.data.toList.drop k := by rw [ht]; exact Lib.extract_to_end s k
 have hts : t.size + k = s.size := by rw [ht]; simp; omega
 rw [← hT]
 have HT := hd hT
 have HTT := hd ht
 clear ht hT
 have hI1 : ∀ p, (w.drew.iter t p).cell? ⟨B, 1, none⟩ = some (.int .i64 (k : Int)) := fun p => (h.iter t p).blk.cell 1
 have hI2 : ∀ p, (w.drew.iter t p).frozen? ⟨B, 1, none⟩ = false := fun p => (h.iter t p).blk.free 1
 go_enter Tryz.func92, Tryz.ntmps92
 go_wp2
 go_region
 all_goals go_wp2
 rw [← HTT.out]
 go_loopw [6] (fun v wr => ∃ pos : Nat, v = .int .i64 (t.size : Int) ∧ wr = w.drew.iter t pos ∧ pos ≤ t.size ∧ Hid (Lx.cnt Lx.notNl t.data.toList = pos + Lx.cnt Lx.notNl (t.data.toList.drop pos))) (fun _ wr => t.size - wr.iterPos w.heap.size)
 case atStart => exact ⟨0, by rw [show s.size - k = t.size from by omega], rfl, by omega, by show _ = _; simp⟩
 case round =>
  obtain ⟨pos, rfl, rfl, hpos, HK⟩ := hrel
  by_cases hlt : pos < t.size
  · have hnx : ∀ ty, (Instr.next (.pointer (some ⟨w.heap.size, 0, none⟩)) true ty).run Tryz.prog (w.drew.iter t pos) = .ok (.tuple #[.bool true, .int .i64 pos, .int .i32 (Utf8.decode t pos).1]) (w.drew.iter t (pos + (Utf8.decode t pos).2)) := fun ty => run_next_any (P := Tryz.prog) w.drew t pos ty hlt
    cases hp : rLine ((Utf8.decode t pos).1 : Int)
    · have HN := hd (fits_line.no t pos hlt hp)
      generalize (Utf8.decode t pos) = d at *
      obtain ⟨c, n⟩ := d
      go_wp2_with (go_at_call 95; refine (inLine_any _ _).mono ?_; rintro e w' ⟨rfl, rfl⟩)
      go_ret
      have hc : Lx.cnt Lx.notNl t.data.toList = pos := by rw [HK.out, HN.out]; rfl
      rw [hc]
      refine ⟨_, rfl, ?_, (h.iter t (pos + n)).set1 (k + pos) (by omega), gbt (grownBy_iter w t (pos + n) B) (gbs _ B 1 _)⟩
      rw [Lib.extract_data]; simp
    have HY := hd (fits_line.yes t pos hlt hp)
    generalize (Utf8.decode t pos) = d at *
    obtain ⟨c, n⟩ := d
    go_wp2_with (go_at_call 95; refine (inLine_any _ _).mono ?_; rintro e w' ⟨rfl, rfl⟩)
    go_roundw
    case rel =>
     obtain ⟨y1, y2, y3⟩ := HY.out
     try simp only at y1 y2 y3
     exact ⟨pos + n, rfl, rfl, y2, by have h1 := HK.out; show _ = _; omega⟩
    case measure =>
     obtain ⟨y1, y2, y3⟩ := HY.out
     try simp only at y1 y2 y3
     show t.size - (w.drew.iter t (pos + n)).iterPos w.drew.heap.size < t.size - (w.drew.iter t pos).iterPos w.drew.heap.size
     rw [World.iterPos_iter, World.iterPos_iter]; omega
  have hnx : ∀ ty, (Instr.next (.pointer (some ⟨w.heap.size, 0, none⟩)) true ty).run Tryz.prog (w.drew.iter t pos) = .ok (.tuple #[.bool false]) (w.drew.iter t pos) := fun ty => run_next_end (P := Tryz.prog) w.drew t pos ty hlt
  go_wp2
  go_ret
  have hc : Lx.cnt Lx.notNl t.data.toList = t.size := by rw [HK.out, cnt_end Lx.notNl t pos (by omega)]; omega
  rw [hc]
  refine ⟨_, rfl, ?_, (h.iter t pos).set1 (k + t.size) (by omega), gbt (grownBy_iter w t pos B) (gbs _ B 1 _)⟩
  rw [List.take_of_length_le (by simp)]
theorem takeAll_inWord (w : World) (B : Nat) (s : ByteArray) (k st : Nat) (h : Rd w B s k st) :
   Calls Tryz.prog 92 #[.pointer (some ⟨B, 0, none⟩), .func (.func 159) #[] #[]] w fun e w' => ∃ u : ByteArray, e = .returned (.string u) ∧ u.data.toList = (s.data.toList.drop k).take (Lx.cnt Lx.isWd (s.data.toList.drop k)) ∧ Rd w' B s (k + Lx.cnt Lx.isWd (s.data.toList.drop k)) st ∧ w.grownBy w' (some B) := by
 obtain ⟨⟨b0, b1, b2⟩, b3, b4, b5⟩ := h.blk.three
 have hle := h.le
 have hsm := h.small
 obtain ⟨t, ht⟩ : ∃ t, t = s.extract k s.size := ⟨_, rfl⟩
 have hT : t.data.toList = s.data.toList.drop k := by rw [ht]; exact Lib.extract_to_end s k
 have hts : t.size + k = s.size := by rw [ht]; simp; omega
 rw [← hT]
 have HT := hd hT
 have HTT := hd ht
 clear ht hT
 have hI1 : ∀ p, (w.drew.iter t p).cell? ⟨B, 1, none⟩ = some (.int .i64 (k : Int)) := fun p => (h.iter t p).blk.cell 1
 have hI2 : ∀ p, (w.drew.iter t p).frozen? ⟨B, 1, none⟩ = false := fun p => (h.iter t p).blk.free 1
 go_enter Tryz.func92, Tryz.ntmps92
 go_wp2
 go_region
 all_goals go_wp2
 rw [← HTT.out]
 go_loopw [6] (fun v wr => ∃ pos : Nat, v = .int .i64 (t.size : Int) ∧ wr = w.drew.iter t pos ∧ pos ≤ t.size ∧ Hid (Lx.cnt Lx.isWd t.data.toList = pos + Lx.cnt Lx.isWd (t.data.toList.drop pos))) (fun _ wr => t.size - wr.iterPos w.heap.size)
 case atStart => exact ⟨0, by rw [show s.size - k = t.size from by omega], rfl, by omega, by show _ = _; simp⟩
 case round =>
  obtain ⟨pos, rfl, rfl, hpos, HK⟩ := hrel
  by_cases hlt : pos < t.size
  · have hnx : ∀ ty, (Instr.next (.pointer (some ⟨w.heap.size, 0, none⟩)) true ty).run Tryz.prog (w.drew.iter t pos) = .ok (.tuple #[.bool true, .int .i64 pos, .int .i32 (Utf8.decode t pos).1]) (w.drew.iter t (pos + (Utf8.decode t pos).2)) := fun ty => run_next_any (P := Tryz.prog) w.drew t pos ty hlt
    cases hp : rWd ((Utf8.decode t pos).1 : Int)
    · have HN := hd (fits_wd.no t pos hlt hp)
      generalize (Utf8.decode t pos) = d at *
      obtain ⟨c, n⟩ := d
      go_wp2_with (go_at_call 159; refine (inWord_any _ _).mono ?_; rintro e w' ⟨rfl, rfl⟩)
      go_ret
      have hc : Lx.cnt Lx.isWd t.data.toList = pos := by rw [HK.out, HN.out]; rfl
      rw [hc]
      refine ⟨_, rfl, ?_, (h.iter t (pos + n)).set1 (k + pos) (by omega), gbt (grownBy_iter w t (pos + n) B) (gbs _ B 1 _)⟩
      rw [Lib.extract_data]; simp
    have HY := hd (fits_wd.yes t pos hlt hp)
    generalize (Utf8.decode t pos) = d at *
    obtain ⟨c, n⟩ := d
    go_wp2_with (go_at_call 159; refine (inWord_any _ _).mono ?_; rintro e w' ⟨rfl, rfl⟩)
    go_roundw
    case rel =>
     obtain ⟨y1, y2, y3⟩ := HY.out
     try simp only at y1 y2 y3
     exact ⟨pos + n, rfl, rfl, y2, by have h1 := HK.out; show _ = _; omega⟩
    case measure =>
     obtain ⟨y1, y2, y3⟩ := HY.out
     try simp only at y1 y2 y3
     show t.size - (w.drew.iter t (pos + n)).iterPos w.drew.heap.size < t.size - (w.drew.iter t pos).iterPos w.drew.heap.size
     rw [World.iterPos_iter, World.iterPos_iter]; omega
  have hnx : ∀ ty, (Instr.next (.pointer (some ⟨w.heap.size, 0, none⟩)) true ty).run Tryz.prog (w.drew.iter t pos) = .ok (.tuple #[.bool false]) (w.drew.iter t pos) := fun ty => run_next_end (P := Tryz.prog) w.drew t pos ty hlt
  go_wp2
  go_ret
  have hc : Lx.cnt Lx.isWd t.data.toList = t.size := by rw [HK.out, cnt_end Lx.isWd t pos (by omega)]; omega
  rw [hc]
  refine ⟨_, rfl, ?_, (h.iter t pos).set1 (k + t.size) (by omega), gbt (grownBy_iter w t pos B) (gbs _ B 1 _)⟩
  rw [List.take_of_length_le (by simp)]
def opsRow : List (Nat × Lx.Bs × Nat) → List Value
 | [] => []
 | (l, s, k) :: r => [.int .i64 (k : Int), .string ⟨s.toArray⟩, .int .i64 (l : Int)] ++ opsRow r
structure EnvP (w : World) : Prop where
 env : Env w
 ops : ∃ t fr, w.heap[4]? = some (.cells (opsRow Px.opTab).toArray t fr)
 rng : ∃ te pe, w.cell? ⟨9, 0, none⟩ = some (.iface te pe)
theorem EnvP.grown {w w' : World} {B : Nat} (h : EnvP w) (hg : w.grownBy w' (some B)) (hB : 12 ≤ B) : EnvP w' := by
 have hr := h.env.room
 have hb : ∀ k, k < 12 → w'.heap[k]? = w.heap[k]? := fun k hk => hg.block k (by omega) (by simp; omega)
 refine ⟨h.env.grown hg hB, ?_, ?_⟩
 · rw [hb _ (by simp)]; exact h.ops
 rw [World.cell?_of_block (w := w) (hb _ (by simp))]; exact h.rng
theorem EnvP.below {w w' : World} (h : EnvP w) (hb : Below w.heap.size w w') : EnvP w' := h.grown (B := w.heap.size) (Below.grownBy hb) h.env.room
structure Cs (w : World) (B : Nat) (lv : Value) (ts : List Lx.Tok) (sz k : Nat) (dp : Bool) : Prop where
 blk : Blk w B #[lv, .int .i64 (k : Int), .int .i64 (sz : Int), .bool dp] 112
 own : ∃ b, w.ownsRow b 41 3 lv ts.length (toksV ts)
 ne : lv.ownBlock ≠ some B
 toks : ∀ t ∈ ts, Lx.TokOk t ∧ Px.SgnOk t ∧ t.pos ≤ 2000 ∧ t.text.length ≤ 2000
 len : ts.length ≤ 2000
 size : sz ≤ 2000
 le : k ≤ ts.length
 env : EnvP w
 low : 12 ≤ B
theorem Cs.kept {w w' : World} {B : Nat} {lv : Value} {ts : List Lx.Tok} {sz k k' : Nat} {dp dp' : Bool} (h : Cs w B lv ts sz k dp) (hg : w.grownBy w' (some B)) (hb : Blk w' B #[lv, .int .i64 (k' : Int), .int .i64 (sz : Int), .bool dp'] 112) (hk : k' ≤ ts.length) : Cs w' B lv ts sz k' dp' := by
 obtain ⟨b, ho⟩ := h.own
 refine ⟨hb, ⟨b, ho.kept hg ?_⟩, h.ne, h.toks, h.len, h.size, hk, h.env.grown hg h.low, h.low⟩
 cases hv : lv.ownBlock with
 | none => simp
 | some g => right; intro e; exact h.ne (by rw [hv, e])
theorem Cs.below {w w' : World} {B : Nat} {lv : Value} {ts : List Lx.Tok} {sz k : Nat} {dp : Bool} (h : Cs w B lv ts sz k dp) (hb : Below w.heap.size w w') : Cs w' B lv ts sz k dp := by
 obtain ⟨b, ho⟩ := h.own
 exact ⟨h.blk.below hb h.blk.lt, ⟨b, obw ho hb⟩, h.ne, h.toks, h.len, h.size, h.le, h.env.below hb, h.low⟩
theorem Cs.setAt {w : World} {B : Nat} {lv : Value} {ts : List Lx.Tok} {sz k : Nat} {dp : Bool} (h : Cs w B lv ts sz k dp) (j : Nat) (hj : j ≤ ts.length) : Cs (w.setCell ⟨B, 1, none⟩ (.int .i64 (j : Int))) B lv ts sz j dp :=
 h.kept (gbs w B 1 _) (h.blk.set 1 _) hj
theorem Cs.setDeep {w : World} {B : Nat} {lv : Value} {ts : List Lx.Tok} {sz k : Nat} {dp : Bool} (h : Cs w B lv ts sz k dp) : Cs (w.setCell ⟨B, 3, none⟩ (.bool true)) B lv ts sz k true :=
 h.kept (gbs w B 3 _) (h.blk.set 3 _) h.le
theorem Cs.cells {w : World} {B : Nat} {lv : Value} {ts : List Lx.Tok} {sz k : Nat} {dp : Bool} (h : Cs w B lv ts sz k dp) :
   w.cell? ⟨B, 0, none⟩ = some lv ∧ w.cell? ⟨B, 1, none⟩ = some (.int .i64 (k : Int)) ∧ w.cell? ⟨B, 2, none⟩ = some (.int .i64 (sz : Int)) ∧ w.cell? ⟨B, 3, none⟩ = some (.bool dp) :=
 ⟨h.blk.cell 0, h.blk.cell 1, h.blk.cell 2, h.blk.cell 3⟩
def Cx (w : World) (B : Nat) (lv : Value) (ts : List Lx.Tok) (sz : Nat) (q : List Lx.Tok) (dp : Bool) : Prop := ∃ k, q = ts.drop k ∧ Cs w B lv ts sz k dp
theorem Cx.below {w w' : World} {B : Nat} {lv : Value} {ts : List Lx.Tok} {sz : Nat} {q : List Lx.Tok} {dp : Bool} (h : Cx w B lv ts sz q dp) (hb : Below w.heap.size w w') : Cx w' B lv ts sz q dp := by
 obtain ⟨k, h1, h2⟩ := h
 exact ⟨k, h1, h2.below hb⟩
def pk (sz : Nat) : List Lx.Tok → Lx.Tok
 | [] => ⟨0, [], sz⟩
 | t :: _ => t
theorem pk_drop (ts : List Lx.Tok) (sz k : Nat) : pk sz (ts.drop k) = hereT ts sz k := by
 unfold hereT
 by_cases hk : k < ts.length
 · rw [List.drop_eq_getElem_cons hk]
   simp [pk, hk]
 rw [List.drop_eq_nil_of_le (by omega)]
 simp [pk, hk]
theorem plc_pk (sz : Nat) (q : List Lx.Tok) : Px.plc sz q = (pk sz q).pos := by cases q <;> rfl
theorem sees_pk (s : Lx.Bs) (sz : Nat) (q : List Lx.Tok) : Px.sees s q = ((decide ((pk sz q).kind = 50) || decide ((pk sz q).kind = 51)) && (pk sz q).text == s) := by cases q <;> rfl
def Flt (p c : Nat) : Ending := .panicked [{ v := .iface 70 (.agg #[.int .i64 (p : Int), .int .i64 (c : Int)]), recovered := false }]
theorem Cs.tok {w : World} {B : Nat} {lv : Value} {ts : List Lx.Tok} {sz k : Nat} {dp : Bool} (h : Cs w B lv ts sz k dp) : ∃ ao cap, lv = .slice ao ts.length cap ∧
   ∀ k, (hk : k < ts.length) → ∃ g, ao = some ⟨g, 0, none⟩ ∧ g < w.heap.size ∧ w.cell? ⟨g, k * 3, none⟩ = some (.int .i64 (ts[k].kind : Int)) ∧ w.cell? ⟨g, k * 3 + 1, none⟩ = some (.string ⟨ts[k].text.toArray⟩) ∧ w.cell? ⟨g, k * 3 + 2, none⟩ = some (.int .i64 (ts[k].pos : Int)) := by
 obtain ⟨b, ho⟩ := h.own
 have ho2 := ho.2
 rcases ho2 with ⟨rfl, hn⟩ | ⟨g, cap, cur, rfl, hb, hg, h1, h2, h3, h4⟩
 · exact ⟨none, 0, by rw [hn], fun k hk => by omega⟩
 refine ⟨some ⟨g, 0, none⟩, cap, rfl, fun k hk => ⟨g, rfl, ?_⟩⟩
 have hc := ho.cells (g := g) rfl
 obtain ⟨q0, q1, q2⟩ := toksV_nth ts k hk
 have a0 := hc _ _ q0
 have a1 := hc _ _ q1
 have a2 := hc _ _ q2
 simp only [Addr.add_lit, Nat.zero_add] at a0 a1 a2
 exact ⟨(Array.getElem?_eq_some_iff.1 hg).1, a0, a1, a2⟩
theorem c_peek_at (w : World) (B : Nat) (lv : Value) (ts : List Lx.Tok) (sz k : Nat) (dp : Bool) (h : Cs w B lv ts sz k dp) :
   Calls Tryz.prog 91 #[.pointer (some ⟨B, 0, none⟩)] w fun x w' => x = .returned (tokA (hereT ts sz k)) ∧ Below w.heap.size w w' := by
 obtain ⟨c0, c1, c2, c3⟩ := h.cells
 obtain ⟨ao, cap, rfl, hk⟩ := h.tok
 have hle := h.le
 have hlen := h.len
 have hB := h.blk.lt
 by_cases hlt : k < ts.length
 · obtain ⟨g, rfl, hg, k0, k1, k2⟩ := hk k hlt
   have e1 : hereT ts sz k = ts[k] := by simp [hereT, hlt]
   rw [e1]
   generalize ts[k] = t at *
   clear hk e1 h
   go_enter Tryz.func91, Tryz.ntmps91
   go_wp2
   go_region
   all_goals go_wp2
   all_goals go_region
   all_goals go_wp2
   refine bodyPost_ret (v := tokA t) (by simp [results, Tryz.results91, go_sem, tokA]) rfl ⟨rfl, by go_grown⟩
 have e1 : hereT ts sz k = ⟨0, [], sz⟩ := by simp [hereT, hlt]
 rw [e1]
 clear hk e1 h
 go_enter Tryz.func91, Tryz.ntmps91
 go_wp2
 go_region
 all_goals go_wp2
 refine bodyPost_ret (v := tokA ⟨0, [], sz⟩) (by simp [results, Tryz.results91, go_sem, tokA]) rfl ⟨rfl, by go_grown⟩
theorem c_peek_any (w : World) (B : Nat) (lv : Value) (ts : List Lx.Tok) (sz : Nat) (q : List Lx.Tok) (dp : Bool) (h : Cx w B lv ts sz q dp) :
   Calls Tryz.prog 91 #[.pointer (some ⟨B, 0, none⟩)] w fun x w' => x = .returned (tokA (pk sz q)) ∧ Below w.heap.size w w' := by
 obtain ⟨k, rfl, h⟩ := h
 rw [pk_drop]
 exact c_peek_at w B lv ts sz k dp h
theorem fld0 (a b c : Value) (w : World) : (Instr.field 41 (.agg #[a, b, c]) 0).run Tryz.prog w = .ok a w := by kernel_rfl
theorem fld1 (a b c : Value) (w : World) : (Instr.field 41 (.agg #[a, b, c]) 1).run Tryz.prog w = .ok b w := by kernel_rfl
theorem fld2 (a b c : Value) (w : World) : (Instr.field 41 (.agg #[a, b, c]) 2).run Tryz.prog w = .ok c w := by kernel_rfl
theorem c_fail_any (w : World) (v : Value) (p c : Nat) :
   Calls Tryz.prog 90 #[v, .int .i64 (p : Int), .int .i64 (c : Int)] w fun e w' => e = Flt p c ∧ w' = w := by
 go_enter Tryz.func90, Tryz.ntmps90
 go_wp2
 exact ⟨rfl, rfl, rfl⟩
theorem c_must_yes (w : World) (v : Value) : Calls Tryz.prog 54 #[v, .bool true] w fun e w' => e = .returned (.tuple #[]) ∧ w' = w := by
 go_enter Tryz.func54, Tryz.ntmps54
 go_wp2_with fail
 go_end0
 exact ⟨rfl, rfl⟩
theorem c_must_at (w : World) (B : Nat) (lv : Value) (ts : List Lx.Tok) (sz : Nat) (q : List Lx.Tok) (dp : Bool) (h : Cx w B lv ts sz q dp) (tk : Nat) (tt : Lx.Bs) (tp : Nat) (ht : pk sz q = ⟨tk, tt, tp⟩) :
   Calls Tryz.prog 54 #[.pointer (some ⟨B, 0, none⟩), .bool false] w fun e w' => e = Flt tp 4 ∧ Below w.heap.size w w' := by
 have HT := hd ht
 clear ht
 have hf2 := fld2
 go_enter Tryz.func54, Tryz.ntmps54
 go_wp2_with fail
 refine (c_peek_any w B lv ts sz q dp h).mono ?_
 rintro x w1 ⟨rfl, hb⟩
 rw [HT.out]
 unfold tokA
 simp only
 go_wp2_with fail
 refine (c_fail_any w1 _ tp 4).mono ?_
 rintro x w2 ⟨rfl, rfl⟩
 exact ⟨rfl, rfl, hb⟩
theorem c_must_no (w : World) (B : Nat) (lv : Value) (ts : List Lx.Tok) (sz : Nat) (q : List Lx.Tok) (dp : Bool) (h : Cx w B lv ts sz q dp) :
   Calls Tryz.prog 54 #[.pointer (some ⟨B, 0, none⟩), .bool false] w fun e w' => e = Flt (Px.plc sz q) 4 ∧ Below w.heap.size w w' := by
 rw [plc_pk]
 rcases ht : pk sz q with ⟨tk, tt, tp⟩
 exact c_must_at w B lv ts sz q dp h tk tt tp ht
def fixT (t : Lx.Tok) : Lx.Bs := if t.kind = 50 ∨ t.kind = 51 then t.text else []
theorem c_fixed_at (w : World) (B : Nat) (lv : Value) (ts : List Lx.Tok) (sz : Nat) (q : List Lx.Tok) (dp : Bool) (h : Cx w B lv ts sz q dp) (tk : Nat) (tt : Lx.Bs) (tp : Nat) (ht : pk sz q = ⟨tk, tt, tp⟩) :
   Calls Tryz.prog 140 #[.pointer (some ⟨B, 0, none⟩)] w fun x w' => x = .returned (.string ⟨(fixT ⟨tk, tt, tp⟩).toArray⟩) ∧ Below w.heap.size w w' := by
 have HT := hd ht
 clear ht
 unfold fixT
 go_enter Tryz.func140, Tryz.ntmps140
 go_wp2_with fail
 refine (c_peek_any w B lv ts sz q dp h).mono ?_
 rintro x w1 ⟨rfl, hb⟩
 rw [HT.out]
 unfold tokA
 simp only
 have hs := hb.size
 by_cases h50 : tk = 50
 · subst h50
   go_wp2
   go_ret
   exact ⟨rfl, by go_grown⟩
 have h1 : ((tk : Int) == 50) = false := by rw [beq_eq_false_iff_ne]; omega
 by_cases h51 : tk = 51
 · subst h51
   go_wp2
   go_ret
   exact ⟨rfl, by go_grown⟩
 have h2 : ((tk : Int) == 51) = false := by rw [beq_eq_false_iff_ne]; omega
 go_wp2
 go_ret
 exact ⟨by simp [h50, h51], by go_grown⟩
theorem c_fixed_any (w : World) (B : Nat) (lv : Value) (ts : List Lx.Tok) (sz : Nat) (q : List Lx.Tok) (dp : Bool) (h : Cx w B lv ts sz q dp) :
   Calls Tryz.prog 140 #[.pointer (some ⟨B, 0, none⟩)] w fun x w' => x = .returned (.string ⟨(fixT (pk sz q)).toArray⟩) ∧ Below w.heap.size w w' := by
 rcases ht : pk sz q with ⟨tk, tt, tp⟩
 exact c_fixed_at w B lv ts sz q dp h tk tt tp ht
theorem fix_sees {s : Lx.Bs} (hs : s ≠ []) (sz : Nat) (q : List Lx.Tok) : (fixT (pk sz q) = s) ↔ Px.sees s q = true := by
 rw [sees_pk s sz q]
 rcases pk sz q with ⟨tk, tt, tp⟩
 unfold fixT
 simp only [Bool.and_eq_true, Bool.or_eq_true, decide_eq_true_eq, beq_iff_eq]
 by_cases h : tk = 50 ∨ tk = 51
 · rw [if_pos h]; exact ⟨fun e => ⟨h, e⟩, fun e => e.2⟩
 rw [if_neg h]; exact ⟨fun e => absurd e.symm hs, fun e => absurd e.1 h⟩
theorem Cx.next {w : World} {B : Nat} {lv : Value} {ts : List Lx.Tok} {sz : Nat} {q : List Lx.Tok} {dp : Bool} (h : Cx w B lv ts sz q dp) (hq : q ≠ []) : ∃ k : Nat, k ≤ 2000 ∧ w.cell? ⟨B, 1, none⟩ = some (.int .i64 (k : Int)) ∧ w.frozen? ⟨B, 1, none⟩ = false ∧
   Cx (w.setCell ⟨B, 1, none⟩ (.int .i64 ((k : Int) + 1))) B lv ts sz q.tail dp := by
 obtain ⟨k, rfl, h⟩ := h
 have hk : k < ts.length := by
  apply Decidable.byContradiction
  intro hn
  exact hq (List.drop_eq_nil_of_le (by omega))
 have := h.len
 refine ⟨k, by omega, h.cells.2.1, h.blk.free 1, k + 1, by rw [List.tail_drop], ?_⟩
 have := h.setAt (k + 1) (by omega)
 rwa [show (((k + 1 : Nat) : Nat) : Int) = (k : Int) + 1 by omega] at this
theorem Cx.lt {w : World} {B : Nat} {lv : Value} {ts : List Lx.Tok} {sz : Nat} {q : List Lx.Tok} {dp : Bool} (h : Cx w B lv ts sz q dp) : B < w.heap.size := by
 obtain ⟨k, _, h⟩ := h
 exact h.blk.lt
theorem cay (s : ByteArray) (w : World) (B : Nat) (lv : Value) (ts : List Lx.Tok) (sz : Nat) (q : List Lx.Tok) (dp : Bool) (h : Cx w B lv ts sz q dp) (hs : Px.sees s.data.toList q = true) (hne : s.data.toList ≠ []) :
   Calls Tryz.prog 82 #[.pointer (some ⟨B, 0, none⟩), .string s] w fun x w' => x = .returned (.bool true) ∧ Cx w' B lv ts sz q.tail dp ∧ w.grownBy w' (some B) := by
 have hq : q ≠ [] := by rintro rfl; cases hs
 have hf : (⟨(fixT (pk sz q)).toArray⟩ : ByteArray) = s := by
  rw [(fix_sees hne sz q).2 hs]
 go_enter Tryz.func82, Tryz.ntmps82
 go_wp2_with fail
 refine (c_fixed_any w B lv ts sz q dp h).mono ?_
 rintro x w1 ⟨rfl, hb⟩
 rw [hf]
 clear hf hs hne
 obtain ⟨k, hk, c1, f1, hn⟩ := (h.below hb).next hq
 have HN := hd hn
 have HB := hd hb
 clear hb hn h
 go_wp2
 go_ret
 exact ⟨rfl, HN.out, gbt (Below.grownBy HB.out) (gbs w1 B 1 _)⟩
theorem cano (s : ByteArray) (w : World) (B : Nat) (lv : Value) (ts : List Lx.Tok) (sz : Nat) (q : List Lx.Tok) (dp : Bool) (h : Cx w B lv ts sz q dp) (hs : Px.sees s.data.toList q = false) (hne : s.data.toList ≠ []) :
   Calls Tryz.prog 82 #[.pointer (some ⟨B, 0, none⟩), .string s] w fun x w' => x = .returned (.bool false) ∧ Below w.heap.size w w' := by
 have hf : ((⟨(fixT (pk sz q)).toArray⟩ : ByteArray).toList == s.toList) = false := by
  rw [beq_eq_false_iff_ne, Lib.toList_data, Lib.toList_data]
  intro e
  rw [(fix_sees hne sz q).1 e] at hs
  cases hs
 go_enter Tryz.func82, Tryz.ntmps82
 go_wp2_with fail
 refine (c_fixed_any w B lv ts sz q dp h).mono ?_
 rintro x w1 ⟨rfl, hb⟩
 generalize (⟨(fixT (pk sz q)).toArray⟩ : ByteArray) = f at *
 clear hs hne h
 go_wp2
 go_ret
 exact ⟨rfl, hb⟩
theorem c_expect_yes (s : ByteArray) (w : World) (B g : Nat) (lv : Value) (ts : List Lx.Tok) (sz : Nat) (q : List Lx.Tok) (dp : Bool) (h : Cx w B lv ts sz q dp) (hs : Px.sees s.data.toList q = true) (hne : s.data.toList ≠ []) (hv : w.cell? ⟨g, 0, none⟩ = some (.string s)) :
   Calls Tryz.prog 84 #[.pointer (some ⟨B, 0, none⟩), .slice (some ⟨g, 0, none⟩) 1 1] w fun x w' => x = .returned (.tuple #[]) ∧ Cx w' B lv ts sz q.tail dp ∧ w.grownBy w' (some B) := by
 have HS := hd hs
 have HN := hd hne
 clear hs hne
 go_enter Tryz.func84, Tryz.ntmps84
 go_wp2_with fail
 refine wp_loop_rounds 2 ?_
 rw [rounds_succ]
 go_wp2_with fail
 refine (cay s w B lv ts sz q dp h HS.out HN.out).mono ?_
 rintro x w1 ⟨rfl, hx, hg⟩
 go_wp2_with fail
 refine (c_must_yes w1 _).mono ?_
 rintro x w2 ⟨rfl, rfl⟩
 go_wp2_with fail
 rw [rounds_succ]
 go_wp2_with fail
 go_end0
 exact ⟨rfl, hx, hg⟩
theorem c_expect_no (s : ByteArray) (w : World) (B g : Nat) (lv : Value) (ts : List Lx.Tok) (sz : Nat) (q : List Lx.Tok) (dp : Bool) (h : Cx w B lv ts sz q dp) (hs : Px.sees s.data.toList q = false) (hne : s.data.toList ≠ []) (hv : w.cell? ⟨g, 0, none⟩ = some (.string s)) :
   Calls Tryz.prog 84 #[.pointer (some ⟨B, 0, none⟩), .slice (some ⟨g, 0, none⟩) 1 1] w fun x w' => x = Flt (Px.plc sz q) 4 ∧ Below w.heap.size w w' := by
 have HS := hd hs
 have HN := hd hne
 clear hs hne
 go_enter Tryz.func84, Tryz.ntmps84
 go_wp2_with fail
 refine wp_loop_rounds 1 ?_
 rw [rounds_succ]
 go_wp2_with fail
 refine (cano s w B lv ts sz q dp h HS.out HN.out).mono ?_
 rintro x w1 ⟨rfl, hb⟩
 go_wp2_with fail
 refine (c_must_no w1 B lv ts sz q dp (h.below hb)).mono ?_
 rintro x w2 ⟨rfl, hb2⟩
 exact ⟨rfl, rfl, hb.trans (hb2.mono hb.size)⟩
theorem gaw {w w1 : World} {row : Option Nat} (h : w.grownBy w1 row) {M : Nat} (hM : w.heap.size ≤ M) (i : Nat) (v : Value) : w.grownBy (w1.setCell ⟨M, i, none⟩ v) row :=
 ⟨h.os, h.tape, h.output, by simpa [World.setCell] using h.size, fun k hk hne => by rw [Below.heap_setCell _ _ _ _ (by show k ≠ M; omega)]; exact h.block k hk hne⟩
theorem Cx.step {w w' : World} {B : Nat} {lv : Value} {ts : List Lx.Tok} {sz : Nat} {q : List Lx.Tok} {dp dp' : Bool} (h : Cx w B lv ts sz q dp) (hg : w.grownBy w' (some B)) (hq : q ≠ []) (k : Nat) (hc : w.cell? ⟨B, 1, none⟩ = some (.int .i64 (k : Int))) (hb : Blk w' B #[lv, .int .i64 ((k : Int) + 1), .int .i64 (sz : Int), .bool dp'] 112) : Cx w' B lv ts sz q.tail dp' := by
 obtain ⟨j, rfl, h⟩ := h
 have e : (j : Int) = k := by
  have := h.cells.2.1
  rw [this] at hc
  simpa using hc
 have hk : j < ts.length := by
  apply Decidable.byContradiction
  intro hn
  exact hq (List.drop_eq_nil_of_le (by omega))
 refine ⟨j + 1, by rw [List.tail_drop], h.kept (k' := j + 1) hg ?_ (by omega)⟩
 rw [show ((j + 1 : Nat) : Int) = (k : Int) + 1 by omega]
 exact hb
theorem Cx.blk {w : World} {B : Nat} {lv : Value} {ts : List Lx.Tok} {sz : Nat} {q : List Lx.Tok} {dp : Bool} (h : Cx w B lv ts sz q dp) : ∃ k : Nat, k ≤ 2000 ∧ Blk w B #[lv, .int .i64 (k : Int), .int .i64 (sz : Int), .bool dp] 112 := by
 obtain ⟨k, _, h⟩ := h
 exact ⟨k, Nat.le_trans h.le h.len, h.blk⟩
theorem c_take_yes (w : World) (B : Nat) (lv : Value) (ts : List Lx.Tok) (sz : Nat) (tk : Nat) (tt : Lx.Bs) (tp : Nat) (q : List Lx.Tok) (dp : Bool) (h : Cx w B lv ts sz (⟨tk, tt, tp⟩ :: q) dp) (kd : Nat) (hk : tk = kd) :
   Calls Tryz.prog 144 #[.pointer (some ⟨B, 0, none⟩), .int .i64 (kd : Int)] w fun x w' => x = .returned (tokA ⟨tk, tt, tp⟩) ∧ Cx w' B lv ts sz q dp ∧ w.grownBy w' (some B) := by
 subst hk
 obtain ⟨k, hk2, hblk⟩ := h.blk
 have HX := hd h
 have hlt := h.lt
 clear h
 go_enter Tryz.func144, Tryz.ntmps144
 go_wp2_with fail
 refine (c_peek_any _ B lv ts sz _ dp (HX.out.below ((Below.refl _ _).alloc (nlr _) _))).mono ?_
 rintro x w1 ⟨rfl, hb⟩
 have hs := hb.size
 have hb0 : Below w.heap.size w w1 := ((Below.refl _ _).alloc (nlr _) _).trans (hb.mono (by simp))
 have K4 := (Blk.new w #[.int .i64 0, .string ⟨#[]⟩, .int .i64 0] 41).below hb (by simp)
 simp only [World.size_alloc] at hs
 unfold tokA pk
 simp only
 go_wp2_with fail
 refine (c_must_yes _ _).mono ?_
 rintro x w2 ⟨rfl, hw⟩
 have hb2 : Below w.heap.size w w2 := by subst hw; exact hb0.alloc (by omega) _
 have KB := hblk.below hb2 hlt
 have KN : Blk w2 w1.heap.size #[.int .i64 (tk : Int), .string ⟨tt.toArray⟩, .int .i64 (tp : Int)] 41 := by subst hw; exact Blk.new _ _ _
 have K4' : Blk w2 w.heap.size #[.int .i64 0, .string ⟨#[]⟩, .int .i64 0] 41 := by subst hw; exact K4.alloc _
 clear hw K4 hb hb0
 have c1 : w2.cell? ⟨B, 1, none⟩ = some (.int .i64 (k : Int)) := KB.cell 1
 have f1 := KB.free 1
 have n0 : w2.cell? ⟨w1.heap.size, 0, none⟩ = some (.int .i64 (tk : Int)) := KN.cell 0
 have n1 : w2.cell? ⟨w1.heap.size, 1, none⟩ = some (.string ⟨tt.toArray⟩) := KN.cell 1
 have n2 : w2.cell? ⟨w1.heap.size, 2, none⟩ = some (.int .i64 (tp : Int)) := KN.cell 2
 have m0 : w2.cell? ⟨w.heap.size, 0, none⟩ = some (.int .i64 0) := K4'.cell 0
 have m1 : w2.cell? ⟨w.heap.size, 1, none⟩ = some (.string ⟨#[]⟩) := K4'.cell 1
 have m2 : w2.cell? ⟨w.heap.size, 2, none⟩ = some (.int .i64 0) := K4'.cell 2
 have g0 := K4'.free 0
 have g1 := K4'.free 1
 have g2 := K4'.free 2
 have d1 : ¬ B = w1.heap.size := by omega
 have d2 : ¬ w1.heap.size = B := by omega
 have d3 : ¬ B = w.heap.size := by omega
 have d4 : ¬ w.heap.size = B := by omega
 have d5 : ¬ w1.heap.size = w.heap.size := by omega
 have d6 : ¬ w.heap.size = w1.heap.size := by omega
 have HB2 := hd hb2
 have HKB := hd KB
 have HK4 := hd K4'
 clear KN K4' hb2 KB
 go_wp2
 have KF := (((HK4.out.far ⟨B, 1, none⟩ (.int .i64 ((k : Int) + 1)) d3).set 0 (.int .i64 (tk : Int))).set 1 (.string ⟨tt.toArray⟩)).set 2 (.int .i64 (tp : Int))
 have e0 := KF.cell 0
 have e1 := KF.cell 1
 have e2 := KF.cell 2
 simp at e0 e1 e2
 refine bodyPost_ret (v := tokA ⟨tk, tt, tp⟩) (by simp [results, Tryz.results144, go_sem, tokA, e0, e1, e2]) rfl ⟨rfl, ?_, ?_⟩
 · refine Cx.step (q := ⟨tk, tt, tp⟩ :: q) HX.out (gaw (gaw (gaw (gbt (Below.grownBy HB2.out) (gbs w2 B 1 _)) (nlr _) 0 _) (nlr _) 1 _) (nlr _) 2 _) (by simp) k (hblk.cell 1) ?_
   exact (((HKB.out.set 1 (.int .i64 ((k : Int) + 1))).far ⟨w.heap.size, 0, none⟩ _ d4).far ⟨w.heap.size, 1, none⟩ _ d4).far ⟨w.heap.size, 2, none⟩ _ d4
 exact gaw (gaw (gaw (gbt (Below.grownBy HB2.out) (gbs w2 B 1 _)) (nlr _) 0 _) (nlr _) 1 _) (nlr _) 2 _
theorem c_take_no (w : World) (B : Nat) (lv : Value) (ts : List Lx.Tok) (sz : Nat) (q : List Lx.Tok) (dp : Bool) (h : Cx w B lv ts sz q dp) (tk : Nat) (tt : Lx.Bs) (tp : Nat) (ht : pk sz q = ⟨tk, tt, tp⟩) (kd : Nat) (hk : tk ≠ kd) :
   Calls Tryz.prog 144 #[.pointer (some ⟨B, 0, none⟩), .int .i64 (kd : Int)] w fun x w' => x = Flt (Px.plc sz q) 4 ∧ Below w.heap.size w w' := by
 have HX := hd h
 have HT := hd ht
 have h0 : ((tk : Int) == (kd : Int)) = false := by rw [beq_eq_false_iff_ne]; omega
 clear h ht
 go_enter Tryz.func144, Tryz.ntmps144
 go_wp2_with fail
 refine (c_peek_any _ B lv ts sz _ dp (HX.out.below ((Below.refl _ _).alloc (nlr _) _))).mono ?_
 rintro x w1 ⟨rfl, hb⟩
 have hs := hb.size
 have hb0 : Below w.heap.size w w1 := ((Below.refl _ _).alloc (nlr _) _).trans (hb.mono (by simp))
 have HB0 := hd hb0
 clear hb hb0
 simp only [World.size_alloc] at hs
 rw [HT.out]
 unfold tokA
 simp only
 go_wp2_with fail
 refine (c_must_no _ B lv ts sz q dp (HX.out.below (HB0.out.alloc (by omega) _))).mono ?_
 rintro x w2 ⟨rfl, hb2⟩
 exact ⟨rfl, rfl, (HB0.out.alloc (by omega) _).trans (hb2.mono (by simp; omega))⟩
def OutF {α : Type} (B : Nat) (lv : Value) (ts : List Lx.Tok) (sz : Nat) (dp : Bool) (V : α → Value → World → Prop) (dv : α → Bool) (x : Ending) (w' : World) : Px.Res α → Prop
 | .error (p, c) => x = Flt p c
 | .ok (a, q') => ∃ v, x = .returned v ∧ V a v w' ∧ Cx w' B lv ts sz q' (dv a || dp)
def OutR {α : Type} (w : World) (B : Nat) (lv : Value) (ts : List Lx.Tok) (sz : Nat) (dp : Bool) (R : Px.Rg α) (q : List Lx.Tok) (V : α → Value → World → Prop) (dv : α → Bool) (x : Ending) (w' : World) : Prop :=
 w.grownBy w' (some B) ∧ ∃ r, R q r ∧ OutF B lv ts sz dp V dv x w' r
theorem OutR.err {α : Type} {w : World} {B : Nat} {lv : Value} {ts : List Lx.Tok} {sz : Nat} {dp : Bool} {R : Px.Rg α} {q : List Lx.Tok} {V : α → Value → World → Prop} {dv : α → Bool} {w' : World} {p c : Nat} (hg : w.grownBy w' (some B)) (h : R q (.error (p, c))) : OutR w B lv ts sz dp R q V dv (Flt p c) w' := ⟨hg, _, h, rfl⟩
theorem OutR.ok {α : Type} {w : World} {B : Nat} {lv : Value} {ts : List Lx.Tok} {sz : Nat} {dp : Bool} {R : Px.Rg α} {q : List Lx.Tok} {V : α → Value → World → Prop} {dv : α → Bool} {w' : World} {a : α} {q' : List Lx.Tok} {v : Value} (hg : w.grownBy w' (some B)) (h : R q (.ok (a, q'))) (hv : V a v w') (hx : Cx w' B lv ts sz q' (dv a || dp)) : OutR w B lv ts sz dp R q V dv (.returned v) w' := ⟨hg, _, h, v, rfl, hv, hx⟩
theorem OutR.cases {α : Type} {w : World} {B : Nat} {lv : Value} {ts : List Lx.Tok} {sz : Nat} {dp : Bool} {R : Px.Rg α} {q : List Lx.Tok} {V : α → Value → World → Prop} {dv : α → Bool} {x : Ending} {w' : World} (h : OutR w B lv ts sz dp R q V dv x w') :
   w.grownBy w' (some B) ∧ ((∃ p c, R q (.error (p, c)) ∧ x = Flt p c) ∨ ∃ a q' v, R q (.ok (a, q')) ∧ x = .returned v ∧ V a v w' ∧ Cx w' B lv ts sz q' (dv a || dp)) := by
 obtain ⟨hg, r, hr, hf⟩ := h
 refine ⟨hg, ?_⟩
 match r, hr, hf with
 | .error (p, c), hr, hf => exact .inl ⟨p, c, hr, hf⟩
 | .ok (a, q'), hr, ⟨v, h1, h2, h3⟩ => exact .inr ⟨a, q', v, hr, h1, h2, h3⟩
def strV (s : Lx.Bs) (v : Value) (_ : World) : Prop := v = .string ⟨s.toArray⟩
def numV (n : Nat) (v : Value) (_ : World) : Prop := v = .int .i64 (n : Int)
def unitV (_ : Unit) (v : Value) (_ : World) : Prop := v = .tuple #[]
def noDeep {α : Type} (_ : α) : Bool := false
theorem gba {w w1 : World} {row : Option Nat} (h : w.grownBy w1 row) (o : Obj) : w.grownBy (w1.alloc o) row :=
 ⟨h.os, h.tape, h.output, by have := h.size; simp; omega, fun k hk hne => by
  rw [← h.block k hk hne]
  exact heap_alloc_old w1 o (Nat.lt_of_lt_of_le hk h.size)⟩
theorem pk_cons {sz : Nat} {q : List Lx.Tok} {tk : Nat} {tt : Lx.Bs} {tp : Nat} (ht : pk sz q = ⟨tk, tt, tp⟩) (h0 : tk ≠ 0) : ∃ q', q = ⟨tk, tt, tp⟩ :: q' := by
 cases q with
 | nil => simp only [pk, Lx.Tok.mk.injEq] at ht; omega
 | cons t q' => simp only [pk] at ht; exact ⟨q', by rw [ht]⟩
theorem plc_tok {sz : Nat} {q : List Lx.Tok} {tk : Nat} {tt : Lx.Bs} {tp : Nat} (ht : pk sz q = ⟨tk, tt, tp⟩) : Px.plc sz q = tp := by rw [plc_pk, ht]
theorem c_expect_any (s : ByteArray) (w : World) (B g : Nat) (lv : Value) (ts : List Lx.Tok) (sz : Nat) (q : List Lx.Tok) (dp : Bool) (h : Cx w B lv ts sz q dp) (hne : s.data.toList ≠ []) (hv : w.cell? ⟨g, 0, none⟩ = some (.string s)) :
   Calls Tryz.prog 84 #[.pointer (some ⟨B, 0, none⟩), .slice (some ⟨g, 0, none⟩) 1 1] w (OutR w B lv ts sz dp (Px.mustR sz s.data.toList) q unitV noDeep) := by
 cases hs : Px.sees s.data.toList q with
 | true =>
  refine (c_expect_yes s w B g lv ts sz q dp h hs hne hv).mono ?_
  rintro x w' ⟨rfl, hx, hg⟩
  exact OutR.ok hg (by unfold Px.mustR Px.must; rw [if_pos hs]) rfl hx
 | false =>
  refine (c_expect_no s w B g lv ts sz q dp h hs hne hv).mono ?_
  rintro x w' ⟨rfl, hb⟩
  exact OutR.err (Below.grownBy hb) (by unfold Px.mustR Px.must; rw [if_neg (by simp [hs])])
theorem name_no {sz : Nat} {q : List Lx.Tok} {tk : Nat} {tt : Lx.Bs} {tp : Nat} (ht : pk sz q = ⟨tk, tt, tp⟩) (hk : tk ≠ 18) : Px.nameR sz q (.error (Px.plc sz q, 4)) := by
 unfold Px.nameR
 cases q with
 | nil => rfl
 | cons t q =>
  simp only [pk] at ht
  subst ht
  simp only [Px.name, Px.plc]
  rw [if_pos hk]
theorem c_name_any (w : World) (B : Nat) (lv : Value) (ts : List Lx.Tok) (sz : Nat) (q : List Lx.Tok) (dp : Bool) (h : Cx w B lv ts sz q dp) :
   Calls Tryz.prog 85 #[.pointer (some ⟨B, 0, none⟩)] w (OutR w B lv ts sz dp (Px.nameR sz) q strV noDeep) := by
 rcases ht : pk sz q with ⟨tk, tt, tp⟩
 by_cases hk : tk = 18
 · obtain ⟨q', rfl⟩ := pk_cons ht (by omega)
   have HX := hd h
   have HK := hd hk
   have hR : Px.nameR sz (⟨tk, tt, tp⟩ :: q') (if 30 < tt.length then .error (tp, 5) else .ok (tt, q')) := by
    unfold Px.nameR
    simp only [Px.name]
    rw [if_neg (by simpa using hk)]
    split <;> rfl
   have HR := hd hR
   clear h ht hk hR
   go_enter Tryz.func85, Tryz.ntmps85
   go_wp2_with fail
   refine (c_take_yes w B lv ts sz tk tt tp q' dp HX.out 18 HK.out).mono ?_
   rintro x w1 ⟨rfl, hx, hg⟩
   have HX1 := hd hx
   have HG1 := hd hg
   clear hx hg
   unfold tokA
   simp only
   by_cases hl : 30 < tt.length
   · have hl' : (30 : Int) < (tt.length : Int) := by omega
     go_wp2_with fail
     refine (c_fail_any _ _ tp 5).mono ?_
     rintro x w2 ⟨rfl, rfl⟩
     exact ⟨rfl, OutR.err (gba HG1.out _) (by have := HR.out; rwa [if_pos hl] at this)⟩
   have hl' : ¬ (30 : Int) < (tt.length : Int) := by omega
   go_wp2_with fail
   go_ret
   exact OutR.ok (gba HG1.out _) (by have := HR.out; rwa [if_neg hl] at this) rfl (HX1.out.below ((Below.refl _ _).alloc (nlr _) _))
 have HX := hd h
 have HN := hd (name_no ht hk)
 go_enter Tryz.func85, Tryz.ntmps85
 go_wp2_with fail
 refine (c_take_no w B lv ts sz q dp HX.out tk tt tp ht 18 hk).mono ?_
 rintro x w1 ⟨rfl, hb⟩
 exact ⟨rfl, OutR.err (Below.grownBy hb) HN.out⟩
theorem parse_digits : ∀ (l : Lx.Bs) (acc : Nat), (∀ c ∈ l, Lx.isDig c = true) → Px.dfold l acc ≤ 9223372036854775808 → Lib.parseUint10 acc l = .ok (Px.dfold l acc)
 | [], acc, _, _ => rfl
 | c :: l, acc, hd, hv => by
  rw [Px.dfold_cons] at hv ⊢
  have hc := hd c (by simp)
  simp only [Lx.isDig, decide_eq_true_eq] at hc
  have hge := Px.dfold_ge l (10 * acc + (c.toNat - 48))
  unfold Lib.parseUint10
  rw [if_pos hc, if_neg (by omega), if_neg (by omega), Nat.mul_comm acc 10]
  exact parse_digits l _ (fun x hx => hd x (by simp [hx])) hv
theorem atoi_digits {t : Lx.Bs} (hne : t ≠ []) (hd : ∀ c ∈ t, Lx.isDig c = true) (hv : Px.dval t ≤ 9223372036854775808) : Lib.atoiAll t = if Px.dval t = 9223372036854775808 then .range else .ok (Px.dval t : Int) := by
 cases t with
 | nil => exact absurd rfl hne
 | cons c r =>
  have hc := hd c (by simp)
  simp only [Lx.isDig, decide_eq_true_eq] at hc
  rw [Px.dval_fold] at hv ⊢
  have hp := parse_digits (c :: r) 0 hd hv
  simp only [Lib.atoiAll]
  rw [if_neg (by omega)]
  unfold Lib.parseMag
  rw [if_neg (by simp), hp]
  simp only
  have h45 : ¬ c.toNat = 45 := by omega
  by_cases he : Px.dfold (c :: r) 0 = 9223372036854775808
  · rw [if_pos ⟨h45, by omega⟩, if_pos he]
  rw [if_neg (by omega), if_neg (by omega), if_neg he, if_neg h45]
def numR (sz most : Nat) : Px.Rg Nat := fun ts r => match ts with
 | [] => r = .error (sz, 4)
 | t :: q => r = if t.kind ≠ 16 then .error (t.pos, 4) else if t.text = Lx.top ∨ most < Px.dval t.text then .error (t.pos, 3) else .ok (Px.dval t.text, q)
theorem num_no {sz most : Nat} {q : List Lx.Tok} {tk : Nat} {tt : Lx.Bs} {tp : Nat} (ht : pk sz q = ⟨tk, tt, tp⟩) (hk : tk ≠ 16) : numR sz most q (.error (Px.plc sz q, 4)) := by
 unfold numR
 cases q with
 | nil => rfl
 | cons t q =>
  simp only [pk] at ht
  subst ht
  simp only [Px.plc]
  rw [if_pos hk]
theorem top_iff {t : Lx.Bs} (hd : ∀ c ∈ t, Lx.isDig c = true) (ho : Lx.overTop t = false) : (Px.dval t = 9223372036854775808 ↔ t = Lx.top) ∧ Px.dval t ≤ 9223372036854775808 := by
 by_cases h : t = Lx.top
 · subst h; exact ⟨⟨fun _ => rfl, fun _ => Px.dval_topv⟩, by rw [Px.dval_topv]; omega⟩
 have := Px.dval_lt hd ho h
 exact ⟨⟨fun e => by omega, fun e => absurd e h⟩, by omega⟩
theorem Cx.tok {w : World} {B : Nat} {lv : Value} {ts : List Lx.Tok} {sz : Nat} {t : Lx.Tok} {q : List Lx.Tok} {dp : Bool} (h : Cx w B lv ts sz (t :: q) dp) : Lx.TokOk t ∧ Px.SgnOk t ∧ t.pos ≤ 2000 ∧ t.text.length ≤ 2000 := by
 obtain ⟨k, h1, h2⟩ := h
 exact h2.toks t (List.mem_of_mem_drop (by rw [← h1]; simp))
theorem Cx.env {w : World} {B : Nat} {lv : Value} {ts : List Lx.Tok} {sz : Nat} {q : List Lx.Tok} {dp : Bool} (h : Cx w B lv ts sz q dp) : EnvP w := by
 obtain ⟨k, h1, h2⟩ := h
 exact h2.env
theorem c_number_any (w : World) (B : Nat) (lv : Value) (ts : List Lx.Tok) (sz : Nat) (q : List Lx.Tok) (dp : Bool) (h : Cx w B lv ts sz q dp) (most : Nat) (hm : most ≤ 9223372036854775807) :
   Calls Tryz.prog 154 #[.pointer (some ⟨B, 0, none⟩), .int .i64 (most : Int)] w (OutR w B lv ts sz dp (numR sz most) q numV noDeep) := by
 rcases ht : pk sz q with ⟨tk, tt, tp⟩
 by_cases hk : tk = 16
 · obtain ⟨q', rfl⟩ := pk_cons ht (by omega)
   have HX := hd h
   have HK := hd hk
   obtain ⟨hok, _, _, hlen⟩ := h.tok
   obtain ⟨hne, hdig, hov⟩ := hok.digs hk
   simp only at hne hdig hov hlen
   obtain ⟨htop, hle⟩ := top_iff hdig hov
   have hat := atoi_digits hne hdig hle
   have hR : numR sz most (⟨tk, tt, tp⟩ :: q') (if tt = Lx.top ∨ most < Px.dval tt then .error (tp, 3) else .ok (Px.dval tt, q')) := by
    unfold numR
    simp only
    rw [if_neg (show ¬ (tk ≠ 16) from fun e => e hk)]
   have HR := hd hR
   have hsz : (⟨tt.toArray⟩ : ByteArray).size ≤ 2000 := by simpa [ByteArray.size] using hlen
   clear h ht hk hR hok hne hdig hov
   go_enter Tryz.func154, Tryz.ntmps154
   go_wp2_with fail
   refine (c_take_yes w B lv ts sz tk tt tp q' dp HX.out 16 HK.out).mono ?_
   rintro x w1 ⟨rfl, hx, hg⟩
   have HX1 := hd (hx.below ((Below.refl _ _).alloc (nlr _) (.cells #[.int .i64 (tk : Int), .string ⟨tt.toArray⟩, .int .i64 (tp : Int)] 41)))
   have HG1 := hd (gba hg (.cells #[.int .i64 (tk : Int), .string ⟨tt.toArray⟩, .int .i64 (tp : Int)] 41))
   have KN := Blk.new w1 #[.int .i64 (tk : Int), .string ⟨tt.toArray⟩, .int .i64 (tp : Int)] 41
   have HKN := hd KN
   clear hx hg KN
   unfold tokA
   simp only
   by_cases he : Px.dval tt = 9223372036854775808
   · rw [if_pos he] at hat
     obtain ⟨te, pe, hrng⟩ := HX1.out.env.rng
     have HA := hd ((Tryz.strconv_Atoi_range ⟨tt.toArray⟩ (by omega) hat _ _ hrng (.inr ⟨te, pe, rfl⟩)))
     clear hat hrng
     go_wp2_with fail
     refine HA.out.mono ?_
     rintro x w2 ⟨N, rfl, hN, _, hb⟩
     have KN2 := HKN.out.below hb (by simp)
     have n2 : w2.cell? ⟨w1.heap.size, 2, none⟩ = some (.int .i64 (tp : Int)) := KN2.cell 2
     have HB := hd hb
     clear hb KN2
     go_wp2_with fail
     refine (c_fail_any _ _ tp 3).mono ?_
     rintro x w3 ⟨rfl, rfl⟩
     exact ⟨rfl, OutR.err (gbt HG1.out (Below.grownBy HB.out)) (by have := HR.out; rwa [if_pos (.inl (htop.1 he))] at this)⟩
   rw [if_neg he] at hat
   have HA := hd ((Tryz.strconv_Atoi_ok ⟨tt.toArray⟩ (by omega) _ hat (w1.alloc (.cells #[.int .i64 (tk : Int), .string ⟨tt.toArray⟩, .int .i64 (tp : Int)] 41))))
   have hlt : Px.dval tt < 9223372036854775808 := by omega
   clear hat
   go_wp2_with fail
   refine HA.out.mono ?_
   rintro x w2 ⟨rfl, hw⟩
   have hb : Below (w1.alloc (.cells #[.int .i64 (tk : Int), .string ⟨tt.toArray⟩, .int .i64 (tp : Int)] 41)).heap.size (w1.alloc (.cells #[.int .i64 (tk : Int), .string ⟨tt.toArray⟩, .int .i64 (tp : Int)] 41)) w2 := by
    rcases hw with rfl | ⟨t, rfl⟩
    · exact Below.refl _ _
    exact Lib.bytesWorld_below _ _ _
   have KN2 := HKN.out.below hb (by simp)
   have n2 : w2.cell? ⟨w1.heap.size, 2, none⟩ = some (.int .i64 (tp : Int)) := KN2.cell 2
   have HB := hd hb
   clear hb KN2 hw
   generalize Px.dval tt = n at *
   by_cases hgt : most < n
   · have hgt' : (most : Int) < (n : Int) := by omega
     go_wp2_with fail
     refine (c_fail_any _ _ tp 3).mono ?_
     rintro x w3 ⟨rfl, rfl⟩
     exact ⟨rfl, OutR.err (gbt HG1.out (Below.grownBy HB.out)) (by have := HR.out; rwa [if_pos (.inr hgt)] at this)⟩
   have hgt' : ¬ (most : Int) < (n : Int) := by omega
   go_wp2_with fail
   go_ret
   exact OutR.ok (gbt HG1.out (Below.grownBy HB.out)) (by have := HR.out; rwa [if_neg (by rintro (e | e); exact he (htop.2 e); exact hgt e)] at this) rfl (HX1.out.below HB.out)
 have HX := hd h
 have HN := hd (num_no (most := most) ht hk)
 go_enter Tryz.func154, Tryz.ntmps154
 go_wp2_with fail
 refine (c_take_no w B lv ts sz q dp HX.out tk tt tp ht 16 hk).mono ?_
 rintro x w1 ⟨rfl, hb⟩
 exact ⟨rfl, OutR.err (Below.grownBy hb) HN.out⟩
def opAgg (x : Nat × Lx.Bs × Nat) : Value := .agg #[.int .i64 (x.2.2 : Int), .string ⟨x.2.1.toArray⟩, .int .i64 (x.1 : Int)]
def opK (k : Nat) : Nat × Lx.Bs × Nat := Px.opTab.getD k (0, [], 0)
theorem index_op (k : Nat) (h : k < 14) (w : World) : (Instr.index 269 (.agg (opsRow Px.opTab).toArray) (.int .i64 (k : Int))).run Tryz.prog w = .ok (opAgg (opK k)) w := by
 have : k = 0 ∨ k = 1 ∨ k = 2 ∨ k = 3 ∨ k = 4 ∨ k = 5 ∨ k = 6 ∨ k = 7 ∨ k = 8 ∨ k = 9 ∨ k = 10 ∨ k = 11 ∨ k = 12 ∨ k = 13 := by omega
 rcases this with rfl | rfl | rfl | rfl | rfl | rfl | rfl | rfl | rfl | rfl | rfl | rfl | rfl | rfl
 all_goals (show Sem.run _ _ _ = _; kernel_rfl)
theorem op_step (k lv : Nat) (s : Lx.Bs) (h : k < 14) : Px.opIn (Px.opTab.drop k) lv s = if (opK k).1 = lv ∧ (opK k).2.1 = s then (opK k).2.2 else Px.opIn (Px.opTab.drop (k + 1)) lv s := by
 rw [List.drop_eq_getElem_cons (show k < Px.opTab.length from h)]
 have : Px.opTab[k]'(show k < Px.opTab.length from h) = opK k := by
  unfold opK
  rw [List.getD_eq_getElem?_getD, List.getElem?_eq_getElem (show k < Px.opTab.length from h)]; rfl
 rw [this]
 rfl
theorem opK_pos (k : Nat) (h : k < 14) : (opK k).2.2 ≠ 0 ∧ (opK k).1 ≤ 7 := by
 have : k = 0 ∨ k = 1 ∨ k = 2 ∨ k = 3 ∨ k = 4 ∨ k = 5 ∨ k = 6 ∨ k = 7 ∨ k = 8 ∨ k = 9 ∨ k = 10 ∨ k = 11 ∨ k = 12 ∨ k = 13 := by omega
 rcases this with rfl | rfl | rfl | rfl | rfl | rfl | rfl | rfl | rfl | rfl | rfl | rfl | rfl | rfl <;> decide
theorem y_Operator_any (s : ByteArray) (lv : Nat) (w : World) (he : EnvP w) (hl : lv ≤ 9) :
   Calls Tryz.prog 237 #[.string s, .int .i64 (lv : Int)] w fun e w' => e = .returned (.tuple #[.int .i64 ((Px.opIn Px.opTab lv s.data.toList : Nat) : Int), .bool (decide (Px.opIn Px.opTab lv s.data.toList ≠ 0))]) ∧ Below w.heap.size w w' := by
 obtain ⟨ty, fr, hg⟩ := he.ops
 have HG := hd hg
 clear hg he
 go_enter Tryz.func237, Tryz.ntmps237
 go_wp2_with (refine wpList_load_row rfl 269 _ rfl 4 rfl ty _ fr _ HG.out Tryz.underlying269 rfl (by kernel_rfl) ?_)
 go_loopw [9] (fun i wr => ∃ k : Nat, k ≤ 14 ∧ i = .int .i64 k ∧ Hid (Px.opIn Px.opTab lv s.data.toList = Px.opIn (Px.opTab.drop k) lv s.data.toList) ∧ Hid (Below w.heap.size w wr)) (fun i _ => 14 - (intOf i).toNat)
 case atStart => exact ⟨0, by omega, rfl, rfl, Below.refl _ _⟩
 case round =>
  obtain ⟨k, hk, rfl, HK, HW⟩ := hrel
  by_cases hlt : k < 14
  · have hix := index_op k hlt
    have HS := hd (op_step k lv s.data.toList hlt)
    have HP := hd (opK_pos k hlt)
    have hws := HW.out.size
    generalize opK k = o at *
    obtain ⟨ol, os, ok⟩ := o
    unfold opAgg at hix
    dsimp only at hix HS HP
    obtain ⟨u, hu⟩ : ∃ u : ByteArray, u = ⟨os.toArray⟩ := ⟨_, rfl⟩
    have HU : Hid (u.data.toList = os) := by rw [hu]; show _ = _; simp
    rw [← hu] at hix
    clear hu
    have HOS : Hid (u.toList = s.toList ↔ os = s.data.toList) := by show _ ↔ _; rw [Lib.toList_data, Lib.toList_data, HU.out]
    by_cases hs : u.toList = s.toList
    · have HE := hd (HOS.out.1 hs)
      have hs' : (u.toList == s.toList) = true := by simp [hs]
      by_cases hol : ol = lv
      · have HF : Hid (Px.opIn Px.opTab lv s.data.toList = ok) := by show _ = _; rw [HK.out, HS.out, if_pos ⟨hol, HE.out⟩]
        have hol' : ((ol : Int) == (lv : Int)) = true := by simp [hol]
        go_wp2
        go_ret2
        refine ⟨?_, HW.out.alloc hws _⟩
        rw [HF.out]
        simp [HP.out.1]
      have HF : Hid (Px.opIn Px.opTab lv s.data.toList = Px.opIn (Px.opTab.drop (k + 1)) lv s.data.toList) := by show _ = _; rw [HK.out, HS.out, if_neg (fun e => hol e.1)]
      have hol' : ((ol : Int) == (lv : Int)) = false := by rw [beq_eq_false_iff_ne]; omega
      go_wp2
      go_roundw
      case rel => exact ⟨k + 1, by omega, by go_num, HF, HW.out.alloc hws _⟩
      case measure => simp [intOf]; omega
    have HF : Hid (Px.opIn Px.opTab lv s.data.toList = Px.opIn (Px.opTab.drop (k + 1)) lv s.data.toList) := by show _ = _; rw [HK.out, HS.out, if_neg (fun e => hs (HOS.out.2 e.2))]
    have hs' : (u.toList == s.toList) = false := by rw [beq_eq_false_iff_ne]; exact hs
    go_wp2
    go_roundw
    case rel => exact ⟨k + 1, by omega, by go_num, HF, HW.out.alloc hws _⟩
    case measure => simp [intOf]; omega
  have HF : Hid (Px.opIn Px.opTab lv s.data.toList = 0) := by show _ = _; rw [HK.out, List.drop_eq_nil_of_le (by show 14 ≤ k; omega)]; rfl
  go_wp2
  go_ret2
  refine ⟨?_, HW.out⟩
  rw [HF.out]
  rfl
def ev : Px.E → Value
 | .null => .iface 190 (.agg #[])
 | .bool b => .iface 192 (.agg #[.bool b])
 | .num z => .iface 194 (.agg #[.int .i64 z])
 | .str s => .iface 196 (.agg #[.string ⟨s.toArray⟩])
 | .nm s => .iface 198 (.agg #[.string ⟨s.toArray⟩])
 | .un k e => .iface 200 (.agg #[.int .i64 (k : Int), ev e])
 | .bin k a b => .iface 202 (.agg #[.int .i64 (k : Int), ev a, ev b])
theorem is_un (a b : Value) (w : World) : (Instr.typeAssert (.iface 200 (.agg #[a, b])) 97 200 true).run Tryz.prog w = .ok (.tuple #[.agg #[a, b], .bool true]) w := by kernel_rfl
theorem is_bin (a b c : Value) (w : World) : (Instr.typeAssert (.iface 202 (.agg #[a, b, c])) 97 202 true).run Tryz.prog w = .ok (.tuple #[.agg #[a, b, c], .bool true]) w := by kernel_rfl
theorem bin_un (a b c : Value) (w : World) : (Instr.typeAssert (.iface 202 (.agg #[a, b, c])) 97 200 true).run Tryz.prog w = .ok (.tuple #[.agg #[.int .i64 0, .nilIface], .bool false]) w := by kernel_rfl
theorem leaf_un (t : Nat) (v : Value) (ht : t = 190 ∨ t = 192 ∨ t = 194 ∨ t = 196 ∨ t = 198) (w : World) : (Instr.typeAssert (.iface t v) 97 200 true).run Tryz.prog w = .ok (.tuple #[.agg #[.int .i64 0, .nilIface], .bool false]) w := by
 rcases ht with rfl | rfl | rfl | rfl | rfl
 all_goals (show Sem.run _ _ _ = _; kernel_rfl)
theorem leaf_bin (t : Nat) (v : Value) (ht : t = 190 ∨ t = 192 ∨ t = 194 ∨ t = 196 ∨ t = 198) (w : World) : (Instr.typeAssert (.iface t v) 97 202 true).run Tryz.prog w = .ok (.tuple #[.agg #[.int .i64 0, .nilIface, .nilIface], .bool false]) w := by
 rcases ht with rfl | rfl | rfl | rfl | rfl
 all_goals (show Sem.run _ _ _ = _; kernel_rfl)
def exV (e : Px.E) (v : Value) (_ : World) : Prop := v = ev e
def lvR (sz m : Nat) : Px.Rg Px.E := fun ts r => Px.Ex sz m [] ts (Px.mapR Px.E.nodes r) ∧ ∀ e q, r = .ok (e, q) → e.ok 2000 ∧ e.size + q.length ≤ ts.length
theorem lvR_ok {sz m : Nat} {ts q : List Lx.Tok} {e : Px.E} (hm : m < 10) (h : Px.Ex sz m [] ts (.ok (e.nodes, q))) (ho : e.ok 2000) : lvR sz m ts (.ok (e, q)) := by
 refine ⟨h, fun e' q' he => ?_⟩
 cases he
 refine ⟨ho, ?_⟩
 have := (Px.Ex.len hm h).2
 rwa [Px.E.nodes_length] at this
theorem lvR_err {sz m : Nat} {ts : List Lx.Tok} {p c : Nat} (h : Px.Ex sz m [] ts (.error (p, c))) : lvR sz m ts (.error (p, c)) := ⟨h, fun e q he => by cases he⟩
theorem evi (e : Px.E) : ∃ t x, ev e = .iface t x := by cases e <;> exact ⟨_, _, rfl⟩
theorem is_num (a : Value) (w : World) : (Instr.typeAssert (.iface 194 (.agg #[a])) 97 194 true).run Tryz.prog w = .ok (.tuple #[.agg #[a], .bool true]) w := by kernel_rfl
theorem not_num (e : Px.E) (h : e.isNum = false) (w : World) : (Instr.typeAssert (ev e) 97 194 true).run Tryz.prog w = .ok (.tuple #[.agg #[.int .i64 0], .bool false]) w := by
 cases e with
 | num z => simp [Px.E.isNum] at h
 | _ => unfold ev; show Sem.run _ _ _ = _; kernel_rfl
theorem c_neg_num (w : World) (v : Value) (p : Nat) (z : Int) (h1 : -9223372036854775808 < z) (h2 : z ≤ 9223372036854775807) :
   Calls Tryz.prog 261 #[v, .int .i64 (p : Int), .iface 194 (.agg #[.int .i64 z])] w fun x w' => x = .returned (.iface 194 (.agg #[.int .i64 (-z)])) ∧ Below w.heap.size w w' := by
 have hn := is_num (.int .i64 z)
 have h3 : (z == (-9223372036854775808 : Int)) = false := by rw [beq_eq_false_iff_ne]; omega
 go_enter Tryz.func261, Tryz.ntmps261
 go_wp2_with fail
 go_ret
 refine ⟨rfl, (Below.refl _ _).alloc (nlr _) _⟩
theorem c_neg_bot (w : World) (v : Value) (p : Nat) :
   Calls Tryz.prog 261 #[v, .int .i64 (p : Int), .iface 194 (.agg #[.int .i64 (-9223372036854775808)])] w fun x w' => x = Flt p 3 ∧ Below w.heap.size w w' := by
 have hn := is_num (.int .i64 (-9223372036854775808))
 go_enter Tryz.func261, Tryz.ntmps261
 go_wp2_with fail
 refine (c_fail_any _ _ p 3).mono ?_
 rintro x w1 ⟨rfl, rfl⟩
 exact ⟨rfl, rfl, (Below.refl _ _).alloc (nlr _) _⟩
theorem c_neg_not (w : World) (v : Value) (p : Nat) (e : Px.E) (he : e.isNum = false) :
   Calls Tryz.prog 261 #[v, .int .i64 (p : Int), ev e] w fun x w' => x = .returned (ev (.un 19 e)) ∧ Below w.heap.size w w' := by
 have hn := not_num e he
 have hev : ev (.un 19 e) = .iface 200 (.agg #[.int .i64 19, ev e]) := rfl
 obtain ⟨t, y, hy⟩ := evi e
 rw [hev]
 rw [hy] at hn ⊢
 clear hev hy he
 go_enter Tryz.func261, Tryz.ntmps261
 go_wp2_with fail
 go_ret
 exact ⟨rfl, (Below.refl _ _).alloc (nlr _) _⟩
theorem c_expect_new (s : ByteArray) (w : World) (B : Nat) (lv : Value) (ts : List Lx.Tok) (sz : Nat) (q : List Lx.Tok) (dp : Bool) (h : Cx w B lv ts sz q dp) (hne : s.data.toList ≠ []) :
   Calls Tryz.prog 84 #[.pointer (some ⟨B, 0, none⟩), .slice (some ⟨w.heap.size, 0, none⟩) 1 1] (w.alloc (.cells #[.string s] 9)) (OutR w B lv ts sz dp (Px.mustR sz s.data.toList) q unitV noDeep) := by
 refine (c_expect_any s _ B w.heap.size lv ts sz q dp (h.below ((Below.refl _ _).alloc (nlr _) _)) hne ((Blk.new w #[.string s] 9).cell 0)).mono ?_
 rintro x w' ⟨hg, hr⟩
 exact ⟨gbt (Below.grownBy ((Below.refl _ _).alloc (nlr _) _)) (by simpa using hg), hr⟩
def TreeIn (w : World) (g off : Nat) (l : List Px.Nd) : Prop := ∀ j u, (ndsV l)[j]? = some u → w.cell? ⟨g, off + j, none⟩ = some u
theorem TreeIn.tail {w : World} {g off : Nat} {x : Px.Nd} {l : List Px.Nd} (h : TreeIn w g off (x :: l)) : TreeIn w g (off + 4) l := by
 intro j u hu
 have := h (j + 4) u (by
  show (ndV x ++ ndsV l)[j + 4]? = _
  rw [List.getElem?_append_right (by simp [ndV])]
  simpa [ndV] using hu)
 rw [← this]
 congr 2
 omega
theorem TreeIn.head {w : World} {g off : Nat} {x : Px.Nd} {l : List Px.Nd} (h : TreeIn w g off (x :: l)) : w.cell? ⟨g, off, none⟩ = some (.int .i64 x.kind) ∧ w.cell? ⟨g, off + 1, none⟩ = some (.string ⟨x.text.toArray⟩) ∧ w.cell? ⟨g, off + 2, none⟩ = some (.int .i64 x.num) ∧ w.cell? ⟨g, off + 3, none⟩ = some (.int .i64 x.kids) :=
 ⟨h 0 _ rfl, h 1 _ rfl, h 2 _ rfl, h 3 _ rfl⟩
theorem TreeIn.keep {w w' : World} {g off : Nat} {l : List Px.Nd} (h : TreeIn w g off l) (hb : w'.heap[g]? = w.heap[g]?) : TreeIn w' g off l := by
 intro j u hu
 rw [World.cell?_of_block hb]
 exact h j u hu
def NdFit (x : Px.Nd) : Prop := (-9223372036854775808 ≤ x.num ∧ x.num ≤ 9223372036854775807) ∧ (-9223372036854775808 ≤ x.kind ∧ x.kind ≤ 9223372036854775807) ∧ (-9223372036854775808 ≤ x.kids ∧ x.kids ≤ 9223372036854775807) ∧ x.text.length ≤ 140737488355328
def Wks (w : World) (B : Nat) (l : List Px.Nd) : Prop :=
 ∃ ao cap, Blk w B #[.slice ao l.length cap] 80 ∧ l.length ≤ cap ∧ cap ≤ maxLen ∧ (∀ x ∈ l, NdFit x) ∧ (l ≠ [] → ∃ g off, ao = some ⟨g, off, none⟩ ∧ g < B ∧ TreeIn w g off l)
theorem Wks.lt {w : World} {B : Nat} {l : List Px.Nd} (h : Wks w B l) : B < w.heap.size := by
 obtain ⟨ao, cap, hb, _⟩ := h
 exact hb.lt
theorem Wks.below {w w' : World} {B : Nat} {l : List Px.Nd} (h : Wks w B l) (hb : Below w.heap.size w w') : Wks w' B l := by
 obtain ⟨ao, cap, h1, h2, h3, h4, h5⟩ := h
 refine ⟨ao, cap, h1.below hb h1.lt, h2, h3, h4, fun hne => ?_⟩
 obtain ⟨g, off, e, hg, ht⟩ := h5 hne
 exact ⟨g, off, e, hg, ht.keep (hb.block g (by have := h1.lt; omega))⟩
def WOut {α : Type} (w : World) (B : Nat) (V : α → Value → World → Prop) (o : Option (α × List Px.Nd)) (x : Ending) (w' : World) : Prop :=
 w.grownBy w' (some B) ∧ match o with
 | none => x = Flt 0 7
 | some (a, l) => ∃ v, x = .returned v ∧ V a v w' ∧ Wks w' B l
theorem kmt (w : World) (B : Nat) : Calls Tryz.prog 45 #[.pointer (some ⟨B, 0, none⟩), .bool true] w fun x w' => x = .returned (.tuple #[]) ∧ w' = w := by
 go_enter Tryz.func45, Tryz.ntmps45
 go_wp2
 go_end0
 exact ⟨rfl, rfl⟩
theorem kmf (w : World) (B : Nat) : Calls Tryz.prog 45 #[.pointer (some ⟨B, 0, none⟩), .bool false] w fun x w' => x = Flt 0 7 ∧ Below w.heap.size w w' := by
 go_enter Tryz.func45, Tryz.ntmps45
 go_wp2
 exact ⟨rfl, rfl, Below.refl _ _⟩
theorem k_peek_any (w : World) (B : Nat) (l : List Px.Nd) (h : Wks w B l) : Calls Tryz.prog 136 #[.pointer (some ⟨B, 0, none⟩)] w fun x w' => x = .returned (.int .i64 (Px.pkN l)) ∧ Below w.heap.size w w' := by
 obtain ⟨ao, cap, hb, hc, hm, hf, ht⟩ := h
 have c0 := hb.cell 0
 simp at c0
 cases l with
 | nil =>
  simp only [List.length_nil] at c0 hc
  clear ht hf hb
  go_enter Tryz.func136, Tryz.ntmps136
  go_wp2
  go_ret
  exact ⟨rfl, Below.refl _ _⟩
 | cons x r =>
  obtain ⟨g, off, rfl, hg, htr⟩ := ht (by simp)
  obtain ⟨q0, q1, q2, q3⟩ := htr.head
  obtain ⟨xk, xt, xn, xc⟩ := x
  simp only at q0 q1 q2 q3
  simp only [List.length_cons] at c0 hc
  unfold maxLen at hm
  have hB := hb.lt
  clear htr hf ht hb
  go_enter Tryz.func136, Tryz.ntmps136
  go_wp2
  go_ret
  exact ⟨rfl, Below.refl _ _⟩
def ndA (x : Px.Nd) : Value := .agg #[.int .i64 x.kind, .string ⟨x.text.toArray⟩, .int .i64 x.num, .int .i64 x.kids]
def ndIsV (x : Px.Nd) (v : Value) (_ : World) : Prop := v = ndA x
def rTake : List Px.Nd → Option (Px.Nd × List Px.Nd)
 | [] => none
 | x :: r => some (x, r)
theorem wk_grown {w : World} {B : Nat} (v : Value) : w.grownBy (w.setCell ⟨B, 0, none⟩ v) (some B) :=
 ⟨rfl, rfl, rfl, by simp [World.setCell], fun k _ hne => Below.heap_setCell w _ v k (by simpa using hne)⟩
theorem gtr {w w1 w2 : World} {row : Option Nat} (h : w.grownBy w1 row) (k : w1.grownBy w2 row) : w.grownBy w2 row :=
 ⟨k.os.trans h.os, k.tape.trans h.tape, k.output.trans h.output, Nat.le_trans h.size k.size, fun i hi hne => (k.block i (Nat.lt_of_lt_of_le hi h.size) hne).trans (h.block i hi hne)⟩
theorem bm0 {B : Nat} {w X w' : World} (h : Below B w X) (hB : Below X.heap.size X w') (hle : B ≤ X.heap.size) : Below B w w' := h.trans (hB.mono hle)
theorem k_take_any (w : World) (B : Nat) (l : List Px.Nd) (h : Wks w B l) : Calls Tryz.prog 72 #[.pointer (some ⟨B, 0, none⟩)] w (WOut w B ndIsV (rTake l)) := by
 have H := hd h
 obtain ⟨ao, cap, hb, hc, hm, hf, ht⟩ := h
 have c0 := hb.cell 0
 simp at c0
 cases l with
 | nil =>
  simp only [List.length_nil] at c0 hc
  have hB := hb.lt
  clear ht hf hb
  go_enter Tryz.func72, Tryz.ntmps72
  go_wp2_with fail
  refine (kmf _ B).mono ?_
  rintro x w1 ⟨rfl, hb1⟩
  exact ⟨rfl, Below.grownBy (bm0 (by go_grown) hb1 (by simp)), rfl⟩
 | cons x r =>
  obtain ⟨g, off, rfl, hg, htr⟩ := ht (by simp)
  obtain ⟨q0, q1, q2, q3⟩ := htr.head
  have HTR := hd htr
  have HF := hd hf
  have HB := hd hb
  simp only [List.length_cons] at c0 hc
  unfold maxLen at hm
  have hB := hb.lt
  have f0 := hb.free 0
  have hgw : g < w.heap.size := by omega
  obtain ⟨xk, xt, xn, xc⟩ := x
  simp only at q0 q1 q2 q3
  clear htr hf ht hb
  go_enter Tryz.func72, Tryz.ntmps72
  go_wp2_with fail
  refine (kmt _ B).mono ?_
  rintro y w1 ⟨rfl, rfl⟩
  by_cases h1 : cap = 1
  · subst h1
    have hr0 : r = [] := List.length_eq_zero_iff.1 (by omega)
    subst hr0
    go_wp2_with fail
    refine bodyPost_ret (v := ndA ⟨xk, xt, xn, xc⟩) (by simp [results, Tryz.results72, go_sem, ndA]) rfl ?_
    refine ⟨gtr (wk_grown _) (Below.grownBy (by go_grown)), _, rfl, rfl, ?_⟩
    exact ⟨_, 0, ((HB.out.set 0 _).alloc _).alloc _, by simp, by unfold maxLen; omega, by simp, fun h => absurd rfl h⟩
  go_wp2_with fail
  refine bodyPost_ret (v := ndA ⟨xk, xt, xn, xc⟩) (by simp [results, Tryz.results72, go_sem, ndA]) rfl ?_
  refine ⟨gtr (wk_grown _) (Below.grownBy (by go_grown)), _, rfl, rfl, ?_⟩
  refine ⟨_, cap - 1, ((HB.out.set 0 _).alloc _).alloc _, by omega, by unfold maxLen; omega, fun x hx => HF.out x (by simp [hx]), fun _ => ⟨g, off + 4, rfl, hg, ?_⟩⟩
  refine HTR.out.tail.keep ?_
  rw [Below.heap_alloc _ _ g (by simp [World.setCell]; omega), Below.heap_alloc _ _ g (by simp [World.setCell]; omega), Below.heap_setCell _ _ _ g (by show g ≠ B; omega)]
end Go.Proofs.YtkcakbgcfnhgaaaGreatDoor
