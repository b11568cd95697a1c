/- Parts of the proof: CodeA CodeB CodeC CodeD CodeE Quote CodeF CodeG CodeH CodeT CpA CpB -/
import Derived.Test.YtcdgihdhpaipaaaGreatDoorX2
import Derived.Test.YtcdgihdhpaipaaaGreatDoorX6
import Derived.Test.YtcdgihdhpaipaaaGreatDoorShelf
import Derived.Deep.RegionHeld3
import Derived.Deep.DrawnRows
import Derived.Deep.RegionWith
import Derived.Recover
import Derived.Defers
import Derived.Test.YtcdgihdhpaipaaaGreatDoorX1
import Derived.Test.YtcdgihdhpaipaaaGreatDoorShelfB
namespace Go.Proofs.YtcdgihdhpaipaaaGreatDoor
open Go.RowKit
set_option linter.unusedSimpArgs false
set_option linter.unusedVariables false

def sgns : List Lx.Bs := Lx.twos ++ Lx.ones

/-- What the package variables hold. -/
structure Env (w : World) : Prop where
  tabs : Lib.Utf8Tabs 2 3 w
  kws : ∃ t fr, w.heap[1]? = some (.cells (strRow Lx.keys) t fr)
  sgs : ∃ t fr, w.heap[0]? = some (.cells (strRow sgns) t fr)
  room : 12 ≤ w.heap.size

theorem Env.grown {w w' : World} {B : Nat} (h : Env w) (hg : w.grownBy w' (some B)) (hB : 12 ≤ B) : Env w' := by
  have hr := h.room
  have hb : ∀ k, k < 12 → w'.heap[k]? = w.heap[k]? := fun k hk => hg.block k (by omega) (by simp; omega)
  refine ⟨⟨fun c hc => ?_, fun i hi => ?_⟩, ?_, ?_, Nat.le_trans hr hg.size⟩
  · rw [World.cell?_of_block (w := w) (hb _ (by simp))]; exact h.tabs.1 c hc
  · rw [World.cell?_of_block (w := w) (hb _ (by simp)), World.cell?_of_block (w := w) (hb _ (by simp))]; exact h.tabs.2 i hi
  · rw [hb _ (by simp)]; exact h.kws
  · rw [hb _ (by simp)]; exact h.sgs

theorem Env.below {w w' : World} (h : Env w) (hb : Below w.heap.size w w') : Env w' := h.grown (B := w.heap.size) (Below.grownBy hb) h.room

theorem grownBy_trans {w w1 w2 : World} {row : Option Nat} (h : w.grownBy w1 row) (k : w1.grownBy w2 row) : w.grownBy w2 row :=
  ⟨k.os.trans h.os, k.tape.trans h.tape, k.output.trans h.output, Nat.le_trans h.size k.size, fun i hi hne => (k.block i (Nat.lt_of_lt_of_le hi h.size) hne).trans (h.block i hi hne)⟩
theorem grownBy_refl (w : World) (row : Option Nat) : w.grownBy w row := ⟨rfl, rfl, rfl, Nat.le_refl _, fun _ _ _ => rfl⟩
theorem grownBy_set (w : World) (B i : Nat) (v : Value) : w.grownBy (w.setCell ⟨B, i, none⟩ v) (some B) :=
  ⟨rfl, rfl, rfl, by simp [World.setCell], fun k _ hne => Below.heap_setCell w _ v k (by simpa using hne)⟩
theorem grownBy_drew {w w1 : World} {row : Option Nat} (h : w.grownBy w1 row) : w.grownBy w1.drew row := ⟨h.os, h.tape, h.output, h.size, h.block⟩

/-- The reader in block B: its text, where it stands, where its token began. -/
structure Rd (w : World) (B : Nat) (s : ByteArray) (k st : Nat) : Prop where
  blk : Blk w B #[.string s, .int .i64 (k : Int), .int .i64 (st : Int)] 124
  low : 12 ≤ B
  env : Env w
  le : k ≤ s.size
  small : s.size ≤ 2000

theorem Rd.below {w w' : World} {B : Nat} {s : ByteArray} {k st : Nat} (h : Rd w B s k st) (hb : Below w.heap.size w w') : Rd w' B s k st :=
  ⟨h.blk.below hb h.blk.lt, h.low, h.env.below hb, h.le, h.small⟩
theorem Rd.drew {w : World} {B : Nat} {s : ByteArray} {k st : Nat} (h : Rd w B s k st) : Rd w.drew B s k st :=
  ⟨h.blk, h.low, ⟨h.env.tabs, h.env.kws, h.env.sgs, h.env.room⟩, h.le, h.small⟩
theorem Rd.set1 {w : World} {B : Nat} {s : ByteArray} {k st : Nat} (h : Rd w B s k st) (j : Nat) (hj : j ≤ s.size) : Rd (w.setCell ⟨B, 1, none⟩ (.int .i64 (j : Int))) B s j st :=
  ⟨h.blk.set 1 _, h.low, h.env.grown (grownBy_set w B 1 _) h.low, hj, h.small⟩
theorem Rd.set2 {w : World} {B : Nat} {s : ByteArray} {k st : Nat} (h : Rd w B s k st) (j : Nat) : Rd (w.setCell ⟨B, 2, none⟩ (.int .i64 (j : Int))) B s k j :=
  ⟨h.blk.set 2 _, h.low, h.env.grown (grownBy_set w B 2 _) h.low, h.le, h.small⟩

/-! The reader's tests on runes. -/
def rSp (r : Int) : Bool := decide (r = 9 ∨ r = 10 ∨ r = 13 ∨ r = 32)
def rLine (r : Int) : Bool := decide (r ≠ 10)
def rDig (r : Int) : Bool := decide (48 ≤ r ∧ r ≤ 57)
def rWd (r : Int) : Bool := decide ((97 ≤ r ∧ r ≤ 122) ∨ (65 ≤ r ∧ r ≤ 90) ∨ r = 95 ∨ (48 ≤ r ∧ r ≤ 57))

set_option maxHeartbeats 400000 in
theorem isSpace_any (r : Int) (w : World) : Calls Tryz.prog 76 #[.int .i32 r] w fun e w' => e = .returned (.bool (rSp r)) ∧ w' = w := by
  go_enter Tryz.func76, Tryz.ntmps76
  go_wp2
  all_goals
    go_ret
    refine ⟨ret_bool ?_, rfl⟩
    rw [Bool.eq_iff_iff]; simp [rSp]; omega
set_option maxHeartbeats 400000 in
theorem inLine_any (r : Int) (w : World) : Calls Tryz.prog 78 #[.int .i32 r] w fun e w' => e = .returned (.bool (rLine r)) ∧ w' = w := by
  go_enter Tryz.func78, Tryz.ntmps78
  go_wp2
  all_goals
    go_ret
    refine ⟨ret_bool ?_, rfl⟩
    rw [Bool.eq_iff_iff]; simp [rLine]
set_option maxHeartbeats 400000 in
theorem isDigit_any (r : Int) (w : World) : Calls Tryz.prog 105 #[.int .i32 r] w fun e w' => e = .returned (.bool (rDig r)) ∧ w' = w := by
  go_enter Tryz.func105, Tryz.ntmps105
  go_wp2
  all_goals
    go_ret
    refine ⟨ret_bool ?_, rfl⟩
    rw [Bool.eq_iff_iff]; simp [rDig]; omega
set_option maxHeartbeats 1000000 in
theorem inWord_any (r : Int) (w : World) : Calls Tryz.prog 107 #[.int .i32 r] w fun e w' => e = .returned (.bool (rWd r)) ∧ w' = w := by
  go_enter Tryz.func107, Tryz.ntmps107
  go_wp2_with (go_at_call 105; refine (isDigit_any _ _).mono ?_; rintro e w' ⟨rfl, rfl⟩)
  all_goals
    go_ret
    refine ⟨ret_bool ?_, rfl⟩
    rw [Bool.eq_iff_iff]; simp [rWd, rDig] <;> omega

set_option maxHeartbeats 400000 in
theorem fail_any (w : World) (B : Nat) (s : ByteArray) (k st : Nat) (c : Int) (h : Rd w B s k st) :
    Calls Tryz.prog 121 #[.pointer (some ⟨B, 0, none⟩), .int .i64 c] w fun e w' => e = .panicked [{ v := .iface 66 (.agg #[.int .i64 (st : Int), .int .i64 c]), recovered := false }] ∧ w' = w := by
  obtain ⟨⟨b0, b1, b2⟩, b3, b4, b5⟩ := h.blk.three
  go_enter Tryz.func121, Tryz.ntmps121
  go_wp2
  exact ⟨rfl, rfl, rfl⟩

/-- What 'peek' answers of what is left. -/
def peekN (s : ByteArray) (k : Nat) : Int × Nat :=
  if k < s.size then (if Lx.charN (s.data.toList.drop k) = 0 then (-2, 1) else ((Utf8.decode s k).1, Lx.charN (s.data.toList.drop k))) else (-1, 0)

theorem get_extract (s : ByteArray) (k j : Nat) : (s.extract k s.size).get! j = s.get! (k + j) := by
  have e : (s.extract k s.size).data.toList = s.data.toList.drop k := Lib.extract_to_end s k
  have g : ∀ (t : ByteArray) (i : Nat), t.get! i = (t.data.toList[i]?).getD default := by
    intro t i
    show t.data[i]! = _
    rw [getElem!_def]
    simp only [Array.getElem?_toList]
    cases t.data[i]? <;> rfl
  rw [g, g, e, List.getElem?_drop]

theorem decode_extract (s : ByteArray) (k : Nat) (h : k ≤ s.size) : Utf8.decode (s.extract k s.size) 0 = Utf8.decode s k := by
  rw [Lib.decode_at, Lib.decode_at]
  rw [get_extract, get_extract, get_extract, get_extract]
  simp only [Nat.zero_add, Nat.add_zero, Nat.sub_zero]
  congr 1
  simp

theorem decodeGo_at (s : ByteArray) (k : Nat) (h : k < s.size) : Lib.decodeGo (s.extract k s.size) = Utf8.decode s k := by
  unfold Lib.decodeGo
  rw [if_neg (by simp; omega), decode_extract s k (by omega)]
theorem decodeGo_end (s : ByteArray) (k : Nat) (h : ¬ k < s.size) : Lib.decodeGo (s.extract k s.size) = (65533, 0) := by
  unfold Lib.decodeGo
  rw [if_pos (by simp; omega)]

set_option maxRecDepth 100000 in
set_option maxHeartbeats 1000000 in
theorem peek_any (w : World) (B : Nat) (s : ByteArray) (k st : Nat) (h : Rd w B s k st) :
    Calls Tryz.prog 104 #[.pointer (some ⟨B, 0, none⟩)] w fun e w' => e = .returned (.tuple #[.int .i32 (peekN s k).1, .int .i64 ((peekN s k).2 : Int)]) ∧ Below w.heap.size w w' := by
  obtain ⟨⟨b0, b1, b2⟩, b3, b4, b5⟩ := h.blk.three
  have hle := h.le
  have hsm := h.small
  by_cases hk : k < s.size
  · by_cases hc : Lx.charN (s.data.toList.drop k) = 0
    · have hp : peekN s k = (-2, 1) := by unfold peekN; rw [if_pos hk, if_pos hc]
      have hd := (decodeGo_at s k hk).trans (dec_bad s k hk hc).1
      rw [hp]
      clear hp hc
      go_enter Tryz.func104, Tryz.ntmps104
      go_wp2
      go_region_with (go_at_call 120; refine (Tryz.utf8_DecodeRuneInString _ _ h.drew.env.tabs).mono ?_; rintro e w1 ⟨rfl, hb1⟩; simp only [hd])
      all_goals
        go_wp2
        go_ret2
        exact ⟨rfl, (Below.refl _ _).drew.trans (by assumption)⟩
    · obtain ⟨hg1, hg2, hg3⟩ := dec_good s k hk hc
      have hp : peekN s k = (((Utf8.decode s k).1 : Int), (Utf8.decode s k).2) := by unfold peekN; rw [if_pos hk, if_neg hc, hg1]
      have hd := decodeGo_at s k hk
      have hx : ¬ ((Utf8.decode s k).1 = 65533 ∧ (Utf8.decode s k).2 ≤ 1) := by
        rintro ⟨q1, q2⟩
        rcases hg3 with ⟨_, q3, q4⟩ | ⟨q3, _⟩ <;> omega
      rw [hp]
      generalize Utf8.decode s k = d at *
      obtain ⟨c, n⟩ := d
      clear hp hc hg1 hg2 hg3
      simp only
      by_cases hc1 : c = 65533
      · subst hc1
        have hn : 1 < n := by simp at hx; omega
        clear hx
        go_enter Tryz.func104, Tryz.ntmps104
        go_wp2
        go_region_with (go_at_call 120; refine (Tryz.utf8_DecodeRuneInString _ _ h.drew.env.tabs).mono ?_; rintro e w1 ⟨rfl, hb1⟩; simp only [hd])
        all_goals
          go_wp2
          go_ret2
          exact ⟨rfl, (Below.refl _ _).drew.trans (by assumption)⟩
      · have hn : ¬ (c : Int) = 65533 := by omega
        clear hx hc1
        go_enter Tryz.func104, Tryz.ntmps104
        go_wp2
        go_region_with (go_at_call 120; refine (Tryz.utf8_DecodeRuneInString _ _ h.drew.env.tabs).mono ?_; rintro e w1 ⟨rfl, hb1⟩; simp only [hd])
        all_goals
          go_wp2
          go_ret2
          exact ⟨rfl, (Below.refl _ _).drew.trans (by assumption)⟩
  · have hp : peekN s k = (-1, 0) := by unfold peekN; rw [if_neg hk]
    have hd := decodeGo_end s k hk
    rw [hp]
    clear hp
    go_enter Tryz.func104, Tryz.ntmps104
    go_wp2
    go_region_with (go_at_call 120; refine (Tryz.utf8_DecodeRuneInString _ _ h.drew.env.tabs).mono ?_; rintro e w1 ⟨rfl, hb1⟩; simp only [hd])
    all_goals
      go_wp2
      go_ret2
      exact ⟨rfl, (Below.refl _ _).drew.trans (by assumption)⟩

end Go.Proofs.YtcdgihdhpaipaaaGreatDoor

namespace Go.Proofs.YtcdgihdhpaipaaaGreatDoor
open Go.RowKit
set_option linter.unusedSimpArgs false
set_option linter.unusedVariables false

theorem peekN_le (s : ByteArray) (k : Nat) (h : k ≤ s.size) : k + (peekN s k).2 ≤ s.size := by
  unfold peekN
  split
  · rename_i hk
    split
    · simp; omega
    · have hle := Lx.charN_le (s.data.toList.drop k)
      rw [List.length_drop, show s.data.toList.length = s.size from by simp] at hle
      simp; omega
  · simp; omega

set_option maxRecDepth 100000 in
set_option maxHeartbeats 1000000 in
theorem take_any (w : World) (B : Nat) (s : ByteArray) (k st : Nat) (h : Rd w B s k st) :
    Calls Tryz.prog 127 #[.pointer (some ⟨B, 0, none⟩)] w fun e w' => e = .returned (.int .i32 (peekN s k).1) ∧ Rd w' B s (k + (peekN s k).2) st ∧ w.grownBy w' (some B) := by
  have hpl := peekN_le s k h.le
  have hsm := h.small
  obtain ⟨c, n, hpk⟩ : ∃ c n, peekN s k = (c, n) := ⟨_, _, rfl⟩
  rw [hpk] at hpl ⊢
  have HPK : Hid _ := hpk
  clear hpk
  simp only at hpl ⊢
  go_enter Tryz.func127, Tryz.ntmps127
  go_wp2_with fail
  refine (peek_any w B s k st h).mono ?_
  rintro e w1 ⟨rfl, hb1⟩
  rw [HPK.out]
  have h1 := h.below hb1
  obtain ⟨⟨b0, b1, b2⟩, b3, b4, b5⟩ := h1.blk.three
  go_wp2
  go_ret
  refine ⟨rfl, ?_, ?_⟩
  · exact h1.set1 (k + n) hpl
  · exact grownBy_trans (Below.grownBy hb1) (grownBy_set w1 B 1 _)

/-- Whatever is no ASCII byte begins, and goes on, with none. -/
theorem char_high (s : ByteArray) (i : Nat) (h : i < s.size) (hb : 128 ≤ s[i].toNat) : i + (Utf8.decode s i).2 ≤ s.size ∧ 1 ≤ (Utf8.decode s i).2 ∧ ∀ j, j < (Utf8.decode s i).2 → 128 ≤ (s.get! (i + j)).toNat := by
  by_cases hc : Lx.charN (s.data.toList.drop i) = 0
  · rw [(dec_bad s i h hc).1]
    refine ⟨by simp; omega, by simp, ?_⟩
    intro j hj
    have : j = 0 := by simp at hj; exact hj
    subst this
    rw [Nat.add_zero, get_here s i h]; exact hb
  · have hle := Lx.charN_le (s.data.toList.drop i)
    rw [List.length_drop, show s.data.toList.length = s.size from by simp] at hle
    have hg := dec_good s i h hc
    have hcls := charN_cls s i h
    rw [get_here s i h] at hcls
    rw [hg.1]
    refine ⟨by omega, by omega, ?_⟩
    intro j hj
    rcases hg.2.2 with ⟨q, _, q2⟩ | ⟨q, _⟩
    · omega
    · have hn : Lx.charN (s.data.toList.drop i) = 2 ∨ Lx.charN (s.data.toList.drop i) = 3 ∨ Lx.charN (s.data.toList.drop i) = 4 := by
        have : ∀ n b0 b1 b2 b3, clsN n b0 b1 b2 b3 ≤ 4 := by
          intro n b0 b1 b2 b3
          unfold clsN
          repeat' split
          all_goals omega
        have := this (s.size - i) s[i].toNat (s.get! (i + 1)).toNat (s.get! (i + 2)).toNat (s.get! (i + 3)).toNat
        rw [← hcls] at this
        omega
      have lo : ∀ b, 128 ≤ Lx.loOf b := by
        intro b; unfold Lx.loOf
        repeat' split
        all_goals omega
      have hj0 : j = 0 → 128 ≤ (s.get! (i + j)).toNat := by rintro rfl; rw [Nat.add_zero, get_here s i h]; exact hb
      rcases hn with e | e | e
      · rw [e] at hcls hj
        obtain ⟨_, q1, _⟩ := cls_two _ _ _ _ _ hcls.symm
        have : j = 0 ∨ j = 1 := by omega
        rcases this with rfl | rfl
        · exact hj0 rfl
        · exact q1.2.1
      · rw [e] at hcls hj
        obtain ⟨_, q1, q2, _⟩ := cls_three _ _ _ _ _ hcls.symm
        have := lo s[i].toNat
        have : j = 0 ∨ j = 1 ∨ j = 2 := by omega
        rcases this with rfl | rfl | rfl
        · exact hj0 rfl
        · omega
        · exact q2.2.1
      · rw [e] at hcls hj
        obtain ⟨_, q1, q2, q3, _⟩ := cls_four _ _ _ _ _ hcls.symm
        have := lo s[i].toNat
        have : j = 0 ∨ j = 1 ∨ j = 2 ∨ j = 3 := by omega
        rcases this with rfl | rfl | rfl | rfl
        · exact hj0 rfl
        · omega
        · exact q2.2.1
        · exact q3.2.1

/-- A test on runes and the test on bytes that it comes to. -/
structure Fits (p : Int → Bool) (q : UInt8 → Bool) : Prop where
  low : ∀ b : UInt8, b.toNat < 128 → p (b.toNat : Int) = q b
  high : (∀ r : Int, 128 ≤ r → p r = false) ∧ (∀ b : UInt8, 128 ≤ b.toNat → q b = false) ∨ (∀ r : Int, 128 ≤ r → p r = true) ∧ (∀ b : UInt8, 128 ≤ b.toNat → q b = true)

theorem cnt_run (q : UInt8 → Bool) (s : ByteArray) : ∀ (n i : Nat), i + n ≤ s.size → (∀ j, j < n → q (s.get! (i + j)) = true) → Lx.cnt q (s.data.toList.drop i) = n + Lx.cnt q (s.data.toList.drop (i + n))
  | 0, i, _, _ => by simp
  | n + 1, i, h, hq => by
    rw [cnt_at q s i (by omega), if_pos (by have := hq 0 (by omega); rwa [Nat.add_zero, get_here s i (by omega)] at this)]
    rw [cnt_run q s n (i + 1) (by omega) (fun j hj => by have := hq (j + 1) (by omega); rwa [show i + (j + 1) = i + 1 + j from by omega] at this)]
    rw [show i + 1 + n = i + (n + 1) from by omega]; omega

/-- The rune at a place meets the test: so do all its bytes. -/
theorem Fits.yes {p : Int → Bool} {q : UInt8 → Bool} (hf : Fits p q) (s : ByteArray) (i : Nat) (h : i < s.size) (hp : p ((Utf8.decode s i).1 : Int) = true) :
    Lx.cnt q (s.data.toList.drop i) = (Utf8.decode s i).2 + Lx.cnt q (s.data.toList.drop (i + (Utf8.decode s i).2)) ∧ i + (Utf8.decode s i).2 ≤ s.size ∧ 1 ≤ (Utf8.decode s i).2 := by
  by_cases hb : s[i].toNat < 128
  · rw [decode_ascii s i h hb] at hp ⊢
    simp only at hp ⊢
    rw [hf.low _ hb] at hp
    refine ⟨?_, by omega, by omega⟩
    rw [cnt_at q s i h, if_pos hp]; omega
  · have hh := char_high s i h (by omega)
    have hr := (decode_high s i h (by omega)).1
    refine ⟨?_, hh.1, hh.2.1⟩
    rcases hf.high with ⟨h1, _⟩ | ⟨_, h2⟩
    · rw [h1 _ (by omega)] at hp; cases hp
    · exact cnt_run q s _ i hh.1 (fun j hj => h2 _ (hh.2.2 j hj))
theorem Fits.no {p : Int → Bool} {q : UInt8 → Bool} (hf : Fits p q) (s : ByteArray) (i : Nat) (h : i < s.size) (hp : p ((Utf8.decode s i).1 : Int) = false) : Lx.cnt q (s.data.toList.drop i) = 0 := by
  rw [cnt_at q s i h, if_neg]
  intro hq
  by_cases hb : s[i].toNat < 128
  · rw [decode_ascii s i h hb] at hp
    rw [hf.low _ hb, hq] at hp
    cases hp
  · have hr := (decode_high s i h (by omega)).1
    rcases hf.high with ⟨_, h2⟩ | ⟨h1, _⟩
    · rw [h2 _ (by omega)] at hq; cases hq
    · rw [h1 _ (by omega)] at hp; cases hp

theorem fits_sp : Fits rSp Lx.isSp := by
  refine ⟨fun b hb => ?_, .inl ⟨fun r hr => ?_, fun b hb => ?_⟩⟩
  · unfold rSp Lx.isSp; rw [Bool.eq_iff_iff]; simp; omega
  · unfold rSp; simp; omega
  · unfold Lx.isSp; simp; omega
theorem fits_line : Fits rLine Lx.notNl := by
  refine ⟨fun b hb => ?_, .inr ⟨fun r hr => ?_, fun b hb => ?_⟩⟩
  · unfold rLine Lx.notNl; rw [Bool.eq_iff_iff]; simp; omega
  · unfold rLine; simp; omega
  · unfold Lx.notNl; simp; omega
theorem fits_dig : Fits rDig Lx.isDig := by
  refine ⟨fun b hb => ?_, .inl ⟨fun r hr => ?_, fun b hb => ?_⟩⟩
  · unfold rDig Lx.isDig; rw [Bool.eq_iff_iff]; simp; omega
  · unfold rDig; simp; omega
  · unfold Lx.isDig; simp; omega
theorem fits_wd : Fits rWd Lx.isWd := by
  refine ⟨fun b hb => ?_, .inl ⟨fun r hr => ?_, fun b hb => ?_⟩⟩
  · unfold rWd Lx.isWd Lx.isDig Lx.isLet; rw [Bool.eq_iff_iff]; simp; omega
  · unfold rWd; simp; omega
  · unfold Lx.isWd Lx.isDig Lx.isLet; simp; omega

theorem Rd.iter {w : World} {B : Nat} {s : ByteArray} {k st : Nat} (h : Rd w B s k st) (t : ByteArray) (p : Nat) : Rd (w.drew.iter t p) B s k st :=
  h.drew.below ((Below.refl _ _).alloc (Nat.le_refl _) _)
theorem grownBy_iter (w : World) (t : ByteArray) (p B : Nat) : w.grownBy (w.drew.iter t p) (some B) :=
  grownBy_trans (grownBy_drew (grownBy_refl w _)) (Below.grownBy ((Below.refl _ _).alloc (Nat.le_refl _) _))

set_option maxRecDepth 100000 in
set_option maxHeartbeats 1000000 in
theorem takeAll_isDigit (w : World) (B : Nat) (s : ByteArray) (k st : Nat) (h : Rd w B s k st) :
    Calls Tryz.prog 75 #[.pointer (some ⟨B, 0, none⟩), .func (.func 105) #[] #[]] w fun e w' => ∃ u : ByteArray, e = .returned (.string u) ∧ u.data.toList = (s.data.toList.drop k).take (Lx.cnt Lx.isDig (s.data.toList.drop k)) ∧ Rd w' B s (k + Lx.cnt Lx.isDig (s.data.toList.drop k)) st ∧ w.grownBy w' (some B) := by
  obtain ⟨⟨b0, b1, b2⟩, b3, b4, b5⟩ := h.blk.three
  have hle := h.le
  have hsm := h.small
  obtain ⟨t, ht⟩ : ∃ t, t = s.extract k s.size := ⟨_, rfl⟩
  have hT : t.data.toList = s.data.toList.drop k := by rw [ht]; exact Lib.extract_to_end s k
  have hts : t.size + k = s.size := by rw [ht]; simp; omega
  rw [← hT]
  have HT := hd hT
  have HTT := hd ht
  clear ht hT
  have hI1 : ∀ p, (w.drew.iter t p).cell? ⟨B, 1, none⟩ = some (.int .i64 (k : Int)) := fun p => (h.iter t p).blk.cell 1
  have hI2 : ∀ p, (w.drew.iter t p).frozen? ⟨B, 1, none⟩ = false := fun p => (h.iter t p).blk.free 1
  go_enter Tryz.func75, Tryz.ntmps75
  go_wp2
  go_region
  all_goals go_wp2
  rw [← HTT.out]
  go_loopw [6] (fun v wr => ∃ pos : Nat, v = .int .i64 (t.size : Int) ∧ wr = w.drew.iter t pos ∧ pos ≤ t.size ∧ Hid (Lx.cnt Lx.isDig t.data.toList = pos + Lx.cnt Lx.isDig (t.data.toList.drop pos))) (fun _ wr => t.size - wr.iterPos w.heap.size)
  case atStart => exact ⟨0, by rw [show s.size - k = t.size from by omega], rfl, by omega, by show _ = _; simp⟩
  case round =>
    obtain ⟨pos, rfl, rfl, hpos, HK⟩ := hrel
    by_cases hlt : pos < t.size
    · have hnx : ∀ ty, (Instr.next (.pointer (some ⟨w.heap.size, 0, none⟩)) true ty).run Tryz.prog (w.drew.iter t pos) = .ok (.tuple #[.bool true, .int .i64 pos, .int .i32 (Utf8.decode t pos).1]) (w.drew.iter t (pos + (Utf8.decode t pos).2)) := fun ty => run_next_any (P := Tryz.prog) w.drew t pos ty hlt
      cases hp : rDig ((Utf8.decode t pos).1 : Int)
      · have HN := hd (fits_dig.no t pos hlt hp)
        generalize (Utf8.decode t pos) = d at *
        obtain ⟨c, n⟩ := d
        go_wp2_with (go_at_call 105; refine (isDigit_any _ _).mono ?_; rintro e w' ⟨rfl, rfl⟩)
        go_ret
        have hc : Lx.cnt Lx.isDig t.data.toList = pos := by rw [HK.out, HN.out]; rfl
        rw [hc]
        refine ⟨_, rfl, ?_, (h.iter t (pos + n)).set1 (k + pos) (by omega), grownBy_trans (grownBy_iter w t (pos + n) B) (grownBy_set _ B 1 _)⟩
        rw [Lib.extract_data]; simp
      · have HY := hd (fits_dig.yes t pos hlt hp)
        generalize (Utf8.decode t pos) = d at *
        obtain ⟨c, n⟩ := d
        go_wp2_with (go_at_call 105; refine (isDigit_any _ _).mono ?_; rintro e w' ⟨rfl, rfl⟩)
        go_roundw
        case rel =>
          obtain ⟨y1, y2, y3⟩ := HY.out
          try simp only at y1 y2 y3
          exact ⟨pos + n, rfl, rfl, y2, by have h1 := HK.out; show _ = _; omega⟩
        case measure =>
          obtain ⟨y1, y2, y3⟩ := HY.out
          try simp only at y1 y2 y3
          show t.size - (w.drew.iter t (pos + n)).iterPos w.drew.heap.size < t.size - (w.drew.iter t pos).iterPos w.drew.heap.size
          rw [World.iterPos_iter, World.iterPos_iter]; omega
    · have hnx : ∀ ty, (Instr.next (.pointer (some ⟨w.heap.size, 0, none⟩)) true ty).run Tryz.prog (w.drew.iter t pos) = .ok (.tuple #[.bool false]) (w.drew.iter t pos) := fun ty => run_next_end (P := Tryz.prog) w.drew t pos ty hlt
      go_wp2
      go_ret
      have hc : Lx.cnt Lx.isDig t.data.toList = t.size := by rw [HK.out, cnt_end Lx.isDig t pos (by omega)]; omega
      rw [hc]
      refine ⟨_, rfl, ?_, (h.iter t pos).set1 (k + t.size) (by omega), grownBy_trans (grownBy_iter w t pos B) (grownBy_set _ B 1 _)⟩
      rw [List.take_of_length_le (by simp)]

set_option maxRecDepth 100000 in
set_option maxHeartbeats 1000000 in
theorem takeAll_isSpace (w : World) (B : Nat) (s : ByteArray) (k st : Nat) (h : Rd w B s k st) :
    Calls Tryz.prog 75 #[.pointer (some ⟨B, 0, none⟩), .func (.func 76) #[] #[]] w fun e w' => ∃ u : ByteArray, e = .returned (.string u) ∧ u.data.toList = (s.data.toList.drop k).take (Lx.cnt Lx.isSp (s.data.toList.drop k)) ∧ Rd w' B s (k + Lx.cnt Lx.isSp (s.data.toList.drop k)) st ∧ w.grownBy w' (some B) := by
  obtain ⟨⟨b0, b1, b2⟩, b3, b4, b5⟩ := h.blk.three
  have hle := h.le
  have hsm := h.small
  obtain ⟨t, ht⟩ : ∃ t, t = s.extract k s.size := ⟨_, rfl⟩
  have hT : t.data.toList = s.data.toList.drop k := by rw [ht]; exact Lib.extract_to_end s k
  have hts : t.size + k = s.size := by rw [ht]; simp; omega
  rw [← hT]
  have HT := hd hT
  have HTT := hd ht
  clear ht hT
  have hI1 : ∀ p, (w.drew.iter t p).cell? ⟨B, 1, none⟩ = some (.int .i64 (k : Int)) := fun p => (h.iter t p).blk.cell 1
  have hI2 : ∀ p, (w.drew.iter t p).frozen? ⟨B, 1, none⟩ = false := fun p => (h.iter t p).blk.free 1
  go_enter Tryz.func75, Tryz.ntmps75
  go_wp2
  go_region
  all_goals go_wp2
  rw [← HTT.out]
  go_loopw [6] (fun v wr => ∃ pos : Nat, v = .int .i64 (t.size : Int) ∧ wr = w.drew.iter t pos ∧ pos ≤ t.size ∧ Hid (Lx.cnt Lx.isSp t.data.toList = pos + Lx.cnt Lx.isSp (t.data.toList.drop pos))) (fun _ wr => t.size - wr.iterPos w.heap.size)
  case atStart => exact ⟨0, by rw [show s.size - k = t.size from by omega], rfl, by omega, by show _ = _; simp⟩
  case round =>
    obtain ⟨pos, rfl, rfl, hpos, HK⟩ := hrel
    by_cases hlt : pos < t.size
    · have hnx : ∀ ty, (Instr.next (.pointer (some ⟨w.heap.size, 0, none⟩)) true ty).run Tryz.prog (w.drew.iter t pos) = .ok (.tuple #[.bool true, .int .i64 pos, .int .i32 (Utf8.decode t pos).1]) (w.drew.iter t (pos + (Utf8.decode t pos).2)) := fun ty => run_next_any (P := Tryz.prog) w.drew t pos ty hlt
      cases hp : rSp ((Utf8.decode t pos).1 : Int)
      · have HN := hd (fits_sp.no t pos hlt hp)
        generalize (Utf8.decode t pos) = d at *
        obtain ⟨c, n⟩ := d
        go_wp2_with (go_at_call 76; refine (isSpace_any _ _).mono ?_; rintro e w' ⟨rfl, rfl⟩)
        go_ret
        have hc : Lx.cnt Lx.isSp t.data.toList = pos := by rw [HK.out, HN.out]; rfl
        rw [hc]
        refine ⟨_, rfl, ?_, (h.iter t (pos + n)).set1 (k + pos) (by omega), grownBy_trans (grownBy_iter w t (pos + n) B) (grownBy_set _ B 1 _)⟩
        rw [Lib.extract_data]; simp
      · have HY := hd (fits_sp.yes t pos hlt hp)
        generalize (Utf8.decode t pos) = d at *
        obtain ⟨c, n⟩ := d
        go_wp2_with (go_at_call 76; refine (isSpace_any _ _).mono ?_; rintro e w' ⟨rfl, rfl⟩)
        go_roundw
        case rel =>
          obtain ⟨y1, y2, y3⟩ := HY.out
          try simp only at y1 y2 y3
          exact ⟨pos + n, rfl, rfl, y2, by have h1 := HK.out; show _ = _; omega⟩
        case measure =>
          obtain ⟨y1, y2, y3⟩ := HY.out
          try simp only at y1 y2 y3
          show t.size - (w.drew.iter t (pos + n)).iterPos w.drew.heap.size < t.size - (w.drew.iter t pos).iterPos w.drew.heap.size
          rw [World.iterPos_iter, World.iterPos_iter]; omega
    · have hnx : ∀ ty, (Instr.next (.pointer (some ⟨w.heap.size, 0, none⟩)) true ty).run Tryz.prog (w.drew.iter t pos) = .ok (.tuple #[.bool false]) (w.drew.iter t pos) := fun ty => run_next_end (P := Tryz.prog) w.drew t pos ty hlt
      go_wp2
      go_ret
      have hc : Lx.cnt Lx.isSp t.data.toList = t.size := by rw [HK.out, cnt_end Lx.isSp t pos (by omega)]; omega
      rw [hc]
      refine ⟨_, rfl, ?_, (h.iter t pos).set1 (k + t.size) (by omega), grownBy_trans (grownBy_iter w t pos B) (grownBy_set _ B 1 _)⟩
      rw [List.take_of_length_le (by simp)]

set_option maxRecDepth 100000 in
set_option maxHeartbeats 1000000 in
theorem takeAll_inLine (w : World) (B : Nat) (s : ByteArray) (k st : Nat) (h : Rd w B s k st) :
    Calls Tryz.prog 75 #[.pointer (some ⟨B, 0, none⟩), .func (.func 78) #[] #[]] w fun e w' => ∃ u : ByteArray, e = .returned (.string u) ∧ u.data.toList = (s.data.toList.drop k).take (Lx.cnt Lx.notNl (s.data.toList.drop k)) ∧ Rd w' B s (k + Lx.cnt Lx.notNl (s.data.toList.drop k)) st ∧ w.grownBy w' (some B) := by
  obtain ⟨⟨b0, b1, b2⟩, b3, b4, b5⟩ := h.blk.three
  have hle := h.le
  have hsm := h.small
  obtain ⟨t, ht⟩ : ∃ t, t = s.extract k s.size := ⟨_, rfl⟩
  have hT : t.data.toList = s.data.toList.drop k := by rw [ht]; exact Lib.extract_to_end s k
  have hts : t.size + k = s.size := by rw [ht]; simp; omega
  rw [← hT]
  have HT := hd hT
  have HTT := hd ht
  clear ht hT
  have hI1 : ∀ p, (w.drew.iter t p).cell? ⟨B, 1, none⟩ = some (.int .i64 (k : Int)) := fun p => (h.iter t p).blk.cell 1
  have hI2 : ∀ p, (w.drew.iter t p).frozen? ⟨B, 1, none⟩ = false := fun p => (h.iter t p).blk.free 1
  go_enter Tryz.func75, Tryz.ntmps75
  go_wp2
  go_region
  all_goals go_wp2
  rw [← HTT.out]
  go_loopw [6] (fun v wr => ∃ pos : Nat, v = .int .i64 (t.size : Int) ∧ wr = w.drew.iter t pos ∧ pos ≤ t.size ∧ Hid (Lx.cnt Lx.notNl t.data.toList = pos + Lx.cnt Lx.notNl (t.data.toList.drop pos))) (fun _ wr => t.size - wr.iterPos w.heap.size)
  case atStart => exact ⟨0, by rw [show s.size - k = t.size from by omega], rfl, by omega, by show _ = _; simp⟩
  case round =>
    obtain ⟨pos, rfl, rfl, hpos, HK⟩ := hrel
    by_cases hlt : pos < t.size
    · have hnx : ∀ ty, (Instr.next (.pointer (some ⟨w.heap.size, 0, none⟩)) true ty).run Tryz.prog (w.drew.iter t pos) = .ok (.tuple #[.bool true, .int .i64 pos, .int .i32 (Utf8.decode t pos).1]) (w.drew.iter t (pos + (Utf8.decode t pos).2)) := fun ty => run_next_any (P := Tryz.prog) w.drew t pos ty hlt
      cases hp : rLine ((Utf8.decode t pos).1 : Int)
      · have HN := hd (fits_line.no t pos hlt hp)
        generalize (Utf8.decode t pos) = d at *
        obtain ⟨c, n⟩ := d
        go_wp2_with (go_at_call 78; refine (inLine_any _ _).mono ?_; rintro e w' ⟨rfl, rfl⟩)
        go_ret
        have hc : Lx.cnt Lx.notNl t.data.toList = pos := by rw [HK.out, HN.out]; rfl
        rw [hc]
        refine ⟨_, rfl, ?_, (h.iter t (pos + n)).set1 (k + pos) (by omega), grownBy_trans (grownBy_iter w t (pos + n) B) (grownBy_set _ B 1 _)⟩
        rw [Lib.extract_data]; simp
      · have HY := hd (fits_line.yes t pos hlt hp)
        generalize (Utf8.decode t pos) = d at *
        obtain ⟨c, n⟩ := d
        go_wp2_with (go_at_call 78; refine (inLine_any _ _).mono ?_; rintro e w' ⟨rfl, rfl⟩)
        go_roundw
        case rel =>
          obtain ⟨y1, y2, y3⟩ := HY.out
          try simp only at y1 y2 y3
          exact ⟨pos + n, rfl, rfl, y2, by have h1 := HK.out; show _ = _; omega⟩
        case measure =>
          obtain ⟨y1, y2, y3⟩ := HY.out
          try simp only at y1 y2 y3
          show t.size - (w.drew.iter t (pos + n)).iterPos w.drew.heap.size < t.size - (w.drew.iter t pos).iterPos w.drew.heap.size
          rw [World.iterPos_iter, World.iterPos_iter]; omega
    · have hnx : ∀ ty, (Instr.next (.pointer (some ⟨w.heap.size, 0, none⟩)) true ty).run Tryz.prog (w.drew.iter t pos) = .ok (.tuple #[.bool false]) (w.drew.iter t pos) := fun ty => run_next_end (P := Tryz.prog) w.drew t pos ty hlt
      go_wp2
      go_ret
      have hc : Lx.cnt Lx.notNl t.data.toList = t.size := by rw [HK.out, cnt_end Lx.notNl t pos (by omega)]; omega
      rw [hc]
      refine ⟨_, rfl, ?_, (h.iter t pos).set1 (k + t.size) (by omega), grownBy_trans (grownBy_iter w t pos B) (grownBy_set _ B 1 _)⟩
      rw [List.take_of_length_le (by simp)]

set_option maxRecDepth 100000 in
set_option maxHeartbeats 1000000 in
theorem takeAll_inWord (w : World) (B : Nat) (s : ByteArray) (k st : Nat) (h : Rd w B s k st) :
    Calls Tryz.prog 75 #[.pointer (some ⟨B, 0, none⟩), .func (.func 107) #[] #[]] w fun e w' => ∃ u : ByteArray, e = .returned (.string u) ∧ u.data.toList = (s.data.toList.drop k).take (Lx.cnt Lx.isWd (s.data.toList.drop k)) ∧ Rd w' B s (k + Lx.cnt Lx.isWd (s.data.toList.drop k)) st ∧ w.grownBy w' (some B) := by
  obtain ⟨⟨b0, b1, b2⟩, b3, b4, b5⟩ := h.blk.three
  have hle := h.le
  have hsm := h.small
  obtain ⟨t, ht⟩ : ∃ t, t = s.extract k s.size := ⟨_, rfl⟩
  have hT : t.data.toList = s.data.toList.drop k := by rw [ht]; exact Lib.extract_to_end s k
  have hts : t.size + k = s.size := by rw [ht]; simp; omega
  rw [← hT]
  have HT := hd hT
  have HTT := hd ht
  clear ht hT
  have hI1 : ∀ p, (w.drew.iter t p).cell? ⟨B, 1, none⟩ = some (.int .i64 (k : Int)) := fun p => (h.iter t p).blk.cell 1
  have hI2 : ∀ p, (w.drew.iter t p).frozen? ⟨B, 1, none⟩ = false := fun p => (h.iter t p).blk.free 1
  go_enter Tryz.func75, Tryz.ntmps75
  go_wp2
  go_region
  all_goals go_wp2
  rw [← HTT.out]
  go_loopw [6] (fun v wr => ∃ pos : Nat, v = .int .i64 (t.size : Int) ∧ wr = w.drew.iter t pos ∧ pos ≤ t.size ∧ Hid (Lx.cnt Lx.isWd t.data.toList = pos + Lx.cnt Lx.isWd (t.data.toList.drop pos))) (fun _ wr => t.size - wr.iterPos w.heap.size)
  case atStart => exact ⟨0, by rw [show s.size - k = t.size from by omega], rfl, by omega, by show _ = _; simp⟩
  case round =>
    obtain ⟨pos, rfl, rfl, hpos, HK⟩ := hrel
    by_cases hlt : pos < t.size
    · have hnx : ∀ ty, (Instr.next (.pointer (some ⟨w.heap.size, 0, none⟩)) true ty).run Tryz.prog (w.drew.iter t pos) = .ok (.tuple #[.bool true, .int .i64 pos, .int .i32 (Utf8.decode t pos).1]) (w.drew.iter t (pos + (Utf8.decode t pos).2)) := fun ty => run_next_any (P := Tryz.prog) w.drew t pos ty hlt
      cases hp : rWd ((Utf8.decode t pos).1 : Int)
      · have HN := hd (fits_wd.no t pos hlt hp)
        generalize (Utf8.decode t pos) = d at *
        obtain ⟨c, n⟩ := d
        go_wp2_with (go_at_call 107; refine (inWord_any _ _).mono ?_; rintro e w' ⟨rfl, rfl⟩)
        go_ret
        have hc : Lx.cnt Lx.isWd t.data.toList = pos := by rw [HK.out, HN.out]; rfl
        rw [hc]
        refine ⟨_, rfl, ?_, (h.iter t (pos + n)).set1 (k + pos) (by omega), grownBy_trans (grownBy_iter w t (pos + n) B) (grownBy_set _ B 1 _)⟩
        rw [Lib.extract_data]; simp
      · have HY := hd (fits_wd.yes t pos hlt hp)
        generalize (Utf8.decode t pos) = d at *
        obtain ⟨c, n⟩ := d
        go_wp2_with (go_at_call 107; refine (inWord_any _ _).mono ?_; rintro e w' ⟨rfl, rfl⟩)
        go_roundw
        case rel =>
          obtain ⟨y1, y2, y3⟩ := HY.out
          try simp only at y1 y2 y3
          exact ⟨pos + n, rfl, rfl, y2, by have h1 := HK.out; show _ = _; omega⟩
        case measure =>
          obtain ⟨y1, y2, y3⟩ := HY.out
          try simp only at y1 y2 y3
          show t.size - (w.drew.iter t (pos + n)).iterPos w.drew.heap.size < t.size - (w.drew.iter t pos).iterPos w.drew.heap.size
          rw [World.iterPos_iter, World.iterPos_iter]; omega
    · have hnx : ∀ ty, (Instr.next (.pointer (some ⟨w.heap.size, 0, none⟩)) true ty).run Tryz.prog (w.drew.iter t pos) = .ok (.tuple #[.bool false]) (w.drew.iter t pos) := fun ty => run_next_end (P := Tryz.prog) w.drew t pos ty hlt
      go_wp2
      go_ret
      have hc : Lx.cnt Lx.isWd t.data.toList = t.size := by rw [HK.out, cnt_end Lx.isWd t pos (by omega)]; omega
      rw [hc]
      refine ⟨_, rfl, ?_, (h.iter t pos).set1 (k + t.size) (by omega), grownBy_trans (grownBy_iter w t pos B) (grownBy_set _ B 1 _)⟩
      rw [List.take_of_length_le (by simp)]

end Go.Proofs.YtcdgihdhpaipaaaGreatDoor

namespace Go.Proofs.YtcdgihdhpaipaaaGreatDoor
open Go.RowKit
set_option linter.unusedSimpArgs false
set_option linter.unusedVariables false

/-- Where the reader in block B stands. -/
def atOf (w : World) (B : Nat) : Nat := match w.cell? ⟨B, 1, none⟩ with | some (.int _ q) => q.toNat | _ => 0
theorem Rd.atOf {w : World} {B : Nat} {s : ByteArray} {k st : Nat} (h : Rd w B s k st) : atOf w B = k := by
  have e : w.cell? ⟨B, 1, none⟩ = some (.int .i64 (k : Int)) := h.blk.cell 1
  unfold Go.Proofs.YtcdgihdhpaipaaaGreatDoor.atOf
  rw [e]; simp

theorem skip_spaces : ∀ l : Lx.Bs, Lx.skipM false l = Lx.cnt Lx.isSp l + Lx.skipM false (l.drop (Lx.cnt Lx.isSp l))
  | [] => by simp [Lx.skipM, Lx.cnt]
  | b :: r => by
    by_cases hb : Lx.isSp b = true
    · have ih := skip_spaces r
      have h45 : b.toNat ≠ 45 := by unfold Lx.isSp at hb; simp at hb; omega
      simp only [Lx.cnt, hb, if_true, List.drop_succ_cons]
      conv => lhs; unfold Lx.skipM
      rw [if_neg (by omega), if_pos hb]; omega
    · simp [Lx.cnt, hb]
theorem cnt_stop (q : UInt8 → Bool) : ∀ l : Lx.Bs, Lx.cnt q (l.drop (Lx.cnt q l)) = 0
  | [] => by simp [Lx.cnt]
  | b :: r => by
    by_cases hb : q b = true
    · simp only [Lx.cnt, hb, if_true, List.drop_succ_cons]; exact cnt_stop q r
    · simp [Lx.cnt, hb]
theorem skip_line : ∀ l : Lx.Bs, Lx.skipM true l = Lx.cnt Lx.notNl l + Lx.skipM false (l.drop (Lx.cnt Lx.notNl l))
  | [] => by simp [Lx.skipM, Lx.cnt]
  | b :: r => by
    by_cases hb : Lx.notNl b = true
    · have ih := skip_line r
      simp only [Lx.cnt, hb, if_true, List.drop_succ_cons]
      conv => lhs; unfold Lx.skipM
      rw [if_pos hb]; omega
    · have h10 : b.toNat = 10 := by unfold Lx.notNl at hb; simpa using hb
      have hs : Lx.isSp b = true := by unfold Lx.isSp; simp [h10]
      simp only [Lx.cnt, hb, Bool.false_eq_true, if_false, List.drop_zero, Nat.zero_add]
      conv => lhs; unfold Lx.skipM
      conv => rhs; unfold Lx.skipM
      rw [if_neg hb, if_neg (by omega), if_pos hs]

/-- Behind space: a comment, or nothing more is passed. -/
theorem skip_here (l : Lx.Bs) (h : Lx.cnt Lx.isSp l = 0) : Lx.skipM false l = if Lib.hasPrefix l [45, 45] = true then Lx.cnt Lx.notNl l + Lx.skipM false (l.drop (Lx.cnt Lx.notNl l)) else 0 := by
  have hp : Lib.hasPrefix l [45, 45] = true ↔ ∃ r, l = 45 :: 45 :: r := by
    unfold Lib.hasPrefix
    match l with
    | [] => simp
    | [b] => simp
    | b :: c :: r =>
      simp only [List.isPrefixOf, Bool.and_eq_true, beq_iff_eq, Bool.and_true]
      constructor
      · rintro ⟨rfl, rfl⟩; exact ⟨r, rfl⟩
      · rintro ⟨r', e⟩; simp at e; exact ⟨e.1.symm, e.2.1.symm⟩
  split
  · rename_i hq
    obtain ⟨r, rfl⟩ := hp.1 hq
    rw [← skip_line]
    conv => lhs; unfold Lx.skipM
    conv => rhs; unfold Lx.skipM
    rw [if_pos ⟨rfl, rfl⟩, if_pos (by decide)]
  · rename_i hq
    match l, h, hq, hp with
    | [], _, _, _ => rfl
    | b :: r, h, hq, hp =>
      have hs : ¬ Lx.isSp b = true := by intro hb; simp [Lx.cnt, hb] at h
      unfold Lx.skipM
      rw [if_neg, if_neg hs]
      rintro ⟨q1, q2⟩
      have : b = 45 := UInt8.toNat_inj.1 (by rw [q1]; rfl)
      subst this
      cases r with
      | nil => simp at q2
      | cons c r => simp at q2; subst q2; exact hq (hp.2 ⟨r, rfl⟩)

theorem dash_two (l : Lx.Bs) (h : Lib.hasPrefix l [45, 45] = true) : 1 ≤ Lx.cnt Lx.notNl l := by
  match l, h with
  | [], h => simp [Lib.hasPrefix] at h
  | b :: r, h =>
    have : b = 45 := by
      unfold Lib.hasPrefix at h
      simp only [List.isPrefixOf, Bool.and_eq_true, beq_iff_eq] at h
      exact h.1.symm
    subst this
    have : Lx.notNl 45 = true := by decide
    simp [Lx.cnt, this]

set_option maxRecDepth 100000 in
set_option maxHeartbeats 2000000 in
theorem pass_any (w : World) (B : Nat) (s : ByteArray) (k st : Nat) (h : Rd w B s k st) :
    Calls Tryz.prog 46 #[.pointer (some ⟨B, 0, none⟩)] w fun e w' => e = .returned (.bool (decide (k + Lx.skipN (s.data.toList.drop k) < s.size))) ∧ Rd w' B s (k + Lx.skipN (s.data.toList.drop k)) st ∧ w.grownBy w' (some B) := by
  have hsm := h.small
  have H := hd h
  clear h
  go_enter Tryz.func46, Tryz.ntmps46
  go_wp2
  go_loopw [4] (fun _ wr => ∃ j : Nat, Hid (Rd wr B s j st) ∧ Hid (w.grownBy wr (some B)) ∧ Hid (k + Lx.skipN (s.data.toList.drop k) = j + Lx.skipM false (s.data.toList.drop j))) (fun _ wr => s.size - atOf wr B)
  case atStart => exact ⟨k, H, grownBy_refl _ _, rfl⟩
  case round =>
    obtain ⟨j, HR, HG, HK⟩ := hrel
    go_wp2_with fail
    refine (takeAll_isSpace wr B s j st HR.out).mono ?_
    rintro e w1 ⟨u, rfl, -, h1, g1⟩
    have HE := hd (skip_spaces (s.data.toList.drop j))
    have HST := hd (cnt_stop Lx.isSp (s.data.toList.drop j))
    rw [List.drop_drop] at HE HST
    have hn : 0 ≤ Lx.cnt Lx.isSp (s.data.toList.drop j) := by omega
    generalize Lx.cnt Lx.isSp (s.data.toList.drop j) = n at *
    have G1 := hd (grownBy_trans HG.out g1)
    clear g1
    obtain ⟨⟨b0, b1, b2⟩, b3, b4, b5⟩ := h1.blk.three
    have hle1 := h1.le
    have HSK := hd (skip_here (s.data.toList.drop (j + n)) HST.out)
    have HX := hd (Lib.extract_to_end s (j + n))
    cases hpx : Lib.hasPrefix (s.data.toList.drop (j + n)) [45, 45]
    · go_wp2
      go_region_with (go_at_call 77; refine (Tryz.strings_HasPrefix _ _ _).mono ?_; rintro e w' ⟨rfl, rfl⟩; rw [HX.out])
      all_goals
        go_wp2
        go_region
        all_goals go_wp2
        all_goals go_ret
        all_goals
          have hk : k + Lx.skipN (s.data.toList.drop k) = j + n := by
            have e1 := HK.out; have e2 := HE.out; have e3 := HSK.out
            rw [hpx] at e3; simp only [Bool.false_eq_true, if_false] at e3; omega
          rw [hk]
          exact ⟨ret_bool (by rw [Bool.eq_iff_iff]; simp; omega), h1.drew.drew, grownBy_drew (grownBy_drew G1.out)⟩
    · have hd2 := dash_two _ hpx
      go_wp2
      go_region_with (go_at_call 77; refine (Tryz.strings_HasPrefix _ _ _).mono ?_; rintro e w' ⟨rfl, rfl⟩; rw [HX.out])
      all_goals
        go_wp2_with fail
        refine (takeAll_inLine _ B s (j + n) st h1.drew).mono ?_
        rintro e w2 ⟨u2, rfl, -, h2, g2⟩
        go_wp2
        refine ⟨⟨j + n + Lx.cnt Lx.notNl (s.data.toList.drop (j + n)), h2, grownBy_trans (grownBy_drew G1.out) g2, ?_⟩, ?_⟩
        · have e1 := HK.out; have e2 := HE.out; have e3 := HSK.out
          rw [hpx, List.drop_drop] at e3; simp only [if_true] at e3
          show _ = _; omega
        · have hle2 := h2.le
          rw [h2.atOf, HR.out.atOf]; omega

end Go.Proofs.YtcdgihdhpaipaaaGreatDoor

namespace Go.Proofs.YtcdgihdhpaipaaaGreatDoor
open Go.RowKit
set_option linter.unusedSimpArgs false
set_option linter.unusedVariables false

theorem index_key (k : Nat) (h : k < 27) (w : World) : (Instr.index 211 (.agg (strRow Lx.keys)) (.int .i64 (k : Int))).run Tryz.prog w = .ok (.string ⟨(Lx.keys.getD k []).toArray⟩) w := by
  have hk : Lx.keys[k]? = some (Lx.keys.getD k []) := by
    rw [List.getD_eq_getElem?_getD, List.getElem?_eq_getElem (show k < Lx.keys.length from h)]; rfl
  have hc : (strRow Lx.keys)[k]? = some (.string ⟨(Lx.keys.getD k []).toArray⟩) := by
    unfold strRow
    simp only [List.getElem?_toArray, List.getElem?_map, hk, Option.map_some]
  generalize strRow Lx.keys = cs at *
  simp [Instr.index, run_underlying Tryz.underlying211, asIntOf, part, Tryz.isAgg9, Tryz.sizeOf9, go_sem, h, hc]

theorem index_sign (k : Nat) (h : k < 16) (w : World) : (Instr.index 196 (.agg (strRow sgns)) (.int .i64 (k : Int))).run Tryz.prog w = .ok (.string ⟨(sgns.getD k []).toArray⟩) w := by
  have hk : sgns[k]? = some (sgns.getD k []) := by
    rw [List.getD_eq_getElem?_getD, List.getElem?_eq_getElem (show k < sgns.length from h)]; rfl
  have hc : (strRow sgns)[k]? = some (.string ⟨(sgns.getD k []).toArray⟩) := by
    unfold strRow
    simp only [List.getElem?_toArray, List.getElem?_map, hk, Option.map_some]
  generalize strRow sgns = cs at *
  simp [Instr.index, run_underlying Tryz.underlying196, asIntOf, part, Tryz.isAgg9, Tryz.sizeOf9, go_sem, h, hc]

set_option maxRecDepth 100000 in
set_option maxHeartbeats 1000000 in
theorem isKeyword_any (t : ByteArray) (w : World) (he : Env w) : Calls Tryz.prog 125 #[.string t] w fun e w' => e = .returned (.bool (Lx.hasB Lx.keys t.data.toList)) ∧ w' = w := by
  obtain ⟨ty, fr, hg⟩ := he.kws
  have HG := hd hg
  clear hg
  go_enter Tryz.func125, Tryz.ntmps125
  go_wp2_with (refine wpList_load_row rfl 211 _ rfl 1 rfl ty _ fr _ HG.out Tryz.underlying211 rfl (by kernel_rfl) ?_)
  go_loop [6] (fun i => ∃ k : Nat, k ≤ 27 ∧ i = .int .i64 k ∧ Hid (Lx.hasB Lx.keys t.data.toList = Lx.hasB (Lx.keys.drop k) t.data.toList)) (fun i => 27 - (intOf i).toNat)
  case atStart => exact ⟨0, by omega, rfl, rfl⟩
  case round =>
    obtain ⟨k, hk, rfl, HK⟩ := hrel
    by_cases hlt : k < 27
    · have hix := index_key k hlt
      have HS := hd (contains_at Lx.keys t.data.toList k hlt)
      obtain ⟨u, hu⟩ : ∃ u : ByteArray, u = ⟨(Lx.keys.getD k []).toArray⟩ := ⟨_, rfl⟩
      have HU : Hid (u.data.toList = Lx.keys.getD k []) := by rw [hu]; show _ = _; simp
      rw [← hu] at hix
      clear hu
      go_wp2
      · go_ret
        have q : (u.toList == t.toList) = true := by assumption
        exact ⟨ret_bool (by rw [HK.out, HS.out, ← HU.out, ← Lib.toList_data, ← Lib.toList_data, q]; simp), rfl⟩
      · go_round
        case rel =>
          have q : (u.toList == t.toList) = false := by assumption
          exact ⟨k + 1, by omega, by go_num, by show _ = _; rw [HK.out, HS.out, ← HU.out]; rw [Lib.toList_data, Lib.toList_data] at q; rw [q]; simp⟩
        case measure => simp [intOf]; omega
    · go_wp2
      go_ret
      exact ⟨ret_bool (by rw [HK.out, List.drop_eq_nil_of_le (by show 27 ≤ k; omega)]; rfl), rfl⟩

set_option maxRecDepth 100000 in
set_option maxHeartbeats 1000000 in
theorem isAbove_any (t : ByteArray) (w : World) (hm : t.size ≤ 100000) : Calls Tryz.prog 123 #[.string t, .string ⟨#[57, 50, 50, 51, 51, 55, 50, 48, 51, 54, 56, 53, 52, 55, 55, 53, 56, 48, 56]⟩] w fun e w' => e = .returned (.bool (Lx.overTop t.data.toList)) ∧ w' = w := by
  have HS := hd (Lib.size_eq t)
  have HTL := hd (Lib.toList_data t)
  by_cases h19 : t.size = 19
  · have q : ((t.size : Int) != 19) = false := by rw [h19]; rfl
    have HO : Hid (Lx.overTop t.data.toList = (!Op.bytesLess t.data.toList Lx.top && !(t.data.toList == Lx.top))) := by
      show _ = _
      unfold Lx.overTop
      rw [← HS.out, h19]; simp
    have H19 := hd h19
    clear h19
    go_enter Tryz.func123, Tryz.ntmps123
    go_wp2
    go_ret
    refine ⟨ret_bool ?_, rfl⟩
    rw [HO.out, ← HTL.out]
    rfl
  · have q : ((t.size : Int) != 19) = true := by rw [bne_iff_ne]; omega
    have HO : Hid (Lx.overTop t.data.toList = decide (19 < t.size)) := by
      show _ = _
      unfold Lx.overTop
      rw [← HS.out]; simp [h19]
    clear h19
    go_enter Tryz.func123, Tryz.ntmps123
    go_wp2
    go_ret
    refine ⟨ret_bool ?_, rfl⟩
    rw [HO.out, Bool.eq_iff_iff]; simp; omega

/-- What the reader says of one token: the token, and it stands behind it; or it gives up. -/
def Told (r : Except Nat (Nat × Lx.Bs × Nat)) (w : World) (B : Nat) (s : ByteArray) (k st : Nat) (out : Nat → ByteArray → Value) (e : Ending) (w' : World) : Prop :=
  w.grownBy w' (some B) ∧ match r with
  | .ok (c, t, n) => ∃ tv : ByteArray, tv.data.toList = t ∧ e = .returned (out c tv) ∧ Rd w' B s (k + n) st
  | .error c => e = .panicked [{ v := .iface 66 (.agg #[.int .i64 (st : Int), .int .i64 (c : Int)]), recovered := false }]

theorem cnt_wd_ascii : ∀ (l : Lx.Bs) (j : Nat) (b : UInt8), (l.take (Lx.cnt Lx.isWd l))[j]? = some b → b.toNat < 128
  | [], j, b, h => by simp at h
  | a :: r, j, b, h => by
    by_cases ha : Lx.isWd a = true
    · simp only [Lx.cnt, ha, if_true, List.take_succ_cons] at h
      cases j with
      | zero =>
        simp at h; subst h
        unfold Lx.isWd Lx.isDig Lx.isLet at ha
        simp at ha; omega
      | succ j => exact cnt_wd_ascii r j b (by simpa using h)
    · simp [Lx.cnt, ha] at h

theorem upperA_eq (l : Lx.Bs) : Lib.toUpperA l = l.map Lx.upB := by
  unfold Lib.toUpperA
  congr 1
  funext b
  unfold Lib.upperB Lx.upB Lib.isLowerB
  by_cases h : 97 ≤ b.toNat ∧ b.toNat ≤ 122
  · rw [if_pos h, if_pos]; simp [UInt8.le_iff_toNat_le]; exact h
  · rw [if_neg h, if_neg]; simp [UInt8.le_iff_toNat_le]; omega
theorem lowerA_eq (l : Lx.Bs) : Lib.toLowerA l = l.map Lx.lowB := by
  unfold Lib.toLowerA
  congr 1
  funext b
  unfold Lib.lowerB Lx.lowB Lib.isUpperB
  by_cases h : 65 ≤ b.toNat ∧ b.toNat ≤ 90
  · rw [if_pos h, if_pos]; simp [UInt8.le_iff_toNat_le]; exact h
  · rw [if_neg h, if_neg]; simp [UInt8.le_iff_toNat_le]; omega

def outTwo (c : Nat) (t : ByteArray) : Value := .tuple #[.int .i64 (c : Int), .string t]
def outOne (_ : Nat) (t : ByteArray) : Value := .string t

set_option maxRecDepth 100000 in
set_option maxHeartbeats 1000000 in
theorem word_any (w : World) (B : Nat) (s : ByteArray) (k st : Nat) (h : Rd w B s k st) (hk : k < s.size) (hl : Lx.isLet s[k] = true) :
    Calls Tryz.prog 108 #[.pointer (some ⟨B, 0, none⟩)] w (Told (Lx.oneT (s.data.toList.drop k)) w B s k st outTwo) := by
  have hsm := h.small
  have HL := hd (oneT_letter s k hk hl)
  have HA := hd (cnt_wd_ascii (s.data.toList.drop k))
  go_enter Tryz.func108, Tryz.ntmps108
  go_wp2_with fail
  refine (takeAll_inWord w B s k st h).mono ?_
  rintro e w1 ⟨u, rfl, hu, h1, g1⟩
  have HU := hd hu
  have hus : u.size ≤ 2000 := by
    rw [Lib.size_eq, hu]
    simp
    omega
  clear hu
  go_wp2_with fail
  refine (Tryz.strings_ToUpper_ascii u w1 (by omega) (by rw [HU.out]; exact HA.out)).mono ?_
  rintro e w2 ⟨rfl, hb2⟩
  rw [upperA_eq]
  obtain ⟨up, hup⟩ : ∃ up : ByteArray, up = ⟨(u.data.toList.map Lx.upB).toArray⟩ := ⟨_, rfl⟩
  rw [← hup]
  have HUP : Hid (up.data.toList = u.data.toList.map Lx.upB) := by rw [hup]; show _ = _; simp
  clear hup
  have h2 := h1.below hb2
  have G2 := hd (grownBy_trans g1 (Below.grownBy hb2))
  clear hb2
  go_wp2_with fail
  refine (isKeyword_any up w2 h2.env).mono ?_
  rintro e w' ⟨rfl, rfl⟩
  cases hkey : Lx.hasB Lx.keys up.data.toList
  · go_wp2_with fail
    refine (Tryz.strings_ToLower_ascii u _ (by omega) (by rw [HU.out]; exact HA.out)).mono ?_
    rintro e w3 ⟨rfl, hb3⟩
    rw [lowerA_eq]
    go_wp2
    go_ret2
    refine ⟨grownBy_trans G2.out (Below.grownBy hb3), ?_⟩
    rw [HL.out, ← HU.out, ← HUP.out, hkey]
    exact ⟨⟨(u.data.toList.map Lx.lowB).toArray⟩, by simp, rfl, h2.below hb3⟩
  · go_wp2
    go_ret2
    refine ⟨G2.out, ?_⟩
    rw [HL.out, ← HU.out, ← HUP.out, hkey]
    exact ⟨up, rfl, rfl, h2⟩

end Go.Proofs.YtcdgihdhpaipaaaGreatDoor

namespace Go.Proofs.YtcdgihdhpaipaaaGreatDoor
open Go.RowKit
set_option linter.unusedSimpArgs false
set_option linter.unusedVariables false

/-- The rune that stands next is one of a word just where the byte is. -/
theorem peek_fits {p : Int → Bool} {q : UInt8 → Bool} (hf : Fits p q) (h1 : p (-1) = false) (h2 : p (-2) = false) (hhigh : ∀ b : UInt8, 128 ≤ b.toNat → q b = false) (s : ByteArray) (k : Nat) : p (peekN s k).1 = decide (0 < Lx.cnt q (s.data.toList.drop k)) := by
  unfold peekN
  by_cases hk : k < s.size
  · rw [if_pos hk]
    by_cases hc : Lx.charN (s.data.toList.drop k) = 0
    · rw [if_pos hc]
      have := (dec_bad s k hk hc).2
      rw [cnt_at q s k hk, if_neg (by rw [hhigh _ this]; simp)]
      simpa using h2
    · rw [if_neg hc]
      simp only
      cases hp : p ((Utf8.decode s k).1 : Int)
      · rw [hf.no s k hk hp]; simp
      · have := hf.yes s k hk hp
        rw [this.1]; simp; omega
  · rw [if_neg hk, cnt_end q s k (by omega)]
    simpa using h1

theorem cnt_sub : ∀ l : Lx.Bs, Lx.cnt Lx.isWd l = Lx.cnt Lx.isDig l + Lx.cnt Lx.isWd (l.drop (Lx.cnt Lx.isDig l))
  | [] => by simp [Lx.cnt]
  | b :: r => by
    have ih := cnt_sub r
    by_cases hb : Lx.isDig b = true
    · have hw : Lx.isWd b = true := by simp [Lx.isWd, hb]
      simp only [Lx.cnt, hb, hw, if_true, List.drop_succ_cons]; omega
    · simp [Lx.cnt, hb]

theorem cnt_all (q : UInt8 → Bool) : ∀ l : Lx.Bs, ∀ b ∈ l.take (Lx.cnt q l), q b = true
  | [], b, h => by simp at h
  | a :: r, b, h => by
    by_cases ha : q a = true
    · simp only [Lx.cnt, ha, if_true, List.take_succ_cons, List.mem_cons] at h
      rcases h with rfl | h
      · exact ha
      · exact cnt_all q r b h
    · simp [Lx.cnt, ha] at h

theorem least_trim : ∀ l : Lx.Bs, l ≠ [] → Lx.leastB l = if l.dropWhile (· == 48) = [] then [48] else l.dropWhile (· == 48)
  | [], h => absurd rfl h
  | [b], _ => by
    by_cases hb : b = 48
    · subst hb; rfl
    · have hq : (b == 48) = false := by simpa using hb
      simp [Lx.leastB, List.dropWhile, hq]
  | b :: c :: r, _ => by
    have ih := least_trim (c :: r) (by simp)
    unfold Lx.leastB
    by_cases hb : b = 48
    · subst hb
      have e : List.dropWhile (fun x => x == 48) ((48 : UInt8) :: c :: r) = List.dropWhile (fun x => x == 48) (c :: r) := by rw [List.dropWhile_cons]; rfl
      rw [if_pos (show (48 : UInt8).toNat = 48 from rfl), ih, e]
    · have : ¬ b.toNat = 48 := fun e => hb (UInt8.toNat_inj.1 (by rw [e]; rfl))
      rw [if_neg this]
      have hq : (b == 48) = false := by simpa using hb
      simp [List.dropWhile, hq]

set_option maxRecDepth 100000 in
set_option maxHeartbeats 1000000 in
theorem number_any (w : World) (B : Nat) (s : ByteArray) (k st : Nat) (h : Rd w B s k st) (hk : k < s.size) (hl : Lx.isLet s[k] = false) (hdg : Lx.isDig s[k] = true) :
    Calls Tryz.prog 106 #[.pointer (some ⟨B, 0, none⟩)] w (Told (Lx.oneT (s.data.toList.drop k)) w B s k st outOne) := by
  have hsm := h.small
  have HL := hd (oneT_digit s k hk hl hdg)
  have HPos : Hid (0 < Lx.cnt Lx.isDig (s.data.toList.drop k)) := by show 0 < _; rw [drop_at s k hk]; exact Lx.cnt_pos hdg
  have HSub := hd (cnt_sub (s.data.toList.drop k))
  rw [List.drop_drop] at HSub
  go_enter Tryz.func106, Tryz.ntmps106
  go_wp2_with fail
  refine (takeAll_isDigit w B s k st h).mono ?_
  rintro e w1 ⟨u, rfl, hu, h1, g1⟩
  have hcl := Lx.cnt_le Lx.isDig (s.data.toList.drop k)
  rw [List.length_drop, show s.data.toList.length = s.size from by simp] at hcl
  generalize hgn : Lx.cnt Lx.isDig (s.data.toList.drop k) = n at *
  have HGN := hd hgn
  clear hgn
  have HU := hd hu
  have hus : u.size = n := by
    rw [Lib.size_eq, hu]
    simp; omega
  have hus2 : u.size ≤ 2000 := by omega
  have HUS := hd hus
  clear hu hus
  go_wp2_with fail
  refine (peek_any w1 B s (k + n) st h1).mono ?_
  rintro e w2 ⟨rfl, hb2⟩
  have h2 := h1.below hb2
  have G2 := hd (grownBy_trans g1 (Below.grownBy hb2))
  clear hb2
  have HPk := hd (peek_fits fits_wd (by decide) (by decide) (fun b hb => by unfold Lx.isWd Lx.isDig Lx.isLet; simp; omega) s (k + n))
  generalize peekN s (k + n) = d at *
  obtain ⟨c, m⟩ := d
  simp only at HPk ⊢
  go_wp2_with fail
  refine (inWord_any _ _).mono ?_
  rintro e w' ⟨rfl, rfl⟩
  rw [HPk.out]
  by_cases hw : 0 < Lx.cnt Lx.isWd (s.data.toList.drop (k + n))
  · go_wp2_with fail
    refine (fail_any _ B s (k + n) st 2 h2).mono ?_
    rintro e w3 ⟨rfl, rfl⟩
    refine ⟨rfl, G2.out, ?_⟩
    rw [HL.out, if_pos (by rw [HSub.out]; omega)]
    rfl
  · have HL2 : Hid (Lx.oneT (s.data.toList.drop k) = if Lx.overTop (Lx.leastB u.data.toList) then .error 3 else .ok (16, Lx.leastB u.data.toList, n)) := by rw [HL.out, if_neg (by rw [HSub.out]; omega), HU.out]; rfl
    go_wp2_with fail
    refine (Tryz.strings_TrimLeft_one u 48 (by decide) _).mono ?_
    rintro e w3 ⟨rfl, rfl⟩
    obtain ⟨t, htt⟩ : ∃ t : ByteArray, t = ⟨(Lib.trimLeftB u.data.toList 48).toArray⟩ := ⟨_, rfl⟩
    rw [← htt]
    have HTT : Hid (t.data.toList = u.data.toList.dropWhile (· == 48)) := by rw [htt]; show _ = _; simp [Lib.trimLeftB]
    clear htt
    have hts : t.size ≤ 2000 := by
      rw [Lib.size_eq, HTT.out]
      have := (List.dropWhile_suffix (l := u.data.toList) (· == 48)).length_le
      rw [← Lib.size_eq] at this
      omega
    have HLT := hd (least_trim u.data.toList (by intro e; have := HUS.out; rw [Lib.size_eq, e] at this; have := HPos.out; simp at *; omega))
    rw [← HTT.out] at HLT
    cases hem : t.toList.isEmpty
    · have hne : t.data.toList ≠ [] := by intro e; rw [Lib.toList_data, e] at hem; cases hem
      have HNE := hd hne
      clear hne
      go_wp2_with fail
      refine (isAbove_any t _ (by omega)).mono ?_
      rintro e w3 ⟨rfl, rfl⟩
      cases hov : Lx.overTop t.data.toList
      · go_wp2
        go_ret
        refine ⟨G2.out, ?_⟩
        rw [HL2.out, HLT.out, if_neg HNE.out, hov]
        exact ⟨t, rfl, rfl, h2⟩
      · go_wp2_with fail
        refine (fail_any _ B s (k + n) st 3 h2).mono ?_
        rintro e w3 ⟨rfl, rfl⟩
        refine ⟨rfl, G2.out, ?_⟩
        rw [HL2.out, HLT.out, if_neg HNE.out, hov]
        rfl
    · have he : t.data.toList = [] := by rw [Lib.toList_data] at hem; simpa using hem
      have HE := hd he
      clear he
      go_wp2
      go_ret
      refine ⟨G2.out, ?_⟩
      rw [HL2.out, HLT.out, if_pos HE.out]
      exact ⟨⟨#[48]⟩, rfl, rfl, h2⟩

/-- The first sign of a list that a text begins with. -/
def firstPre : List Lx.Bs → Lx.Bs → Option Lx.Bs
  | [], _ => none
  | a :: r, l => if Lib.hasPrefix l a then some a else firstPre r l

theorem hasB_cons (a : Lx.Bs) (ss : List Lx.Bs) (x : Lx.Bs) : Lx.hasB (a :: ss) x = true ↔ a = x ∨ Lx.hasB ss x = true := by
  show (a == x || Lx.hasB ss x) = true ↔ _
  simp

theorem firstPre_two (l : Lx.Bs) : ∀ ss : List Lx.Bs, (∀ x ∈ ss, x.length = 2) → ∀ rest, firstPre (ss ++ rest) l = if 2 ≤ l.length ∧ Lx.hasB ss (l.take 2) = true then some (l.take 2) else firstPre rest l
  | [], _, rest => by simp [Lx.hasB]
  | a :: ss, h, rest => by
    have ih := firstPre_two l ss (fun x hx => h x (by simp [hx])) rest
    have ha : a.length = 2 := h a (by simp)
    have hp := Lib.hasPrefix_of_take l a
    rw [ha] at hp
    show (if Lib.hasPrefix l a = true then some a else firstPre (ss ++ rest) l) = _
    by_cases hc : 2 ≤ l.length ∧ l.take 2 = a
    · rw [if_pos (by rw [← hp]; simp [hc.1, hc.2]), if_pos ⟨hc.1, (hasB_cons _ _ _).2 (.inl hc.2.symm)⟩, hc.2]
    · rw [if_neg (by rw [← hp]; simpa using fun h1 h2 => hc ⟨h1, h2⟩), ih]
      by_cases hd : 2 ≤ l.length ∧ Lx.hasB ss (l.take 2) = true
      · rw [if_pos hd, if_pos ⟨hd.1, (hasB_cons _ _ _).2 (.inr hd.2)⟩]
      · rw [if_neg hd, if_neg]
        rintro ⟨q1, q2⟩
        rcases (hasB_cons _ _ _).1 q2 with q | q
        · exact hc ⟨q1, q.symm⟩
        · exact hd ⟨q1, q⟩
theorem firstPre_one (l : Lx.Bs) (hl : l ≠ []) : ∀ ss : List Lx.Bs, (∀ x ∈ ss, x.length = 1) → firstPre ss l = if Lx.hasB ss (l.take 1) = true then some (l.take 1) else none
  | [], _ => by simp [Lx.hasB, firstPre]
  | a :: ss, h => by
    have ih := firstPre_one l hl ss (fun x hx => h x (by simp [hx]))
    have ha : a.length = 1 := h a (by simp)
    have hp := Lib.hasPrefix_of_take l a
    rw [ha] at hp
    have h1 : 1 ≤ l.length := List.length_pos_iff.2 hl
    show (if Lib.hasPrefix l a = true then some a else firstPre ss l) = _
    by_cases hc : l.take 1 = a
    · rw [if_pos (by rw [← hp]; simp [h1, hc]), if_pos ((hasB_cons _ _ _).2 (.inl hc.symm)), hc]
    · rw [if_neg (by rw [← hp]; simpa using fun _ h2 => hc h2), ih]
      by_cases hd : Lx.hasB ss (l.take 1) = true
      · rw [if_pos hd, if_pos ((hasB_cons _ _ _).2 (.inr hd))]
      · rw [if_neg hd, if_neg]
        intro q2
        rcases (hasB_cons _ _ _).1 q2 with q | q
        · exact hc q.symm
        · exact hd q

theorem sign_spec (s : ByteArray) (k : Nat) (hk : k < s.size) (hl : Lx.isLet s[k] = false) (hdg : Lx.isDig s[k] = false) (hq : ¬ (s[k].toNat = 39 ∨ s[k].toNat = 34)) :
    Lx.oneT (s.data.toList.drop k) = match firstPre sgns (s.data.toList.drop k) with | some x => .ok (51, x, x.length) | none => .error 2 := by
  have e := drop_at s k hk
  have el : (s.data.toList.drop k).length = s.size - k := by simp
  rw [oneT_sign s k hk hl hdg hq]
  unfold sgns
  rw [firstPre_two _ Lx.twos (by decide) Lx.ones, firstPre_one _ (by rw [e]; simp) Lx.ones (by decide), el]
  by_cases h1 : 2 ≤ s.size - k ∧ Lx.hasB Lx.twos ((s.data.toList.drop k).take 2) = true
  · rw [if_pos h1, if_pos h1]
    simp only
    rw [List.length_take, el, Nat.min_eq_left h1.1]
  · rw [if_neg h1, if_neg h1]
    by_cases h2 : Lx.hasB Lx.ones ((s.data.toList.drop k).take 1) = true
    · rw [if_pos h2, if_pos h2]
      simp only
      rw [List.length_take, el, Nat.min_eq_left (by omega)]
    · rw [if_neg h2, if_neg h2]

theorem firstPre_at (ss : List Lx.Bs) (l : Lx.Bs) (k : Nat) (h : k < ss.length) : firstPre (ss.drop k) l = if Lib.hasPrefix l (ss.getD k []) then some (ss.getD k []) else firstPre (ss.drop (k + 1)) l := by
  rw [List.drop_eq_getElem_cons h, List.getD_eq_getElem?_getD, List.getElem?_eq_getElem h]
  rfl

theorem hasPrefix_le {l p : Lx.Bs} (h : Lib.hasPrefix l p = true) : p.length ≤ l.length := by
  unfold Lib.hasPrefix at h
  exact (List.isPrefixOf_iff_prefix.1 h).length_le

set_option maxRecDepth 100000 in
set_option maxHeartbeats 1000000 in
theorem sign_any (w : World) (B : Nat) (s : ByteArray) (k st : Nat) (h : Rd w B s k st) (hk : k < s.size) (hl : Lx.isLet s[k] = false) (hdg : Lx.isDig s[k] = false) (hq : ¬ (s[k].toNat = 39 ∨ s[k].toNat = 34)) :
    Calls Tryz.prog 111 #[.pointer (some ⟨B, 0, none⟩)] w (Told (Lx.oneT (s.data.toList.drop k)) w B s k st outOne) := by
  have hsm := h.small
  have HSp := hd (sign_spec s k hk hl hdg hq)
  obtain ⟨ty, fr, hg⟩ := h.env.sgs
  have HG : Hid (w.drew.heap[0]? = some (.cells (strRow sgns) ty fr)) := hg
  clear hg hl hdg hq
  obtain ⟨⟨b0, b1, b2⟩, b3, b4, b5⟩ := h.blk.three
  have HX := hd (Lib.extract_to_end s k)
  go_enter Tryz.func111, Tryz.ntmps111
  go_wp2
  go_region
  all_goals go_wp2_with (refine wpList_load_row rfl 196 _ rfl 0 rfl ty _ fr _ HG.out Tryz.underlying196 rfl (by kernel_rfl) ?_)
  go_loop [16] (fun i => ∃ j : Nat, j ≤ 16 ∧ i = .int .i64 j ∧ Hid (firstPre sgns (s.data.toList.drop k) = firstPre (sgns.drop j) (s.data.toList.drop k))) (fun i => 16 - (intOf i).toNat)
  case atStart => exact ⟨0, by omega, rfl, rfl⟩
  case round =>
    obtain ⟨j, hj, rfl, HK⟩ := hrel
    by_cases hlt : j < 16
    · have hix := index_sign j hlt
      have HS := hd (firstPre_at sgns (s.data.toList.drop k) j hlt)
      obtain ⟨u, hu⟩ : ∃ u : ByteArray, u = ⟨(sgns.getD j []).toArray⟩ := ⟨_, rfl⟩
      have HU : Hid (u.data.toList = sgns.getD j []) := by rw [hu]; show _ = _; simp
      rw [← hu] at hix
      clear hu
      rw [← HU.out] at HS
      go_wp2_with fail
      refine (Tryz.strings_HasPrefix _ _ _).mono ?_
      rintro e w' ⟨rfl, rfl⟩
      rw [HX.out]
      cases hpx : Lib.hasPrefix (s.data.toList.drop k) u.data.toList
      · go_wp2
        go_round
        case rel => exact ⟨j + 1, by omega, by go_num, by show _ = _; rw [HK.out, HS.out, hpx]; rfl⟩
        case measure => simp [intOf]; omega
      · have hul : u.size ≤ s.size - k := by
          have := hasPrefix_le hpx
          rw [← Lib.size_eq] at this
          simpa using this
        go_wp2
        go_ret
        refine ⟨grownBy_trans (grownBy_drew (grownBy_refl _ _)) (grownBy_set _ B 1 _), ?_⟩
        rw [HSp.out, HK.out, HS.out, hpx]
        refine ⟨u, rfl, rfl, ?_⟩
        have := h.drew.set1 (k + u.size) (by omega)
        rw [← Lib.size_eq]; exact this
    · go_wp2_with fail
      refine (fail_any _ B s k st 2 h.drew).mono ?_
      rintro e w3 ⟨rfl, rfl⟩
      refine ⟨rfl, grownBy_drew (grownBy_refl _ _), ?_⟩
      rw [HSp.out, HK.out, List.drop_eq_nil_of_le (by show 16 ≤ j; omega)]
      rfl

end Go.Proofs.YtcdgihdhpaipaaaGreatDoor

namespace Go.Proofs.YtcdgihdhpaipaaaGreatDoor
open Go.RowKit
set_option linter.unusedSimpArgs false
set_option linter.unusedVariables false

theorem folB_take (l x : Lx.Bs) (n i lo hi : Nat) (hi' : i < n) (hn : n ≤ l.length) : Lx.folB (l.take n ++ x) i lo hi = Lx.folB l i lo hi := by
  unfold Lx.folB
  rw [List.getElem?_append_left (by simp; omega), List.getElem?_take_of_lt hi']

theorem charN_take (l x : Lx.Bs) (h0 : Lx.charN l ≠ 0) : Lx.charN (l.take (Lx.charN l) ++ x) = Lx.charN l := by
  have hle := Lx.charN_le l
  obtain ⟨n, hn⟩ : ∃ n, Lx.charN l = n := ⟨_, rfl⟩
  rw [hn] at h0 hle ⊢
  match l, hn, hle with
  | [], hn, hle => simp [Lx.charN] at hn; omega
  | b :: r, hn, hle =>
    obtain ⟨n', rfl⟩ : ∃ n', n = n' + 1 := ⟨n - 1, by omega⟩
    have ft := folB_take (b :: r) x (n' + 1)
    have e : (b :: r).take (n' + 1) ++ x = b :: (r.take n' ++ x) := by simp
    simp only [e] at ft
    rw [e]
    simp only [Lx.charN] at hn ⊢
    by_cases c1 : b.toNat < 128
    · rw [if_pos c1] at hn ⊢; exact hn
    · rw [if_neg c1] at hn ⊢
      by_cases c2 : (194 ≤ b.toNat ∧ b.toNat ≤ 223) ∧ Lx.folB (b :: r) 1 128 191 = true
      · rw [if_pos c2] at hn
        rw [if_pos ⟨c2.1, by rw [ft 1 128 191 (by omega) hle]; exact c2.2⟩]; exact hn
      · rw [if_neg c2] at hn
        by_cases c3 : (224 ≤ b.toNat ∧ b.toNat ≤ 239) ∧ Lx.folB (b :: r) 1 (Lx.loOf b.toNat) (Lx.hiOf b.toNat) = true ∧ Lx.folB (b :: r) 2 128 191 = true
        · rw [if_pos c3] at hn
          rw [if_neg (by omega), if_pos ⟨c3.1, by rw [ft 1 _ _ (by omega) hle]; exact c3.2.1, by rw [ft 2 _ _ (by omega) hle]; exact c3.2.2⟩]; exact hn
        · rw [if_neg c3] at hn
          by_cases c4 : (240 ≤ b.toNat ∧ b.toNat ≤ 244) ∧ Lx.folB (b :: r) 1 (Lx.loOf b.toNat) (Lx.hiOf b.toNat) = true ∧ Lx.folB (b :: r) 2 128 191 = true ∧ Lx.folB (b :: r) 3 128 191 = true
          · rw [if_pos c4] at hn
            rw [if_neg (by omega), if_neg (by omega), if_pos ⟨c4.1, by rw [ft 1 _ _ (by omega) hle]; exact c4.2.1, by rw [ft 2 _ _ (by omega) hle]; exact c4.2.2.1, by rw [ft 3 _ _ (by omega) hle]; exact c4.2.2.2⟩]; exact hn
          · rw [if_neg c4] at hn; omega

/-- A valid character that is no nought goes ahead of whatever follows. -/
theorem valid_char (l x : Lx.Bs) (h0 : Lx.charN l ≠ 0) (hb : ∀ b r, l = b :: r → b.toNat ≠ 0) : Lx.validN (l.take (Lx.charN l) ++ x) = Lx.validN x := by
  have hle := Lx.charN_le l
  have hc := charN_take l x h0
  obtain ⟨n, hn⟩ : ∃ n, Lx.charN l = n := ⟨_, rfl⟩
  rw [hn] at h0 hle hc ⊢
  match l, hb, hle, hc with
  | [], hb, hle, hc => simp at hle; omega
  | b :: r, hb, hle, hc =>
    obtain ⟨n', rfl⟩ : ∃ n', n = n' + 1 := ⟨n - 1, by omega⟩
    have e : (b :: r).take (n' + 1) ++ x = b :: (r.take n' ++ x) := by simp
    rw [e] at hc ⊢
    rw [Lx.validN_cons, hc, if_neg (by have := hb b r rfl; omega)]
    congr 1
    simp only [List.drop_succ_cons]
    have hl : (r.take n').length = n' := by simp at hle ⊢; omega
    rw [List.drop_append, hl, Nat.sub_self, List.drop_zero, List.drop_eq_nil_of_le (by omega), List.nil_append]

theorem betw_head (m : UInt8) (r x : Lx.Bs) (n lo hi : Nat) (hm : m.toNat < lo) (h : Lx.betw m r = some (x, n)) : Lx.folB x 0 lo hi = Lx.folB r 0 lo hi ∧ (Lx.folB r 0 lo hi = true → ∃ c r1 x1 n1, r = c :: r1 ∧ x = c :: x1 ∧ Lx.betw m r1 = some (x1, n1)) := by
  match r, h with
  | [], h => simp [Lx.betw] at h
  | c :: r1, h =>
    by_cases hc : c = m
    · subst hc
      have fr : Lx.folB (c :: r1) 0 lo hi = false := by simp [Lx.folB]; omega
      rw [fr]
      refine ⟨?_, by simp⟩
      match r1, h with
      | [], h => simp [Lx.betw] at h; rw [h.1]; rfl
      | d :: r2, h =>
        simp only [Lx.betw, if_true] at h
        split at h
        · simp only [Option.map_eq_some_iff, Prod.exists, Prod.mk.injEq] at h
          obtain ⟨x', n', _, rfl, _⟩ := h
          simp [Lx.folB]; omega
        · simp at h; rw [h.1]; rfl
    · rw [betw_other m c r1 hc] at h
      simp only [Option.map_eq_some_iff, Prod.exists, Prod.mk.injEq] at h
      obtain ⟨x1, n1, h1, rfl, _⟩ := h
      exact ⟨rfl, fun _ => ⟨c, r1, x1, n1, rfl, rfl, h1⟩⟩

theorem folB_succ (b : UInt8) (r : Lx.Bs) (i lo hi : Nat) : Lx.folB (b :: r) (i + 1) lo hi = Lx.folB r i lo hi := by
  unfold Lx.folB
  rw [List.getElem?_cons_succ]

/-- Where no valid character begins, none begins in what stands between. -/
theorem betw_char (m b : UInt8) (r x : Lx.Bs) (n : Nat) (hm : m.toNat < 128) (h : Lx.betw m r = some (x, n)) : Lx.charN (b :: x) = Lx.charN (b :: r) := by
  have lo : ∀ b, 128 ≤ Lx.loOf b := by
    intro b; unfold Lx.loOf
    repeat' split
    all_goals omega
  have e1 := (betw_head m r x n 128 191 (by omega) h).1
  have e2 := betw_head m r x n (Lx.loOf b.toNat) (Lx.hiOf b.toNat) (by have := lo b.toNat; omega) h
  simp only [Lx.charN, folB_succ b x 0, folB_succ b r 0, folB_succ b x 1, folB_succ b r 1, folB_succ b x 2, folB_succ b r 2, e1, e2.1]
  cases hn : Lx.folB r 0 (Lx.loOf b.toNat) (Lx.hiOf b.toNat)
  · simp
  · obtain ⟨c, r1, x1, n1, rfl, rfl, h1⟩ := e2.2 hn
    have e3 := betw_head m r1 x1 n1 128 191 (by omega) h1
    simp only [folB_succ c x1 0, folB_succ c r1 0, folB_succ c x1 1, folB_succ c r1 1, e3.1]
    cases hn2 : Lx.folB r1 0 128 191
    · simp
    · obtain ⟨d, r2, x2, n2, rfl, rfl, h2⟩ := e3.2 hn2
      have e4 := betw_head m r2 x2 n2 128 191 (by omega) h2
      simp only [folB_succ d x2 0, folB_succ d r2 0, e4.1]

/-- What stands between is not valid where the reader meets a byte that begins no character, or a nought. -/
theorem betw_bad (m : UInt8) (l t : Lx.Bs) (n : Nat) (hm : m.toNat < 128) (hm0 : m.toNat ≠ 0) (hl : l ≠ []) (h : Lx.betw m l = some (t, n)) (hb : Lx.charN l = 0 ∨ l.head? = some 0) : Lx.validN t = false := by
  match l, hl, h, hb with
  | b :: r, _, h, hb =>
    have hbm : b ≠ m := by
      rintro rfl
      rcases hb with hb | hb
      · simp [Lx.charN, hm] at hb
      · simp at hb; subst hb; simp at hm0
    rw [betw_other m b r hbm] at h
    simp only [Option.map_eq_some_iff, Prod.exists, Prod.mk.injEq] at h
    obtain ⟨x, n', h1, rfl, _⟩ := h
    rw [Lx.validN_cons, if_pos]
    rcases hb with hb | hb
    · left; rw [betw_char m b r x n' hm h1]; exact hb
    · right; simp at hb; subst hb; rfl

theorem BetwAt.others {m : UInt8} : ∀ (n : Nat) {l : Lx.Bs} {k : Nat} {acc : Lx.Bs}, BetwAt m l k acc → k + n ≤ l.length → (∀ j, j < n → (l.drop k)[j]? ≠ some m) → BetwAt m l (k + n) (acc ++ (l.drop k).take n)
  | 0, l, k, acc, h, _, _ => by simpa using h
  | n + 1, l, k, acc, h, hk, hne => by
    have e : l.drop k = l[k]'(by omega) :: l.drop (k + 1) := List.drop_eq_getElem_cons (by omega)
    have h1 := h.other e (by have := hne 0 (by omega); rw [e, List.getElem?_cons_zero] at this; exact fun q => this (by rw [q]))
    have h2 := BetwAt.others n h1 (by omega) (fun j hj => by have := hne (j + 1) (by omega); rw [e, List.getElem?_cons_succ] at this; exact this)
    rw [show k + 1 + n = k + (n + 1) from by omega] at h2
    rw [e, List.take_succ_cons]
    simpa using h2

/-- What the reader says of what stands in quotes. -/
def quoteR (s : ByteArray) (k : Nat) (m : UInt8) : Except Nat (Nat × Lx.Bs × Nat) :=
  match Lx.betw m (s.data.toList.drop (k + 1)) with
  | some (t, n) => if Lx.validN t = true then .ok (0, t, n + 1) else .error 2
  | none => .error 2

/-- The reader's state in quotes: what is read is valid so far. -/
structure Quo (s : ByteArray) (k : Nat) (m : UInt8) (j : Nat) (acc : Lx.Bs) : Prop where
  at_ : BetwAt m (s.data.toList.drop (k + 1)) (j - (k + 1)) acc
  ge : k + 1 ≤ j
  ok : ∀ x, Lx.validN (acc ++ x) = Lx.validN x

theorem Quo.dropped {s : ByteArray} {k : Nat} {m : UInt8} {j : Nat} {acc : Lx.Bs} (h : Quo s k m j acc) : (s.data.toList.drop (k + 1)).drop (j - (k + 1)) = s.data.toList.drop j := by
  rw [List.drop_drop]; congr 1; have := h.ge; omega
theorem Quo.len {s : ByteArray} {k : Nat} {m : UInt8} {j : Nat} {acc : Lx.Bs} (h : Quo s k m j acc) : acc.length ≤ j := by
  have := h.at_.2; omega

theorem Quo.start (s : ByteArray) (k : Nat) (m : UInt8) : Quo s k m (k + 1) [] :=
  ⟨by rw [Nat.sub_self]; exact BetwAt.start _ _, by omega, fun x => rfl⟩

/-- The text ends, or a byte begins no character, or there is a nought: it gives up. -/
theorem Quo.fail {s : ByteArray} {k : Nat} {m : UInt8} {j : Nat} {acc : Lx.Bs} (h : Quo s k m j acc) (hm : m.toNat < 128) (hm0 : m.toNat ≠ 0)
    (hb : s.data.toList.drop j = [] ∨ Lx.charN (s.data.toList.drop j) = 0 ∨ (s.data.toList.drop j).head? = some 0) : quoteR s k m = .error 2 := by
  unfold quoteR
  have hq := h.at_.1
  rw [h.dropped] at hq
  by_cases he : s.data.toList.drop j = []
  · rw [he] at hq
    rw [hq]; rfl
  · cases hbe : Lx.betw m (s.data.toList.drop j) with
    | none => rw [hbe] at hq; rw [hq]; rfl
    | some y =>
      obtain ⟨x, n⟩ := y
      rw [hbe] at hq
      rw [hq]
      simp only [Option.map_some]
      rw [h.ok, betw_bad m _ x n hm hm0 he hbe (hb.resolve_left he)]
      rfl

/-- A mark that stands alone ends it. -/
theorem Quo.done {s : ByteArray} {k : Nat} {m : UInt8} {j : Nat} {acc r : Lx.Bs} (h : Quo s k m j acc) (e : s.data.toList.drop j = m :: r) (hr : r.head? ≠ some m) : quoteR s k m = .ok (0, acc, j - k + 1) := by
  unfold quoteR
  have hq := h.at_.last (r := r) (by rw [h.dropped, e]) hr
  rw [hq]
  have hv := h.ok []
  rw [List.append_nil] at hv
  simp only
  rw [hv, if_pos (show Lx.validN [] = true from rfl)]
  have := h.ge
  congr 3; omega

/-- Two marks stand for one. -/
theorem Quo.double {s : ByteArray} {k : Nat} {m : UInt8} {j : Nat} {acc r : Lx.Bs} (h : Quo s k m j acc) (hm : m.toNat < 128) (hm0 : m.toNat ≠ 0) (e : s.data.toList.drop j = m :: m :: r) : Quo s k m (j + 2) (acc ++ [m]) := by
  have hg := h.ge
  refine ⟨?_, by omega, ?_⟩
  · rw [show j + 2 - (k + 1) = j - (k + 1) + 2 from by omega]
    exact h.at_.double (r := r) (by rw [h.dropped, e])
  · intro x
    rw [List.append_assoc, h.ok]
    have hc : Lx.charN [m] = 1 := by simp [Lx.charN, hm]
    have := valid_char [m] x (by rw [hc]; simp) (by rintro b r' e'; simp at e'; rw [← e'.1]; exact hm0)
    rw [hc] at this
    exact this

/-- A character that is no mark stands for itself. -/
theorem Quo.char {s : ByteArray} {k : Nat} {m : UInt8} {j : Nat} {acc : Lx.Bs} (h : Quo s k m j acc) (hj : j < s.size) (hm : m.toNat < 128) (hc : Lx.charN (s.data.toList.drop j) ≠ 0) (h0 : s[j].toNat ≠ 0) (hne : s[j] ≠ m) :
    Quo s k m (j + Lx.charN (s.data.toList.drop j)) (acc ++ (s.data.toList.drop j).take (Lx.charN (s.data.toList.drop j))) := by
  have hg := h.ge
  have hle := Lx.charN_le (s.data.toList.drop j)
  have hsz : s.data.toList.length = s.size := by simp
  rw [List.length_drop, hsz] at hle
  have hgood := dec_good s j hj hc
  have e := drop_at s j hj
  refine ⟨?_, by omega, ?_⟩
  · rw [show j + Lx.charN (s.data.toList.drop j) - (k + 1) = j - (k + 1) + Lx.charN (s.data.toList.drop j) from by omega]
    have := BetwAt.others (Lx.charN (s.data.toList.drop j)) h.at_ (by rw [List.length_drop, hsz]; omega) (by
      intro i hi
      rw [h.dropped, List.getElem?_drop, List.getElem?_eq_getElem (by rw [hsz]; omega)]
      rcases hgood.2.2 with ⟨q, _, _⟩ | ⟨q, _, q2⟩
      · have : i = 0 := by omega
        subst this
        exact fun q => hne (Option.some.inj q)
      · have hh := (char_high s j hj q2).2.2 i (by rw [hgood.1]; exact hi)
        rw [get_here s (j + i) (by omega)] at hh
        intro e2
        have : s[j + i] = m := Option.some.inj e2
        rw [this] at hh
        omega)
    rw [h.dropped] at this
    exact this
  · intro x
    rw [List.append_assoc, h.ok]
    exact valid_char _ x hc (by rintro b r' e'; rw [e] at e'; simp at e'; rw [← e'.1]; exact h0)

end Go.Proofs.YtcdgihdhpaipaaaGreatDoor

namespace Go.Proofs.YtcdgihdhpaipaaaGreatDoor
open Go.RowKit
set_option linter.unusedSimpArgs false
set_option linter.unusedVariables false

theorem Rd.under {w w' : World} {B N : Nat} {s : ByteArray} {k st : Nat} (h : Rd w B s k st) (hb : Below N w w') (hB : B < N) : Rd w' B s k st := by
  have hlow := h.low
  have hk : ∀ i, i < 12 → w'.heap[i]? = w.heap[i]? := fun i hi => hb.block i (by omega)
  refine ⟨h.blk.below hb hB, h.low, ⟨⟨fun c hc => ?_, fun i hi => ?_⟩, ?_, ?_, Nat.le_trans h.env.room hb.size⟩, h.le, h.small⟩
  · rw [World.cell?_of_block (w := w) (hk _ (by simp))]; exact h.env.tabs.1 c hc
  · rw [World.cell?_of_block (w := w) (hk _ (by simp)), World.cell?_of_block (w := w) (hk _ (by simp))]; exact h.env.tabs.2 i hi
  · rw [hk _ (by simp)]; exact h.env.kws
  · rw [hk _ (by simp)]; exact h.env.sgs

theorem grownBy_under {w w1 w2 : World} {N : Nat} {row : Option Nat} (h : w.grownBy w1 row) (hb : Below N w1 w2) (hN : w.heap.size ≤ N) : w.grownBy w2 row :=
  ⟨hb.os.trans h.os, hb.tape.trans h.tape, hb.output.trans h.output, Nat.le_trans h.size hb.size, fun k hk hne => (hb.block k (by omega)).trans (h.block k hk hne)⟩

theorem builder_kept {T e : TypeId} {N b B : Nat} {bs : List Value} {w w' : World} (h : Lib.IsBuilderF T e N b bs w) (hg : w.grownBy w' (some B)) (hB : B < N) : Lib.IsBuilderF T e N b bs w' := by
  have one : ∀ p, Lib.BuilderAtF T e N b p bs w → Lib.BuilderAtF T e N b p bs w' := by
    rintro p ⟨hNb, v, hb, hown, hne⟩
    refine ⟨hNb, v, ?_, hown.kept hg ?_, hne⟩
    · rw [hg.block b (Array.getElem?_eq_some_iff.1 hb).1 (by simp; omega)]; exact hb
    · cases hv : v.ownBlock with
      | none => exact .inl rfl
      | some g => right; have := (hown.lt g hv).1; simp; omega
  exact h.elim (fun x => .inl (one _ x)) (fun x => .inr (one _ x))

theorem builder_new (w : World) (T e : TypeId) : Lib.IsBuilderF T e w.heap.size w.heap.size [] (w.alloc (.cells #[.pointer none, .slice none 0 0] T)) :=
  .inl ⟨Nat.le_refl _, .slice none 0 0, heap_alloc_new w _, World.ownsRowF_nil _ _ _ _, by simp [Value.ownBlock]⟩

/-- The rune next is the mark just where the byte is. -/
theorem peek_mark (s : ByteArray) (k : Nat) (m : UInt8) (hm : m.toNat < 128) : (peekN s k).1 = (m.toNat : Int) ↔ (s.data.toList.drop k).head? = some m := by
  unfold peekN
  by_cases hk : k < s.size
  · rw [if_pos hk, drop_at s k hk, List.head?_cons, ← drop_at s k hk]
    by_cases hc : Lx.charN (s.data.toList.drop k) = 0
    · rw [if_pos hc]
      have := (dec_bad s k hk hc).2
      constructor
      · intro e; simp at e
      · intro e; simp at e; rw [e] at this; omega
    · rw [if_neg hc]
      rcases (dec_good s k hk hc).2.2 with ⟨_, q2, q3⟩ | ⟨_, q2, q3⟩
      · simp only
        rw [q2]
        constructor
        · intro e; congr 1; exact UInt8.toNat_inj.1 (by omega)
        · intro e; simp at e; rw [e]
      · simp only
        constructor
        · intro e; omega
        · intro e; simp at e; rw [e] at q3; omega
  · rw [if_neg hk, List.drop_eq_nil_of_le (by simp; have : s.data.size = s.size := rfl; omega)]
    simp

theorem enc_mark (m : UInt8) (hm : m.toNat < 128) : Lib.byteCells [m] = Lib.runeCells (m.toNat : Int) := by
  rw [← Lib.byteCells_encodeRune]
  unfold Lib.encodeRune
  rw [Lib.encodeRuneZ_one (by omega) (by omega)]
  simp

set_option maxRecDepth 100000 in
set_option maxHeartbeats 4000000 in
theorem quoted_any (w : World) (B : Nat) (s : ByteArray) (k st : Nat) (h : Rd w B s k st) (hk : k < s.size) (hm : s[k].toNat < 128) (hm0 : s[k].toNat ≠ 0) :
    Calls Tryz.prog 109 #[.pointer (some ⟨B, 0, none⟩)] w (Told (quoteR s k s[k]) w B s k st outOne) := by
  have hsm := h.small
  have hpk : peekN s k = ((s[k].toNat : Int), 1) := by
    have hc : Lx.charN (s.data.toList.drop k) = 1 := by rw [drop_at s k hk]; simp [Lx.charN, hm]
    unfold peekN
    rw [if_pos hk, hc, if_neg (by simp), decode_ascii s k hk hm]
  obtain ⟨m, hmm⟩ : ∃ m, m = s[k] := ⟨_, rfl⟩
  rw [← hmm] at hm hm0 hpk ⊢
  clear hmm
  have HPK := hd hpk
  clear hpk
  go_enter Tryz.func109, Tryz.ntmps109
  go_wp2_with fail
  refine (take_any w B s k st h).mono ?_
  rintro e w1 ⟨rfl, h1, g1⟩
  rw [HPK.out] at h1 ⊢
  simp only at h1 ⊢
  have hBlt : B < w1.heap.size := h1.blk.lt
  have hwle : w.heap.size ≤ w1.heap.size := g1.size
  have HG1 := hd g1
  clear g1
  go_wp2
  go_loopw [5] (fun _ wr => ∃ (j : Nat) (acc : Lx.Bs), Hid (Quo s k m j acc) ∧ Hid (Rd wr B s j st) ∧ Hid (w.grownBy wr (some B)) ∧ Hid (Lib.IsBuilderF 194 5 w1.heap.size w1.heap.size (Lib.byteCells acc) wr) ∧ w1.heap.size ≤ wr.heap.size) (fun _ wr => s.size - atOf wr B)
  case atStart => exact ⟨k + 1, [], Quo.start _ _ _, h1.below ((Below.refl _ _).alloc (Nat.le_refl _) _), grownBy_trans HG1.out (Below.grownBy ((Below.refl _ _).alloc (Nat.le_refl _) _)), builder_new _ _ _, by simp⟩
  case round =>
    obtain ⟨j, acc, HQ, HR, HG, HBd, hsz⟩ := hrel
    have hjle := HR.out.le
    have haccl := HQ.out.len
    go_wp2_with fail
    refine (take_any wr B s j st HR.out).mono ?_
    rintro e w2 ⟨rfl, h2, g2⟩
    have HG2 := hd (grownBy_trans HG.out g2)
    have HB2 := hd (builder_kept HBd.out g2 hBlt)
    have hsz2 : w1.heap.size ≤ w2.heap.size := Nat.le_trans hsz g2.size
    clear g2
    by_cases hjs : j < s.size
    · by_cases hc : Lx.charN (s.data.toList.drop j) = 0
      · have hp : peekN s j = (-2, 1) := by unfold peekN; rw [if_pos hjs, if_pos hc]
        have HF := hd (HQ.out.fail hm hm0 (.inr (.inl hc)))
        rw [hp] at h2 ⊢
        simp only at h2 ⊢
        clear hp hc
        go_wp2_with fail
        refine (fail_any _ B s (j + 1) st 2 h2).mono ?_
        rintro e w3 ⟨rfl, rfl⟩
        refine ⟨rfl, HG2.out, ?_⟩
        rw [HF.out]
        rfl
      · obtain ⟨d1, d2, d3⟩ := dec_good s j hjs hc
        have hp : peekN s j = (((Utf8.decode s j).1 : Int), Lx.charN (s.data.toList.drop j)) := by unfold peekN; rw [if_pos hjs, if_neg hc]
        by_cases h0 : s[j].toNat = 0
        · have hp0 : peekN s j = (0, 1) := by
            rw [hp]
            rcases d3 with ⟨q1, q2, _⟩ | ⟨_, _, q3⟩
            · rw [q1, q2, h0]; rfl
            · omega
          have HF := hd (HQ.out.fail hm hm0 (.inr (.inr (by rw [drop_at s j hjs, List.head?_cons]; congr 1; exact UInt8.toNat_inj.1 (by rw [h0]; rfl)))))
          rw [hp0] at h2 ⊢
          simp only at h2 ⊢
          clear hp hp0 hc d1 d2 d3 h0
          go_wp2_with fail
          refine (fail_any _ B s (j + 1) st 2 h2).mono ?_
          rintro e w3 ⟨rfl, rfl⟩
          refine ⟨rfl, HG2.out, ?_⟩
          rw [HF.out]
          rfl
        · by_cases hmk : s[j] = m
          · have hp0 : peekN s j = ((m.toNat : Int), 1) := by
              rw [hp]
              rcases d3 with ⟨q1, q2, _⟩ | ⟨_, _, q3⟩
              · rw [q1, q2, hmk]
              · rw [hmk] at q3; omega
            have HD : Hid (s.data.toList.drop j = m :: s.data.toList.drop (j + 1)) := (drop_at s j hjs).trans (by rw [hmk])
            rw [hp0] at h2 ⊢
            simp only at h2 ⊢
            clear hp hp0 hc d1 d2 d3 h0 hmk
            have n1 : ¬ (m.toNat : Int) = 0 := by omega
            go_wp2_with fail
            refine (peek_any _ B s (j + 1) st h2).mono ?_
            rintro e w3 ⟨rfl, hb3⟩
            have h3 := h2.below hb3
            have HG3 := hd (grownBy_trans HG2.out (Below.grownBy hb3))
            have HB3 := hd (builder_kept HB2.out (Below.grownBy (row := some B) hb3) hBlt)
            have hsz3 : w1.heap.size ≤ w3.heap.size := Nat.le_trans hsz2 hb3.size
            clear hb3
            have HM := hd (peek_mark s (j + 1) m hm)
            by_cases hnx : (s.data.toList.drop (j + 1)).head? = some m
            · have hj1 : j + 1 < s.size := by
                rcases Nat.lt_or_ge (j + 1) s.size with q | q
                · exact q
                · rw [List.drop_eq_nil_of_le (by simp; have : s.data.size = s.size := rfl; omega)] at hnx; simp at hnx
              have hsj : s[j + 1] = m := by rw [drop_at s (j + 1) hj1] at hnx; simpa using hnx
              have hc1 : Lx.charN (s.data.toList.drop (j + 1)) = 1 := by rw [drop_at s (j + 1) hj1, hsj]; simp [Lx.charN, hm]
              have hp1 : peekN s (j + 1) = ((m.toNat : Int), 1) := by
                unfold peekN
                rw [if_pos hj1, hc1, if_neg (by simp), decode_ascii s (j + 1) hj1 (by rw [hsj]; exact hm), hsj]
              have HQ2 := hd (HQ.out.double (r := s.data.toList.drop (j + 2)) hm hm0 (by rw [HD.out, drop_at s (j + 1) hj1, hsj]))
              have HP1 := hd hp1
              rw [hp1]
              simp only
              clear hnx hsj hc1 hp1
              go_wp2_with fail
              refine (take_any w3 B s (j + 1) st h3).mono ?_
              rintro e w4 ⟨rfl, h4, g4⟩
              rw [HP1.out] at h4 ⊢
              simp only at h4 ⊢
              have HG4 := hd (grownBy_trans HG3.out g4)
              have HB4 := hd (builder_kept HB3.out g4 hBlt)
              have hsz4 : w1.heap.size ≤ w4.heap.size := Nat.le_trans hsz3 g4.size
              clear g4
              go_wp2_with fail
              refine (Tryz.Builder_WriteRune_k w1.heap.size w1.heap.size (Lib.byteCells acc) (m.toNat : Int) (by omega) (by omega) w4 HB4.out (by rw [Lib.byteCells_length]; omega) hsz4).mono ?_
              rintro e w5 ⟨rfl, hbd5, hb5, -⟩
              go_wp2_with fail
              refine ⟨⟨j + 2, acc ++ [m], HQ2.out, h4.under hb5 hBlt, grownBy_under HG4.out hb5 hwle, ?_, Nat.le_trans hsz4 hb5.size⟩, ?_⟩
              · right
                rw [Lib.byteCells_append, enc_mark m hm]; exact hbd5
              · rw [(h4.under hb5 hBlt).atOf, HR.out.atOf]; omega
            · have hne : ¬ (peekN s (j + 1)).1 = (m.toNat : Int) := fun q => hnx (HM.out.1 q)
              have HDn := hd (HQ.out.done HD.out hnx)
              generalize peekN s (j + 1) = pk at *
              obtain ⟨c', n'⟩ := pk
              simp only at hne ⊢
              have hne2 : (c' != (m.toNat : Int)) = true := by rw [bne_iff_ne]; exact hne
              clear hne hnx HM
              go_wp2_with fail
              refine (Tryz.Builder_String_any_k w1.heap.size w1.heap.size acc w3 HB3.out hsz3).mono ?_
              rintro e w4 ⟨rfl, -, hb4, -⟩
              go_wp2
              go_ret
              refine ⟨grownBy_under HG3.out hb4 hwle, ?_⟩
              rw [HDn.out]
              refine ⟨⟨acc.toArray⟩, by simp, rfl, ?_⟩
              have hge := HQ.out.ge
              rw [show k + (j - k + 1) = j + 1 from by omega]
              exact h3.under hb4 hBlt
          · have HQ2 := hd (HQ.out.char hjs hm hc h0 hmk)
            have hcm : ¬ ((Utf8.decode s j).1 : Int) = (m.toNat : Int) := by
              intro q
              rcases d3 with ⟨_, q2, _⟩ | ⟨_, q2, _⟩
              · exact hmk (UInt8.toNat_inj.1 (by omega))
              · omega
            have hc0 : ¬ ((Utf8.decode s j).1 : Int) = 0 := by
              intro q
              rcases d3 with ⟨_, q2, _⟩ | ⟨_, q2, _⟩ <;> omega
            have hcle := decode_le s j
            have hcN := Lx.charN_le (s.data.toList.drop j)
            rw [List.length_drop, show s.data.toList.length = s.size from by simp] at hcN
            rw [hp] at h2 ⊢
            simp only at h2 ⊢
            have HD2 := hd d2
            clear d1 d2 d3 hp h0 hmk
            generalize Lx.charN (s.data.toList.drop j) = n at *
            generalize (Utf8.decode s j).1 = c at *
            go_wp2_with fail
            refine (Tryz.Builder_WriteRune_k w1.heap.size w1.heap.size (Lib.byteCells acc) (c : Int) (by omega) (by omega) w2 HB2.out (by rw [Lib.byteCells_length]; omega) hsz2).mono ?_
            rintro e w5 ⟨rfl, hbd5, hb5, -⟩
            go_wp2_with fail
            refine ⟨⟨j + n, acc ++ (s.data.toList.drop j).take n, HQ2.out, h2.under hb5 hBlt, grownBy_under HG2.out hb5 hwle, ?_, Nat.le_trans hsz2 hb5.size⟩, ?_⟩
            · right
              rw [Lib.byteCells_append, ← HD2.out, Lib.byteCells_encodeRune]; exact hbd5
            · rw [(h2.under hb5 hBlt).atOf, HR.out.atOf]; omega
    · have hp : peekN s j = (-1, 0) := by unfold peekN; rw [if_neg hjs]
      have HF := hd (HQ.out.fail hm hm0 (.inl (List.drop_eq_nil_of_le (by simp; have : s.data.size = s.size := rfl; omega))))
      rw [hp] at h2 ⊢
      simp only at h2 ⊢
      clear hp
      go_wp2_with fail
      refine (fail_any _ B s (j + 0) st 2 h2).mono ?_
      rintro e w3 ⟨rfl, rfl⟩
      refine ⟨rfl, HG2.out, ?_⟩
      rw [HF.out]
      rfl

end Go.Proofs.YtcdgihdhpaipaaaGreatDoor

namespace Go.Proofs.YtcdgihdhpaipaaaGreatDoor
open Go.RowKit
set_option linter.unusedSimpArgs false
set_option linter.unusedVariables false

/-- What the reader says of a name in quotes. -/
def nameR (r : Except Nat (Nat × Lx.Bs × Nat)) : Except Nat (Nat × Lx.Bs × Nat) :=
  match r with
  | .ok (c, t, n) => if t = [] then .error 2 else .ok (c, t, n)
  | .error c => .error c

set_option maxRecDepth 100000 in
set_option maxHeartbeats 1000000 in
theorem quotedName_any (w : World) (B : Nat) (s : ByteArray) (k st : Nat) (h : Rd w B s k st) (hk : k < s.size) (hm : s[k].toNat < 128) (hm0 : s[k].toNat ≠ 0) :
    Calls Tryz.prog 110 #[.pointer (some ⟨B, 0, none⟩)] w (Told (nameR (quoteR s k s[k])) w B s k st outOne) := by
  have HQ := quoted_any w B s k st h hk hm hm0
  generalize quoteR s k s[k] = r at *
  have HQ2 := hd HQ
  clear HQ
  go_enter Tryz.func110, Tryz.ntmps110
  go_wp2_with fail
  refine HQ2.out.mono ?_
  rintro e w1 ⟨g1, ht⟩
  match r, ht with
  | .error c, ht =>
    subst ht
    exact ⟨rfl, g1, rfl⟩
  | .ok (c, t, n), ht =>
    obtain ⟨tv, rfl, rfl, h1⟩ := ht
    unfold outOne
    cases hem : tv.toList.isEmpty
    · have hne : tv.data.toList ≠ [] := by intro e; rw [Lib.toList_data, e] at hem; cases hem
      have HNE := hd hne
      clear hne
      go_wp2
      go_ret
      refine ⟨g1, ?_⟩
      unfold nameR
      simp only
      rw [if_neg HNE.out]
      exact ⟨tv, rfl, rfl, h1⟩
    · have he : tv.data.toList = [] := by rw [Lib.toList_data] at hem; simpa using hem
      have HE := hd he
      clear he
      go_wp2_with fail
      refine (fail_any _ B s (k + n) st 2 h1).mono ?_
      rintro e w3 ⟨rfl, rfl⟩
      refine ⟨rfl, g1, ?_⟩
      unfold nameR
      simp only
      rw [if_pos HE.out]
      rfl

theorem quote_spec (s : ByteArray) (k : Nat) (hk : k < s.size) (hl : Lx.isLet s[k] = false) (hdg : Lx.isDig s[k] = false) (hq : s[k].toNat = 39 ∨ s[k].toNat = 34) :
    Lx.oneT (s.data.toList.drop k) = match (if s[k].toNat = 34 then nameR (quoteR s k s[k]) else quoteR s k s[k]) with | .ok (_, t, n) => .ok (if s[k].toNat = 34 then 18 else 17, t, n) | .error c => .error c := by
  rw [oneT_quote s k hk hl hdg hq]
  unfold quoteR nameR
  cases Lx.betw s[k] (s.data.toList.drop (k + 1)) with
  | none => by_cases h34 : s[k].toNat = 34 <;> simp [h34]
  | some y =>
    obtain ⟨t, n⟩ := y
    simp only
    cases hv : Lx.validN t
    · by_cases h34 : s[k].toNat = 34 <;> simp [h34]
    · simp only [if_true, Bool.true_eq_false, false_or]
      by_cases h34 : s[k].toNat = 34
      · by_cases ht : t = []
        · simp [h34, ht]
        · simp [h34, ht]
      · simp [h34]

/-- The rune next, where a byte stands. -/
theorem peek_byte (s : ByteArray) (k : Nat) (hk : k < s.size) : ((peekN s k).1 = (s[k].toNat : Int) ∧ s[k].toNat < 128) ∨ (((peekN s k).1 = -2 ∨ 128 ≤ (peekN s k).1) ∧ 128 ≤ s[k].toNat) := by
  unfold peekN
  rw [if_pos hk]
  by_cases hc : Lx.charN (s.data.toList.drop k) = 0
  · rw [if_pos hc]; exact .inr ⟨.inl rfl, (dec_bad s k hk hc).2⟩
  · rw [if_neg hc]
    rcases (dec_good s k hk hc).2.2 with ⟨_, q2, q3⟩ | ⟨_, q2, q3⟩
    · exact .inl ⟨by simp only; rw [q2], q3⟩
    · exact .inr ⟨.inr (by simp only; omega), q3⟩

/-- What the reader says of the token: with its kind. -/
theorem told_kind {r : Except Nat (Nat × Lx.Bs × Nat)} {w : World} {B : Nat} {s : ByteArray} {k st : Nat} {e : Ending} {w' : World} (h : Told r w B s k st outOne e w') :
    w.grownBy w' (some B) ∧ ((∃ c, r = .error c ∧ e = .panicked [{ v := .iface 66 (.agg #[.int .i64 (st : Int), .int .i64 (c : Int)]), recovered := false }]) ∨ (∃ c t n tv, r = .ok (c, t, n) ∧ e = .returned (.string tv) ∧ tv.data.toList = t ∧ Rd w' B s (k + n) st)) := by
  refine ⟨h.1, ?_⟩
  match r, h.2 with
  | .error c, ht => exact .inl ⟨c, rfl, ht⟩
  | .ok (c, t, n), ⟨tv, h1, h2, h3⟩ => exact .inr ⟨c, t, n, tv, rfl, h2, h1, h3⟩

set_option maxRecDepth 100000 in
set_option maxHeartbeats 2000000 in
theorem token_any (w : World) (B : Nat) (s : ByteArray) (k st : Nat) (h : Rd w B s k st) (hk : k < s.size) :
    Calls Tryz.prog 79 #[.pointer (some ⟨B, 0, none⟩)] w (Told (Lx.oneT (s.data.toList.drop k)) w B s k st outTwo) := by
  have HPB := hd (peek_byte s k hk)
  go_enter Tryz.func79, Tryz.ntmps79
  go_wp2_with fail
  refine (peek_any w B s k st h).mono ?_
  rintro e w1 ⟨rfl, hb1⟩
  have h1 := h.below hb1
  have HG1 : Hid (w.grownBy w1 (some B)) := Below.grownBy hb1
  clear hb1
  generalize peekN s k = d at *
  obtain ⟨c, n⟩ := d
  simp only at HPB ⊢
  go_wp2_with fail
  refine (isDigit_any _ _).mono ?_
  rintro e w' ⟨rfl, rfl⟩
  cases hdg : Lx.isDig s[k]
  · have hd1 : rDig c = false := by
      unfold Lx.isDig at hdg; unfold rDig
      have := HPB.out; simp at hdg ⊢; omega
    cases hl : Lx.isLet s[k]
    · have hw1 : rWd c = false := by
        unfold Lx.isLet at hl; unfold rWd; unfold Lx.isDig at hdg
        have := HPB.out; simp at hdg hl ⊢; omega
      rw [hd1]
      go_wp2_with fail
      refine (inWord_any _ _).mono ?_
      rintro e w' ⟨rfl, rfl⟩
      rw [hw1]
      by_cases h39 : s[k].toNat = 39
      · have HS := hd (quote_spec s k hk hl hdg (.inl h39))
        have hc : c = 39 := by have := HPB.out; omega
        subst hc
        rw [if_neg (by omega)] at HS
        have HT := hd (quoted_any _ B s k st h1 hk (by omega) (by omega))
        generalize quoteR s k s[k] = r at *
        go_wp2_with fail
        refine HT.out.mono ?_
        intro e w2 ht
        rcases told_kind ht with ⟨g2, ⟨c, rfl, rfl⟩ | ⟨c, t, n, tv, rfl, rfl, htv, h2⟩⟩
        · exact ⟨rfl, grownBy_trans HG1.out g2, by rw [HS.out]⟩
        · go_wp2
          go_ret2
          refine ⟨grownBy_trans HG1.out g2, ?_⟩
          rw [HS.out]
          simp only
          rw [if_neg (by omega)]
          exact ⟨tv, htv, rfl, h2⟩
      · by_cases h34 : s[k].toNat = 34
        · have HS := hd (quote_spec s k hk hl hdg (.inr h34))
          have hc : c = 34 := by have := HPB.out; omega
          subst hc
          rw [if_pos h34] at HS
          have HT := hd (quotedName_any _ B s k st h1 hk (by omega) (by omega))
          generalize nameR (quoteR s k s[k]) = r at *
          go_wp2_with fail
          refine HT.out.mono ?_
          intro e w2 ht
          rcases told_kind ht with ⟨g2, ⟨c, rfl, rfl⟩ | ⟨c, t, n, tv, rfl, rfl, htv, h2⟩⟩
          · exact ⟨rfl, grownBy_trans HG1.out g2, by rw [HS.out]⟩
          · go_wp2
            go_ret2
            refine ⟨grownBy_trans HG1.out g2, ?_⟩
            rw [HS.out]
            simp only
            rw [if_pos h34]
            exact ⟨tv, htv, rfl, h2⟩
        · have n1 : (c == 39) = false := by rw [beq_eq_false_iff_ne]; have := HPB.out; omega
          have n2 : (c == 34) = false := by rw [beq_eq_false_iff_ne]; have := HPB.out; omega
          have HT := hd (sign_any _ B s k st h1 hk hl hdg (by omega))
          have HK : Hid (∀ x y z, Lx.oneT (s.data.toList.drop k) = .ok (x, y, z) → x = 51) := by
            intro x y z e
            rw [sign_spec s k hk hl hdg (by omega)] at e
            split at e
            · simp only [Except.ok.injEq, Prod.mk.injEq] at e; exact e.1.symm
            · cases e
          generalize Lx.oneT (s.data.toList.drop k) = r at *
          go_wp2_with fail
          refine HT.out.mono ?_
          intro e w2 ht
          rcases told_kind ht with ⟨g2, ⟨c, rfl, rfl⟩ | ⟨c, t, n, tv, rfl, rfl, htv, h2⟩⟩
          · exact ⟨rfl, grownBy_trans HG1.out g2, rfl⟩
          · obtain rfl := HK.out _ _ _ rfl
            go_wp2
            go_ret2
            exact ⟨grownBy_trans HG1.out g2, tv, htv, rfl, h2⟩
    · have hw1 : rWd c = true := by
        unfold Lx.isLet at hl; unfold rWd
        have := HPB.out; simp at hl ⊢; omega
      rw [hd1]
      go_wp2_with fail
      refine (inWord_any _ _).mono ?_
      rintro e w' ⟨rfl, rfl⟩
      rw [hw1]
      have HT := hd (word_any _ B s k st h1 hk hl)
      generalize Lx.oneT (s.data.toList.drop k) = r at *
      go_wp2_with fail
      refine HT.out.mono ?_
      intro e w2 ht
      obtain ⟨g2, ht⟩ := ht
      match r, ht with
      | .error c, ht => subst ht; exact ⟨rfl, grownBy_trans HG1.out g2, rfl⟩
      | .ok (c, t, n), ⟨tv, htv, he, h2⟩ =>
        subst he
        unfold outTwo
        go_wp2
        go_ret2
        exact ⟨grownBy_trans HG1.out g2, tv, htv, rfl, h2⟩
  · have hl : Lx.isLet s[k] = false := by unfold Lx.isDig at hdg; unfold Lx.isLet; simp at hdg ⊢; omega
    have hd1 : rDig c = true := by
      unfold Lx.isDig at hdg; unfold rDig
      have := HPB.out; simp at hdg ⊢; omega
    rw [hd1]
    have HT := hd (number_any _ B s k st h1 hk hl hdg)
    have HK : Hid (∀ x y z, Lx.oneT (s.data.toList.drop k) = .ok (x, y, z) → x = 16) := by
      intro x y z e
      rw [oneT_digit s k hk hl hdg] at e
      split at e
      · cases e
      · split at e
        · cases e
        · simp only [Except.ok.injEq, Prod.mk.injEq] at e; exact e.1.symm
    generalize Lx.oneT (s.data.toList.drop k) = r at *
    go_wp2_with fail
    refine HT.out.mono ?_
    intro e w2 ht
    rcases told_kind ht with ⟨g2, ⟨c, rfl, rfl⟩ | ⟨c, t, n, tv, rfl, rfl, htv, h2⟩⟩
    · exact ⟨rfl, grownBy_trans HG1.out g2, rfl⟩
    · obtain rfl := HK.out _ _ _ rfl
      go_wp2
      go_ret2
      exact ⟨grownBy_trans HG1.out g2, tv, htv, rfl, h2⟩

theorem clone_any (t : ByteArray) (w : World) (h : t.size ≤ 100000) : Calls Tryz.prog 80 #[.string t] w fun e w' => e = .returned (.string t) ∧ Below w.heap.size w w' := by
  go_enter Tryz.func80, Tryz.ntmps80
  go_wp2_with fail
  refine (Tryz.stringslite_Clone t w (by omega)).mono ?_
  rintro e w' ⟨rfl, hb⟩
  go_wp2
  go_ret
  exact ⟨rfl, hb⟩

theorem size_setCell (w : World) (p : Addr) (v : Value) : (w.setCell p v).heap.size = w.heap.size := by simp [World.setCell]

/-- A store into memory that is new leaves what was there. -/
theorem grownBy_far {w w1 : World} {row : Option Nat} (h : w.grownBy w1 row) (i : Nat) (v : Value) : w.grownBy (w1.setCell ⟨w.heap.size, i, none⟩ v) row :=
  ⟨h.os, h.tape, h.output, by rw [size_setCell]; exact h.size, fun k hk hne => (Below.heap_setCell w1 _ v k (by simp; omega)).trans (h.block k hk hne)⟩
theorem Rd.far {w : World} {B N : Nat} {s : ByteArray} {k st : Nat} (h : Rd w B s k st) (hne : ¬ N = B) (i : Nat) (v : Value) (hN : 12 ≤ N := by omega) : Rd (w.setCell ⟨N, i, none⟩ v) B s k st :=
  ⟨h.blk.far _ _ hne, h.low, h.env.grown (grownBy_set w N i v) hN, h.le, h.small⟩

/-- What 'next' says. -/
def NextV (r : Except Nat (Nat × Lx.Bs × Nat)) (w : World) (B : Nat) (s : ByteArray) (k : Nat) (e : Ending) (w' : World) : Prop :=
  w.grownBy w' (some B) ∧ match r with
  | .ok (c, t, n) => ∃ tv : ByteArray, tv.data.toList = t ∧ e = .returned (.agg #[.int .i64 (c : Int), .string tv, .int .i64 (k : Int)]) ∧ Rd w' B s (k + n) k
  | .error c => e = .panicked [{ v := .iface 66 (.agg #[.int .i64 (k : Int), .int .i64 (c : Int)]), recovered := false }]

set_option maxRecDepth 100000 in
set_option maxHeartbeats 2000000 in
theorem next_any (w : World) (B : Nat) (s : ByteArray) (k st : Nat) (h : Rd w B s k st) (hk : k < s.size) :
    Calls Tryz.prog 47 #[.pointer (some ⟨B, 0, none⟩)] w (NextV (Lx.oneT (s.data.toList.drop k)) w B s k) := by
  have hsm := h.small
  obtain ⟨⟨b0, b1, b2⟩, b3, b4, b5⟩ := h.blk.three
  have hBlt := h.blk.lt
  have hone : ∀ c t n, Lx.oneT (s.data.toList.drop k) = .ok (c, t, n) → t.length ≤ 2000 := by
    intro c t n e
    have := Lx.oneT_len e
    rw [List.length_drop, show s.data.toList.length = s.size from by simp] at this
    omega
  have HON := hd hone
  clear hone
  go_enter Tryz.func47, Tryz.ntmps47
  go_wp2_with fail
  have h1 : Rd ((w.setCell ⟨B, 2, none⟩ (.int .i64 (k : Int))).alloc (.cells #[.int .i64 0, .string ⟨#[]⟩, .int .i64 0] 44)) B s k k := (h.set2 k).below ((Below.refl _ _).alloc (Nat.le_refl _) _)
  have HG1 := hd (grownBy_trans (grownBy_set w B 2 (.int .i64 (k : Int))) (World.grownBy_alloc (w.setCell ⟨B, 2, none⟩ (.int .i64 (k : Int))) (.cells #[.int .i64 0, .string ⟨#[]⟩, .int .i64 0] 44) (some B)))
  have R1 : Blk ((w.setCell ⟨B, 2, none⟩ (.int .i64 (k : Int))).alloc (.cells #[.int .i64 0, .string ⟨#[]⟩, .int .i64 0] 44)) w.heap.size #[.int .i64 0, .string ⟨#[]⟩, .int .i64 0] 44 := (by have x := Blk.new (w.setCell ⟨B, 2, none⟩ (.int .i64 (k : Int))) #[.int .i64 0, .string ⟨#[]⟩, .int .i64 0] 44; rwa [size_setCell] at x)
  refine (token_any _ B s k k h1 hk).mono ?_
  rintro e w2 ⟨g2, ht⟩
  have HG2 := hd (grownBy_trans HG1.out g2)
  have R2 : Blk w2 w.heap.size #[.int .i64 0, .string ⟨#[]⟩, .int .i64 0] 44 := by
    unfold Blk at R1 ⊢
    rw [g2.block _ (Array.getElem?_eq_some_iff.1 R1).1 (by simp; omega)]; exact R1
  clear g2 R1 h1
  rcases hr : Lx.oneT (s.data.toList.drop k) with c | ⟨c, t, n⟩
  · rw [hr] at ht
    simp only at ht
    subst ht
    exact ⟨rfl, HG2.out, rfl⟩
  · rw [hr] at ht
    obtain ⟨tv, htv, rfl, h2⟩ := ht
    have hlen := HON.out c t n hr
    have htl : tv.size ≤ 2000 := by rw [Lib.size_eq, htv]; exact hlen
    have HR := hd hr
    have HTV := hd htv
    clear hr htv hlen
    unfold outTwo
    obtain ⟨⟨a0, a1, a2⟩, a3, a4, a5⟩ := h2.blk.three
    obtain ⟨⟨r0, r1, r2⟩, r3, r4, r5⟩ := R2.three
    have hz2 : w.heap.size < w2.heap.size := R2.lt
    have hne : ¬ w.heap.size = B := by omega
    have hlow := h.low
    clear b0 b1 b2 b3 b4 b5
    go_wp2
    go_region_with (go_at_call 80; refine (clone_any tv _ (by omega)).mono ?_; rintro e w3 ⟨rfl, hb3⟩; have c2 := (h2.drew.below hb3).blk.cell 2; have q0 := (R2.drew.below hb3 hz2).cell 0; have q1 := (R2.drew.below hb3 hz2).cell 1; have q2 := (R2.drew.below hb3 hz2).cell 2; have q3 := (R2.drew.below hb3 hz2).free 0; have q4 := (R2.drew.below hb3 hz2).free 1; have q5 := (R2.drew.below hb3 hz2).free 2; simp at c2 q0 q1 q2)
    all_goals
      go_wp2
      have F := (((R2.drew.below hb3 hz2).set 0 (.int .i64 (c : Int))).set 1 (.string tv)).set 2 (.int .i64 (k : Int))
      obtain ⟨⟨f0, f1, f2⟩, -⟩ := Blk.three F
      have h3 := h2.drew.below hb3
      refine bodyPost_ret (v := .agg #[.int .i64 (c : Int), .string tv, .int .i64 (k : Int)]) ?_ rfl ⟨?_, ?_⟩
      · simp only [f0, f1, f2, results, Tryz.results47, go_sem]
        simp [f0, f1, f2, go_sem]
      · exact grownBy_far (grownBy_far (grownBy_far (grownBy_trans (grownBy_drew HG2.out) (Below.grownBy hb3)) 0 _) 1 _) 2 _
      · rw [HR.out]
        exact ⟨tv, HTV.out, rfl, ((h3.far hne 0 _).far hne 1 _).far hne 2 _⟩

end Go.Proofs.YtcdgihdhpaipaaaGreatDoor

namespace Go.Proofs.YtcdgihdhpaipaaaGreatDoor
open Go.RowKit
set_option linter.unusedSimpArgs false
set_option linter.unusedVariables false

theorem owns_base {w : World} {base base' : Nat} {e : TypeId} {size : Nat} {v : Value} {n : Nat} {xs : List Value} (h : w.ownsRow base e size v n xs) (hb : base' ≤ base) : w.ownsRow base' e size v n xs := by
  refine ⟨h.1, ?_⟩
  rcases h.2 with hn | ⟨g, cap, cur, hv, hg, r⟩
  · exact .inl hn
  · exact .inr ⟨g, cap, cur, hv, by omega, r⟩

theorem Rd.kept {w w' : World} {B : Nat} {s : ByteArray} {k st : Nat} {row : Option Nat} (h : Rd w B s k st) (hg : w.grownBy w' row) (hB : some B ≠ row) (hlow : ∀ q, row = some q → 12 ≤ q) : Rd w' B s k st := by
  have hr := h.env.room
  have hb : ∀ i, i < 12 → w'.heap[i]? = w.heap[i]? := fun i hi => hg.block i (by omega) (fun e => by have := hlow i e.symm; omega)
  refine ⟨?_, h.low, ⟨⟨fun c hc => ?_, fun i hi => ?_⟩, ?_, ?_, Nat.le_trans hr hg.size⟩, h.le, h.small⟩
  · have := h.blk
    unfold Blk at this ⊢
    rw [hg.block B h.blk.lt hB]; exact this
  · rw [World.cell?_of_block (w := w) (hb _ (by simp))]; exact h.env.tabs.1 c hc
  · rw [World.cell?_of_block (w := w) (hb _ (by simp)), World.cell?_of_block (w := w) (hb _ (by simp))]; exact h.env.tabs.2 i hi
  · rw [hb _ (by simp)]; exact h.env.kws
  · rw [hb _ (by simp)]; exact h.env.sgs

/-- What the reader's Tokens says of a text. -/
def RTok (r : Except (Nat × Nat) (List Lx.Tok)) (w : World) (e : Ending) (w' : World) : Prop :=
  Below w.heap.size w w' ∧ match r with
  | .error (p, c) => e = .panicked [{ v := .iface 66 (.agg #[.int .i64 (p : Int), .int .i64 (c : Int)]), recovered := false }]
  | .ok ts => ∃ v, e = .returned v ∧ w'.ownsRow w.heap.size 44 3 v ts.length (toksV ts)

set_option maxRecDepth 100000 in
set_option maxHeartbeats 2000000 in
theorem rdTokens_any (s : ByteArray) (w : World) (he : Env w) (hm : s.size ≤ maxLen) :
    Calls Tryz.prog 27 #[.string s] w (RTok (Lx.lex s.data.toList) w) := by
  unfold maxLen at hm
  obtain ⟨i0, hi, hz0, hz1, hz2⟩ := info_parts Tryz.info44
  have HSL := hd (Lib.size_eq s).symm
  by_cases hlong : 2000 < s.size
  · have HL : Hid (Lx.lex s.data.toList = .error (0, 1)) := by show _ = _; unfold Lx.lex; rw [if_pos (by rw [HSL.out]; exact hlong)]
    go_enter Tryz.func27, Tryz.ntmps27
    go_wp2_with fail
    refine ⟨rfl, Below.refl _ _, ?_⟩
    rw [HL.out]
    rfl
  · have HL : Hid (Lx.lex s.data.toList = Lx.lexM 0 (Lx.skipN s.data.toList) (s.data.toList.drop (Lx.skipN s.data.toList))) := by show _ = _; unfold Lx.lex; rw [if_neg (by rw [HSL.out]; exact hlong)]
    have hroom := he.room
    have HE := hd he
    clear he
    go_enter Tryz.func27, Tryz.ntmps27
    go_wp2_with fail
    go_loopw [4] (fun v wr => ∃ (j : Nat) (ts : List Lx.Tok) (st : Nat), Hid (Rd wr w.heap.size s j st) ∧ Hid (wr.ownsRow (w.heap.size + 1) 44 3 v ts.length (toksV ts)) ∧ Hid (LexAt s.data.toList (j + Lx.skipN (s.data.toList.drop j)) ts) ∧ ts.length ≤ j ∧ Hid (Below w.heap.size w wr)) (fun _ wr => s.size - atOf wr w.heap.size)
    case atStart =>
      refine ⟨0, [], 0, ⟨Blk.new _ _ _, hroom, HE.out.below ((Below.refl _ _).alloc (Nat.le_refl _) _), by omega, by omega⟩, World.ownsRow_nil _ _ _ _, ?_, by simp, (Below.refl _ _).alloc (Nat.le_refl _) _⟩
      rw [List.drop_zero, Nat.zero_add]; exact LexAt.start _
    case round =>
      obtain ⟨j, ts, st, HR, HO, HX, hts, HW⟩ := hrel
      have hjle := HR.out.le
      go_wp2_with fail
      refine (pass_any wr w.heap.size s j st HR.out).mono ?_
      rintro e w1 ⟨rfl, h1, g1⟩
      have HW1 : Hid (Below w.heap.size w w1) := HW.out.grown g1 HW.out.size (fun q hq => by simp at hq; omega)
      have HO1 : Hid (w1.ownsRow (w.heap.size + 1) 44 3 u4 ts.length (toksV ts)) := HO.out.kept g1 (by
        cases hv : u4.ownBlock with
        | none => exact .inl rfl
        | some g => right; have := (HO.out.lt g hv).1; simp; omega)
      have hg1 := g1.size
      clear g1
      have hkle := h1.le
      generalize hkk : j + Lx.skipN (s.data.toList.drop j) = k at *
      have HKK := hd hkk
      clear hkk
      by_cases hlt : k < s.size
      · go_wp2_with fail
        refine (next_any w1 w.heap.size s k st h1 hlt).mono ?_
        rintro e w2 ⟨g2, ht⟩
        have HW2 : Hid (Below w.heap.size w w2) := HW1.out.grown g2 HW1.out.size (fun q hq => by simp at hq; omega)
        have HO2 : Hid (w2.ownsRow (w.heap.size + 1) 44 3 u4 ts.length (toksV ts)) := HO1.out.kept g2 (by
          cases hv : u4.ownBlock with
          | none => exact .inl rfl
          | some g => right; have := (HO1.out.lt g hv).1; simp; omega)
        have hg2 := g2.size
        clear g2
        rcases hone : Lx.oneT (s.data.toList.drop k) with c | ⟨c, t, n⟩
        · rw [hone] at ht
          simp only at ht
          subst ht
          refine ⟨rfl, HW2.out, ?_⟩
          rw [HL.out, HX.out.fail (by rw [HSL.out]; exact hlt) hone]
        · rw [hone] at ht
          obtain ⟨tv, htv, rfl, h2⟩ := ht
          have hlen := Lx.oneT_len hone
          simp only [List.length_drop] at hlen
          rw [HSL.out] at hlen
          have HS := hd (HX.out.step (by rw [HSL.out]; exact hlt) hone)
          have HT : Hid (tv = ⟨t.toArray⟩) := by rw [← htv]; exact (Lib.mk_data tv).symm
          have hzw := HW2.out.size
          have hBlt : w.heap.size < w2.heap.size := h2.blk.lt
          clear hone htv
          go_wp2_with (first
            | (at_builtin; refine wpList_append_own _ rfl _ _ 42 rfl (w.heap.size + 1) 44 i0 (.agg #[.int .i64 0, .string ⟨#[]⟩, .int .i64 0]) 3 32 Tryz.underlying42 hi hz0 hz1 hz2 rfl (by decide) _ _ _ rfl (HO2.out.alloc _) ⟨w2.heap.size, 0, none⟩ 1 1 [.int .i64 (c : Int), .string tv, .int .i64 (k : Int)] rfl rfl ?c1 ?c2 ?c3 ?c4 ?c5 ?_)
            | fail)
          case c1 => exact three_news w2 _ _ _ _ _ rfl
          case c2 => intro u hu; simp at hu; rcases hu with rfl | rfl | rfl <;> rfl
          case c3 => unfold maxLen; omega
          case c4 => omega
          case c5 => simp; omega
          intro v' w3 hown' hgrow _
          have HO3 : Hid (w3.ownsRow (w.heap.size + 1) 44 3 v' (ts ++ [Lx.Tok.mk c t k]).length (toksV (ts ++ [Lx.Tok.mk c t k]))) := by
            rw [List.length_append, List.length_singleton, toksV_append, toksV_one]
            show World.ownsRow _ _ _ _ _ _ _
            unfold tokV
            rw [← HT.out]; exact hown'
          have HW3 : Hid (Below w.heap.size w w3) := ((HW2.out.alloc hzw _)).grown hgrow (by simp; omega) (fun q hq => by have := (HO2.out.lt q hq).1; omega)
          have h3 : Rd w3 w.heap.size s (k + n) k := (h2.below ((Below.refl _ _).alloc (Nat.le_refl _) _)).kept hgrow (by
            cases hv : u4.ownBlock with
            | none => simp
            | some g => have := (HO2.out.lt g hv).1; simp; omega) (by
            intro q hq; have := (HO2.out.lt q hq).1; omega)
          clear hown' hgrow
          go_wp2_with fail
          go_roundw
          case rel => exact ⟨k + n, ts ++ [Lx.Tok.mk c t k], k, h3, HO3, HS, by simp; have := HKK.out; omega, HW3⟩
          case measure => rw [h3.atOf, HR.out.atOf]; have := HKK.out; omega
      · go_wp2_with fail
        go_ret
        refine ⟨HW1.out, ?_⟩
        rw [HL.out, HX.out.done (by rw [HSL.out]; omega)]
        exact ⟨_, rfl, owns_base HO1.out (by omega)⟩

end Go.Proofs.YtcdgihdhpaipaaaGreatDoor

namespace Go.Proofs.YtcdgihdhpaipaaaGreatDoor
open Go.RowKit
set_option linter.unusedSimpArgs false
set_option linter.unusedVariables false

theorem fault_is (p c : Int) (w : World) : (Instr.typeAssert (.iface 66 (.agg #[.int .i64 p, .int .i64 c])) 20 66 true).run Tryz.prog w = .ok (.tuple #[.agg #[.int .i64 p, .int .i64 c], .bool true]) w := by kernel_rfl

set_option maxRecDepth 100000 in
set_option maxHeartbeats 1000000 in
theorem told_any (p c : Int) (w : World) :
    Calls Tryz.prog 12 #[.iface 66 (.agg #[.int .i64 p, .int .i64 c])] w fun e w' => e = .returned (.tuple #[.int .i64 p, .int .i64 c]) ∧ Below w.heap.size w w' := by
  have hta := fault_is p c
  go_enter Tryz.func12, Tryz.ntmps12
  go_wp2
  go_region
  all_goals go_wp2
  all_goals go_ret2
  all_goals exact ⟨rfl, ((Below.refl _ _).alloc (Nat.le_refl _) _).drew⟩
end Go.Proofs.YtcdgihdhpaipaaaGreatDoor

namespace Go.Proofs.YtcdgihdhpaipaaaGreatDoor
open Go.RowKit
set_option linter.unusedSimpArgs false
set_option linter.unusedVariables false

/-- The table of operators, as the program's variable holds it. -/
def opsRow : List (Nat × Lx.Bs × Nat) → List Value
  | [] => []
  | (l, s, k) :: r => [.int .i64 (k : Int), .string ⟨s.toArray⟩, .int .i64 (l : Int)] ++ opsRow r

/-- What the package variables hold beside those of the reader. -/
structure EnvP (w : World) : Prop where
  env : Env w
  ops : ∃ t fr, w.heap[4]? = some (.cells (opsRow Px.opTab).toArray t fr)
  rng : ∃ te pe, w.cell? ⟨6, 0, none⟩ = some (.iface te pe)

theorem EnvP.grown {w w' : World} {B : Nat} (h : EnvP w) (hg : w.grownBy w' (some B)) (hB : 12 ≤ B) : EnvP w' := by
  have hr := h.env.room
  have hb : ∀ k, k < 12 → w'.heap[k]? = w.heap[k]? := fun k hk => hg.block k (by omega) (by simp; omega)
  refine ⟨h.env.grown hg hB, ?_, ?_⟩
  · rw [hb _ (by simp)]; exact h.ops
  · rw [World.cell?_of_block (w := w) (hb _ (by simp))]; exact h.rng
theorem EnvP.below {w w' : World} (h : EnvP w) (hb : Below w.heap.size w w') : EnvP w' := h.grown (B := w.heap.size) (Below.grownBy hb) h.env.room

/-! The state. -/
structure Cs (w : World) (B : Nat) (lv : Value) (ts : List Lx.Tok) (sz k : Nat) (dp : Bool) : Prop where
  blk : Blk w B #[lv, .int .i64 (k : Int), .int .i64 (sz : Int), .bool dp] 98
  own : ∃ b, w.ownsRow b 44 3 lv ts.length (toksV ts)
  ne : lv.ownBlock ≠ some B
  toks : ∀ t ∈ ts, Lx.TokOk t ∧ Px.SgnOk t ∧ t.pos ≤ 2000 ∧ t.text.length ≤ 2000
  len : ts.length ≤ 2000
  size : sz ≤ 2000
  le : k ≤ ts.length
  env : EnvP w
  low : 12 ≤ B

theorem Cs.kept {w w' : World} {B : Nat} {lv : Value} {ts : List Lx.Tok} {sz k k' : Nat} {dp dp' : Bool} (h : Cs w B lv ts sz k dp) (hg : w.grownBy w' (some B)) (hb : Blk w' B #[lv, .int .i64 (k' : Int), .int .i64 (sz : Int), .bool dp'] 98) (hk : k' ≤ ts.length) : Cs w' B lv ts sz k' dp' := by
  obtain ⟨b, ho⟩ := h.own
  refine ⟨hb, ⟨b, ho.kept hg ?_⟩, h.ne, h.toks, h.len, h.size, hk, h.env.grown hg h.low, h.low⟩
  cases hv : lv.ownBlock with
  | none => simp
  | some g => right; intro e; exact h.ne (by rw [hv, e])
theorem Cs.below {w w' : World} {B : Nat} {lv : Value} {ts : List Lx.Tok} {sz k : Nat} {dp : Bool} (h : Cs w B lv ts sz k dp) (hb : Below w.heap.size w w') : Cs w' B lv ts sz k dp := by
  obtain ⟨b, ho⟩ := h.own
  exact ⟨h.blk.below hb h.blk.lt, ⟨b, owns_below ho hb⟩, h.ne, h.toks, h.len, h.size, h.le, h.env.below hb, h.low⟩
theorem Cs.setAt {w : World} {B : Nat} {lv : Value} {ts : List Lx.Tok} {sz k : Nat} {dp : Bool} (h : Cs w B lv ts sz k dp) (j : Nat) (hj : j ≤ ts.length) : Cs (w.setCell ⟨B, 1, none⟩ (.int .i64 (j : Int))) B lv ts sz j dp :=
  h.kept (grownBy_set w B 1 _) (h.blk.set 1 _) hj
theorem Cs.setDeep {w : World} {B : Nat} {lv : Value} {ts : List Lx.Tok} {sz k : Nat} {dp : Bool} (h : Cs w B lv ts sz k dp) : Cs (w.setCell ⟨B, 3, none⟩ (.bool true)) B lv ts sz k true :=
  h.kept (grownBy_set w B 3 _) (h.blk.set 3 _) h.le
theorem Cs.cells {w : World} {B : Nat} {lv : Value} {ts : List Lx.Tok} {sz k : Nat} {dp : Bool} (h : Cs w B lv ts sz k dp) :
    w.cell? ⟨B, 0, none⟩ = some lv ∧ w.cell? ⟨B, 1, none⟩ = some (.int .i64 (k : Int)) ∧ w.cell? ⟨B, 2, none⟩ = some (.int .i64 (sz : Int)) ∧ w.cell? ⟨B, 3, none⟩ = some (.bool dp) :=
  ⟨h.blk.cell 0, h.blk.cell 1, h.blk.cell 2, h.blk.cell 3⟩

/-- The state as a reading: the tokens that are left. -/
def Cx (w : World) (B : Nat) (lv : Value) (ts : List Lx.Tok) (sz : Nat) (q : List Lx.Tok) (dp : Bool) : Prop := ∃ k, q = ts.drop k ∧ Cs w B lv ts sz k dp
theorem Cx.below {w w' : World} {B : Nat} {lv : Value} {ts : List Lx.Tok} {sz : Nat} {q : List Lx.Tok} {dp : Bool} (h : Cx w B lv ts sz q dp) (hb : Below w.heap.size w w') : Cx w' B lv ts sz q dp := by
  obtain ⟨k, h1, h2⟩ := h
  exact ⟨k, h1, h2.below hb⟩
/-- The next token; behind the end: an empty one at the text's length. -/
def pk (sz : Nat) : List Lx.Tok → Lx.Tok
  | [] => ⟨0, [], sz⟩
  | t :: _ => t
theorem pk_drop (ts : List Lx.Tok) (sz k : Nat) : pk sz (ts.drop k) = hereT ts sz k := by
  unfold hereT
  by_cases hk : k < ts.length
  · rw [List.drop_eq_getElem_cons hk]
    simp [pk, hk]
  · rw [List.drop_eq_nil_of_le (by omega)]
    simp [pk, hk]
theorem plc_pk (sz : Nat) (q : List Lx.Tok) : Px.plc sz q = (pk sz q).pos := by cases q <;> rfl
theorem sees_pk (s : Lx.Bs) (sz : Nat) (q : List Lx.Tok) : Px.sees s q = ((decide ((pk sz q).kind = 50) || decide ((pk sz q).kind = 51)) && (pk sz q).text == s) := by cases q <;> rfl

def Flt (p c : Nat) : Ending := .panicked [{ v := .iface 66 (.agg #[.int .i64 (p : Int), .int .i64 (c : Int)]), recovered := false }]

/-- The list's cells, read by their address. -/
theorem Cs.tok {w : World} {B : Nat} {lv : Value} {ts : List Lx.Tok} {sz k : Nat} {dp : Bool} (h : Cs w B lv ts sz k dp) : ∃ ao cap, lv = .slice ao ts.length cap ∧
    ∀ k, (hk : k < ts.length) → ∃ g, ao = some ⟨g, 0, none⟩ ∧ g < w.heap.size ∧ w.cell? ⟨g, k * 3, none⟩ = some (.int .i64 (ts[k].kind : Int)) ∧ w.cell? ⟨g, k * 3 + 1, none⟩ = some (.string ⟨ts[k].text.toArray⟩) ∧ w.cell? ⟨g, k * 3 + 2, none⟩ = some (.int .i64 (ts[k].pos : Int)) := by
  obtain ⟨b, ho⟩ := h.own
  have ho2 := ho.2
  rcases ho2 with ⟨rfl, hn⟩ | ⟨g, cap, cur, rfl, hb, hg, h1, h2, h3, h4⟩
  · exact ⟨none, 0, by rw [hn], fun k hk => by omega⟩
  · refine ⟨some ⟨g, 0, none⟩, cap, rfl, fun k hk => ⟨g, rfl, ?_⟩⟩
    have hc := ho.cells (g := g) rfl
    obtain ⟨q0, q1, q2⟩ := toksV_nth ts k hk
    have a0 := hc _ _ q0
    have a1 := hc _ _ q1
    have a2 := hc _ _ q2
    simp only [Addr.add_lit, Nat.zero_add] at a0 a1 a2
    exact ⟨(Array.getElem?_eq_some_iff.1 hg).1, a0, a1, a2⟩

set_option maxHeartbeats 1000000 in
theorem c_peek_at (w : World) (B : Nat) (lv : Value) (ts : List Lx.Tok) (sz k : Nat) (dp : Bool) (h : Cs w B lv ts sz k dp) :
    Calls Tryz.prog 57 #[.pointer (some ⟨B, 0, none⟩)] w fun x w' => x = .returned (tokA (hereT ts sz k)) ∧ Below w.heap.size w w' := by
  obtain ⟨c0, c1, c2, c3⟩ := h.cells
  obtain ⟨ao, cap, rfl, hk⟩ := h.tok
  have hle := h.le
  have hlen := h.len
  have hB := h.blk.lt
  by_cases hlt : k < ts.length
  · obtain ⟨g, rfl, hg, k0, k1, k2⟩ := hk k hlt
    have e1 : hereT ts sz k = ts[k] := by simp [hereT, hlt]
    rw [e1]
    generalize ts[k] = t at *
    clear hk e1 h
    go_enter Tryz.func57, Tryz.ntmps57
    go_wp2
    go_region
    all_goals go_wp2
    all_goals go_region
    all_goals go_wp2
    refine bodyPost_ret (v := tokA t) (by simp [results, Tryz.results57, go_sem, tokA]) rfl ⟨rfl, by go_grown⟩
  · have e1 : hereT ts sz k = ⟨0, [], sz⟩ := by simp [hereT, hlt]
    rw [e1]
    clear hk e1 h
    go_enter Tryz.func57, Tryz.ntmps57
    go_wp2
    go_region
    all_goals go_wp2
    refine bodyPost_ret (v := tokA ⟨0, [], sz⟩) (by simp [results, Tryz.results57, go_sem, tokA]) rfl ⟨rfl, by go_grown⟩
theorem c_peek_any (w : World) (B : Nat) (lv : Value) (ts : List Lx.Tok) (sz : Nat) (q : List Lx.Tok) (dp : Bool) (h : Cx w B lv ts sz q dp) :
    Calls Tryz.prog 57 #[.pointer (some ⟨B, 0, none⟩)] w fun x w' => x = .returned (tokA (pk sz q)) ∧ Below w.heap.size w w' := by
  obtain ⟨k, rfl, h⟩ := h
  rw [pk_drop]
  exact c_peek_at w B lv ts sz k dp h

/-! A token's fields, of a token that lies in no memory. -/
theorem fld0 (a b c : Value) (w : World) : (Instr.field 44 (.agg #[a, b, c]) 0).run Tryz.prog w = .ok a w := by kernel_rfl
theorem fld1 (a b c : Value) (w : World) : (Instr.field 44 (.agg #[a, b, c]) 1).run Tryz.prog w = .ok b w := by kernel_rfl
theorem fld2 (a b c : Value) (w : World) : (Instr.field 44 (.agg #[a, b, c]) 2).run Tryz.prog w = .ok c w := by kernel_rfl

set_option maxHeartbeats 400000 in
theorem c_fail_any (w : World) (v : Value) (p c : Nat) :
    Calls Tryz.prog 56 #[v, .int .i64 (p : Int), .int .i64 (c : Int)] w fun e w' => e = Flt p c ∧ w' = w := by
  go_enter Tryz.func56, Tryz.ntmps56
  go_wp2
  exact ⟨rfl, rfl, rfl⟩

set_option maxHeartbeats 400000 in
theorem c_must_yes (w : World) (v : Value) : Calls Tryz.prog 29 #[v, .bool true] w fun e w' => e = .returned (.tuple #[]) ∧ w' = w := by
  go_enter Tryz.func29, Tryz.ntmps29
  go_wp2_with fail
  go_end0
  exact ⟨rfl, rfl⟩
set_option maxRecDepth 100000 in
set_option maxHeartbeats 400000 in
theorem c_must_at (w : World) (B : Nat) (lv : Value) (ts : List Lx.Tok) (sz : Nat) (q : List Lx.Tok) (dp : Bool) (h : Cx w B lv ts sz q dp) (tk : Nat) (tt : Lx.Bs) (tp : Nat) (ht : pk sz q = ⟨tk, tt, tp⟩) :
    Calls Tryz.prog 29 #[.pointer (some ⟨B, 0, none⟩), .bool false] w fun e w' => e = Flt tp 4 ∧ Below w.heap.size w w' := by
  have HT := hd ht
  clear ht
  have hf2 := fld2
  go_enter Tryz.func29, Tryz.ntmps29
  go_wp2_with fail
  refine (c_peek_any w B lv ts sz q dp h).mono ?_
  rintro x w1 ⟨rfl, hb⟩
  rw [HT.out]
  unfold tokA
  simp only
  go_wp2_with fail
  refine (c_fail_any w1 _ tp 4).mono ?_
  rintro x w2 ⟨rfl, rfl⟩
  exact ⟨rfl, rfl, hb⟩
theorem c_must_no (w : World) (B : Nat) (lv : Value) (ts : List Lx.Tok) (sz : Nat) (q : List Lx.Tok) (dp : Bool) (h : Cx w B lv ts sz q dp) :
    Calls Tryz.prog 29 #[.pointer (some ⟨B, 0, none⟩), .bool false] w fun e w' => e = Flt (Px.plc sz q) 4 ∧ Below w.heap.size w w' := by
  rw [plc_pk]
  rcases ht : pk sz q with ⟨tk, tt, tp⟩
  exact c_must_at w B lv ts sz q dp h tk tt tp ht

/-- The keyword or sign that stands next. -/
def fixT (t : Lx.Tok) : Lx.Bs := if t.kind = 50 ∨ t.kind = 51 then t.text else []
set_option maxHeartbeats 1000000 in
theorem c_fixed_at (w : World) (B : Nat) (lv : Value) (ts : List Lx.Tok) (sz : Nat) (q : List Lx.Tok) (dp : Bool) (h : Cx w B lv ts sz q dp) (tk : Nat) (tt : Lx.Bs) (tp : Nat) (ht : pk sz q = ⟨tk, tt, tp⟩) :
    Calls Tryz.prog 81 #[.pointer (some ⟨B, 0, none⟩)] w fun x w' => x = .returned (.string ⟨(fixT ⟨tk, tt, tp⟩).toArray⟩) ∧ Below w.heap.size w w' := by
  have HT := hd ht
  clear ht
  unfold fixT
  go_enter Tryz.func81, Tryz.ntmps81
  go_wp2_with fail
  refine (c_peek_any w B lv ts sz q dp h).mono ?_
  rintro x w1 ⟨rfl, hb⟩
  rw [HT.out]
  unfold tokA
  simp only
  have hs := hb.size
  by_cases h50 : tk = 50
  · subst h50
    go_wp2
    go_ret
    exact ⟨rfl, by go_grown⟩
  · have h1 : ((tk : Int) == 50) = false := by rw [beq_eq_false_iff_ne]; omega
    by_cases h51 : tk = 51
    · subst h51
      go_wp2
      go_ret
      exact ⟨rfl, by go_grown⟩
    · have h2 : ((tk : Int) == 51) = false := by rw [beq_eq_false_iff_ne]; omega
      go_wp2
      go_ret
      exact ⟨by simp [h50, h51], by go_grown⟩
theorem c_fixed_any (w : World) (B : Nat) (lv : Value) (ts : List Lx.Tok) (sz : Nat) (q : List Lx.Tok) (dp : Bool) (h : Cx w B lv ts sz q dp) :
    Calls Tryz.prog 81 #[.pointer (some ⟨B, 0, none⟩)] w fun x w' => x = .returned (.string ⟨(fixT (pk sz q)).toArray⟩) ∧ Below w.heap.size w w' := by
  rcases ht : pk sz q with ⟨tk, tt, tp⟩
  exact c_fixed_at w B lv ts sz q dp h tk tt tp ht

theorem fix_sees {s : Lx.Bs} (hs : s ≠ []) (sz : Nat) (q : List Lx.Tok) : (fixT (pk sz q) = s) ↔ Px.sees s q = true := by
  rw [sees_pk s sz q]
  rcases pk sz q with ⟨tk, tt, tp⟩
  unfold fixT
  simp only [Bool.and_eq_true, Bool.or_eq_true, decide_eq_true_eq, beq_iff_eq]
  by_cases h : tk = 50 ∨ tk = 51
  · rw [if_pos h]; exact ⟨fun e => ⟨h, e⟩, fun e => e.2⟩
  · rw [if_neg h]; exact ⟨fun e => absurd e.symm hs, fun e => absurd e.1 h⟩
theorem Cx.next {w : World} {B : Nat} {lv : Value} {ts : List Lx.Tok} {sz : Nat} {q : List Lx.Tok} {dp : Bool} (h : Cx w B lv ts sz q dp) (hq : q ≠ []) : ∃ k : Nat, k ≤ 2000 ∧ w.cell? ⟨B, 1, none⟩ = some (.int .i64 (k : Int)) ∧ w.frozen? ⟨B, 1, none⟩ = false ∧
    Cx (w.setCell ⟨B, 1, none⟩ (.int .i64 ((k : Int) + 1))) B lv ts sz q.tail dp := by
  obtain ⟨k, rfl, h⟩ := h
  have hk : k < ts.length := by
    apply Decidable.byContradiction
    intro hn
    exact hq (List.drop_eq_nil_of_le (by omega))
  have := h.len
  refine ⟨k, by omega, h.cells.2.1, h.blk.free 1, k + 1, by rw [List.tail_drop], ?_⟩
  have := h.setAt (k + 1) (by omega)
  rwa [show (((k + 1 : Nat) : Nat) : Int) = (k : Int) + 1 by omega] at this

theorem Cx.lt {w : World} {B : Nat} {lv : Value} {ts : List Lx.Tok} {sz : Nat} {q : List Lx.Tok} {dp : Bool} (h : Cx w B lv ts sz q dp) : B < w.heap.size := by
  obtain ⟨k, _, h⟩ := h
  exact h.blk.lt

set_option maxRecDepth 100000 in
set_option maxHeartbeats 1000000 in
theorem c_accept_yes (s : ByteArray) (w : World) (B : Nat) (lv : Value) (ts : List Lx.Tok) (sz : Nat) (q : List Lx.Tok) (dp : Bool) (h : Cx w B lv ts sz q dp) (hs : Px.sees s.data.toList q = true) (hne : s.data.toList ≠ []) :
    Calls Tryz.prog 48 #[.pointer (some ⟨B, 0, none⟩), .string s] w fun x w' => x = .returned (.bool true) ∧ Cx w' B lv ts sz q.tail dp ∧ w.grownBy w' (some B) := by
  have hq : q ≠ [] := by rintro rfl; cases hs
  have hf : (⟨(fixT (pk sz q)).toArray⟩ : ByteArray) = s := by
    rw [(fix_sees hne sz q).2 hs]
  go_enter Tryz.func48, Tryz.ntmps48
  go_wp2_with fail
  refine (c_fixed_any w B lv ts sz q dp h).mono ?_
  rintro x w1 ⟨rfl, hb⟩
  rw [hf]
  clear hf hs hne
  obtain ⟨k, hk, c1, f1, hn⟩ := (h.below hb).next hq
  have HN := hd hn
  have HB := hd hb
  clear hb hn h
  go_wp2
  go_ret
  exact ⟨rfl, HN.out, grownBy_trans (Below.grownBy HB.out) (grownBy_set w1 B 1 _)⟩
set_option maxRecDepth 100000 in
set_option maxHeartbeats 1000000 in
theorem c_accept_no (s : ByteArray) (w : World) (B : Nat) (lv : Value) (ts : List Lx.Tok) (sz : Nat) (q : List Lx.Tok) (dp : Bool) (h : Cx w B lv ts sz q dp) (hs : Px.sees s.data.toList q = false) (hne : s.data.toList ≠ []) :
    Calls Tryz.prog 48 #[.pointer (some ⟨B, 0, none⟩), .string s] w fun x w' => x = .returned (.bool false) ∧ Below w.heap.size w w' := by
  have hf : ((⟨(fixT (pk sz q)).toArray⟩ : ByteArray).toList == s.toList) = false := by
    rw [beq_eq_false_iff_ne, Lib.toList_data, Lib.toList_data]
    intro e
    rw [(fix_sees hne sz q).1 e] at hs
    cases hs
  go_enter Tryz.func48, Tryz.ntmps48
  go_wp2_with fail
  refine (c_fixed_any w B lv ts sz q dp h).mono ?_
  rintro x w1 ⟨rfl, hb⟩
  generalize (⟨(fixT (pk sz q)).toArray⟩ : ByteArray) = f at *
  clear hs hne h
  go_wp2
  go_ret
  exact ⟨rfl, hb⟩

/-- One keyword or sign that must stand next, in a list of its own. -/
def OneS (w : World) (v : Value) (s : ByteArray) : Prop := ∃ g, v = .slice (some ⟨g, 0, none⟩) 1 1 ∧ w.cell? ⟨g, 0, none⟩ = some (.string s)
set_option maxRecDepth 100000 in
set_option maxHeartbeats 1000000 in
theorem c_expect_yes (s : ByteArray) (w : World) (B g : Nat) (lv : Value) (ts : List Lx.Tok) (sz : Nat) (q : List Lx.Tok) (dp : Bool) (h : Cx w B lv ts sz q dp) (hs : Px.sees s.data.toList q = true) (hne : s.data.toList ≠ []) (hv : w.cell? ⟨g, 0, none⟩ = some (.string s)) :
    Calls Tryz.prog 50 #[.pointer (some ⟨B, 0, none⟩), .slice (some ⟨g, 0, none⟩) 1 1] w fun x w' => x = .returned (.tuple #[]) ∧ Cx w' B lv ts sz q.tail dp ∧ w.grownBy w' (some B) := by
  have HS := hd hs
  have HN := hd hne
  clear hs hne
  go_enter Tryz.func50, Tryz.ntmps50
  go_wp2_with fail
  refine wp_loop_rounds 2 ?_
  rw [rounds_succ]
  go_wp2_with fail
  refine (c_accept_yes s w B lv ts sz q dp h HS.out HN.out).mono ?_
  rintro x w1 ⟨rfl, hx, hg⟩
  go_wp2_with fail
  refine (c_must_yes w1 _).mono ?_
  rintro x w2 ⟨rfl, rfl⟩
  go_wp2_with fail
  rw [rounds_succ]
  go_wp2_with fail
  go_end0
  exact ⟨rfl, hx, hg⟩
set_option maxRecDepth 100000 in
set_option maxHeartbeats 1000000 in
theorem c_expect_no (s : ByteArray) (w : World) (B g : Nat) (lv : Value) (ts : List Lx.Tok) (sz : Nat) (q : List Lx.Tok) (dp : Bool) (h : Cx w B lv ts sz q dp) (hs : Px.sees s.data.toList q = false) (hne : s.data.toList ≠ []) (hv : w.cell? ⟨g, 0, none⟩ = some (.string s)) :
    Calls Tryz.prog 50 #[.pointer (some ⟨B, 0, none⟩), .slice (some ⟨g, 0, none⟩) 1 1] w fun x w' => x = Flt (Px.plc sz q) 4 ∧ Below w.heap.size w w' := by
  have HS := hd hs
  have HN := hd hne
  clear hs hne
  go_enter Tryz.func50, Tryz.ntmps50
  go_wp2_with fail
  refine wp_loop_rounds 1 ?_
  rw [rounds_succ]
  go_wp2_with fail
  refine (c_accept_no s w B lv ts sz q dp h HS.out HN.out).mono ?_
  rintro x w1 ⟨rfl, hb⟩
  go_wp2_with fail
  refine (c_must_no w1 B lv ts sz q dp (h.below hb)).mono ?_
  rintro x w2 ⟨rfl, hb2⟩
  exact ⟨rfl, rfl, hb.trans (hb2.mono hb.size)⟩

theorem grown_away {w w1 : World} {row : Option Nat} (h : w.grownBy w1 row) {M : Nat} (hM : w.heap.size ≤ M) (i : Nat) (v : Value) : w.grownBy (w1.setCell ⟨M, i, none⟩ v) row :=
  ⟨h.os, h.tape, h.output, by simpa [World.setCell] using h.size, fun k hk hne => by rw [Below.heap_setCell _ _ _ _ (by show k ≠ M; omega)]; exact h.block k hk hne⟩
/-- Behind a step that leaves all but the state's own block, the state is as that block says. -/
theorem Cx.step {w w' : World} {B : Nat} {lv : Value} {ts : List Lx.Tok} {sz : Nat} {q : List Lx.Tok} {dp dp' : Bool} (h : Cx w B lv ts sz q dp) (hg : w.grownBy w' (some B)) (hq : q ≠ []) (k : Nat) (hc : w.cell? ⟨B, 1, none⟩ = some (.int .i64 (k : Int))) (hb : Blk w' B #[lv, .int .i64 ((k : Int) + 1), .int .i64 (sz : Int), .bool dp'] 98) : Cx w' B lv ts sz q.tail dp' := by
  obtain ⟨j, rfl, h⟩ := h
  have e : (j : Int) = k := by
    have := h.cells.2.1
    rw [this] at hc
    simpa using hc
  have hk : j < ts.length := by
    apply Decidable.byContradiction
    intro hn
    exact hq (List.drop_eq_nil_of_le (by omega))
  refine ⟨j + 1, by rw [List.tail_drop], h.kept (k' := j + 1) hg ?_ (by omega)⟩
  rw [show ((j + 1 : Nat) : Int) = (k : Int) + 1 by omega]
  exact hb
theorem Cx.blk {w : World} {B : Nat} {lv : Value} {ts : List Lx.Tok} {sz : Nat} {q : List Lx.Tok} {dp : Bool} (h : Cx w B lv ts sz q dp) : ∃ k : Nat, k ≤ 2000 ∧ Blk w B #[lv, .int .i64 (k : Int), .int .i64 (sz : Int), .bool dp] 98 := by
  obtain ⟨k, _, h⟩ := h
  exact ⟨k, Nat.le_trans h.le h.len, h.blk⟩

set_option maxRecDepth 100000 in
set_option maxHeartbeats 1000000 in
theorem c_take_yes (w : World) (B : Nat) (lv : Value) (ts : List Lx.Tok) (sz : Nat) (tk : Nat) (tt : Lx.Bs) (tp : Nat) (q : List Lx.Tok) (dp : Bool) (h : Cx w B lv ts sz (⟨tk, tt, tp⟩ :: q) dp) (kd : Nat) (hk : tk = kd) :
    Calls Tryz.prog 85 #[.pointer (some ⟨B, 0, none⟩), .int .i64 (kd : Int)] w fun x w' => x = .returned (tokA ⟨tk, tt, tp⟩) ∧ Cx w' B lv ts sz q dp ∧ w.grownBy w' (some B) := by
  subst hk
  obtain ⟨k, hk2, hblk⟩ := h.blk
  have HX := hd h
  have hlt := h.lt
  clear h
  go_enter Tryz.func85, Tryz.ntmps85
  go_wp2_with fail
  refine (c_peek_any _ B lv ts sz _ dp (HX.out.below ((Below.refl _ _).alloc (Nat.le_refl _) _))).mono ?_
  rintro x w1 ⟨rfl, hb⟩
  have hs := hb.size
  have hb0 : Below w.heap.size w w1 := ((Below.refl _ _).alloc (Nat.le_refl _) _).trans (hb.mono (by simp))
  have K4 := (Blk.new w #[.int .i64 0, .string ⟨#[]⟩, .int .i64 0] 44).below hb (by simp)
  simp only [World.size_alloc] at hs
  unfold tokA pk
  simp only
  go_wp2_with fail
  refine (c_must_yes _ _).mono ?_
  rintro x w2 ⟨rfl, hw⟩
  have hb2 : Below w.heap.size w w2 := by subst hw; exact hb0.alloc (by omega) _
  have KB := hblk.below hb2 hlt
  have KN : Blk w2 w1.heap.size #[.int .i64 (tk : Int), .string ⟨tt.toArray⟩, .int .i64 (tp : Int)] 44 := by subst hw; exact Blk.new _ _ _
  have K4' : Blk w2 w.heap.size #[.int .i64 0, .string ⟨#[]⟩, .int .i64 0] 44 := by subst hw; exact K4.alloc _
  clear hw K4 hb hb0
  have c1 : w2.cell? ⟨B, 1, none⟩ = some (.int .i64 (k : Int)) := KB.cell 1
  have f1 := KB.free 1
  have n0 : w2.cell? ⟨w1.heap.size, 0, none⟩ = some (.int .i64 (tk : Int)) := KN.cell 0
  have n1 : w2.cell? ⟨w1.heap.size, 1, none⟩ = some (.string ⟨tt.toArray⟩) := KN.cell 1
  have n2 : w2.cell? ⟨w1.heap.size, 2, none⟩ = some (.int .i64 (tp : Int)) := KN.cell 2
  have m0 : w2.cell? ⟨w.heap.size, 0, none⟩ = some (.int .i64 0) := K4'.cell 0
  have m1 : w2.cell? ⟨w.heap.size, 1, none⟩ = some (.string ⟨#[]⟩) := K4'.cell 1
  have m2 : w2.cell? ⟨w.heap.size, 2, none⟩ = some (.int .i64 0) := K4'.cell 2
  have g0 := K4'.free 0
  have g1 := K4'.free 1
  have g2 := K4'.free 2
  have d1 : ¬ B = w1.heap.size := by omega
  have d2 : ¬ w1.heap.size = B := by omega
  have d3 : ¬ B = w.heap.size := by omega
  have d4 : ¬ w.heap.size = B := by omega
  have d5 : ¬ w1.heap.size = w.heap.size := by omega
  have d6 : ¬ w.heap.size = w1.heap.size := by omega
  have HB2 := hd hb2
  have HKB := hd KB
  have HK4 := hd K4'
  clear KN K4' hb2 KB
  go_wp2
  have KF := (((HK4.out.far ⟨B, 1, none⟩ (.int .i64 ((k : Int) + 1)) d3).set 0 (.int .i64 (tk : Int))).set 1 (.string ⟨tt.toArray⟩)).set 2 (.int .i64 (tp : Int))
  have e0 := KF.cell 0
  have e1 := KF.cell 1
  have e2 := KF.cell 2
  simp at e0 e1 e2
  refine bodyPost_ret (v := tokA ⟨tk, tt, tp⟩) (by simp [results, Tryz.results85, go_sem, tokA, e0, e1, e2]) rfl ⟨rfl, ?_, ?_⟩
  · refine Cx.step (q := ⟨tk, tt, tp⟩ :: q) HX.out (grown_away (grown_away (grown_away (grownBy_trans (Below.grownBy HB2.out) (grownBy_set w2 B 1 _)) (Nat.le_refl _) 0 _) (Nat.le_refl _) 1 _) (Nat.le_refl _) 2 _) (by simp) k (hblk.cell 1) ?_
    exact (((HKB.out.set 1 (.int .i64 ((k : Int) + 1))).far ⟨w.heap.size, 0, none⟩ _ d4).far ⟨w.heap.size, 1, none⟩ _ d4).far ⟨w.heap.size, 2, none⟩ _ d4
  · exact grown_away (grown_away (grown_away (grownBy_trans (Below.grownBy HB2.out) (grownBy_set w2 B 1 _)) (Nat.le_refl _) 0 _) (Nat.le_refl _) 1 _) (Nat.le_refl _) 2 _
set_option maxRecDepth 100000 in
set_option maxHeartbeats 1000000 in
theorem c_take_no (w : World) (B : Nat) (lv : Value) (ts : List Lx.Tok) (sz : Nat) (q : List Lx.Tok) (dp : Bool) (h : Cx w B lv ts sz q dp) (tk : Nat) (tt : Lx.Bs) (tp : Nat) (ht : pk sz q = ⟨tk, tt, tp⟩) (kd : Nat) (hk : tk ≠ kd) :
    Calls Tryz.prog 85 #[.pointer (some ⟨B, 0, none⟩), .int .i64 (kd : Int)] w fun x w' => x = Flt (Px.plc sz q) 4 ∧ Below w.heap.size w w' := by
  have HX := hd h
  have HT := hd ht
  have h0 : ((tk : Int) == (kd : Int)) = false := by rw [beq_eq_false_iff_ne]; omega
  clear h ht
  go_enter Tryz.func85, Tryz.ntmps85
  go_wp2_with fail
  refine (c_peek_any _ B lv ts sz _ dp (HX.out.below ((Below.refl _ _).alloc (Nat.le_refl _) _))).mono ?_
  rintro x w1 ⟨rfl, hb⟩
  have hs := hb.size
  have hb0 : Below w.heap.size w w1 := ((Below.refl _ _).alloc (Nat.le_refl _) _).trans (hb.mono (by simp))
  have HB0 := hd hb0
  clear hb hb0
  simp only [World.size_alloc] at hs
  rw [HT.out]
  unfold tokA
  simp only
  go_wp2_with fail
  refine (c_must_no _ B lv ts sz q dp (HX.out.below (HB0.out.alloc (by omega) _))).mono ?_
  rintro x w2 ⟨rfl, hb2⟩
  exact ⟨rfl, rfl, (HB0.out.alloc (by omega) _).trans (hb2.mono (by simp; omega))⟩

end Go.Proofs.YtcdgihdhpaipaaaGreatDoor

namespace Go.Proofs.YtcdgihdhpaipaaaGreatDoor
open Go.RowKit
set_option linter.unusedSimpArgs false
set_option linter.unusedVariables false

/-- How a reading ends: by a fault, or with what is read and the state behind it. -/
def OutF {α : Type} (B : Nat) (lv : Value) (ts : List Lx.Tok) (sz : Nat) (dp : Bool) (V : α → Value → World → Prop) (dv : α → Bool) (x : Ending) (w' : World) : Px.Res α → Prop
  | .error (p, c) => x = Flt p c
  | .ok (a, q') => ∃ v, x = .returned v ∧ V a v w' ∧ Cx w' B lv ts sz q' (dv a || dp)
def OutR {α : Type} (w : World) (B : Nat) (lv : Value) (ts : List Lx.Tok) (sz : Nat) (dp : Bool) (R : Px.Rg α) (q : List Lx.Tok) (V : α → Value → World → Prop) (dv : α → Bool) (x : Ending) (w' : World) : Prop :=
  w.grownBy w' (some B) ∧ ∃ r, R q r ∧ OutF B lv ts sz dp V dv x w' r
theorem OutR.err {α : Type} {w : World} {B : Nat} {lv : Value} {ts : List Lx.Tok} {sz : Nat} {dp : Bool} {R : Px.Rg α} {q : List Lx.Tok} {V : α → Value → World → Prop} {dv : α → Bool} {w' : World} {p c : Nat} (hg : w.grownBy w' (some B)) (h : R q (.error (p, c))) : OutR w B lv ts sz dp R q V dv (Flt p c) w' := ⟨hg, _, h, rfl⟩
theorem OutR.ok {α : Type} {w : World} {B : Nat} {lv : Value} {ts : List Lx.Tok} {sz : Nat} {dp : Bool} {R : Px.Rg α} {q : List Lx.Tok} {V : α → Value → World → Prop} {dv : α → Bool} {w' : World} {a : α} {q' : List Lx.Tok} {v : Value} (hg : w.grownBy w' (some B)) (h : R q (.ok (a, q'))) (hv : V a v w') (hx : Cx w' B lv ts sz q' (dv a || dp)) : OutR w B lv ts sz dp R q V dv (.returned v) w' := ⟨hg, _, h, v, rfl, hv, hx⟩
/-- Both ways that a reading may end. -/
theorem OutR.cases {α : Type} {w : World} {B : Nat} {lv : Value} {ts : List Lx.Tok} {sz : Nat} {dp : Bool} {R : Px.Rg α} {q : List Lx.Tok} {V : α → Value → World → Prop} {dv : α → Bool} {x : Ending} {w' : World} (h : OutR w B lv ts sz dp R q V dv x w') :
    w.grownBy w' (some B) ∧ ((∃ p c, R q (.error (p, c)) ∧ x = Flt p c) ∨ ∃ a q' v, R q (.ok (a, q')) ∧ x = .returned v ∧ V a v w' ∧ Cx w' B lv ts sz q' (dv a || dp)) := by
  obtain ⟨hg, r, hr, hf⟩ := h
  refine ⟨hg, ?_⟩
  match r, hr, hf with
  | .error (p, c), hr, hf => exact .inl ⟨p, c, hr, hf⟩
  | .ok (a, q'), hr, ⟨v, h1, h2, h3⟩ => exact .inr ⟨a, q', v, hr, h1, h2, h3⟩

def strV (s : Lx.Bs) (v : Value) (_ : World) : Prop := v = .string ⟨s.toArray⟩
def numV (n : Nat) (v : Value) (_ : World) : Prop := v = .int .i64 (n : Int)
def unitV (_ : Unit) (v : Value) (_ : World) : Prop := v = .tuple #[]
def noDeep {α : Type} (_ : α) : Bool := false

theorem grownBy_alloc {w w1 : World} {row : Option Nat} (h : w.grownBy w1 row) (o : Obj) : w.grownBy (w1.alloc o) row :=
  ⟨h.os, h.tape, h.output, by have := h.size; simp; omega, fun k hk hne => by
    rw [← h.block k hk hne]
    exact heap_alloc_old w1 o (Nat.lt_of_lt_of_le hk h.size)⟩
theorem pk_cons {sz : Nat} {q : List Lx.Tok} {tk : Nat} {tt : Lx.Bs} {tp : Nat} (ht : pk sz q = ⟨tk, tt, tp⟩) (h0 : tk ≠ 0) : ∃ q', q = ⟨tk, tt, tp⟩ :: q' := by
  cases q with
  | nil => simp only [pk, Lx.Tok.mk.injEq] at ht; omega
  | cons t q' => simp only [pk] at ht; exact ⟨q', by rw [ht]⟩
theorem plc_tok {sz : Nat} {q : List Lx.Tok} {tk : Nat} {tt : Lx.Bs} {tp : Nat} (ht : pk sz q = ⟨tk, tt, tp⟩) : Px.plc sz q = tp := by rw [plc_pk, ht]

/-- What must stand next. -/
theorem c_expect_any (s : ByteArray) (w : World) (B g : Nat) (lv : Value) (ts : List Lx.Tok) (sz : Nat) (q : List Lx.Tok) (dp : Bool) (h : Cx w B lv ts sz q dp) (hne : s.data.toList ≠ []) (hv : w.cell? ⟨g, 0, none⟩ = some (.string s)) :
    Calls Tryz.prog 50 #[.pointer (some ⟨B, 0, none⟩), .slice (some ⟨g, 0, none⟩) 1 1] w (OutR w B lv ts sz dp (Px.mustR sz s.data.toList) q unitV noDeep) := by
  cases hs : Px.sees s.data.toList q with
  | true =>
    refine (c_expect_yes s w B g lv ts sz q dp h hs hne hv).mono ?_
    rintro x w' ⟨rfl, hx, hg⟩
    exact OutR.ok hg (by unfold Px.mustR Px.must; rw [if_pos hs]) rfl hx
  | false =>
    refine (c_expect_no s w B g lv ts sz q dp h hs hne hv).mono ?_
    rintro x w' ⟨rfl, hb⟩
    exact OutR.err (Below.grownBy hb) (by unfold Px.mustR Px.must; rw [if_neg (by simp [hs])])

theorem name_no {sz : Nat} {q : List Lx.Tok} {tk : Nat} {tt : Lx.Bs} {tp : Nat} (ht : pk sz q = ⟨tk, tt, tp⟩) (hk : tk ≠ 18) : Px.nameR sz q (.error (Px.plc sz q, 4)) := by
  unfold Px.nameR
  cases q with
  | nil => rfl
  | cons t q =>
    simp only [pk] at ht
    subst ht
    simp only [Px.name, Px.plc]
    rw [if_pos hk]

set_option maxRecDepth 100000 in
set_option maxHeartbeats 1000000 in
/-- A name. -/
theorem c_name_any (w : World) (B : Nat) (lv : Value) (ts : List Lx.Tok) (sz : Nat) (q : List Lx.Tok) (dp : Bool) (h : Cx w B lv ts sz q dp) :
    Calls Tryz.prog 51 #[.pointer (some ⟨B, 0, none⟩)] w (OutR w B lv ts sz dp (Px.nameR sz) q strV noDeep) := by
  rcases ht : pk sz q with ⟨tk, tt, tp⟩
  by_cases hk : tk = 18
  · obtain ⟨q', rfl⟩ := pk_cons ht (by omega)
    have HX := hd h
    have HK := hd hk
    have hR : Px.nameR sz (⟨tk, tt, tp⟩ :: q') (if 30 < tt.length then .error (tp, 5) else .ok (tt, q')) := by
      unfold Px.nameR
      simp only [Px.name]
      rw [if_neg (by simpa using hk)]
      split <;> rfl
    have HR := hd hR
    clear h ht hk hR
    go_enter Tryz.func51, Tryz.ntmps51
    go_wp2_with fail
    refine (c_take_yes w B lv ts sz tk tt tp q' dp HX.out 18 HK.out).mono ?_
    rintro x w1 ⟨rfl, hx, hg⟩
    have HX1 := hd hx
    have HG1 := hd hg
    clear hx hg
    unfold tokA
    simp only
    by_cases hl : 30 < tt.length
    · have hl' : (30 : Int) < (tt.length : Int) := by omega
      go_wp2_with fail
      refine (c_fail_any _ _ tp 5).mono ?_
      rintro x w2 ⟨rfl, rfl⟩
      exact ⟨rfl, OutR.err (grownBy_alloc HG1.out _) (by have := HR.out; rwa [if_pos hl] at this)⟩
    · have hl' : ¬ (30 : Int) < (tt.length : Int) := by omega
      go_wp2_with fail
      go_ret
      exact OutR.ok (grownBy_alloc HG1.out _) (by have := HR.out; rwa [if_neg hl] at this) rfl (HX1.out.below ((Below.refl _ _).alloc (Nat.le_refl _) _))
  · have HX := hd h
    have HN := hd (name_no ht hk)
    go_enter Tryz.func51, Tryz.ntmps51
    go_wp2_with fail
    refine (c_take_no w B lv ts sz q dp HX.out tk tt tp ht 18 hk).mono ?_
    rintro x w1 ⟨rfl, hb⟩
    exact ⟨rfl, OutR.err (Below.grownBy hb) HN.out⟩

/-! Numbers. -/
theorem parse_digits : ∀ (l : Lx.Bs) (acc : Nat), (∀ c ∈ l, Lx.isDig c = true) → Px.dfold l acc ≤ 9223372036854775808 → Lib.parseUint10 acc l = .ok (Px.dfold l acc)
  | [], acc, _, _ => rfl
  | c :: l, acc, hd, hv => by
    rw [Px.dfold_cons] at hv ⊢
    have hc := hd c (by simp)
    simp only [Lx.isDig, decide_eq_true_eq] at hc
    have hge := Px.dfold_ge l (10 * acc + (c.toNat - 48))
    unfold Lib.parseUint10
    rw [if_pos hc, if_neg (by omega), if_neg (by omega), Nat.mul_comm acc 10]
    exact parse_digits l _ (fun x hx => hd x (by simp [hx])) hv
theorem atoi_digits {t : Lx.Bs} (hne : t ≠ []) (hd : ∀ c ∈ t, Lx.isDig c = true) (hv : Px.dval t ≤ 9223372036854775808) : Lib.atoiAll t = if Px.dval t = 9223372036854775808 then .range else .ok (Px.dval t : Int) := by
  cases t with
  | nil => exact absurd rfl hne
  | cons c r =>
    have hc := hd c (by simp)
    simp only [Lx.isDig, decide_eq_true_eq] at hc
    rw [Px.dval_fold] at hv ⊢
    have hp := parse_digits (c :: r) 0 hd hv
    simp only [Lib.atoiAll]
    rw [if_neg (by omega)]
    unfold Lib.parseMag
    rw [if_neg (by simp), hp]
    simp only
    have h45 : ¬ c.toNat = 45 := by omega
    by_cases he : Px.dfold (c :: r) 0 = 9223372036854775808
    · rw [if_pos ⟨h45, by omega⟩, if_pos he]
    · rw [if_neg (by omega), if_neg (by omega), if_neg he, if_neg h45]
/-- A number that is at most so great. -/
def numR (sz most : Nat) : Px.Rg Nat := fun ts r => match ts with
  | [] => r = .error (sz, 4)
  | t :: q => r = if t.kind ≠ 16 then .error (t.pos, 4) else if t.text = Lx.top ∨ most < Px.dval t.text then .error (t.pos, 3) else .ok (Px.dval t.text, q)
theorem num_no {sz most : Nat} {q : List Lx.Tok} {tk : Nat} {tt : Lx.Bs} {tp : Nat} (ht : pk sz q = ⟨tk, tt, tp⟩) (hk : tk ≠ 16) : numR sz most q (.error (Px.plc sz q, 4)) := by
  unfold numR
  cases q with
  | nil => rfl
  | cons t q =>
    simp only [pk] at ht
    subst ht
    simp only [Px.plc]
    rw [if_pos hk]
theorem top_iff {t : Lx.Bs} (hd : ∀ c ∈ t, Lx.isDig c = true) (ho : Lx.overTop t = false) : (Px.dval t = 9223372036854775808 ↔ t = Lx.top) ∧ Px.dval t ≤ 9223372036854775808 := by
  by_cases h : t = Lx.top
  · subst h; exact ⟨⟨fun _ => rfl, fun _ => Px.dval_topv⟩, by rw [Px.dval_topv]; omega⟩
  · have := Px.dval_lt hd ho h
    exact ⟨⟨fun e => by omega, fun e => absurd e h⟩, by omega⟩
theorem Cx.tok {w : World} {B : Nat} {lv : Value} {ts : List Lx.Tok} {sz : Nat} {t : Lx.Tok} {q : List Lx.Tok} {dp : Bool} (h : Cx w B lv ts sz (t :: q) dp) : Lx.TokOk t ∧ Px.SgnOk t ∧ t.pos ≤ 2000 ∧ t.text.length ≤ 2000 := by
  obtain ⟨k, h1, h2⟩ := h
  exact h2.toks t (List.mem_of_mem_drop (by rw [← h1]; simp))
theorem Cx.env {w : World} {B : Nat} {lv : Value} {ts : List Lx.Tok} {sz : Nat} {q : List Lx.Tok} {dp : Bool} (h : Cx w B lv ts sz q dp) : EnvP w := by
  obtain ⟨k, h1, h2⟩ := h
  exact h2.env

set_option maxRecDepth 100000 in
set_option maxHeartbeats 1000000 in
theorem c_number_any (w : World) (B : Nat) (lv : Value) (ts : List Lx.Tok) (sz : Nat) (q : List Lx.Tok) (dp : Bool) (h : Cx w B lv ts sz q dp) (most : Nat) (hm : most ≤ 9223372036854775807) :
    Calls Tryz.prog 95 #[.pointer (some ⟨B, 0, none⟩), .int .i64 (most : Int)] w (OutR w B lv ts sz dp (numR sz most) q numV noDeep) := by
  rcases ht : pk sz q with ⟨tk, tt, tp⟩
  by_cases hk : tk = 16
  · obtain ⟨q', rfl⟩ := pk_cons ht (by omega)
    have HX := hd h
    have HK := hd hk
    obtain ⟨hok, _, _, hlen⟩ := h.tok
    obtain ⟨hne, hdig, hov⟩ := hok.digs hk
    simp only at hne hdig hov hlen
    obtain ⟨htop, hle⟩ := top_iff hdig hov
    have hat := atoi_digits hne hdig hle
    have hR : numR sz most (⟨tk, tt, tp⟩ :: q') (if tt = Lx.top ∨ most < Px.dval tt then .error (tp, 3) else .ok (Px.dval tt, q')) := by
      unfold numR
      simp only
      rw [if_neg (show ¬ (tk ≠ 16) from fun e => e hk)]
    have HR := hd hR
    have hsz : (⟨tt.toArray⟩ : ByteArray).size ≤ 2000 := by simpa [ByteArray.size] using hlen
    clear h ht hk hR hok hne hdig hov
    go_enter Tryz.func95, Tryz.ntmps95
    go_wp2_with fail
    refine (c_take_yes w B lv ts sz tk tt tp q' dp HX.out 16 HK.out).mono ?_
    rintro x w1 ⟨rfl, hx, hg⟩
    have HX1 := hd (hx.below ((Below.refl _ _).alloc (Nat.le_refl _) (.cells #[.int .i64 (tk : Int), .string ⟨tt.toArray⟩, .int .i64 (tp : Int)] 44)))
    have HG1 := hd (grownBy_alloc hg (.cells #[.int .i64 (tk : Int), .string ⟨tt.toArray⟩, .int .i64 (tp : Int)] 44))
    have KN := Blk.new w1 #[.int .i64 (tk : Int), .string ⟨tt.toArray⟩, .int .i64 (tp : Int)] 44
    have HKN := hd KN
    clear hx hg KN
    unfold tokA
    simp only
    by_cases he : Px.dval tt = 9223372036854775808
    · rw [if_pos he] at hat
      obtain ⟨te, pe, hrng⟩ := HX1.out.env.rng
      have HA := hd ((Tryz.strconv_Atoi_range ⟨tt.toArray⟩ (by omega) hat _ _ hrng (.inr ⟨te, pe, rfl⟩)))
      clear hat hrng
      go_wp2_with fail
      refine HA.out.mono ?_
      rintro x w2 ⟨N, rfl, hN, _, hb⟩
      have KN2 := HKN.out.below hb (by simp)
      have n2 : w2.cell? ⟨w1.heap.size, 2, none⟩ = some (.int .i64 (tp : Int)) := KN2.cell 2
      have HB := hd hb
      clear hb KN2
      go_wp2_with fail
      refine (c_fail_any _ _ tp 3).mono ?_
      rintro x w3 ⟨rfl, rfl⟩
      exact ⟨rfl, OutR.err (grownBy_trans HG1.out (Below.grownBy HB.out)) (by have := HR.out; rwa [if_pos (.inl (htop.1 he))] at this)⟩
    · rw [if_neg he] at hat
      have HA := hd ((Tryz.strconv_Atoi_ok ⟨tt.toArray⟩ (by omega) _ hat (w1.alloc (.cells #[.int .i64 (tk : Int), .string ⟨tt.toArray⟩, .int .i64 (tp : Int)] 44))))
      have hlt : Px.dval tt < 9223372036854775808 := by omega
      clear hat
      go_wp2_with fail
      refine HA.out.mono ?_
      rintro x w2 ⟨rfl, hw⟩
      have hb : Below (w1.alloc (.cells #[.int .i64 (tk : Int), .string ⟨tt.toArray⟩, .int .i64 (tp : Int)] 44)).heap.size (w1.alloc (.cells #[.int .i64 (tk : Int), .string ⟨tt.toArray⟩, .int .i64 (tp : Int)] 44)) w2 := by
        rcases hw with rfl | ⟨t, rfl⟩
        · exact Below.refl _ _
        · exact Lib.bytesWorld_below _ _ _
      have KN2 := HKN.out.below hb (by simp)
      have n2 : w2.cell? ⟨w1.heap.size, 2, none⟩ = some (.int .i64 (tp : Int)) := KN2.cell 2
      have HB := hd hb
      clear hb KN2 hw
      generalize Px.dval tt = n at *
      by_cases hgt : most < n
      · have hgt' : (most : Int) < (n : Int) := by omega
        go_wp2_with fail
        refine (c_fail_any _ _ tp 3).mono ?_
        rintro x w3 ⟨rfl, rfl⟩
        exact ⟨rfl, OutR.err (grownBy_trans HG1.out (Below.grownBy HB.out)) (by have := HR.out; rwa [if_pos (.inr hgt)] at this)⟩
      · have hgt' : ¬ (most : Int) < (n : Int) := by omega
        go_wp2_with fail
        go_ret
        exact OutR.ok (grownBy_trans HG1.out (Below.grownBy HB.out)) (by have := HR.out; rwa [if_neg (by rintro (e | e); exact he (htop.2 e); exact hgt e)] at this) rfl (HX1.out.below HB.out)
  · have HX := hd h
    have HN := hd (num_no (most := most) ht hk)
    go_enter Tryz.func95, Tryz.ntmps95
    go_wp2_with fail
    refine (c_take_no w B lv ts sz q dp HX.out tk tt tp ht 16 hk).mono ?_
    rintro x w1 ⟨rfl, hb⟩
    exact ⟨rfl, OutR.err (Below.grownBy hb) HN.out⟩

/-! The table of operators. -/
theorem ops_at : ∀ (l : List (Nat × Lx.Bs × Nat)) (k : Nat) (h : k < l.length), (opsRow l)[k * 3]? = some (.int .i64 (l[k].2.2 : Int)) ∧ (opsRow l)[k * 3 + 1]? = some (.string ⟨l[k].2.1.toArray⟩) ∧ (opsRow l)[k * 3 + 2]? = some (.int .i64 (l[k].1 : Int))
  | (a, b, c) :: l, 0, _ => ⟨rfl, rfl, rfl⟩
  | (a, b, c) :: l, k + 1, h => by
    have ih := ops_at l k (by simpa using h)
    have e : ∀ j, (opsRow ((a, b, c) :: l))[j + 3]? = (opsRow l)[j]? := by
      intro j
      show ([Value.int .i64 (c : Int), .string ⟨b.toArray⟩, .int .i64 (a : Int)] ++ opsRow l)[j + 3]? = _
      rw [List.getElem?_append_right (by simp)]
      simp
    rw [show (k + 1) * 3 = k * 3 + 3 from by omega, show k * 3 + 3 + 1 = (k * 3 + 1) + 3 from by omega, show k * 3 + 3 + 2 = (k * 3 + 2) + 3 from by omega, e, e, e]
    simpa using ih
def opAgg (x : Nat × Lx.Bs × Nat) : Value := .agg #[.int .i64 (x.2.2 : Int), .string ⟨x.2.1.toArray⟩, .int .i64 (x.1 : Int)]
end Go.Proofs.YtcdgihdhpaipaaaGreatDoor

