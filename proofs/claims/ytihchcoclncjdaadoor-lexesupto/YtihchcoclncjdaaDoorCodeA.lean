/- Contracts of the program's own reader: its small tests, peek, take, fail. -/
import Derived.Test.YtihchcoclncjdaaDoorBas
import Derived.Test.YtihchcoclncjdaaDoorUtf
import Derived.Test.YtihchcoclncjdaaDoorShelf
import Derived.Deep.RegionHeld3
import Derived.Deep.DrawnRows
import Derived.Deep.RegionWith
namespace Go.Proofs.YtihchcoclncjdaaDoor
open Go.RowKit
set_option linter.unusedSimpArgs false
set_option linter.unusedVariables false

def sgns : List Lx.Bs := Lx.twos ++ Lx.ones

/-- What the package variables hold. -/
structure Env (w : World) : Prop where
  tabs : Lib.Utf8Tabs 2 3 w
  kws : ∃ t fr, w.heap[1]? = some (.cells (strRow Lx.keys) t fr)
  sgs : ∃ t fr, w.heap[0]? = some (.cells (strRow sgns) t fr)
  room : 6 ≤ w.heap.size

theorem Env.grown {w w' : World} {B : Nat} (h : Env w) (hg : w.grownBy w' (some B)) (hB : 6 ≤ B) : Env w' := by
  have hr := h.room
  have hb : ∀ k, k < 6 → w'.heap[k]? = w.heap[k]? := fun k hk => hg.block k (by omega) (by simp; omega)
  refine ⟨⟨fun c hc => ?_, fun i hi => ?_⟩, ?_, ?_, Nat.le_trans hr hg.size⟩
  · rw [World.cell?_of_block (w := w) (hb _ (by simp))]; exact h.tabs.1 c hc
  · rw [World.cell?_of_block (w := w) (hb _ (by simp)), World.cell?_of_block (w := w) (hb _ (by simp))]; exact h.tabs.2 i hi
  · rw [hb _ (by simp)]; exact h.kws
  · rw [hb _ (by simp)]; exact h.sgs

theorem Env.below {w w' : World} (h : Env w) (hb : Below w.heap.size w w') : Env w' := h.grown (B := w.heap.size) (Below.grownBy hb) h.room

theorem grownBy_trans {w w1 w2 : World} {row : Option Nat} (h : w.grownBy w1 row) (k : w1.grownBy w2 row) : w.grownBy w2 row :=
  ⟨k.os.trans h.os, k.tape.trans h.tape, k.output.trans h.output, Nat.le_trans h.size k.size, fun i hi hne => (k.block i (Nat.lt_of_lt_of_le hi h.size) hne).trans (h.block i hi hne)⟩
theorem grownBy_refl (w : World) (row : Option Nat) : w.grownBy w row := ⟨rfl, rfl, rfl, Nat.le_refl _, fun _ _ _ => rfl⟩
theorem grownBy_set (w : World) (B i : Nat) (v : Value) : w.grownBy (w.setCell ⟨B, i, none⟩ v) (some B) :=
  ⟨rfl, rfl, rfl, by simp [World.setCell], fun k _ hne => Below.heap_setCell w _ v k (by simpa using hne)⟩
theorem grownBy_drew {w w1 : World} {row : Option Nat} (h : w.grownBy w1 row) : w.grownBy w1.drew row := ⟨h.os, h.tape, h.output, h.size, h.block⟩

/-- The reader in block B: its text, where it stands, where its token began. -/
structure Rd (w : World) (B : Nat) (s : ByteArray) (k st : Nat) : Prop where
  blk : Blk w B #[.string s, .int .i64 (k : Int), .int .i64 (st : Int)] 61
  low : 6 ≤ B
  env : Env w
  le : k ≤ s.size
  small : s.size ≤ 2000

theorem Rd.below {w w' : World} {B : Nat} {s : ByteArray} {k st : Nat} (h : Rd w B s k st) (hb : Below w.heap.size w w') : Rd w' B s k st :=
  ⟨h.blk.below hb h.blk.lt, h.low, h.env.below hb, h.le, h.small⟩
theorem Rd.drew {w : World} {B : Nat} {s : ByteArray} {k st : Nat} (h : Rd w B s k st) : Rd w.drew B s k st :=
  ⟨h.blk, h.low, ⟨h.env.tabs, h.env.kws, h.env.sgs, h.env.room⟩, h.le, h.small⟩
theorem Rd.set1 {w : World} {B : Nat} {s : ByteArray} {k st : Nat} (h : Rd w B s k st) (j : Nat) (hj : j ≤ s.size) : Rd (w.setCell ⟨B, 1, none⟩ (.int .i64 (j : Int))) B s j st :=
  ⟨h.blk.set 1 _, h.low, h.env.grown (grownBy_set w B 1 _) h.low, hj, h.small⟩
theorem Rd.set2 {w : World} {B : Nat} {s : ByteArray} {k st : Nat} (h : Rd w B s k st) (j : Nat) : Rd (w.setCell ⟨B, 2, none⟩ (.int .i64 (j : Int))) B s k j :=
  ⟨h.blk.set 2 _, h.low, h.env.grown (grownBy_set w B 2 _) h.low, h.le, h.small⟩

/-! The reader's tests on runes. -/
def rSp (r : Int) : Bool := decide (r = 9 ∨ r = 10 ∨ r = 13 ∨ r = 32)
def rLine (r : Int) : Bool := decide (r ≠ 10)
def rDig (r : Int) : Bool := decide (48 ≤ r ∧ r ≤ 57)
def rWd (r : Int) : Bool := decide ((97 ≤ r ∧ r ≤ 122) ∨ (65 ≤ r ∧ r ≤ 90) ∨ r = 95 ∨ (48 ≤ r ∧ r ≤ 57))

set_option maxHeartbeats 400000 in
theorem isSpace_any (r : Int) (w : World) : Calls Tryd.prog 31 #[.int .i32 r] w fun e w' => e = .returned (.bool (rSp r)) ∧ w' = w := by
  go_enter Tryd.func31, Tryd.ntmps31
  go_wp2
  all_goals
    go_ret
    refine ⟨ret_bool ?_, rfl⟩
    rw [Bool.eq_iff_iff]; simp [rSp]; omega
set_option maxHeartbeats 400000 in
theorem inLine_any (r : Int) (w : World) : Calls Tryd.prog 33 #[.int .i32 r] w fun e w' => e = .returned (.bool (rLine r)) ∧ w' = w := by
  go_enter Tryd.func33, Tryd.ntmps33
  go_wp2
  all_goals
    go_ret
    refine ⟨ret_bool ?_, rfl⟩
    rw [Bool.eq_iff_iff]; simp [rLine]
set_option maxHeartbeats 400000 in
theorem isDigit_any (r : Int) (w : World) : Calls Tryd.prog 39 #[.int .i32 r] w fun e w' => e = .returned (.bool (rDig r)) ∧ w' = w := by
  go_enter Tryd.func39, Tryd.ntmps39
  go_wp2
  all_goals
    go_ret
    refine ⟨ret_bool ?_, rfl⟩
    rw [Bool.eq_iff_iff]; simp [rDig]; omega
set_option maxHeartbeats 1000000 in
theorem inWord_any (r : Int) (w : World) : Calls Tryd.prog 41 #[.int .i32 r] w fun e w' => e = .returned (.bool (rWd r)) ∧ w' = w := by
  go_enter Tryd.func41, Tryd.ntmps41
  go_wp2_with (go_at_call 39; refine (isDigit_any _ _).mono ?_; rintro e w' ⟨rfl, rfl⟩)
  all_goals
    go_ret
    refine ⟨ret_bool ?_, rfl⟩
    rw [Bool.eq_iff_iff]; simp [rWd, rDig] <;> omega

set_option maxHeartbeats 400000 in
theorem fail_any (w : World) (B : Nat) (s : ByteArray) (k st : Nat) (c : Int) (h : Rd w B s k st) :
    Calls Tryd.prog 49 #[.pointer (some ⟨B, 0, none⟩), .int .i64 c] w fun e w' => e = .panicked [{ v := .iface 58 (.agg #[.int .i64 (st : Int), .int .i64 c]), recovered := false }] ∧ w' = w := by
  obtain ⟨⟨b0, b1, b2⟩, b3, b4, b5⟩ := h.blk.three
  go_enter Tryd.func49, Tryd.ntmps49
  go_wp2
  exact ⟨rfl, rfl, rfl⟩

/-- What 'peek' answers of what is left. -/
def peekN (s : ByteArray) (k : Nat) : Int × Nat :=
  if k < s.size then (if Lx.charN (s.data.toList.drop k) = 0 then (-2, 1) else ((Utf8.decode s k).1, Lx.charN (s.data.toList.drop k))) else (-1, 0)

theorem get_extract (s : ByteArray) (k j : Nat) : (s.extract k s.size).get! j = s.get! (k + j) := by
  have e : (s.extract k s.size).data.toList = s.data.toList.drop k := Lib.extract_to_end s k
  have g : ∀ (t : ByteArray) (i : Nat), t.get! i = (t.data.toList[i]?).getD default := by
    intro t i
    show t.data[i]! = _
    rw [getElem!_def]
    simp only [Array.getElem?_toList]
    cases t.data[i]? <;> rfl
  rw [g, g, e, List.getElem?_drop]

theorem decode_extract (s : ByteArray) (k : Nat) (h : k ≤ s.size) : Utf8.decode (s.extract k s.size) 0 = Utf8.decode s k := by
  rw [Lib.decode_at, Lib.decode_at]
  rw [get_extract, get_extract, get_extract, get_extract]
  simp only [Nat.zero_add, Nat.add_zero, Nat.sub_zero]
  congr 1
  simp

theorem decodeGo_at (s : ByteArray) (k : Nat) (h : k < s.size) : Lib.decodeGo (s.extract k s.size) = Utf8.decode s k := by
  unfold Lib.decodeGo
  rw [if_neg (by simp; omega), decode_extract s k (by omega)]
theorem decodeGo_end (s : ByteArray) (k : Nat) (h : ¬ k < s.size) : Lib.decodeGo (s.extract k s.size) = (65533, 0) := by
  unfold Lib.decodeGo
  rw [if_pos (by simp; omega)]

set_option maxRecDepth 100000 in
set_option maxHeartbeats 1000000 in
theorem peek_any (w : World) (B : Nat) (s : ByteArray) (k st : Nat) (h : Rd w B s k st) :
    Calls Tryd.prog 38 #[.pointer (some ⟨B, 0, none⟩)] w fun e w' => e = .returned (.tuple #[.int .i32 (peekN s k).1, .int .i64 ((peekN s k).2 : Int)]) ∧ Below w.heap.size w w' := by
  obtain ⟨⟨b0, b1, b2⟩, b3, b4, b5⟩ := h.blk.three
  have hle := h.le
  have hsm := h.small
  by_cases hk : k < s.size
  · by_cases hc : Lx.charN (s.data.toList.drop k) = 0
    · have hp : peekN s k = (-2, 1) := by unfold peekN; rw [if_pos hk, if_pos hc]
      have hd := (decodeGo_at s k hk).trans (dec_bad s k hk hc).1
      rw [hp]
      clear hp hc
      go_enter Tryd.func38, Tryd.ntmps38
      go_wp2
      go_region_with (go_at_call 48; refine (Tryd.utf8_DecodeRuneInString _ _ h.drew.env.tabs).mono ?_; rintro e w1 ⟨rfl, hb1⟩; simp only [hd])
      all_goals
        go_wp2
        go_ret2
        exact ⟨rfl, (Below.refl _ _).drew.trans (by assumption)⟩
    · obtain ⟨hg1, hg2, hg3⟩ := dec_good s k hk hc
      have hp : peekN s k = (((Utf8.decode s k).1 : Int), (Utf8.decode s k).2) := by unfold peekN; rw [if_pos hk, if_neg hc, hg1]
      have hd := decodeGo_at s k hk
      have hx : ¬ ((Utf8.decode s k).1 = 65533 ∧ (Utf8.decode s k).2 ≤ 1) := by
        rintro ⟨q1, q2⟩
        rcases hg3 with ⟨_, q3, q4⟩ | ⟨q3, _⟩ <;> omega
      rw [hp]
      generalize Utf8.decode s k = d at *
      obtain ⟨c, n⟩ := d
      clear hp hc hg1 hg2 hg3
      simp only
      by_cases hc1 : c = 65533
      · subst hc1
        have hn : 1 < n := by simp at hx; omega
        clear hx
        go_enter Tryd.func38, Tryd.ntmps38
        go_wp2
        go_region_with (go_at_call 48; refine (Tryd.utf8_DecodeRuneInString _ _ h.drew.env.tabs).mono ?_; rintro e w1 ⟨rfl, hb1⟩; simp only [hd])
        all_goals
          go_wp2
          go_ret2
          exact ⟨rfl, (Below.refl _ _).drew.trans (by assumption)⟩
      · have hn : ¬ (c : Int) = 65533 := by omega
        clear hx hc1
        go_enter Tryd.func38, Tryd.ntmps38
        go_wp2
        go_region_with (go_at_call 48; refine (Tryd.utf8_DecodeRuneInString _ _ h.drew.env.tabs).mono ?_; rintro e w1 ⟨rfl, hb1⟩; simp only [hd])
        all_goals
          go_wp2
          go_ret2
          exact ⟨rfl, (Below.refl _ _).drew.trans (by assumption)⟩
  · have hp : peekN s k = (-1, 0) := by unfold peekN; rw [if_neg hk]
    have hd := decodeGo_end s k hk
    rw [hp]
    clear hp
    go_enter Tryd.func38, Tryd.ntmps38
    go_wp2
    go_region_with (go_at_call 48; refine (Tryd.utf8_DecodeRuneInString _ _ h.drew.env.tabs).mono ?_; rintro e w1 ⟨rfl, hb1⟩; simp only [hd])
    all_goals
      go_wp2
      go_ret2
      exact ⟨rfl, (Below.refl _ _).drew.trans (by assumption)⟩

end Go.Proofs.YtihchcoclncjdaaDoor
