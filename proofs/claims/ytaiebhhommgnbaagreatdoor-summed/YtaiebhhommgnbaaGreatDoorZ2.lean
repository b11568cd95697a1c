/- Parts of the proof: CodeA CpA VarA -/
import Derived.Test.YtaiebhhommgnbaaGreatDoorZ1
import Derived.Test.YtaiebhhommgnbaaGreatDoorZShelf
import Derived.Deep.RegionHeld3
import Derived.Deep.DrawnRows
import Derived.Deep.RegionWith
import Derived.Test.YtaiebhhommgnbaaGreatDoorRows
import Derived.Lib.LaidU8T
import Derived.PinnedBridge
import Derived.Deep.Strs
namespace Go.Proofs.YtaiebhhommgnbaaGreatDoor
set_option linter.unusedSimpArgs false
set_option linter.unusedVariables false
set_option maxRecDepth 100000
set_option maxHeartbeats 16000000
open Go.RowKit
def sgns : List Lx.Bs := Lx.twos ++ Lx.ones
structure Env (w : World) : Prop where
 tabs : Lib.Utf8Tabs 5 6 w
 kws : ∃ t fr, w.heap[4]? = some (.cells (strRow Lx.keys) t fr)
 sgs : ∃ t fr, w.heap[3]? = some (.cells (strRow sgns) t fr)
 room : 12 ≤ w.heap.size
theorem Env.grown {w w' : World} {B : Nat} (h : Env w) (hg : w.grownBy w' (some B)) (hB : 12 ≤ B) : Env w' := by
 have hr := h.room
 have hb : ∀ k, k < 12 → w'.heap[k]? = w.heap[k]? := fun k hk => hg.block k (by omega) (by simp; omega)
 refine ⟨⟨fun c hc => ?_, fun i hi => ?_⟩, ?_, ?_, Nat.le_trans hr hg.size⟩
 · rw [World.cell?_of_block (w := w) (hb _ (by simp))]; exact h.tabs.1 c hc
 · rw [World.cell?_of_block (w := w) (hb _ (by simp)), World.cell?_of_block (w := w) (hb _ (by simp))]; exact h.tabs.2 i hi
 · rw [hb _ (by simp)]; exact h.kws
 · rw [hb _ (by simp)]; exact h.sgs
theorem Env.below {w w' : World} (h : Env w) (hb : Below w.heap.size w w') : Env w' := h.grown (B := w.heap.size) (Below.grownBy hb) h.room
structure Env0 (w : World) : Prop where
 tabs : Lib.Utf8Tabs 5 6 w
 kws : ∃ t fr, w.heap[4]? = some (.cells (strRow Lx.keys) t fr)
 room : 12 ≤ w.heap.size
theorem Env.weak {w : World} (h : Env w) : Env0 w := ⟨h.tabs, h.kws, h.room⟩
theorem grownBy_trans {w w1 w2 : World} {row : Option Nat} (h : w.grownBy w1 row) (k : w1.grownBy w2 row) : w.grownBy w2 row :=
 ⟨k.os.trans h.os, k.tape.trans h.tape, k.output.trans h.output, Nat.le_trans h.size k.size, fun i hi hne => (k.block i (Nat.lt_of_lt_of_le hi h.size) hne).trans (h.block i hi hne)⟩
theorem grownBy_refl (w : World) (row : Option Nat) : w.grownBy w row := ⟨rfl, rfl, rfl, Nat.le_refl _, fun _ _ _ => rfl⟩
theorem grownBy_set (w : World) (B i : Nat) (v : Value) : w.grownBy (w.setCell ⟨B, i, none⟩ v) (some B) :=
 ⟨rfl, rfl, rfl, by simp [World.setCell], fun k _ hne => Below.heap_setCell w _ v k (by simpa using hne)⟩
theorem grownBy_drew {w w1 : World} {row : Option Nat} (h : w.grownBy w1 row) : w.grownBy w1.drew row := ⟨h.os, h.tape, h.output, h.size, h.block⟩
structure Rd (w : World) (B : Nat) (s : ByteArray) (k st : Nat) : Prop where
 blk : Blk w B #[.string s, .int .i64 (k : Int), .int .i64 (st : Int)] 106
 low : 12 ≤ B
 env : Env w
 le : k ≤ s.size
 small : s.size ≤ 2000
theorem Rd.below {w w' : World} {B : Nat} {s : ByteArray} {k st : Nat} (h : Rd w B s k st) (hb : Below w.heap.size w w') : Rd w' B s k st :=
 ⟨h.blk.below hb h.blk.lt, h.low, h.env.below hb, h.le, h.small⟩
theorem Rd.drew {w : World} {B : Nat} {s : ByteArray} {k st : Nat} (h : Rd w B s k st) : Rd w.drew B s k st :=
 ⟨h.blk, h.low, ⟨h.env.tabs, h.env.kws, h.env.sgs, h.env.room⟩, h.le, h.small⟩
theorem Rd.set1 {w : World} {B : Nat} {s : ByteArray} {k st : Nat} (h : Rd w B s k st) (j : Nat) (hj : j ≤ s.size) : Rd (w.setCell ⟨B, 1, none⟩ (.int .i64 (j : Int))) B s j st :=
 ⟨h.blk.set 1 _, h.low, h.env.grown (grownBy_set w B 1 _) h.low, hj, h.small⟩
theorem Rd.set2 {w : World} {B : Nat} {s : ByteArray} {k st : Nat} (h : Rd w B s k st) (j : Nat) : Rd (w.setCell ⟨B, 2, none⟩ (.int .i64 (j : Int))) B s k j :=
 ⟨h.blk.set 2 _, h.low, h.env.grown (grownBy_set w B 2 _) h.low, h.le, h.small⟩
def rSp (r : Int) : Bool := decide (r = 9 ∨ r = 10 ∨ r = 13 ∨ r = 32)
def rLine (r : Int) : Bool := decide (r ≠ 10)
def rDig (r : Int) : Bool := decide (48 ≤ r ∧ r ≤ 57)
def rWd (r : Int) : Bool := decide ((97 ≤ r ∧ r ≤ 122) ∨ (65 ≤ r ∧ r ≤ 90) ∨ r = 95 ∨ (48 ≤ r ∧ r ≤ 57))
theorem isSpace_any (r : Int) (w : World) : Calls Tryz.prog 85 #[.int .i32 r] w fun e w' => e = .returned (.bool (rSp r)) ∧ w' = w := by
 go_enter Tryz.func85, Tryz.ntmps85
 go_wp2
 all_goals
  go_ret
  refine ⟨ret_bool ?_, rfl⟩
  rw [Bool.eq_iff_iff]; simp [rSp]; omega
theorem inLine_any (r : Int) (w : World) : Calls Tryz.prog 87 #[.int .i32 r] w fun e w' => e = .returned (.bool (rLine r)) ∧ w' = w := by
 go_enter Tryz.func87, Tryz.ntmps87
 go_wp2
 all_goals
  go_ret
  refine ⟨ret_bool ?_, rfl⟩
  rw [Bool.eq_iff_iff]; simp [rLine]
theorem isDigit_any (r : Int) (w : World) : Calls Tryz.prog 140 #[.int .i32 r] w fun e w' => e = .returned (.bool (rDig r)) ∧ w' = w := by
 go_enter Tryz.func140, Tryz.ntmps140
 go_wp2
 all_goals
  go_ret
  refine ⟨ret_bool ?_, rfl⟩
  rw [Bool.eq_iff_iff]; simp [rDig]; omega
theorem inWord_any (r : Int) (w : World) : Calls Tryz.prog 142 #[.int .i32 r] w fun e w' => e = .returned (.bool (rWd r)) ∧ w' = w := by
 go_enter Tryz.func142, Tryz.ntmps142
 go_wp2_with (go_at_call 140; refine (isDigit_any _ _).mono ?_; rintro e w' ⟨rfl, rfl⟩)
 all_goals
  go_ret
  refine ⟨ret_bool ?_, rfl⟩
  rw [Bool.eq_iff_iff]; simp [rWd, rDig] <;> omega
theorem fail_any (w : World) (B : Nat) (s : ByteArray) (k st : Nat) (c : Int) (h : Rd w B s k st) :
   Calls Tryz.prog 188 #[.pointer (some ⟨B, 0, none⟩), .int .i64 c] w fun e w' => e = .panicked [{ v := .iface 61 (.agg #[.int .i64 (st : Int), .int .i64 c]), recovered := false }] ∧ w' = w := by
 obtain ⟨⟨b0, b1, b2⟩, b3, b4, b5⟩ := h.blk.three
 go_enter Tryz.func188, Tryz.ntmps188
 go_wp2
 exact ⟨rfl, rfl, rfl⟩
def peekN (s : ByteArray) (k : Nat) : Int × Nat :=
 if k < s.size then (if Lx.charN (s.data.toList.drop k) = 0 then (-2, 1) else ((Utf8.decode s k).1, Lx.charN (s.data.toList.drop k))) else (-1, 0)
theorem get_extract (s : ByteArray) (k j : Nat) : (s.extract k s.size).get! j = s.get! (k + j) := by
 have e : (s.extract k s.size).data.toList = s.data.toList.drop k := Lib.extract_to_end s k
 have g : ∀ (t : ByteArray) (i : Nat), t.get! i = (t.data.toList[i]?).getD default := by
  intro t i
  show t.data[i]! = _
  rw [getElem!_def]
  simp only [Array.getElem?_toList]
  cases t.data[i]? <;> rfl
 rw [g, g, e, List.getElem?_drop]
theorem decode_extract (s : ByteArray) (k : Nat) (h : k ≤ s.size) : Utf8.decode (s.extract k s.size) 0 = Utf8.decode s k := by
 rw [Lib.decode_at, Lib.decode_at]
 rw [get_extract, get_extract, get_extract, get_extract]
 simp only [Nat.zero_add, Nat.add_zero, Nat.sub_zero]
 congr 1
 simp
theorem decodeGo_at (s : ByteArray) (k : Nat) (h : k < s.size) : Lib.decodeGo (s.extract k s.size) = Utf8.decode s k := by
 unfold Lib.decodeGo
 rw [if_neg (by simp; omega), decode_extract s k (by omega)]
theorem decodeGo_end (s : ByteArray) (k : Nat) (h : ¬ k < s.size) : Lib.decodeGo (s.extract k s.size) = (65533, 0) := by
 unfold Lib.decodeGo
 rw [if_pos (by simp; omega)]
theorem peek_any (w : World) (B : Nat) (s : ByteArray) (k st : Nat) (h : Rd w B s k st) :
   Calls Tryz.prog 139 #[.pointer (some ⟨B, 0, none⟩)] w fun e w' => e = .returned (.tuple #[.int .i32 (peekN s k).1, .int .i64 ((peekN s k).2 : Int)]) ∧ Below w.heap.size w w' := by
 obtain ⟨⟨b0, b1, b2⟩, b3, b4, b5⟩ := h.blk.three
 have hle := h.le
 have hsm := h.small
 by_cases hk : k < s.size
 · by_cases hc : Lx.charN (s.data.toList.drop k) = 0
   · have hp : peekN s k = (-2, 1) := by unfold peekN; rw [if_pos hk, if_pos hc]
     have hd := (decodeGo_at s k hk).trans (dec_bad s k hk hc).1
     rw [hp]
     clear hp hc
     go_enter Tryz.func139, Tryz.ntmps139
     go_wp2
     go_region_with (go_at_call 187; refine (Tryz.utf8_DecodeRuneInString _ _ h.drew.env.tabs).mono ?_; rintro e w1 ⟨rfl, hb1⟩; simp only [hd])
     all_goals
      go_wp2
      go_ret2
      exact ⟨rfl, (Below.refl _ _).drew.trans (by assumption)⟩
   · obtain ⟨hg1, hg2, hg3⟩ := dec_good s k hk hc
     have hp : peekN s k = (((Utf8.decode s k).1 : Int), (Utf8.decode s k).2) := by unfold peekN; rw [if_pos hk, if_neg hc, hg1]
     have hd := decodeGo_at s k hk
     have hx : ¬ ((Utf8.decode s k).1 = 65533 ∧ (Utf8.decode s k).2 ≤ 1) := by
      rintro ⟨q1, q2⟩
      rcases hg3 with ⟨_, q3, q4⟩ | ⟨q3, _⟩ <;> omega
     rw [hp]
     generalize Utf8.decode s k = d at *
     obtain ⟨c, n⟩ := d
     clear hp hc hg1 hg2 hg3
     simp only
     by_cases hc1 : c = 65533
     · subst hc1
       have hn : 1 < n := by simp at hx; omega
       clear hx
       go_enter Tryz.func139, Tryz.ntmps139
       go_wp2
       go_region_with (go_at_call 187; refine (Tryz.utf8_DecodeRuneInString _ _ h.drew.env.tabs).mono ?_; rintro e w1 ⟨rfl, hb1⟩; simp only [hd])
       all_goals
        go_wp2
        go_ret2
        exact ⟨rfl, (Below.refl _ _).drew.trans (by assumption)⟩
     · have hn : ¬ (c : Int) = 65533 := by omega
       clear hx hc1
       go_enter Tryz.func139, Tryz.ntmps139
       go_wp2
       go_region_with (go_at_call 187; refine (Tryz.utf8_DecodeRuneInString _ _ h.drew.env.tabs).mono ?_; rintro e w1 ⟨rfl, hb1⟩; simp only [hd])
       all_goals
        go_wp2
        go_ret2
        exact ⟨rfl, (Below.refl _ _).drew.trans (by assumption)⟩
 · have hp : peekN s k = (-1, 0) := by unfold peekN; rw [if_neg hk]
   have hd := decodeGo_end s k hk
   rw [hp]
   clear hp
   go_enter Tryz.func139, Tryz.ntmps139
   go_wp2
   go_region_with (go_at_call 187; refine (Tryz.utf8_DecodeRuneInString _ _ h.drew.env.tabs).mono ?_; rintro e w1 ⟨rfl, hb1⟩; simp only [hd])
   all_goals
    go_wp2
    go_ret2
    exact ⟨rfl, (Below.refl _ _).drew.trans (by assumption)⟩
def opsRow : List (Nat × Lx.Bs × Nat) → List Value
 | [] => []
 | (l, s, k) :: r => [.int .i64 (k : Int), .string ⟨s.toArray⟩, .int .i64 (l : Int)] ++ opsRow r
structure EnvP (w : World) : Prop where
 env : Env w
 ops : ∃ t fr, w.heap[7]? = some (.cells (opsRow Px.opTab).toArray t fr)
 rng : ∃ te pe, w.cell? ⟨9, 0, none⟩ = some (.iface te pe)
theorem EnvP.grown {w w' : World} {B : Nat} (h : EnvP w) (hg : w.grownBy w' (some B)) (hB : 12 ≤ B) : EnvP w' := by
 have hr := h.env.room
 have hb : ∀ k, k < 12 → w'.heap[k]? = w.heap[k]? := fun k hk => hg.block k (by omega) (by simp; omega)
 refine ⟨h.env.grown hg hB, ?_, ?_⟩
 · rw [hb _ (by simp)]; exact h.ops
 · rw [World.cell?_of_block (w := w) (hb _ (by simp))]; exact h.rng
theorem EnvP.below {w w' : World} (h : EnvP w) (hb : Below w.heap.size w w') : EnvP w' := h.grown (B := w.heap.size) (Below.grownBy hb) h.env.room
structure EnvW (w : World) : Prop where
 env : Env0 w
 ops : ∃ t fr, w.heap[7]? = some (.cells (opsRow Px.opTab).toArray t fr)
structure Cs (w : World) (B : Nat) (lv : Value) (ts : List Lx.Tok) (sz k : Nat) (dp : Bool) : Prop where
 blk : Blk w B #[lv, .int .i64 (k : Int), .int .i64 (sz : Int), .bool dp] 66
 own : ∃ b, w.ownsRow b 109 3 lv ts.length (toksV ts)
 ne : lv.ownBlock ≠ some B
 toks : ∀ t ∈ ts, Lx.TokOk t ∧ Px.SgnOk t ∧ t.pos ≤ 2000 ∧ t.text.length ≤ 2000
 len : ts.length ≤ 2000
 size : sz ≤ 2000
 le : k ≤ ts.length
 env : EnvP w
 low : 12 ≤ B
theorem Cs.kept {w w' : World} {B : Nat} {lv : Value} {ts : List Lx.Tok} {sz k k' : Nat} {dp dp' : Bool} (h : Cs w B lv ts sz k dp) (hg : w.grownBy w' (some B)) (hb : Blk w' B #[lv, .int .i64 (k' : Int), .int .i64 (sz : Int), .bool dp'] 66) (hk : k' ≤ ts.length) : Cs w' B lv ts sz k' dp' := by
 obtain ⟨b, ho⟩ := h.own
 refine ⟨hb, ⟨b, ho.kept hg ?_⟩, h.ne, h.toks, h.len, h.size, hk, h.env.grown hg h.low, h.low⟩
 cases hv : lv.ownBlock with
 | none => simp
 | some g => right; intro e; exact h.ne (by rw [hv, e])
theorem Cs.below {w w' : World} {B : Nat} {lv : Value} {ts : List Lx.Tok} {sz k : Nat} {dp : Bool} (h : Cs w B lv ts sz k dp) (hb : Below w.heap.size w w') : Cs w' B lv ts sz k dp := by
 obtain ⟨b, ho⟩ := h.own
 exact ⟨h.blk.below hb h.blk.lt, ⟨b, owns_below ho hb⟩, h.ne, h.toks, h.len, h.size, h.le, h.env.below hb, h.low⟩
theorem Cs.setAt {w : World} {B : Nat} {lv : Value} {ts : List Lx.Tok} {sz k : Nat} {dp : Bool} (h : Cs w B lv ts sz k dp) (j : Nat) (hj : j ≤ ts.length) : Cs (w.setCell ⟨B, 1, none⟩ (.int .i64 (j : Int))) B lv ts sz j dp :=
 h.kept (grownBy_set w B 1 _) (h.blk.set 1 _) hj
theorem Cs.setDeep {w : World} {B : Nat} {lv : Value} {ts : List Lx.Tok} {sz k : Nat} {dp : Bool} (h : Cs w B lv ts sz k dp) : Cs (w.setCell ⟨B, 3, none⟩ (.bool true)) B lv ts sz k true :=
 h.kept (grownBy_set w B 3 _) (h.blk.set 3 _) h.le
theorem Cs.cells {w : World} {B : Nat} {lv : Value} {ts : List Lx.Tok} {sz k : Nat} {dp : Bool} (h : Cs w B lv ts sz k dp) :
   w.cell? ⟨B, 0, none⟩ = some lv ∧ w.cell? ⟨B, 1, none⟩ = some (.int .i64 (k : Int)) ∧ w.cell? ⟨B, 2, none⟩ = some (.int .i64 (sz : Int)) ∧ w.cell? ⟨B, 3, none⟩ = some (.bool dp) :=
 ⟨h.blk.cell 0, h.blk.cell 1, h.blk.cell 2, h.blk.cell 3⟩
def Cx (w : World) (B : Nat) (lv : Value) (ts : List Lx.Tok) (sz : Nat) (q : List Lx.Tok) (dp : Bool) : Prop := ∃ k, q = ts.drop k ∧ Cs w B lv ts sz k dp
theorem Cx.below {w w' : World} {B : Nat} {lv : Value} {ts : List Lx.Tok} {sz : Nat} {q : List Lx.Tok} {dp : Bool} (h : Cx w B lv ts sz q dp) (hb : Below w.heap.size w w') : Cx w' B lv ts sz q dp := by
 obtain ⟨k, h1, h2⟩ := h
 exact ⟨k, h1, h2.below hb⟩
def pk (sz : Nat) : List Lx.Tok → Lx.Tok
 | [] => ⟨0, [], sz⟩
 | t :: _ => t
theorem pk_drop (ts : List Lx.Tok) (sz k : Nat) : pk sz (ts.drop k) = hereT ts sz k := by
 unfold hereT
 by_cases hk : k < ts.length
 · rw [List.drop_eq_getElem_cons hk]
   simp [pk, hk]
 · rw [List.drop_eq_nil_of_le (by omega)]
   simp [pk, hk]
theorem plc_pk (sz : Nat) (q : List Lx.Tok) : Px.plc sz q = (pk sz q).pos := by cases q <;> rfl
theorem sees_pk (s : Lx.Bs) (sz : Nat) (q : List Lx.Tok) : Px.sees s q = ((decide ((pk sz q).kind = 50) || decide ((pk sz q).kind = 51)) && (pk sz q).text == s) := by cases q <;> rfl
def Flt (p c : Nat) : Ending := .panicked [{ v := .iface 61 (.agg #[.int .i64 (p : Int), .int .i64 (c : Int)]), recovered := false }]
theorem Cs.tok {w : World} {B : Nat} {lv : Value} {ts : List Lx.Tok} {sz k : Nat} {dp : Bool} (h : Cs w B lv ts sz k dp) : ∃ ao cap, lv = .slice ao ts.length cap ∧
   ∀ k, (hk : k < ts.length) → ∃ g, ao = some ⟨g, 0, none⟩ ∧ g < w.heap.size ∧ w.cell? ⟨g, k * 3, none⟩ = some (.int .i64 (ts[k].kind : Int)) ∧ w.cell? ⟨g, k * 3 + 1, none⟩ = some (.string ⟨ts[k].text.toArray⟩) ∧ w.cell? ⟨g, k * 3 + 2, none⟩ = some (.int .i64 (ts[k].pos : Int)) := by
 obtain ⟨b, ho⟩ := h.own
 have ho2 := ho.2
 rcases ho2 with ⟨rfl, hn⟩ | ⟨g, cap, cur, rfl, hb, hg, h1, h2, h3, h4⟩
 · exact ⟨none, 0, by rw [hn], fun k hk => by omega⟩
 · refine ⟨some ⟨g, 0, none⟩, cap, rfl, fun k hk => ⟨g, rfl, ?_⟩⟩
   have hc := ho.cells (g := g) rfl
   obtain ⟨q0, q1, q2⟩ := toksV_nth ts k hk
   have a0 := hc _ _ q0
   have a1 := hc _ _ q1
   have a2 := hc _ _ q2
   simp only [Addr.add_lit, Nat.zero_add] at a0 a1 a2
   exact ⟨(Array.getElem?_eq_some_iff.1 hg).1, a0, a1, a2⟩
theorem c_peek_at (w : World) (B : Nat) (lv : Value) (ts : List Lx.Tok) (sz k : Nat) (dp : Bool) (h : Cs w B lv ts sz k dp) :
   Calls Tryz.prog 45 #[.pointer (some ⟨B, 0, none⟩)] w fun x w' => x = .returned (tokA (hereT ts sz k)) ∧ Below w.heap.size w w' := by
 obtain ⟨c0, c1, c2, c3⟩ := h.cells
 obtain ⟨ao, cap, rfl, hk⟩ := h.tok
 have hle := h.le
 have hlen := h.len
 have hB := h.blk.lt
 by_cases hlt : k < ts.length
 · obtain ⟨g, rfl, hg, k0, k1, k2⟩ := hk k hlt
   have e1 : hereT ts sz k = ts[k] := by simp [hereT, hlt]
   rw [e1]
   generalize ts[k] = t at *
   clear hk e1 h
   go_enter Tryz.func45, Tryz.ntmps45
   go_wp2
   go_region
   all_goals go_wp2
   all_goals go_region
   all_goals go_wp2
   refine bodyPost_ret (v := tokA t) (by simp [results, Tryz.results45, go_sem, tokA]) rfl ⟨rfl, by go_grown⟩
 · have e1 : hereT ts sz k = ⟨0, [], sz⟩ := by simp [hereT, hlt]
   rw [e1]
   clear hk e1 h
   go_enter Tryz.func45, Tryz.ntmps45
   go_wp2
   go_region
   all_goals go_wp2
   refine bodyPost_ret (v := tokA ⟨0, [], sz⟩) (by simp [results, Tryz.results45, go_sem, tokA]) rfl ⟨rfl, by go_grown⟩
theorem c_peek_any (w : World) (B : Nat) (lv : Value) (ts : List Lx.Tok) (sz : Nat) (q : List Lx.Tok) (dp : Bool) (h : Cx w B lv ts sz q dp) :
   Calls Tryz.prog 45 #[.pointer (some ⟨B, 0, none⟩)] w fun x w' => x = .returned (tokA (pk sz q)) ∧ Below w.heap.size w w' := by
 obtain ⟨k, rfl, h⟩ := h
 rw [pk_drop]
 exact c_peek_at w B lv ts sz k dp h
theorem fld0 (a b c : Value) (w : World) : (Instr.field 109 (.agg #[a, b, c]) 0).run Tryz.prog w = .ok a w := by kernel_rfl
theorem fld1 (a b c : Value) (w : World) : (Instr.field 109 (.agg #[a, b, c]) 1).run Tryz.prog w = .ok b w := by kernel_rfl
theorem fld2 (a b c : Value) (w : World) : (Instr.field 109 (.agg #[a, b, c]) 2).run Tryz.prog w = .ok c w := by kernel_rfl
theorem c_fail_any (w : World) (v : Value) (p c : Nat) :
   Calls Tryz.prog 44 #[v, .int .i64 (p : Int), .int .i64 (c : Int)] w fun e w' => e = Flt p c ∧ w' = w := by
 go_enter Tryz.func44, Tryz.ntmps44
 go_wp2
 exact ⟨rfl, rfl, rfl⟩
theorem c_must_yes (w : World) (v : Value) : Calls Tryz.prog 20 #[v, .bool true] w fun e w' => e = .returned (.tuple #[]) ∧ w' = w := by
 go_enter Tryz.func20, Tryz.ntmps20
 go_wp2_with fail
 go_end0
 exact ⟨rfl, rfl⟩
theorem c_must_at (w : World) (B : Nat) (lv : Value) (ts : List Lx.Tok) (sz : Nat) (q : List Lx.Tok) (dp : Bool) (h : Cx w B lv ts sz q dp) (tk : Nat) (tt : Lx.Bs) (tp : Nat) (ht : pk sz q = ⟨tk, tt, tp⟩) :
   Calls Tryz.prog 20 #[.pointer (some ⟨B, 0, none⟩), .bool false] w fun e w' => e = Flt tp 4 ∧ Below w.heap.size w w' := by
 have HT := hd ht
 clear ht
 have hf2 := fld2
 go_enter Tryz.func20, Tryz.ntmps20
 go_wp2_with fail
 refine (c_peek_any w B lv ts sz q dp h).mono ?_
 rintro x w1 ⟨rfl, hb⟩
 rw [HT.out]
 unfold tokA
 simp only
 go_wp2_with fail
 refine (c_fail_any w1 _ tp 4).mono ?_
 rintro x w2 ⟨rfl, rfl⟩
 exact ⟨rfl, rfl, hb⟩
theorem c_must_no (w : World) (B : Nat) (lv : Value) (ts : List Lx.Tok) (sz : Nat) (q : List Lx.Tok) (dp : Bool) (h : Cx w B lv ts sz q dp) :
   Calls Tryz.prog 20 #[.pointer (some ⟨B, 0, none⟩), .bool false] w fun e w' => e = Flt (Px.plc sz q) 4 ∧ Below w.heap.size w w' := by
 rw [plc_pk]
 rcases ht : pk sz q with ⟨tk, tt, tp⟩
 exact c_must_at w B lv ts sz q dp h tk tt tp ht
def fixT (t : Lx.Tok) : Lx.Bs := if t.kind = 50 ∨ t.kind = 51 then t.text else []
theorem c_fixed_at (w : World) (B : Nat) (lv : Value) (ts : List Lx.Tok) (sz : Nat) (q : List Lx.Tok) (dp : Bool) (h : Cx w B lv ts sz q dp) (tk : Nat) (tt : Lx.Bs) (tp : Nat) (ht : pk sz q = ⟨tk, tt, tp⟩) :
   Calls Tryz.prog 90 #[.pointer (some ⟨B, 0, none⟩)] w fun x w' => x = .returned (.string ⟨(fixT ⟨tk, tt, tp⟩).toArray⟩) ∧ Below w.heap.size w w' := by
 have HT := hd ht
 clear ht
 unfold fixT
 go_enter Tryz.func90, Tryz.ntmps90
 go_wp2_with fail
 refine (c_peek_any w B lv ts sz q dp h).mono ?_
 rintro x w1 ⟨rfl, hb⟩
 rw [HT.out]
 unfold tokA
 simp only
 have hs := hb.size
 by_cases h50 : tk = 50
 · subst h50
   go_wp2
   go_ret
   exact ⟨rfl, by go_grown⟩
 · have h1 : ((tk : Int) == 50) = false := by rw [beq_eq_false_iff_ne]; omega
   by_cases h51 : tk = 51
   · subst h51
     go_wp2
     go_ret
     exact ⟨rfl, by go_grown⟩
   · have h2 : ((tk : Int) == 51) = false := by rw [beq_eq_false_iff_ne]; omega
     go_wp2
     go_ret
     exact ⟨by simp [h50, h51], by go_grown⟩
theorem c_fixed_any (w : World) (B : Nat) (lv : Value) (ts : List Lx.Tok) (sz : Nat) (q : List Lx.Tok) (dp : Bool) (h : Cx w B lv ts sz q dp) :
   Calls Tryz.prog 90 #[.pointer (some ⟨B, 0, none⟩)] w fun x w' => x = .returned (.string ⟨(fixT (pk sz q)).toArray⟩) ∧ Below w.heap.size w w' := by
 rcases ht : pk sz q with ⟨tk, tt, tp⟩
 exact c_fixed_at w B lv ts sz q dp h tk tt tp ht
theorem fix_sees {s : Lx.Bs} (hs : s ≠ []) (sz : Nat) (q : List Lx.Tok) : (fixT (pk sz q) = s) ↔ Px.sees s q = true := by
 rw [sees_pk s sz q]
 rcases pk sz q with ⟨tk, tt, tp⟩
 unfold fixT
 simp only [Bool.and_eq_true, Bool.or_eq_true, decide_eq_true_eq, beq_iff_eq]
 by_cases h : tk = 50 ∨ tk = 51
 · rw [if_pos h]; exact ⟨fun e => ⟨h, e⟩, fun e => e.2⟩
 · rw [if_neg h]; exact ⟨fun e => absurd e.symm hs, fun e => absurd e.1 h⟩
theorem Cx.next {w : World} {B : Nat} {lv : Value} {ts : List Lx.Tok} {sz : Nat} {q : List Lx.Tok} {dp : Bool} (h : Cx w B lv ts sz q dp) (hq : q ≠ []) : ∃ k : Nat, k ≤ 2000 ∧ w.cell? ⟨B, 1, none⟩ = some (.int .i64 (k : Int)) ∧ w.frozen? ⟨B, 1, none⟩ = false ∧
   Cx (w.setCell ⟨B, 1, none⟩ (.int .i64 ((k : Int) + 1))) B lv ts sz q.tail dp := by
 obtain ⟨k, rfl, h⟩ := h
 have hk : k < ts.length := by
  apply Decidable.byContradiction
  intro hn
  exact hq (List.drop_eq_nil_of_le (by omega))
 have := h.len
 refine ⟨k, by omega, h.cells.2.1, h.blk.free 1, k + 1, by rw [List.tail_drop], ?_⟩
 have := h.setAt (k + 1) (by omega)
 rwa [show (((k + 1 : Nat) : Nat) : Int) = (k : Int) + 1 by omega] at this
theorem Cx.lt {w : World} {B : Nat} {lv : Value} {ts : List Lx.Tok} {sz : Nat} {q : List Lx.Tok} {dp : Bool} (h : Cx w B lv ts sz q dp) : B < w.heap.size := by
 obtain ⟨k, _, h⟩ := h
 exact h.blk.lt
theorem c_accept_yes (s : ByteArray) (w : World) (B : Nat) (lv : Value) (ts : List Lx.Tok) (sz : Nat) (q : List Lx.Tok) (dp : Bool) (h : Cx w B lv ts sz q dp) (hs : Px.sees s.data.toList q = true) (hne : s.data.toList ≠ []) :
   Calls Tryz.prog 36 #[.pointer (some ⟨B, 0, none⟩), .string s] w fun x w' => x = .returned (.bool true) ∧ Cx w' B lv ts sz q.tail dp ∧ w.grownBy w' (some B) := by
 have hq : q ≠ [] := by rintro rfl; cases hs
 have hf : (⟨(fixT (pk sz q)).toArray⟩ : ByteArray) = s := by
  rw [(fix_sees hne sz q).2 hs]
 go_enter Tryz.func36, Tryz.ntmps36
 go_wp2_with fail
 refine (c_fixed_any w B lv ts sz q dp h).mono ?_
 rintro x w1 ⟨rfl, hb⟩
 rw [hf]
 clear hf hs hne
 obtain ⟨k, hk, c1, f1, hn⟩ := (h.below hb).next hq
 have HN := hd hn
 have HB := hd hb
 clear hb hn h
 go_wp2
 go_ret
 exact ⟨rfl, HN.out, grownBy_trans (Below.grownBy HB.out) (grownBy_set w1 B 1 _)⟩
theorem c_accept_no (s : ByteArray) (w : World) (B : Nat) (lv : Value) (ts : List Lx.Tok) (sz : Nat) (q : List Lx.Tok) (dp : Bool) (h : Cx w B lv ts sz q dp) (hs : Px.sees s.data.toList q = false) (hne : s.data.toList ≠ []) :
   Calls Tryz.prog 36 #[.pointer (some ⟨B, 0, none⟩), .string s] w fun x w' => x = .returned (.bool false) ∧ Below w.heap.size w w' := by
 have hf : ((⟨(fixT (pk sz q)).toArray⟩ : ByteArray).toList == s.toList) = false := by
  rw [beq_eq_false_iff_ne, Lib.toList_data, Lib.toList_data]
  intro e
  rw [(fix_sees hne sz q).1 e] at hs
  cases hs
 go_enter Tryz.func36, Tryz.ntmps36
 go_wp2_with fail
 refine (c_fixed_any w B lv ts sz q dp h).mono ?_
 rintro x w1 ⟨rfl, hb⟩
 generalize (⟨(fixT (pk sz q)).toArray⟩ : ByteArray) = f at *
 clear hs hne h
 go_wp2
 go_ret
 exact ⟨rfl, hb⟩
theorem c_expect_yes (s : ByteArray) (w : World) (B g : Nat) (lv : Value) (ts : List Lx.Tok) (sz : Nat) (q : List Lx.Tok) (dp : Bool) (h : Cx w B lv ts sz q dp) (hs : Px.sees s.data.toList q = true) (hne : s.data.toList ≠ []) (hv : w.cell? ⟨g, 0, none⟩ = some (.string s)) :
   Calls Tryz.prog 38 #[.pointer (some ⟨B, 0, none⟩), .slice (some ⟨g, 0, none⟩) 1 1] w fun x w' => x = .returned (.tuple #[]) ∧ Cx w' B lv ts sz q.tail dp ∧ w.grownBy w' (some B) := by
 have HS := hd hs
 have HN := hd hne
 clear hs hne
 go_enter Tryz.func38, Tryz.ntmps38
 go_wp2_with fail
 refine wp_loop_rounds 2 ?_
 rw [rounds_succ]
 go_wp2_with fail
 refine (c_accept_yes s w B lv ts sz q dp h HS.out HN.out).mono ?_
 rintro x w1 ⟨rfl, hx, hg⟩
 go_wp2_with fail
 refine (c_must_yes w1 _).mono ?_
 rintro x w2 ⟨rfl, rfl⟩
 go_wp2_with fail
 rw [rounds_succ]
 go_wp2_with fail
 go_end0
 exact ⟨rfl, hx, hg⟩
theorem c_expect_no (s : ByteArray) (w : World) (B g : Nat) (lv : Value) (ts : List Lx.Tok) (sz : Nat) (q : List Lx.Tok) (dp : Bool) (h : Cx w B lv ts sz q dp) (hs : Px.sees s.data.toList q = false) (hne : s.data.toList ≠ []) (hv : w.cell? ⟨g, 0, none⟩ = some (.string s)) :
   Calls Tryz.prog 38 #[.pointer (some ⟨B, 0, none⟩), .slice (some ⟨g, 0, none⟩) 1 1] w fun x w' => x = Flt (Px.plc sz q) 4 ∧ Below w.heap.size w w' := by
 have HS := hd hs
 have HN := hd hne
 clear hs hne
 go_enter Tryz.func38, Tryz.ntmps38
 go_wp2_with fail
 refine wp_loop_rounds 1 ?_
 rw [rounds_succ]
 go_wp2_with fail
 refine (c_accept_no s w B lv ts sz q dp h HS.out HN.out).mono ?_
 rintro x w1 ⟨rfl, hb⟩
 go_wp2_with fail
 refine (c_must_no w1 B lv ts sz q dp (h.below hb)).mono ?_
 rintro x w2 ⟨rfl, hb2⟩
 exact ⟨rfl, rfl, hb.trans (hb2.mono hb.size)⟩
theorem grown_away {w w1 : World} {row : Option Nat} (h : w.grownBy w1 row) {M : Nat} (hM : w.heap.size ≤ M) (i : Nat) (v : Value) : w.grownBy (w1.setCell ⟨M, i, none⟩ v) row :=
 ⟨h.os, h.tape, h.output, by simpa [World.setCell] using h.size, fun k hk hne => by rw [Below.heap_setCell _ _ _ _ (by show k ≠ M; omega)]; exact h.block k hk hne⟩
theorem Cx.step {w w' : World} {B : Nat} {lv : Value} {ts : List Lx.Tok} {sz : Nat} {q : List Lx.Tok} {dp dp' : Bool} (h : Cx w B lv ts sz q dp) (hg : w.grownBy w' (some B)) (hq : q ≠ []) (k : Nat) (hc : w.cell? ⟨B, 1, none⟩ = some (.int .i64 (k : Int))) (hb : Blk w' B #[lv, .int .i64 ((k : Int) + 1), .int .i64 (sz : Int), .bool dp'] 66) : Cx w' B lv ts sz q.tail dp' := by
 obtain ⟨j, rfl, h⟩ := h
 have e : (j : Int) = k := by
  have := h.cells.2.1
  rw [this] at hc
  simpa using hc
 have hk : j < ts.length := by
  apply Decidable.byContradiction
  intro hn
  exact hq (List.drop_eq_nil_of_le (by omega))
 refine ⟨j + 1, by rw [List.tail_drop], h.kept (k' := j + 1) hg ?_ (by omega)⟩
 rw [show ((j + 1 : Nat) : Int) = (k : Int) + 1 by omega]
 exact hb
theorem Cx.blk {w : World} {B : Nat} {lv : Value} {ts : List Lx.Tok} {sz : Nat} {q : List Lx.Tok} {dp : Bool} (h : Cx w B lv ts sz q dp) : ∃ k : Nat, k ≤ 2000 ∧ Blk w B #[lv, .int .i64 (k : Int), .int .i64 (sz : Int), .bool dp] 66 := by
 obtain ⟨k, _, h⟩ := h
 exact ⟨k, Nat.le_trans h.le h.len, h.blk⟩
theorem c_take_yes (w : World) (B : Nat) (lv : Value) (ts : List Lx.Tok) (sz : Nat) (tk : Nat) (tt : Lx.Bs) (tp : Nat) (q : List Lx.Tok) (dp : Bool) (h : Cx w B lv ts sz (⟨tk, tt, tp⟩ :: q) dp) (kd : Nat) (hk : tk = kd) :
   Calls Tryz.prog 94 #[.pointer (some ⟨B, 0, none⟩), .int .i64 (kd : Int)] w fun x w' => x = .returned (tokA ⟨tk, tt, tp⟩) ∧ Cx w' B lv ts sz q dp ∧ w.grownBy w' (some B) := by
 subst hk
 obtain ⟨k, hk2, hblk⟩ := h.blk
 have HX := hd h
 have hlt := h.lt
 clear h
 go_enter Tryz.func94, Tryz.ntmps94
 go_wp2_with fail
 refine (c_peek_any _ B lv ts sz _ dp (HX.out.below ((Below.refl _ _).alloc (Nat.le_refl _) _))).mono ?_
 rintro x w1 ⟨rfl, hb⟩
 have hs := hb.size
 have hb0 : Below w.heap.size w w1 := ((Below.refl _ _).alloc (Nat.le_refl _) _).trans (hb.mono (by simp))
 have K4 := (Blk.new w #[.int .i64 0, .string ⟨#[]⟩, .int .i64 0] 109).below hb (by simp)
 simp only [World.size_alloc] at hs
 unfold tokA pk
 simp only
 go_wp2_with fail
 refine (c_must_yes _ _).mono ?_
 rintro x w2 ⟨rfl, hw⟩
 have hb2 : Below w.heap.size w w2 := by subst hw; exact hb0.alloc (by omega) _
 have KB := hblk.below hb2 hlt
 have KN : Blk w2 w1.heap.size #[.int .i64 (tk : Int), .string ⟨tt.toArray⟩, .int .i64 (tp : Int)] 109 := by subst hw; exact Blk.new _ _ _
 have K4' : Blk w2 w.heap.size #[.int .i64 0, .string ⟨#[]⟩, .int .i64 0] 109 := by subst hw; exact K4.alloc _
 clear hw K4 hb hb0
 have c1 : w2.cell? ⟨B, 1, none⟩ = some (.int .i64 (k : Int)) := KB.cell 1
 have f1 := KB.free 1
 have n0 : w2.cell? ⟨w1.heap.size, 0, none⟩ = some (.int .i64 (tk : Int)) := KN.cell 0
 have n1 : w2.cell? ⟨w1.heap.size, 1, none⟩ = some (.string ⟨tt.toArray⟩) := KN.cell 1
 have n2 : w2.cell? ⟨w1.heap.size, 2, none⟩ = some (.int .i64 (tp : Int)) := KN.cell 2
 have m0 : w2.cell? ⟨w.heap.size, 0, none⟩ = some (.int .i64 0) := K4'.cell 0
 have m1 : w2.cell? ⟨w.heap.size, 1, none⟩ = some (.string ⟨#[]⟩) := K4'.cell 1
 have m2 : w2.cell? ⟨w.heap.size, 2, none⟩ = some (.int .i64 0) := K4'.cell 2
 have g0 := K4'.free 0
 have g1 := K4'.free 1
 have g2 := K4'.free 2
 have d1 : ¬ B = w1.heap.size := by omega
 have d2 : ¬ w1.heap.size = B := by omega
 have d3 : ¬ B = w.heap.size := by omega
 have d4 : ¬ w.heap.size = B := by omega
 have d5 : ¬ w1.heap.size = w.heap.size := by omega
 have d6 : ¬ w.heap.size = w1.heap.size := by omega
 have HB2 := hd hb2
 have HKB := hd KB
 have HK4 := hd K4'
 clear KN K4' hb2 KB
 go_wp2
 have KF := (((HK4.out.far ⟨B, 1, none⟩ (.int .i64 ((k : Int) + 1)) d3).set 0 (.int .i64 (tk : Int))).set 1 (.string ⟨tt.toArray⟩)).set 2 (.int .i64 (tp : Int))
 have e0 := KF.cell 0
 have e1 := KF.cell 1
 have e2 := KF.cell 2
 simp at e0 e1 e2
 refine bodyPost_ret (v := tokA ⟨tk, tt, tp⟩) (by simp [results, Tryz.results94, go_sem, tokA, e0, e1, e2]) rfl ⟨rfl, ?_, ?_⟩
 · refine Cx.step (q := ⟨tk, tt, tp⟩ :: q) HX.out (grown_away (grown_away (grown_away (grownBy_trans (Below.grownBy HB2.out) (grownBy_set w2 B 1 _)) (Nat.le_refl _) 0 _) (Nat.le_refl _) 1 _) (Nat.le_refl _) 2 _) (by simp) k (hblk.cell 1) ?_
   exact (((HKB.out.set 1 (.int .i64 ((k : Int) + 1))).far ⟨w.heap.size, 0, none⟩ _ d4).far ⟨w.heap.size, 1, none⟩ _ d4).far ⟨w.heap.size, 2, none⟩ _ d4
 · exact grown_away (grown_away (grown_away (grownBy_trans (Below.grownBy HB2.out) (grownBy_set w2 B 1 _)) (Nat.le_refl _) 0 _) (Nat.le_refl _) 1 _) (Nat.le_refl _) 2 _
theorem c_take_no (w : World) (B : Nat) (lv : Value) (ts : List Lx.Tok) (sz : Nat) (q : List Lx.Tok) (dp : Bool) (h : Cx w B lv ts sz q dp) (tk : Nat) (tt : Lx.Bs) (tp : Nat) (ht : pk sz q = ⟨tk, tt, tp⟩) (kd : Nat) (hk : tk ≠ kd) :
   Calls Tryz.prog 94 #[.pointer (some ⟨B, 0, none⟩), .int .i64 (kd : Int)] w fun x w' => x = Flt (Px.plc sz q) 4 ∧ Below w.heap.size w w' := by
 have HX := hd h
 have HT := hd ht
 have h0 : ((tk : Int) == (kd : Int)) = false := by rw [beq_eq_false_iff_ne]; omega
 clear h ht
 go_enter Tryz.func94, Tryz.ntmps94
 go_wp2_with fail
 refine (c_peek_any _ B lv ts sz _ dp (HX.out.below ((Below.refl _ _).alloc (Nat.le_refl _) _))).mono ?_
 rintro x w1 ⟨rfl, hb⟩
 have hs := hb.size
 have hb0 : Below w.heap.size w w1 := ((Below.refl _ _).alloc (Nat.le_refl _) _).trans (hb.mono (by simp))
 have HB0 := hd hb0
 clear hb hb0
 simp only [World.size_alloc] at hs
 rw [HT.out]
 unfold tokA
 simp only
 go_wp2_with fail
 refine (c_must_no _ B lv ts sz q dp (HX.out.below (HB0.out.alloc (by omega) _))).mono ?_
 rintro x w2 ⟨rfl, hb2⟩
 exact ⟨rfl, rfl, (HB0.out.alloc (by omega) _).trans (hb2.mono (by simp; omega))⟩
section
open Go.RowKit Go.Shelf Go.Lib
theorem bytes_eq {s : ByteArray} {x : List UInt8} (h : s.data.toList = x) : s = ⟨x.toArray⟩ := by
 cases s with
 | mk d => cases d with
  | mk l => simp at h; subst h; rfl
theorem strs_of_reads {P : Program} {w : World} {nm : String} {g m : Nat} {t e : TypeId} (ss : List (List UInt8)) (hg : P.globalNamed nm = some g) (hty : (P.globals[g]?).map (·.type) = some t)
   (ht : P.underlying t = some (.array m e)) (he : P.underlying e = some .string) (hce : P.cellsOf e = 1) (hct : P.cellsOf t = m)
   (h : VarReads P w nm (.agg (ss.map fun x => .lit (.string x)))) : ∃ t' fr, w.heap[g]? = some (.cells (strRow ss) t' fr) := by
 obtain ⟨g', t', cs, fuel, p, hg', hty', hvar, hd⟩ := h
 obtain rfl := Option.some.inj (hg.symm.trans hg')
 obtain rfl := Option.some.inj (hty.symm.trans hty')
 have hcs : cs = strRow ss := by
  cases fuel with
  | zero => simp [DataW.trod] at hd
  | succ fuel =>
   simp only [DataW.trod, ht, hce, hct, Nat.mul_one] at hd
   split at hd
   · rename_i hl
     obtain ⟨xs, hm, hx⟩ := Option.map_eq_some_iff.1 hd
     have hxs : xs.map (·.1) = ss.map fun x => (DataW.lit (.string x) : DataW Unit) := by
      have := congrArg Prod.fst hx
      simpa using this
     have hxl : xs.length = m := by simpa using mapM_length hm
     have hzl : ss.length = m := by
      have := congrArg List.length hxs
      simp at this
      omega
     apply Array.ext'
     apply List.ext_getElem?
     intro i
     by_cases hi : i < m
     · obtain ⟨b, hb, hf⟩ := mapM_at hm i i (by simp [hi])
       obtain ⟨s, hc, rfl, _⟩ := DataW.trod_string he hf
       have h1 : cs.toList[i]? = some (.string s) := by
        have := congrArg (·[0]?) hc
        simpa [List.getElem?_take, List.getElem?_drop] using this
       have h2 : (xs.map (·.1))[i]? = some (DataW.lit (.string s.data.toList) : DataW Unit) := by simp [hb]
       rw [hxs] at h2
       simp only [List.getElem?_map, Option.map_eq_some_iff, DataW.lit.injEq, Lit.string.injEq] at h2
       obtain ⟨x, hx', hxx⟩ := h2
       rw [h1, bytes_eq hxx.symm]
       simp [strRow, hx']
     · rw [List.getElem?_eq_none (by omega), List.getElem?_eq_none (by simp [strRow]; omega)]
   · cases hd
 subst hcs
 simp only [World.var?, hg, Option.bind_some] at hvar
 split at hvar
 · rename_i c t2 fr hh
   cases hvar
   exact ⟨t2, fr, hh⟩
 · cases hvar
def opData (x : Nat × Lx.Bs × Nat) : DataW Unit := .agg [.lit (.int .i64 (x.2.2 : Int)), .lit (.string x.2.1), .lit (.int .i64 (x.1 : Int))]
theorem opsRow_length : ∀ l : List (Nat × Lx.Bs × Nat), (opsRow l).length = l.length * 3
 | [] => rfl
 | (a, s, k) :: r => by simp [opsRow, opsRow_length r]; omega
theorem opsRow_at : ∀ (l : List (Nat × Lx.Bs × Nat)) (i : Nat) (h : i < l.length), (opsRow l)[i * 3]? = some (.int .i64 (l[i].2.2 : Int)) ∧ (opsRow l)[i * 3 + 1]? = some (.string ⟨l[i].2.1.toArray⟩) ∧ (opsRow l)[i * 3 + 2]? = some (.int .i64 (l[i].1 : Int))
 | (a, s, k) :: r, 0, _ => ⟨rfl, rfl, rfl⟩
 | (a, s, k) :: r, i + 1, h => by
  have ih := opsRow_at r i (by simpa using h)
  have e : ∀ j, (opsRow ((a, s, k) :: r))[j + 3]? = (opsRow r)[j]? := by
   intro j
   show ([Value.int .i64 (k : Int), .string ⟨s.toArray⟩, .int .i64 (a : Int)] ++ opsRow r)[j + 3]? = _
   rw [List.getElem?_append_right (by simp)]
   simp
  rw [show (i + 1) * 3 = i * 3 + 3 from by omega, show i * 3 + 3 + 1 = (i * 3 + 1) + 3 from by omega, show i * 3 + 3 + 2 = (i * 3 + 2) + 3 from by omega, e, e, e]
  simpa using ih
theorem ops_of_reads {P : Program} {w : World} {nm : String} {g m : Nat} {t e : TypeId} {f0 f1 f2 : Field} (ss : List (Nat × Lx.Bs × Nat)) (hg : P.globalNamed nm = some g) (hty : (P.globals[g]?).map (·.type) = some t)
   (ht : P.underlying t = some (.array m e)) (he : P.underlying e = some (.struct #[f0, f1, f2])) (hce : P.cellsOf e = 3) (hct : P.cellsOf t = m * 3) (hm : ss.length = m)
   (u0 : P.underlying f0.type = some (.int .i64)) (u1 : P.underlying f1.type = some .string) (u2 : P.underlying f2.type = some (.int .i64)) (c0 : P.cellsOf f0.type = 1) (c1 : P.cellsOf f1.type = 1) (c2 : P.cellsOf f2.type = 1)
   (o0 : f0.offset = 0) (o1 : f1.offset = 1) (o2 : f2.offset = 2)
   (h : VarReads P w nm (.agg (ss.map opData))) : ∃ t' fr, w.heap[g]? = some (.cells (opsRow ss).toArray t' fr) := by
 obtain ⟨g', t', cs, fuel, p, hg', hty', hvar, hd⟩ := h
 obtain rfl := Option.some.inj (hg.symm.trans hg')
 obtain rfl := Option.some.inj (hty.symm.trans hty')
 have hlen : cs.toList.length = m * 3 := by
  cases fuel with
  | zero => simp [DataW.trod] at hd
  | succ fuel =>
   simp only [DataW.trod, ht] at hd
   split at hd
   · rename_i hl
     rw [hl, hct]
   · cases hd
 have key : ∀ i, (hi : i < m) → cs.toList[i * 3]? = some (.int .i64 ((ss[i]'(by omega)).2.2 : Int)) ∧ cs.toList[i * 3 + 1]? = some (.string ⟨(ss[i]'(by omega)).2.1.toArray⟩) ∧ cs.toList[i * 3 + 2]? = some (.int .i64 ((ss[i]'(by omega)).1 : Int)) := by
  intro i hi
  obtain ⟨fuel', d, q, hdi, hel⟩ := array_elem ht hd i hi
  have hi' : i < ss.length := by omega
  simp only [List.getElem?_map, List.getElem?_eq_getElem hi', Option.map_some, Option.some.injEq] at hdi
  subst hdi
  rw [hce] at hel
  obtain ⟨y0, y1, y2, n, hx, hl, h0, h1, h2⟩ := Go.Deep.trod_struct3 he hel
  rw [o0, c0] at h0
  rw [o1, c1] at h1
  rw [o2, c2] at h2
  obtain ⟨z0, a0, b0, _⟩ := DataW.trod_int u0 h0
  obtain ⟨z1, a1, b1, _⟩ := DataW.trod_string u1 h1
  obtain ⟨z2, a2, b2, _⟩ := DataW.trod_int u2 h2
  subst b0
  subst b1
  subst b2
  simp only [opData, Prod.mk.injEq, DataW.agg.injEq, List.cons.injEq, DataW.lit.injEq, Lit.int.injEq, Lit.string.injEq, true_and, and_true] at hx
  obtain ⟨⟨e0, e1, e2⟩, _⟩ := hx
  have g0 := congrArg (·[0]?) a0
  have g1 := congrArg (·[0]?) a1
  have g2 := congrArg (·[0]?) a2
  simp only [List.getElem?_take, List.getElem?_drop] at g0 g1 g2
  simp at g0 g1 g2
  refine ⟨?_, ?_, ?_⟩
  · rw [e0]; simpa using g0
  · rw [bytes_eq (s := z1) e1.symm] at g1; simpa using g1
  · rw [e2]; simpa using g2
 have hcs : cs = (opsRow ss).toArray := by
  apply Array.ext'
  apply List.ext_getElem?
  intro j
  by_cases hj : j < m * 3
  · have hi : j / 3 < m := by omega
    obtain ⟨k0, k1, k2⟩ := key (j / 3) hi
    obtain ⟨r0, r1, r2⟩ := opsRow_at ss (j / 3) (by omega)
    have h3 : j = j / 3 * 3 ∨ j = j / 3 * 3 + 1 ∨ j = j / 3 * 3 + 2 := by omega
    rcases h3 with e | e | e
    · rw [e, k0]; exact r0.symm
    · rw [e, k1]; exact r1.symm
    · rw [e, k2]; exact r2.symm
  · rw [List.getElem?_eq_none (by omega), List.getElem?_eq_none (by simp [opsRow_length]; omega)]
 subst hcs
 simp only [World.var?, hg, Option.bind_some] at hvar
 split at hvar
 · rename_i c t2 fr hh
   cases hvar
   exact ⟨t2, fr, hh⟩
 · cases hvar
theorem err_of_reads {P : Program} {w : World} {nm name : String} {g : Nat} {t : TypeId} {is : Array (String × TypeId)} {d : DataW Unit} (hg : P.globalNamed nm = some g) (hty : (P.globals[g]?).map (·.type) = some t)
   (ht : P.underlying t = some (.interface is)) (h : VarReads P w nm (.iface name d)) : ∃ te pe, w.cell? ⟨g, 0, none⟩ = some (.iface te pe) := by
 obtain ⟨g', t', cs, fuel, p, hg', hty', hvar, hd⟩ := h
 obtain rfl := Option.some.inj (hg.symm.trans hg')
 obtain rfl := Option.some.inj (hty.symm.trans hty')
 rw [World.var?_cell hg hvar 0, ← Array.getElem?_toList]
 generalize cs.toList = l at hd ⊢
 cases fuel with
 | zero => simp [DataW.trod] at hd
 | succ fuel =>
  match l, hd with
  | [], hd => simp [DataW.trod, ht] at hd
  | [v], hd =>
   cases v with
   | iface u x => exact ⟨u, x, rfl⟩
   | _ => simp [DataW.trod, ht] at hd
  | a :: b :: r, hd => simp [DataW.trod, ht] at hd
end
end Go.Proofs.YtaiebhhommgnbaaGreatDoor
