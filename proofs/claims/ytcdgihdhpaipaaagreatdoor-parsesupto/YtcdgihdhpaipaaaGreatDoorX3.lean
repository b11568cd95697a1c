/- Parts of the proof: RpA RpB RpC RpD RpE RpF RpG RpH RpI -/
import Derived.Test.YtcdgihdhpaipaaaGreatDoorX2
import Derived.Deep.RegionHeld3
import Derived.Deep.DrawnRows
import Derived.Deep.RegionWith
import Derived.Test.YtcdgihdhpaipaaaGreatDoorX1
namespace Go.Proofs.YtcdgihdhpaipaaaGreatDoor
open Go.RowKit
set_option linter.unusedSimpArgs false
set_option linter.unusedVariables false

/-! The state. -/
structure PS (w : World) (B : Nat) (lv : Value) (ts : List Lx.Tok) (sz at_ e sp : Nat) : Prop where
  blk : Blk w B #[lv, .int .i64 (at_ : Int), .int .i64 (sz : Int), .int .i64 (e : Int), .int .i64 (sp : Int)] 60
  own : ∃ b, w.ownsRow b 44 3 lv ts.length (toksV ts)
  ne : lv.ownBlock ≠ some B
  toks : ∀ t ∈ ts, Lx.TokOk t ∧ t.pos ≤ 2000 ∧ t.text.length ≤ 2000
  len : ts.length ≤ 2000
  size : sz ≤ 2000
  le : at_ ≤ 3000
  esm : e ≤ 15
  ssm : sp ≤ 2000

theorem PS.below {w w' : World} {B : Nat} {lv : Value} {ts : List Lx.Tok} {sz at_ e sp : Nat} (h : PS w B lv ts sz at_ e sp) (hb : Below w.heap.size w w') : PS w' B lv ts sz at_ e sp := by
  obtain ⟨b, ho⟩ := h.own
  exact ⟨h.blk.below hb h.blk.lt, ⟨b, owns_below ho hb⟩, h.ne, h.toks, h.len, h.size, h.le, h.esm, h.ssm⟩

theorem PS.setAt {w : World} {B : Nat} {lv : Value} {ts : List Lx.Tok} {sz at_ e sp : Nat} (h : PS w B lv ts sz at_ e sp) (k : Nat) (hk : k ≤ 3000) : PS (w.setCell ⟨B, 1, none⟩ (.int .i64 (k : Int))) B lv ts sz k e sp := by
  obtain ⟨b, ho⟩ := h.own
  exact ⟨h.blk.set 1 _, ⟨b, own_set ho h.ne⟩, h.ne, h.toks, h.len, h.size, hk, h.esm, h.ssm⟩

theorem PS.cells {w : World} {B : Nat} {lv : Value} {ts : List Lx.Tok} {sz at_ e sp : Nat} (h : PS w B lv ts sz at_ e sp) :
    w.cell? ⟨B, 0, none⟩ = some lv ∧ w.cell? ⟨B, 1, none⟩ = some (.int .i64 (at_ : Int)) ∧ w.cell? ⟨B, 2, none⟩ = some (.int .i64 (sz : Int)) ∧ w.cell? ⟨B, 3, none⟩ = some (.int .i64 (e : Int)) ∧ w.cell? ⟨B, 4, none⟩ = some (.int .i64 (sp : Int)) :=
  ⟨h.blk.cell 0, h.blk.cell 1, h.blk.cell 2, h.blk.cell 3, h.blk.cell 4⟩

set_option maxHeartbeats 400000 in
theorem stop_off (w : World) (B : Nat) (lv : Value) (ts : List Lx.Tok) (sz at_ e sp : Nat) (h : PS w B lv ts sz at_ e sp) (he : e ≠ 0) (c p : Int) :
    Calls Tryz.prog 17 #[.pointer (some ⟨B, 0, none⟩), .int .i64 c, .int .i64 p] w fun x w' => x = .returned (.tuple #[]) ∧ w' = w := by
  obtain ⟨c0, c1, c2, c3, c4⟩ := h.cells
  have h0 : ((e : Int) == 0) = false := by rw [beq_eq_false_iff_ne]; omega
  go_enter Tryz.func17, Tryz.ntmps17
  go_wp2
  go_end0
  exact ⟨rfl, rfl⟩

set_option maxHeartbeats 400000 in
theorem stop_on (w : World) (B : Nat) (lv : Value) (ts : List Lx.Tok) (sz at_ sp : Nat) (h : PS w B lv ts sz at_ 0 sp) (c p : Nat) :
    Calls Tryz.prog 17 #[.pointer (some ⟨B, 0, none⟩), .int .i64 (c : Int), .int .i64 (p : Int)] w fun x w' => x = .returned (.tuple #[]) ∧ w' = (w.setCell ⟨B, 3, none⟩ (.int .i64 (c : Int))).setCell ⟨B, 4, none⟩ (.int .i64 (p : Int)) := by
  obtain ⟨c0, c1, c2, c3, c4⟩ := h.cells
  have f3 := h.blk.free 3
  have f4 := h.blk.free 4
  go_enter Tryz.func17, Tryz.ntmps17
  go_wp2
  go_end0
  exact ⟨rfl, rfl⟩

theorem PS.setErr {w : World} {B : Nat} {lv : Value} {ts : List Lx.Tok} {sz at_ e sp : Nat} (h : PS w B lv ts sz at_ e sp) (c p : Nat) (hc : c ≤ 15) (hp : p ≤ 2000) :
    PS ((w.setCell ⟨B, 3, none⟩ (.int .i64 (c : Int))).setCell ⟨B, 4, none⟩ (.int .i64 (p : Int))) B lv ts sz at_ c p := by
  obtain ⟨b, ho⟩ := h.own
  exact ⟨(h.blk.set 3 _).set 4 _, ⟨b, own_set (own_set ho h.ne) h.ne⟩, h.ne, h.toks, h.len, h.size, h.le, hc, hp⟩

/-- The list's cells, read by their address. -/
theorem PS.tok {w : World} {B : Nat} {lv : Value} {ts : List Lx.Tok} {sz at_ e sp : Nat} (h : PS w B lv ts sz at_ e sp) : ∃ ao cap, lv = .slice ao ts.length cap ∧
    ∀ k, (hk : k < ts.length) → ∃ g, ao = some ⟨g, 0, none⟩ ∧ g < w.heap.size ∧ w.cell? ⟨g, k * 3, none⟩ = some (.int .i64 (ts[k].kind : Int)) ∧ w.cell? ⟨g, k * 3 + 1, none⟩ = some (.string ⟨ts[k].text.toArray⟩) ∧ w.cell? ⟨g, k * 3 + 2, none⟩ = some (.int .i64 (ts[k].pos : Int)) := by
  obtain ⟨b, ho⟩ := h.own
  have ho2 := ho.2
  rcases ho2 with ⟨rfl, hn⟩ | ⟨g, cap, cur, rfl, hb, hg, h1, h2, h3, h4⟩
  · exact ⟨none, 0, by rw [hn], fun k hk => by omega⟩
  · refine ⟨some ⟨g, 0, none⟩, cap, rfl, fun k hk => ⟨g, rfl, ?_⟩⟩
    have hc := ho.cells (g := g) rfl
    obtain ⟨q0, q1, q2⟩ := toksV_nth ts k hk
    have a0 := hc _ _ q0
    have a1 := hc _ _ q1
    have a2 := hc _ _ q2
    simp only [Addr.add_lit, Nat.zero_add] at a0 a1 a2
    exact ⟨(Array.getElem?_eq_some_iff.1 hg).1, a0, a1, a2⟩

set_option maxHeartbeats 400000 in
theorem here_any (w : World) (B : Nat) (lv : Value) (ts : List Lx.Tok) (sz at_ e sp : Nat) (h : PS w B lv ts sz at_ e sp) :
    Calls Tryz.prog 32 #[.pointer (some ⟨B, 0, none⟩)] w fun x w' => x = .returned (tokA (hereT ts sz at_)) ∧ Below w.heap.size w w' := by
  obtain ⟨c0, c1, c2, c3, c4⟩ := h.cells
  obtain ⟨ao, cap, rfl, hk⟩ := h.tok
  have hle := h.le
  have hlen := h.len
  have hB := h.blk.lt
  by_cases hlt : at_ < ts.length
  · obtain ⟨g, rfl, hg, k0, k1, k2⟩ := hk at_ hlt
    have e1 : hereT ts sz at_ = ts[at_] := by simp [hereT, hlt]
    rw [e1]
    generalize ts[at_] = t at *
    clear hk e1 h
    go_enter Tryz.func32, Tryz.ntmps32
    go_wp2
    go_region
    all_goals go_wp2
    all_goals go_region
    all_goals go_wp2
    refine bodyPost_ret (v := tokA t) (by simp [results, Tryz.results32, go_sem, tokA]) rfl ⟨rfl, by go_grown⟩
  · have e1 : hereT ts sz at_ = ⟨0, [], sz⟩ := by simp [hereT, hlt]
    rw [e1]
    clear hk e1 h
    go_enter Tryz.func32, Tryz.ntmps32
    go_wp2
    go_region
    all_goals go_wp2
    refine bodyPost_ret (v := tokA ⟨0, [], sz⟩) (by simp [results, Tryz.results32, go_sem, tokA]) rfl ⟨rfl, by go_grown⟩
end Go.Proofs.YtcdgihdhpaipaaaGreatDoor

namespace Go.Proofs.YtcdgihdhpaipaaaGreatDoor
open Go.RowKit
set_option linter.unusedSimpArgs false
set_option linter.unusedVariables false

theorem grown_trans {w w1 w2 : World} {row : Option Nat} (h : w.grownBy w1 row) (k : w1.grownBy w2 row) : w.grownBy w2 row :=
  ⟨k.os.trans h.os, k.tape.trans h.tape, k.output.trans h.output, Nat.le_trans h.size k.size, fun i hi hne => (k.block i (Nat.lt_of_lt_of_le hi h.size) hne).trans (h.block i hi hne)⟩

def seesT (s : Lx.Bs) (t : Lx.Tok) : Bool := (decide (t.kind = 50) || decide (t.kind = 51)) && t.text == s

theorem hereT_ok {w : World} {B : Nat} {lv : Value} {ts : List Lx.Tok} {sz at_ e sp : Nat} (h : PS w B lv ts sz at_ e sp) : (hereT ts sz at_).kind ≤ 51 ∧ (hereT ts sz at_).pos ≤ 2000 ∧ (hereT ts sz at_).text.length ≤ 2000 := by
  unfold hereT
  by_cases hk : at_ < ts.length
  · have e : ts[at_]? = some ts[at_] := by simp [hk]
    rw [e]
    obtain ⟨h1, h2, h3⟩ := h.toks _ (List.getElem_mem hk)
    refine ⟨?_, h2, h3⟩
    have := h1.kind
    simp only [Option.getD_some]
    omega
  · have e : ts[at_]? = none := by simp; omega
    rw [e]
    exact ⟨by simp, h.size, by simp⟩

set_option maxHeartbeats 400000 in
theorem sees_at (s : ByteArray) (w : World) (B : Nat) (lv : Value) (ts : List Lx.Tok) (sz at_ e sp : Nat) (h : PS w B lv ts sz at_ e sp) (tk : Nat) (tt : Lx.Bs) (tp : Nat) (ht : hereT ts sz at_ = ⟨tk, tt, tp⟩) :
    Calls Tryz.prog 97 #[.pointer (some ⟨B, 0, none⟩), .string s] w fun x w' => x = .returned (.bool (decide (e = 0) && seesT s.data.toList ⟨tk, tt, tp⟩)) ∧ Below w.heap.size w w' := by
  have HT := hd ht
  clear ht
  have HS := hd (Lib.toList_data s)
  go_enter Tryz.func97, Tryz.ntmps97
  go_wp2_with fail
  refine (here_any w B lv ts sz at_ e sp h).mono ?_
  rintro x w1 ⟨rfl, hb⟩
  rw [HT.out]
  have h1 := h.below hb
  have hs := hb.size
  obtain ⟨c0, c1, c2, c3, c4⟩ := h1.cells
  have hB1 := h1.blk.lt
  unfold tokA
  simp only
  by_cases he : e = 0
  · subst he
    go_wp2
    all_goals
      go_ret
      refine ⟨ret_bool ?_, by go_grown⟩
      rw [Bool.eq_iff_iff]
      simp [seesT, HS.out] at *
      try omega
  · have h0 : ((e : Int) == 0) = false := by rw [beq_eq_false_iff_ne]; omega
    go_wp2
    go_ret
    exact ⟨ret_bool (by simp [he]), by go_grown⟩
theorem sees_any (s : ByteArray) (w : World) (B : Nat) (lv : Value) (ts : List Lx.Tok) (sz at_ e sp : Nat) (h : PS w B lv ts sz at_ e sp) :
    Calls Tryz.prog 97 #[.pointer (some ⟨B, 0, none⟩), .string s] w fun x w' => x = .returned (.bool (decide (e = 0) && seesT s.data.toList (hereT ts sz at_))) ∧ Below w.heap.size w w' := by
  rcases ht : hereT ts sz at_ with ⟨tk, tt, tp⟩
  exact sees_at s w B lv ts sz at_ e sp h tk tt tp ht

/-! The state as a reading: the tokens that are left, or an error. -/
def PX (w : World) (B : Nat) (lv : Value) (ts : List Lx.Tok) (sz : Nat) (st : Except (Nat × Nat) (List Lx.Tok)) (b : Nat) : Prop :=
  match st with
  | .ok q => ∃ k, k ≤ ts.length ∧ q = ts.drop k ∧ PS w B lv ts sz k 0 0
  | .error (p, c) => c ≠ 0 ∧ ∃ k, k ≤ b ∧ PS w B lv ts sz k c p

theorem PX.below {w w' : World} {B : Nat} {lv : Value} {ts : List Lx.Tok} {sz : Nat} {st : Except (Nat × Nat) (List Lx.Tok)} {b : Nat} (h : PX w B lv ts sz st b) (hb : Below w.heap.size w w') : PX w' B lv ts sz st b := by
  match st, h with
  | .ok q, ⟨k, h1, h2, h3⟩ => exact ⟨k, h1, h2, h3.below hb⟩
  | .error (p, c), ⟨h0, k, h1, h3⟩ => exact ⟨h0, k, h1, h3.below hb⟩
theorem PX.mono {w : World} {B : Nat} {lv : Value} {ts : List Lx.Tok} {sz : Nat} {st : Except (Nat × Nat) (List Lx.Tok)} {b b' : Nat} (h : PX w B lv ts sz st b) (hb : b ≤ b') : PX w B lv ts sz st b' := by
  match st, h with
  | .ok q, h => exact h
  | .error (p, c), ⟨h0, k, h1, h3⟩ => exact ⟨h0, k, Nat.le_trans h1 hb, h3⟩
theorem PX.ps {w : World} {B : Nat} {lv : Value} {ts : List Lx.Tok} {sz : Nat} {st : Except (Nat × Nat) (List Lx.Tok)} {b : Nat} (h : PX w B lv ts sz st b) : ∃ k e sp, PS w B lv ts sz k e sp := by
  match st, h with
  | .ok q, ⟨k, _, _, h⟩ => exact ⟨k, 0, 0, h⟩
  | .error (p, c), ⟨_, k, _, h⟩ => exact ⟨k, c, p, h⟩

def seesX (s : Lx.Bs) : Except (Nat × Nat) (List Lx.Tok) → Bool
  | .ok q => Px.sees s q
  | .error _ => false
/-- A token is taken, if it is this. -/
def takeX (s : Lx.Bs) : Except (Nat × Nat) (List Lx.Tok) → Except (Nat × Nat) (List Lx.Tok)
  | .ok q => if Px.sees s q = true then .ok q.tail else .ok q
  | .error e => .error e

theorem sees_here (s : Lx.Bs) (ts : List Lx.Tok) (sz k : Nat) : Px.sees s (ts.drop k) = seesT s (hereT ts sz k) := by
  unfold hereT
  by_cases hk : k < ts.length
  · rw [List.drop_eq_getElem_cons hk]
    simp [Px.sees, seesT, hk]
  · rw [List.drop_eq_nil_of_le (by omega)]
    simp [Px.sees, seesT, hk]
theorem plc_here (ts : List Lx.Tok) (sz k : Nat) : Px.plc sz (ts.drop k) = (hereT ts sz k).pos := by
  unfold hereT
  by_cases hk : k < ts.length
  · rw [List.drop_eq_getElem_cons hk]
    simp [Px.plc, hk]
  · rw [List.drop_eq_nil_of_le (by omega)]
    simp [Px.plc, hk]
theorem sees_lt {s : Lx.Bs} {ts : List Lx.Tok} {k : Nat} (h : Px.sees s (ts.drop k) = true) : k < ts.length := by
  by_cases hk : k < ts.length
  · exact hk
  · rw [List.drop_eq_nil_of_le (by omega)] at h
    cases h

theorem seesX_any (s : ByteArray) (w : World) (B : Nat) (lv : Value) (ts : List Lx.Tok) (sz : Nat) (st : Except (Nat × Nat) (List Lx.Tok)) (b : Nat) (h : PX w B lv ts sz st b) :
    Calls Tryz.prog 97 #[.pointer (some ⟨B, 0, none⟩), .string s] w fun x w' => x = .returned (.bool (seesX s.data.toList st)) ∧ Below w.heap.size w w' := by
  match st, h with
  | .ok q, ⟨k, h1, h2, h3⟩ =>
    refine (sees_any s w B lv ts sz k 0 0 h3).mono ?_
    rintro x w' ⟨rfl, hb⟩
    refine ⟨ret_bool ?_, hb⟩
    simp [seesX, h2, sees_here _ ts sz k]
  | .error (p, c), ⟨h0, k, h1, h3⟩ =>
    refine (sees_any s w B lv ts sz k c p h3).mono ?_
    rintro x w' ⟨rfl, hb⟩
    exact ⟨ret_bool (by simp [seesX, h0]), hb⟩

theorem psAt_grown {w : World} {B : Nat} (v : Value) : w.grownBy (w.setCell ⟨B, 1, none⟩ v) (some B) :=
  ⟨rfl, rfl, rfl, by simp [World.setCell], fun k _ hne => Below.heap_setCell w _ v k (by simpa using hne)⟩

set_option maxHeartbeats 400000 in
theorem takes_any (s : ByteArray) (w : World) (B : Nat) (lv : Value) (ts : List Lx.Tok) (sz : Nat) (st : Except (Nat × Nat) (List Lx.Tok)) (b : Nat) (h : PX w B lv ts sz st b) :
    Calls Tryz.prog 70 #[.pointer (some ⟨B, 0, none⟩), .string s] w fun x w' => x = .returned (.bool (seesX s.data.toList st)) ∧ PX w' B lv ts sz (takeX s.data.toList st) b ∧ w.grownBy w' (some B) := by
  cases hs : seesX s.data.toList st with
  | false =>
    have e : takeX s.data.toList st = st := by
      match st, hs with
      | .ok q, hs => simp only [seesX] at hs; simp [takeX, hs]
      | .error e, _ => rfl
    rw [e]
    have HS := hd hs
    clear hs e
    go_enter Tryz.func70, Tryz.ntmps70
    go_wp2_with fail
    refine (seesX_any s w B lv ts sz st b h).mono ?_
    rintro x w1 ⟨rfl, hb⟩
    rw [HS.out]
    go_wp2
    go_ret
    exact ⟨rfl, h.below hb, Below.grownBy hb⟩
  | true =>
    match st, hs, h with
    | .error e, hs, _ => cases hs
    | .ok q, hs, hx =>
      obtain ⟨k, h1, h2, h3⟩ := hx
      have hs' : Px.sees s.data.toList (ts.drop k) = true := by rw [← h2]; exact hs
      have hlt := sees_lt hs'
      have hle := h3.len
      have HS := hd hs
      have HX : Hid (PX w B lv ts sz (.ok q) b) := ⟨k, h1, h2, h3⟩
      have HE : Hid (takeX s.data.toList (.ok q) = .ok (ts.drop (k + 1))) := by
        show _ = _
        rw [h2]
        simp [takeX, hs', List.tail_drop]
      clear hs hs'
      go_enter Tryz.func70, Tryz.ntmps70
      go_wp2_with fail
      refine (seesX_any s w B lv ts sz (.ok q) b HX.out).mono ?_
      rintro x w1 ⟨rfl, hb⟩
      rw [HS.out]
      have h4 := h3.below hb
      have hB1 := h4.blk.lt
      obtain ⟨c0, c1, c2, c3, c4⟩ := h4.cells
      have f1 := h4.blk.free 1
      go_wp2
      go_ret
      refine ⟨rfl, ?_, grown_trans (Below.grownBy hb) (psAt_grown _)⟩
      rw [HE.out]
      exact ⟨k + 1, by omega, rfl, by have := h4.setAt (k + 1) (by omega); simpa using this⟩

def mustX (sz : Nat) (s : Lx.Bs) : Except (Nat × Nat) (List Lx.Tok) → Except (Nat × Nat) (List Lx.Tok)
  | .ok q => if Px.sees s q = true then .ok q.tail else .error (Px.plc sz q, 4)
  | .error e => .error e

theorem psErr_grown {w : World} {B : Nat} (u v : Value) : w.grownBy ((w.setCell ⟨B, 3, none⟩ u).setCell ⟨B, 4, none⟩ v) (some B) := by
  have h1 : ∀ (w : World) (i : Nat) (v : Value), w.grownBy (w.setCell ⟨B, i, none⟩ v) (some B) := fun w i v => ⟨rfl, rfl, rfl, by simp [World.setCell], fun k _ hne => Below.heap_setCell w _ v k (by simpa using hne)⟩
  exact grown_trans (h1 _ _ _) (h1 _ _ _)

/-- An error at a place, if there is none yet. -/
def stopX (c p : Nat) : Except (Nat × Nat) (List Lx.Tok) → Except (Nat × Nat) (List Lx.Tok)
  | .ok _ => .error (p, c)
  | .error e => .error e
theorem stopX_any (w : World) (B : Nat) (lv : Value) (ts : List Lx.Tok) (sz : Nat) (st : Except (Nat × Nat) (List Lx.Tok)) (b : Nat) (h : PX w B lv ts sz st b) (c p : Nat) (hc : c ≤ 15) (hc0 : c ≠ 0) (hp : p ≤ 2000) (hb : ts.length ≤ b) :
    Calls Tryz.prog 17 #[.pointer (some ⟨B, 0, none⟩), .int .i64 (c : Int), .int .i64 (p : Int)] w fun x w' => x = .returned (.tuple #[]) ∧ PX w' B lv ts sz (stopX c p st) b ∧ w.grownBy w' (some B) := by
  match st, h with
  | .ok q, ⟨k, h1, h2, h3⟩ =>
    refine (stop_on w B lv ts sz k 0 h3 c p).mono ?_
    rintro x w' ⟨rfl, rfl⟩
    exact ⟨rfl, ⟨hc0, k, by omega, h3.setErr c p hc hp⟩, psErr_grown _ _⟩
  | .error (p', c'), ⟨h0, k, h1, h3⟩ =>
    refine (stop_off w B lv ts sz k c' p' h3 h0 c p).mono ?_
    rintro x w' ⟨rfl, rfl⟩
    exact ⟨rfl, ⟨h0, k, h1, h3⟩, ⟨rfl, rfl, rfl, Nat.le_refl _, fun _ _ _ => rfl⟩⟩

/-- The token that stands next; behind an error: some token. -/
theorem hereX_any (w : World) (B : Nat) (lv : Value) (ts : List Lx.Tok) (sz : Nat) (st : Except (Nat × Nat) (List Lx.Tok)) (b : Nat) (h : PX w B lv ts sz st b) :
    Calls Tryz.prog 32 #[.pointer (some ⟨B, 0, none⟩)] w fun x w' => ∃ t : Lx.Tok, x = .returned (tokA t) ∧ t.pos ≤ 2000 ∧ t.text.length ≤ 2000 ∧ (∀ q, st = .ok q → t = q.headD ⟨0, [], sz⟩) ∧ Below w.heap.size w w' := by
  have key : ∀ k e sp, PS w B lv ts sz k e sp → (∀ q, st = .ok q → q = ts.drop k) → Calls Tryz.prog 32 #[.pointer (some ⟨B, 0, none⟩)] w fun x w' => ∃ t : Lx.Tok, x = .returned (tokA t) ∧ t.pos ≤ 2000 ∧ t.text.length ≤ 2000 ∧ (∀ q, st = .ok q → t = q.headD ⟨0, [], sz⟩) ∧ Below w.heap.size w w' := by
    intro k e sp h3 hq
    have hok := hereT_ok h3
    refine (here_any w B lv ts sz k e sp h3).mono ?_
    rintro x w' ⟨rfl, hb⟩
    refine ⟨_, rfl, hok.2.1, hok.2.2, fun q e => ?_, hb⟩
    rw [hq q e]
    unfold hereT
    by_cases hk : k < ts.length
    · rw [List.drop_eq_getElem_cons hk]; simp [hk]
    · rw [List.drop_eq_nil_of_le (by omega)]; simp [hk]
  match st, h with
  | .ok q, ⟨k, h1, h2, h3⟩ => exact key k 0 0 h3 (fun q' e => by cases e; exact h2)
  | .error (p, c), ⟨h0, k, h1, h3⟩ => exact key k c p h3 (fun q' e => by cases e)

theorem mustX_take (sz : Nat) (s : Lx.Bs) (st : Except (Nat × Nat) (List Lx.Tok)) : mustX sz s st = if seesX s st = true then takeX s st else stopX 4 (match st with | .ok q => Px.plc sz q | .error e => e.1) st := by
  match st with
  | .ok q => simp only [mustX, seesX, takeX, stopX]; split <;> rfl
  | .error e => rfl
theorem take_same {s : Lx.Bs} {st : Except (Nat × Nat) (List Lx.Tok)} (h : seesX s st = false) : takeX s st = st := by
  match st, h with
  | .ok q, h => simp only [seesX] at h; simp [takeX, h]
  | .error e, _ => rfl

set_option maxHeartbeats 400000 in
theorem must_any (s : ByteArray) (g : Nat) (w : World) (B : Nat) (lv : Value) (ts : List Lx.Tok) (sz : Nat) (st : Except (Nat × Nat) (List Lx.Tok)) (b : Nat) (h : PX w B lv ts sz st b) (hb : ts.length ≤ b) (hg : w.cell? ⟨g, 0, none⟩ = some (.string s)) :
    Calls Tryz.prog 34 #[.pointer (some ⟨B, 0, none⟩), .slice (some ⟨g, 0, none⟩) 1 1] w fun x w' => x = .returned (.tuple #[]) ∧ PX w' B lv ts sz (mustX sz s.data.toList st) b ∧ w.grownBy w' (some B) := by
  go_enter Tryz.func34, Tryz.ntmps34
  go_wp2
  refine wp_loop_rounds 2 ?_
  rw [rounds_succ]
  go_wp2_with fail
  refine (takes_any s w B lv ts sz st b h).mono ?_
  rintro x w1 ⟨rfl, h1, hb1⟩
  cases hs : seesX s.data.toList st with
  | true =>
    go_wp2
    rw [rounds_succ]
    go_wp2
    go_end0
    refine ⟨rfl, ?_, hb1⟩
    rw [mustX_take, if_pos hs]; exact h1
  | false =>
    rw [take_same hs] at h1
    go_wp2_with fail
    refine (hereX_any w1 B lv ts sz st b h1).mono ?_
    rintro x w2 ⟨⟨tk, tt, tp⟩, rfl, hp1, hp2, hq, hb2⟩
    unfold tokA
    simp only at hp1 hp2 ⊢
    have h2 := h1.below hb2
    go_wp2_with fail
    refine (stopX_any _ B lv ts sz st b (h2.below (by go_grown)) 4 tp (by omega) (by omega) hp1 hb).mono ?_
    rintro x w3 ⟨rfl, h3, hb3⟩
    go_wp2
    rw [rounds_succ]
    go_wp2
    go_end0
    refine ⟨rfl, ?_, grown_trans hb1 (grown_trans (Below.grownBy hb2) (grown_trans (Below.grownBy (by go_grown)) hb3))⟩
    rw [mustX_take, if_neg (by simp [hs])]
    match st, hq, h3 with
    | .ok q, hq, h3 =>
      have e := hq q rfl
      have : Px.plc sz q = tp := by
        cases q with
        | nil => simp at e; simp [Px.plc, e]
        | cons t r => simp at e; simp [Px.plc, ← e]
      show PX w3 B lv ts sz (stopX 4 (Px.plc sz q) (.ok q)) b
      rw [this]; exact h3
    | .error e, _, h3 => exact h3
end Go.Proofs.YtcdgihdhpaipaaaGreatDoor

namespace Go.Proofs.YtcdgihdhpaipaaaGreatDoor
open Go.RowKit
set_option linter.unusedSimpArgs false
set_option linter.unusedVariables false

/-- A name is read (a state is handed on). -/
def nameX (sz : Nat) : Except (Nat × Nat) (List Lx.Tok) → Except (Nat × Nat) (Lx.Bs × List Lx.Tok)
  | .ok q => match Px.name sz q with
    | some r => r
    | none => .error (0, 0)
  | .error e => .error e
def stOf {α : Type} : Except (Nat × Nat) (α × List Lx.Tok) → Except (Nat × Nat) (List Lx.Tok)
  | .ok (_, q) => .ok q
  | .error e => .error e

theorem name_nil (sz : Nat) : nameX sz (.ok []) = .error (sz, 4) := rfl
theorem name_cons (sz : Nat) (t : Lx.Tok) (r : List Lx.Tok) : nameX sz (.ok (t :: r)) = if t.kind ≠ 18 then .error (t.pos, 4) else if 30 < t.text.length then .error (t.pos, 5) else .ok (t.text, r) := by
  unfold nameX Px.name
  by_cases h1 : t.kind ≠ 18
  · simp only [if_pos h1]
  · by_cases h2 : 30 < t.text.length
    · simp only [if_neg h1, if_pos h2]
    · simp only [if_neg h1, if_neg h2]

theorem PS.step {w : World} {B : Nat} {lv : Value} {ts : List Lx.Tok} {sz k e sp : Nat} (h : PS w B lv ts sz k e sp) (hk : k < 3000) : PS (w.setCell ⟨B, 1, none⟩ (.int .i64 ((k : Int) + 1))) B lv ts sz (k + 1) e sp := by
  have := h.setAt (k + 1) (by omega)
  simpa using this

theorem stop_ps (w : World) (B : Nat) (lv : Value) (ts : List Lx.Tok) (sz at_ sp : Nat) (h : PS w B lv ts sz at_ 0 sp) (c p : Nat) (hc : c ≤ 15) (hp : p ≤ 2000) :
    Calls Tryz.prog 17 #[.pointer (some ⟨B, 0, none⟩), .int .i64 (c : Int), .int .i64 (p : Int)] w fun x w' => x = .returned (.tuple #[]) ∧ PS w' B lv ts sz at_ c p ∧ w.grownBy w' (some B) := by
  refine (stop_on w B lv ts sz at_ sp h c p).mono ?_
  rintro x w' ⟨rfl, rfl⟩
  exact ⟨rfl, h.setErr c p hc hp, psErr_grown _ _⟩
/-- A token that was laid in new memory lies there still. -/
theorem told_cell (w1 w2 : World) (B tk : Nat) (tt : Lx.Bs) (tp : Nat) (hg : (w1.alloc (.cells #[.int .i64 (tk : Int), .string ⟨tt.toArray⟩, .int .i64 (tp : Int)] 44)).grownBy w2 (some B)) (hB : B < w1.heap.size) :
    w2.cell? ⟨w1.heap.size, 1, none⟩ = some (.string ⟨tt.toArray⟩) := by
  rw [World.cell?_of_block (hg.block w1.heap.size (by simp) (by simp; omega))]
  exact (Blk.new w1 _ _).cell 1

set_option maxHeartbeats 800000 in
theorem name_off (w : World) (B : Nat) (lv : Value) (ts : List Lx.Tok) (sz k c p : Nat) (h : PS w B lv ts sz k c p) (hc : c ≠ 0) (hk : k < 3000) (tk : Nat) (tt : Lx.Bs) (tp : Nat) (ht : hereT ts sz k = ⟨tk, tt, tp⟩) :
    Calls Tryz.prog 35 #[.pointer (some ⟨B, 0, none⟩)] w fun x w' => x = .returned (.string ⟨tt.toArray⟩) ∧ PS w' B lv ts sz (k + 1) c p ∧ w.grownBy w' (some B) := by
  have hok := hereT_ok h
  rw [ht] at hok
  obtain ⟨hk1, hk2, hk3⟩ := hok
  simp only at hk1 hk2 hk3
  have HT := hd ht
  clear ht
  go_enter Tryz.func35, Tryz.ntmps35
  go_wp2_with fail
  refine (here_any w B lv ts sz k c p h).mono ?_
  rintro x w1 ⟨rfl, hb⟩
  rw [HT.out]
  unfold tokA
  simp only
  have h1 := h.below hb
  have hB1 := h1.blk.lt
  have hsz : (ByteArray.mk tt.toArray).size = tt.length := by simp [ByteArray.size]
  by_cases hn : tk = 18
  · subst hn
    by_cases hl : 30 < tt.length
    · go_wp2_with fail
      refine (stop_off _ B lv ts sz k c p (h1.below (by go_grown)) hc 5 tp).mono ?_
      rintro x w2 ⟨rfl, rfl⟩
      obtain ⟨c0, c1, c2, c3, c4⟩ := h1.cells
      have f1 := h1.blk.free 1
      go_wp2
      go_ret
      exact ⟨rfl, (h1.step hk).below (by go_grown), grown_trans (Below.grownBy hb) (grown_trans (psAt_grown _) (Below.grownBy (by go_grown)))⟩
    · obtain ⟨c0, c1, c2, c3, c4⟩ := h1.cells
      have f1 := h1.blk.free 1
      go_wp2
      go_ret
      exact ⟨rfl, (h1.step hk).below (by go_grown), grown_trans (Below.grownBy hb) (grown_trans (psAt_grown _) (Below.grownBy (by go_grown)))⟩
  · have hn1 : ((tk : Int) != 18) = true := by rw [bne_iff_ne]; omega
    go_wp2_with fail
    refine (stop_off _ B lv ts sz k c p (h1.below (by go_grown)) hc 4 tp).mono ?_
    rintro x w2 ⟨rfl, rfl⟩
    obtain ⟨c0, c1, c2, c3, c4⟩ := h1.cells
    have f1 := h1.blk.free 1
    go_wp2
    go_ret
    exact ⟨rfl, (h1.step hk).below (by go_grown), grown_trans (Below.grownBy hb) (grown_trans (psAt_grown _) (Below.grownBy (by go_grown)))⟩

/-- What name leaves in the state: an error, or the next place. -/
def nameE (tk : Nat) (tt : Lx.Bs) (tp : Nat) : Nat × Nat := if tk ≠ 18 then (4, tp) else if 30 < tt.length then (5, tp) else (0, 0)

set_option maxHeartbeats 800000 in
theorem name_on (w : World) (B : Nat) (lv : Value) (ts : List Lx.Tok) (sz k : Nat) (h : PS w B lv ts sz k 0 0) (hk : k < 3000) (tk : Nat) (tt : Lx.Bs) (tp : Nat) (ht : hereT ts sz k = ⟨tk, tt, tp⟩) :
    Calls Tryz.prog 35 #[.pointer (some ⟨B, 0, none⟩)] w fun x w' => x = .returned (.string ⟨tt.toArray⟩) ∧ PS w' B lv ts sz (k + 1) (nameE tk tt tp).1 (nameE tk tt tp).2 ∧ w.grownBy w' (some B) := by
  have hok := hereT_ok h
  rw [ht] at hok
  obtain ⟨hk1, hk2, hk3⟩ := hok
  simp only at hk1 hk2 hk3
  have HT := hd ht
  clear ht
  unfold nameE
  go_enter Tryz.func35, Tryz.ntmps35
  go_wp2_with fail
  refine (here_any w B lv ts sz k 0 0 h).mono ?_
  rintro x w1 ⟨rfl, hb⟩
  rw [HT.out]
  unfold tokA
  simp only
  have h1 := h.below hb
  have hB1 := h1.blk.lt
  have hsz : (ByteArray.mk tt.toArray).size = tt.length := by simp [ByteArray.size]
  have h2 : PS (w1.alloc _) B lv ts sz k 0 0 := h1.below ((Below.refl _ _).alloc (Nat.le_refl _) (.cells #[.int .i64 (tk : Int), .string ⟨tt.toArray⟩, .int .i64 (tp : Int)] 44))
  by_cases hn : tk = 18
  · subst hn
    by_cases hl : 30 < tt.length
    · go_wp2_with fail
      refine (stop_ps _ B lv ts sz k 0 h2 5 tp (by omega) hk2).mono ?_
      rintro x w2 ⟨rfl, h3, hg⟩
      obtain ⟨c0, c1, c2, c3, c4⟩ := h3.cells
      have f1 := h3.blk.free 1
      have hz := hg.size
      have k1 := told_cell w1 w2 B 18 tt tp hg hB1
      go_wp2
      go_ret
      refine ⟨rfl, ?_, grown_trans (Below.grownBy hb) (grown_trans (Below.grownBy (by go_grown)) (grown_trans hg (psAt_grown _)))⟩
      exact h3.step hk
    · obtain ⟨c0, c1, c2, c3, c4⟩ := h1.cells
      have f1 := h1.blk.free 1
      go_wp2
      go_ret
      refine ⟨rfl, ?_, grown_trans (Below.grownBy hb) (grown_trans (psAt_grown _) (Below.grownBy (by go_grown)))⟩
      exact (h1.step hk).below (by go_grown)
  · have hn1 : ((tk : Int) != 18) = true := by rw [bne_iff_ne]; omega
    go_wp2_with fail
    refine (stop_ps _ B lv ts sz k 0 h2 4 tp (by omega) hk2).mono ?_
    rintro x w2 ⟨rfl, h3, hg⟩
    obtain ⟨c0, c1, c2, c3, c4⟩ := h3.cells
    have f1 := h3.blk.free 1
    have hz := hg.size
    have k1 := told_cell w1 w2 B tk tt tp hg hB1
    go_wp2
    go_ret
    refine ⟨rfl, ?_, grown_trans (Below.grownBy hb) (grown_trans (Below.grownBy (by go_grown)) (grown_trans hg (psAt_grown _)))⟩
    exact h3.step hk

/-- NAME, whatever the state. -/
theorem name_any (w : World) (B : Nat) (lv : Value) (ts : List Lx.Tok) (sz : Nat) (st : Except (Nat × Nat) (List Lx.Tok)) (b : Nat) (h : PX w B lv ts sz st b) (hb : ts.length ≤ b) (hb2 : b < 2900) :
    Calls Tryz.prog 35 #[.pointer (some ⟨B, 0, none⟩)] w fun x w' => ∃ s : ByteArray, x = .returned (.string s) ∧ s.size ≤ 2000 ∧ (∀ t q, nameX sz st = .ok (t, q) → s = ⟨t.toArray⟩) ∧ PX w' B lv ts sz (stOf (nameX sz st)) (b + 1) ∧ w.grownBy w' (some B) := by
  have hsz : ∀ tt : Lx.Bs, (ByteArray.mk tt.toArray).size = tt.length := fun tt => by simp [ByteArray.size]
  match st, h with
  | .error (p, c), ⟨h0, k, h1, h3⟩ =>
    have hok := hereT_ok h3
    rcases ht : hereT ts sz k with ⟨tk, tt, tp⟩
    rw [ht] at hok
    refine (name_off w B lv ts sz k c p h3 h0 (by omega) tk tt tp ht).mono ?_
    rintro x w' ⟨rfl, h4, hg⟩
    exact ⟨_, rfl, by rw [hsz]; exact hok.2.2, fun t q e => (by cases e), ⟨h0, k + 1, by omega, h4⟩, hg⟩
  | .ok q, ⟨k, h1, h2, h3⟩ =>
    have hok := hereT_ok h3
    rcases ht : hereT ts sz k with ⟨tk, tt, tp⟩
    rw [ht] at hok
    have hl := h3.len
    refine (name_on w B lv ts sz k h3 (by omega) tk tt tp ht).mono ?_
    rintro x w' ⟨rfl, h4, hg⟩
    subst h2
    by_cases hk : k < ts.length
    · have e1 : ts.drop k = ⟨tk, tt, tp⟩ :: ts.drop (k + 1) := by
        rw [List.drop_eq_getElem_cons hk, ← ht]; simp [hereT, hk]
      rw [e1, name_cons]
      simp only [nameE] at h4
      refine ⟨_, rfl, by rw [hsz]; exact hok.2.2, ?_, ?_, hg⟩
      · intro t q e
        split at e
        · cases e
        · split at e
          · cases e
          · cases e; rfl
      · split
        · rename_i c
          rw [if_pos c] at h4
          exact ⟨by omega, k + 1, by omega, h4⟩
        · rename_i c
          rw [if_neg c] at h4
          split
          · rename_i c2
            rw [if_pos c2] at h4
            exact ⟨by omega, k + 1, by omega, h4⟩
          · rename_i c2
            rw [if_neg c2] at h4
            exact ⟨k + 1, by omega, rfl, h4⟩
    · have e1 : ts.drop k = [] := List.drop_eq_nil_of_le (by omega)
      have e2 : (⟨tk, tt, tp⟩ : Lx.Tok) = ⟨0, [], sz⟩ := by rw [← ht]; simp [hereT, hk]
      cases e2
      rw [e1, name_nil]
      simp only [nameE, if_pos (show (0 : Nat) ≠ 18 by omega)] at h4
      exact ⟨_, rfl, by rw [hsz]; simp, fun t q e => (by cases e), ⟨by omega, k + 1, by omega, h4⟩, hg⟩

/-! Lists of nodes. -/
theorem NdIs.slice {w : World} {b0 : Nat} {v : Value} {l : List Px.Nd} (h : NdIs w b0 v l) : ∃ ao cap, v = .slice ao l.length cap ∧
    ∀ k, (hk : k < l.length) → ∃ g, ao = some ⟨g, 0, none⟩ ∧ g < w.heap.size ∧ w.cell? ⟨g, k * 4, none⟩ = some (.int .i64 l[k].kind) ∧ w.cell? ⟨g, k * 4 + 1, none⟩ = some (.string ⟨l[k].text.toArray⟩) ∧ w.cell? ⟨g, k * 4 + 2, none⟩ = some (.int .i64 l[k].num) ∧ w.cell? ⟨g, k * 4 + 3, none⟩ = some (.int .i64 l[k].kids) := by
  rcases h with ⟨rfl, rfl⟩ | ⟨g, cap, rfl, h1, h2, h3, h4, h5⟩
  · exact ⟨none, 0, rfl, fun k hk => by simp at hk⟩
  · refine ⟨_, cap, rfl, fun k hk => ⟨g, rfl, h2, ?_⟩⟩
    obtain ⟨q0, q1, q2, q3⟩ := ndsV_at l k hk
    exact ⟨h5 _ _ q0, h5 _ _ q1, h5 _ _ q2, h5 _ _ q3⟩

theorem four_news (w : World) (x y z u : Value) (T : TypeId) (g : Nat) (hg : g = w.heap.size) : ∀ j v, [x, y, z, u][j]? = some v → (w.alloc (.cells #[x, y, z, u] T)).cell? ((⟨g, 0, none⟩ : Addr).add j) = some v := by
  intro j v hj
  subst hg
  rw [Addr.add_lit, Nat.zero_add, (Blk.new w #[x, y, z, u] T).cell j]
  rw [← hj]
  simp

end Go.Proofs.YtcdgihdhpaipaaaGreatDoor

namespace Go.Proofs.YtcdgihdhpaipaaaGreatDoor
open Go.RowKit
set_option linter.unusedSimpArgs false
set_option linter.unusedVariables false

theorem take_next {l : List Px.Nd} {k : Nat} (h : k < l.length) : l.take (k + 1) = l.take k ++ [l[k]] := by
  rw [List.take_add_one, List.getElem?_eq_getElem h]; rfl

set_option maxRecDepth 100000 in
set_option maxHeartbeats 2000000 in
theorem cat_any (w : World) (b1 b2 : Nat) (va vb : Value) (a b : List Px.Nd) (ha : NdIs w b1 va a) (hb : NdIs w b2 vb b) (hn : a.length + b.length ≤ 100000) :
    Calls Tryz.prog 71 #[va, vb] w fun x w' => ∃ v, x = .returned v ∧ w'.ownsRow w.heap.size 46 4 v (a ++ b).length (ndsV (a ++ b)) ∧ Below w.heap.size w w' := by
  obtain ⟨i0, hi, hz0, hz1, hz2⟩ := info_parts Tryz.info46
  obtain ⟨aa, ca, rfl, HA⟩ := ha.slice
  obtain ⟨ab, cb, rfl, HB⟩ := hb.slice
  have HKA := hd HA
  have HKB := hd HB
  clear HA HB ha hb
  go_enter Tryz.func71, Tryz.ntmps71
  go_wp2_with fail
  go_loopw [5, 6] (fun v i wr => ∃ k : Nat, k ≤ a.length ∧ i = .int .i64 (k : Int) ∧ Hid (wr.ownsRow w.heap.size 46 4 v k (ndsV (a.take k))) ∧ Hid (Below w.heap.size w wr)) (fun _ i _ => a.length - (intOf i).toNat)
  case atStart => exact ⟨0, by omega, rfl, World.ownsRow_nil _ _ _ _, Below.refl _ _⟩
  case round =>
    obtain ⟨k, hk, rfl, HO, HW⟩ := hrel
    by_cases hlt : k < a.length
    · obtain ⟨g, hag, hg, k0, k1, k2, k3⟩ := HKA.out k hlt
      have HX : Hid (ndsV (a.take (k + 1)) = ndsV (a.take k) ++ ndV a[k]) := by show _ = _; rw [take_next hlt, ndsV_append, ndsV_one]
      rw [hag]
      have hc : ∀ i, wr.cell? ⟨g, i, none⟩ = w.cell? ⟨g, i, none⟩ := fun i => HW.out.cell (p := ⟨g, i, none⟩) hg
      rw [← hc] at k0 k1 k2 k3
      have hzw := HW.out.size
      have hgw : g < wr.heap.size := by omega
      clear hc
      generalize a[k] = x at *
      obtain ⟨xk, xt, xn, xc⟩ := x
      simp only at k0 k1 k2 k3
      go_wp2_with (first
        | (at_builtin; refine wpList_append_own _ rfl _ _ 33 rfl w.heap.size 46 i0 (.agg #[.int .i64 0, .string ⟨#[]⟩, .int .i64 0, .int .i64 0]) 4 40 Tryz.underlying33 hi hz0 hz1 hz2 rfl (by decide) _ _ _ rfl (HO.out.alloc _) ⟨wr.heap.size, 0, none⟩ 1 1 [.int .i64 xk, .string ⟨xt.toArray⟩, .int .i64 xn, .int .i64 xc] rfl rfl ?c1 ?c2 ?c3 ?c4 ?c5 ?_)
        | fail)
      case c1 => exact four_news wr _ _ _ _ _ _ rfl
      case c2 => intro u hu; simp at hu; rcases hu with rfl | rfl | rfl | rfl <;> rfl
      case c3 => unfold maxLen; omega
      case c4 => omega
      case c5 => simp; omega
      intro v' w2 hown' hgrow _
      have HO2 : Hid (w2.ownsRow w.heap.size 46 4 v' (k + 1) (ndsV (a.take (k + 1)))) := by
        show World.ownsRow _ _ _ _ _ _ _
        rw [HX.out]; exact hown'
      have HW2 : Hid (Below w.heap.size w w2) := (HW.out.alloc hzw _).grown hgrow (by simp; omega) (fun q hq => (HO.out.lt q hq).1)
      clear hown' hgrow
      go_wp2_with fail
      go_roundw
      case rel => exact ⟨k + 1, by omega, by go_num, HO2, HW2⟩
      case measure => simp [intOf]; omega
    · obtain rfl : k = a.length := by omega
      have HO1 : Hid (wr.ownsRow w.heap.size 46 4 u5 a.length (ndsV a)) := by have := HO.out; rwa [List.take_length] at this
      go_wp2_with fail
      go_loopw [5, 7] (fun v i wr => ∃ k : Nat, k ≤ b.length ∧ i = .int .i64 (k : Int) ∧ Hid (wr.ownsRow w.heap.size 46 4 v (a.length + k) (ndsV (a ++ b.take k))) ∧ Hid (Below w.heap.size w wr)) (fun _ i _ => b.length - (intOf i).toNat)
      case atStart => exact ⟨0, by omega, rfl, by show World.ownsRow _ _ _ _ _ _ _; rw [List.take_zero, List.append_nil]; exact HO1.out, HW⟩
      case round =>
        obtain ⟨k, hk, rfl, HP, HV⟩ := hrel
        by_cases hlt2 : k < b.length
        · obtain ⟨g, hag, hg, k0, k1, k2, k3⟩ := HKB.out k hlt2
          have HX : Hid (ndsV (a ++ b.take (k + 1)) = ndsV (a ++ b.take k) ++ ndV b[k]) := by show _ = _; rw [take_next hlt2, ← List.append_assoc, ndsV_append (a ++ b.take k), ndsV_one]
          rw [hag]
          have hc : ∀ i, wr.cell? ⟨g, i, none⟩ = w.cell? ⟨g, i, none⟩ := fun i => HV.out.cell (p := ⟨g, i, none⟩) hg
          rw [← hc] at k0 k1 k2 k3
          have hzw := HV.out.size
          have hgw : g < wr.heap.size := by omega
          clear hc
          generalize b[k] = x at *
          obtain ⟨xk, xt, xn, xc⟩ := x
          simp only at k0 k1 k2 k3
          go_wp2_with (first
            | (at_builtin; refine wpList_append_own _ rfl _ _ 33 rfl w.heap.size 46 i0 (.agg #[.int .i64 0, .string ⟨#[]⟩, .int .i64 0, .int .i64 0]) 4 40 Tryz.underlying33 hi hz0 hz1 hz2 rfl (by decide) _ _ _ rfl (HP.out.alloc _) ⟨wr.heap.size, 0, none⟩ 1 1 [.int .i64 xk, .string ⟨xt.toArray⟩, .int .i64 xn, .int .i64 xc] rfl rfl ?c1 ?c2 ?c3 ?c4 ?c5 ?_)
            | fail)
          case c1 => exact four_news wr _ _ _ _ _ _ rfl
          case c2 => intro u hu; simp at hu; rcases hu with rfl | rfl | rfl | rfl <;> rfl
          case c3 => unfold maxLen; omega
          case c4 => omega
          case c5 => simp; omega
          intro v' w2 hown' hgrow _
          have HO2 : Hid (w2.ownsRow w.heap.size 46 4 v' (a.length + (k + 1)) (ndsV (a ++ b.take (k + 1)))) := by
            show World.ownsRow _ _ _ _ _ _ _
            rw [HX.out]; exact hown'
          have HW2 : Hid (Below w.heap.size w w2) := (HV.out.alloc hzw _).grown hgrow (by simp; omega) (fun q hq => (HP.out.lt q hq).1)
          clear hown' hgrow
          go_wp2_with fail
          go_roundw
          case rel => exact ⟨k + 1, by omega, by go_num, HO2, HW2⟩
          case measure => simp [intOf]; omega
        · obtain rfl : k = b.length := by omega
          go_wp2_with fail
          go_ret
          refine ⟨_, rfl, ?_, HV.out⟩
          have := HP.out
          rw [List.take_length] at this
          rw [List.length_append]
          exact this

/-- A slice that was laid out at once. -/
theorem NdIs.new (w : World) (x : Px.Nd) : NdIs (w.alloc (.cells #[.int .i64 x.kind, .string ⟨x.text.toArray⟩, .int .i64 x.num, .int .i64 x.kids] 46)) w.heap.size (.slice (some ⟨w.heap.size, 0, none⟩) 1 1) [x] := by
  refine .inr ⟨w.heap.size, 1, rfl, Nat.le_refl _, by simp, by simp, by unfold maxLen; omega, fun j u hu => ?_⟩
  rw [(Blk.new w _ _).cell j]
  simpa [ndsV, ndV] using hu

set_option maxHeartbeats 400000 in
theorem leafN_any (k n : Int) (s : ByteArray) (w : World) :
    Calls Tryz.prog 118 #[.int .i64 k, .string s, .int .i64 n] w fun x w' => ∃ v, x = .returned v ∧ NdIs w' w.heap.size v (Px.leaf k s.data.toList n) ∧ Below w.heap.size w w' := by
  go_enter Tryz.func118, Tryz.ntmps118
  go_wp2
  go_ret
  exact ⟨_, rfl, NdIs.new w ⟨k, s.data.toList, n, 0⟩, by go_grown⟩
end Go.Proofs.YtcdgihdhpaipaaaGreatDoor

namespace Go.Proofs.YtcdgihdhpaipaaaGreatDoor
open Go.RowKit
set_option linter.unusedSimpArgs false
set_option linter.unusedVariables false

theorem NdIs.newAt (w : World) (x : Px.Nd) (g : Nat) (hg : g = w.heap.size) : NdIs (w.alloc (.cells #[.int .i64 x.kind, .string ⟨x.text.toArray⟩, .int .i64 x.num, .int .i64 x.kids] 46)) 0 (.slice (some ⟨g, 0, none⟩) 1 1) [x] := by
  subst hg
  rcases NdIs.new w x with h | ⟨g, cap, h0, h1, h⟩
  · exact .inl h
  · exact .inr ⟨g, cap, h0, Nat.zero_le _, h⟩

theorem NdIs.drew {w : World} {b0 : Nat} {v : Value} {l : List Px.Nd} (h : NdIs w b0 v l) : NdIs w.drew b0 v l := h

def overL (k : Int) (a b : List Px.Nd) : List Px.Nd := ⟨k, [], 0, if b = [] then 1 else 2⟩ :: (a ++ b)

theorem below_more {B : Nat} {w X w' : World} (h : Below B w X) (hB : Below X.heap.size X w') (hle : B ≤ X.heap.size) : Below B w w' := h.trans (hB.mono hle)
theorem own_lower {w : World} {b b' : Nat} {T : TypeId} {s : Nat} {v : Value} {n : Nat} {xs : List Value} (h : w.ownsRow b T s v n xs) (hb : b' ≤ b) : w.ownsRow b' T s v n xs := by
  refine ⟨h.1, ?_⟩
  rcases h.2 with h2 | ⟨g, cap, cur, h0, h1, h2⟩
  · exact .inl h2
  · exact .inr ⟨g, cap, cur, h0, Nat.le_trans hb h1, h2⟩

set_option maxRecDepth 100000 in
set_option maxHeartbeats 4000000 in
theorem over_any (k : Int) (w : World) (b1 b2 : Nat) (va vb : Value) (a b : List Px.Nd) (ha : NdIs w b1 va a) (hb : NdIs w b2 vb b) (hn : a.length + b.length ≤ 90000) :
    Calls Tryz.prog 73 #[.int .i64 k, va, vb] w fun x w' => ∃ v, x = .returned v ∧ w'.ownsRow w.heap.size 46 4 v (overL k a b).length (ndsV (overL k a b)) ∧ Below w.heap.size w w' := by
  have ha1 := ha.slice
  have hb1 := hb.slice
  obtain ⟨aa, ca, rfl, _⟩ := ha1
  obtain ⟨ab, cb, rfl, _⟩ := hb1
  by_cases hne : b = []
  · subst hne
    simp only [List.length_nil] at *
    go_enter Tryz.func73, Tryz.ntmps73
    go_wp2
    go_region_with (go_at_call 71; first
      | (refine Calls.mono (cat_any _ b1 b2 _ _ a [] (ha.below (by go_grown)) (hb.below (by go_grown)) (by first | omega | (simp; omega))) ?_
         rintro x w1 ⟨v1, rfl, ho1, hB1⟩
         have hK : Blk w1 w.heap.size #[.int .i64 k, .string ⟨#[]⟩, .int .i64 0, .int .i64 1] 46 := by first | exact (Blk.new w _ _).drew.below hB1 (by simp) | exact ((Blk.new w _ _).alloc _).drew.below hB1 (by simp <;> omega)
         have q0 := hK.cell 0
         have q1 := hK.cell 1
         have q2 := hK.cell 2
         have q3 := hK.cell 3
         simp at q0 q1 q2 q3)
      | (refine Calls.mono (cat_any _ _ _ _ _ [⟨k, [], 0, 1⟩] (a ++ []) ((NdIs.newAt _ ⟨k, [], 0, 1⟩ _ (by simp)).drew.below hB1) (NdIs.of_own ho1) (by first | omega | (simp; omega))) ?_; rintro x w2 ⟨v2, rfl, ho2, hB2⟩)
      | (refine Calls.mono (cat_any _ _ _ _ _ [⟨k, [], 0, 1⟩] (a ++ []) (NdIs.newAt _ ⟨k, [], 0, 1⟩ _ (by simp)) ((NdIs.of_own ho1).below (by go_grown)) (by first | omega | (simp; omega))) ?_; rintro x w2 ⟨v2, rfl, ho2, hB2⟩))
    all_goals
      have G1 : Below w.heap.size w w1 := below_more (by go_grown) hB1 (by simp <;> omega)
      have hz1 := G1.size
      have G2 : Below w.heap.size w w2 := below_more (by go_grown) hB2 (by first | omega | (simp; omega))
      clear hK q0 q1 q2 q3 hB1 ho1
      go_wp2
      go_ret
      refine ⟨_, rfl, ?_, by go_grown⟩
      rw [show overL k a [] = [⟨k, [], 0, 1⟩] ++ (a ++ []) from by simp [overL]]
      exact own_lower ho2 (by first | omega | (simp; omega))
  · have hl : 0 < b.length := List.length_pos_iff.2 hne
    have hl2 : decide ((b.length : Int) > 0) = true := decide_eq_true (by omega)
    have HNE := hd hne
    clear hne
    go_enter Tryz.func73, Tryz.ntmps73
    go_wp2
    go_region_with (go_at_call 71; first
      | (refine Calls.mono (cat_any _ b1 b2 _ _ a b (ha.below (by go_grown)) (hb.below (by go_grown)) (by first | omega | (simp; omega))) ?_
         rintro x w1 ⟨v1, rfl, ho1, hB1⟩
         have hK : Blk w1 w.heap.size #[.int .i64 k, .string ⟨#[]⟩, .int .i64 0, .int .i64 2] 46 := by first | exact (Blk.new w _ _).drew.below hB1 (by simp) | exact ((Blk.new w _ _).alloc _).drew.below hB1 (by simp <;> omega)
         have q0 := hK.cell 0
         have q1 := hK.cell 1
         have q2 := hK.cell 2
         have q3 := hK.cell 3
         simp at q0 q1 q2 q3)
      | (refine Calls.mono (cat_any _ _ _ _ _ [⟨k, [], 0, 2⟩] (a ++ b) ((NdIs.newAt _ ⟨k, [], 0, 2⟩ _ (by simp)).drew.below hB1) (NdIs.of_own ho1) (by first | omega | (simp; omega))) ?_; rintro x w2 ⟨v2, rfl, ho2, hB2⟩)
      | (refine Calls.mono (cat_any _ _ _ _ _ [⟨k, [], 0, 2⟩] (a ++ b) (NdIs.newAt _ ⟨k, [], 0, 2⟩ _ (by simp)) ((NdIs.of_own ho1).below (by go_grown)) (by first | omega | (simp; omega))) ?_; rintro x w2 ⟨v2, rfl, ho2, hB2⟩))
    all_goals
      have G1 : Below w.heap.size w w1 := below_more (by go_grown) hB1 (by simp <;> omega)
      have hz1 := G1.size
      have G2 : Below w.heap.size w w2 := below_more (by go_grown) hB2 (by first | omega | (simp; omega))
      clear hK q0 q1 q2 q3 hB1 ho1
      go_wp2
      go_ret
      refine ⟨_, rfl, ?_, by go_grown⟩
      rw [show overL k a b = [⟨k, [], 0, 2⟩] ++ (a ++ b) from by simp [overL, HNE.out]]
      exact own_lower ho2 (by first | omega | (simp; omega))
end Go.Proofs.YtcdgihdhpaipaaaGreatDoor

namespace Go.Proofs.YtcdgihdhpaipaaaGreatDoor
open Go.RowKit
set_option linter.unusedSimpArgs false
set_option linter.unusedVariables false

theorem wrap_dig (n c : Nat) (h0 : 48 ≤ c) (h1 : c ≤ 57) (h : 10 * n + (c - 48) ≤ 9223372036854775807) : wrap64 (wrap64 (10 * (n : Int) + wrap64 (c : Int)) - 48) = ((10 * n + (c - 48) : Nat) : Int) := by
  have e1 : wrap64 (c : Int) = c := IntWalk.wrap64_in _ ⟨by omega, by omega⟩
  have e2 : ∀ x : Int, wrap64 (wrap64 x - 48) = wrap64 (x - 48) := by intro x; unfold wrap64; omega
  rw [e1, e2, IntWalk.wrap64_in _ ⟨by omega, by omega⟩]
  omega

set_option maxRecDepth 100000 in
set_option maxHeartbeats 1000000 in
theorem r_Digits_any (s : ByteArray) (w : World) (hd1 : ∀ c ∈ s.data.toList, Lx.isDig c = true) (hv : Px.dval s.data.toList ≤ 9223372036854775807) (hs : s.size ≤ 2000) :
    Calls Tryz.prog 102 #[.string s] w fun x w' => x = .returned (.int .i64 (Px.dval s.data.toList : Int)) ∧ w' = w := by
  have HV : Hid (∀ k, k ≤ s.size → Px.dval (s.data.toList.take k) ≤ 922337203685477580 ∨ k = s.size) := by
    intro k hk
    by_cases h : k = s.size
    · exact .inr h
    · left
      have hlt : k < s.data.toList.length := by simpa using (by omega : k < s.size)
      have h1 : Px.dval (s.data.toList.take (k + 1)) ≤ Px.dval s.data.toList := by
        conv => rhs; rw [← List.take_append_drop (k + 1) s.data.toList]
        rw [Px.dval_fold, Px.dval_fold, Px.dfold_append]
        exact Px.dfold_ge _ _
      rw [List.take_succ_eq_append_getElem hlt, Px.dval_fold, Px.dfold_append, ← Px.dval_fold, Px.dfold_cons] at h1
      simp only [Px.dfold, List.foldl_nil] at h1
      omega
  have HD := hd hd1
  clear hd1
  go_enter Tryz.func102, Tryz.ntmps102
  go_wp2
  go_loop [3, 4] (fun n i => ∃ k : Nat, k ≤ s.size ∧ i = .int .i64 k ∧ n = .int .i64 (Px.dval (s.data.toList.take k) : Int)) (fun n i => s.size - (intOf i).toNat)
  case atStart => exact ⟨0, by omega, rfl, rfl⟩
  case round =>
    obtain ⟨k, hk, rfl, rfl⟩ := hrel
    by_cases hlt : k < s.size
    · have hlt' : k < s.data.toList.length := by simpa using hlt
      have hb := (HV.out k hk).resolve_right (by omega)
      have hdg := HD.out (s.data.toList[k]) (List.getElem_mem hlt')
      have hsb : s[k] = s.data.toList[k] := by simp only [Array.getElem_toList]; rfl
      have HT : Hid (Px.dval (s.data.toList.take (k + 1)) = 10 * Px.dval (s.data.toList.take k) + (s[k].toNat - 48)) := by
        show _ = _
        rw [List.take_succ_eq_append_getElem hlt', Px.dval_fold, Px.dfold_append, ← Px.dval_fold, Px.dfold_cons, hsb]
        simp [Px.dfold]
      rw [← hsb] at hdg
      simp only [Lx.isDig, decide_eq_true_eq] at hdg
      have HM : Hid (Px.dval (s.data.toList.take (k + 1)) ≤ 9223372036854775807) := by
        have h1 : Px.dval (s.data.toList.take (k + 1)) ≤ Px.dval s.data.toList := by
          conv => rhs; rw [← List.take_append_drop (k + 1) s.data.toList]
          rw [Px.dval_fold, Px.dval_fold, Px.dfold_append]
          exact Px.dfold_ge _ _
        exact Nat.le_trans h1 hv
      generalize Px.dval (s.data.toList.take k) = n at *
      go_wp2
      have hsd : s.data[k] = s[k] := rfl
      have ht : Px.dval (List.take (k + 1) s.data.toList) = 10 * n + (s[k].toNat - 48) := HT.out
      have hm : Px.dval (List.take (k + 1) s.data.toList) ≤ 9223372036854775807 := HM.out
      refine ⟨⟨k + 1, by omega, by simp, ?_⟩, by simp [intOf]; omega⟩
      rw [ht, hsd]
      rw [ht] at hm
      exact congrArg _ (wrap_dig n _ hdg.1 hdg.2 hm)
    · have hks : k = s.size := by omega
      subst hks
      have he : List.take s.size s.data.toList = s.data.toList := List.take_of_length_le (by simp)
      rw [he]
      go_wp2
      go_ret
      exact ⟨rfl, rfl⟩
end Go.Proofs.YtcdgihdhpaipaaaGreatDoor

namespace Go.Proofs.YtcdgihdhpaipaaaGreatDoor
open Go.RowKit
set_option linter.unusedSimpArgs false
set_option linter.unusedVariables false

/-- One byte, as a string. -/
theorem conv_one (w : World) (g : Nat) (hg : g = w.heap.size) (x : Int) :
    (convert 177 9 (.slice (some ⟨g, 0, none⟩) 1 1)).run Tryz.prog (w.alloc (.cells #[.int .u8 x] 5)) = .ok (.string ⟨#[UInt8.ofNat x.toNat]⟩) (w.alloc (.cells #[.int .u8 x] 5)) := by
  subst hg
  refine (run_convert_bytes_arg (P := Tryz.prog) (w.alloc (.cells #[.int .u8 x] 5)) 177 5 Tryz.underlying177 Tryz.underlying5 w.heap.size 0 1 1 [x] rfl ?_ 9 Tryz.underlying9).trans ?_
  · intro i hi
    have h0 : i = 0 := by omega
    subst h0
    exact (Blk.new w #[.int .u8 x] 5).cell 0
  · rfl

/-- An operator as the reference lists it: the digit of its level ahead. -/
def sgB (k : Nat) : ByteArray := match Px.opTab[k]? with
  | some x => ⟨(UInt8.ofNat (48 + x.1) :: x.2.1).toArray⟩
  | none => ⟨#[]⟩
def sgK (k : Nat) : Int := match Px.opTab[k]? with
  | some x => x.2.2
  | none => 0

theorem sg_world (w : World) (x : Int) : ∃ W, W = (((w.alloc (.cells #[.string ⟨#[49, 79, 82]⟩, .string ⟨#[50, 65, 78, 68]⟩, .string ⟨#[52, 61]⟩, .string ⟨#[52, 60, 62]⟩, .string ⟨#[52, 60]⟩, .string ⟨#[52, 60, 61]⟩, .string ⟨#[52, 62]⟩, .string ⟨#[52, 62, 61]⟩, .string ⟨#[53, 124, 124]⟩, .string ⟨#[54, 43]⟩, .string ⟨#[54, 45]⟩, .string ⟨#[55, 42]⟩, .string ⟨#[55, 47]⟩, .string ⟨#[55, 37]⟩] 9)).alloc
      (.cells #[.int .i64 23, .int .i64 24, .int .i64 25, .int .i64 26, .int .i64 27, .int .i64 28, .int .i64 29, .int .i64 30, .int .i64 31, .int .i64 32, .int .i64 33, .int .i64 34, .int .i64 35, .int .i64 36] 3)).alloc (.cells #[.int .u8 x] 5)) ∧
    (∀ k, k < 14 → W.cell? ⟨w.heap.size, k, none⟩ = some (.string (sgB k))) ∧ (∀ k, k < 14 → W.cell? ⟨w.heap.size + 1, k, none⟩ = some (.int .i64 (sgK k))) ∧ Below w.heap.size w W ∧ W.heap.size = w.heap.size + 3 := by
  refine ⟨_, rfl, ?_, ?_, by go_grown, by simp⟩
  · intro k hk
    have h1 := (((Blk.new w #[.string ⟨#[49, 79, 82]⟩, .string ⟨#[50, 65, 78, 68]⟩, .string ⟨#[52, 61]⟩, .string ⟨#[52, 60, 62]⟩, .string ⟨#[52, 60]⟩, .string ⟨#[52, 60, 61]⟩, .string ⟨#[52, 62]⟩, .string ⟨#[52, 62, 61]⟩, .string ⟨#[53, 124, 124]⟩, .string ⟨#[54, 43]⟩, .string ⟨#[54, 45]⟩, .string ⟨#[55, 42]⟩, .string ⟨#[55, 47]⟩, .string ⟨#[55, 37]⟩] 9).alloc
      (.cells #[.int .i64 23, .int .i64 24, .int .i64 25, .int .i64 26, .int .i64 27, .int .i64 28, .int .i64 29, .int .i64 30, .int .i64 31, .int .i64 32, .int .i64 33, .int .i64 34, .int .i64 35, .int .i64 36] 3)).alloc (.cells #[.int .u8 x] 5)).cell k
    rw [h1]
    have h2 : k = 0 ∨ k = 1 ∨ k = 2 ∨ k = 3 ∨ k = 4 ∨ k = 5 ∨ k = 6 ∨ k = 7 ∨ k = 8 ∨ k = 9 ∨ k = 10 ∨ k = 11 ∨ k = 12 ∨ k = 13 := by omega
    rcases h2 with rfl | rfl | rfl | rfl | rfl | rfl | rfl | rfl | rfl | rfl | rfl | rfl | rfl | rfl <;> rfl
  · intro k hk
    have h1 := ((Blk.new (w.alloc (.cells #[.string ⟨#[49, 79, 82]⟩, .string ⟨#[50, 65, 78, 68]⟩, .string ⟨#[52, 61]⟩, .string ⟨#[52, 60, 62]⟩, .string ⟨#[52, 60]⟩, .string ⟨#[52, 60, 61]⟩, .string ⟨#[52, 62]⟩, .string ⟨#[52, 62, 61]⟩, .string ⟨#[53, 124, 124]⟩, .string ⟨#[54, 43]⟩, .string ⟨#[54, 45]⟩, .string ⟨#[55, 42]⟩, .string ⟨#[55, 47]⟩, .string ⟨#[55, 37]⟩] 9))
      #[.int .i64 23, .int .i64 24, .int .i64 25, .int .i64 26, .int .i64 27, .int .i64 28, .int .i64 29, .int .i64 30, .int .i64 31, .int .i64 32, .int .i64 33, .int .i64 34, .int .i64 35, .int .i64 36] 3).alloc (.cells #[.int .u8 x] 5)).cell k
    rw [World.size_alloc] at h1
    rw [h1]
    have h2 : k = 0 ∨ k = 1 ∨ k = 2 ∨ k = 3 ∨ k = 4 ∨ k = 5 ∨ k = 6 ∨ k = 7 ∨ k = 8 ∨ k = 9 ∨ k = 10 ∨ k = 11 ∨ k = 12 ∨ k = 13 := by omega
    rcases h2 with rfl | rfl | rfl | rfl | rfl | rfl | rfl | rfl | rfl | rfl | rfl | rfl | rfl | rfl <;> rfl

theorem same_list {a b : ByteArray} (h : (a.toList == b.toList) = false) : a ≠ b := by
  intro e; subst e; simp at h

theorem sg_step (l : Nat) (s : ByteArray) (k : Nat) (hk : k < 14) (hl : l ≤ 9) :
    (sgB k = ⟨#[UInt8.ofNat (48 + l)]⟩ ++ s → Px.opIn (Px.opTab.drop k) l s.data.toList = (sgK k).toNat) ∧ (sgB k ≠ ⟨#[UInt8.ofNat (48 + l)]⟩ ++ s → Px.opIn (Px.opTab.drop k) l s.data.toList = Px.opIn (Px.opTab.drop (k + 1)) l s.data.toList) := by
  have hlt : k < Px.opTab.length := hk
  have e0 : Px.opTab.drop k = Px.opTab[k] :: Px.opTab.drop (k + 1) := List.drop_eq_getElem_cons hlt
  have e1 : sgB k = ⟨(UInt8.ofNat (48 + Px.opTab[k].1) :: Px.opTab[k].2.1).toArray⟩ := by unfold sgB; simp [hlt]
  have e2 : sgK k = Px.opTab[k].2.2 := by unfold sgK; simp [hlt]
  have h9 : ∀ x ∈ Px.opTab, x.1 ≤ 9 := by decide
  have hx := h9 _ (List.getElem_mem hlt)
  have e3 : (sgB k = ⟨#[UInt8.ofNat (48 + l)]⟩ ++ s) ↔ (Px.opTab[k].1 = l ∧ Px.opTab[k].2.1 = s.data.toList) := by
    rw [e1]
    generalize Px.opTab[k] = x at *
    constructor
    · intro h
      have h1 := congrArg (fun b : ByteArray => b.data.toList) h
      simp at h1
      obtain ⟨h1, h2⟩ := h1
      have h3 := congrArg UInt8.toNat h1
      simp at h3
      exact ⟨by omega, h2⟩
    · rintro ⟨h1, h2⟩
      apply ByteArray.ext
      apply Array.toList_inj.1
      simp [h1, h2]
  rw [e0, e2]
  constructor
  · intro h
    rw [Px.opIn, if_pos (e3.1 h)]; simp
  · intro h
    rw [Px.opIn, if_neg (fun h' => h (e3.2 h'))]

set_option maxRecDepth 100000 in
set_option maxHeartbeats 1000000 in
theorem r_sign_any (s : ByteArray) (l : Nat) (w : World) (hs : s.size ≤ 2000) (hl : l ≤ 9) :
    Calls Tryz.prog 119 #[.string s, .int .i64 (l : Int)] w fun x w' => x = .returned (.int .i64 (Px.opIn Px.opTab l s.data.toList : Int)) ∧ Below w.heap.size w w' := by
  go_enter Tryz.func119, Tryz.ntmps119
  go_wp2
  rw [conv_one _ _ (by simp)]
  obtain ⟨W, hW, hS, hK, hB, hz⟩ := sg_world w (48 + l)
  rw [← hW]
  have HS := hd hS
  have HK := hd hK
  have hu : UInt8.ofNat (48 + (l : Int)).toNat = UInt8.ofNat (48 + l) := by congr 1
  rw [hu]
  clear hW hS hK hu
  have HX : Hid (∀ k, k < 14 → (sgB k = ⟨#[UInt8.ofNat (48 + l)]⟩ ++ s → Px.opIn (Px.opTab.drop k) l s.data.toList = (sgK k).toNat) ∧ (sgB k ≠ ⟨#[UInt8.ofNat (48 + l)]⟩ ++ s → Px.opIn (Px.opTab.drop k) l s.data.toList = Px.opIn (Px.opTab.drop (k + 1)) l s.data.toList)) := fun k hk => sg_step l s k hk hl
  have HP : Hid (∀ k, k < 14 → ((sgK k).toNat : Int) = sgK k) := by
    intro k hk
    have h2 : k = 0 ∨ k = 1 ∨ k = 2 ∨ k = 3 ∨ k = 4 ∨ k = 5 ∨ k = 6 ∨ k = 7 ∨ k = 8 ∨ k = 9 ∨ k = 10 ∨ k = 11 ∨ k = 12 ∨ k = 13 := by omega
    rcases h2 with rfl | rfl | rfl | rfl | rfl | rfl | rfl | rfl | rfl | rfl | rfl | rfl | rfl | rfl <;> rfl
  have hzt : (⟨#[UInt8.ofNat (48 + l)]⟩ ++ s : ByteArray).size ≤ 2001 := by rw [ByteArray.size_append]; show 1 + s.size ≤ 2001; omega
  have hone : Hid (∀ b : ByteArray, (⟨#[UInt8.ofNat (48 + l)]⟩ : ByteArray) = b → b.size = 1) := by intro b hb; rw [← hb]; rfl
  generalize hb1 : (⟨#[UInt8.ofNat (48 + l)]⟩ : ByteArray) = b1 at *
  have hz1 := hone.out b1 rfl
  clear hb1 hone
  go_wp2
  generalize hst : b1 ++ s = t at *
  go_loop [8] (fun i => ∃ k : Nat, k ≤ 14 ∧ i = .int .i64 k ∧ Hid (Px.opIn Px.opTab l s.data.toList = Px.opIn (Px.opTab.drop k) l s.data.toList)) (fun i => 14 - (intOf i).toNat)
  case atStart => exact ⟨0, by omega, rfl, rfl⟩
  case round =>
    obtain ⟨k, hk, rfl, hinv⟩ := hrel
    by_cases hlt : k < 14
    · obtain ⟨x1, x2⟩ := HX.out k hlt
      have c1 := HS.out k hlt
      have c2 := HK.out k hlt
      by_cases he : sgB k = t
      · have hr : Hid (((Px.opIn Px.opTab l s.data.toList : Nat) : Int) = sgK k) := by
          show _ = _
          rw [hinv.out, x1 he]; exact HP.out k hlt
        rw [he] at c1
        clear x1 x2 he hinv
        go_wp2
        go_ret
        rw [hr.out]
        exact ⟨rfl, by go_grown⟩
      · have hr : Hid (Px.opIn Px.opTab l s.data.toList = Px.opIn (Px.opTab.drop (k + 1)) l s.data.toList) := hinv.out.trans (x2 he)
        have hn1 : ((sgB k).toList == t.toList) = false := by
          rw [beq_eq_false_iff_ne]
          intro h
          rw [Lib.toList_data, Lib.toList_data] at h
          exact he (ByteArray.ext (Array.toList_inj.1 h))
        clear x1 x2 hinv
        generalize sgB k = u at *
        go_wp2
        exact ⟨⟨k + 1, by omega, by simp, hr⟩, by simp [intOf]; omega⟩
    · have hk14 : k = 14 := by omega
      subst hk14
      have hr : Hid (Px.opIn Px.opTab l s.data.toList = 0) := hinv.out.trans (by rfl)
      clear hinv
      go_wp2
      go_ret
      rw [hr.out]
      exact ⟨rfl, by go_grown⟩

/-- The operator of a level that stands next. -/
def operX (l : Nat) : Except (Nat × Nat) (List Lx.Tok) → Nat
  | .ok q => Px.oper l q
  | .error _ => 0

theorem oper_at (l : Nat) (w : World) (B : Nat) (lv : Value) (ts : List Lx.Tok) (sz k e sp : Nat) (hl : l ≤ 9) (h : PS w B lv ts sz k e sp) (tk : Nat) (tt : Lx.Bs) (tp : Nat) (ht : hereT ts sz k = ⟨tk, tt, tp⟩) :
    Calls Tryz.prog 101 #[.pointer (some ⟨B, 0, none⟩), .int .i64 (l : Int)] w fun x w' => x = .returned (.int .i64 ((if e = 0 ∧ (tk = 50 ∨ tk = 51) then Px.opIn Px.opTab l tt else 0 : Nat) : Int)) ∧ Below w.heap.size w w' := by
  have hok := hereT_ok h
  rw [ht] at hok
  obtain ⟨hk1, hk2, hk3⟩ := hok
  simp only at hk1 hk2 hk3
  have HT := hd ht
  clear ht
  have hsz : (ByteArray.mk tt.toArray).size ≤ 2000 := by simpa [ByteArray.size] using hk3
  by_cases he : e = 0
  · subst he
    by_cases hc : tk = 50 ∨ tk = 51
    · rw [if_pos (show (0 : Nat) = 0 ∧ (tk = 50 ∨ tk = 51) from ⟨rfl, hc⟩)]
      rcases hc with rfl | rfl
      all_goals
        go_enter Tryz.func101, Tryz.ntmps101
        go_wp2_with fail
        refine (here_any w B lv ts sz k 0 sp h).mono ?_
        rintro x w1 ⟨rfl, hb⟩
        rw [HT.out]
        unfold tokA
        simp only
        have h1 := h.below hb
        have hs1 := hb.size
        have hB1 := h1.blk.lt
        obtain ⟨c0, c1, c2, c3, c4⟩ := h1.cells
        go_wp2_with fail
        refine (r_sign_any ⟨tt.toArray⟩ l _ hsz hl).mono ?_
        rintro x w2 ⟨rfl, hb2⟩
        go_wp2
        go_ret
        exact ⟨rfl, below_more (by go_grown) hb2 (by simp; omega)⟩
    · rw [if_neg (show ¬((0 : Nat) = 0 ∧ (tk = 50 ∨ tk = 51)) from fun h => hc h.2)]
      have hn1 : ((tk : Int) != 50) = true := by rw [bne_iff_ne]; omega
      have hn2 : ((tk : Int) != 51) = true := by rw [bne_iff_ne]; omega
      go_enter Tryz.func101, Tryz.ntmps101
      go_wp2_with fail
      refine (here_any w B lv ts sz k 0 sp h).mono ?_
      rintro x w1 ⟨rfl, hb⟩
      rw [HT.out]
      unfold tokA
      simp only
      have h1 := h.below hb
      have hs1 := hb.size
      have hB1 := h1.blk.lt
      obtain ⟨c0, c1, c2, c3, c4⟩ := h1.cells
      go_wp2
      go_ret
      exact ⟨rfl, by go_grown⟩
  · rw [if_neg (show ¬(e = 0 ∧ (tk = 50 ∨ tk = 51)) from fun h => he h.1)]
    have hn1 : ((e : Int) != 0) = true := by rw [bne_iff_ne]; omega
    go_enter Tryz.func101, Tryz.ntmps101
    go_wp2_with fail
    refine (here_any w B lv ts sz k e sp h).mono ?_
    rintro x w1 ⟨rfl, hb⟩
    rw [HT.out]
    unfold tokA
    simp only
    have h1 := h.below hb
    have hs1 := hb.size
    have hB1 := h1.blk.lt
    obtain ⟨c0, c1, c2, c3, c4⟩ := h1.cells
    go_wp2
    go_ret
    exact ⟨rfl, by go_grown⟩

theorem oper_any (l : Nat) (w : World) (B : Nat) (lv : Value) (ts : List Lx.Tok) (sz : Nat) (st : Except (Nat × Nat) (List Lx.Tok)) (b : Nat) (hl : l ≤ 9) (h : PX w B lv ts sz st b) :
    Calls Tryz.prog 101 #[.pointer (some ⟨B, 0, none⟩), .int .i64 (l : Int)] w fun x w' => x = .returned (.int .i64 (operX l st : Int)) ∧ Below w.heap.size w w' := by
  match st, h with
  | .ok q, ⟨k, h1, h2, h3⟩ =>
    rcases ht : hereT ts sz k with ⟨tk, tt, tp⟩
    refine (oper_at l w B lv ts sz k 0 0 hl h3 tk tt tp ht).mono ?_
    rintro x w' ⟨rfl, hb⟩
    refine ⟨?_, hb⟩
    have : (if (0 : Nat) = 0 ∧ (tk = 50 ∨ tk = 51) then Px.opIn Px.opTab l tt else 0) = operX l (.ok q) := by
      unfold operX
      rw [h2]
      by_cases hk : k < ts.length
      · have e1 : ts.drop k = ⟨tk, tt, tp⟩ :: ts.drop (k + 1) := by
          rw [List.drop_eq_getElem_cons hk, ← ht]; simp [hereT, hk]
        rw [e1]
        simp [Px.oper]
      · have e1 : ts.drop k = [] := List.drop_eq_nil_of_le (by omega)
        have e2 : (⟨tk, tt, tp⟩ : Lx.Tok) = ⟨0, [], sz⟩ := by rw [← ht]; simp [hereT, hk]
        cases e2
        rw [e1]
        simp [Px.oper]
    rw [this]
  | .error (p, c), ⟨h0, k, h1, h3⟩ =>
    rcases ht : hereT ts sz k with ⟨tk, tt, tp⟩
    refine (oper_at l w B lv ts sz k c p hl h3 tk tt tp ht).mono ?_
    rintro x w' ⟨rfl, hb⟩
    refine ⟨?_, hb⟩
    rw [if_neg (fun h => h0 h.1)]
    rfl
end Go.Proofs.YtcdgihdhpaipaaaGreatDoor

namespace Go.Proofs.YtcdgihdhpaipaaaGreatDoor
open Go.RowKit
set_option linter.unusedSimpArgs false
set_option linter.unusedVariables false

def NumOk (l : List Px.Nd) : Prop := ∀ x ∈ l, -9223372036854775808 ≤ x.num ∧ x.num ≤ 9223372036854775807
/-- What a reading of an expression leaves. -/
def ExPost (w : World) (B : Nat) (lv : Value) (ts : List Lx.Tok) (sz m : Nat) (q : List Lx.Tok) (b : Nat) (x : Ending) (w' : World) : Prop :=
  ∃ r v l, x = .returned v ∧ Px.Ex sz m [] q r ∧ NdIs w' w.heap.size v l ∧ (∀ a q', r = .ok (a, q') → l = a) ∧ (∀ e, r = .error e → l.length ≤ q.length) ∧ NumOk l ∧ PX w' B lv ts sz (stOf r) b ∧ w.grownBy w' (some B)

theorem NdIs.lower {w : World} {b0 b1 : Nat} {v : Value} {l : List Px.Nd} (h : NdIs w b0 v l) (hb : b1 ≤ b0) : NdIs w b1 v l := by
  rcases h with h | ⟨g, cap, h0, h1, h⟩
  · exact .inl h
  · exact .inr ⟨g, cap, h0, Nat.le_trans hb h1, h⟩

theorem ExPost.from {w w0 w' : World} {B : Nat} {lv : Value} {ts : List Lx.Tok} {sz m : Nat} {q : List Lx.Tok} {b : Nat} {x : Ending} (h : ExPost w B lv ts sz m q b x w') (hg : w0.grownBy w (some B)) : ExPost w0 B lv ts sz m q b x w' := by
  obtain ⟨r, v, l, h1, h2, h3, h4, h5, h8, h6, h7⟩ := h
  exact ⟨r, v, l, h1, h2, h3.lower hg.size, h4, h5, h8, h6, grown_trans hg h7⟩

theorem PX.lt {w : World} {B : Nat} {lv : Value} {ts : List Lx.Tok} {sz : Nat} {st : Except (Nat × Nat) (List Lx.Tok)} {b : Nat} (h : PX w B lv ts sz st b) : B < w.heap.size := by
  obtain ⟨k, e, sp, h⟩ := h.ps
  exact h.blk.lt

set_option maxRecDepth 100000 in
set_option maxHeartbeats 1000000 in
/-- A bracket. -/
theorem leaf_bra (w : World) (B : Nat) (lv : Value) (ts : List Lx.Tok) (sz : Nat) (q : List Lx.Tok) (b : Nat) (h : PX w B lv ts sz (.ok q) b) (hb : ts.length ≤ b) (hs : Px.sees Px.gOpen q = true)
    (IH : ∀ w1, PX w1 B lv ts sz (.ok q.tail) b → Calls Tryz.prog 72 #[.pointer (some ⟨B, 0, none⟩), .int .i64 1] w1 (ExPost w1 B lv ts sz 1 q.tail b)) :
    Calls Tryz.prog 100 #[.pointer (some ⟨B, 0, none⟩)] w (ExPost w B lv ts sz 9 q b) := by
  have HS := hd hs
  have IH' := hd IH
  have hB := h.lt
  clear hs IH
  go_enter Tryz.func100, Tryz.ntmps100
  go_wp2_with fail
  refine (hereX_any w B lv ts sz (.ok q) b h).mono ?_
  rintro x w1 ⟨⟨tk, tt, tp⟩, rfl, hp1, hp2, hq, hb1⟩
  unfold tokA
  simp only at hp1 hp2 ⊢
  have h1 := h.below hb1
  have hz1 := hb1.size
  go_wp2_with fail
  refine (takes_any _ _ B lv ts sz (.ok q) b (h1.below (by go_grown))).mono ?_
  rintro x w2 ⟨rfl, h2, hb2⟩
  have e1 : seesX (ByteArray.mk #[40]).data.toList (.ok q) = true := HS.out
  have e2 : takeX (ByteArray.mk #[40]).data.toList (.ok q) = .ok q.tail := if_pos HS.out
  rw [e2] at h2
  rw [e1]
  have hz2 := hb2.size
  go_wp2_with fail
  refine (IH'.out _ h2).mono ?_
  rintro x w3 ⟨r, v, l, rfl, hr, hl, hok, her, hnum, h3, hb3⟩
  have HN := hd hnum
  clear hnum
  have hz3 := hb3.size
  have hvs := hl.slice
  obtain ⟨ao, cap, rfl, _⟩ := hvs
  go_wp2_with fail
  refine (must_any ⟨#[41]⟩ w3.heap.size _ B lv ts sz (stOf r) b (h3.below (by go_grown)) hb ((Blk.new w3 _ _).cell 0)).mono ?_
  rintro x w4 ⟨rfl, h4, hb4⟩
  have hz4 := hb4.size
  go_wp2
  go_ret
  have hB1 := h1.lt
  have G3 : w.grownBy w4 (some B) := grown_trans (Below.grownBy hb1) (grown_trans (Below.grownBy (by go_grown)) (grown_trans hb2 (grown_trans hb3 (grown_trans (Below.grownBy (by go_grown)) hb4))))
  have hl4 : NdIs w4 w.heap.size (.slice ao l.length cap) l := ((hl.below (by go_grown)).keep hb4 (by first | omega | (simp at *; omega))).lower (by first | omega | (simp at *; omega))
  have hsq := Px.sees_len HS.out
  match r, hr, hok, her, h4 with
  | .error e, hr, hok, her, h4 =>
    refine ⟨.error e, _, l, rfl, Px.Ex.bra HS.out hr rfl, hl4, fun _ _ e => (by cases e), fun e' _ => Nat.le_trans (her e rfl) (by omega), HN.out, h4, G3⟩
  | .ok (a, q1), hr, hok, her, h4 =>
    refine ⟨if Px.sees Px.gShut q1 = true then .ok (a, q1.tail) else .error (Px.plc sz q1, 4), _, l, rfl, Px.Ex.bra HS.out hr rfl, hl4, ?_, ?_, HN.out, ?_, G3⟩
    · intro a' q' e
      split at e
      · cases e; exact hok a q1 rfl
      · cases e
    · intro e he
      obtain ⟨n, hn⟩ := hr
      have := ((Px.ex_len n 1 [] q.tail a q1 hn).1 (by omega)).2
      rw [hok a q1 rfl]
      omega
    · have e3 : mustX sz (ByteArray.mk #[41]).data.toList (stOf (.ok (a, q1))) = stOf (if Px.sees Px.gShut q1 = true then .ok (a, q1.tail) else .error (Px.plc sz q1, 4)) := by
        show (if Px.sees Px.gShut q1 = true then _ else _) = _
        split <;> rfl
      rw [← e3]; exact h4
end Go.Proofs.YtcdgihdhpaipaaaGreatDoor

namespace Go.Proofs.YtcdgihdhpaipaaaGreatDoor
open Go.RowKit
set_option linter.unusedSimpArgs false
set_option linter.unusedVariables false

/-- What a leaf leaves: the error and its place, how far it goes, the nodes. -/
def leafE (tk : Nat) (tt : Lx.Bs) (tp : Nat) : (Nat × Nat) × Nat × List Px.Nd :=
  if tk = 16 then if tt = Lx.top then ((3, tp), 0, []) else ((0, 0), 1, Px.leaf 16 [] (Px.dval tt))
  else if tk = 17 then ((0, 0), 1, Px.leaf 17 tt 0)
  else if tk = 18 then if 30 < tt.length then ((5, tp), 1, Px.leaf 18 tt 0) else ((0, 0), 1, Px.leaf 18 tt 0)
  else if tk = 50 then if tt = Px.kNULL then ((0, 0), 1, Px.leaf 14 [] 0) else if tt = Px.kTRUE then ((0, 0), 1, Px.leaf 15 [] 1) else if tt = Px.kFALSE then ((0, 0), 1, Px.leaf 15 [] 0) else ((4, tp), 1, [])
  else ((4, tp), 0, [])
def LeafPost (w : World) (B : Nat) (lv : Value) (ts : List Lx.Tok) (sz k : Nat) (o : (Nat × Nat) × Nat × List Px.Nd) (x : Ending) (w' : World) : Prop :=
  ∃ v, x = .returned v ∧ NdIs w' w.heap.size v o.2.2 ∧ PS w' B lv ts sz (k + o.2.1) o.1.1 o.1.2 ∧ w.grownBy w' (some B)

theorem str_ne {a b : Lx.Bs} (h : a ≠ b) : ((ByteArray.mk a.toArray).toList == (ByteArray.mk b.toArray).toList) = false := by
  rw [beq_eq_false_iff_ne]
  intro e
  rw [Lib.toList_data, Lib.toList_data] at e
  exact h (by simpa using e)

set_option maxRecDepth 100000 in
set_option maxHeartbeats 2000000 in
/-- No bracket: by the token's parts. -/
theorem leaf_at (w : World) (B : Nat) (lv : Value) (ts : List Lx.Tok) (sz k : Nat) (h : PS w B lv ts sz k 0 0) (hk : k ≤ ts.length) (b : Nat) (hb : ts.length ≤ b) (hs : Px.sees Px.gOpen (ts.drop k) = false)
    (tk : Nat) (tt : Lx.Bs) (tp : Nat) (ht : hereT ts sz k = ⟨tk, tt, tp⟩) (hdg : tk = 16 → tt ≠ Lx.top → (∀ c ∈ tt, Lx.isDig c = true) ∧ Px.dval tt ≤ 9223372036854775807)
    (o : (Nat × Nat) × Nat × List Px.Nd) (ho : o = leafE tk tt tp) :
    Calls Tryz.prog 100 #[.pointer (some ⟨B, 0, none⟩)] w (LeafPost w B lv ts sz k o) := by
  have hok := hereT_ok h
  rw [ht] at hok
  obtain ⟨hk1, hk2, hk3⟩ := hok
  simp only at hk1 hk2 hk3
  have HO := hd ho
  have HT := hd ht
  have HS := hd hs
  have HD := hd hdg
  have hB := h.blk.lt
  have hlen := h.len
  have hsz : (ByteArray.mk tt.toArray).size = tt.length := by simp [ByteArray.size]
  clear ht hs ho hdg
  go_enter Tryz.func100, Tryz.ntmps100
  go_wp2_with fail
  refine (here_any w B lv ts sz k 0 0 h).mono ?_
  rintro x w1 ⟨rfl, hb1⟩
  rw [HT.out]
  unfold tokA
  simp only
  have h1 := h.below hb1
  have hz1 := hb1.size
  have hB1 := h1.blk.lt
  go_wp2_with fail
  refine (takes_any _ _ B lv ts sz (.ok (ts.drop k)) b ⟨k, hk, rfl, h1.below (by go_grown)⟩).mono ?_
  rintro x w2 ⟨rfl, h2, hb2⟩
  have e1 : seesX (ByteArray.mk #[40]).data.toList (.ok (ts.drop k)) = false := HS.out
  have e2 : takeX (ByteArray.mk #[40]).data.toList (.ok (ts.drop k)) = .ok (ts.drop k) := by rw [take_same e1]
  rw [e2] at h2
  rw [e1]
  obtain ⟨k', hk', hd', h2⟩ := h2
  have hz2 := hb2.size
  have kk : k' = k := by
    have := congrArg List.length hd'
    simp at this
    omega
  subst kk
  have G2 : w.grownBy w2 (some B) := grown_trans (Below.grownBy hb1) (grown_trans (Below.grownBy (by go_grown)) hb2)
  have hG2 := G2.size
  have QQ : Hid (∀ j, w2.cell? ⟨w1.heap.size, j, none⟩ = #[.int .i64 (tk : Int), .string ⟨tt.toArray⟩, .int .i64 (tp : Int)][j]?) := by
    intro j
    rw [World.cell?_of_block (hb2.block w1.heap.size (by simp) (by simp; omega))]
    exact (Blk.new w1 _ _).cell j
  have q0 : w2.cell? ⟨w1.heap.size, 0, none⟩ = some (.int .i64 (tk : Int)) := QQ.out 0
  have q1 : w2.cell? ⟨w1.heap.size, 1, none⟩ = some (.string ⟨tt.toArray⟩) := QQ.out 1
  have q2 : w2.cell? ⟨w1.heap.size, 2, none⟩ = some (.int .i64 (tp : Int)) := QQ.out 2
  have hT2 : w1.heap.size < w2.heap.size := by simp at hz2; omega
  obtain ⟨c0, c1, c2, c3, c4⟩ := h2.cells
  have f1 := h2.blk.free 1
  clear QQ e1 e2 hd' hk' hb1 hb2 h1 h
  by_cases c16 : tk = 16
  · subst c16
    by_cases ctop : tt = Lx.top
    · subst ctop
      go_wp2_with fail
      refine (stop_ps w2 B lv ts sz k' 0 h2 3 tp (by omega) hk2).mono ?_
      rintro x w3 ⟨rfl, h3, hb3⟩
      go_wp2
      go_ret
      have e : o = ((3, tp), 0, []) := HO.out.trans (by simp [leafE])
      rw [e]
      exact ⟨_, rfl, NdIs.nil _ _, h3, grown_trans G2 hb3⟩
    · have hne : (tt == [57, 50, 50, 51, 51, 55, 50, 48, 51, 54, 56, 53, 52, 55, 55, 53, 56, 48, 56]) = false := beq_eq_false_iff_ne.2 ctop
      obtain ⟨hd1, hd2⟩ := HD.out rfl ctop
      have e : Hid (o = ((0, 0), 1, Px.leaf 16 [] (Px.dval tt))) := HO.out.trans (by simp [leafE, ctop])
      have HDD := hd hd1
      have HD2 := hd hd2
      clear hd1 hd2 HD HO ctop
      go_wp2_with fail
      refine (r_Digits_any ⟨tt.toArray⟩ _ HDD.out HD2.out (by omega)).mono ?_
      rintro x w3 ⟨rfl, rfl⟩
      go_wp2_with fail
      refine (leafN_any 16 _ ⟨#[]⟩ _).mono ?_
      rintro x w3 ⟨v, rfl, hv, hb3⟩
      obtain ⟨ao, cap, rfl, _⟩ := hv.slice
      go_wp2
      go_ret
      rw [e.out]
      exact ⟨_, rfl, hv.lower (by first | omega | (simp; omega)), (h2.step (by omega)).below hb3, grown_trans G2 (grown_trans (psAt_grown _) (Below.grownBy hb3))⟩
  · by_cases c17 : tk = 17
    · subst c17
      have e : Hid (o = ((0, 0), 1, Px.leaf 17 tt 0)) := HO.out.trans (by simp [leafE])
      clear HD HO
      go_wp2_with fail
      refine (leafN_any 17 _ ⟨tt.toArray⟩ _).mono ?_
      rintro x w3 ⟨v, rfl, hv, hb3⟩
      obtain ⟨ao, cap, rfl, _⟩ := hv.slice
      go_wp2
      go_ret
      rw [e.out]
      exact ⟨_, rfl, hv.lower (by first | omega | (simp; omega)), (h2.step (by omega)).below hb3, grown_trans G2 (grown_trans (psAt_grown _) (Below.grownBy hb3))⟩
    · by_cases c18 : tk = 18
      · subst c18
        go_wp2_with fail
        refine (name_on w2 B lv ts sz k' h2 (by omega) 18 tt tp HT.out).mono ?_
        rintro x w3 ⟨rfl, h3, hb3⟩
        have hz3 := hb3.size
        go_wp2_with fail
        refine (leafN_any 18 _ ⟨tt.toArray⟩ _).mono ?_
        rintro x w4 ⟨v, rfl, hv, hb4⟩
        obtain ⟨ao, cap, rfl, _⟩ := hv.slice
        go_wp2
        go_ret
        by_cases hl : 30 < tt.length
        · have e : o = ((5, tp), 1, Px.leaf 18 tt 0) := HO.out.trans (by simp [leafE, hl])
          have e3 : nameE 18 tt tp = (5, tp) := by simp [nameE, hl]
          rw [e3] at h3
          rw [e]
          exact ⟨_, rfl, hv.lower (by first | omega | (simp; omega)), h3.below hb4, grown_trans G2 (grown_trans hb3 (Below.grownBy hb4))⟩
        · have e : o = ((0, 0), 1, Px.leaf 18 tt 0) := HO.out.trans (by simp [leafE, hl])
          have e3 : nameE 18 tt tp = (0, 0) := by simp [nameE, hl]
          rw [e3] at h3
          rw [e]
          exact ⟨_, rfl, hv.lower (by first | omega | (simp; omega)), h3.below hb4, grown_trans G2 (grown_trans hb3 (Below.grownBy hb4))⟩
      · by_cases c50 : tk = 50
        · subst c50
          by_cases t1 : tt = Px.kNULL
          · subst t1
            have e : Hid (o = ((0, 0), 1, Px.leaf 14 [] 0)) := HO.out.trans (by simp [leafE])
            go_wp2_with fail
            refine (leafN_any 14 _ ⟨#[]⟩ _).mono ?_
            rintro x w3 ⟨v, rfl, hv, hb3⟩
            obtain ⟨ao, cap, rfl, _⟩ := hv.slice
            go_wp2
            go_ret
            rw [e.out]
            exact ⟨_, rfl, hv.lower (by first | omega | (simp; omega)), (h2.step (by omega)).below hb3, grown_trans G2 (grown_trans (psAt_grown _) (Below.grownBy hb3))⟩
          · by_cases t2 : tt = Px.kTRUE
            · subst t2
              have e : Hid (o = ((0, 0), 1, Px.leaf 15 [] 1)) := HO.out.trans (by rfl)
              go_wp2_with fail
              refine (leafN_any 15 _ ⟨#[]⟩ _).mono ?_
              rintro x w3 ⟨v, rfl, hv, hb3⟩
              obtain ⟨ao, cap, rfl, _⟩ := hv.slice
              go_wp2
              go_ret
              rw [e.out]
              exact ⟨_, rfl, hv.lower (by first | omega | (simp; omega)), (h2.step (by omega)).below hb3, grown_trans G2 (grown_trans (psAt_grown _) (Below.grownBy hb3))⟩
            · by_cases t3 : tt = Px.kFALSE
              · subst t3
                have e : Hid (o = ((0, 0), 1, Px.leaf 15 [] 0)) := HO.out.trans (by rfl)
                go_wp2_with fail
                refine (leafN_any 15 _ ⟨#[]⟩ _).mono ?_
                rintro x w3 ⟨v, rfl, hv, hb3⟩
                obtain ⟨ao, cap, rfl, _⟩ := hv.slice
                go_wp2
                go_ret
                rw [e.out]
                exact ⟨_, rfl, hv.lower (by first | omega | (simp; omega)), (h2.step (by omega)).below hb3, grown_trans G2 (grown_trans (psAt_grown _) (Below.grownBy hb3))⟩
              · have e : Hid (o = ((4, tp), 1, [])) := HO.out.trans (by simp [leafE, t1, t2, t3])
                have n1 : (tt == [78, 85, 76, 76]) = false := beq_eq_false_iff_ne.2 t1
                have n2 : (tt == [84, 82, 85, 69]) = false := beq_eq_false_iff_ne.2 t2
                have n3 : (tt == [70, 65, 76, 83, 69]) = false := beq_eq_false_iff_ne.2 t3
                have h2' := h2.step (by omega)
                clear t1 t2 t3
                go_wp2_with fail
                refine (stop_ps _ B lv ts sz (k' + 1) 0 h2' 4 tp (by omega) hk2).mono ?_
                rintro x w3 ⟨rfl, h3, hb3⟩
                go_wp2
                go_ret
                rw [e.out]
                exact ⟨_, rfl, NdIs.nil _ _, h3, grown_trans G2 (grown_trans (psAt_grown _) hb3)⟩
        · have e : Hid (o = ((4, tp), 0, [])) := HO.out.trans (by simp [leafE, c16, c17, c18, c50])
          have n1 : ((16 : Int) == (tk : Int)) = false := by rw [beq_eq_false_iff_ne]; omega
          have n2 : ((17 : Int) == (tk : Int)) = false := by rw [beq_eq_false_iff_ne]; omega
          have n3 : ((18 : Int) == (tk : Int)) = false := by rw [beq_eq_false_iff_ne]; omega
          have n4 : ((50 : Int) == (tk : Int)) = false := by rw [beq_eq_false_iff_ne]; omega
          have m1 : ((tk : Int) == 16) = false := by rw [beq_eq_false_iff_ne]; omega
          have m2 : ((tk : Int) == 17) = false := by rw [beq_eq_false_iff_ne]; omega
          have m3 : ((tk : Int) == 18) = false := by rw [beq_eq_false_iff_ne]; omega
          have m4 : ((tk : Int) == 50) = false := by rw [beq_eq_false_iff_ne]; omega
          go_wp2_with fail
          refine (stop_ps w2 B lv ts sz k' 0 h2 4 tp (by omega) hk2).mono ?_
          rintro x w3 ⟨rfl, h3, hb3⟩
          go_wp2
          go_ret
          rw [e.out]
          exact ⟨_, rfl, NdIs.nil _ _, h3, grown_trans G2 hb3⟩

theorem atom_leaf (sz : Nat) (t : Lx.Tok) (r : List Lx.Tok) (hk : t.kind = 16 ∨ t.kind = 17 ∨ t.kind = 18 ∨ t.kind = 50 ∨ t.kind = 51) :
    Px.atom sz (t :: r) = some (if (leafE t.kind t.text t.pos).1.1 = 0 then .ok ((leafE t.kind t.text t.pos).2.2, r) else .error ((leafE t.kind t.text t.pos).1.2, (leafE t.kind t.text t.pos).1.1)) := by
  obtain ⟨tk, tt, tp⟩ := t
  simp only at hk ⊢
  unfold Px.atom leafE
  simp only
  rcases hk with rfl | rfl | rfl | rfl | rfl
  · by_cases h : tt = Lx.top
    · simp [h]
    · simp [h]
  · simp
  · by_cases h : 30 < tt.length
    · simp [h]
    · simp [h]
  · by_cases h1 : tt = Px.kNULL
    · simp [h1]
    · by_cases h2 : tt = Px.kTRUE
      · simp [h2]; rfl
      · by_cases h3 : tt = Px.kFALSE
        · simp [h3]; rfl
        · simp [h1, h2, h3]
  · simp
theorem leafE_facts (tk : Nat) (tt : Lx.Bs) (tp : Nat) : (leafE tk tt tp).2.2.length ≤ 1 ∧ (leafE tk tt tp).2.1 ≤ 1 ∧ ((leafE tk tt tp).1.1 = 0 → (leafE tk tt tp).2.1 = 1 ∧ (leafE tk tt tp).1.2 = 0) := by
  unfold leafE
  repeat' split
  all_goals simp [Px.leaf]

theorem leafE_num (tk : Nat) (tt : Lx.Bs) (tp : Nat) (h : tk = 16 → tt ≠ Lx.top → Px.dval tt ≤ 9223372036854775807) : NumOk (leafE tk tt tp).2.2 := by
  unfold leafE NumOk
  by_cases h1 : tk = 16
  · by_cases h2 : tt = Lx.top
    · simp [h1, h2]
    · have := h h1 h2
      simp [h1, h2, Px.leaf]
      omega
  · rw [if_neg h1]
    repeat' split
    all_goals simp [Px.leaf]

/-- A LEAF, of an open reading. -/
theorem leaf_any (w : World) (B : Nat) (lv : Value) (ts : List Lx.Tok) (sz : Nat) (q : List Lx.Tok) (b : Nat) (h : PX w B lv ts sz (.ok q) b) (hb : ts.length ≤ b)
    (IH : Px.sees Px.gOpen q = true → ∀ w1, PX w1 B lv ts sz (.ok q.tail) b → Calls Tryz.prog 72 #[.pointer (some ⟨B, 0, none⟩), .int .i64 1] w1 (ExPost w1 B lv ts sz 1 q.tail b)) :
    Calls Tryz.prog 100 #[.pointer (some ⟨B, 0, none⟩)] w (ExPost w B lv ts sz 9 q b) := by
  cases hs : Px.sees Px.gOpen q with
  | true => exact leaf_bra w B lv ts sz q b h hb hs (IH hs)
  | false =>
    obtain ⟨k, hk, hq, hp⟩ := h
    subst hq
    rcases ht : hereT ts sz k with ⟨tk, tt, tp⟩
    have hdg : tk = 16 → tt ≠ Lx.top → (∀ c ∈ tt, Lx.isDig c = true) ∧ Px.dval tt ≤ 9223372036854775807 := by
      intro h16 hne
      by_cases hlt : k < ts.length
      · have e1 : ts[k] = ⟨tk, tt, tp⟩ := by rw [← ht]; simp [hereT, hlt]
        have e2 := (hp.toks _ (List.getElem_mem hlt)).1
        rw [e1] at e2
        obtain ⟨_, d1, d2⟩ := e2.digs h16
        have hlt2 : Px.dval tt < 9223372036854775808 := Px.dval_lt d1 d2 hne
        exact ⟨d1, by omega⟩
      · have e2 : (⟨tk, tt, tp⟩ : Lx.Tok) = ⟨0, [], sz⟩ := by rw [← ht]; simp [hereT, hlt]
        cases e2
        cases h16
    refine (leaf_at w B lv ts sz k hp hk b hb hs tk tt tp ht hdg _ rfl).mono ?_
    rintro x w' ⟨v, rfl, hv, hp', hg⟩
    obtain ⟨f1, f2, f3⟩ := leafE_facts tk tt tp
    by_cases hlt : k < ts.length
    · have e1 : ts[k] = ⟨tk, tt, tp⟩ := by rw [← ht]; simp [hereT, hlt]
      have e0 : ts.drop k = ⟨tk, tt, tp⟩ :: ts.drop (k + 1) := by rw [List.drop_eq_getElem_cons hlt, e1]
      have ek := ((hp.toks _ (List.getElem_mem hlt)).1).kind
      rw [e1] at ek
      have ea := atom_leaf sz ⟨tk, tt, tp⟩ (ts.drop (k + 1)) ek
      simp only at ea
      rw [← e0] at ea
      refine ⟨_, v, _, rfl, Px.Ex.atom hs ea, hv, ?_, ?_, leafE_num tk tt tp (fun a b => (hdg a b).2), ?_, hg⟩
      · intro a q' e
        split at e
        · cases e; rfl
        · cases e
      · intro e he
        rw [e0]; simp; omega
      · by_cases hz : (leafE tk tt tp).1.1 = 0
        · rw [if_pos hz]
          obtain ⟨g1, g2⟩ := f3 hz
          rw [hz, g1, g2] at hp'
          exact ⟨k + 1, by omega, rfl, hp'⟩
        · rw [if_neg hz]
          exact ⟨hz, _, by omega, hp'⟩
    · have e2 : (⟨tk, tt, tp⟩ : Lx.Tok) = ⟨0, [], sz⟩ := by rw [← ht]; simp [hereT, hlt]
      cases e2
      have e0 : ts.drop k = [] := List.drop_eq_nil_of_le (by omega)
      have el : leafE 0 [] sz = ((4, sz), 0, []) := rfl
      rw [el] at hp' hv
      refine ⟨.error (sz, 4), v, [], rfl, Px.Ex.atom hs (by rw [e0]; rfl), hv, fun _ _ e => (by cases e), fun _ _ => Nat.zero_le _, fun x hx => by simp at hx, ⟨by decide, k, by omega, hp'⟩, hg⟩
end Go.Proofs.YtcdgihdhpaipaaaGreatDoor

