/- Parts of the proof: MawA MawB MawC MawD MawE MawF VarA VarP -/
import Derived.Test.YtcdgihdhpaipaaaGreatDoorX3
import Derived.ArgAppend
import Derived.Deep.Draws
import Derived.BigQuiet
import Derived.Deep.QuietTactic
import Derived.WalkLawsBesides
import Derived.Deep.RegionHeld3
import Derived.Test.YtcdgihdhpaipaaaGreatDoorX6
import Derived.Test.YtcdgihdhpaipaaaGreatDoorX11
import Derived.Test.YtcdgihdhpaipaaaGreatDoorX7
import Derived.Test.YtcdgihdhpaipaaaGreatDoorRows
import Derived.Lib.LaidU8T
import Derived.PinnedBridge
import Derived.Deep.Strs
namespace Go.Proofs.YtcdgihdhpaipaaaGreatDoor
open Go.RowKit
namespace Nl
set_option linter.unusedSimpArgs false
set_option linter.unusedVariables false

/-- The mark's cells, over and over. -/
def mcell (m : Int) (j : Nat) : Value := if j % 4 = 1 then .string ⟨#[]⟩ else if j % 4 = 3 then .int .i64 0 else .int .i64 m

theorem Blk4 {w : World} {b : Nat} {x y z u : Value} {t : TypeId} (h : Blk w b #[x, y, z, u] t) : (w.cell? ⟨b, 0, none⟩ = some x ∧ w.cell? ⟨b, 1, none⟩ = some y ∧ w.cell? ⟨b, 2, none⟩ = some z ∧ w.cell? ⟨b, 3, none⟩ = some u) ∧ True :=
  ⟨⟨h.cell 0, h.cell 1, h.cell 2, h.cell 3⟩, trivial⟩
theorem mcell_at (m : Int) (k : Nat) : mcell m (k * 4) = .int .i64 m ∧ mcell m (k * 4 + 1) = .string ⟨#[]⟩ ∧ mcell m (k * 4 + 2) = .int .i64 m ∧ mcell m (k * 4 + 3) = .int .i64 0 := by
  unfold mcell
  refine ⟨?_, ?_, ?_, ?_⟩
  · rw [if_neg (by omega), if_neg (by omega)]
  · rw [if_pos (by omega)]
  · rw [if_neg (by omega), if_neg (by omega)]
  · rw [if_neg (by omega), if_pos (by omega)]

/-- A list of n nodes, all of them the mark m. -/
def FullV (w : World) (v : Value) (n : Nat) (m : Int) : Prop :=
  (v = .slice none 0 0 ∧ n = 0) ∨ ∃ g cap cur, v = .slice (some ⟨g, 0, none⟩) n cap ∧ w.heap[g]? = some (.cells cur 46 (0, 0)) ∧ n ≤ cap ∧ cap ≤ maxLen ∧ cur.size = cap * 4 ∧ ∀ j, j < n * 4 → cur[j]? = some (mcell m j)

def marks (m : Int) : Nat → List Value
  | 0 => []
  | k + 1 => [.int .i64 m, .string ⟨#[]⟩, .int .i64 m, .int .i64 0] ++ marks m k
theorem marks_length (m : Int) : ∀ k, (marks m k).length = k * 4
  | 0 => rfl
  | k + 1 => by simp [marks, marks_length m k]; omega
theorem marks_at (m : Int) : ∀ k j, j < k * 4 → (marks m k)[j]? = some (mcell m j)
  | 0, j, h => by omega
  | k + 1, j, h => by
    unfold marks
    by_cases h3 : j < 4
    · have : j = 0 ∨ j = 1 ∨ j = 2 ∨ j = 3 := by omega
      rcases this with rfl | rfl | rfl | rfl <;> rfl
    · obtain ⟨i, rfl⟩ : ∃ i, j = i + 4 := ⟨j - 4, by omega⟩
      rw [List.getElem?_append_right (by simp)]
      simp only [List.length_cons, List.length_nil, Nat.add_sub_cancel]
      rw [marks_at m k i (by omega)]
      unfold mcell
      rw [Nat.add_mod_right]
theorem marks_one (m : Int) (k : Nat) : ∀ u ∈ marks m k, u.oneCell' = true := by
  intro u hu
  induction k with
  | zero => simp [marks] at hu
  | succ k ih =>
    simp only [marks, List.mem_append, List.mem_cons, List.not_mem_nil, or_false] at hu
    rcases hu with (rfl | rfl | rfl | rfl) | h
    · rfl
    · rfl
    · rfl
    · rfl
    · exact ih h

theorem mcell_shift (m : Int) (n j : Nat) : mcell m (n * 4 + j) = mcell m j := by
  unfold mcell; rw [Nat.add_comm, Nat.add_mul_mod_self_right]

theorem FullV.of_own {w : World} {base n : Nat} {v : Value} {m : Int} {xs : List Value} (h : w.ownsRow base 46 4 v n xs) (hx : ∀ j, j < n * 4 → xs[j]? = some (mcell m j)) : FullV w v n m := by
  rcases h.2 with hn | ⟨g, cap, cur, rfl, hb, hg, h1, h2, h3, h4⟩
  · exact .inl hn
  · refine .inr ⟨g, cap, cur, rfl, hg, h1, h2, h3, fun j hj => ?_⟩
    have := hx j hj
    rw [← h4, List.getElem?_take_of_lt hj] at this
    simpa using this

/-- Whatever leaves the list's block as it was leaves it full. -/
theorem FullV.keep {w w' : World} {v : Value} {n : Nat} {m : Int} (h : FullV w v n m) (hk : ∀ g, v.ownBlock = some g → w'.heap[g]? = w.heap[g]?) : FullV w' v n m := by
  rcases h with h | ⟨g, cap, cur, rfl, hg, r⟩
  · exact .inl h
  · exact .inr ⟨g, cap, cur, rfl, by rw [hk g rfl]; exact hg, r⟩
theorem FullV.lt {w : World} {v : Value} {n : Nat} {m : Int} (h : FullV w v n m) : ∀ g, v.ownBlock = some g → g < w.heap.size ∧ ∃ cur, w.heap[g]? = some (.cells cur 46 (0, 0)) := by
  intro g hg
  rcases h with ⟨rfl, _⟩ | ⟨g', cap, cur, rfl, hh, _⟩
  · simp [Value.ownBlock] at hg
  · simp [Value.ownBlock] at hg
    subst hg
    exact ⟨(Array.getElem?_eq_some_iff.1 hh).1, cur, hh⟩

/-- APPEND TO A LIST THAT IS FULL OF THE MARK, OF MORE OF THE MARK: what comes is full, and every list that was full of this mark is full still; blocks other than the list's own are as they were. -/
theorem run_append_mark (w : World) (ty : TypeId) (m : Int) (v : Value) (n k : Nat) (hv : FullV w v n m) (a : Addr) (c : Nat) (hnews : ∀ j u, (marks m k)[j]? = some u → w.cell? (a.add j) = some u) (hn : n + k ≤ 1000000) :
    ∃ v' w', (Builtin.append_ #[33, 33] ty #[v, .slice (some a) k c]).run Tryz.prog w = .ok v' w' ∧ FullV w' v' (n + k) m ∧ w.grownBy w' v.ownBlock ∧ (∀ u q, FullV w u q m → FullV w' u q m) ∧ (v'.ownBlock = v.ownBlock ∨ ∀ g, v'.ownBlock = some g → w.heap.size ≤ g) := by
  obtain ⟨i0, hi, hz0, hz1, hz2⟩ := info_parts Tryz.info46
  have h63 : n + k ≤ maxLen := by unfold maxLen; omega
  rcases hv with ⟨rfl, rfl⟩ | ⟨g, cap, cur, rfl, hg, h1, h2, h3, h4⟩
  · obtain ⟨v', w', hr, ho, hgr, -⟩ := run_append_own (P := Tryz.prog) w w.heap.size 33 ty 46 i0 _ 4 40 Tryz.underlying33 hi hz0 hz1 hz2 rfl (by decide) (.slice none 0 0) 0 [] (World.ownsRow_nil _ _ _ _) a k c (marks m k) (marks_length m k) hnews (marks_one m k) h63 (by omega) (Nat.le_refl _)
    refine ⟨v', w', hr, FullV.of_own ho (fun j hj => ?_), hgr, fun u q hu => hu.keep (fun g hg => ?_), .inr (fun g hg => (ho.lt g hg).1)⟩
    · rw [List.nil_append]; exact marks_at m k j (by omega)
    · exact hgr.block g (hu.lt g hg).1 (by simp [Value.ownBlock])
  · have hold : ∀ j u, (cur.toList.take (n * 4))[j]? = some u → w.cell? ((⟨g, 0, none⟩ : Addr).add j) = some u := by
      intro j u hu
      rw [Addr.add_lit, Nat.zero_add, cell_of_row w g j cur _ _ hg]
      rw [List.getElem?_take] at hu
      split at hu
      · simpa using hu
      · cases hu
    have hlo : (cur.toList.take (n * 4)).length = n * 4 := by simp; omega
    have hat : ∀ j, j < n * 4 → (cur.toList.take (n * 4))[j]? = some (mcell m j) := by
      intro j hj
      rw [List.getElem?_take_of_lt hj]; simpa using h4 j hj
    by_cases hroom : n + k ≤ cap
    · have hr := run_append_room (P := Tryz.prog) w 33 ty 46 i0 Tryz.underlying33 hi g n cap cur hg a k c (marks m k) (by rw [hz1]; exact marks_length m k) hnews (marks_one m k) hroom (by rw [hz1, marks_length]; omega)
      rw [hz1, marks_length] at hr
      have hnew : (w.setRow g (cur.toList.take (n * 4) ++ marks m k ++ cur.toList.drop (n * 4 + k * 4)).toArray).heap[g]? = some (.cells (cur.toList.take (n * 4) ++ marks m k ++ cur.toList.drop (n * 4 + k * 4)).toArray 46 (0, 0)) := setRow_heap w g cur _ _ _ hg
      have hsz : (cur.toList.take (n * 4) ++ marks m k ++ cur.toList.drop (n * 4 + k * 4)).toArray.size = cap * 4 := by
        simp [hlo, marks_length]; omega
      have hcell : ∀ j, j < (n + k) * 4 → (cur.toList.take (n * 4) ++ marks m k ++ cur.toList.drop (n * 4 + k * 4)).toArray[j]? = some (mcell m j) := by
        intro j hj
        rw [List.getElem?_toArray, List.getElem?_append_left (by simp [hlo, marks_length]; omega)]
        by_cases hjn : j < n * 4
        · rw [List.getElem?_append_left (by rw [hlo]; exact hjn)]; exact hat j hjn
        · obtain ⟨i, rfl⟩ : ∃ i, j = n * 4 + i := ⟨j - n * 4, by omega⟩
          rw [List.getElem?_append_right (by rw [hlo]; omega), hlo, Nat.add_sub_cancel_left, mcell_shift]
          exact marks_at m k i (by omega)
      have hback : ∀ j, (n + k) * 4 ≤ j → (cur.toList.take (n * 4) ++ marks m k ++ cur.toList.drop (n * 4 + k * 4)).toArray[j]? = cur[j]? := by
        intro j hj
        rw [List.getElem?_toArray, List.getElem?_append_right (by simp [hlo, marks_length]; omega), List.getElem?_drop]
        have : n * 4 + k * 4 + (j - (List.take (n * 4) cur.toList ++ marks m k).length) = j := by
          rw [List.length_append, hlo, marks_length]; omega
        rw [this]; simp
      refine ⟨_, _, hr, .inr ⟨g, cap, _, rfl, hnew, hroom, h2, hsz, hcell⟩, ⟨rfl, rfl, rfl, by simp, fun b hb hne => setRow_other w g b _ (by simpa [Value.ownBlock] using hne)⟩, fun u q hu => ?_, .inl rfl⟩
      rcases hu with hu | ⟨g', cap', cur', rfl, hg', h1', h2', h3', h4'⟩
      · exact .inl hu
      · by_cases hgg : g' = g
        · subst hgg
          rw [hg] at hg'
          simp only [Option.some.injEq, Obj.cells.injEq, true_and, and_true] at hg'
          subst hg'
          refine .inr ⟨g', cap', _, rfl, hnew, h1', h2', by rw [hsz]; omega, fun j hj => ?_⟩
          by_cases hjn : j < (n + k) * 4
          · exact hcell j hjn
          · rw [hback j (by omega)]; exact h4' j hj
        · exact .inr ⟨g', cap', cur', rfl, by rw [setRow_other w g g' _ hgg]; exact hg', h1', h2', h3', h4'⟩
    · obtain ⟨v', w', hr, ho, hgr⟩ := run_append_arg_grows (P := Tryz.prog) w 33 ty 46 i0 _ 4 40 Tryz.underlying33 hi hz0 hz1 hz2 rfl (by decide) ⟨g, 0, none⟩ n cap (cur.toList.take (n * 4)) hlo hold a k c (marks m k) (marks_length m k) hnews (by omega) h63 (by omega)
      refine ⟨v', w', hr, FullV.of_own ho (fun j hj => ?_), ⟨hgr.os, hgr.tape, hgr.output, hgr.size, fun b hb _ => hgr.block b hb (by simp)⟩, fun u q hu => hu.keep (fun b hb => hgr.block b (hu.lt b hb).1 (by simp)), .inr (fun b hb => (ho.lt b hb).1)⟩
      by_cases hjn : j < n * 4
      · rw [List.getElem?_append_left (by rw [hlo]; exact hjn)]; exact hat j hjn
      · obtain ⟨i, rfl⟩ : ∃ i, j = n * 4 + i := ⟨j - n * 4, by omega⟩
        rw [List.getElem?_append_right (by rw [hlo]; omega), hlo, Nat.add_sub_cancel_left, mcell_shift]
        exact marks_at m k i (by omega)

set_option maxHeartbeats 400000 in
theorem num_any (c : Int) (w : World) : Calls Tryz.prog 10 #[.int .i64 c] w fun e w' => e = .returned (.int .i64 c) ∧ w' = w := by
  go_enter Tryz.func10, Tryz.ntmps10
  go_wp2
  go_ret
  exact ⟨rfl, rfl⟩

/-- The book's seven cells. -/
def bookV (tv mv : Value) (nx : Int) : Array Value := #[.slice none 0 0, .slice none 0 0, tv, mv, .slice none 0 0, .slice none 0 0, .int .i64 nx]

set_option maxHeartbeats 400000 in
theorem mark_any (b : Nat) (tv mv : Value) (nx : Int) (w : World) (h : Blk w b (bookV tv mv nx) 29) (h1 : -1000000000 ≤ nx) (h2 : nx ≤ 0) :
    Calls Tryz.prog 19 #[.pointer (some ⟨b, 0, none⟩)] w fun e w' => e = .returned (.int .i64 (nx - 1)) ∧ w' = w.setCell ⟨b, 6, none⟩ (.int .i64 (nx - 1)) := by
  have c6 : w.cell? ⟨b, 6, none⟩ = some (.int .i64 nx) := h.cell 6
  have f6 := h.free 6
  go_enter Tryz.func19, Tryz.ntmps19
  go_wp2
  go_ret
  exact ⟨rfl, rfl⟩

end Nl
end Go.Proofs.YtcdgihdhpaipaaaGreatDoor

namespace Go.Proofs.YtcdgihdhpaipaaaGreatDoor
open Go.RowKit
namespace Nl
set_option linter.unusedSimpArgs false
set_option linter.unusedVariables false

set_option maxRecDepth 100000 in
set_option maxHeartbeats 1000000 in
theorem same_any (v u : Value) (l : List Px.Nd) (b1 b2 : Nat) (w : World) (hn : l.length ≤ 100000) (h1 : NdIs w b1 v l) (h2 : NdIs w b2 u l) :
    Calls Tryz.prog 8 #[v, u] w fun e w' => e = .returned (.bool true) ∧ w'.heap = w.heap ∧ Below w.heap.size w w' := by
  obtain ⟨a1, c1, rfl, hk1⟩ := h1.slice
  obtain ⟨a2, c2, rfl, hk2⟩ := h2.slice
  have HK1 := hd hk1
  have HK2 := hd hk2
  clear hk1 hk2 h1 h2
  go_enter Tryz.func8, Tryz.ntmps8
  go_wp2
  go_loopw [5] (fun i wr => ∃ k : Nat, k ≤ l.length ∧ i = .int .i64 k ∧ Hid (wr.heap = w.heap ∧ Below w.heap.size w wr)) (fun i _ => l.length - (intOf i).toNat)
  case atStart => exact ⟨0, by omega, rfl, rfl, Below.refl _ _⟩
  case round =>
    obtain ⟨k, hk, rfl, HW⟩ := hrel
    by_cases hlt : k < l.length
    · obtain ⟨g1, hg1, _, p0, p1, p2, p3⟩ := HK1.out k hlt
      obtain ⟨g2, hg2, _, q0, q1, q2, q3⟩ := HK2.out k hlt
      have hcc : ∀ a, wr.cell? a = w.cell? a := fun a => by simp only [World.cell?, HW.out.1]
      rw [← hcc] at p0 p1 p2 p3 q0 q1 q2 q3
      rw [hg1, hg2]
      clear hcc hg1 hg2
      generalize l[k] = t at *
      obtain ⟨tk, tt, tn, tc⟩ := t
      simp only at p0 p1 p2 p3 q0 q1 q2 q3
      have z1 : (0 : Int) ≤ (k : Int) := by omega
      go_wp2
      go_region
      all_goals
        go_wp2
        go_roundw
        case rel => exact ⟨k + 1, by omega, by go_num, HW.out.1, HW.out.2.drew⟩
        case measure => simp [intOf]; omega
    · go_wp2
      go_ret
      exact ⟨rfl, HW.out⟩
end Nl
end Go.Proofs.YtcdgihdhpaipaaaGreatDoor

namespace Go.Proofs.YtcdgihdhpaipaaaGreatDoor
open Go.RowKit
namespace Nl
set_option linter.unusedSimpArgs false
set_option linter.unusedVariables false

/-- A law for the walk: append of marks. -/
theorem wpList_append_mark {ops : Array Oper} {rest : List Oper} {o : Oper} {a : Act} {w : World} {Q : Exit → Act → World → Prop} (hgd : o.guard = none) (s x : Operand)
    (ho : o.op = .call { callee := .builtin .append, args := #[s, x], argTypes := #[33, 33] })
    (m : Int) (v : Value) (n k : Nat) (hs : a.eval s = v) (hv : FullV w v n m) (ad : Addr) (c : Nat) (hx : a.eval x = .slice (some ad) k c) (hnews : ∀ j u, (marks m k)[j]? = some u → w.cell? (ad.add j) = some u) (hn : n + k ≤ 1000000)
    (h : ∀ (ao : Option Addr) (cp : Nat) w', FullV w' (.slice ao (n + k) cp) (n + k) m → w.grownBy w' v.ownBlock → (∀ u q, FullV w u q m → FullV w' u q m) → (Value.ownBlock (.slice ao (n + k) cp) = v.ownBlock ∨ ∀ g, Value.ownBlock (.slice ao (n + k) cp) = some g → w.heap.size ≤ g) → wpList Tryz.prog ops Q rest (a.put o.dst (.slice ao (n + k) cp)) w') : wpList Tryz.prog ops Q (o :: rest) a w := by
  refine wpList_plain hgd fun K hK => ?_
  obtain ⟨v', w', hr, h1, h2, h3, h4⟩ := run_append_mark w o.type m v n k hv ad c hnews hn
  obtain ⟨ao, cp, rfl⟩ : ∃ ao cp, v' = .slice ao (n + k) cp := by
    rcases h1 with ⟨q, e⟩ | ⟨g, cap, cur, q, _⟩
    · exact ⟨none, 0, by rw [q, e]⟩
    · exact ⟨_, _, q⟩
  unfold Oper.wp execOp
  simp only [ho, resolve, invoke, builtin, Sem.run_bind, Sem.run_pure, Result.andThen_ok, List.map_toArray, List.map_cons, List.map_nil, hs, hx, hr]
  exact hK _ _ (h ao cp w' h1 h2 h3 h4)

theorem tag_ne {w : World} {g g' : Nat} {cur cur' : Array Value} {e e' : TypeId} {fr fr' : Nat × Nat} (h : w.heap[g]? = some (.cells cur e fr)) (h' : w.heap[g']? = some (.cells cur' e' fr')) (hne : e ≠ e') : g ≠ g' := by
  rintro rfl
  rw [h] at h'
  simp at h'
  exact hne h'.2.1

theorem own_tag {w : World} {base : Nat} {e : TypeId} {size : Nat} {v : Value} {n : Nat} {xs : List Value} (h : w.ownsRow base e size v n xs) {g : Nat} (hg : v.ownBlock = some g) : ∃ cur, w.heap[g]? = some (.cells cur e (0, 0)) := by
  rcases h.2 with ⟨rfl, _⟩ | ⟨g', cap, cur, rfl, _, hh, _⟩
  · simp [Value.ownBlock] at hg
  · simp [Value.ownBlock] at hg
    subst hg
    exact ⟨cur, hh⟩

/-- A list that the book holds: the slice, its mark, how many. -/
structure En where
  v : Value
  m : Int
  n : Nat

/-- The book in block b, its two rows being whatever. -/
structure Bk (w : World) (base b : Nat) (es : List En) (txs mxs : List Value) (nx : Int) (tv mv : Value) : Prop where
  blk : Blk w b (bookV tv mv nx) 29
  low : base ≤ b
  toks : w.ownsRow base 33 1 tv txs.length txs
  mks : w.ownsRow base 3 1 mv mxs.length mxs
  full : ∀ e ∈ es, FullV w e.v e.n e.m ∧ e.n ≤ 80010
  own : ∀ e ∈ es, ∀ g, e.v.ownBlock = some g → base ≤ g

section
variable {w w' : World} {base b : Nat} {es : List En} {txs mxs : List Value} {nx : Int} {tv mv : Value}

theorem Bk.kept {row : Option Nat} (h : Bk w base b es txs mxs nx tv mv) (hg : w.grownBy w' row) (h0 : some b ≠ row) (h1 : tv.ownBlock = none ∨ tv.ownBlock ≠ row) (h2 : mv.ownBlock = none ∨ mv.ownBlock ≠ row) (h3 : ∀ e ∈ es, ∀ g, e.v.ownBlock = some g → some g ≠ row) : Bk w' base b es txs mxs nx tv mv := by
  refine ⟨?_, h.low, h.toks.kept hg h1, h.mks.kept hg h2, fun e he => ⟨(h.full e he).1.keep (fun g hgg => ?_), (h.full e he).2⟩, h.own⟩
  · have := h.blk
    unfold Blk at this ⊢
    rw [hg.block b h.blk.lt h0]; exact this
  · exact hg.block g ((h.full e he).1.lt g hgg).1 (h3 e he g hgg)

theorem Bk.below (h : Bk w base b es txs mxs nx tv mv) (hb : Below w.heap.size w w') : Bk w' base b es txs mxs nx tv mv :=
  h.kept (row := none) (Below.grownBy hb) (by simp) (by cases tv.ownBlock <;> simp) (by cases mv.ownBlock <;> simp) (fun _ _ _ _ => by simp)
theorem Bk.alloc (h : Bk w base b es txs mxs nx tv mv) (o : Obj) : Bk (w.alloc o) base b es txs mxs nx tv mv := h.below ((Below.refl _ _).alloc (Nat.le_refl _) _)
theorem Bk.drew (h : Bk w base b es txs mxs nx tv mv) : Bk w.drew base b es txs mxs nx tv mv := h.below (Below.refl _ _).drew

theorem Bk.tv_ne (h : Bk w base b es txs mxs nx tv mv) {g : Nat} {cur : Array Value} {e : TypeId} {fr : Nat × Nat} (hc : w.heap[g]? = some (.cells cur e fr)) (he : e ≠ 33) : tv.ownBlock = none ∨ tv.ownBlock ≠ some g := by
  cases ht : tv.ownBlock with
  | none => exact .inl rfl
  | some g' =>
    right; intro q
    obtain rfl := Option.some.inj q
    obtain ⟨cur', hc'⟩ := own_tag h.toks ht
    exact tag_ne hc hc' he rfl
theorem Bk.mv_ne (h : Bk w base b es txs mxs nx tv mv) {g : Nat} {cur : Array Value} {e : TypeId} {fr : Nat × Nat} (hc : w.heap[g]? = some (.cells cur e fr)) (he : e ≠ 3) : mv.ownBlock = none ∨ mv.ownBlock ≠ some g := by
  cases ht : mv.ownBlock with
  | none => exact .inl rfl
  | some g' =>
    right; intro q
    obtain rfl := Option.some.inj q
    obtain ⟨cur', hc'⟩ := own_tag h.mks ht
    exact tag_ne hc hc' he rfl
theorem Bk.es_ne (h : Bk w base b es txs mxs nx tv mv) {g' : Nat} {cur : Array Value} {e : TypeId} {fr : Nat × Nat} (hc : w.heap[g']? = some (.cells cur e fr)) (he : e ≠ 46) : ∀ x ∈ es, ∀ g, x.v.ownBlock = some g → some g ≠ some g' := by
  intro x hx g hg q
  obtain rfl := Option.some.inj q
  obtain ⟨_, cur', hc'⟩ := (h.full x hx).1.lt g hg
  exact tag_ne hc hc' he rfl

/-- A row of tokens that no entry holds: writes there leave the book. -/
theorem Bk.row {v : Value} (h : Bk w base b es txs mxs nx tv mv) (hg : w.grownBy w' v.ownBlock) (hv : ∀ g, v.ownBlock = some g → ∃ cur, w.heap[g]? = some (.cells cur 46 (0, 0))) (h3 : ∀ e ∈ es, ∀ g, e.v.ownBlock = some g → v.ownBlock ≠ some g) : Bk w' base b es txs mxs nx tv mv := by
  cases hvb : v.ownBlock with
  | none =>
    rw [hvb] at hg
    exact h.kept hg (by simp) (by cases tv.ownBlock <;> simp) (by cases mv.ownBlock <;> simp) (fun _ _ _ _ => by simp)
  | some gv =>
    rw [hvb] at hg h3
    obtain ⟨cur, hc⟩ := hv gv hvb
    refine h.kept hg ?_ (h.tv_ne hc (by decide)) (h.mv_ne hc (by decide)) (fun e he g hgg => Ne.symm (h3 e he g hgg))
    intro e
    obtain rfl := Option.some.inj e
    exact tag_ne h.blk hc (by decide) rfl

/-- The book's own cells are written. -/
theorem Bk.count (h : Bk w base b es txs mxs nx tv mv) (nx' : Int) : Bk (w.setCell ⟨b, 6, none⟩ (.int .i64 nx')) base b es txs mxs nx' tv mv := by
  have hk := h.kept (row := some b) (w' := w.setCell ⟨b, 6, none⟩ (.int .i64 nx'))
    ⟨rfl, rfl, rfl, by simp [World.setCell], fun k _ hne => Below.heap_setCell w _ _ k (by simpa using hne)⟩
  have hb := h.blk
  have ht := h.toks.kept (row := some b) (w' := w.setCell ⟨b, 6, none⟩ (.int .i64 nx')) ⟨rfl, rfl, rfl, by simp [World.setCell], fun k _ hne => Below.heap_setCell w _ _ k (by simpa using hne)⟩ (h.tv_ne hb (by decide))
  have hm := h.mks.kept (row := some b) (w' := w.setCell ⟨b, 6, none⟩ (.int .i64 nx')) ⟨rfl, rfl, rfl, by simp [World.setCell], fun k _ hne => Below.heap_setCell w _ _ k (by simpa using hne)⟩ (h.mv_ne hb (by decide))
  refine ⟨hb.set 6 _, h.low, ht, hm, fun e he => ⟨(h.full e he).1.keep (fun g hgg => ?_), (h.full e he).2⟩, h.own⟩
  exact Below.heap_setCell w _ _ g (by have := h.es_ne hb (by decide) e he g hgg; simpa using this)

theorem Bk.putToks (h : Bk w base b es txs mxs nx tv mv) {tv' : Value} {txs' : List Value} (hg : w.grownBy w' tv.ownBlock) (ho : w'.ownsRow base 33 1 tv' txs'.length txs') :
    Bk (w'.setCell ⟨b, 2, none⟩ tv') base b es txs' mxs nx tv' mv ∧ ∀ u q m, FullV w u q m → FullV (w'.setCell ⟨b, 2, none⟩ tv') u q m := by
  have hbb : w'.heap[b]? = w.heap[b]? := hg.block b h.blk.lt (by
    cases ht : tv.ownBlock with
    | none => simp
    | some g => obtain ⟨cur, hc⟩ := own_tag h.toks ht; intro e; exact tag_ne h.blk hc (by decide) (Option.some.inj e))
  have hb' : Blk w' b (bookV tv mv nx) 29 := by unfold Blk; rw [hbb]; exact h.blk
  have hm' := h.mks.kept hg (by
    cases ht : tv.ownBlock with
    | none => cases mv.ownBlock <;> simp
    | some g => obtain ⟨cur, hc⟩ := own_tag h.toks ht; exact h.mv_ne hc (by decide))
  have hset : w'.grownBy (w'.setCell ⟨b, 2, none⟩ tv') (some b) := ⟨rfl, rfl, rfl, by simp [World.setCell], fun k _ hne => Below.heap_setCell w' _ _ k (by simpa using hne)⟩
  have hfull : ∀ u q m, FullV w u q m → FullV (w'.setCell ⟨b, 2, none⟩ tv') u q m := by
    intro u q m hu
    refine hu.keep (fun g hgg => ?_)
    obtain ⟨hlt, cur, hc⟩ := hu.lt g hgg
    rw [Below.heap_setCell w' _ _ g (fun e => tag_ne hc h.blk (by decide) e)]
    exact hg.block g hlt (by
      cases ht : tv.ownBlock with
      | none => simp
      | some g' => obtain ⟨cur', hc'⟩ := own_tag h.toks ht; intro e; exact tag_ne hc hc' (by decide) (Option.some.inj e))
  refine ⟨⟨hb'.set 2 _, h.low, ?_, ?_, fun e he => ⟨hfull _ _ _ (h.full e he).1, (h.full e he).2⟩, h.own⟩, hfull⟩
  · refine ho.kept hset ?_
    cases ht : tv'.ownBlock with
    | none => exact .inl rfl
    | some g => right; intro e; obtain ⟨cur, hc⟩ := own_tag ho ht; exact tag_ne hc hb' (by decide) (Option.some.inj e)
  · refine hm'.kept hset ?_
    cases ht : mv.ownBlock with
    | none => exact .inl rfl
    | some g => right; intro e; obtain ⟨cur, hc⟩ := own_tag hm' ht; exact tag_ne hc hb' (by decide) (Option.some.inj e)

theorem Bk.putMks (h : Bk w base b es txs mxs nx tv mv) {mv' : Value} {mxs' : List Value} (hg : w.grownBy w' mv.ownBlock) (ho : w'.ownsRow base 3 1 mv' mxs'.length mxs') :
    Bk (w'.setCell ⟨b, 3, none⟩ mv') base b es txs mxs' nx tv mv' ∧ ∀ u q m, FullV w u q m → FullV (w'.setCell ⟨b, 3, none⟩ mv') u q m := by
  have hbb : w'.heap[b]? = w.heap[b]? := hg.block b h.blk.lt (by
    cases ht : mv.ownBlock with
    | none => simp
    | some g => obtain ⟨cur, hc⟩ := own_tag h.mks ht; intro e; exact tag_ne h.blk hc (by decide) (Option.some.inj e))
  have hb' : Blk w' b (bookV tv mv nx) 29 := by unfold Blk; rw [hbb]; exact h.blk
  have hm' := h.toks.kept hg (by
    cases ht : mv.ownBlock with
    | none => cases tv.ownBlock <;> simp
    | some g => obtain ⟨cur, hc⟩ := own_tag h.mks ht; exact h.tv_ne hc (by decide))
  have hset : w'.grownBy (w'.setCell ⟨b, 3, none⟩ mv') (some b) := ⟨rfl, rfl, rfl, by simp [World.setCell], fun k _ hne => Below.heap_setCell w' _ _ k (by simpa using hne)⟩
  have hfull : ∀ u q m, FullV w u q m → FullV (w'.setCell ⟨b, 3, none⟩ mv') u q m := by
    intro u q m hu
    refine hu.keep (fun g hgg => ?_)
    obtain ⟨hlt, cur, hc⟩ := hu.lt g hgg
    rw [Below.heap_setCell w' _ _ g (fun e => tag_ne hc h.blk (by decide) e)]
    exact hg.block g hlt (by
      cases ht : mv.ownBlock with
      | none => simp
      | some g' => obtain ⟨cur', hc'⟩ := own_tag h.mks ht; intro e; exact tag_ne hc hc' (by decide) (Option.some.inj e))
  refine ⟨⟨hb'.set 3 _, h.low, ?_, ?_, fun e he => ⟨hfull _ _ _ (h.full e he).1, (h.full e he).2⟩, h.own⟩, hfull⟩
  · refine hm'.kept hset ?_
    cases ht : tv.ownBlock with
    | none => exact .inl rfl
    | some g => right; intro e; obtain ⟨cur, hc⟩ := own_tag hm' ht; exact tag_ne hc hb' (by decide) (Option.some.inj e)
  · refine ho.kept hset ?_
    cases ht : mv'.ownBlock with
    | none => exact .inl rfl
    | some g => right; intro e; obtain ⟨cur, hc⟩ := own_tag ho ht; exact tag_ne hc hb' (by decide) (Option.some.inj e)
end

/-- A list of which the first k tokens are the mark. -/
def PartV (w : World) (v : Value) (n k : Nat) (m : Int) : Prop :=
  (v = .slice none 0 0 ∧ n = 0) ∨ ∃ g cap cur, v = .slice (some ⟨g, 0, none⟩) n cap ∧ w.heap[g]? = some (.cells cur 46 (0, 0)) ∧ n ≤ cap ∧ cap ≤ maxLen ∧ cur.size = cap * 4 ∧ ∀ j, j < k * 4 → cur[j]? = some (mcell m j)

theorem PartV.start {w : World} {base n : Nat} {v : Value} {xs : List Value} (h : w.ownsRow base 46 4 v n xs) (m : Int) : PartV w v n 0 m := by
  rcases h.2 with hn | ⟨g, cap, cur, rfl, hb, hg, h1, h2, h3, h4⟩
  · exact .inl hn
  · exact .inr ⟨g, cap, cur, rfl, hg, h1, h2, h3, fun j hj => by omega⟩
theorem PartV.done {w : World} {n : Nat} {v : Value} {m : Int} (h : PartV w v n n m) : FullV w v n m := h
theorem PartV.keep {w w' : World} {v : Value} {n k : Nat} {m : Int} (h : PartV w v n k m) (hk : ∀ g, v.ownBlock = some g → w'.heap[g]? = w.heap[g]?) : PartV w' v n k m := by
  rcases h with h | ⟨g, cap, cur, rfl, hg, r⟩
  · exact .inl h
  · exact .inr ⟨g, cap, cur, rfl, by rw [hk g rfl]; exact hg, r⟩

/-- One node more is written. -/
theorem PartV.step {w : World} {n k : Nat} {g cap : Nat} {m : Int} (h : PartV w (.slice (some ⟨g, 0, none⟩) n cap) n k m) (hk : k < n) :
    PartV ((((w.setCell ⟨g, k * 4, none⟩ (.int .i64 m)).setCell ⟨g, k * 4 + 1, none⟩ (.string ⟨#[]⟩)).setCell ⟨g, k * 4 + 2, none⟩ (.int .i64 m)).setCell ⟨g, k * 4 + 3, none⟩ (.int .i64 0)) (.slice (some ⟨g, 0, none⟩) n cap) n (k + 1) m := by
  rcases h with ⟨h, _⟩ | ⟨g', cap', cur, e, hg, h1, h2, h3, h4⟩
  · simp at h
  · simp only [Value.slice.injEq, Option.some.injEq, Addr.mk.injEq, true_and, and_true] at e
    obtain ⟨rfl, rfl⟩ := e
    have hb : Blk w g cur 46 := hg
    have hb3 := (((hb.set (k * 4) (.int .i64 m)).set (k * 4 + 1) (.string ⟨#[]⟩)).set (k * 4 + 2) (.int .i64 m)).set (k * 4 + 3) (.int .i64 0)
    obtain ⟨m0, m1, m2, m3⟩ := mcell_at m k
    refine .inr ⟨g, cap, _, rfl, hb3, h1, h2, by simp [h3], fun j hj => ?_⟩
    rw [Array.getElem?_setIfInBounds, Array.getElem?_setIfInBounds, Array.getElem?_setIfInBounds, Array.getElem?_setIfInBounds]
    simp only [Array.size_setIfInBounds]
    by_cases j3 : k * 4 + 3 = j
    · subst j3
      rw [if_pos rfl, if_pos (by omega), m3]
    · rw [if_neg j3]
      by_cases j2 : k * 4 + 2 = j
      · subst j2
        rw [if_pos rfl, if_pos (by omega), m2]
      · rw [if_neg j2]
        by_cases j1 : k * 4 + 1 = j
        · subst j1
          rw [if_pos rfl, if_pos (by omega), m1]
        · rw [if_neg j1]
          by_cases j0 : k * 4 = j
          · subst j0
            rw [if_pos rfl, if_pos (by omega), m0]
          · rw [if_neg j0]; exact h4 j (by omega)

theorem PartV.cells {w : World} {n k : Nat} {g cap : Nat} {m : Int} (h : PartV w (.slice (some ⟨g, 0, none⟩) n cap) n k m) (hk : k < n) : (∀ i, i < 4 → ∃ x, w.cell? ⟨g, k * 4 + i, none⟩ = some x) ∧ (∀ i, w.frozen? ⟨g, i, none⟩ = false) ∧ n ≤ cap ∧ cap ≤ maxLen := by
  rcases h with ⟨h, _⟩ | ⟨g', cap', cur, e, hg, h1, h2, h3, h4⟩
  · simp at h
  · simp only [Value.slice.injEq, Option.some.injEq, Addr.mk.injEq, true_and, and_true] at e
    obtain ⟨rfl, rfl⟩ := e
    have hb : Blk w g cur 46 := hg
    refine ⟨fun i hi => ?_, fun i => hb.free i, h1, h2⟩
    rw [hb.cell, Array.getElem?_eq_getElem (by omega)]
    exact ⟨_, rfl⟩

theorem grownBy_set4 (w : World) (g i : Nat) (x y z u : Value) : w.grownBy ((((w.setCell ⟨g, i, none⟩ x).setCell ⟨g, i + 1, none⟩ y).setCell ⟨g, i + 2, none⟩ z).setCell ⟨g, i + 3, none⟩ u) (some g) :=
  ⟨rfl, rfl, rfl, by simp [World.setCell], fun k _ hne => by
    have hk : k ≠ g := by simpa using hne
    rw [Below.heap_setCell _ _ _ _ hk, Below.heap_setCell _ _ _ _ hk, Below.heap_setCell _ _ _ _ hk, Below.heap_setCell _ _ _ _ hk]⟩

end Nl
end Go.Proofs.YtcdgihdhpaipaaaGreatDoor

namespace Go.Proofs.YtcdgihdhpaipaaaGreatDoor
open Go.RowKit
namespace Nl
set_option linter.unusedSimpArgs false
set_option linter.unusedVariables false

theorem Tryz.info33 : (Tryz.prog.info? 33).map (fun i => (i.zero, i.size, i.bytes)) = some (some (.slice none 0 0), 1, 24) := by kernel_rfl
theorem Tryz.info3 : (Tryz.prog.info? 3).map (fun i => (i.zero, i.size, i.bytes)) = some (some (.int .i64 0), 1, 8) := by kernel_rfl

theorem news_cells (w : World) (xs : List Value) (T : TypeId) (g : Nat) (hg : g = w.heap.size) : ∀ j u, xs[j]? = some u → (w.alloc (.cells xs.toArray T)).cell? ((⟨g, 0, none⟩ : Addr).add j) = some u := by
  intro j u hj
  subst hg
  rw [Addr.add_lit, Nat.zero_add, (Blk.new w xs.toArray T).cell j, ← hj]
  simp

theorem grow_low {w w' : World} {row : Option Nat} {base : Nat} (hg : w.grownBy w' row) (hb : base ≤ w.heap.size) (hr : ∀ k, row = some k → base ≤ k) : Below base w w' := (Below.refl base w).grown hg hb hr

/-- What 'ownsNodes' leaves. -/
def OwnsV (w : World) (base b : Nat) (es : List En) (txs mxs : List Value) (nx : Int) (v : Value) (n : Nat) (w' : World) : Prop :=
  ∃ one two three tv' mv', Bk w' base b (es ++ [⟨v, nx - 1, n⟩, ⟨one, nx - 1, n + 1⟩, ⟨two, nx - 1, n + 2⟩, ⟨three, nx - 1, n + 3⟩]) (txs ++ [v, one, two, three]) (mxs ++ [.int .i64 (nx - 1), .int .i64 (nx - 1), .int .i64 (nx - 1), .int .i64 (nx - 1)]) (nx - 1) tv' mv' ∧ Below base w w'

theorem size_set6 (w : World) (p : Addr) (v : Value) : (w.setCell p v).heap.size = w.heap.size := by simp [World.setCell]

theorem FullV.oneCell {w : World} {v : Value} {n : Nat} {m : Int} (h : FullV w v n m) : v.oneCell' = true := by
  rcases h with ⟨rfl, _⟩ | ⟨g, cap, cur, rfl, _⟩ <;> rfl

theorem grownBy_trans2 {w w1 w2 : World} {row : Option Nat} (h : w.grownBy w1 row) (k : w1.grownBy w2 row) : w.grownBy w2 row :=
  ⟨k.os.trans h.os, k.tape.trans h.tape, k.output.trans h.output, Nat.le_trans h.size k.size, fun i hi hne => (k.block i (Nat.lt_of_lt_of_le hi h.size) hne).trans (h.block i hi hne)⟩

set_option maxRecDepth 100000 in
set_option maxHeartbeats 4000000 in
theorem owns_some (w : World) (base b : Nat) (es : List En) (txs mxs : List Value) (nx : Int) (tv mv : Value) (h : Bk w base b es txs mxs nx tv mv) (gv cap n : Nat) (hn : n ≤ 80000)
    (hv : PartV w (.slice (some ⟨gv, 0, none⟩) n cap) n 0 (nx - 1)) (hlow : ∀ g, Value.ownBlock (.slice (some ⟨gv, 0, none⟩) n cap) = some g → base ≤ g) (hnew : ∀ e ∈ es, ∀ g, e.v.ownBlock = some g → Value.ownBlock (.slice (some ⟨gv, 0, none⟩) n cap) ≠ some g)
    (ht : txs.length ≤ 10000000) (hm : mxs.length ≤ 10000000) (hx1 : -100000000 ≤ nx) (hx2 : nx ≤ 0) (hbw : base ≤ w.heap.size) :
    Calls Tryz.prog 9 #[.pointer (some ⟨b, 0, none⟩), .slice (some ⟨gv, 0, none⟩) n cap] w fun e w' => e = .returned (.tuple #[]) ∧ OwnsV w base b es txs mxs nx (.slice (some ⟨gv, 0, none⟩) n cap) n w' := by
  obtain ⟨i33, hi33, hz33, hs33, hb33⟩ := info_parts Tryz.info33
  obtain ⟨i3, hi3, hz3, hs3, hb3⟩ := info_parts Tryz.info3
  have H := hd h
  have hbl := h.blk.lt
  have HN := hd hnew
  have HLow := hd hlow
  have HBlow := hd h.low
  have HMk := hd (mark_any b tv mv nx w h.blk (by omega) hx2)
  have HB1 := hd (h.count (nx - 1))
  have HV := hd hv
  have HT : Hid (∀ g, Value.ownBlock (.slice (some ⟨gv, 0, none⟩) n cap) = some g → g < w.heap.size ∧ ∃ cur, w.heap[g]? = some (.cells cur 46 (0, 0))) := fun g hg => by
    rcases hv with ⟨q, _⟩ | ⟨g', cap', cur, q, hh, _⟩
    · rw [q] at hg; simp [Value.ownBlock] at hg
    · rw [q] at hg; simp [Value.ownBlock] at hg; subst hg; exact ⟨(Array.getElem?_eq_some_iff.1 hh).1, cur, hh⟩
  clear h hnew hlow hv
  obtain ⟨m, hmm⟩ : ∃ m, m = nx - 1 := ⟨_, rfl⟩
  have HMM := hd hmm
  have hm1 : -100000001 ≤ m := by omega
  have hm2 : m ≤ -1 := by omega
  rw [← hmm] at HMk HB1 HV
  clear hmm
  go_enter Tryz.func9, Tryz.ntmps9
  go_wp2_with fail
  refine HMk.out.mono ?_
  rintro e w' ⟨rfl, rfl⟩
  -- the world behind the mark, a letter
  obtain ⟨w1, hw1⟩ : ∃ w1, w1 = w.setCell ⟨b, 6, none⟩ (.int .i64 m) := ⟨_, rfl⟩
  rw [← hw1]
  have HL1 : Hid (Below base w w1) := by rw [hw1]; exact (Below.refl base w).setCell (p := ⟨b, 6, none⟩) HBlow.out _
  have hsz1 : w1.heap.size ≤ w.heap.size := by rw [hw1]; simp [World.setCell]
  have hsz1' : w.heap.size ≤ w1.heap.size := by rw [hw1]; simp [World.setCell]
  have HT1 : Hid (∀ g, Value.ownBlock (.slice (some ⟨gv, 0, none⟩) n cap) = some g → g < w1.heap.size ∧ ∃ cur, w1.heap[g]? = some (.cells cur 46 (0, 0))) := fun g hg => by
    obtain ⟨q1, cur, q2⟩ := HT.out g hg
    refine ⟨by omega, cur, ?_⟩
    rw [hw1, Below.heap_setCell w _ _ g (fun e => tag_ne q2 H.out.blk (by decide) e)]; exact q2
  have HV1 : Hid (PartV w1 (.slice (some ⟨gv, 0, none⟩) n cap) n 0 m) := HV.out.keep (fun g hg => by
    obtain ⟨q1, cur, q2⟩ := HT.out g hg
    rw [hw1, Below.heap_setCell w _ _ g (fun e => tag_ne q2 H.out.blk (by decide) e)])
  rw [← hw1] at HB1
  have HW1 := hd hw1
  clear hw1
  go_wp2
  have HB2 := hd (HB1.out.alloc (.cells #[.int .i64 m, .string ⟨#[]⟩, .int .i64 m, .int .i64 0] 46))
  have X2 : Blk (w1.alloc (.cells #[.int .i64 m, .string ⟨#[]⟩, .int .i64 m, .int .i64 0] 46)) w1.heap.size #[.int .i64 m, .string ⟨#[]⟩, .int .i64 m, .int .i64 0] 46 := Blk.new _ _ _
  have HV2 : Hid (PartV (w1.alloc (.cells #[.int .i64 m, .string ⟨#[]⟩, .int .i64 m, .int .i64 0] 46)) (.slice (some ⟨gv, 0, none⟩) n cap) n 0 m) := HV1.out.keep (fun g hg => Below.heap_alloc w1 _ g (HT1.out g hg).1)
  obtain ⟨w2, hw2⟩ : ∃ w2, w2 = w1.alloc (.cells #[.int .i64 m, .string ⟨#[]⟩, .int .i64 m, .int .i64 0] 46) := ⟨_, rfl⟩
  rw [← hw2] at HB2 X2 HV2 ⊢
  have HL2 : Hid (Below base w w2) := by rw [hw2]; exact HL1.out.alloc (by omega) _
  have hsz2 : w1.heap.size + 1 ≤ w2.heap.size := by rw [hw2]; simp
  have HT2 : Hid (∀ g, Value.ownBlock (.slice (some ⟨gv, 0, none⟩) n cap) = some g → g < w1.heap.size ∧ ∃ cur, w2.heap[g]? = some (.cells cur 46 (0, 0))) := fun g hg => by
    obtain ⟨q1, cur, q2⟩ := HT1.out g hg
    exact ⟨q1, cur, by rw [hw2, Below.heap_alloc w1 _ g q1]; exact q2⟩
  clear hw2
  go_loopw [6] (fun i wr => ∃ k : Nat, k ≤ n ∧ i = .int .i64 k ∧ Hid (PartV wr (.slice (some ⟨gv, 0, none⟩) n cap) n k m) ∧ Hid (w2.grownBy wr (Value.ownBlock (.slice (some ⟨gv, 0, none⟩) n cap)))) (fun i _ => n - (intOf i).toNat)
  case atStart => exact ⟨0, by omega, rfl, HV2, ⟨rfl, rfl, rfl, Nat.le_refl _, fun _ _ _ => rfl⟩⟩
  case round =>
    obtain ⟨k, hk, rfl, HP, HG⟩ := hrel
    have Xr : Blk wr w1.heap.size #[.int .i64 m, .string ⟨#[]⟩, .int .i64 m, .int .i64 0] 46 := by
      unfold Blk at X2 ⊢
      rw [HG.out.block _ (by omega) (by intro e; have := (HT2.out _ e.symm).1; omega)]; exact X2
    obtain ⟨⟨x0, x1, x2, x3⟩, -⟩ := Blk4 Xr
    have hszr := HG.out.size
    by_cases hlt : k < n
    · obtain ⟨hce, hfr, hcap1, hcap2⟩ := HP.out.cells hlt
      obtain ⟨z0, e0⟩ := hce 0 (by omega)
      obtain ⟨z1, e1⟩ := hce 1 (by omega)
      obtain ⟨z2, e2⟩ := hce 2 (by omega)
      obtain ⟨z3, e3⟩ := hce 3 (by omega)
      rw [Nat.add_zero] at e0
      have f0 := hfr (k * 4)
      have f1 := hfr (k * 4 + 1)
      have f2 := hfr (k * 4 + 2)
      have f3 := hfr (k * 4 + 3)
      unfold maxLen at hcap2
      have HPs := hd (HP.out.step hlt)
      clear hfr hce
      go_wp2
      go_roundw
      case rel => exact ⟨k + 1, by omega, by go_num, HPs, grownBy_trans2 HG.out (grownBy_set4 wr gv (k * 4) _ _ _ _)⟩
      case measure => simp [intOf]; omega
    · have hkn : n = k := by omega
      subst hkn
      have HF := hd HP.out.done
      have HBr := hd (HB2.out.row (v := .slice (some ⟨gv, 0, none⟩) n cap) HG.out (fun g hg => (HT2.out g hg).2) HN.out)
      have HLr : Hid (Below base w wr) := HL2.out.grown HG.out (by omega) HLow.out
      clear HP
      go_wp2_with (first
        | (at_builtin; refine wpList_append_mark rfl (.tmp 25) (.tmp 27) rfl m _ n 1 rfl (HF.out.keep (fun g hg => Below.heap_alloc wr _ g (HF.out.lt g hg).1)) ⟨wr.heap.size, 0, none⟩ 1 rfl (news_cells wr [.int .i64 m, .string ⟨#[]⟩, .int .i64 m, .int .i64 0] _ _ rfl) (by omega) ?_)
        | fail)
      intro a1 p1 w3 hone hg3 hall3 hown3
      have Xs : Blk w3 w1.heap.size #[.int .i64 m, .string ⟨#[]⟩, .int .i64 m, .int .i64 0] 46 := by
        have := Xr.alloc (.cells #[.int .i64 m, .string ⟨#[]⟩, .int .i64 m, .int .i64 0] 46)
        unfold Blk at this ⊢
        rw [hg3.block _ (by simp; omega) (by intro e; have := (HT2.out _ e.symm).1; omega)]; exact this
      obtain ⟨⟨y0, y1, y2, y3⟩, -⟩ := Blk4 Xs
      have hsz3 := hg3.size
      simp only [World.size_alloc] at hsz3
      have HB3 := hd ((HBr.out.alloc (.cells #[.int .i64 m, .string ⟨#[]⟩, .int .i64 m, .int .i64 0] 46)).row (v := .slice (some ⟨gv, 0, none⟩) n cap) hg3 (fun g hg => by
        obtain ⟨q1, cur, q2⟩ := HF.out.lt g hg
        exact ⟨cur, by rw [Below.heap_alloc wr _ g q1]; exact q2⟩) HN.out)
      have HL3 : Hid (Below base w w3) := (HLr.out.alloc (by omega) _).grown hg3 (by simp; omega) HLow.out
      have HF3 := hd (hall3 _ _ (HF.out.keep (fun g hg => Below.heap_alloc wr _ g (HF.out.lt g hg).1)))
      have HO3 : Hid (FullV w3 (.slice a1 (n + 1) p1) (n + 1) m ∧ ∀ g, Value.ownBlock (.slice a1 (n + 1) p1) = some g → base ≤ g) := ⟨hone, fun g hg => by
        rcases hown3 with q | q
        · exact HLow.out g (q ▸ hg)
        · have := q g hg; try simp only [World.size_alloc] at this
          omega⟩
      clear hone hg3 hall3 hown3 x0 x1 x2
      go_wp2_with (first
        | (at_builtin; refine wpList_append_mark rfl (.tmp 29) (.tmp 32) rfl m _ n 2 rfl (HF3.out.keep (fun g hg => Below.heap_alloc w3 _ g (HF3.out.lt g hg).1)) ⟨w3.heap.size, 0, none⟩ 2 rfl (news_cells w3 [.int .i64 m, .string ⟨#[]⟩, .int .i64 m, .int .i64 0, .int .i64 m, .string ⟨#[]⟩, .int .i64 m, .int .i64 0] _ _ rfl) (by omega) ?_)
        | fail)
      intro a2 p2 w4 htwo hg4 hall4 hown4
      have Xt : Blk w4 w1.heap.size #[.int .i64 m, .string ⟨#[]⟩, .int .i64 m, .int .i64 0] 46 := by
        have := Xs.alloc (.cells #[.int .i64 m, .string ⟨#[]⟩, .int .i64 m, .int .i64 0, .int .i64 m, .string ⟨#[]⟩, .int .i64 m, .int .i64 0] 46)
        unfold Blk at this ⊢
        rw [hg4.block _ (by simp only [World.size_alloc]; omega) (by intro e; have := (HT2.out _ e.symm).1; omega)]; exact this
      have hsz4 := hg4.size
      simp only [World.size_alloc] at hsz4
      have HB4 := hd ((HB3.out.alloc (.cells #[.int .i64 m, .string ⟨#[]⟩, .int .i64 m, .int .i64 0, .int .i64 m, .string ⟨#[]⟩, .int .i64 m, .int .i64 0] 46)).row (v := .slice (some ⟨gv, 0, none⟩) n cap) hg4 (fun g hg => by
        obtain ⟨q1, cur, q2⟩ := HF3.out.lt g hg
        exact ⟨cur, by rw [Below.heap_alloc w3 _ g q1]; exact q2⟩) HN.out)
      have HL4 : Hid (Below base w w4) := (HL3.out.alloc (by omega) _).grown hg4 (by simp only [World.size_alloc]; omega) HLow.out
      have HF4 := hd (hall4 _ _ (HF3.out.keep (fun g hg => Below.heap_alloc w3 _ g (HF3.out.lt g hg).1)))
      have HO4 : Hid (FullV w4 (.slice a1 (n + 1) p1) (n + 1) m ∧ ∀ g, Value.ownBlock (.slice a1 (n + 1) p1) = some g → base ≤ g) := ⟨hall4 _ _ (HO3.out.1.keep (fun g hg => Below.heap_alloc w3 _ g (HO3.out.1.lt g hg).1)), HO3.out.2⟩
      have HTw4 : Hid (FullV w4 (.slice a2 (n + 2) p2) (n + 2) m ∧ ∀ g, Value.ownBlock (.slice a2 (n + 2) p2) = some g → base ≤ g) := ⟨htwo, fun g hg => by
        rcases hown4 with q | q
        · exact HLow.out g (q ▸ hg)
        · have := q g hg; try simp only [World.size_alloc] at this
          omega⟩
      clear htwo hg4 hall4 hown4 y0 y1 y2
      obtain ⟨⟨x0, x1, x2, x3⟩, -⟩ := Blk4 Xt
      go_wp2_with (first
        | (at_builtin; refine wpList_append_mark rfl (.tmp 34) (.tmp 38) rfl m _ n 3 rfl (HF4.out.keep (fun g hg => Below.heap_alloc w4 _ g (HF4.out.lt g hg).1)) ⟨w4.heap.size, 0, none⟩ 3 rfl (news_cells w4 [.int .i64 m, .string ⟨#[]⟩, .int .i64 m, .int .i64 0, .int .i64 m, .string ⟨#[]⟩, .int .i64 m, .int .i64 0, .int .i64 m, .string ⟨#[]⟩, .int .i64 m, .int .i64 0] _ _ rfl) (by omega) ?_)
        | fail)
      intro a3 p3 w5 hthree hg5 hall5 hown5
      have hsz5 := hg5.size
      simp only [World.size_alloc] at hsz5
      have HB5 := hd ((HB4.out.alloc (.cells #[.int .i64 m, .string ⟨#[]⟩, .int .i64 m, .int .i64 0, .int .i64 m, .string ⟨#[]⟩, .int .i64 m, .int .i64 0, .int .i64 m, .string ⟨#[]⟩, .int .i64 m, .int .i64 0] 46)).row (v := .slice (some ⟨gv, 0, none⟩) n cap) hg5 (fun g hg => by
        obtain ⟨q1, cur, q2⟩ := HF4.out.lt g hg
        exact ⟨cur, by rw [Below.heap_alloc w4 _ g q1]; exact q2⟩) HN.out)
      have HL5 : Hid (Below base w w5) := (HL4.out.alloc (by omega) _).grown hg5 (by simp only [World.size_alloc]; omega) HLow.out
      have HF5 := hd (hall5 _ _ (HF4.out.keep (fun g hg => Below.heap_alloc w4 _ g (HF4.out.lt g hg).1)))
      have HO5 : Hid (FullV w5 (.slice a1 (n + 1) p1) (n + 1) m ∧ ∀ g, Value.ownBlock (.slice a1 (n + 1) p1) = some g → base ≤ g) := ⟨hall5 _ _ (HO4.out.1.keep (fun g hg => Below.heap_alloc w4 _ g (HO4.out.1.lt g hg).1)), HO4.out.2⟩
      have HTw5 : Hid (FullV w5 (.slice a2 (n + 2) p2) (n + 2) m ∧ ∀ g, Value.ownBlock (.slice a2 (n + 2) p2) = some g → base ≤ g) := ⟨hall5 _ _ (HTw4.out.1.keep (fun g hg => Below.heap_alloc w4 _ g (HTw4.out.1.lt g hg).1)), HTw4.out.2⟩
      have HTh5 : Hid (FullV w5 (.slice a3 (n + 3) p3) (n + 3) m ∧ ∀ g, Value.ownBlock (.slice a3 (n + 3) p3) = some g → base ≤ g) := ⟨hthree, fun g hg => by
        rcases hown5 with q | q
        · exact HLow.out g (q ▸ hg)
        · have := q g hg; try simp only [World.size_alloc] at this
          omega⟩
      clear hthree hg5 hall5 hown5 x0 x1 x2
      have d0 : w5.cell? ⟨b, 2, none⟩ = some tv := HB5.out.blk.cell 2
      have o1 := HO5.out.1.oneCell
      have o2 := HTw5.out.1.oneCell
      have o3 := HTh5.out.1.oneCell
      have o0 := HF5.out.oneCell
      have O := hd (And.intro o0 (And.intro o1 (And.intro o2 o3)))
      clear o0 o1 o2 o3
      go_wp2_with (first
        | (at_builtin; refine wpList_append_own _ rfl (.tmp 44) (.tmp 49) 26 rfl base 33 i33 (.slice none 0 0) 1 24 Tryz.underlying26 hi33 hz33 hs33 hb33 rfl (by decide) tv txs.length txs rfl (HB5.out.toks.alloc _) ⟨w5.heap.size, 0, none⟩ 4 4 [.slice (some ⟨gv, 0, none⟩) n cap, (.slice a1 (n + 1) p1), (.slice a2 (n + 2) p2), (.slice a3 (n + 3) p3)] rfl rfl (news_cells w5 [.slice (some ⟨gv, 0, none⟩) n cap, (.slice a1 (n + 1) p1), (.slice a2 (n + 2) p2), (.slice a3 (n + 3) p3)] _ _ rfl) (by intro u hu; simp only [List.mem_cons, List.not_mem_nil, or_false] at hu; rcases hu with rfl | rfl | rfl | rfl; exact O.out.1; exact O.out.2.1; exact O.out.2.2.1; exact O.out.2.2.2) (by unfold maxLen; omega) (by omega) (by simp only [World.size_alloc]; omega) ?_)
        | fail)
      intro tv' w6 hown6 hg6 _
      obtain ⟨ta, tc, htv⟩ : ∃ a c, tv' = .slice a (txs.length + 4) c := by
        rcases hown6.2 with ⟨_, e⟩ | ⟨g, cp, cur, q, _⟩
        · omega
        · exact ⟨_, _, q⟩
      rw [htv] at hown6 ⊢
      clear htv
      have Z5 := HB5.out.alloc (.cells #[.slice (some ⟨gv, 0, none⟩) n cap, .slice a1 (n + 1) p1, .slice a2 (n + 2) p2, .slice a3 (n + 3) p3] 33)
      have P6 := Z5.putToks (txs' := txs ++ [.slice (some ⟨gv, 0, none⟩) n cap, .slice a1 (n + 1) p1, .slice a2 (n + 2) p2, .slice a3 (n + 3) p3]) hg6 (by rw [List.length_append]; exact hown6)
      have hszb := hg6.size
      simp only [World.size_alloc] at hszb
      have B6 : Blk w6 b (bookV tv mv m) 29 := by
        have := Z5.blk
        unfold Blk at this ⊢
        rw [hg6.block b Z5.blk.lt (by
          cases ht : tv.ownBlock with
          | none => simp
          | some g => obtain ⟨cur, hc⟩ := own_tag Z5.toks ht; intro e; exact tag_ne Z5.blk hc (by decide) (Option.some.inj e))]; exact this
      have HL6 : Hid (Below base w w6) := (HL5.out.alloc (by omega) _).grown hg6 (by simp only [World.size_alloc]; omega) (fun q hq => (HB5.out.toks.lt q hq).1)
      have HL7 : Hid (Below base w (w6.setCell ⟨b, 2, none⟩ (.slice ta (txs.length + 4) tc))) := HL6.out.setCell (p := ⟨b, 2, none⟩) HBlow.out _
      have HB7 := hd P6.1
      have HF7 := hd P6.2
      have r0 : w6.cell? ⟨b, 2, none⟩ = some tv := B6.cell 2
      have r1 : w6.cell? ⟨b, 3, none⟩ = some mv := B6.cell 3
      have r2 := B6.free 2
      have r3 := B6.free 3
      have hb6 : b < w6.heap.size := B6.lt
      clear hown6 hg6 P6 Z5 B6 d0
      go_wp2_with (first
        | (at_builtin; refine wpList_append_own _ rfl (.tmp 57) (.tmp 62) 25 rfl base 3 i3 (.int .i64 0) 1 8 Tryz.underlying25 hi3 hz3 hs3 hb3 rfl (by decide) mv mxs.length mxs rfl (HB7.out.mks.alloc _) ⟨w6.heap.size, 0, none⟩ 4 4 [.int .i64 m, .int .i64 m, .int .i64 m, .int .i64 m] rfl rfl (news_cells (w6.setCell ⟨b, 2, none⟩ (.slice ta (txs.length + 4) tc)) [.int .i64 m, .int .i64 m, .int .i64 m, .int .i64 m] _ _ (size_set6 _ _ _).symm) (by intro u hu; simp only [List.mem_cons, List.not_mem_nil, or_false] at hu; rcases hu with rfl | rfl | rfl | rfl <;> rfl) (by unfold maxLen; omega) (by omega) (by simp only [World.size_alloc, size_set6]; omega) ?_)
        | fail)
      intro mv' w8 hown8 hg8 _
      obtain ⟨ma, mc, hmv⟩ : ∃ a c, mv' = .slice a (mxs.length + 4) c := by
        rcases hown8.2 with ⟨_, e⟩ | ⟨g, cp, cur, q, _⟩
        · omega
        · exact ⟨_, _, q⟩
      rw [hmv] at hown8 ⊢
      clear hmv
      have Z7 := HB7.out.alloc (.cells #[.int .i64 m, .int .i64 m, .int .i64 m, .int .i64 m] 3)
      have P8 := Z7.putMks (mxs' := mxs ++ [.int .i64 m, .int .i64 m, .int .i64 m, .int .i64 m]) hg8 (by rw [List.length_append]; exact hown8)
      have B8 : Blk w8 b (bookV (.slice ta (txs.length + 4) tc) mv m) 29 := by
        have := Z7.blk
        unfold Blk at this ⊢
        rw [hg8.block b Z7.blk.lt (by
          cases ht : mv.ownBlock with
          | none => simp
          | some g => obtain ⟨cur, hc⟩ := own_tag Z7.mks ht; intro e; exact tag_ne Z7.blk hc (by decide) (Option.some.inj e))]; exact this
      have HL8 : Hid (Below base w w8) := (HL7.out.alloc (by rw [size_set6]; omega) _).grown hg8 (by simp only [World.size_alloc, size_set6]; omega) (fun q hq => (HB7.out.mks.lt q hq).1)
      have HL9 : Hid (Below base w (w8.setCell ⟨b, 3, none⟩ (.slice ma (mxs.length + 4) mc))) := HL8.out.setCell (p := ⟨b, 3, none⟩) HBlow.out _
      have HB9 := hd P8.1
      have HF9 : Hid (∀ u q, FullV w5 u q m → FullV (w8.setCell ⟨b, 3, none⟩ (.slice ma (mxs.length + 4) mc)) u q m) := fun u q hu => P8.2 u q m ((HF7.out u q m (hu.keep (fun g hg => Below.heap_alloc w5 _ g (hu.lt g hg).1))).keep (fun g hg => Below.heap_alloc _ _ g ((HF7.out u q m (hu.keep (fun g hg => Below.heap_alloc w5 _ g (hu.lt g hg).1))).lt g hg).1))
      have s1 : w8.cell? ⟨b, 3, none⟩ = some mv := B8.cell 3
      have s2 := B8.free 3
      clear hown8 hg8 P8 Z7 B8 r0 r1 r2 r3
      go_wp2
      go_end0
      refine ⟨rfl, .slice a1 (n + 1) p1, .slice a2 (n + 2) p2, .slice a3 (n + 3) p3, .slice ta (txs.length + 4) tc, .slice ma (mxs.length + 4) mc, ?_, HL9.out⟩
      rw [← HMM.out]
      have K := HB9.out
      refine ⟨K.blk, K.low, K.toks, K.mks, ?_, ?_⟩
      · intro e he
        simp only [List.mem_append, List.mem_cons, List.not_mem_nil, or_false] at he
        rcases he with he | rfl | rfl | rfl | rfl
        · exact K.full e he
        · exact ⟨HF9.out _ _ HF5.out, by show n ≤ 80010; omega⟩
        · exact ⟨HF9.out _ _ HO5.out.1, by show n + 1 ≤ 80010; omega⟩
        · exact ⟨HF9.out _ _ HTw5.out.1, by show n + 2 ≤ 80010; omega⟩
        · exact ⟨HF9.out _ _ HTh5.out.1, by show n + 3 ≤ 80010; omega⟩
      · intro e he
        simp only [List.mem_append, List.mem_cons, List.not_mem_nil, or_false] at he
        rcases he with he | rfl | rfl | rfl | rfl
        · exact K.own e he
        · exact HLow.out
        · exact HO5.out.2
        · exact HTw5.out.2
        · exact HTh5.out.2

set_option maxRecDepth 100000 in
set_option maxHeartbeats 4000000 in
theorem owns_nil (w : World) (base b : Nat) (es : List En) (txs mxs : List Value) (nx : Int) (tv mv : Value) (h : Bk w base b es txs mxs nx tv mv) (n : Nat) (hn : n ≤ 80000)
    (hv : PartV w (.slice none 0 0) n 0 (nx - 1)) (hlow : ∀ g, Value.ownBlock (.slice none 0 0) = some g → base ≤ g) (hnew : ∀ e ∈ es, ∀ g, e.v.ownBlock = some g → Value.ownBlock (.slice none 0 0) ≠ some g)
    (ht : txs.length ≤ 10000000) (hm : mxs.length ≤ 10000000) (hx1 : -100000000 ≤ nx) (hx2 : nx ≤ 0) (hbw : base ≤ w.heap.size) (hn0 : n ≤ 0) :
    Calls Tryz.prog 9 #[.pointer (some ⟨b, 0, none⟩), .slice none 0 0] w fun e w' => e = .returned (.tuple #[]) ∧ OwnsV w base b es txs mxs nx (.slice none 0 0) n w' := by
  obtain ⟨i33, hi33, hz33, hs33, hb33⟩ := info_parts Tryz.info33
  obtain ⟨i3, hi3, hz3, hs3, hb3⟩ := info_parts Tryz.info3
  have H := hd h
  have hbl := h.blk.lt
  have HN := hd hnew
  have HLow := hd hlow
  have HBlow := hd h.low
  have HMk := hd (mark_any b tv mv nx w h.blk (by omega) hx2)
  have HB1 := hd (h.count (nx - 1))
  have HV := hd hv
  have HT : Hid (∀ g, Value.ownBlock (.slice none 0 0) = some g → g < w.heap.size ∧ ∃ cur, w.heap[g]? = some (.cells cur 46 (0, 0))) := fun g hg => by
    rcases hv with ⟨q, _⟩ | ⟨g', cap', cur, q, hh, _⟩
    · rw [q] at hg; simp [Value.ownBlock] at hg
    · rw [q] at hg; simp [Value.ownBlock] at hg; subst hg; exact ⟨(Array.getElem?_eq_some_iff.1 hh).1, cur, hh⟩
  clear h hnew hlow hv
  obtain ⟨m, hmm⟩ : ∃ m, m = nx - 1 := ⟨_, rfl⟩
  have HMM := hd hmm
  have hm1 : -100000001 ≤ m := by omega
  have hm2 : m ≤ -1 := by omega
  rw [← hmm] at HMk HB1 HV
  clear hmm
  go_enter Tryz.func9, Tryz.ntmps9
  go_wp2_with fail
  refine HMk.out.mono ?_
  rintro e w' ⟨rfl, rfl⟩
  -- the world behind the mark, a letter
  obtain ⟨w1, hw1⟩ : ∃ w1, w1 = w.setCell ⟨b, 6, none⟩ (.int .i64 m) := ⟨_, rfl⟩
  rw [← hw1]
  have HL1 : Hid (Below base w w1) := by rw [hw1]; exact (Below.refl base w).setCell (p := ⟨b, 6, none⟩) HBlow.out _
  have hsz1 : w1.heap.size ≤ w.heap.size := by rw [hw1]; simp [World.setCell]
  have hsz1' : w.heap.size ≤ w1.heap.size := by rw [hw1]; simp [World.setCell]
  have HT1 : Hid (∀ g, Value.ownBlock (.slice none 0 0) = some g → g < w1.heap.size ∧ ∃ cur, w1.heap[g]? = some (.cells cur 46 (0, 0))) := fun g hg => by
    obtain ⟨q1, cur, q2⟩ := HT.out g hg
    refine ⟨by omega, cur, ?_⟩
    rw [hw1, Below.heap_setCell w _ _ g (fun e => tag_ne q2 H.out.blk (by decide) e)]; exact q2
  have HV1 : Hid (PartV w1 (.slice none 0 0) n 0 m) := HV.out.keep (fun g hg => by
    obtain ⟨q1, cur, q2⟩ := HT.out g hg
    rw [hw1, Below.heap_setCell w _ _ g (fun e => tag_ne q2 H.out.blk (by decide) e)])
  rw [← hw1] at HB1
  have HW1 := hd hw1
  clear hw1
  go_wp2
  have HB2 := hd (HB1.out.alloc (.cells #[.int .i64 m, .string ⟨#[]⟩, .int .i64 m, .int .i64 0] 46))
  have X2 : Blk (w1.alloc (.cells #[.int .i64 m, .string ⟨#[]⟩, .int .i64 m, .int .i64 0] 46)) w1.heap.size #[.int .i64 m, .string ⟨#[]⟩, .int .i64 m, .int .i64 0] 46 := Blk.new _ _ _
  have HV2 : Hid (PartV (w1.alloc (.cells #[.int .i64 m, .string ⟨#[]⟩, .int .i64 m, .int .i64 0] 46)) (.slice none 0 0) n 0 m) := HV1.out.keep (fun g hg => Below.heap_alloc w1 _ g (HT1.out g hg).1)
  obtain ⟨w2, hw2⟩ : ∃ w2, w2 = w1.alloc (.cells #[.int .i64 m, .string ⟨#[]⟩, .int .i64 m, .int .i64 0] 46) := ⟨_, rfl⟩
  rw [← hw2] at HB2 X2 HV2 ⊢
  have HL2 : Hid (Below base w w2) := by rw [hw2]; exact HL1.out.alloc (by omega) _
  have hsz2 : w1.heap.size + 1 ≤ w2.heap.size := by rw [hw2]; simp
  have HT2 : Hid (∀ g, Value.ownBlock (.slice none 0 0) = some g → g < w1.heap.size ∧ ∃ cur, w2.heap[g]? = some (.cells cur 46 (0, 0))) := fun g hg => by
    obtain ⟨q1, cur, q2⟩ := HT1.out g hg
    exact ⟨q1, cur, by rw [hw2, Below.heap_alloc w1 _ g q1]; exact q2⟩
  clear hw2
  go_loopw [6] (fun i wr => ∃ k : Nat, k ≤ n ∧ i = .int .i64 k ∧ Hid (PartV wr (.slice none 0 0) n k m) ∧ Hid (w2.grownBy wr (Value.ownBlock (.slice none 0 0)))) (fun i _ => n - (intOf i).toNat)
  case atStart => exact ⟨0, by omega, rfl, HV2, ⟨rfl, rfl, rfl, Nat.le_refl _, fun _ _ _ => rfl⟩⟩
  case round =>
    obtain ⟨k, hk, rfl, HP, HG⟩ := hrel
    have Xr : Blk wr w1.heap.size #[.int .i64 m, .string ⟨#[]⟩, .int .i64 m, .int .i64 0] 46 := by
      unfold Blk at X2 ⊢
      rw [HG.out.block _ (by omega) (by intro e; have := (HT2.out _ e.symm).1; omega)]; exact X2
    obtain ⟨⟨x0, x1, x2, x3⟩, -⟩ := Blk4 Xr
    have hszr := HG.out.size
    by_cases hlt : k < n
    · exact absurd hlt (by omega)
    · have hkn : n = k := by omega
      subst hkn
      have HF := hd HP.out.done
      have HBr := hd (HB2.out.row (v := .slice none 0 0) HG.out (fun g hg => (HT2.out g hg).2) HN.out)
      have HLr : Hid (Below base w wr) := HL2.out.grown HG.out (by omega) HLow.out
      clear HP
      go_wp2_with (first
        | (at_builtin; refine wpList_append_mark rfl (.tmp 25) (.tmp 27) rfl m _ n 1 rfl (HF.out.keep (fun g hg => Below.heap_alloc wr _ g (HF.out.lt g hg).1)) ⟨wr.heap.size, 0, none⟩ 1 rfl (news_cells wr [.int .i64 m, .string ⟨#[]⟩, .int .i64 m, .int .i64 0] _ _ rfl) (by omega) ?_)
        | fail)
      intro a1 p1 w3 hone hg3 hall3 hown3
      have Xs : Blk w3 w1.heap.size #[.int .i64 m, .string ⟨#[]⟩, .int .i64 m, .int .i64 0] 46 := by
        have := Xr.alloc (.cells #[.int .i64 m, .string ⟨#[]⟩, .int .i64 m, .int .i64 0] 46)
        unfold Blk at this ⊢
        rw [hg3.block _ (by simp; omega) (by intro e; have := (HT2.out _ e.symm).1; omega)]; exact this
      obtain ⟨⟨y0, y1, y2, y3⟩, -⟩ := Blk4 Xs
      have hsz3 := hg3.size
      simp only [World.size_alloc] at hsz3
      have HB3 := hd ((HBr.out.alloc (.cells #[.int .i64 m, .string ⟨#[]⟩, .int .i64 m, .int .i64 0] 46)).row (v := .slice none 0 0) hg3 (fun g hg => by
        obtain ⟨q1, cur, q2⟩ := HF.out.lt g hg
        exact ⟨cur, by rw [Below.heap_alloc wr _ g q1]; exact q2⟩) HN.out)
      have HL3 : Hid (Below base w w3) := (HLr.out.alloc (by omega) _).grown hg3 (by simp; omega) HLow.out
      have HF3 := hd (hall3 _ _ (HF.out.keep (fun g hg => Below.heap_alloc wr _ g (HF.out.lt g hg).1)))
      have HO3 : Hid (FullV w3 (.slice a1 (n + 1) p1) (n + 1) m ∧ ∀ g, Value.ownBlock (.slice a1 (n + 1) p1) = some g → base ≤ g) := ⟨hone, fun g hg => by
        rcases hown3 with q | q
        · exact HLow.out g (q ▸ hg)
        · have := q g hg; try simp only [World.size_alloc] at this
          omega⟩
      clear hone hg3 hall3 hown3 x0 x1 x2
      go_wp2_with (first
        | (at_builtin; refine wpList_append_mark rfl (.tmp 29) (.tmp 32) rfl m _ n 2 rfl (HF3.out.keep (fun g hg => Below.heap_alloc w3 _ g (HF3.out.lt g hg).1)) ⟨w3.heap.size, 0, none⟩ 2 rfl (news_cells w3 [.int .i64 m, .string ⟨#[]⟩, .int .i64 m, .int .i64 0, .int .i64 m, .string ⟨#[]⟩, .int .i64 m, .int .i64 0] _ _ rfl) (by omega) ?_)
        | fail)
      intro a2 p2 w4 htwo hg4 hall4 hown4
      have Xt : Blk w4 w1.heap.size #[.int .i64 m, .string ⟨#[]⟩, .int .i64 m, .int .i64 0] 46 := by
        have := Xs.alloc (.cells #[.int .i64 m, .string ⟨#[]⟩, .int .i64 m, .int .i64 0, .int .i64 m, .string ⟨#[]⟩, .int .i64 m, .int .i64 0] 46)
        unfold Blk at this ⊢
        rw [hg4.block _ (by simp only [World.size_alloc]; omega) (by intro e; have := (HT2.out _ e.symm).1; omega)]; exact this
      have hsz4 := hg4.size
      simp only [World.size_alloc] at hsz4
      have HB4 := hd ((HB3.out.alloc (.cells #[.int .i64 m, .string ⟨#[]⟩, .int .i64 m, .int .i64 0, .int .i64 m, .string ⟨#[]⟩, .int .i64 m, .int .i64 0] 46)).row (v := .slice none 0 0) hg4 (fun g hg => by
        obtain ⟨q1, cur, q2⟩ := HF3.out.lt g hg
        exact ⟨cur, by rw [Below.heap_alloc w3 _ g q1]; exact q2⟩) HN.out)
      have HL4 : Hid (Below base w w4) := (HL3.out.alloc (by omega) _).grown hg4 (by simp only [World.size_alloc]; omega) HLow.out
      have HF4 := hd (hall4 _ _ (HF3.out.keep (fun g hg => Below.heap_alloc w3 _ g (HF3.out.lt g hg).1)))
      have HO4 : Hid (FullV w4 (.slice a1 (n + 1) p1) (n + 1) m ∧ ∀ g, Value.ownBlock (.slice a1 (n + 1) p1) = some g → base ≤ g) := ⟨hall4 _ _ (HO3.out.1.keep (fun g hg => Below.heap_alloc w3 _ g (HO3.out.1.lt g hg).1)), HO3.out.2⟩
      have HTw4 : Hid (FullV w4 (.slice a2 (n + 2) p2) (n + 2) m ∧ ∀ g, Value.ownBlock (.slice a2 (n + 2) p2) = some g → base ≤ g) := ⟨htwo, fun g hg => by
        rcases hown4 with q | q
        · exact HLow.out g (q ▸ hg)
        · have := q g hg; try simp only [World.size_alloc] at this
          omega⟩
      clear htwo hg4 hall4 hown4 y0 y1 y2
      obtain ⟨⟨x0, x1, x2, x3⟩, -⟩ := Blk4 Xt
      go_wp2_with (first
        | (at_builtin; refine wpList_append_mark rfl (.tmp 34) (.tmp 38) rfl m _ n 3 rfl (HF4.out.keep (fun g hg => Below.heap_alloc w4 _ g (HF4.out.lt g hg).1)) ⟨w4.heap.size, 0, none⟩ 3 rfl (news_cells w4 [.int .i64 m, .string ⟨#[]⟩, .int .i64 m, .int .i64 0, .int .i64 m, .string ⟨#[]⟩, .int .i64 m, .int .i64 0, .int .i64 m, .string ⟨#[]⟩, .int .i64 m, .int .i64 0] _ _ rfl) (by omega) ?_)
        | fail)
      intro a3 p3 w5 hthree hg5 hall5 hown5
      have hsz5 := hg5.size
      simp only [World.size_alloc] at hsz5
      have HB5 := hd ((HB4.out.alloc (.cells #[.int .i64 m, .string ⟨#[]⟩, .int .i64 m, .int .i64 0, .int .i64 m, .string ⟨#[]⟩, .int .i64 m, .int .i64 0, .int .i64 m, .string ⟨#[]⟩, .int .i64 m, .int .i64 0] 46)).row (v := .slice none 0 0) hg5 (fun g hg => by
        obtain ⟨q1, cur, q2⟩ := HF4.out.lt g hg
        exact ⟨cur, by rw [Below.heap_alloc w4 _ g q1]; exact q2⟩) HN.out)
      have HL5 : Hid (Below base w w5) := (HL4.out.alloc (by omega) _).grown hg5 (by simp only [World.size_alloc]; omega) HLow.out
      have HF5 := hd (hall5 _ _ (HF4.out.keep (fun g hg => Below.heap_alloc w4 _ g (HF4.out.lt g hg).1)))
      have HO5 : Hid (FullV w5 (.slice a1 (n + 1) p1) (n + 1) m ∧ ∀ g, Value.ownBlock (.slice a1 (n + 1) p1) = some g → base ≤ g) := ⟨hall5 _ _ (HO4.out.1.keep (fun g hg => Below.heap_alloc w4 _ g (HO4.out.1.lt g hg).1)), HO4.out.2⟩
      have HTw5 : Hid (FullV w5 (.slice a2 (n + 2) p2) (n + 2) m ∧ ∀ g, Value.ownBlock (.slice a2 (n + 2) p2) = some g → base ≤ g) := ⟨hall5 _ _ (HTw4.out.1.keep (fun g hg => Below.heap_alloc w4 _ g (HTw4.out.1.lt g hg).1)), HTw4.out.2⟩
      have HTh5 : Hid (FullV w5 (.slice a3 (n + 3) p3) (n + 3) m ∧ ∀ g, Value.ownBlock (.slice a3 (n + 3) p3) = some g → base ≤ g) := ⟨hthree, fun g hg => by
        rcases hown5 with q | q
        · exact HLow.out g (q ▸ hg)
        · have := q g hg; try simp only [World.size_alloc] at this
          omega⟩
      clear hthree hg5 hall5 hown5 x0 x1 x2
      have d0 : w5.cell? ⟨b, 2, none⟩ = some tv := HB5.out.blk.cell 2
      have o1 := HO5.out.1.oneCell
      have o2 := HTw5.out.1.oneCell
      have o3 := HTh5.out.1.oneCell
      have o0 := HF5.out.oneCell
      have O := hd (And.intro o0 (And.intro o1 (And.intro o2 o3)))
      clear o0 o1 o2 o3
      go_wp2_with (first
        | (at_builtin; refine wpList_append_own _ rfl (.tmp 44) (.tmp 49) 26 rfl base 33 i33 (.slice none 0 0) 1 24 Tryz.underlying26 hi33 hz33 hs33 hb33 rfl (by decide) tv txs.length txs rfl (HB5.out.toks.alloc _) ⟨w5.heap.size, 0, none⟩ 4 4 [.slice none 0 0, (.slice a1 (n + 1) p1), (.slice a2 (n + 2) p2), (.slice a3 (n + 3) p3)] rfl rfl (news_cells w5 [.slice none 0 0, (.slice a1 (n + 1) p1), (.slice a2 (n + 2) p2), (.slice a3 (n + 3) p3)] _ _ rfl) (by intro u hu; simp only [List.mem_cons, List.not_mem_nil, or_false] at hu; rcases hu with rfl | rfl | rfl | rfl; exact O.out.1; exact O.out.2.1; exact O.out.2.2.1; exact O.out.2.2.2) (by unfold maxLen; omega) (by omega) (by simp only [World.size_alloc]; omega) ?_)
        | fail)
      intro tv' w6 hown6 hg6 _
      obtain ⟨ta, tc, htv⟩ : ∃ a c, tv' = .slice a (txs.length + 4) c := by
        rcases hown6.2 with ⟨_, e⟩ | ⟨g, cp, cur, q, _⟩
        · omega
        · exact ⟨_, _, q⟩
      rw [htv] at hown6 ⊢
      clear htv
      have Z5 := HB5.out.alloc (.cells #[.slice none 0 0, .slice a1 (n + 1) p1, .slice a2 (n + 2) p2, .slice a3 (n + 3) p3] 33)
      have P6 := Z5.putToks (txs' := txs ++ [.slice none 0 0, .slice a1 (n + 1) p1, .slice a2 (n + 2) p2, .slice a3 (n + 3) p3]) hg6 (by rw [List.length_append]; exact hown6)
      have hszb := hg6.size
      simp only [World.size_alloc] at hszb
      have B6 : Blk w6 b (bookV tv mv m) 29 := by
        have := Z5.blk
        unfold Blk at this ⊢
        rw [hg6.block b Z5.blk.lt (by
          cases ht : tv.ownBlock with
          | none => simp
          | some g => obtain ⟨cur, hc⟩ := own_tag Z5.toks ht; intro e; exact tag_ne Z5.blk hc (by decide) (Option.some.inj e))]; exact this
      have HL6 : Hid (Below base w w6) := (HL5.out.alloc (by omega) _).grown hg6 (by simp only [World.size_alloc]; omega) (fun q hq => (HB5.out.toks.lt q hq).1)
      have HL7 : Hid (Below base w (w6.setCell ⟨b, 2, none⟩ (.slice ta (txs.length + 4) tc))) := HL6.out.setCell (p := ⟨b, 2, none⟩) HBlow.out _
      have HB7 := hd P6.1
      have HF7 := hd P6.2
      have r0 : w6.cell? ⟨b, 2, none⟩ = some tv := B6.cell 2
      have r1 : w6.cell? ⟨b, 3, none⟩ = some mv := B6.cell 3
      have r2 := B6.free 2
      have r3 := B6.free 3
      have hb6 : b < w6.heap.size := B6.lt
      clear hown6 hg6 P6 Z5 B6 d0
      go_wp2_with (first
        | (at_builtin; refine wpList_append_own _ rfl (.tmp 57) (.tmp 62) 25 rfl base 3 i3 (.int .i64 0) 1 8 Tryz.underlying25 hi3 hz3 hs3 hb3 rfl (by decide) mv mxs.length mxs rfl (HB7.out.mks.alloc _) ⟨w6.heap.size, 0, none⟩ 4 4 [.int .i64 m, .int .i64 m, .int .i64 m, .int .i64 m] rfl rfl (news_cells (w6.setCell ⟨b, 2, none⟩ (.slice ta (txs.length + 4) tc)) [.int .i64 m, .int .i64 m, .int .i64 m, .int .i64 m] _ _ (size_set6 _ _ _).symm) (by intro u hu; simp only [List.mem_cons, List.not_mem_nil, or_false] at hu; rcases hu with rfl | rfl | rfl | rfl <;> rfl) (by unfold maxLen; omega) (by omega) (by simp only [World.size_alloc, size_set6]; omega) ?_)
        | fail)
      intro mv' w8 hown8 hg8 _
      obtain ⟨ma, mc, hmv⟩ : ∃ a c, mv' = .slice a (mxs.length + 4) c := by
        rcases hown8.2 with ⟨_, e⟩ | ⟨g, cp, cur, q, _⟩
        · omega
        · exact ⟨_, _, q⟩
      rw [hmv] at hown8 ⊢
      clear hmv
      have Z7 := HB7.out.alloc (.cells #[.int .i64 m, .int .i64 m, .int .i64 m, .int .i64 m] 3)
      have P8 := Z7.putMks (mxs' := mxs ++ [.int .i64 m, .int .i64 m, .int .i64 m, .int .i64 m]) hg8 (by rw [List.length_append]; exact hown8)
      have B8 : Blk w8 b (bookV (.slice ta (txs.length + 4) tc) mv m) 29 := by
        have := Z7.blk
        unfold Blk at this ⊢
        rw [hg8.block b Z7.blk.lt (by
          cases ht : mv.ownBlock with
          | none => simp
          | some g => obtain ⟨cur, hc⟩ := own_tag Z7.mks ht; intro e; exact tag_ne Z7.blk hc (by decide) (Option.some.inj e))]; exact this
      have HL8 : Hid (Below base w w8) := (HL7.out.alloc (by rw [size_set6]; omega) _).grown hg8 (by simp only [World.size_alloc, size_set6]; omega) (fun q hq => (HB7.out.mks.lt q hq).1)
      have HL9 : Hid (Below base w (w8.setCell ⟨b, 3, none⟩ (.slice ma (mxs.length + 4) mc))) := HL8.out.setCell (p := ⟨b, 3, none⟩) HBlow.out _
      have HB9 := hd P8.1
      have HF9 : Hid (∀ u q, FullV w5 u q m → FullV (w8.setCell ⟨b, 3, none⟩ (.slice ma (mxs.length + 4) mc)) u q m) := fun u q hu => P8.2 u q m ((HF7.out u q m (hu.keep (fun g hg => Below.heap_alloc w5 _ g (hu.lt g hg).1))).keep (fun g hg => Below.heap_alloc _ _ g ((HF7.out u q m (hu.keep (fun g hg => Below.heap_alloc w5 _ g (hu.lt g hg).1))).lt g hg).1))
      have s1 : w8.cell? ⟨b, 3, none⟩ = some mv := B8.cell 3
      have s2 := B8.free 3
      clear hown8 hg8 P8 Z7 B8 r0 r1 r2 r3
      go_wp2
      go_end0
      refine ⟨rfl, .slice a1 (n + 1) p1, .slice a2 (n + 2) p2, .slice a3 (n + 3) p3, .slice ta (txs.length + 4) tc, .slice ma (mxs.length + 4) mc, ?_, HL9.out⟩
      rw [← HMM.out]
      have K := HB9.out
      refine ⟨K.blk, K.low, K.toks, K.mks, ?_, ?_⟩
      · intro e he
        simp only [List.mem_append, List.mem_cons, List.not_mem_nil, or_false] at he
        rcases he with he | rfl | rfl | rfl | rfl
        · exact K.full e he
        · exact ⟨HF9.out _ _ HF5.out, by show n ≤ 80010; omega⟩
        · exact ⟨HF9.out _ _ HO5.out.1, by show n + 1 ≤ 80010; omega⟩
        · exact ⟨HF9.out _ _ HTw5.out.1, by show n + 2 ≤ 80010; omega⟩
        · exact ⟨HF9.out _ _ HTh5.out.1, by show n + 3 ≤ 80010; omega⟩
      · intro e he
        simp only [List.mem_append, List.mem_cons, List.not_mem_nil, or_false] at he
        rcases he with he | rfl | rfl | rfl | rfl
        · exact K.own e he
        · exact HLow.out
        · exact HO5.out.2
        · exact HTw5.out.2
        · exact HTh5.out.2

/-- 'ownsNodes': whatever the list. -/
theorem owns_any (w : World) (base b : Nat) (es : List En) (txs mxs : List Value) (nx : Int) (tv mv : Value) (h : Bk w base b es txs mxs nx tv mv) (v : Value) (n : Nat) (xs : List Value) (hn : n ≤ 80000)
    (hv : w.ownsRow base 46 4 v n xs) (hnew : ∀ e ∈ es, ∀ g, e.v.ownBlock = some g → v.ownBlock ≠ some g)
    (ht : txs.length ≤ 10000000) (hm : mxs.length ≤ 10000000) (hx1 : -100000000 ≤ nx) (hx2 : nx ≤ 0) (hbw : base ≤ w.heap.size) :
    Calls Tryz.prog 9 #[.pointer (some ⟨b, 0, none⟩), v] w fun e w' => e = .returned (.tuple #[]) ∧ OwnsV w base b es txs mxs nx v n w' := by
  have hp := PartV.start hv (nx - 1)
  have hl := fun g hg => (hv.lt g hg).1
  rcases hv.2 with ⟨rfl, hn0⟩ | ⟨g, cap, cur, rfl, _⟩
  · exact owns_nil w base b es txs mxs nx tv mv h n hn hp hl hnew ht hm hx1 hx2 hbw (by omega)
  · exact owns_some w base b es txs mxs nx tv mv h g cap n hn hp hl hnew ht hm hx1 hx2 hbw

end Nl
end Go.Proofs.YtcdgihdhpaipaaaGreatDoor

namespace Go.Proofs.YtcdgihdhpaipaaaGreatDoor
open Go.RowKit
namespace Nl
set_option linter.unusedSimpArgs false
set_option linter.unusedVariables false

theorem row_cells {w : World} {base : Nat} {e : TypeId} {v : Value} {xs : List Value} (h : w.ownsRow base e 1 v xs.length xs) (hne : 0 < xs.length) : ∃ g cap, v = .slice (some ⟨g, 0, none⟩) xs.length cap ∧ xs.length ≤ cap ∧ cap ≤ maxLen ∧ ∀ k u, xs[k]? = some u → w.cell? ⟨g, k, none⟩ = some u := by
  rcases h.2 with ⟨_, hn⟩ | ⟨g, cap, cur, rfl, hb, hg, h1, h2, h3, h4⟩
  · omega
  · refine ⟨g, cap, rfl, h1, h2, fun k u hu => ?_⟩
    have := h.cells (g := g) rfl k u hu
    simpa [Addr.add_lit] using this

theorem full_cells {w : World} {v : Value} {n : Nat} {m : Int} (h : FullV w v n m) : (∃ a c, v = .slice a n c) ∧ ∀ k, k < n → ∃ g cap, v = .slice (some ⟨g, 0, none⟩) n cap ∧ n ≤ cap ∧ cap ≤ maxLen ∧ w.cell? ⟨g, k * 4, none⟩ = some (.int .i64 m) ∧ w.cell? ⟨g, k * 4 + 1, none⟩ = some (.string ⟨#[]⟩) ∧ w.cell? ⟨g, k * 4 + 2, none⟩ = some (.int .i64 m) ∧ w.cell? ⟨g, k * 4 + 3, none⟩ = some (.int .i64 0) := by
  rcases h with ⟨rfl, rfl⟩ | ⟨g, cap, cur, rfl, hg, h1, h2, h3, h4⟩
  · exact ⟨⟨_, _, rfl⟩, fun k hk => by omega⟩
  · refine ⟨⟨_, _, rfl⟩, fun k hk => ⟨g, cap, rfl, h1, h2, ?_, ?_, ?_, ?_⟩⟩
    · rw [cell_of_row w g _ cur _ _ hg, h4 _ (by omega), (mcell_at m k).1]
    · rw [cell_of_row w g _ cur _ _ hg, h4 _ (by omega), (mcell_at m k).2.1]
    · rw [cell_of_row w g _ cur _ _ hg, h4 _ (by omega), (mcell_at m k).2.2.1]
    · rw [cell_of_row w g _ cur _ _ hg, h4 _ (by omega), (mcell_at m k).2.2.2]

set_option maxRecDepth 100000 in
set_option maxHeartbeats 2000000 in
theorem looks_any (w : World) (base b : Nat) (es : List En) (nx : Int) (tv mv : Value) (h : Bk w base b es (es.map (·.v)) (es.map fun e => .int .i64 e.m) nx tv mv) (hN : es.length ≤ 10000000) (hne : 0 < es.length) :
    Calls Tryz.prog 5 #[.pointer (some ⟨b, 0, none⟩)] w fun e w' => e = .returned (.bool true) ∧ w'.heap = w.heap ∧ Below w.heap.size w w' := by
  obtain ⟨gt, ct, rfl, hct1, hct2, hct⟩ := row_cells h.toks (by simpa using hne)
  obtain ⟨gm, cm, rfl, hcm1, hcm2, hcm⟩ := row_cells h.mks (by simpa using hne)
  simp only [List.length_map] at *
  have HF := hd h.full
  have HCT := hd hct
  have HCM := hd hcm
  have b0 : w.cell? ⟨b, 2, none⟩ = some (.slice (some ⟨gt, 0, none⟩) es.length ct) := h.blk.cell 2
  have b1 : w.cell? ⟨b, 3, none⟩ = some (.slice (some ⟨gm, 0, none⟩) es.length cm) := h.blk.cell 3
  have b2 : w.cell? ⟨b, 0, none⟩ = some (.slice none 0 0) := h.blk.cell 0
  have b4 : w.cell? ⟨b, 4, none⟩ = some (.slice none 0 0) := h.blk.cell 4
  have HB0 := hd b0
  have HB1 := hd b1
  have HB2 := hd b2
  have HB4 := hd b4
  unfold maxLen at hct2 hcm2
  clear hct hcm b0 b1 b4 h
  go_enter Tryz.func5, Tryz.ntmps5
  go_wp2
  refine wp_loop_rounds 1 ?_
  rw [rounds_succ]
  go_wp2
  go_loopw [5] (fun i wr => ∃ k : Nat, k ≤ es.length ∧ i = .int .i64 k ∧ Hid (wr.heap = w.heap ∧ Below w.heap.size w wr)) (fun i _ => es.length - (intOf i).toNat)
  case atStart => exact ⟨0, by omega, rfl, rfl, Below.refl _ _⟩
  case round =>
    obtain ⟨i, hi, rfl, HW⟩ := hrel
    have hcc : ∀ a, wr.cell? a = w.cell? a := fun a => by simp only [World.cell?, HW.out.1]
    have HCC := hd hcc
    clear hcc
    have b0 : wr.cell? ⟨b, 2, none⟩ = some (.slice (some ⟨gt, 0, none⟩) es.length ct) := (HCC.out _).trans HB0.out
    by_cases hlt : i < es.length
    · have hfe := HF.out es[i] (List.getElem_mem hlt)
      have ti : w.cell? ⟨gt, i, none⟩ = some es[i].v := HCT.out i _ (by simp [List.getElem?_eq_getElem hlt])
      have mi : w.cell? ⟨gm, i, none⟩ = some (.int .i64 es[i].m) := HCM.out i _ (by simp [List.getElem?_eq_getElem hlt])
      have TI := hd ti
      have MI := hd mi
      clear ti mi
      generalize es[i] = e at *
      obtain ⟨v, m, n⟩ := e
      simp only at hfe TI MI
      obtain ⟨hfull, hn⟩ := hfe
      obtain ⟨⟨ao, cp, rfl⟩, hcells⟩ := full_cells hfull
      have HCs := hd hcells
      clear hfull hcells
      have t1 : wr.cell? ⟨gt, i, none⟩ = some (.slice ao n cp) := (HCC.out _).trans TI.out
      go_wp2
      go_loopw [6] (fun q ws => ∃ k : Nat, k ≤ n ∧ q = .int .i64 k ∧ Hid (ws.heap = w.heap ∧ Below w.heap.size w ws)) (fun q _ => n - (intOf q).toNat)
      case atStart => exact ⟨0, by omega, rfl, HW⟩
      case round =>
        obtain ⟨k, hk, rfl, HS⟩ := hrel
        have hcs : ∀ a, wr.cell? a = w.cell? a := fun a => by simp only [World.cell?, HS.out.1]
        have HCS := hd hcs
        clear hcs b0 t1
        have b0 : wr.cell? ⟨b, 2, none⟩ = some (.slice (some ⟨gt, 0, none⟩) es.length ct) := (HCS.out _).trans HB0.out
        have b1 : wr.cell? ⟨b, 3, none⟩ = some (.slice (some ⟨gm, 0, none⟩) es.length cm) := (HCS.out _).trans HB1.out
        have t1 : wr.cell? ⟨gt, i, none⟩ = some (.slice ao n cp) := (HCS.out _).trans TI.out
        have m1 : wr.cell? ⟨gm, i, none⟩ = some (.int .i64 m) := (HCS.out _).trans MI.out
        have z1 : (0 : Int) ≤ (k : Int) := by omega
        have z2 : (0 : Int) ≤ (i : Int) := by omega
        by_cases hkl : k < n
        · obtain ⟨g, cap, hv, hc1, hc2, q0, q1, q2, q3⟩ := HCs.out k hkl
          simp only [Value.slice.injEq, true_and] at hv
          obtain ⟨rfl, rfl⟩ := hv
          unfold maxLen at hc2
          rw [← HCS.out] at q0 q1 q2 q3
          go_wp2
          go_region
          all_goals
            go_wp2
            go_roundw
            case rel => exact ⟨k + 1, by omega, by go_num, HS.out.1, HS.out.2.drew⟩
            case measure => simp [intOf]; omega
        · go_wp2
          go_roundw
          case rel => exact ⟨i + 1, by omega, by go_num, HS⟩
          case measure => simp [intOf]; omega
    · clear b0
      have b0 : wr.cell? ⟨b, 2, none⟩ = some (.slice (some ⟨gt, 0, none⟩) es.length ct) := (HCC.out _).trans HB0.out
      have b4 : wr.cell? ⟨b, 4, none⟩ = some (.slice none 0 0) := (HCC.out _).trans HB4.out
      go_wp2
      refine wp_loop_rounds 1 ?_
      rw [rounds_succ]
      go_wp2
      go_ret
      exact ⟨rfl, HW.out⟩

end Nl
end Go.Proofs.YtcdgihdhpaipaaaGreatDoor

namespace Go.Proofs.YtcdgihdhpaipaaaGreatDoor
open Go.RowKit
namespace Nl
set_option linter.unusedSimpArgs false
set_option linter.unusedVariables false

/-- What 'parseOf' leaves: the book with four lists more. -/
def ParOfV (w : World) (base b : Nat) (es : List En) (nx : Int) (w' : World) : Prop :=
  ∃ (es' : List En) (tv' mv' : Value), es'.length = es.length + 4 ∧ Bk w' base b es' (es'.map (·.v)) (es'.map fun e => .int .i64 e.m) (nx - 1) tv' mv' ∧ Below base w w'

set_option maxRecDepth 100000 in
set_option maxHeartbeats 2000000 in
theorem parseOf_any (w : World) (base b : Nat) (es : List En) (nx : Int) (tv mv : Value) (h : Bk w base b es (es.map (·.v)) (es.map fun e => .int .i64 e.m) nx tv mv) (s : ByteArray) (he : EnvP w) (hm : s.size ≤ maxLen)
    (hN : es.length ≤ 10000000) (hx1 : -100000000 ≤ nx) (hx2 : nx ≤ 0) (hbw : base ≤ w.heap.size) :
    Calls Tryz.prog 4 #[.pointer (some ⟨b, 0, none⟩), .string s] w fun e w' => e = .returned (.bool true) ∧ ParOfV w base b es nx w' := by
  have hes : ∀ e ∈ es, ∀ g, e.v.ownBlock = some g → g < w.heap.size := fun e he g hg => ((h.full e he).1.lt g hg).1
  have HES := hd hes
  clear hes
  go_enter Tryz.func4, Tryz.ntmps4
  go_wp2_with fail
  refine (cParse_any s w he hm).mono ?_
  rintro e w1 ⟨v, n, c, rfl, ⟨r, hr, ht1⟩, hb1⟩
  have HR := hd hr
  have HP := hd (Px.parse_meets hr)
  clear hr
  go_wp2_with fail
  refine (rParse_any s w1 hm _ HP.out).mono ?_
  rintro e w2 ⟨v2, n2, c2, rfl, ht2, hb2⟩
  have HB2 : Hid (Below w.heap.size w w2) := hb1.trans (hb2.mono hb1.size)
  have hsz2 := HB2.out.size
  have hboth : ∃ l : List Px.Nd, l.length ≤ 80000 ∧ w2.ownsRow w.heap.size 46 4 v l.length (ndsV l) ∧ NdIs w2 w.heap.size v2 l ∧ n = n2 ∧ c = c2 := by
    rcases r with ⟨p, e⟩ | st
    · obtain ⟨rfl, rfl, rfl⟩ := ht1
      obtain ⟨rfl, rfl, rfl⟩ := ht2
      exact ⟨[], by simp, World.ownsRow_nil _ _ _ _, NdIs.nil _ _, rfl, rfl⟩
    · obtain ⟨o1, rfl, rfl⟩ := ht1
      obtain ⟨o2, hl2, rfl, rfl⟩ := ht2
      exact ⟨st.nodes, hl2, owns_below o1 hb2, o2.lower hb1.size, rfl, rfl⟩
  obtain ⟨l, htl, O1, O2, rfl, rfl⟩ := hboth
  clear ht1 ht2 hb1 hb2 HR HP
  have hB2 := h.below HB2.out
  go_wp2_with fail
  refine (same_any v v2 l _ _ w2 (by omega) (NdIs.of_own O1) O2).mono ?_
  rintro e w3 ⟨rfl, hh3, hb3⟩
  have hB3 := hB2.below hb3
  have O3 := owns_below O1 hb3
  have HL3 : Hid (Below base w w3) := (HB2.out.mono hbw).trans (hb3.mono (by omega))
  have hsz3 := hb3.size
  clear hh3 hb3 O2 O1
  go_wp2_with fail
  refine (owns_any w3 base b es _ _ nx tv mv hB3 v l.length _ htl (owns_base O3 hbw) (fun e he g hg => ?_) (by simpa using hN) (by simpa using hN) hx1 hx2 (by omega)).mono ?_
  · intro q
    have := (O3.lt g q).1
    have := HES.out e he g hg
    omega
  rintro e w4 ⟨rfl, one, two, three, tv', mv', hB4, hb4⟩
  go_wp2_with (go_at_call 10; refine (num_any _ _).mono ?_; rintro e w' ⟨rfl, rfl⟩)
  go_ret
  exact ⟨rfl, es ++ [⟨v, nx - 1, l.length⟩, ⟨one, nx - 1, l.length + 1⟩, ⟨two, nx - 1, l.length + 2⟩, ⟨three, nx - 1, l.length + 3⟩], tv', mv', by simp, by rw [List.map_append, List.map_append]; exact hB4, HL3.out.trans hb4⟩

/-- The state of the loop of the statement. -/
structure Lst (W : World) (k : Nat) (wr : World) : Prop where
  book : ∃ (es : List En) (tv mv : Value), Bk wr W.heap.size W.heap.size es (es.map (·.v)) (es.map fun e => .int .i64 e.m) (-(k : Int)) tv mv ∧ es.length = 4 * k
  below : Below W.heap.size W wr

set_option maxRecDepth 100000 in
set_option maxHeartbeats 2000000 in
theorem parses_any (W : World) (ao : Option Addr) (len cap : Nat) (ss : List ByteArray) (he : EnvP W) (hlen : len ≤ 1048576) (hl2 : len ≤ ss.length)
    (hcells : ∀ i, i < len → ∃ a off, ao = some ⟨a, off, none⟩ ∧ a < W.heap.size ∧ W.cell? ⟨a, off + i, none⟩ = some (.string (ss.getD i ByteArray.empty))) (hsz : ∀ i, (ss.getD i ByteArray.empty).size ≤ maxLen) :
    Calls Tryz.prog 3 #[.slice ao len cap] W fun e w' => e = .returned (.bool true) ∧ Below W.heap.size W w' := by
  have HE := hd he
  have HC := hd hcells
  have HZ := hd hsz
  clear he hcells hsz
  go_enter Tryz.func3, Tryz.ntmps3
  go_wp2
  go_loopw [4] (fun i wr => ∃ k : Nat, k ≤ len ∧ i = .int .i64 k ∧ Hid (Lst W k wr)) (fun i _ => len - (intOf i).toNat)
  case atStart =>
    refine ⟨0, by omega, rfl, ⟨[], .slice none 0 0, .slice none 0 0, ⟨Blk.new _ _ _, Nat.le_refl _, World.ownsRow_nil _ _ _ _, World.ownsRow_nil _ _ _ _, by simp, by simp⟩, rfl⟩, (Below.refl _ _).alloc (Nat.le_refl _) _⟩
  case round =>
    obtain ⟨k, hk, rfl, HL⟩ := hrel
    by_cases hlt : k < len
    · obtain ⟨a, off, hao, halt, hcell⟩ := HC.out k hlt
      obtain ⟨es, tv, mv, hB, hel⟩ := HL.out.book
      have hbel := HL.out.below
      have hc1 : wr.cell? ⟨a, off + k, none⟩ = some (.string (ss.getD k ByteArray.empty)) := (hbel.cell (p := ⟨a, off + k, none⟩) halt).trans hcell
      have hz1 := HZ.out k
      generalize ss.getD k ByteArray.empty = s at *
      have henv := HE.out.below hbel
      have hwsz := hbel.size
      have HEL := hd hel
      have hel2 : es.length ≤ 4194304 := by omega
      rw [hao]
      clear hcell hel
      go_wp2_with fail
      refine (parseOf_any wr W.heap.size W.heap.size es (-(k : Int)) tv mv hB s henv hz1 (by omega) (by omega) (by omega) hwsz).mono ?_
      rintro e w1 ⟨rfl, es', tv', mv', hel1, hB1, hb1⟩
      go_wp2_with fail
      refine (looks_any w1 W.heap.size W.heap.size es' (-(k : Int) - 1) tv' mv' hB1 (by omega) (by omega)).mono ?_
      rintro e w2 ⟨rfl, hh2, hb2⟩
      have hb1s := hb1.size
      have hB2 := hB1.below hb2
      have hLst : Lst W (k + 1) w2 := by
        refine ⟨⟨es', tv', mv', ?_, by have := HEL.out; omega⟩, (hbel.trans hb1).trans (hb2.mono (by omega))⟩
        rw [show (-((k + 1 : Nat) : Int)) = -(k : Int) - 1 from by omega]
        exact hB2
      clear hB1 hB2 hb1 hb2 hh2 hB hel1
      go_wp2
      go_roundw
      case rel => exact ⟨k + 1, by omega, by go_num, hLst⟩
      case measure => simp [intOf]; omega
    · go_wp2
      go_ret
      exact ⟨rfl, HL.out.below⟩
end Nl
end Go.Proofs.YtcdgihdhpaipaaaGreatDoor

namespace Go.Proofs.YtcdgihdhpaipaaaGreatDoor
open Go.RowKit Go.Shelf Go.Lib
set_option linter.unusedSimpArgs false

theorem bytes_eq {s : ByteArray} {x : List UInt8} (h : s.data.toList = x) : s = ⟨x.toArray⟩ := by
  cases s with
  | mk d => cases d with
    | mk l => simp at h; subst h; rfl

/-- An array of strings that reads as these texts holds them, cell for cell. -/
theorem strs_of_reads {P : Program} {w : World} {nm : String} {g m : Nat} {t e : TypeId} (ss : List (List UInt8)) (hg : P.globalNamed nm = some g) (hty : (P.globals[g]?).map (·.type) = some t)
    (ht : P.underlying t = some (.array m e)) (he : P.underlying e = some .string) (hce : P.cellsOf e = 1) (hct : P.cellsOf t = m)
    (h : VarReads P w nm (.agg (ss.map fun x => .lit (.string x)))) : ∃ t' fr, w.heap[g]? = some (.cells (strRow ss) t' fr) := by
  obtain ⟨g', t', cs, fuel, p, hg', hty', hvar, hd⟩ := h
  obtain rfl := Option.some.inj (hg.symm.trans hg')
  obtain rfl := Option.some.inj (hty.symm.trans hty')
  have hcs : cs = strRow ss := by
    cases fuel with
    | zero => simp [DataW.trod] at hd
    | succ fuel =>
      simp only [DataW.trod, ht, hce, hct, Nat.mul_one] at hd
      split at hd
      · rename_i hl
        obtain ⟨xs, hm, hx⟩ := Option.map_eq_some_iff.1 hd
        have hxs : xs.map (·.1) = ss.map fun x => (DataW.lit (.string x) : DataW Unit) := by
          have := congrArg Prod.fst hx
          simpa using this
        have hxl : xs.length = m := by simpa using mapM_length hm
        have hzl : ss.length = m := by
          have := congrArg List.length hxs
          simp at this
          omega
        apply Array.ext'
        apply List.ext_getElem?
        intro i
        by_cases hi : i < m
        · obtain ⟨b, hb, hf⟩ := mapM_at hm i i (by simp [hi])
          obtain ⟨s, hc, rfl, _⟩ := DataW.trod_string he hf
          have h1 : cs.toList[i]? = some (.string s) := by
            have := congrArg (·[0]?) hc
            simpa [List.getElem?_take, List.getElem?_drop] using this
          have h2 : (xs.map (·.1))[i]? = some (DataW.lit (.string s.data.toList) : DataW Unit) := by simp [hb]
          rw [hxs] at h2
          simp only [List.getElem?_map, Option.map_eq_some_iff, DataW.lit.injEq, Lit.string.injEq] at h2
          obtain ⟨x, hx', hxx⟩ := h2
          rw [h1, bytes_eq hxx.symm]
          simp [strRow, hx']
        · rw [List.getElem?_eq_none (by omega), List.getElem?_eq_none (by simp [strRow]; omega)]
      · cases hd
  subst hcs
  simp only [World.var?, hg, Option.bind_some] at hvar
  split at hvar
  · rename_i c t2 fr hh
    cases hvar
    exact ⟨t2, fr, hh⟩
  · cases hvar

/-- An operator as a datum. -/
def opData (x : Nat × Lx.Bs × Nat) : DataW Unit := .agg [.lit (.int .i64 (x.2.2 : Int)), .lit (.string x.2.1), .lit (.int .i64 (x.1 : Int))]
theorem opsRow_length : ∀ l : List (Nat × Lx.Bs × Nat), (opsRow l).length = l.length * 3
  | [] => rfl
  | (a, s, k) :: r => by simp [opsRow, opsRow_length r]; omega
theorem opsRow_at : ∀ (l : List (Nat × Lx.Bs × Nat)) (i : Nat) (h : i < l.length), (opsRow l)[i * 3]? = some (.int .i64 (l[i].2.2 : Int)) ∧ (opsRow l)[i * 3 + 1]? = some (.string ⟨l[i].2.1.toArray⟩) ∧ (opsRow l)[i * 3 + 2]? = some (.int .i64 (l[i].1 : Int))
  | (a, s, k) :: r, 0, _ => ⟨rfl, rfl, rfl⟩
  | (a, s, k) :: r, i + 1, h => by
    have ih := opsRow_at r i (by simpa using h)
    have e : ∀ j, (opsRow ((a, s, k) :: r))[j + 3]? = (opsRow r)[j]? := by
      intro j
      show ([Value.int .i64 (k : Int), .string ⟨s.toArray⟩, .int .i64 (a : Int)] ++ opsRow r)[j + 3]? = _
      rw [List.getElem?_append_right (by simp)]
      simp
    rw [show (i + 1) * 3 = i * 3 + 3 from by omega, show i * 3 + 3 + 1 = (i * 3 + 1) + 3 from by omega, show i * 3 + 3 + 2 = (i * 3 + 2) + 3 from by omega, e, e, e]
    simpa using ih

/-- An array of operators that reads as these holds them, cell for cell. -/
theorem ops_of_reads {P : Program} {w : World} {nm : String} {g m : Nat} {t e : TypeId} {f0 f1 f2 : Field} (ss : List (Nat × Lx.Bs × Nat)) (hg : P.globalNamed nm = some g) (hty : (P.globals[g]?).map (·.type) = some t)
    (ht : P.underlying t = some (.array m e)) (he : P.underlying e = some (.struct #[f0, f1, f2])) (hce : P.cellsOf e = 3) (hct : P.cellsOf t = m * 3) (hm : ss.length = m)
    (u0 : P.underlying f0.type = some (.int .i64)) (u1 : P.underlying f1.type = some .string) (u2 : P.underlying f2.type = some (.int .i64)) (c0 : P.cellsOf f0.type = 1) (c1 : P.cellsOf f1.type = 1) (c2 : P.cellsOf f2.type = 1)
    (o0 : f0.offset = 0) (o1 : f1.offset = 1) (o2 : f2.offset = 2)
    (h : VarReads P w nm (.agg (ss.map opData))) : ∃ t' fr, w.heap[g]? = some (.cells (opsRow ss).toArray t' fr) := by
  obtain ⟨g', t', cs, fuel, p, hg', hty', hvar, hd⟩ := h
  obtain rfl := Option.some.inj (hg.symm.trans hg')
  obtain rfl := Option.some.inj (hty.symm.trans hty')
  have hlen : cs.toList.length = m * 3 := by
    cases fuel with
    | zero => simp [DataW.trod] at hd
    | succ fuel =>
      simp only [DataW.trod, ht] at hd
      split at hd
      · rename_i hl
        rw [hl, hct]
      · cases hd
  have key : ∀ i, (hi : i < m) → cs.toList[i * 3]? = some (.int .i64 ((ss[i]'(by omega)).2.2 : Int)) ∧ cs.toList[i * 3 + 1]? = some (.string ⟨(ss[i]'(by omega)).2.1.toArray⟩) ∧ cs.toList[i * 3 + 2]? = some (.int .i64 ((ss[i]'(by omega)).1 : Int)) := by
    intro i hi
    obtain ⟨fuel', d, q, hdi, hel⟩ := array_elem ht hd i hi
    have hi' : i < ss.length := by omega
    simp only [List.getElem?_map, List.getElem?_eq_getElem hi', Option.map_some, Option.some.injEq] at hdi
    subst hdi
    rw [hce] at hel
    obtain ⟨y0, y1, y2, n, hx, hl, h0, h1, h2⟩ := Go.Deep.trod_struct3 he hel
    rw [o0, c0] at h0
    rw [o1, c1] at h1
    rw [o2, c2] at h2
    obtain ⟨z0, a0, b0, _⟩ := DataW.trod_int u0 h0
    obtain ⟨z1, a1, b1, _⟩ := DataW.trod_string u1 h1
    obtain ⟨z2, a2, b2, _⟩ := DataW.trod_int u2 h2
    subst b0
    subst b1
    subst b2
    simp only [opData, Prod.mk.injEq, DataW.agg.injEq, List.cons.injEq, DataW.lit.injEq, Lit.int.injEq, Lit.string.injEq, true_and, and_true] at hx
    obtain ⟨⟨e0, e1, e2⟩, _⟩ := hx
    have g0 := congrArg (·[0]?) a0
    have g1 := congrArg (·[0]?) a1
    have g2 := congrArg (·[0]?) a2
    simp only [List.getElem?_take, List.getElem?_drop] at g0 g1 g2
    simp at g0 g1 g2
    refine ⟨?_, ?_, ?_⟩
    · rw [e0]; simpa using g0
    · rw [bytes_eq (s := z1) e1.symm] at g1; simpa using g1
    · rw [e2]; simpa using g2
  have hcs : cs = (opsRow ss).toArray := by
    apply Array.ext'
    apply List.ext_getElem?
    intro j
    by_cases hj : j < m * 3
    · have hi : j / 3 < m := by omega
      obtain ⟨k0, k1, k2⟩ := key (j / 3) hi
      obtain ⟨r0, r1, r2⟩ := opsRow_at ss (j / 3) (by omega)
      have h3 : j = j / 3 * 3 ∨ j = j / 3 * 3 + 1 ∨ j = j / 3 * 3 + 2 := by omega
      rcases h3 with e | e | e
      · rw [e, k0]; exact r0.symm
      · rw [e, k1]; exact r1.symm
      · rw [e, k2]; exact r2.symm
    · rw [List.getElem?_eq_none (by omega), List.getElem?_eq_none (by simp [opsRow_length]; omega)]
  subst hcs
  simp only [World.var?, hg, Option.bind_some] at hvar
  split at hvar
  · rename_i c t2 fr hh
    cases hvar
    exact ⟨t2, fr, hh⟩
  · cases hvar

/-- A variable that reads as an error holds an interface value. -/
theorem err_of_reads {P : Program} {w : World} {nm name : String} {g : Nat} {t : TypeId} {is : Array (String × TypeId)} {d : DataW Unit} (hg : P.globalNamed nm = some g) (hty : (P.globals[g]?).map (·.type) = some t)
    (ht : P.underlying t = some (.interface is)) (h : VarReads P w nm (.iface name d)) : ∃ te pe, w.cell? ⟨g, 0, none⟩ = some (.iface te pe) := by
  obtain ⟨g', t', cs, fuel, p, hg', hty', hvar, hd⟩ := h
  obtain rfl := Option.some.inj (hg.symm.trans hg')
  obtain rfl := Option.some.inj (hty.symm.trans hty')
  rw [World.var?_cell hg hvar 0, ← Array.getElem?_toList]
  generalize cs.toList = l at hd ⊢
  cases fuel with
  | zero => simp [DataW.trod] at hd
  | succ fuel =>
    match l, hd with
    | [], hd => simp [DataW.trod, ht] at hd
    | [v], hd =>
      cases v with
      | iface u x => exact ⟨u, x, rfl⟩
      | _ => simp [DataW.trod, ht] at hd
    | a :: b :: r, hd => simp [DataW.trod, ht] at hd
end Go.Proofs.YtcdgihdhpaipaaaGreatDoor

namespace Go.Proofs.YtcdgihdhpaipaaaGreatDoor
open Go.RowKit Go.Shelf Go.Lib
set_option linter.unusedSimpArgs false

theorem u8types : U8Types Tryz.prog Tryz.lays197_ren := ⟨by kernel_rfl, by kernel_rfl, by kernel_rfl, by kernel_rfl⟩
theorem u8extra : U8Extra Tryz.prog Tryz.lays197_ren := ⟨by kernel_rfl, by kernel_rfl, by kernel_rfl, by kernel_rfl, by kernel_rfl, by kernel_rfl, by kernel_rfl⟩
set_option maxRecDepth 100000 in
theorem accept_eq : (Rows.laid_unicode_utf8_acceptRanges : DataW Unit) = acceptData := by kernel_rfl
theorem first_eq : Rows.laid_unicode_utf8_first = firstData := Pinned.utf8First_eq
theorem keys_eq : (Rows.laid_clause_reader_keywords : DataW Unit) = .agg (Lx.keys.map fun x => .lit (.string x)) := by kernel_rfl
theorem signs_eq : (Rows.laid_clause_reader_signs : DataW Unit) = .agg (sgns.map fun x => .lit (.string x)) := by kernel_rfl
theorem ops_eq : (Rows.laid_clause_syntax_operators : DataW Unit) = .agg (Px.opTab.map opData) := by kernel_rfl

theorem room_of_shape {W : World} (h : W.ShapedOpen Tryz.prog) : 12 ≤ W.heap.size := by
  have hz : (((begin Tryz.prog (fun _ _ => 0) default).world.heap[12 - 1]?).bind Obj.row?).isSome = true := by kernel_rfl
  obtain ⟨⟨zero, t⟩, he⟩ := Option.isSome_iff_exists.1 hz
  obtain ⟨cs, hc, _⟩ := h.1 (12 - 1) zero t (of_decide_eq_true (by kernel_rfl)) he
  obtain ⟨hlt, _⟩ := Array.getElem?_eq_some_iff.1 hc
  exact hlt

theorem envP_of_reads {W : World} (ha : VarReads Tryz.prog W "unicode/utf8.acceptRanges" Rows.laid_unicode_utf8_acceptRanges) (hk : VarReads Tryz.prog W "clause/reader.keywords" Rows.laid_clause_reader_keywords)
    (hs : VarReads Tryz.prog W "clause/reader.signs" Rows.laid_clause_reader_signs) (hf : VarReads Tryz.prog W "unicode/utf8.first" Rows.laid_unicode_utf8_first)
    (ho : VarReads Tryz.prog W "clause/syntax.operators" Rows.laid_clause_syntax_operators) (hr : VarReads Tryz.prog W "strconv.ErrRange" Rows.laid_strconv_ErrRange) (hsh : W.ShapedOpen Tryz.prog) : EnvP W where
  env := {
    tabs := utf8Tabs_of_readsT u8types u8extra (first_eq ▸ hf) (accept_eq ▸ ha)
    kws := strs_of_reads (t := 211) (e := 9) (m := 27) Lx.keys (by kernel_rfl) (by kernel_rfl) (by kernel_rfl) (by kernel_rfl) (by kernel_rfl) (by kernel_rfl) (keys_eq ▸ hk)
    sgs := strs_of_reads (t := 196) (e := 9) (m := 16) sgns (by kernel_rfl) (by kernel_rfl) (by kernel_rfl) (by kernel_rfl) (by kernel_rfl) (by kernel_rfl) (signs_eq ▸ hs)
    room := room_of_shape hsh }
  ops := ops_of_reads (t := 235) (e := 234) (m := 14) Px.opTab (by kernel_rfl) (by kernel_rfl) (by kernel_rfl) Tryz.underlying234 (by kernel_rfl) (by kernel_rfl) rfl (by kernel_rfl) (by kernel_rfl) (by kernel_rfl) (by kernel_rfl) (by kernel_rfl) (by kernel_rfl) rfl rfl rfl (ops_eq ▸ ho)
  rng := err_of_reads (t := 183) (by kernel_rfl) (by kernel_rfl) Tryz.underlying183 hr
end Go.Proofs.YtcdgihdhpaipaaaGreatDoor

