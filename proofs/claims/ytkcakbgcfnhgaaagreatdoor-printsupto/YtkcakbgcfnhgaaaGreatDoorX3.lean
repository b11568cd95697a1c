/- Parts of the proof: CpB CpC Ra Wa Wb Val -/
import Derived.Test.YtkcakbgcfnhgaaaGreatDoorX2
import Derived.Test.YtkcakbgcfnhgaaaGreatDoorXShelfB
import Derived.Test.YtkcakbgcfnhgaaaGreatDoorX1
import Derived.Lib.ValidLaws
import Derived.Lib.IndexAny
namespace Go.Proofs.YtkcakbgcfnhgaaaGreatDoor
set_option linter.unusedSimpArgs false
set_option linter.unusedVariables false
set_option maxRecDepth 100000
set_option maxHeartbeats 16000000
open Go.RowKit
theorem grownBy_alloc {w w1 : World} {row : Option Nat} (h : w.grownBy w1 row) (o : Obj) : w.grownBy (w1.alloc o) row :=
 ⟨h.os, h.tape, h.output, by have := h.size; simp; omega, fun k hk hne => by
  rw [← h.block k hk hne]
  exact heap_alloc_old w1 o (Nat.lt_of_lt_of_le hk h.size)⟩
def opAgg (x : Nat × Lx.Bs × Nat) : Value := .agg #[.int .i64 (x.2.2 : Int), .string ⟨x.2.1.toArray⟩, .int .i64 (x.1 : Int)]
def opK (k : Nat) : Nat × Lx.Bs × Nat := Px.opTab.getD k (0, [], 0)
theorem index_op (k : Nat) (h : k < 14) (w : World) : (Instr.index 269 (.agg (opsRow Px.opTab).toArray) (.int .i64 (k : Int))).run Tryz.prog w = .ok (opAgg (opK k)) w := by
 have : k = 0 ∨ k = 1 ∨ k = 2 ∨ k = 3 ∨ k = 4 ∨ k = 5 ∨ k = 6 ∨ k = 7 ∨ k = 8 ∨ k = 9 ∨ k = 10 ∨ k = 11 ∨ k = 12 ∨ k = 13 := by omega
 rcases this with rfl | rfl | rfl | rfl | rfl | rfl | rfl | rfl | rfl | rfl | rfl | rfl | rfl | rfl
 all_goals (show Sem.run _ _ _ = _; kernel_rfl)
def ev : Px.E → Value
 | .null => .iface 190 (.agg #[])
 | .bool b => .iface 192 (.agg #[.bool b])
 | .num z => .iface 194 (.agg #[.int .i64 z])
 | .str s => .iface 196 (.agg #[.string ⟨s.toArray⟩])
 | .nm s => .iface 198 (.agg #[.string ⟨s.toArray⟩])
 | .un k e => .iface 200 (.agg #[.int .i64 (k : Int), ev e])
 | .bin k a b => .iface 202 (.agg #[.int .i64 (k : Int), ev a, ev b])
section
namespace Px
open Lx (Bs Tok)
def pkN : List Nd → Int
 | [] => 0
 | x :: _ => x.kind
def rA (x : Nd) : Option E :=
 if x.kind = 14 then if bareN x 0 = true then some .null else none
 else if x.kind = 15 then if x.text = [] ∧ x.kids = 0 ∧ (x.num = 0 ∨ x.num = 1) then some (.bool (decide (x.num = 1))) else none
 else if x.kind = 16 then if x.text = [] ∧ x.kids = 0 then some (.num x.num) else none
 else if x.kind = 17 then if Lx.validN x.text = true ∧ x.num = 0 ∧ x.kids = 0 then some (.str x.text) else none
 else if x.kind = 18 then if isName x.text = true ∧ x.num = 0 ∧ x.kids = 0 then some (.nm x.text) else none
 else none
def rE : Nat → List Nd → Option (E × List Nd)
 | 0, _ => none
 | _ + 1, [] => none
 | f + 1, x :: r =>
  if x.kind = 19 ∨ x.kind = 20 ∨ x.kind = 21 ∨ x.kind = 22 then
    if bareN x 1 = true ∧ ¬ (x.kind = 19 ∧ pkN r = 16) then (rE f r).map fun y => (.un x.kind.toNat y.1, y.2) else none
  else if 23 ≤ x.kind ∧ x.kind ≤ 36 then
    if bareN x 2 = true then (rE f r).bind fun y => (rE f y.2).map fun z => (.bin x.kind.toNat y.1 z.1, z.2) else none
  else (rA x).map fun e => (e, r)
def rN {α : Type} (x : List Nd → Option (α × List Nd)) : Nat → List Nd → Option (List α × List Nd)
 | 0, l => some ([], l)
 | k + 1, l => (x l).bind fun y => (rN x k y.2).map fun z => (y.1 :: z.1, z.2)
def rW {α : Type} (is : Int → Bool) (x : List Nd → Option (α × List Nd)) : Nat → List Nd → Option (List α × Nat × List Nd)
 | 0, l => some ([], 0, l)
 | k + 1, l => if is (pkN l) = true then (x l).bind fun y => (rW is x k y.2).map fun z => (y.1 :: z.1, z.2) else some ([], k + 1, l)
def rCol : List Nd → Option ((Bs × Nat) × List Nd)
 | [] => none
 | x :: r => if x.kind = 2 ∧ isName x.text = true ∧ x.kids = 0 ∧ 1 ≤ (if 4 < x.num then x.num - 4 else x.num) ∧ (if 4 < x.num then x.num - 4 else x.num) ≤ 3 then some ((x.text, x.num.toNat), r) else none
def rRow : List Nd → Option (List E × List Nd)
 | [] => none
 | x :: r => if x.kind = 5 ∧ x.text = [] ∧ x.num = 0 ∧ 1 ≤ x.kids then rN (rE 40) x.kids.toNat r else none
def rSet : List Nd → Option ((Bs × E) × List Nd)
 | [] => none
 | x :: r => if x.kind = 8 ∧ isName x.text = true ∧ x.num = 0 ∧ x.kids = 1 then (rE 40 r).map fun y => ((x.text, y.1), y.2) else none
def rItem : List Nd → Option (Option E × List Nd)
 | [] => none
 | x :: r => if x.kind = 10 then if bareN x 0 = true then some (none, r) else none else (rE 40 (x :: r)).map fun y => (some y.1, y.2)
def rOrder : List Nd → Option ((E × Bool) × List Nd)
 | [] => none
 | x :: r => if x.text = [] ∧ x.kids = 1 ∧ (x.num = 0 ∨ x.num = 1) then (rE 40 r).map fun y => ((y.1, decide (x.num = 1)), y.2) else none
def rWhere (left : Nat) (l : List Nd) : Option (Option E × Nat × List Nd) :=
 if left ≠ 0 ∧ pkN l = 11 then
   match l with
   | [] => none
   | x :: r => if bareN x 1 = true then (rE 40 r).map fun y => (some y.1, left - 1, y.2) else none
 else some (none, left, l)
def rLim (left : Nat) (l : List Nd) : Option (Option Nat × Nat × List Nd) :=
 if left ≠ 0 ∧ pkN l = 13 then
   match l with
   | [] => none
   | x :: r => if x.text = [] ∧ x.kids = 0 ∧ 0 ≤ x.num ∧ x.num ≤ 1000000000 then some (some x.num.toNat, left - 1, r) else none
 else some (none, left, l)
def isTail (k : Int) : Bool := decide (k = 11 ∨ k = 12 ∨ k = 13)
def rSt : List Nd → Option (St × List Nd)
 | [] => none
 | x :: r =>
  if x.num = 0 ∧ isName x.text = true then
    if x.kind = 1 then if 1 ≤ x.kids ∧ x.kids ≤ 6 then (rN rCol x.kids.toNat r).map fun y => (.create x.text y.1, y.2) else none
    else if x.kind = 3 then if x.kids = 0 then some (.drop x.text, r) else none
    else if x.kind = 4 then if 1 ≤ x.kids then (rN rRow x.kids.toNat r).map fun y => (.insert x.text y.1, y.2) else none
    else if x.kind = 6 then if x.kids < 0 then none else (rWhere x.kids.toNat r).bind fun y => if y.2.1 = 0 then some (.delete x.text y.1, y.2.2) else none
    else if x.kind = 7 then if x.kids < 0 then none else (rW (fun k => decide (k = 8)) rSet x.kids.toNat r).bind fun y => (rWhere y.2.1 y.2.2).bind fun z => if z.2.1 = 0 ∧ y.1 ≠ [] then some (.update x.text y.1 z.1, z.2.2) else none
    else if x.kind = 9 then if x.kids < 0 then none else (rW (fun k => !isTail k) rItem x.kids.toNat r).bind fun y => (rWhere y.2.1 y.2.2).bind fun z => (rW (fun k => decide (k = 12)) rOrder z.2.1 z.2.2).bind fun o =>
     (rLim o.2.1 o.2.2).bind fun u => if u.2.1 = 0 ∧ y.1 ≠ [] then some (.select y.1 x.text z.1 o.1 u.1, u.2.2) else none
    else none
  else none
def rS (l : List Nd) : Option St := (rSt l).bind fun y => if y.2 = [] then some y.1 else none
theorem flat_cols : ∀ l : List (Bs × Nat), l.flatMap (fun x => [colN x]) = l.map colN
 | [] => rfl
 | a :: l => by simp only [List.flatMap_cons, List.map_cons, List.singleton_append]; rw [flat_cols l]
theorem E.head (e : E) (n : Nat) (ho : e.ok n) (r : List Nd) : 14 ≤ pkN (e.nodes ++ r) ∧ pkN (e.nodes ++ r) ≤ 36 := by
 cases e with
 | un k e => simp only [E.nodes, over1, List.cons_append, pkN]; have := ho.1; have := ho.2.1; omega
 | bin k a b => simp only [E.nodes, over2, List.cons_append, pkN]; have := ho.1; have := ho.2.1; omega
 | _ => simp [E.nodes, leaf, pkN]
end Px
end
def TreeIn (w : World) (g off : Nat) (l : List Px.Nd) : Prop := ∀ j u, (ndsV l)[j]? = some u → w.cell? ⟨g, off + j, none⟩ = some u
theorem TreeIn.tail {w : World} {g off : Nat} {x : Px.Nd} {l : List Px.Nd} (h : TreeIn w g off (x :: l)) : TreeIn w g (off + 4) l := by
 intro j u hu
 have := h (j + 4) u (by
  show (ndV x ++ ndsV l)[j + 4]? = _
  rw [List.getElem?_append_right (by simp [ndV])]
  simpa [ndV] using hu)
 rw [← this]
 congr 2
 omega
theorem TreeIn.head {w : World} {g off : Nat} {x : Px.Nd} {l : List Px.Nd} (h : TreeIn w g off (x :: l)) : w.cell? ⟨g, off, none⟩ = some (.int .i64 x.kind) ∧ w.cell? ⟨g, off + 1, none⟩ = some (.string ⟨x.text.toArray⟩) ∧ w.cell? ⟨g, off + 2, none⟩ = some (.int .i64 x.num) ∧ w.cell? ⟨g, off + 3, none⟩ = some (.int .i64 x.kids) :=
 ⟨h 0 _ rfl, h 1 _ rfl, h 2 _ rfl, h 3 _ rfl⟩
theorem TreeIn.keep {w w' : World} {g off : Nat} {l : List Px.Nd} (h : TreeIn w g off l) (hb : w'.heap[g]? = w.heap[g]?) : TreeIn w' g off l := by
 intro j u hu
 rw [World.cell?_of_block hb]
 exact h j u hu
def NdFit (x : Px.Nd) : Prop := (-9223372036854775808 ≤ x.num ∧ x.num ≤ 9223372036854775807) ∧ (-9223372036854775808 ≤ x.kind ∧ x.kind ≤ 9223372036854775807) ∧ (-9223372036854775808 ≤ x.kids ∧ x.kids ≤ 9223372036854775807) ∧ x.text.length ≤ 140737488355328
def Wks (w : World) (B : Nat) (l : List Px.Nd) : Prop :=
 ∃ ao cap, Blk w B #[.slice ao l.length cap] 80 ∧ l.length ≤ cap ∧ cap ≤ maxLen ∧ (∀ x ∈ l, NdFit x) ∧ (l ≠ [] → ∃ g off, ao = some ⟨g, off, none⟩ ∧ g < B ∧ TreeIn w g off l)
theorem Wks.lt {w : World} {B : Nat} {l : List Px.Nd} (h : Wks w B l) : B < w.heap.size := by
 obtain ⟨ao, cap, hb, _⟩ := h
 exact hb.lt
theorem Wks.below {w w' : World} {B : Nat} {l : List Px.Nd} (h : Wks w B l) (hb : Below w.heap.size w w') : Wks w' B l := by
 obtain ⟨ao, cap, h1, h2, h3, h4, h5⟩ := h
 refine ⟨ao, cap, h1.below hb h1.lt, h2, h3, h4, fun hne => ?_⟩
 obtain ⟨g, off, e, hg, ht⟩ := h5 hne
 exact ⟨g, off, e, hg, ht.keep (hb.block g (by have := h1.lt; omega))⟩
def WOut {α : Type} (w : World) (B : Nat) (V : α → Value → World → Prop) (o : Option (α × List Px.Nd)) (x : Ending) (w' : World) : Prop :=
 w.grownBy w' (some B) ∧ match o with
 | none => x = Flt 0 7
 | some (a, l) => ∃ v, x = .returned v ∧ V a v w' ∧ Wks w' B l
theorem k_must_true (w : World) (B : Nat) : Calls Tryz.prog 45 #[.pointer (some ⟨B, 0, none⟩), .bool true] w fun x w' => x = .returned (.tuple #[]) ∧ w' = w := by
 go_enter Tryz.func45, Tryz.ntmps45
 go_wp2
 go_end0
 exact ⟨rfl, rfl⟩
theorem k_must_false (w : World) (B : Nat) : Calls Tryz.prog 45 #[.pointer (some ⟨B, 0, none⟩), .bool false] w fun x w' => x = Flt 0 7 ∧ Below w.heap.size w w' := by
 go_enter Tryz.func45, Tryz.ntmps45
 go_wp2
 exact ⟨rfl, rfl, Below.refl _ _⟩
theorem k_peek_any (w : World) (B : Nat) (l : List Px.Nd) (h : Wks w B l) : Calls Tryz.prog 136 #[.pointer (some ⟨B, 0, none⟩)] w fun x w' => x = .returned (.int .i64 (Px.pkN l)) ∧ Below w.heap.size w w' := by
 obtain ⟨ao, cap, hb, hc, hm, hf, ht⟩ := h
 have c0 := hb.cell 0
 simp at c0
 cases l with
 | nil =>
  simp only [List.length_nil] at c0 hc
  clear ht hf hb
  go_enter Tryz.func136, Tryz.ntmps136
  go_wp2
  go_ret
  exact ⟨rfl, Below.refl _ _⟩
 | cons x r =>
  obtain ⟨g, off, rfl, hg, htr⟩ := ht (by simp)
  obtain ⟨q0, q1, q2, q3⟩ := htr.head
  obtain ⟨xk, xt, xn, xc⟩ := x
  simp only at q0 q1 q2 q3
  simp only [List.length_cons] at c0 hc
  unfold maxLen at hm
  have hB := hb.lt
  clear htr hf ht hb
  go_enter Tryz.func136, Tryz.ntmps136
  go_wp2
  go_ret
  exact ⟨rfl, Below.refl _ _⟩
def ndA (x : Px.Nd) : Value := .agg #[.int .i64 x.kind, .string ⟨x.text.toArray⟩, .int .i64 x.num, .int .i64 x.kids]
def ndIsV (x : Px.Nd) (v : Value) (_ : World) : Prop := v = ndA x
def rTake : List Px.Nd → Option (Px.Nd × List Px.Nd)
 | [] => none
 | x :: r => some (x, r)
theorem wk_grown {w : World} {B : Nat} (v : Value) : w.grownBy (w.setCell ⟨B, 0, none⟩ v) (some B) :=
 ⟨rfl, rfl, rfl, by simp [World.setCell], fun k _ hne => Below.heap_setCell w _ v k (by simpa using hne)⟩
theorem grown_tr {w w1 w2 : World} {row : Option Nat} (h : w.grownBy w1 row) (k : w1.grownBy w2 row) : w.grownBy w2 row :=
 ⟨k.os.trans h.os, k.tape.trans h.tape, k.output.trans h.output, Nat.le_trans h.size k.size, fun i hi hne => (k.block i (Nat.lt_of_lt_of_le hi h.size) hne).trans (h.block i hi hne)⟩
theorem below_more0 {B : Nat} {w X w' : World} (h : Below B w X) (hB : Below X.heap.size X w') (hle : B ≤ X.heap.size) : Below B w w' := h.trans (hB.mono hle)
theorem k_take_any (w : World) (B : Nat) (l : List Px.Nd) (h : Wks w B l) : Calls Tryz.prog 72 #[.pointer (some ⟨B, 0, none⟩)] w (WOut w B ndIsV (rTake l)) := by
 have H := hd h
 obtain ⟨ao, cap, hb, hc, hm, hf, ht⟩ := h
 have c0 := hb.cell 0
 simp at c0
 cases l with
 | nil =>
  simp only [List.length_nil] at c0 hc
  have hB := hb.lt
  clear ht hf hb
  go_enter Tryz.func72, Tryz.ntmps72
  go_wp2_with fail
  refine (k_must_false _ B).mono ?_
  rintro x w1 ⟨rfl, hb1⟩
  exact ⟨rfl, Below.grownBy (below_more0 (by go_grown) hb1 (by simp)), rfl⟩
 | cons x r =>
  obtain ⟨g, off, rfl, hg, htr⟩ := ht (by simp)
  obtain ⟨q0, q1, q2, q3⟩ := htr.head
  have HTR := hd htr
  have HF := hd hf
  have HB := hd hb
  simp only [List.length_cons] at c0 hc
  unfold maxLen at hm
  have hB := hb.lt
  have f0 := hb.free 0
  have hgw : g < w.heap.size := by omega
  obtain ⟨xk, xt, xn, xc⟩ := x
  simp only at q0 q1 q2 q3
  clear htr hf ht hb
  go_enter Tryz.func72, Tryz.ntmps72
  go_wp2_with fail
  refine (k_must_true _ B).mono ?_
  rintro y w1 ⟨rfl, rfl⟩
  by_cases h1 : cap = 1
  · subst h1
    have hr0 : r = [] := List.length_eq_zero_iff.1 (by omega)
    subst hr0
    go_wp2_with fail
    refine bodyPost_ret (v := ndA ⟨xk, xt, xn, xc⟩) (by simp [results, Tryz.results72, go_sem, ndA]) rfl ?_
    refine ⟨grown_tr (wk_grown _) (Below.grownBy (by go_grown)), _, rfl, rfl, ?_⟩
    exact ⟨_, 0, ((HB.out.set 0 _).alloc _).alloc _, by simp, by unfold maxLen; omega, by simp, fun h => absurd rfl h⟩
  · go_wp2_with fail
    refine bodyPost_ret (v := ndA ⟨xk, xt, xn, xc⟩) (by simp [results, Tryz.results72, go_sem, ndA]) rfl ?_
    refine ⟨grown_tr (wk_grown _) (Below.grownBy (by go_grown)), _, rfl, rfl, ?_⟩
    refine ⟨_, cap - 1, ((HB.out.set 0 _).alloc _).alloc _, by omega, by unfold maxLen; omega, fun x hx => HF.out x (by simp [hx]), fun _ => ⟨g, off + 4, rfl, hg, ?_⟩⟩
    refine HTR.out.tail.keep ?_
    rw [Below.heap_alloc _ _ g (by simp [World.setCell]; omega), Below.heap_alloc _ _ g (by simp [World.setCell]; omega), Below.heap_setCell _ _ _ g (by show g ≠ B; omega)]
theorem k_fields_yes (w : World) (B : Nat) (xk : Int) (xt : ByteArray) (xn xc : Int) :
   Calls Tryz.prog 73 #[.pointer (some ⟨B, 0, none⟩), .agg #[.int .i64 xk, .string xt, .int .i64 xn, .int .i64 xc], .string xt, .int .i64 xn, .int .i64 xc] w fun x w' => x = .returned (.tuple #[]) ∧ Below w.heap.size w w' := by
 go_enter Tryz.func73, Tryz.ntmps73
 go_wp2_with fail
 refine (k_must_true _ B).mono ?_
 rintro y w1 ⟨rfl, rfl⟩
 go_wp2
 go_end0
 exact ⟨rfl, by go_grown⟩
theorem k_fields_no (w : World) (B : Nat) (xk : Int) (xt : Lx.Bs) (xn xc : Int) (t : Lx.Bs) (n c : Int) (h : ¬ (xt = t ∧ xn = n ∧ xc = c)) :
   Calls Tryz.prog 73 #[.pointer (some ⟨B, 0, none⟩), .agg #[.int .i64 xk, .string ⟨xt.toArray⟩, .int .i64 xn, .int .i64 xc], .string ⟨t.toArray⟩, .int .i64 n, .int .i64 c] w fun x w' => x = Flt 0 7 ∧ Below w.heap.size w w' := by
 by_cases h1 : xt = t
 · subst h1
   by_cases h2 : xn = n
   · subst h2
     have h3 : (xc == c) = false := beq_eq_false_iff_ne.2 (fun e => h ⟨rfl, rfl, e⟩)
     clear h
     go_enter Tryz.func73, Tryz.ntmps73
     go_wp2_with fail
     refine (k_must_false _ B).mono ?_
     rintro y w1 ⟨rfl, hb⟩
     exact ⟨rfl, rfl, below_more0 (by go_grown) hb (by simp)⟩
   · have h3 : (xn == n) = false := beq_eq_false_iff_ne.2 h2
     clear h h2
     go_enter Tryz.func73, Tryz.ntmps73
     go_wp2_with fail
     refine (k_must_false _ B).mono ?_
     rintro y w1 ⟨rfl, hb⟩
     exact ⟨rfl, rfl, below_more0 (by go_grown) hb (by simp)⟩
 · have h3 : (xt == t) = false := beq_eq_false_iff_ne.2 h1
   clear h h1
   go_enter Tryz.func73, Tryz.ntmps73
   go_wp2_with fail
   refine (k_must_false _ B).mono ?_
   rintro y w1 ⟨rfl, hb⟩
   exact ⟨rfl, rfl, below_more0 (by go_grown) hb (by simp)⟩
theorem k_truth_any (w : World) (B : Nat) (n : Int) : Calls Tryz.prog 185 #[.pointer (some ⟨B, 0, none⟩), .int .i64 n] w fun x w' => Below w.heap.size w w' ∧ if n = 0 ∨ n = 1 then x = .returned (.bool (decide (n = 1))) else x = Flt 0 7 := by
 by_cases h0 : n = 0
 · subst h0
   go_enter Tryz.func185, Tryz.ntmps185
   go_wp2_with fail
   refine (k_must_true _ B).mono ?_
   rintro y w1 ⟨rfl, rfl⟩
   go_wp2
   go_ret
   exact ⟨Below.refl _ _, by simp⟩
 · by_cases h1 : n = 1
   · subst h1
     go_enter Tryz.func185, Tryz.ntmps185
     go_wp2_with fail
     refine (k_must_true _ B).mono ?_
     rintro y w1 ⟨rfl, rfl⟩
     go_wp2
     go_ret
     exact ⟨Below.refl _ _, by simp⟩
   · have g0 : (n == 0) = false := beq_eq_false_iff_ne.2 h0
     have g1 : (n == 1) = false := beq_eq_false_iff_ne.2 h1
     have e : ¬ (n = 0 ∨ n = 1) := by omega
     have E := hd e
     clear h0 h1 e
     go_enter Tryz.func185, Tryz.ntmps185
     go_wp2_with fail
     refine (k_must_false _ B).mono ?_
     rintro y w1 ⟨rfl, hb⟩
     refine ⟨rfl, hb, ?_⟩
     rw [if_neg E.out]
     rfl
theorem grown_far {w w1 : World} {B : Nat} (h : w.grownBy w1 (some B)) (p : Addr) (hp : w.heap.size ≤ p.block) (v : Value) : w.grownBy (w1.setCell p v) (some B) :=
 ⟨h.os, h.tape, h.output, by simpa [World.setCell] using h.size, fun i hi hne => by rw [Below.heap_setCell w1 p v i (by omega)]; exact h.block i hi hne⟩
theorem Wks.far {w : World} {B : Nat} {l : List Px.Nd} (h : Wks w B l) (p : Addr) (hp : B < p.block) (v : Value) : Wks (w.setCell p v) B l := by
 obtain ⟨ao, cap, h1, h2, h3, h4, h5⟩ := h
 refine ⟨ao, cap, h1.far p v (by omega), h2, h3, h4, fun hne => ?_⟩
 obtain ⟨g, off, e, hg, ht⟩ := h5 hne
 exact ⟨g, off, e, hg, ht.keep (Below.heap_setCell w p v g (by omega))⟩
def rKind (k : Int) : List Px.Nd → Option (Px.Nd × List Px.Nd)
 | [] => none
 | x :: r => if x.kind = k then some (x, r) else none
theorem k_kind_any (w : World) (B : Nat) (l : List Px.Nd) (k : Int) (h : Wks w B l) : Calls Tryz.prog 183 #[.pointer (some ⟨B, 0, none⟩), .int .i64 k] w (WOut w B ndIsV (rKind k l)) := by
 have H := hd h
 have hB := h.lt
 clear h
 go_enter Tryz.func183, Tryz.ntmps183
 go_wp2_with fail
 refine (k_take_any _ B l (H.out.below (by go_grown))).mono ?_
 cases l with
 | nil =>
  rintro x w1 ⟨hg, rfl⟩
  exact ⟨rfl, grown_tr (Below.grownBy (by go_grown)) hg, rfl⟩
 | cons x r =>
  rintro y w1 ⟨hg, v, rfl, hv, hw⟩
  have G1 : w.grownBy w1 (some B) := grown_tr (Below.grownBy (by go_grown)) hg
  have hv' : v = ndA x := hv
  subst hv'
  obtain ⟨xk, xt, xn, xc⟩ := x
  unfold ndA
  simp only
  have K : Blk w1 w.heap.size #[.int .i64 0, .string ⟨#[]⟩, .int .i64 0, .int .i64 0] 43 := by
   have := Blk.new w #[.int .i64 0, .string ⟨#[]⟩, .int .i64 0, .int .i64 0] 43
   unfold Blk at this ⊢
   rw [hg.block w.heap.size (by simp) (by simp; omega)]; exact this
  have hK := K.lt
  by_cases h1 : xk = k
  · subst h1
    have e0 := K.cell 0
    have e1 := K.cell 1
    have e2 := K.cell 2
    have e3 := K.cell 3
    simp at e0 e1 e2 e3
    have f0 := K.free 0
    have f1 := K.free 1
    have f2 := K.free 2
    have f3 := K.free 3
    have HW := hd hw
    clear hw hg
    go_wp2_with fail
    refine (k_must_true _ B).mono ?_
    rintro y w2 ⟨rfl, rfl⟩
    go_wp2_with fail
    have KK := ((((K.set 0 (.int .i64 xk)).set 1 (.string ⟨xt.toArray⟩)).set 2 (.int .i64 xn)).set 3 (.int .i64 xc)).alloc (.cells #[.int .i64 xk, .string ⟨xt.toArray⟩, .int .i64 xn, .int .i64 xc] 43)
    have r0 := KK.cell 0
    have r1 := KK.cell 1
    have r2 := KK.cell 2
    have r3 := KK.cell 3
    simp at r0 r1 r2 r3
    refine bodyPost_ret (v := ndA ⟨xk, xt, xn, xc⟩) (by simp [results, Tryz.results183, go_sem, ndA, r0, r1, r2, r3]) rfl ?_
    refine ⟨grown_tr (grown_far (grown_far (grown_far (grown_far G1 _ (Nat.le_refl _) _) _ (Nat.le_refl _) _) _ (Nat.le_refl _) _) _ (Nat.le_refl _) _) (Below.grownBy (by go_grown)), ?_⟩
    rw [show rKind xk (⟨xk, xt, xn, xc⟩ :: r) = some (⟨xk, xt, xn, xc⟩, r) from if_pos rfl]
    exact ⟨_, rfl, rfl, ((((HW.out.far _ hB _).far _ hB _).far _ hB _).far _ hB _).below (by go_grown)⟩
  · have h2 : (xk == k) = false := beq_eq_false_iff_ne.2 h1
    go_wp2_with fail
    refine (k_must_false _ B).mono ?_
    rintro y w2 ⟨rfl, hb⟩
    refine ⟨rfl, grown_tr G1 (Below.grownBy (below_more0 (by go_grown) hb (by simp))), ?_⟩
    rw [show rKind k (⟨xk, xt, xn, xc⟩ :: r) = none from if_neg h1]
    rfl
theorem folB_some {l : Lx.Bs} {i lo hi : Nat} (h : Lx.folB l i lo hi = true) (hl : 128 ≤ lo) : ∃ c, l[i]? = some c ∧ 128 ≤ c.toNat := by
 unfold Lx.folB at h
 split at h
 · rename_i b hb
   simp only [decide_eq_true_eq] at h
   exact ⟨b, hb, by omega⟩
 · cases h
theorem loOf_ge (b : Nat) : 128 ≤ Lx.loOf b := by
 unfold Lx.loOf
 split
 · omega
 · split <;> omega
theorem char_nz (b : UInt8) (r : Lx.Bs) (hb : b.toNat ≠ 0) : (0 : UInt8) ∉ (b :: r).take (Lx.charN (b :: r)) := by
 intro hm
 obtain ⟨i, hi⟩ := List.mem_iff_getElem?.1 hm
 rw [List.getElem?_take] at hi
 split at hi
 case isFalse => cases hi
 case isTrue hlt =>
  have one : ∀ j lo hi', Lx.folB (b :: r) j lo hi' = true → 128 ≤ lo → i = j → False := by
   intro j lo hi' hf hlo e
   subst e
   obtain ⟨c, hc, hc'⟩ := folB_some hf hlo
   rw [hi] at hc
   cases hc
   simp at hc'
  have zero : i = 0 → False := by
   rintro rfl
   simp at hi
   exact hb (by rw [hi]; rfl)
  have lo := loOf_ge b.toNat
  unfold Lx.charN at hlt
  simp only at hlt
  split at hlt
  · exact zero (by omega)
  · split at hlt
    · rename_i h
      rcases (by omega : i = 0 ∨ i = 1) with e | e
      · exact zero e
      · exact one 1 _ _ h.2 (by omega) e
    · split at hlt
      · rename_i h
        rcases (by omega : i = 0 ∨ i = 1 ∨ i = 2) with e | e | e
        · exact zero e
        · exact one 1 _ _ h.2.1 lo e
        · exact one 2 _ _ h.2.2 (by omega) e
      · split at hlt
        · rename_i h
          rcases (by omega : i = 0 ∨ i = 1 ∨ i = 2 ∨ i = 3) with e | e | e | e
          · exact zero e
          · exact one 1 _ _ h.2.1 lo e
          · exact one 2 _ _ h.2.2.1 (by omega) e
          · exact one 3 _ _ h.2.2.2 (by omega) e
        · omega
theorem valid_zero : ∀ (n : Nat) (l : Lx.Bs), l.length ≤ n → Lx.validN l = (Lib.validD l && !l.contains 0)
 | 0, l, h => by
  have : l = [] := List.eq_nil_of_length_eq_zero (by omega)
  subst this
  rfl
 | n + 1, [], _ => rfl
 | n + 1, b :: r, h => by
  rw [Lx.validN_cons, Lib.validD_step _ (by simp)]
  have hsz : (⟨(b :: r).toArray⟩ : ByteArray).size = r.length + 1 := by simp [ByteArray.size]
  have hd0 : (⟨(b :: r).toArray⟩ : ByteArray).data.toList.drop 0 = b :: r := by simp
  by_cases hc : Lx.charN (b :: r) = 0
  · have := (dec_bad ⟨(b :: r).toArray⟩ 0 (by omega) (by rw [hd0]; exact hc)).1
    rw [if_pos (.inl hc), if_pos (by show (Utf8.decode _ 0).1 = _ ∧ (Utf8.decode _ 0).2 = _; rw [this]; exact ⟨rfl, rfl⟩)]
    simp
  · obtain ⟨h2, _, h3⟩ := dec_good ⟨(b :: r).toArray⟩ 0 (by omega) (by rw [hd0]; exact hc)
    rw [hd0] at h2 h3
    have hne : ¬ ((Lib.decodeL (b :: r)).1 = 65533 ∧ (Lib.decodeL (b :: r)).2 = 1) := by
     rintro ⟨e1, e2⟩
     have e1' : (Utf8.decode ⟨(b :: r).toArray⟩ 0).1 = 65533 := e1
     have e2' : (Utf8.decode ⟨(b :: r).toArray⟩ 0).2 = 1 := e2
     rcases h3 with ⟨_, q1, q2⟩ | ⟨q1, _⟩
     · rw [e1'] at q1; omega
     · omega
    have h2' : (Lib.decodeL (b :: r)).2 = Lx.charN (b :: r) := h2
    rw [if_neg hne, h2']
    have hle := Lx.charN_le (b :: r)
    simp only [List.length_cons] at hle h
    by_cases hb : b.toNat = 0
    · have : b = 0 := UInt8.toNat_inj.1 hb
      subst this
      rw [if_pos (.inr hb)]
      simp
    · rw [if_neg (by omega), valid_zero n _ (by rw [List.length_drop, List.length_cons]; omega)]
      congr 2
      have hz := char_nz b r hb
      rw [Bool.eq_iff_iff]
      simp only [List.contains_iff_mem]
      constructor
      · intro hm; exact List.mem_of_mem_drop hm
      · intro hm
        rw [← List.take_append_drop (Lx.charN (b :: r)) (b :: r)] at hm
        rcases List.mem_append.1 hm with hm | hm
        · exact absurd hm hz
        · exact hm
theorem valid_lib (l : Lx.Bs) : Lx.validN l = (Lib.validD l && !decide (0 ≤ Lib.indexByte l 0)) := by
 rw [valid_zero l.length l (Nat.le_refl _), Lib.contains_iff_indexByte]
end Go.Proofs.YtkcakbgcfnhgaaaGreatDoor
