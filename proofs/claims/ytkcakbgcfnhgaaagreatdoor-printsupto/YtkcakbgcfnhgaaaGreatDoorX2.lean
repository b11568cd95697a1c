/- Parts of the proof: CodeA CpA VarA CodeB VarP -/
import Derived.Test.YtkcakbgcfnhgaaaGreatDoorX1
import Derived.Test.YtkcakbgcfnhgaaaGreatDoorXShelf
import Derived.Deep.RegionHeld3
import Derived.Deep.DrawnRows
import Derived.Deep.RegionWith
import Derived.Test.YtkcakbgcfnhgaaaGreatDoorRows
import Derived.Lib.LaidU8T
import Derived.PinnedBridge
import Derived.Deep.Strs
namespace Go.Proofs.YtkcakbgcfnhgaaaGreatDoor
set_option linter.unusedSimpArgs false
set_option linter.unusedVariables false
set_option maxRecDepth 100000
set_option maxHeartbeats 16000000
open Go.RowKit
def sgns : List Lx.Bs := Lx.twos ++ Lx.ones
structure Env (w : World) : Prop where
 tabs : Lib.Utf8Tabs 2 3 w
 kws : ∃ t fr, w.heap[1]? = some (.cells (strRow Lx.keys) t fr)
 sgs : ∃ t fr, w.heap[0]? = some (.cells (strRow sgns) t fr)
 room : 12 ≤ w.heap.size
structure Env0 (w : World) : Prop where
 tabs : Lib.Utf8Tabs 2 3 w
 kws : ∃ t fr, w.heap[1]? = some (.cells (strRow Lx.keys) t fr)
 room : 12 ≤ w.heap.size
theorem Env0.keep {w w' : World} (h : Env0 w) (hs : w.heap.size ≤ w'.heap.size) (hb : ∀ k, k < 12 → w'.heap[k]? = w.heap[k]?) : Env0 w' := by
 refine ⟨⟨fun c hc => ?_, fun i hi => ?_⟩, ?_, Nat.le_trans h.room hs⟩
 · rw [World.cell?_of_block (w := w) (hb _ (by simp))]; exact h.tabs.1 c hc
 · rw [World.cell?_of_block (w := w) (hb _ (by simp)), World.cell?_of_block (w := w) (hb _ (by simp))]; exact h.tabs.2 i hi
 · rw [hb _ (by simp)]; exact h.kws
theorem Env0.grown {w w' : World} {B : Nat} (h : Env0 w) (hg : w.grownBy w' (some B)) (hB : 12 ≤ B) : Env0 w' := by
 have hr := h.room
 exact h.keep hg.size fun k hk => hg.block k (by omega) (by simp; omega)
theorem Env0.below {w w' : World} (h : Env0 w) (hb : Below w.heap.size w w') : Env0 w' := h.grown (B := w.heap.size) (Below.grownBy hb) h.room
theorem grownBy_trans {w w1 w2 : World} {row : Option Nat} (h : w.grownBy w1 row) (k : w1.grownBy w2 row) : w.grownBy w2 row :=
 ⟨k.os.trans h.os, k.tape.trans h.tape, k.output.trans h.output, Nat.le_trans h.size k.size, fun i hi hne => (k.block i (Nat.lt_of_lt_of_le hi h.size) hne).trans (h.block i hi hne)⟩
theorem grownBy_set (w : World) (B i : Nat) (v : Value) : w.grownBy (w.setCell ⟨B, i, none⟩ v) (some B) :=
 ⟨rfl, rfl, rfl, by simp [World.setCell], fun k _ hne => Below.heap_setCell w _ v k (by simpa using hne)⟩
structure Rd (w : World) (B : Nat) (s : ByteArray) (k st : Nat) : Prop where
 blk : Blk w B #[.string s, .int .i64 (k : Int), .int .i64 (st : Int)] 114
 low : 12 ≤ B
 env : Env w
 le : k ≤ s.size
 small : s.size ≤ 2000
def rDig (r : Int) : Bool := decide (48 ≤ r ∧ r ≤ 57)
def rWd (r : Int) : Bool := decide ((97 ≤ r ∧ r ≤ 122) ∨ (65 ≤ r ∧ r ≤ 90) ∨ r = 95 ∨ (48 ≤ r ∧ r ≤ 57))
theorem isDigit_any (r : Int) (w : World) : Calls Tryz.prog 157 #[.int .i32 r] w fun e w' => e = .returned (.bool (rDig r)) ∧ w' = w := by
 go_enter Tryz.func157, Tryz.ntmps157
 go_wp2
 all_goals
  go_ret
  refine ⟨ret_bool ?_, rfl⟩
  rw [Bool.eq_iff_iff]; simp [rDig]; omega
theorem inWord_any (r : Int) (w : World) : Calls Tryz.prog 159 #[.int .i32 r] w fun e w' => e = .returned (.bool (rWd r)) ∧ w' = w := by
 go_enter Tryz.func159, Tryz.ntmps159
 go_wp2_with (go_at_call 157; refine (isDigit_any _ _).mono ?_; rintro e w' ⟨rfl, rfl⟩)
 all_goals
  go_ret
  refine ⟨ret_bool ?_, rfl⟩
  rw [Bool.eq_iff_iff]; simp [rWd, rDig] <;> omega
def opsRow : List (Nat × Lx.Bs × Nat) → List Value
 | [] => []
 | (l, s, k) :: r => [.int .i64 (k : Int), .string ⟨s.toArray⟩, .int .i64 (l : Int)] ++ opsRow r
structure EnvP (w : World) : Prop where
 env : Env w
 ops : ∃ t fr, w.heap[4]? = some (.cells (opsRow Px.opTab).toArray t fr)
 rng : ∃ te pe, w.cell? ⟨9, 0, none⟩ = some (.iface te pe)
structure EnvW (w : World) : Prop where
 env : Env0 w
 ops : ∃ t fr, w.heap[4]? = some (.cells (opsRow Px.opTab).toArray t fr)
theorem EnvW.keep {w w' : World} (h : EnvW w) (hs : w.heap.size ≤ w'.heap.size) (hb : ∀ k, k < 12 → w'.heap[k]? = w.heap[k]?) : EnvW w' := by
 refine ⟨h.env.keep hs hb, ?_⟩
 rw [hb _ (by simp)]; exact h.ops
theorem EnvW.grown {w w' : World} {B : Nat} (h : EnvW w) (hg : w.grownBy w' (some B)) (hB : 12 ≤ B) : EnvW w' := by
 have hr := h.env.room
 exact h.keep hg.size fun k hk => hg.block k (by omega) (by simp; omega)
theorem EnvW.below {w w' : World} (h : EnvW w) (hb : Below w.heap.size w w') : EnvW w' := h.grown (B := w.heap.size) (Below.grownBy hb) h.env.room
structure Cs (w : World) (B : Nat) (lv : Value) (ts : List Lx.Tok) (sz k : Nat) (dp : Bool) : Prop where
 blk : Blk w B #[lv, .int .i64 (k : Int), .int .i64 (sz : Int), .bool dp] 112
 own : ∃ b, w.ownsRow b 41 3 lv ts.length (toksV ts)
 ne : lv.ownBlock ≠ some B
 toks : ∀ t ∈ ts, Lx.TokOk t ∧ Px.SgnOk t ∧ t.pos ≤ 2000 ∧ t.text.length ≤ 2000
 len : ts.length ≤ 2000
 size : sz ≤ 2000
 le : k ≤ ts.length
 env : EnvP w
 low : 12 ≤ B
def pk (sz : Nat) : List Lx.Tok → Lx.Tok
 | [] => ⟨0, [], sz⟩
 | t :: _ => t
def Flt (p c : Nat) : Ending := .panicked [{ v := .iface 70 (.agg #[.int .i64 (p : Int), .int .i64 (c : Int)]), recovered := false }]
section
open Go.RowKit Go.Shelf Go.Lib
theorem bytes_eq {s : ByteArray} {x : List UInt8} (h : s.data.toList = x) : s = ⟨x.toArray⟩ := by
 cases s with
 | mk d => cases d with
  | mk l => simp at h; subst h; rfl
theorem strs_of_reads {P : Program} {w : World} {nm : String} {g m : Nat} {t e : TypeId} (ss : List (List UInt8)) (hg : P.globalNamed nm = some g) (hty : (P.globals[g]?).map (·.type) = some t)
   (ht : P.underlying t = some (.array m e)) (he : P.underlying e = some .string) (hce : P.cellsOf e = 1) (hct : P.cellsOf t = m)
   (h : VarReads P w nm (.agg (ss.map fun x => .lit (.string x)))) : ∃ t' fr, w.heap[g]? = some (.cells (strRow ss) t' fr) := by
 obtain ⟨g', t', cs, fuel, p, hg', hty', hvar, hd⟩ := h
 obtain rfl := Option.some.inj (hg.symm.trans hg')
 obtain rfl := Option.some.inj (hty.symm.trans hty')
 have hcs : cs = strRow ss := by
  cases fuel with
  | zero => simp [DataW.trod] at hd
  | succ fuel =>
   simp only [DataW.trod, ht, hce, hct, Nat.mul_one] at hd
   split at hd
   · rename_i hl
     obtain ⟨xs, hm, hx⟩ := Option.map_eq_some_iff.1 hd
     have hxs : xs.map (·.1) = ss.map fun x => (DataW.lit (.string x) : DataW Unit) := by
      have := congrArg Prod.fst hx
      simpa using this
     have hxl : xs.length = m := by simpa using mapM_length hm
     have hzl : ss.length = m := by
      have := congrArg List.length hxs
      simp at this
      omega
     apply Array.ext'
     apply List.ext_getElem?
     intro i
     by_cases hi : i < m
     · obtain ⟨b, hb, hf⟩ := mapM_at hm i i (by simp [hi])
       obtain ⟨s, hc, rfl, _⟩ := DataW.trod_string he hf
       have h1 : cs.toList[i]? = some (.string s) := by
        have := congrArg (·[0]?) hc
        simpa [List.getElem?_take, List.getElem?_drop] using this
       have h2 : (xs.map (·.1))[i]? = some (DataW.lit (.string s.data.toList) : DataW Unit) := by simp [hb]
       rw [hxs] at h2
       simp only [List.getElem?_map, Option.map_eq_some_iff, DataW.lit.injEq, Lit.string.injEq] at h2
       obtain ⟨x, hx', hxx⟩ := h2
       rw [h1, bytes_eq hxx.symm]
       simp [strRow, hx']
     · rw [List.getElem?_eq_none (by omega), List.getElem?_eq_none (by simp [strRow]; omega)]
   · cases hd
 subst hcs
 simp only [World.var?, hg, Option.bind_some] at hvar
 split at hvar
 · rename_i c t2 fr hh
   cases hvar
   exact ⟨t2, fr, hh⟩
 · cases hvar
def opData (x : Nat × Lx.Bs × Nat) : DataW Unit := .agg [.lit (.int .i64 (x.2.2 : Int)), .lit (.string x.2.1), .lit (.int .i64 (x.1 : Int))]
theorem opsRow_length : ∀ l : List (Nat × Lx.Bs × Nat), (opsRow l).length = l.length * 3
 | [] => rfl
 | (a, s, k) :: r => by simp [opsRow, opsRow_length r]; omega
theorem opsRow_at : ∀ (l : List (Nat × Lx.Bs × Nat)) (i : Nat) (h : i < l.length), (opsRow l)[i * 3]? = some (.int .i64 (l[i].2.2 : Int)) ∧ (opsRow l)[i * 3 + 1]? = some (.string ⟨l[i].2.1.toArray⟩) ∧ (opsRow l)[i * 3 + 2]? = some (.int .i64 (l[i].1 : Int))
 | (a, s, k) :: r, 0, _ => ⟨rfl, rfl, rfl⟩
 | (a, s, k) :: r, i + 1, h => by
  have ih := opsRow_at r i (by simpa using h)
  have e : ∀ j, (opsRow ((a, s, k) :: r))[j + 3]? = (opsRow r)[j]? := by
   intro j
   show ([Value.int .i64 (k : Int), .string ⟨s.toArray⟩, .int .i64 (a : Int)] ++ opsRow r)[j + 3]? = _
   rw [List.getElem?_append_right (by simp)]
   simp
  rw [show (i + 1) * 3 = i * 3 + 3 from by omega, show i * 3 + 3 + 1 = (i * 3 + 1) + 3 from by omega, show i * 3 + 3 + 2 = (i * 3 + 2) + 3 from by omega, e, e, e]
  simpa using ih
theorem ops_of_reads {P : Program} {w : World} {nm : String} {g m : Nat} {t e : TypeId} {f0 f1 f2 : Field} (ss : List (Nat × Lx.Bs × Nat)) (hg : P.globalNamed nm = some g) (hty : (P.globals[g]?).map (·.type) = some t)
   (ht : P.underlying t = some (.array m e)) (he : P.underlying e = some (.struct #[f0, f1, f2])) (hce : P.cellsOf e = 3) (hct : P.cellsOf t = m * 3) (hm : ss.length = m)
   (u0 : P.underlying f0.type = some (.int .i64)) (u1 : P.underlying f1.type = some .string) (u2 : P.underlying f2.type = some (.int .i64)) (c0 : P.cellsOf f0.type = 1) (c1 : P.cellsOf f1.type = 1) (c2 : P.cellsOf f2.type = 1)
   (o0 : f0.offset = 0) (o1 : f1.offset = 1) (o2 : f2.offset = 2)
   (h : VarReads P w nm (.agg (ss.map opData))) : ∃ t' fr, w.heap[g]? = some (.cells (opsRow ss).toArray t' fr) := by
 obtain ⟨g', t', cs, fuel, p, hg', hty', hvar, hd⟩ := h
 obtain rfl := Option.some.inj (hg.symm.trans hg')
 obtain rfl := Option.some.inj (hty.symm.trans hty')
 have hlen : cs.toList.length = m * 3 := by
  cases fuel with
  | zero => simp [DataW.trod] at hd
  | succ fuel =>
   simp only [DataW.trod, ht] at hd
   split at hd
   · rename_i hl
     rw [hl, hct]
   · cases hd
 have key : ∀ i, (hi : i < m) → cs.toList[i * 3]? = some (.int .i64 ((ss[i]'(by omega)).2.2 : Int)) ∧ cs.toList[i * 3 + 1]? = some (.string ⟨(ss[i]'(by omega)).2.1.toArray⟩) ∧ cs.toList[i * 3 + 2]? = some (.int .i64 ((ss[i]'(by omega)).1 : Int)) := by
  intro i hi
  obtain ⟨fuel', d, q, hdi, hel⟩ := array_elem ht hd i hi
  have hi' : i < ss.length := by omega
  simp only [List.getElem?_map, List.getElem?_eq_getElem hi', Option.map_some, Option.some.injEq] at hdi
  subst hdi
  rw [hce] at hel
  obtain ⟨y0, y1, y2, n, hx, hl, h0, h1, h2⟩ := Go.Deep.trod_struct3 he hel
  rw [o0, c0] at h0
  rw [o1, c1] at h1
  rw [o2, c2] at h2
  obtain ⟨z0, a0, b0, _⟩ := DataW.trod_int u0 h0
  obtain ⟨z1, a1, b1, _⟩ := DataW.trod_string u1 h1
  obtain ⟨z2, a2, b2, _⟩ := DataW.trod_int u2 h2
  subst b0
  subst b1
  subst b2
  simp only [opData, Prod.mk.injEq, DataW.agg.injEq, List.cons.injEq, DataW.lit.injEq, Lit.int.injEq, Lit.string.injEq, true_and, and_true] at hx
  obtain ⟨⟨e0, e1, e2⟩, _⟩ := hx
  have g0 := congrArg (·[0]?) a0
  have g1 := congrArg (·[0]?) a1
  have g2 := congrArg (·[0]?) a2
  simp only [List.getElem?_take, List.getElem?_drop] at g0 g1 g2
  simp at g0 g1 g2
  refine ⟨?_, ?_, ?_⟩
  · rw [e0]; simpa using g0
  · rw [bytes_eq (s := z1) e1.symm] at g1; simpa using g1
  · rw [e2]; simpa using g2
 have hcs : cs = (opsRow ss).toArray := by
  apply Array.ext'
  apply List.ext_getElem?
  intro j
  by_cases hj : j < m * 3
  · have hi : j / 3 < m := by omega
    obtain ⟨k0, k1, k2⟩ := key (j / 3) hi
    obtain ⟨r0, r1, r2⟩ := opsRow_at ss (j / 3) (by omega)
    have h3 : j = j / 3 * 3 ∨ j = j / 3 * 3 + 1 ∨ j = j / 3 * 3 + 2 := by omega
    rcases h3 with e | e | e
    · rw [e, k0]; exact r0.symm
    · rw [e, k1]; exact r1.symm
    · rw [e, k2]; exact r2.symm
  · rw [List.getElem?_eq_none (by omega), List.getElem?_eq_none (by simp [opsRow_length]; omega)]
 subst hcs
 simp only [World.var?, hg, Option.bind_some] at hvar
 split at hvar
 · rename_i c t2 fr hh
   cases hvar
   exact ⟨t2, fr, hh⟩
 · cases hvar
end
structure Fits (p : Int → Bool) (q : UInt8 → Bool) : Prop where
 low : ∀ b : UInt8, b.toNat < 128 → p (b.toNat : Int) = q b
 high : (∀ r : Int, 128 ≤ r → p r = false) ∧ (∀ b : UInt8, 128 ≤ b.toNat → q b = false) ∨ (∀ r : Int, 128 ≤ r → p r = true) ∧ (∀ b : UInt8, 128 ≤ b.toNat → q b = true)
section
open Go.RowKit Go.Shelf Go.Lib
theorem u8types : U8Types Tryz.prog Tryz.lays197_ren := ⟨by kernel_rfl, by kernel_rfl, by kernel_rfl, by kernel_rfl⟩
theorem u8extra : U8Extra Tryz.prog Tryz.lays197_ren := ⟨by kernel_rfl, by kernel_rfl, by kernel_rfl, by kernel_rfl, by kernel_rfl, by kernel_rfl, by kernel_rfl⟩
theorem accept_eq : (Rows.laid_unicode_utf8_acceptRanges : DataW Unit) = acceptData := by kernel_rfl
theorem first_eq : Rows.laid_unicode_utf8_first = firstData := Pinned.utf8First_eq
theorem keys_eq : (Rows.laid_clause_reader_keywords : DataW Unit) = .agg (Lx.keys.map fun x => .lit (.string x)) := by kernel_rfl
theorem ops_eq : (Rows.laid_clause_syntax_operators : DataW Unit) = .agg (Px.opTab.map opData) := by kernel_rfl
theorem room_of_shape {W : World} (h : W.ShapedOpen Tryz.prog) : 12 ≤ W.heap.size := by
 have hz : (((begin Tryz.prog (fun _ _ => 0) default).world.heap[12 - 1]?).bind Obj.row?).isSome = true := by kernel_rfl
 obtain ⟨⟨zero, t⟩, he⟩ := Option.isSome_iff_exists.1 hz
 obtain ⟨cs, hc, _⟩ := h.1 (12 - 1) zero t (of_decide_eq_true (by kernel_rfl)) he
 obtain ⟨hlt, _⟩ := Array.getElem?_eq_some_iff.1 hc
 exact hlt
theorem envW_of_reads {W : World} (ha : VarReads Tryz.prog W "unicode/utf8.acceptRanges" Rows.laid_unicode_utf8_acceptRanges) (hk : VarReads Tryz.prog W "clause/reader.keywords" Rows.laid_clause_reader_keywords)
   (hf : VarReads Tryz.prog W "unicode/utf8.first" Rows.laid_unicode_utf8_first)
   (ho : VarReads Tryz.prog W "clause/syntax.operators" Rows.laid_clause_syntax_operators) (hsh : W.ShapedOpen Tryz.prog) : EnvW W where
 env := {
   tabs := utf8Tabs_of_readsT u8types u8extra (first_eq ▸ hf) (accept_eq ▸ ha)
   kws := strs_of_reads (t := 236) (e := 9) (m := 27) Lx.keys (by kernel_rfl) (by kernel_rfl) (by kernel_rfl) (by kernel_rfl) (by kernel_rfl) (by kernel_rfl) (keys_eq ▸ hk)
   room := room_of_shape hsh }
 ops := ops_of_reads (t := 269) (e := 249) (m := 14) Px.opTab (by kernel_rfl) (by kernel_rfl) (by kernel_rfl) Tryz.underlying249 (by kernel_rfl) (by kernel_rfl) rfl (by kernel_rfl) (by kernel_rfl) (by kernel_rfl) (by kernel_rfl) (by kernel_rfl) (by kernel_rfl) rfl rfl rfl (ops_eq ▸ ho)
end
end Go.Proofs.YtkcakbgcfnhgaaaGreatDoor
