/- Parts of the proof: Bas Utf Val Dig -/
import Derived.Test.YtkcakbgcfnhgaaaGreatDoorRows
import Derived.WalkKit
import Derived.WalkSpells
import Derived.WalkLawsBesides
import Derived.Test.YtkcakbgcfnhgaaaGreatDoorZ1
import Derived.Deep.Light
import Derived.Lib.Strings
import Derived.Lib.IndexBytes
import Derived.Laws.IdiomStrings
import Derived.BigQuiet
import Derived.Deep.QuietTactic
import Derived.Handy
import Derived.Lib.DecodeN
import Derived.Lib.RuneBytes
import Derived.Lib.ValidLaws
import Derived.Lib.IndexAny
import Derived.Lib.ItoaMem
import Derived.Lib.Replace
import Derived.Lib.CountLaws
namespace Go.Proofs.YtkcakbgcfnhgaaaGreatDoor
set_option linter.unusedSimpArgs false
set_option linter.unusedVariables false
set_option maxRecDepth 100000
set_option maxHeartbeats 16000000
open Go.RowKit
theorem hd {p : Prop} (h : p) : Hid p := h
theorem ret_bool {a b : Bool} (h : a = b) : Ending.returned (.bool a) = .returned (.bool b) := by rw [h]
theorem ret_int {k : IntKind} {a b : Int} (h : a = b) : Ending.returned (.int k a) = .returned (.int k b) := by rw [h]
theorem drop_at (s : ByteArray) (k : Nat) (h : k < s.size) : s.data.toList.drop k = s[k] :: s.data.toList.drop (k + 1) := by
 rw [List.drop_eq_getElem_cons (by simpa using h)]; rfl
theorem cnt_at (p : UInt8 → Bool) (s : ByteArray) (k : Nat) (h : k < s.size) : Lx.cnt p (s.data.toList.drop k) = if p s[k] = true then Lx.cnt p (s.data.toList.drop (k + 1)) + 1 else 0 := by
 rw [drop_at s k h]; rfl
theorem cnt_end (p : UInt8 → Bool) (s : ByteArray) (k : Nat) (h : s.size ≤ k) : Lx.cnt p (s.data.toList.drop k) = 0 := by
 rw [List.drop_eq_nil_of_le (by simpa using h)]; rfl
theorem folB_drop (l : Lx.Bs) (a i lo hi : Nat) : Lx.folB (l.drop a) i lo hi = Lx.folB l (a + i) lo hi := by
 unfold Lx.folB; rw [List.getElem?_drop]
def charB (b : Nat) (two near three four : Bool) : Nat :=
 if b < 128 then 1
 else if (194 ≤ b ∧ b ≤ 223) ∧ two = true then 2
 else if (224 ≤ b ∧ b ≤ 239) ∧ near = true ∧ three = true then 3
 else if (240 ≤ b ∧ b ≤ 244) ∧ near = true ∧ three = true ∧ four = true then 4
 else 0
theorem charN_at (s : ByteArray) (a : Nat) (h : a < s.size) : Lx.charN (s.data.toList.drop a) =
   charB s[a].toNat (Lx.folB s.data.toList (a + 1) 128 191) (Lx.folB s.data.toList (a + 1) (Lx.loOf s[a].toNat) (Lx.hiOf s[a].toNat)) (Lx.folB s.data.toList (a + 2) 128 191) (Lx.folB s.data.toList (a + 3) 128 191) := by
 have e := drop_at s a h
 have f : ∀ i lo hi, Lx.folB (s[a] :: s.data.toList.drop (a + 1)) i lo hi = Lx.folB s.data.toList (a + i) lo hi := by
  intro i lo hi; rw [← e, folB_drop]
 rw [e]
 simp only [Lx.charN, charB, f]
theorem contains_at (ss : List Lx.Bs) (x : Lx.Bs) (k : Nat) (h : k < ss.length) : Lx.hasB (ss.drop k) x = (ss.getD k [] == x || Lx.hasB (ss.drop (k + 1)) x) := by
 rw [List.drop_eq_getElem_cons h, List.getD_eq_getElem?_getD, List.getElem?_eq_getElem h]
 rfl
def strRow (ss : List Lx.Bs) : Array Value := (ss.map fun x => Value.string ⟨x.toArray⟩).toArray
theorem strRow_cell (w : World) (ss : List Lx.Bs) (T : TypeId) : ∀ i, i < ss.length → ∃ t : ByteArray, (w.alloc (.cells (strRow ss) T)).cell? ⟨w.heap.size, i, none⟩ = some (.string t) ∧ t.data.toList = ss.getD i [] := by
 intro i hi
 refine ⟨⟨(ss.getD i []).toArray⟩, ?_, by simp⟩
 rw [World.cell?_alloc_at _ _ _ _ rfl]
 simp [strRow, List.getElem?_eq_getElem hi]
theorem betw_other (m : UInt8) (b : UInt8) (r : Lx.Bs) (h : b ≠ m) : Lx.betw m (b :: r) = (Lx.betw m r).map (fun x => (b :: x.1, x.2 + 1)) := by
 cases r with
 | nil => simp [Lx.betw, h]
 | cons c r => simp [Lx.betw, h]
def BetwAt (m : UInt8) (l : Lx.Bs) (k : Nat) (acc : Lx.Bs) : Prop :=
 Lx.betw m l = (Lx.betw m (l.drop k)).map (fun x => (acc ++ x.1, x.2 + k)) ∧ acc.length ≤ k
theorem BetwAt.start (m : UInt8) (l : Lx.Bs) : BetwAt m l 0 [] := by
 unfold BetwAt
 simp
theorem BetwAt.other {m : UInt8} {l : Lx.Bs} {k : Nat} {acc : Lx.Bs} {b : UInt8} {r : Lx.Bs} (h : BetwAt m l k acc) (e : l.drop k = b :: r) (hb : b ≠ m) : BetwAt m l (k + 1) (acc ++ [b]) := by
 unfold BetwAt at *
 have e2 : l.drop (k + 1) = r := by rw [← List.drop_drop, e]; rfl
 refine ⟨?_, by simp; omega⟩
 rw [h.1, e, betw_other m b r hb, e2, Option.map_map]
 congr 1
 funext x
 simp; omega
theorem BetwAt.double {m : UInt8} {l : Lx.Bs} {k : Nat} {acc : Lx.Bs} {r : Lx.Bs} (h : BetwAt m l k acc) (e : l.drop k = m :: m :: r) : BetwAt m l (k + 2) (acc ++ [m]) := by
 unfold BetwAt at *
 have e2 : l.drop (k + 2) = r := by rw [← List.drop_drop, e]; rfl
 refine ⟨?_, by simp; omega⟩
 rw [h.1, e, e2]
 simp only [Lx.betw, if_true, Option.map_map]
 congr 1
 funext x
 simp; omega
theorem BetwAt.last {m : UInt8} {l : Lx.Bs} {k : Nat} {acc : Lx.Bs} {r : Lx.Bs} (h : BetwAt m l k acc) (e : l.drop k = m :: r) (hr : r.head? ≠ some m) : Lx.betw m l = some (acc, k + 1) := by
 unfold BetwAt at *
 rw [h.1, e]
 cases r with
 | nil => simp [Lx.betw]; omega
 | cons c r =>
  have : c ≠ m := by simpa using hr
  simp [Lx.betw, this]; omega
def Blk (w : World) (b : Nat) (cs : Array Value) (t : TypeId) : Prop := w.heap[b]? = some (.cells cs t (0, 0))
theorem Blk.cell {w : World} {b : Nat} {cs : Array Value} {t : TypeId} (h : Blk w b cs t) (i : Nat) : w.cell? ⟨b, i, none⟩ = cs[i]? := cell_of_row w b i cs t (0, 0) h
theorem Blk.free {w : World} {b : Nat} {cs : Array Value} {t : TypeId} (h : Blk w b cs t) (i : Nat) : w.frozen? ⟨b, i, none⟩ = false := by
 unfold Blk at h
 simp [World.frozen?, h]
theorem Blk.lt {w : World} {b : Nat} {cs : Array Value} {t : TypeId} (h : Blk w b cs t) : b < w.heap.size := (Array.getElem?_eq_some_iff.1 h).1
theorem Blk.new (w : World) (cs : Array Value) (t : TypeId) : Blk (w.alloc (.cells cs t)) w.heap.size cs t := heap_alloc_new w _
theorem Blk.alloc {w : World} {b : Nat} {cs : Array Value} {t : TypeId} (h : Blk w b cs t) (o : Obj) : Blk (w.alloc o) b cs t := by
 unfold Blk at *
 show (w.heap.push o)[b]? = _
 rw [Array.getElem?_push_lt (Array.getElem?_eq_some_iff.1 h).1, ← Array.getElem?_eq_getElem]; exact h
theorem Blk.below {W w1 : World} {b B : Nat} {cs : Array Value} {t : TypeId} (h : Blk W b cs t) (hb : Below B W w1) (hlt : b < B) : Blk w1 b cs t := by
 unfold Blk at *
 rw [hb.block b hlt]; exact h
theorem Blk.drew {w : World} {b : Nat} {cs : Array Value} {t : TypeId} (h : Blk w b cs t) : Blk w.drew b cs t := h
theorem Blk.set {w : World} {b : Nat} {cs : Array Value} {t : TypeId} (h : Blk w b cs t) (i : Nat) (v : Value) : Blk (w.setCell ⟨b, i, none⟩ v) b (cs.setIfInBounds i v) t := by
 unfold Blk at *
 simp only [World.setCell, Array.getElem?_modify, if_true, h]
 rfl
theorem Blk.far {w : World} {b : Nat} {cs : Array Value} {t : TypeId} (h : Blk w b cs t) (p : Addr) (v : Value) (hp : p.block ≠ b) : Blk (w.setCell p v) b cs t := by
 unfold Blk at *
 rw [Below.heap_setCell _ _ _ _ (Ne.symm hp)]; exact h
theorem Blk.three {w : World} {b : Nat} {x y z : Value} {t : TypeId} (h : Blk w b #[x, y, z] t) :
   (w.cell? ⟨b, 0, none⟩ = some x ∧ w.cell? ⟨b, 1, none⟩ = some y ∧ w.cell? ⟨b, 2, none⟩ = some z) ∧ w.frozen? ⟨b, 0, none⟩ = false ∧ w.frozen? ⟨b, 1, none⟩ = false ∧ w.frozen? ⟨b, 2, none⟩ = false :=
 ⟨⟨h.cell 0, h.cell 1, h.cell 2⟩, h.free 0, h.free 1, h.free 2⟩
theorem oneT_letter (s : ByteArray) (a : Nat) (h : a < s.size) (hl : Lx.isLet s[a] = true) : Lx.oneT (s.data.toList.drop a) =
   if Lx.hasB Lx.keys (((s.data.toList.drop a).take (Lx.cnt Lx.isWd (s.data.toList.drop a))).map Lx.upB) then .ok (50, ((s.data.toList.drop a).take (Lx.cnt Lx.isWd (s.data.toList.drop a))).map Lx.upB, Lx.cnt Lx.isWd (s.data.toList.drop a))
   else .ok (18, ((s.data.toList.drop a).take (Lx.cnt Lx.isWd (s.data.toList.drop a))).map Lx.lowB, Lx.cnt Lx.isWd (s.data.toList.drop a)) := by
 have e := drop_at s a h
 rw [e]
 simp only [Lx.oneT, hl, if_true]
theorem oneT_digit (s : ByteArray) (a : Nat) (h : a < s.size) (hl : Lx.isLet s[a] = false) (hd : Lx.isDig s[a] = true) : Lx.oneT (s.data.toList.drop a) =
   if Lx.cnt Lx.isDig (s.data.toList.drop a) < Lx.cnt Lx.isWd (s.data.toList.drop a) then .error 2
   else if Lx.overTop (Lx.leastB ((s.data.toList.drop a).take (Lx.cnt Lx.isDig (s.data.toList.drop a)))) then .error 3
   else .ok (16, Lx.leastB ((s.data.toList.drop a).take (Lx.cnt Lx.isDig (s.data.toList.drop a))), Lx.cnt Lx.isDig (s.data.toList.drop a)) := by
 have e := drop_at s a h
 rw [e]
 simp only [Lx.oneT, hl, hd, if_true, if_false, Bool.false_eq_true]
theorem oneT_quote (s : ByteArray) (a : Nat) (h : a < s.size) (hl : Lx.isLet s[a] = false) (hd : Lx.isDig s[a] = false) (hq : s[a].toNat = 39 ∨ s[a].toNat = 34) : Lx.oneT (s.data.toList.drop a) =
   match Lx.betw s[a] (s.data.toList.drop (a + 1)) with
    | none => .error 2
    | some (t, n) =>
     if Lx.validN t = false ∨ (s[a].toNat = 34 ∧ t = []) then .error 2
     else .ok (if s[a].toNat = 34 then 18 else 17, t, n + 1) := by
 have e := drop_at s a h
 rw [e]
 simp only [Lx.oneT, hl, hd, if_true, if_false, Bool.false_eq_true]
 rw [if_pos hq]
 rcases Lx.betw s[a] (s.data.toList.drop (a + 1)) with _ | ⟨t, n⟩ <;> rfl
theorem oneT_sign (s : ByteArray) (a : Nat) (h : a < s.size) (hl : Lx.isLet s[a] = false) (hd : Lx.isDig s[a] = false) (hq : ¬ (s[a].toNat = 39 ∨ s[a].toNat = 34)) : Lx.oneT (s.data.toList.drop a) =
   if 2 ≤ s.size - a ∧ Lx.hasB Lx.twos ((s.data.toList.drop a).take 2) = true then .ok (51, (s.data.toList.drop a).take 2, 2)
   else if Lx.hasB Lx.ones ((s.data.toList.drop a).take 1) = true then .ok (51, (s.data.toList.drop a).take 1, 1)
   else .error 2 := by
 have e := drop_at s a h
 have el : (s.data.toList.drop a).length = s.size - a := by simp
 rw [← el, e]
 simp only [Lx.oneT, hl, hd, if_true, if_false, Bool.false_eq_true]
 rw [if_neg hq]
theorem row_cell (w : World) (ss : List Lx.Bs) (T : TypeId) (cs : Array Value) (hcs : cs = strRow ss) (g : Nat) (hg : g = w.heap.size) : ∀ i, i < ss.length → ∃ t : ByteArray, (w.alloc (.cells cs T)).cell? ⟨g, i, none⟩ = some (.string t) ∧ t.data.toList = ss.getD i [] := by
 subst hcs; subst hg
 exact strRow_cell w ss T
def tokV (t : Lx.Tok) : List Value := [.int .i64 (t.kind : Int), .string ⟨t.text.toArray⟩, .int .i64 (t.pos : Int)]
def toksV : List Lx.Tok → List Value
 | [] => []
 | t :: ts => tokV t ++ toksV ts
theorem toksV_append : ∀ a b : List Lx.Tok, toksV (a ++ b) = toksV a ++ toksV b
 | [], b => rfl
 | t :: a, b => by simp [toksV, toksV_append a b]
theorem toksV_one (t : Lx.Tok) : toksV [t] = tokV t := by simp [toksV]
def TokV (r : Except (Nat × Nat) (List Lx.Tok)) (base : Nat) (w : World) (v : Value) (n c : Int) : Prop :=
 match r with
 | .error (p, e) => v = .slice none 0 0 ∧ n = (p : Int) ∧ c = (e : Int)
 | .ok ts => w.ownsRow base 41 3 v ts.length (toksV ts) ∧ n = 0 ∧ c = 0
def LexAt (l : Lx.Bs) (k : Nat) (ts : List Lx.Tok) : Prop :=
 ts.length ≤ k ∧ Lx.lexM 0 (Lx.skipN l) (l.drop (Lx.skipN l)) = match Lx.lexM 0 k (l.drop k) with
  | .ok r => .ok (ts ++ r)
  | .error e => .error e
theorem LexAt.start (l : Lx.Bs) : LexAt l (Lx.skipN l) [] := by
 refine ⟨by simp, ?_⟩
 cases Lx.lexM 0 (Lx.skipN l) (l.drop (Lx.skipN l)) <;> simp
theorem LexAt.done {l : Lx.Bs} {k : Nat} {ts : List Lx.Tok} (h : LexAt l k ts) (hk : l.length ≤ k) : Lx.lexM 0 (Lx.skipN l) (l.drop (Lx.skipN l)) = .ok ts := by
 rw [h.2, List.drop_eq_nil_of_le hk]
 simp [Lx.lexM]
theorem LexAt.fail {l : Lx.Bs} {k e : Nat} {ts : List Lx.Tok} (h : LexAt l k ts) (hk : k < l.length) (h1 : Lx.oneT (l.drop k) = .error e) : Lx.lexM 0 (Lx.skipN l) (l.drop (Lx.skipN l)) = .error (k, e) := by
 rw [h.2]
 have e1 := List.drop_eq_getElem_cons hk
 rw [e1] at h1 ⊢
 rw [Lx.lexM_cons, h1]
theorem LexAt.step {l : Lx.Bs} {k c n : Nat} {t : Lx.Bs} {ts : List Lx.Tok} (h : LexAt l k ts) (hk : k < l.length) (h1 : Lx.oneT (l.drop k) = .ok (c, t, n)) : LexAt l (k + n + Lx.skipN (l.drop (k + n))) (ts ++ [⟨c, t, k⟩]) := by
 have hl := Lx.oneT_len h1
 refine ⟨by have := h.1; simp; omega, ?_⟩
 rw [h.2]
 have e1 := List.drop_eq_getElem_cons hk
 rw [e1] at h1 ⊢
 rw [Lx.lexM_cons, h1]
 dsimp only
 rw [← e1, List.drop_drop, List.drop_drop]
 cases Lx.lexM 0 (k + n + Lx.skipN (l.drop (k + n))) (l.drop (k + n + Lx.skipN (l.drop (k + n)))) <;> simp
theorem Below.grownBy {w w' : World} {row : Option Nat} (h : Below w.heap.size w w') : w.grownBy w' row := ⟨h.os, h.tape, h.output, h.size, fun k hk _ => h.block k hk⟩
theorem obw {w w1 : World} {base : Nat} {e : TypeId} {size : Nat} {v : Value} {n : Nat} {xs : List Value} (h : w.ownsRow base e size v n xs) (hb : Below w.heap.size w w1) : w1.ownsRow base e size v n xs :=
 h.kept (row := none) (Below.grownBy hb) (by cases v.ownBlock <;> simp)
theorem Tryz.info41 : (Tryz.prog.info? 41).map (fun i => (i.zero, i.size, i.bytes)) = some (some (.agg #[.int .i64 0, .string ⟨#[]⟩, .int .i64 0]), 3, 32) := by kernel_rfl
theorem three_news (w : World) (x y z : Value) (T : TypeId) (g : Nat) (hg : g = w.heap.size) : ∀ j u, [x, y, z][j]? = some u → (w.alloc (.cells #[x, y, z] T)).cell? ((⟨g, 0, none⟩ : Addr).add j) = some u := by
 intro j u hj
 subst hg
 rw [Addr.add_lit, Nat.zero_add, (Blk.new w #[x, y, z] T).cell j]
 rw [← hj]
 simp
def ndV (x : Px.Nd) : List Value := [.int .i64 x.kind, .string ⟨x.text.toArray⟩, .int .i64 x.num, .int .i64 x.kids]
def ndsV : List Px.Nd → List Value
 | [] => []
 | x :: r => ndV x ++ ndsV r
theorem ndsV_length : ∀ l : List Px.Nd, (ndsV l).length = l.length * 4
 | [] => rfl
 | x :: l => by simp [ndsV, ndV, ndsV_length l]; omega
theorem ndsV_append : ∀ a b : List Px.Nd, ndsV (a ++ b) = ndsV a ++ ndsV b
 | [], b => rfl
 | x :: a, b => by simp [ndsV, ndsV_append a b]
theorem ndsV_one (x : Px.Nd) : ndsV [x] = ndV x := by simp [ndsV]
theorem ndsV_at : ∀ (l : List Px.Nd) (k : Nat) (h : k < l.length), (ndsV l)[k * 4]? = some (.int .i64 l[k].kind) ∧ (ndsV l)[k * 4 + 1]? = some (.string ⟨l[k].text.toArray⟩) ∧ (ndsV l)[k * 4 + 2]? = some (.int .i64 l[k].num) ∧ (ndsV l)[k * 4 + 3]? = some (.int .i64 l[k].kids)
 | x :: l, 0, _ => ⟨rfl, rfl, rfl, rfl⟩
 | x :: l, k + 1, h => by
  have ih := ndsV_at l k (by simpa using h)
  have e : ∀ j, (ndsV (x :: l))[j + 4]? = (ndsV l)[j]? := by
   intro j
   show (ndV x ++ ndsV l)[j + 4]? = _
   rw [List.getElem?_append_right (by simp [ndV])]
   simp [ndV]
  rw [show (k + 1) * 4 = k * 4 + 4 from by omega, show k * 4 + 4 + 1 = (k * 4 + 1) + 4 from by omega, show k * 4 + 4 + 2 = (k * 4 + 2) + 4 from by omega, show k * 4 + 4 + 3 = (k * 4 + 3) + 4 from by omega, e, e, e, e]
  simpa using ih
theorem Tryz.info43 : (Tryz.prog.info? 43).map (fun i => (i.zero, i.size, i.bytes)) = some (some (.agg #[.int .i64 0, .string ⟨#[]⟩, .int .i64 0, .int .i64 0]), 4, 40) := by kernel_rfl
def NdIs (w : World) (b0 : Nat) (v : Value) (l : List Px.Nd) : Prop :=
 (v = .slice none 0 0 ∧ l = []) ∨ ∃ g cap, v = .slice (some ⟨g, 0, none⟩) l.length cap ∧ b0 ≤ g ∧ g < w.heap.size ∧ l.length ≤ cap ∧ cap ≤ maxLen ∧ ∀ j u, (ndsV l)[j]? = some u → w.cell? ⟨g, j, none⟩ = some u
theorem NdIs.below {w w' : World} {b0 : Nat} {v : Value} {l : List Px.Nd} (h : NdIs w b0 v l) (hg : Below w.heap.size w w') : NdIs w' b0 v l := by
 rcases h with h | ⟨g, cap, rfl, h1, h2, h3, h4, h5⟩
 · exact .inl h
 refine .inr ⟨g, cap, rfl, h1, Nat.lt_of_lt_of_le h2 hg.size, h3, h4, fun j u hu => ?_⟩
 rw [World.cell?_of_block (w := w) (hg.block g h2)]
 exact h5 j u hu
theorem NdIs.of_own {w : World} {b0 : Nat} {v : Value} {l : List Px.Nd} (h : w.ownsRow b0 43 4 v l.length (ndsV l)) : NdIs w b0 v l := by
 rcases h.2 with ⟨rfl, hn⟩ | ⟨g, cap, cur, rfl, hb, hg, h1, h2, h3, h4⟩
 · exact .inl ⟨rfl, List.length_eq_zero_iff.1 hn⟩
 refine .inr ⟨g, cap, rfl, hb, (Array.getElem?_eq_some_iff.1 hg).1, h1, h2, fun j u hu => ?_⟩
 have := h.cells (g := g) rfl j u hu
 simpa only [Addr.add_lit, Nat.zero_add] using this
theorem toksV_nth : ∀ (ts : List Lx.Tok) (k : Nat) (h : k < ts.length), (toksV ts)[k * 3]? = some (.int .i64 (ts[k].kind : Int)) ∧ (toksV ts)[k * 3 + 1]? = some (.string ⟨ts[k].text.toArray⟩) ∧ (toksV ts)[k * 3 + 2]? = some (.int .i64 (ts[k].pos : Int))
 | t :: ts, 0, _ => ⟨rfl, rfl, rfl⟩
 | t :: ts, k + 1, h => by
  have ih := toksV_nth ts k (by simpa using h)
  have e : ∀ j, (toksV (t :: ts))[j + 3]? = (toksV ts)[j]? := by
   intro j
   show (tokV t ++ toksV ts)[j + 3]? = _
   rw [List.getElem?_append_right (by simp [tokV])]
   simp [tokV]
  rw [show (k + 1) * 3 = k * 3 + 3 from by omega, show k * 3 + 3 + 1 = (k * 3 + 1) + 3 from by omega, show k * 3 + 3 + 2 = (k * 3 + 2) + 3 from by omega, e, e, e]
  simpa using ih
def hereT (ts : List Lx.Tok) (sz k : Nat) : Lx.Tok := (ts[k]?).getD ⟨0, [], sz⟩
def tokA (t : Lx.Tok) : Value := .agg #[.int .i64 (t.kind : Int), .string ⟨t.text.toArray⟩, .int .i64 (t.pos : Int)]
theorem folB_get (s : ByteArray) (k lo hi : Nat) : Lx.folB s.data.toList k lo hi = decide (k < s.size ∧ lo ≤ (s.get! k).toNat ∧ (s.get! k).toNat ≤ hi) := by
 unfold Lx.folB
 by_cases h : k < s.size
 · rw [List.getElem?_eq_getElem (by simpa using h)]
   have e : s.get! k = s[k] := by
    simp [ByteArray.get!, getElem!_pos, h]
    rfl
   rw [e]
   simp [h]
   rfl
 rw [List.getElem?_eq_none (by simpa using h)]
 simp [h]
theorem get_here (s : ByteArray) (k : Nat) (h : k < s.size) : s.get! k = s[k] := by
 simp [ByteArray.get!, getElem!_pos, h]
 rfl
def clsN (n b0 b1 b2 b3 : Nat) : Nat :=
 if b0 < 128 then 1
 else if (194 ≤ b0 ∧ b0 ≤ 223) ∧ (1 < n ∧ 128 ≤ b1 ∧ b1 ≤ 191) then 2
 else if (224 ≤ b0 ∧ b0 ≤ 239) ∧ (1 < n ∧ Lx.loOf b0 ≤ b1 ∧ b1 ≤ Lx.hiOf b0) ∧ (2 < n ∧ 128 ≤ b2 ∧ b2 ≤ 191) then 3
 else if (240 ≤ b0 ∧ b0 ≤ 244) ∧ (1 < n ∧ Lx.loOf b0 ≤ b1 ∧ b1 ≤ Lx.hiOf b0) ∧ (2 < n ∧ 128 ≤ b2 ∧ b2 ≤ 191) ∧ (3 < n ∧ 128 ≤ b3 ∧ b3 ≤ 191) then 4
 else 0
theorem charN_cls (s : ByteArray) (i : Nat) (h : i < s.size) : Lx.charN (s.data.toList.drop i) = clsN (s.size - i) (s.get! i).toNat (s.get! (i + 1)).toNat (s.get! (i + 2)).toNat (s.get! (i + 3)).toNat := by
 rw [charN_at s i h, get_here s i h]
 unfold charB clsN
 simp only [folB_get, decide_eq_true_eq]
 have c1 : (i + 1 < s.size) = (1 < s.size - i) := propext ⟨fun h => by omega, fun h => by omega⟩
 have c2 : (i + 2 < s.size) = (2 < s.size - i) := propext ⟨fun h => by omega, fun h => by omega⟩
 have c3 : (i + 3 < s.size) = (3 < s.size - i) := propext ⟨fun h => by omega, fun h => by omega⟩
 simp only [c1, c2, c3]
theorem cls_bad (n b0 b1 b2 b3 : Nat) (h0 : b0 < 256) (h1 : b1 < 256) (h2 : b2 < 256) (h3 : b3 < 256) (h : clsN n b0 b1 b2 b3 = 0) : Lib.decodeN n b0 b1 b2 b3 = (65533, 1) ∧ 128 ≤ b0 := by
 unfold clsN Lx.loOf Lx.hiOf at h
 unfold Lib.decodeN
 repeat' split at h
 all_goals (try (exfalso; omega))
 all_goals
  refine ⟨?_, by omega⟩
  repeat' split
  all_goals first | rfl | (exfalso; omega)
theorem cls_one (n b0 b1 b2 b3 : Nat) (h : clsN n b0 b1 b2 b3 = 1) : b0 < 128 ∧ Lib.decodeN n b0 b1 b2 b3 = (b0, 1) := by
 unfold clsN at h
 repeat' split at h
 all_goals (try (exfalso; omega))
 rename_i hb
 exact ⟨hb, by simp [Lib.decodeN, hb]⟩
theorem cls_two (n b0 b1 b2 b3 : Nat) (h : clsN n b0 b1 b2 b3 = 2) : (194 ≤ b0 ∧ b0 ≤ 223) ∧ (1 < n ∧ 128 ≤ b1 ∧ b1 ≤ 191) ∧ Lib.decodeN n b0 b1 b2 b3 = (b0 % 32 * 64 + b1 % 64, 2) := by
 unfold clsN at h
 repeat' split at h
 all_goals (try (exfalso; omega))
 rename_i hb
 refine ⟨hb.1, hb.2, ?_⟩
 unfold Lib.decodeN
 rw [if_neg (by omega), if_pos (by omega), if_pos (by omega)]
theorem cls_three (n b0 b1 b2 b3 : Nat) (h : clsN n b0 b1 b2 b3 = 3) : (224 ≤ b0 ∧ b0 ≤ 239) ∧ (1 < n ∧ Lx.loOf b0 ≤ b1 ∧ b1 ≤ Lx.hiOf b0) ∧ (2 < n ∧ 128 ≤ b2 ∧ b2 ≤ 191) ∧ Lib.decodeN n b0 b1 b2 b3 = (b0 % 16 * 4096 + b1 % 64 * 64 + b2 % 64, 3) := by
 unfold clsN at h
 repeat' split at h
 all_goals (try (exfalso; omega))
 rename_i hb
 refine ⟨hb.1, hb.2.1, hb.2.2, ?_⟩
 have hl := hb.2.1
 unfold Lx.loOf Lx.hiOf at hl
 unfold Lib.decodeN
 repeat' split at hl
 all_goals rw [if_neg (by omega), if_neg (by omega), if_pos (by omega), if_pos (by omega)]
theorem cls_four (n b0 b1 b2 b3 : Nat) (h : clsN n b0 b1 b2 b3 = 4) : (240 ≤ b0 ∧ b0 ≤ 244) ∧ (1 < n ∧ Lx.loOf b0 ≤ b1 ∧ b1 ≤ Lx.hiOf b0) ∧ (2 < n ∧ 128 ≤ b2 ∧ b2 ≤ 191) ∧ (3 < n ∧ 128 ≤ b3 ∧ b3 ≤ 191) ∧ Lib.decodeN n b0 b1 b2 b3 = (b0 % 8 * 262144 + b1 % 64 * 4096 + b2 % 64 * 64 + b3 % 64, 4) := by
 unfold clsN at h
 repeat' split at h
 all_goals (try (exfalso; omega))
 rename_i hb
 refine ⟨hb.1, hb.2.1, hb.2.2.1, hb.2.2.2, ?_⟩
 have hl := hb.2.1
 unfold Lx.loOf Lx.hiOf at hl
 unfold Lib.decodeN
 repeat' split at hl
 all_goals rw [if_neg (by omega), if_neg (by omega), if_neg (by omega), if_pos (by omega), if_pos (by omega)]
theorem byte_back (b : UInt8) (x : Int) (h : x = (b.toNat : Int)) : x.toNat.toUInt8 = b := by
 subst h
 simp
theorem dec_bad (s : ByteArray) (i : Nat) (h : i < s.size) (hc : Lx.charN (s.data.toList.drop i) = 0) : Utf8.decode s i = (65533, 1) ∧ 128 ≤ s[i].toNat := by
 rw [charN_cls s i h] at hc
 have := cls_bad _ _ _ _ _ (UInt8.toNat_lt _) (UInt8.toNat_lt _) (UInt8.toNat_lt _) (UInt8.toNat_lt _) hc
 rw [get_here s i h] at this
 rw [Lib.decode_at, get_here s i h]
 exact this
theorem drop_take (s : ByteArray) (i n : Nat) (h : i + n ≤ s.size) (l : Lx.Bs) (hl : l.length = n) (hg : ∀ k, k < n → l[k]? = some (s.get! (i + k))) : (s.data.toList.drop i).take n = l := by
 apply List.ext_getElem?
 intro k
 by_cases hk : k < n
 · rw [List.getElem?_take_of_lt hk, List.getElem?_drop, hg k hk, get_here s (i + k) (by omega), List.getElem?_eq_getElem (by simp; have : s.data.size = s.size := rfl; omega)]
   rfl
 rw [List.getElem?_eq_none (by simp; omega), List.getElem?_eq_none (by omega)]
theorem dec_good (s : ByteArray) (i : Nat) (h : i < s.size) (hc : Lx.charN (s.data.toList.drop i) ≠ 0) :
   (Utf8.decode s i).2 = Lx.charN (s.data.toList.drop i) ∧ Lib.encodeRune ((Utf8.decode s i).1 : Int) = (s.data.toList.drop i).take (Lx.charN (s.data.toList.drop i)) ∧
     ((Lx.charN (s.data.toList.drop i) = 1 ∧ (Utf8.decode s i).1 = s[i].toNat ∧ s[i].toNat < 128) ∨ (1 < Lx.charN (s.data.toList.drop i) ∧ 128 ≤ (Utf8.decode s i).1 ∧ 128 ≤ s[i].toNat)) := by
 have hle := Lx.charN_le (s.data.toList.drop i)
 rw [List.length_drop, show s.data.toList.length = s.size from by simp] at hle
 have hcls := charN_cls s i h
 rw [Lib.decode_at]
 rw [get_here s i h] at hcls ⊢
 have B0 := s[i].toNat_lt
 have hcase : Lx.charN (s.data.toList.drop i) = 1 ∨ Lx.charN (s.data.toList.drop i) = 2 ∨ Lx.charN (s.data.toList.drop i) = 3 ∨ Lx.charN (s.data.toList.drop i) = 4 := by
  have : ∀ n b0 b1 b2 b3, clsN n b0 b1 b2 b3 = 0 ∨ clsN n b0 b1 b2 b3 = 1 ∨ clsN n b0 b1 b2 b3 = 2 ∨ clsN n b0 b1 b2 b3 = 3 ∨ clsN n b0 b1 b2 b3 = 4 := by
   intro n b0 b1 b2 b3
   unfold clsN
   repeat' split
   all_goals omega
  have := this (s.size - i) s[i].toNat (s.get! (i + 1)).toNat (s.get! (i + 2)).toNat (s.get! (i + 3)).toNat
  rw [← hcls] at this
  omega
 rcases hcase with e | e | e | e
 · rw [e] at hcls hle ⊢
   obtain ⟨q, d⟩ := cls_one _ _ _ _ _ hcls.symm
   rw [d]
   refine ⟨rfl, ?_, .inl ⟨rfl, rfl, q⟩⟩
   rw [drop_take s i 1 (by omega) [s.get! i] rfl (by intro k hk; have : k = 0 := by omega
                                                     subst this; rfl)]
   unfold Lib.encodeRune
   rw [Lib.encodeRuneZ_one (by omega) (by simp; omega)]
   simp only [List.map_cons, List.map_nil]
   rw [byte_back s[i] _ rfl, get_here s i h]
 · rw [e] at hcls hle ⊢
   obtain ⟨q, q1, d⟩ := cls_two _ _ _ _ _ hcls.symm
   rw [d]
   refine ⟨rfl, ?_, .inr ⟨by omega, by simp only; omega, by omega⟩⟩
   rw [drop_take s i 2 (by omega) [s.get! i, s.get! (i + 1)] rfl (by intro k hk; have : k = 0 ∨ k = 1 := by omega
                                                                     rcases this with rfl | rfl <;> rfl)]
   unfold Lib.encodeRune
   rw [Lib.encodeRuneZ_two (by simp only; omega) (by simp only; omega)]
   simp only [List.map_cons, List.map_nil]
   rw [byte_back s[i] _ (by omega), byte_back (s.get! (i + 1)) _ (by omega), get_here s i h]
 · rw [e] at hcls hle ⊢
   obtain ⟨q, q1, q2, d⟩ := cls_three _ _ _ _ _ hcls.symm
   unfold Lx.loOf Lx.hiOf at q1
   have B1 := (s.get! (i + 1)).toNat_lt
   have hr : ((2048 : Int) ≤ ((s[i].toNat % 16 * 4096 + (s.get! (i + 1)).toNat % 64 * 64 + (s.get! (i + 2)).toNat % 64 : Nat) : Int) ∧ ((s[i].toNat % 16 * 4096 + (s.get! (i + 1)).toNat % 64 * 64 + (s.get! (i + 2)).toNat % 64 : Nat) : Int) < 55296) ∨ ((57343 : Int) < ((s[i].toNat % 16 * 4096 + (s.get! (i + 1)).toNat % 64 * 64 + (s.get! (i + 2)).toNat % 64 : Nat) : Int) ∧ ((s[i].toNat % 16 * 4096 + (s.get! (i + 1)).toNat % 64 * 64 + (s.get! (i + 2)).toNat % 64 : Nat) : Int) ≤ 65535) := by
    repeat' split at q1
    all_goals omega
   have hb1 : 128 ≤ (s.get! (i + 1)).toNat ∧ (s.get! (i + 1)).toNat ≤ 191 := by
    repeat' split at q1
    all_goals omega
   rw [d]
   refine ⟨rfl, ?_, .inr ⟨by omega, by simp only; omega, by omega⟩⟩
   rw [drop_take s i 3 (by omega) [s.get! i, s.get! (i + 1), s.get! (i + 2)] rfl (by intro k hk; have : k = 0 ∨ k = 1 ∨ k = 2 := by omega
                                                                                     rcases this with rfl | rfl | rfl <;> rfl)]
   unfold Lib.encodeRune
   rw [Lib.encodeRuneZ_three hr]
   simp only [List.map_cons, List.map_nil]
   rw [byte_back s[i] _ (by omega), byte_back (s.get! (i + 1)) _ (by omega), byte_back (s.get! (i + 2)) _ (by omega), get_here s i h]
 rw [e] at hcls hle ⊢
 obtain ⟨q, q1, q2, q3, d⟩ := cls_four _ _ _ _ _ hcls.symm
 unfold Lx.loOf Lx.hiOf at q1
 have B1 := (s.get! (i + 1)).toNat_lt
 have hb1 : 128 ≤ (s.get! (i + 1)).toNat ∧ (s.get! (i + 1)).toNat ≤ 191 := by
  repeat' split at q1
  all_goals omega
 have hr : (65536 : Int) ≤ ((s[i].toNat % 8 * 262144 + (s.get! (i + 1)).toNat % 64 * 4096 + (s.get! (i + 2)).toNat % 64 * 64 + (s.get! (i + 3)).toNat % 64 : Nat) : Int) ∧ ((s[i].toNat % 8 * 262144 + (s.get! (i + 1)).toNat % 64 * 4096 + (s.get! (i + 2)).toNat % 64 * 64 + (s.get! (i + 3)).toNat % 64 : Nat) : Int) ≤ 1114111 := by
  repeat' split at q1
  all_goals omega
 rw [d]
 refine ⟨rfl, ?_, .inr ⟨by omega, by simp only; omega, by omega⟩⟩
 rw [drop_take s i 4 (by omega) [s.get! i, s.get! (i + 1), s.get! (i + 2), s.get! (i + 3)] rfl (by intro k hk; have : k = 0 ∨ k = 1 ∨ k = 2 ∨ k = 3 := by omega
                                                                                                   rcases this with rfl | rfl | rfl | rfl <;> rfl)]
 unfold Lib.encodeRune
 rw [Lib.encodeRuneZ_four hr.1 hr.2]
 simp only [List.map_cons, List.map_nil]
 rw [byte_back s[i] _ (by omega), byte_back (s.get! (i + 1)) _ (by omega), byte_back (s.get! (i + 2)) _ (by omega), byte_back (s.get! (i + 3)) _ (by omega), get_here s i h]
theorem folB_some {l : Lx.Bs} {i lo hi : Nat} (h : Lx.folB l i lo hi = true) (hl : 128 ≤ lo) : ∃ c, l[i]? = some c ∧ 128 ≤ c.toNat := by
 unfold Lx.folB at h
 split at h
 · rename_i b hb
   simp only [decide_eq_true_eq] at h
   exact ⟨b, hb, by omega⟩
 cases h
theorem loOf_ge (b : Nat) : 128 ≤ Lx.loOf b := by
 unfold Lx.loOf
 split
 · omega
 split <;> omega
theorem char_nz (b : UInt8) (r : Lx.Bs) (hb : b.toNat ≠ 0) : (0 : UInt8) ∉ (b :: r).take (Lx.charN (b :: r)) := by
 intro hm
 obtain ⟨i, hi⟩ := List.mem_iff_getElem?.1 hm
 rw [List.getElem?_take] at hi
 split at hi
 case isFalse => cases hi
 case isTrue hlt =>
  have one : ∀ j lo hi', Lx.folB (b :: r) j lo hi' = true → 128 ≤ lo → i = j → False := by
   intro j lo hi' hf hlo e
   subst e
   obtain ⟨c, hc, hc'⟩ := folB_some hf hlo
   rw [hi] at hc
   cases hc
   simp at hc'
  have zero : i = 0 → False := by
   rintro rfl
   simp at hi
   exact hb (by rw [hi]; rfl)
  have lo := loOf_ge b.toNat
  unfold Lx.charN at hlt
  simp only at hlt
  split at hlt
  · exact zero (by omega)
  split at hlt
  · rename_i h
    rcases (by omega : i = 0 ∨ i = 1) with e | e
    · exact zero e
    exact one 1 _ _ h.2 (by omega) e
  split at hlt
  · rename_i h
    rcases (by omega : i = 0 ∨ i = 1 ∨ i = 2) with e | e | e
    · exact zero e
    · exact one 1 _ _ h.2.1 lo e
    exact one 2 _ _ h.2.2 (by omega) e
  split at hlt
  · rename_i h
    rcases (by omega : i = 0 ∨ i = 1 ∨ i = 2 ∨ i = 3) with e | e | e | e
    · exact zero e
    · exact one 1 _ _ h.2.1 lo e
    · exact one 2 _ _ h.2.2.1 (by omega) e
    exact one 3 _ _ h.2.2.2 (by omega) e
  omega
theorem valid_zero : ∀ (n : Nat) (l : Lx.Bs), l.length ≤ n → Lx.validN l = (Lib.validD l && !l.contains 0)
 | 0, l, h => by
  have : l = [] := List.eq_nil_of_length_eq_zero (by omega)
  subst this
  rfl
 | n + 1, [], _ => rfl
 | n + 1, b :: r, h => by
  rw [Lx.validN_cons, Lib.validD_step _ (by simp)]
  have hsz : (⟨(b :: r).toArray⟩ : ByteArray).size = r.length + 1 := by simp [ByteArray.size]
  have hd0 : (⟨(b :: r).toArray⟩ : ByteArray).data.toList.drop 0 = b :: r := by simp
  by_cases hc : Lx.charN (b :: r) = 0
  · have := (dec_bad ⟨(b :: r).toArray⟩ 0 (by omega) (by rw [hd0]; exact hc)).1
    rw [if_pos (.inl hc), if_pos (by show (Utf8.decode _ 0).1 = _ ∧ (Utf8.decode _ 0).2 = _; rw [this]; exact ⟨rfl, rfl⟩)]
    simp
  obtain ⟨h2, _, h3⟩ := dec_good ⟨(b :: r).toArray⟩ 0 (by omega) (by rw [hd0]; exact hc)
  rw [hd0] at h2 h3
  have hne : ¬ ((Lib.decodeL (b :: r)).1 = 65533 ∧ (Lib.decodeL (b :: r)).2 = 1) := by
   rintro ⟨e1, e2⟩
   have e1' : (Utf8.decode ⟨(b :: r).toArray⟩ 0).1 = 65533 := e1
   have e2' : (Utf8.decode ⟨(b :: r).toArray⟩ 0).2 = 1 := e2
   rcases h3 with ⟨_, q1, q2⟩ | ⟨q1, _⟩
   · rw [e1'] at q1; omega
   omega
  have h2' : (Lib.decodeL (b :: r)).2 = Lx.charN (b :: r) := h2
  rw [if_neg hne, h2']
  have hle := Lx.charN_le (b :: r)
  simp only [List.length_cons] at hle h
  by_cases hb : b.toNat = 0
  · have : b = 0 := UInt8.toNat_inj.1 hb
    subst this
    rw [if_pos (.inr hb)]
    simp
  rw [if_neg (by omega), valid_zero n _ (by rw [List.length_drop, List.length_cons]; omega)]
  congr 2
  have hz := char_nz b r hb
  rw [Bool.eq_iff_iff]
  simp only [List.contains_iff_mem]
  constructor
  · intro hm; exact List.mem_of_mem_drop hm
  intro hm
  rw [← List.take_append_drop (Lx.charN (b :: r)) (b :: r)] at hm
  rcases List.mem_append.1 hm with hm | hm
  · exact absurd hm hz
  exact hm
theorem valid_lib (l : Lx.Bs) : Lx.validN l = (Lib.validD l && !decide (0 ≤ Lib.indexByte l 0)) := by
 rw [valid_zero l.length l (nlr _), Lib.contains_iff_indexByte]
section
open Lx (Bs)
theorem decF_lib : ∀ (f n : Nat), n < 10 ^ (f + 1) → Px.decF (f + 1) n = Lib.decDigits n
 | 0, n, h => by
  have h1 : n < 10 := by simpa using h
  rw [Px.decF, Lib.decDigits, if_pos h1, dif_pos h1]
 | f + 1, n, h => by
  rw [Px.decF, Lib.decDigits]
  by_cases h1 : n < 10
  · rw [if_pos h1, dif_pos h1]
  rw [if_neg h1, dif_neg h1, decF_lib f (n / 10) (by rw [Nat.pow_succ] at h; omega)]
theorem itoa_pos (n : Nat) (h : n ≤ 9223372036854775808) : Lib.itoa (n : Int) = Px.decF 20 n := by
 rw [Lib.itoa_nonneg, decF_lib 19 n (by omega)]
theorem itoa_min (n : Nat) (h0 : 1 ≤ n) (h : n ≤ 9223372036854775808) : Lib.itoa (-(n : Int)) = 45 :: Px.decF 20 n := by
 rw [Lib.itoa_neg n h0, decF_lib 19 n (by omega)]
theorem decF_ne (n : Nat) : Px.decF 20 n ≠ [] := by
 rw [Px.decF]
 split <;> simp
def dblIn (m : UInt8) (s : Bs) : Bs := s.flatMap fun b => if b = m then [b, b] else [b]
theorem index_here (m : UInt8) (r : Bs) : Lib.index (m :: r) [m] = ((0 : Nat) : Int) := by
 rw [Lib.index_one, Lib.indexByte]; simp
theorem index_later (b m : UInt8) (r : Bs) (h : b ≠ m) : Lib.index (b :: r) [m] = if Lib.index r [m] = -1 then -1 else Lib.index r [m] + 1 := by
 rw [Lib.index_one, Lib.index_one, Lib.indexByte, if_neg (by simpa using h)]
 by_cases h1 : Lib.indexByte r m = -1
 · rw [if_pos (by simpa using h1), if_pos h1]
 rw [if_neg (by simpa using h1), if_neg h1]
theorem count_later (b m : UInt8) (r : Bs) (h : b ≠ m) : Lib.count (b :: r) [m] = Lib.count r [m] := by
 have hi := index_later b m r h
 by_cases h1 : Lib.index r [m] = -1
 · rw [if_pos h1] at hi
   rw [Lib.count_miss hi, Lib.count_miss h1]
 rw [if_neg h1] at hi
 have hge := Lib.index_ge r [m]
 obtain ⟨i, hi'⟩ : ∃ i : Nat, Lib.index r [m] = i := ⟨(Lib.index r [m]).toNat, by omega⟩
 rw [Lib.count_hit (by simp) hi', Lib.count_hit (i := i + 1) (by simp) (by rw [hi, hi']; omega)]
 rfl
theorem replaceK_later (b m : UInt8) (new r : Bs) (h : b ≠ m) : ∀ k, Lib.replaceK [m] new k (b :: r) = b :: Lib.replaceK [m] new k r
 | 0 => rfl
 | k + 1 => by
  have hi := index_later b m r h
  by_cases h1 : Lib.index r [m] = -1
  · rw [if_pos h1] at hi
    rw [Lib.replaceK, if_pos (by rw [hi]; rfl), Lib.replaceK, if_pos (by rw [h1]; rfl)]
  rw [if_neg h1] at hi
  have hge := Lib.index_ge r [m]
  obtain ⟨i, hi'⟩ : ∃ i : Nat, Lib.index r [m] = i := ⟨(Lib.index r [m]).toNat, by omega⟩
  rw [Lib.replaceK_hit _ _ k r i hi', Lib.replaceK_hit _ _ k (b :: r) (i + 1) (by rw [hi, hi']; omega)]
  rw [List.length_singleton, show i + 1 + 1 = (i + 1) + 1 from rfl, List.drop_succ_cons, List.take_succ_cons]
  simp
theorem replaceK_dbl (m : UInt8) : ∀ s : Bs, Lib.replaceK [m] [m, m] (Lib.count s [m]) s = dblIn m s
 | [] => by rw [Lib.count_miss (by rfl)]; rfl
 | b :: r => by
  have ih := replaceK_dbl m r
  by_cases h : b = m
  · subst h
    rw [Lib.count_hit (by simp) (index_here b r), Nat.add_comm, Lib.replaceK_hit _ _ _ _ 0 (index_here b r)]
    simp only [List.length_singleton, Nat.zero_add, List.drop_succ_cons, List.drop_zero, List.take_zero, List.nil_append]
    rw [ih]
    simp [dblIn]
  rw [count_later b m r h, replaceK_later b m _ r h, ih]
  simp [dblIn, h]
theorem replaceAll_dbl (m : UInt8) (s : Bs) : Lib.replaceAll s [m] [m, m] = dblIn m s := by
 unfold Lib.replaceAll Lib.replace
 rw [if_neg (by simp)]
 unfold Lib.replaceNum
 rw [if_pos (.inl (by decide))]
 exact replaceK_dbl m s
theorem dbl_in (m : UInt8) (s : Bs) : Px.dbl m s = [m] ++ dblIn m s ++ [m] := rfl
theorem count_le (m : UInt8) : ∀ s : Bs, Lib.count s [m] ≤ s.length
 | [] => by rw [Lib.count_miss (by rfl)]; simp
 | b :: r => by
  have ih := count_le m r
  by_cases h : b = m
  · subst h
    rw [Lib.count_hit (by simp) (index_here b r)]
    show 1 + Lib.count r [b] ≤ r.length + 1
    omega
  rw [count_later b m r h, List.length_cons]; omega
end
end Go.Proofs.YtkcakbgcfnhgaaaGreatDoor
