/- What the texts of a seat share: plain facts on memory, lists of cells, tokens and nodes. No function of the program is named here. -/
import Derived.Test.YtihchcoclncjdaaDoorRows
import Derived.WalkKit
import Derived.WalkSpells
import Derived.WalkLawsBesides
import Derived.Test.YtihchcoclncjdaaDoorLex
import Derived.Deep.Light
import Derived.Lib.Strings
import Derived.Lib.IndexBytes
import Derived.Laws.IdiomStrings
import Derived.Test.YtihchcoclncjdaaDoorPw
import Derived.BigQuiet
import Derived.Deep.QuietTactic
import Derived.Handy
namespace Go.Proofs.YtihchcoclncjdaaDoor
open Go.RowKit
set_option linter.unusedSimpArgs false
set_option linter.unusedVariables false

theorem hd {p : Prop} (h : p) : Hid p := h

theorem ret_bool {a b : Bool} (h : a = b) : Ending.returned (.bool a) = .returned (.bool b) := by rw [h]

theorem ret_int {k : IntKind} {a b : Int} (h : a = b) : Ending.returned (.int k a) = .returned (.int k b) := by rw [h]

theorem drop_at (s : ByteArray) (k : Nat) (h : k < s.size) : s.data.toList.drop k = s[k] :: s.data.toList.drop (k + 1) := by
  rw [List.drop_eq_getElem_cons (by simpa using h)]; rfl

theorem cnt_at (p : UInt8 → Bool) (s : ByteArray) (k : Nat) (h : k < s.size) : Lx.cnt p (s.data.toList.drop k) = if p s[k] = true then Lx.cnt p (s.data.toList.drop (k + 1)) + 1 else 0 := by
  rw [drop_at s k h]; rfl

theorem cnt_end (p : UInt8 → Bool) (s : ByteArray) (k : Nat) (h : s.size ≤ k) : Lx.cnt p (s.data.toList.drop k) = 0 := by
  rw [List.drop_eq_nil_of_le (by simpa using h)]; rfl

theorem folB_drop (l : Lx.Bs) (a i lo hi : Nat) : Lx.folB (l.drop a) i lo hi = Lx.folB l (a + i) lo hi := by
  unfold Lx.folB; rw [List.getElem?_drop]

def charB (b : Nat) (two near three four : Bool) : Nat :=
  if b < 128 then 1
  else if (194 ≤ b ∧ b ≤ 223) ∧ two = true then 2
  else if (224 ≤ b ∧ b ≤ 239) ∧ near = true ∧ three = true then 3
  else if (240 ≤ b ∧ b ≤ 244) ∧ near = true ∧ three = true ∧ four = true then 4
  else 0

theorem charN_at (s : ByteArray) (a : Nat) (h : a < s.size) : Lx.charN (s.data.toList.drop a) =
    charB s[a].toNat (Lx.folB s.data.toList (a + 1) 128 191) (Lx.folB s.data.toList (a + 1) (Lx.loOf s[a].toNat) (Lx.hiOf s[a].toNat)) (Lx.folB s.data.toList (a + 2) 128 191) (Lx.folB s.data.toList (a + 3) 128 191) := by
  have e := drop_at s a h
  have f : ∀ i lo hi, Lx.folB (s[a] :: s.data.toList.drop (a + 1)) i lo hi = Lx.folB s.data.toList (a + i) lo hi := by
    intro i lo hi; rw [← e, folB_drop]
  rw [e]
  simp only [Lx.charN, charB, f]

theorem beq_yes {c n : Nat} (h : ((c : Int) == (n : Int)) = true) : c = n := by simp at h; omega

theorem beq_no {c n : Nat} (h : ((c : Int) == (n : Int)) = false) : ¬ c = n := by simp at h; omega

theorem valid_at (s : ByteArray) (k : Nat) (h : k < s.size) : Lx.validN (s.data.toList.drop k) =
    if Lx.charN (s.data.toList.drop k) = 0 ∨ s[k].toNat = 0 then false else Lx.validN (s.data.toList.drop (k + Lx.charN (s.data.toList.drop k))) := by
  have e := drop_at s k h
  rw [e, Lx.validN_cons, ← e, List.drop_drop]

theorem valid_end (s : ByteArray) (k : Nat) (h : s.size ≤ k) : Lx.validN (s.data.toList.drop k) = true := by
  rw [List.drop_eq_nil_of_le (by simpa using h)]; rfl

theorem or_zero {n m : Nat} (h : ((n : Int) == 0) = true ∨ ((m : Int) == 0) = true) : n = 0 ∨ m = 0 := by
  simp only [beq_iff_eq] at h; omega

theorem and_zero {n m : Nat} (h : ((n : Int) == 0) = false ∧ ((m : Int) == 0) = false) : ¬ (n = 0 ∨ m = 0) := by
  simp only [beq_eq_false_iff_ne, ne_eq] at h; omega

/-- How long the text in a slot is. -/
def strSize : Value → Nat | .string t => t.size | _ => 0

theorem least_at (t : ByteArray) (h : 1 < t.size) : Lx.leastB t.data.toList = if t[0].toNat = 48 then Lx.leastB (t.data.toList.drop 1) else t.data.toList := by
  obtain ⟨⟨l⟩⟩ := t
  match l, h with
  | b :: c :: r, _ => rfl

theorem least_short (t : ByteArray) (h : t.size ≤ 1) : Lx.leastB t.data.toList = t.data.toList := by
  obtain ⟨⟨l⟩⟩ := t
  match l, h with
  | [], _ => rfl
  | [b], _ => rfl
  | b :: c :: r, h => simp [ByteArray.size] at h

theorem skip_end (m : Bool) (s : ByteArray) (k : Nat) (h : s.size ≤ k) : Lx.skipM m (s.data.toList.drop k) = 0 := by
  rw [List.drop_eq_nil_of_le (by simpa using h)]; cases m <;> rfl

theorem skip_in (s : ByteArray) (k : Nat) (h : k < s.size) : Lx.skipM true (s.data.toList.drop k) = if s[k].toNat = 10 then 1 + Lx.skipM false (s.data.toList.drop (k + 1)) else 1 + Lx.skipM true (s.data.toList.drop (k + 1)) := by
  rw [drop_at s k h]
  simp only [Lx.skipM, Lx.notNl]
  by_cases q : s[k].toNat = 10 <;> simp [q]

theorem skip_out (s : ByteArray) (k : Nat) (h : k < s.size) : Lx.skipM false (s.data.toList.drop k) =
    if s[k].toNat = 45 ∧ (s.data.toList.drop (k + 1)).head? = some 45 then 1 + Lx.skipM true (s.data.toList.drop (k + 1)) else if Lx.isSp s[k] = true then 1 + Lx.skipM false (s.data.toList.drop (k + 1)) else 0 := by
  rw [drop_at s k h]
  simp only [Lx.skipM]

theorem skip_nl (s : ByteArray) (k : Nat) (h : k < s.size) (q : s[k].toNat = 10) : Lx.skipM false (s.data.toList.drop k) = 1 + Lx.skipM false (s.data.toList.drop (k + 1)) := by
  rw [skip_out s k h, if_neg (by omega), if_pos (by simp [Lx.isSp, q])]

theorem bne_yes {c n : Nat} (h : ((c : Int) != (n : Int)) = true) : ¬ c = n := by simp at h; omega

theorem bne_no {c n : Nat} (h : ((c : Int) != (n : Int)) = false) : c = n := by simp at h; omega

theorem two_at (s : ByteArray) (k : Nat) (h : k + 2 ≤ s.size) : (s.extract k (k + 2)).toList = [s[k], s[k + 1]] := by
  rw [Lib.extract_toList, drop_at s k (by omega), drop_at s (k + 1) (by omega)]
  simp

theorem skip_dash (s : ByteArray) (k : Nat) (h2 : (2 : Int) ≤ s.size - k) (hd : ((s.extract k (k + 2)).toList == [45, 45]) = true) :
    Lx.skipM false (s.data.toList.drop k) = Lx.skipM true (s.data.toList.drop k) ∧ (s[k]'(by omega)).toNat = 45 := by
  have h : k < s.size := by omega
  rw [two_at s k (by omega)] at hd
  simp only [beq_iff_eq, List.cons.injEq, and_true] at hd
  obtain ⟨e1, e2⟩ := hd
  have e1' : s[k].toNat = 45 := by rw [e1]; rfl
  refine ⟨?_, e1'⟩
  rw [skip_out s k h, skip_in s k h, if_pos ⟨e1', by rw [drop_at s (k + 1) (by omega), e2]; rfl⟩, if_neg (by omega)]

theorem skip_plain (s : ByteArray) (k : Nat) (h : k < s.size) (hd : ((s.extract k (k + 2)).toList == [45, 45]) = false ∨ (s.size : Int) - k < 2) :
    Lx.skipM false (s.data.toList.drop k) = if Lx.isSp s[k] = true then 1 + Lx.skipM false (s.data.toList.drop (k + 1)) else 0 := by
  rw [skip_out s k h, if_neg]
  rintro ⟨q1, q2⟩
  have q1' : s[k] = 45 := UInt8.toNat_inj.1 (by rw [q1]; rfl)
  by_cases h2 : k + 2 ≤ s.size
  · rcases hd with hd | hd
    · rw [drop_at s (k + 1) (by omega)] at q2
      rw [two_at s k h2, q1'] at hd
      simp at hd q2
      exact hd q2
    · omega
  · rw [List.drop_eq_nil_of_le (by simp; have : s.data.size = s.size := rfl; omega)] at q2
    simp at q2

theorem contains_at (ss : List Lx.Bs) (x : Lx.Bs) (k : Nat) (h : k < ss.length) : Lx.hasB (ss.drop k) x = (ss.getD k [] == x || Lx.hasB (ss.drop (k + 1)) x) := by
  rw [List.drop_eq_getElem_cons h, List.getD_eq_getElem?_getD, List.getElem?_eq_getElem h]
  rfl

/-- Texts laid as a row of strings. -/
def strRow (ss : List Lx.Bs) : Array Value := (ss.map fun x => Value.string ⟨x.toArray⟩).toArray

theorem strRow_cell (w : World) (ss : List Lx.Bs) (T : TypeId) : ∀ i, i < ss.length → ∃ t : ByteArray, (w.alloc (.cells (strRow ss) T)).cell? ⟨w.heap.size, i, none⟩ = some (.string t) ∧ t.data.toList = ss.getD i [] := by
  intro i hi
  refine ⟨⟨(ss.getD i []).toArray⟩, ?_, by simp⟩
  rw [World.cell?_alloc_at _ _ _ _ rfl]
  simp [strRow, List.getElem?_eq_getElem hi]

/-- A row of bytes of which the first k are turned. -/
def Cased (f : UInt8 → UInt8) (s : ByteArray) (g k : Nat) (wr : World) : Prop :=
  ∀ j, (h : j < s.size) → wr.cell? ⟨g, j, none⟩ = some (.int .u8 ((if j < k then f s[j] else s[j]).toNat : Int)) ∧ wr.frozen? ⟨g, j, none⟩ = false

theorem Cased.keep {f : UInt8 → UInt8} {s : ByteArray} {g k : Nat} {wr : World} (h : Cased f s g k wr) (hk : k < s.size) (he : f s[k] = s[k]) : Cased f s g (k + 1) wr := by
  intro j hj
  refine ⟨?_, (h j hj).2⟩
  rw [(h j hj).1]
  by_cases e : j = k
  · subst e; simp [he]
  · by_cases q : j < k
    · simp [q, show j < k + 1 from by omega]
    · simp [q, show ¬ j < k + 1 from by omega]

theorem Cased.set {f : UInt8 → UInt8} {s : ByteArray} {g k : Nat} {wr : World} (h : Cased f s g k wr) (hk : k < s.size) (x : Int) (he : x = ((f s[k]).toNat : Int)) : Cased f s g (k + 1) (wr.setCell ⟨g, k, none⟩ (.int .u8 x)) := by
  intro j hj
  rw [World.frozen?_setCell]
  refine ⟨?_, (h j hj).2⟩
  by_cases e : j = k
  · subst e
    rw [World.cell?_setCell_same _ _ _ (h j hj).1, he]
    simp
  · rw [World.cell?_setCell_other _ _ _ _ (by simp [Ne.symm e]), (h j hj).1]
    by_cases q : j < k
    · simp [q, show j < k + 1 from by omega]
    · simp [q, show ¬ j < k + 1 from by omega]

theorem Cased.start (f : UInt8 → UInt8) (s : ByteArray) (w : World) (cap : Nat) :
    Cased f s w.heap.size 0 (w.drew.alloc (.cells (bytesRow s cap) 5 ((bytesRow s cap).size, (bytesRow s cap).size + 1))) := by
  intro j hj
  have hsz : s.size ≤ (bytesRow s cap).size := by simp [bytesRow]
  have e0 : w.heap.size = w.drew.heap.size := rfl
  constructor
  · rw [e0, World.cell?_alloc_mark]
    unfold bytesRow
    rw [Array.getElem?_append_left (by simpa using hj)]
    simp only [Array.getElem?_map, Nat.not_lt_zero, if_false]
    rw [Array.getElem?_eq_getElem hj]
    rfl
  · have hb : (w.drew.alloc (.cells (bytesRow s cap) 5 ((bytesRow s cap).size, (bytesRow s cap).size + 1))).heap[w.heap.size]? = some (.cells (bytesRow s cap) 5 ((bytesRow s cap).size, (bytesRow s cap).size + 1)) := by
      show (w.heap.push _)[w.heap.size]? = _
      simp
    simp only [World.frozen?, hb]
    simp
    omega

theorem Cased.done {f : UInt8 → UInt8} {s : ByteArray} {g : Nat} {wr : World} (h : Cased f s g s.size wr) :
    ∀ j (hj : j < (s.data.toList.map f).length), wr.cell? ((⟨g, 0, none⟩ : Addr).add j) = some (.int .u8 (((s.data.toList.map f)[j]).toNat : Int)) := by
  intro j hj
  have hj' : j < s.size := by simpa using hj
  rw [Addr.add_lit, Nat.zero_add, (h j hj').1]
  simp [hj']
  rfl

theorem Below.cased {w : World} (s : ByteArray) (cap : Nat) : Below w.heap.size w (w.drew.alloc (.cells (bytesRow s cap) 5 ((bytesRow s cap).size, (bytesRow s cap).size + 1))) :=
  (Below.refl _ _).drew.alloc (Nat.le_refl _) _

theorem upper_num {b : UInt8} (h1 : (97 : Int) ≤ (b.toNat : Int)) (h2 : (b.toNat : Int) ≤ 122) : (b.toNat : Int) - 32 = ((Lx.upB b).toNat : Int) := by
  unfold Lx.upB
  rw [if_pos (by omega), UInt8.toNat_sub]
  have : (32 : UInt8).toNat = 32 := rfl
  omega

theorem upper_same {b : UInt8} (h : ¬ ((97 : Int) ≤ (b.toNat : Int) ∧ (b.toNat : Int) ≤ 122)) : Lx.upB b = b := by
  unfold Lx.upB
  rw [if_neg (by omega)]

theorem lower_num {b : UInt8} (h1 : (65 : Int) ≤ (b.toNat : Int)) (h2 : (b.toNat : Int) ≤ 90) : (b.toNat : Int) + 32 = ((Lx.lowB b).toNat : Int) := by
  unfold Lx.lowB
  rw [if_pos (by omega), UInt8.toNat_add]
  have : (32 : UInt8).toNat = 32 := rfl
  omega

theorem lower_same {b : UInt8} (h : ¬ ((65 : Int) ≤ (b.toNat : Int) ∧ (b.toNat : Int) ≤ 90)) : Lx.lowB b = b := by
  unfold Lx.lowB
  rw [if_neg (by omega)]

/-- A byte as a value. -/
def byteV (b : UInt8) : Value := .int .u8 (b.toNat : Int)

theorem Tryd.info5 : (Tryd.prog.info? 5).map (fun i => (i.zero, i.size, i.bytes)) = some (some (.int .u8 0), 1, 1) := by kernel_rfl

theorem conv_own {w : World} {base : Nat} {v : Value} {acc : Lx.Bs} (h : w.ownsRow base 5 1 v acc.length (acc.map byteV)) :
    ∃ t : ByteArray, (convert 76 9 v).run Tryd.prog w = .ok (.string t) w ∧ t.data.toList = acc := by
  rcases h.2 with ⟨rfl, hn⟩ | ⟨g, cap, cur, rfl, _, hg, hn, _, _, htake⟩
  · have : acc = [] := List.length_eq_zero_iff.1 hn
    subst this
    refine ⟨ByteArray.empty, ?_, rfl⟩
    rw [run_convert_bytes_string w 76 9 5 none 0 0 Tryd.underlying76 Tryd.underlying5 Tryd.underlying9]
    rfl
  · refine ⟨⟨acc.toArray⟩, ?_, by simp⟩
    refine run_convert_bytes_back (P := Tryd.prog) w 76 9 5 ⟨g, 0, none⟩ cap acc Tryd.underlying76 Tryd.underlying5 Tryd.underlying9 ?_
    intro j hj
    refine h.cells (g := g) rfl j _ ?_
    simp [List.getElem?_eq_getElem hj, byteV]

theorem betw_other (m : UInt8) (b : UInt8) (r : Lx.Bs) (h : b ≠ m) : Lx.betw m (b :: r) = (Lx.betw m r).map (fun x => (b :: x.1, x.2 + 1)) := by
  cases r with
  | nil => simp [Lx.betw, h]
  | cons c r => simp [Lx.betw, h]

/-- What has been read so far of what stands between. -/
def BetwAt (m : UInt8) (l : Lx.Bs) (k : Nat) (acc : Lx.Bs) : Prop :=
  Lx.betw m l = (Lx.betw m (l.drop k)).map (fun x => (acc ++ x.1, x.2 + k)) ∧ acc.length ≤ k

theorem BetwAt.start (m : UInt8) (l : Lx.Bs) : BetwAt m l 0 [] := by
  unfold BetwAt
  simp

theorem BetwAt.other {m : UInt8} {l : Lx.Bs} {k : Nat} {acc : Lx.Bs} {b : UInt8} {r : Lx.Bs} (h : BetwAt m l k acc) (e : l.drop k = b :: r) (hb : b ≠ m) : BetwAt m l (k + 1) (acc ++ [b]) := by
  unfold BetwAt at *
  have e2 : l.drop (k + 1) = r := by rw [← List.drop_drop, e]; rfl
  refine ⟨?_, by simp; omega⟩
  rw [h.1, e, betw_other m b r hb, e2, Option.map_map]
  congr 1
  funext x
  simp; omega

theorem BetwAt.double {m : UInt8} {l : Lx.Bs} {k : Nat} {acc : Lx.Bs} {r : Lx.Bs} (h : BetwAt m l k acc) (e : l.drop k = m :: m :: r) : BetwAt m l (k + 2) (acc ++ [m]) := by
  unfold BetwAt at *
  have e2 : l.drop (k + 2) = r := by rw [← List.drop_drop, e]; rfl
  refine ⟨?_, by simp; omega⟩
  rw [h.1, e, e2]
  simp only [Lx.betw, if_true, Option.map_map]
  congr 1
  funext x
  simp; omega

theorem BetwAt.last {m : UInt8} {l : Lx.Bs} {k : Nat} {acc : Lx.Bs} {r : Lx.Bs} (h : BetwAt m l k acc) (e : l.drop k = m :: r) (hr : r.head? ≠ some m) : Lx.betw m l = some (acc, k + 1) := by
  unfold BetwAt at *
  rw [h.1, e]
  cases r with
  | nil => simp [Lx.betw]; omega
  | cons c r =>
    have : c ≠ m := by simpa using hr
    simp [Lx.betw, this]; omega

theorem BetwAt.none {m : UInt8} {l : Lx.Bs} {k : Nat} {acc : Lx.Bs} (h : BetwAt m l k acc) (e : l.drop k = []) : Lx.betw m l = none := by
  unfold BetwAt at *
  rw [h.1, e]
  rfl

/-- What 'between' answers. -/
def betwV (r : Option (Lx.Bs × Nat)) (a : Nat) (t : ByteArray) (n : Int) : Prop :=
  match r with
  | some (x, k) => t.data.toList = x ∧ n = (a + 1 + k : Nat)
  | none => t.data.toList = [] ∧ n = -1

theorem bcell {W w1 : World} (hb : Below W.heap.size W w1) : (∀ b o, b < W.heap.size → w1.cell? ⟨b, o, none⟩ = W.cell? ⟨b, o, none⟩) ∧ (∀ b o, b < W.heap.size → w1.frozen? ⟨b, o, none⟩ = W.frozen? ⟨b, o, none⟩) :=
  ⟨fun b o h => hb.cell (p := ⟨b, o, none⟩) h, fun b o h => hb.frozen (p := ⟨b, o, none⟩) h⟩

/-- Block b holds just these cells, none frozen. -/
def Blk (w : World) (b : Nat) (cs : Array Value) (t : TypeId) : Prop := w.heap[b]? = some (.cells cs t (0, 0))

theorem Blk.cell {w : World} {b : Nat} {cs : Array Value} {t : TypeId} (h : Blk w b cs t) (i : Nat) : w.cell? ⟨b, i, none⟩ = cs[i]? := cell_of_row w b i cs t (0, 0) h

theorem Blk.free {w : World} {b : Nat} {cs : Array Value} {t : TypeId} (h : Blk w b cs t) (i : Nat) : w.frozen? ⟨b, i, none⟩ = false := by
  unfold Blk at h
  simp [World.frozen?, h]

theorem Blk.lt {w : World} {b : Nat} {cs : Array Value} {t : TypeId} (h : Blk w b cs t) : b < w.heap.size := (Array.getElem?_eq_some_iff.1 h).1

theorem Blk.new (w : World) (cs : Array Value) (t : TypeId) : Blk (w.alloc (.cells cs t)) w.heap.size cs t := heap_alloc_new w _

theorem Blk.alloc {w : World} {b : Nat} {cs : Array Value} {t : TypeId} (h : Blk w b cs t) (o : Obj) : Blk (w.alloc o) b cs t := by
  unfold Blk at *
  show (w.heap.push o)[b]? = _
  rw [Array.getElem?_push_lt (Array.getElem?_eq_some_iff.1 h).1, ← Array.getElem?_eq_getElem]; exact h

theorem Blk.below {W w1 : World} {b B : Nat} {cs : Array Value} {t : TypeId} (h : Blk W b cs t) (hb : Below B W w1) (hlt : b < B) : Blk w1 b cs t := by
  unfold Blk at *
  rw [hb.block b hlt]; exact h

theorem Blk.drew {w : World} {b : Nat} {cs : Array Value} {t : TypeId} (h : Blk w b cs t) : Blk w.drew b cs t := h

theorem Blk.set {w : World} {b : Nat} {cs : Array Value} {t : TypeId} (h : Blk w b cs t) (i : Nat) (v : Value) : Blk (w.setCell ⟨b, i, none⟩ v) b (cs.setIfInBounds i v) t := by
  unfold Blk at *
  simp only [World.setCell, Array.getElem?_modify, if_true, h]
  rfl

theorem Blk.far {w : World} {b : Nat} {cs : Array Value} {t : TypeId} (h : Blk w b cs t) (p : Addr) (v : Value) (hp : p.block ≠ b) : Blk (w.setCell p v) b cs t := by
  unfold Blk at *
  rw [Below.heap_setCell _ _ _ _ (Ne.symm hp)]; exact h

theorem Blk.three {w : World} {b : Nat} {x y z : Value} {t : TypeId} (h : Blk w b #[x, y, z] t) :
    (w.cell? ⟨b, 0, none⟩ = some x ∧ w.cell? ⟨b, 1, none⟩ = some y ∧ w.cell? ⟨b, 2, none⟩ = some z) ∧ w.frozen? ⟨b, 0, none⟩ = false ∧ w.frozen? ⟨b, 1, none⟩ = false ∧ w.frozen? ⟨b, 2, none⟩ = false :=
  ⟨⟨h.cell 0, h.cell 1, h.cell 2⟩, h.free 0, h.free 1, h.free 2⟩

/-- A token's three cells, just written. -/
theorem fin3 {w W : World} {N : Nat} {x y z : Value} {T : TypeId} (h : Blk W N #[x, y, z] T) (hB : Below N w W) (k : Int) (t : ByteArray) (p : Int) :
    Blk (((W.setCell ⟨N, 0, none⟩ (.int .i64 k)).setCell ⟨N, 1, none⟩ (.string t)).setCell ⟨N, 2, none⟩ (.int .i64 p)) N #[.int .i64 k, .string t, .int .i64 p] T ∧
      Below N w (((W.setCell ⟨N, 0, none⟩ (.int .i64 k)).setCell ⟨N, 1, none⟩ (.string t)).setCell ⟨N, 2, none⟩ (.int .i64 p)) :=
  ⟨((h.set 0 _).set 1 _).set 2 _, ((hB.setCell (p := ⟨N, 0, none⟩) (Nat.le_refl _) _).setCell (p := ⟨N, 1, none⟩) (Nat.le_refl _) _).setCell (p := ⟨N, 2, none⟩) (Nat.le_refl _) _⟩

/-- A store into the token that lies behind. -/
theorem far1 {w W : World} {N : Nat} {cs : Array Value} {T : TypeId} (h : Blk W N cs T ∧ Below N w W) (i : Nat) (v : Value) : Blk (W.setCell ⟨N + 1, i, none⟩ v) N cs T ∧ Below N w (W.setCell ⟨N + 1, i, none⟩ v) :=
  ⟨h.1.far _ _ (by simp), h.2.setCell (p := ⟨N + 1, i, none⟩) (Nat.le_succ _) _⟩

/-- What 'one' answers. -/
def OneV (r : Except Nat (Nat × Lx.Bs × Nat)) (a : Nat) (kv : Int) (tv : ByteArray) (pv en ec : Int) : Prop :=
  match r with
  | .error c => ec = (c : Int) ∧ c ≠ 0
  | .ok (k, t, n) => ec = 0 ∧ kv = (k : Int) ∧ tv.data.toList = t ∧ pv = (a : Int) ∧ en = ((a + n : Nat) : Int)

theorem oneT_letter (s : ByteArray) (a : Nat) (h : a < s.size) (hl : Lx.isLet s[a] = true) : Lx.oneT (s.data.toList.drop a) =
    if Lx.hasB Lx.keys (((s.data.toList.drop a).take (Lx.cnt Lx.isWd (s.data.toList.drop a))).map Lx.upB) then .ok (50, ((s.data.toList.drop a).take (Lx.cnt Lx.isWd (s.data.toList.drop a))).map Lx.upB, Lx.cnt Lx.isWd (s.data.toList.drop a))
    else .ok (18, ((s.data.toList.drop a).take (Lx.cnt Lx.isWd (s.data.toList.drop a))).map Lx.lowB, Lx.cnt Lx.isWd (s.data.toList.drop a)) := by
  have e := drop_at s a h
  rw [e]
  simp only [Lx.oneT, hl, if_true]

theorem oneT_digit (s : ByteArray) (a : Nat) (h : a < s.size) (hl : Lx.isLet s[a] = false) (hd : Lx.isDig s[a] = true) : Lx.oneT (s.data.toList.drop a) =
    if Lx.cnt Lx.isDig (s.data.toList.drop a) < Lx.cnt Lx.isWd (s.data.toList.drop a) then .error 2
    else if Lx.overTop (Lx.leastB ((s.data.toList.drop a).take (Lx.cnt Lx.isDig (s.data.toList.drop a)))) then .error 3
    else .ok (16, Lx.leastB ((s.data.toList.drop a).take (Lx.cnt Lx.isDig (s.data.toList.drop a))), Lx.cnt Lx.isDig (s.data.toList.drop a)) := by
  have e := drop_at s a h
  rw [e]
  simp only [Lx.oneT, hl, hd, if_true, if_false, Bool.false_eq_true]

theorem over_yes {t : ByteArray} (hs : t.size = t.data.toList.length) (h : (19 : Int) < t.size ∨ ((t.size : Int) = 19 ∧ ((!Op.bytesLess t.toList [57, 50, 50, 51, 51, 55, 50, 48, 51, 54, 56, 53, 52, 55, 55, 53, 56, 48, 56]) = true ∧ (!t.toList == [57, 50, 50, 51, 51, 55, 50, 48, 51, 54, 56, 53, 52, 55, 55, 53, 56, 48, 56]) = true))) :
    Lx.overTop t.data.toList = true := by
  unfold Lx.overTop Lx.top
  rw [Lib.toList_data] at h
  rcases h with h | ⟨h, h1, h2⟩
  · simp only [Bool.or_eq_true, decide_eq_true_eq]; left; omega
  · rw [h1, h2]
    simp only [Bool.or_eq_true, Bool.and_eq_true, decide_eq_true_eq]; right; exact ⟨by omega, trivial, trivial⟩

theorem over_no {t : ByteArray} (hs : t.size = t.data.toList.length) (h0 : (t.size : Int) ≤ 19) (h : ¬ (t.size : Int) = 19 ∨ ((!Op.bytesLess t.toList [57, 50, 50, 51, 51, 55, 50, 48, 51, 54, 56, 53, 52, 55, 55, 53, 56, 48, 56]) = false ∨ (!t.toList == [57, 50, 50, 51, 51, 55, 50, 48, 51, 54, 56, 53, 52, 55, 55, 53, 56, 48, 56]) = false)) :
    ¬ Lx.overTop t.data.toList = true := by
  unfold Lx.overTop Lx.top
  rw [Lib.toList_data] at h
  simp only [Bool.or_eq_true, Bool.and_eq_true, decide_eq_true_eq]
  rintro (q | ⟨q, q1, q2⟩)
  · omega
  · rcases h with h | h | h
    · omega
    · rw [h] at q1; cases q1
    · rw [h] at q2; cases q2

theorem oneT_quote (s : ByteArray) (a : Nat) (h : a < s.size) (hl : Lx.isLet s[a] = false) (hd : Lx.isDig s[a] = false) (hq : s[a].toNat = 39 ∨ s[a].toNat = 34) : Lx.oneT (s.data.toList.drop a) =
    match Lx.betw s[a] (s.data.toList.drop (a + 1)) with
      | none => .error 2
      | some (t, n) =>
        if Lx.validN t = false ∨ (s[a].toNat = 34 ∧ t = []) then .error 2
        else .ok (if s[a].toNat = 34 then 18 else 17, t, n + 1) := by
  have e := drop_at s a h
  rw [e]
  simp only [Lx.oneT, hl, hd, if_true, if_false, Bool.false_eq_true]
  rw [if_pos hq]
  rcases Lx.betw s[a] (s.data.toList.drop (a + 1)) with _ | ⟨t, n⟩ <;> rfl

theorem quote_bad (s : ByteArray) (a : Nat) (h : a < s.size) (hl : Lx.isLet s[a] = false) (hd : Lx.isDig s[a] = false) (hq : s[a].toNat = 39 ∨ s[a].toNat = 34) (t : ByteArray) (n : Int)
    (hb : betwV (Lx.betw s[a] (s.data.toList.drop (a + 1))) a t n) (hx : n < 0 ∨ Lx.validN t.data.toList = false ∨ (s[a].toNat = 34 ∧ t.data.toList = [])) : Lx.oneT (s.data.toList.drop a) = .error 2 := by
  rw [oneT_quote s a h hl hd hq]
  unfold betwV at hb
  split at hb
  · rename_i x k hbe
    obtain ⟨rfl, rfl⟩ := hb
    simp only [hbe]
    rw [if_pos]
    rcases hx with hx | hx
    · omega
    · exact hx
  · rename_i hbe
    simp only [hbe]

theorem quote_good (s : ByteArray) (a : Nat) (h : a < s.size) (hl : Lx.isLet s[a] = false) (hd : Lx.isDig s[a] = false) (hq : s[a].toNat = 39 ∨ s[a].toNat = 34) (t : ByteArray) (n : Int)
    (hb : betwV (Lx.betw s[a] (s.data.toList.drop (a + 1))) a t n) (h0 : 0 ≤ n) (hv : Lx.validN t.data.toList = true) (hx : ¬ (s[a].toNat = 34 ∧ t.data.toList = [])) :
    Lx.oneT (s.data.toList.drop a) = .ok (if s[a].toNat = 34 then 18 else 17, t.data.toList, n.toNat - a) ∧ a ≤ n.toNat := by
  rw [oneT_quote s a h hl hd hq]
  unfold betwV at hb
  split at hb
  · rename_i x k hbe
    obtain ⟨rfl, rfl⟩ := hb
    simp only [hbe]
    rw [if_neg (by simp only [hv]; simpa using hx)]
    refine ⟨?_, by omega⟩
    rw [show ((a + 1 + k : Nat) : Int).toNat - a = k + 1 from by omega]
  · omega

theorem betwV_size {m : UInt8} {l : Lx.Bs} {a : Nat} {t : ByteArray} {n : Int} (h : betwV (Lx.betw m l) a t n) : t.size ≤ l.length := by
  rw [Lib.size_eq]
  unfold betwV at h
  split at h
  · rename_i x k hb
    have := Lx.betw_le m l x k hb
    rw [h.1]; omega
  · rw [h.1]; simp

theorem oneT_sign (s : ByteArray) (a : Nat) (h : a < s.size) (hl : Lx.isLet s[a] = false) (hd : Lx.isDig s[a] = false) (hq : ¬ (s[a].toNat = 39 ∨ s[a].toNat = 34)) : Lx.oneT (s.data.toList.drop a) =
    if 2 ≤ s.size - a ∧ Lx.hasB Lx.twos ((s.data.toList.drop a).take 2) = true then .ok (51, (s.data.toList.drop a).take 2, 2)
    else if Lx.hasB Lx.ones ((s.data.toList.drop a).take 1) = true then .ok (51, (s.data.toList.drop a).take 1, 1)
    else .error 2 := by
  have e := drop_at s a h
  have el : (s.data.toList.drop a).length = s.size - a := by simp
  rw [← el, e]
  simp only [Lx.oneT, hl, hd, if_true, if_false, Bool.false_eq_true]
  rw [if_neg hq]

theorem row_cell (w : World) (ss : List Lx.Bs) (T : TypeId) (cs : Array Value) (hcs : cs = strRow ss) (g : Nat) (hg : g = w.heap.size) : ∀ i, i < ss.length → ∃ t : ByteArray, (w.alloc (.cells cs T)).cell? ⟨g, i, none⟩ = some (.string t) ∧ t.data.toList = ss.getD i [] := by
  subst hcs; subst hg
  exact strRow_cell w ss T

/-- A token's cells, a list's cells. -/
def tokV (t : Lx.Tok) : List Value := [.int .i64 (t.kind : Int), .string ⟨t.text.toArray⟩, .int .i64 (t.pos : Int)]

def toksV : List Lx.Tok → List Value
  | [] => []
  | t :: ts => tokV t ++ toksV ts

theorem toksV_length : ∀ ts : List Lx.Tok, (toksV ts).length = ts.length * 3
  | [] => rfl
  | t :: ts => by simp [toksV, tokV, toksV_length ts]; omega

theorem toksV_append : ∀ a b : List Lx.Tok, toksV (a ++ b) = toksV a ++ toksV b
  | [], b => rfl
  | t :: a, b => by simp [toksV, toksV_append a b]

theorem toksV_one (t : Lx.Tok) : toksV [t] = tokV t := by simp [toksV]

/-- What a Tokens answers for a text whose reading is r. -/
def TokV (r : Except (Nat × Nat) (List Lx.Tok)) (base : Nat) (w : World) (v : Value) (n c : Int) : Prop :=
  match r with
  | .error (p, e) => v = .slice none 0 0 ∧ n = (p : Int) ∧ c = (e : Int)
  | .ok ts => w.ownsRow base 43 3 v ts.length (toksV ts) ∧ n = 0 ∧ c = 0

/-- The tokens that are read so far, at a place where no space stands. -/
def LexAt (l : Lx.Bs) (k : Nat) (ts : List Lx.Tok) : Prop :=
  ts.length ≤ k ∧ Lx.lexM 0 (Lx.skipN l) (l.drop (Lx.skipN l)) = match Lx.lexM 0 k (l.drop k) with
    | .ok r => .ok (ts ++ r)
    | .error e => .error e

theorem LexAt.start (l : Lx.Bs) : LexAt l (Lx.skipN l) [] := by
  refine ⟨by simp, ?_⟩
  cases Lx.lexM 0 (Lx.skipN l) (l.drop (Lx.skipN l)) <;> simp

theorem LexAt.done {l : Lx.Bs} {k : Nat} {ts : List Lx.Tok} (h : LexAt l k ts) (hk : l.length ≤ k) : Lx.lexM 0 (Lx.skipN l) (l.drop (Lx.skipN l)) = .ok ts := by
  rw [h.2, List.drop_eq_nil_of_le hk]
  simp [Lx.lexM]

theorem LexAt.fail {l : Lx.Bs} {k e : Nat} {ts : List Lx.Tok} (h : LexAt l k ts) (hk : k < l.length) (h1 : Lx.oneT (l.drop k) = .error e) : Lx.lexM 0 (Lx.skipN l) (l.drop (Lx.skipN l)) = .error (k, e) := by
  rw [h.2]
  have e1 := List.drop_eq_getElem_cons hk
  rw [e1] at h1 ⊢
  rw [Lx.lexM_cons, h1]

theorem LexAt.step {l : Lx.Bs} {k c n : Nat} {t : Lx.Bs} {ts : List Lx.Tok} (h : LexAt l k ts) (hk : k < l.length) (h1 : Lx.oneT (l.drop k) = .ok (c, t, n)) : LexAt l (k + n + Lx.skipN (l.drop (k + n))) (ts ++ [⟨c, t, k⟩]) := by
  have hl := Lx.oneT_len h1
  refine ⟨by have := h.1; simp; omega, ?_⟩
  rw [h.2]
  have e1 := List.drop_eq_getElem_cons hk
  rw [e1] at h1 ⊢
  rw [Lx.lexM_cons, h1]
  dsimp only
  rw [← e1, List.drop_drop, List.drop_drop]
  cases Lx.lexM 0 (k + n + Lx.skipN (l.drop (k + n))) (l.drop (k + n + Lx.skipN (l.drop (k + n)))) <;> simp

theorem Below.grownBy {w w' : World} {row : Option Nat} (h : Below w.heap.size w w') : w.grownBy w' row := ⟨h.os, h.tape, h.output, h.size, fun k hk _ => h.block k hk⟩

theorem owns_below {w w1 : World} {base : Nat} {e : TypeId} {size : Nat} {v : Value} {n : Nat} {xs : List Value} (h : w.ownsRow base e size v n xs) (hb : Below w.heap.size w w1) : w1.ownsRow base e size v n xs :=
  h.kept (row := none) (Below.grownBy hb) (by cases v.ownBlock <;> simp)

theorem Tryd.info43 : (Tryd.prog.info? 43).map (fun i => (i.zero, i.size, i.bytes)) = some (some (.agg #[.int .i64 0, .string ⟨#[]⟩, .int .i64 0]), 3, 32) := by kernel_rfl

theorem three_news (w : World) (x y z : Value) (T : TypeId) (g : Nat) (hg : g = w.heap.size) : ∀ j u, [x, y, z][j]? = some u → (w.alloc (.cells #[x, y, z] T)).cell? ((⟨g, 0, none⟩ : Addr).add j) = some u := by
  intro j u hj
  subst hg
  rw [Addr.add_lit, Nat.zero_add, (Blk.new w #[x, y, z] T).cell j]
  rw [← hj]
  simp

/-! Nodes in memory. -/
def ndV (x : Px.Nd) : List Value := [.int .i64 x.kind, .string ⟨x.text.toArray⟩, .int .i64 x.num, .int .i64 x.kids]

def ndsV : List Px.Nd → List Value
  | [] => []
  | x :: r => ndV x ++ ndsV r

theorem ndsV_length : ∀ l : List Px.Nd, (ndsV l).length = l.length * 4
  | [] => rfl
  | x :: l => by simp [ndsV, ndV, ndsV_length l]; omega

theorem ndsV_append : ∀ a b : List Px.Nd, ndsV (a ++ b) = ndsV a ++ ndsV b
  | [], b => rfl
  | x :: a, b => by simp [ndsV, ndsV_append a b]

theorem ndsV_one (x : Px.Nd) : ndsV [x] = ndV x := by simp [ndsV]

theorem ndsV_at : ∀ (l : List Px.Nd) (k : Nat) (h : k < l.length), (ndsV l)[k * 4]? = some (.int .i64 l[k].kind) ∧ (ndsV l)[k * 4 + 1]? = some (.string ⟨l[k].text.toArray⟩) ∧ (ndsV l)[k * 4 + 2]? = some (.int .i64 l[k].num) ∧ (ndsV l)[k * 4 + 3]? = some (.int .i64 l[k].kids)
  | x :: l, 0, _ => ⟨rfl, rfl, rfl, rfl⟩
  | x :: l, k + 1, h => by
    have ih := ndsV_at l k (by simpa using h)
    have e : ∀ j, (ndsV (x :: l))[j + 4]? = (ndsV l)[j]? := by
      intro j
      show (ndV x ++ ndsV l)[j + 4]? = _
      rw [List.getElem?_append_right (by simp [ndV])]
      simp [ndV]
    rw [show (k + 1) * 4 = k * 4 + 4 from by omega, show k * 4 + 4 + 1 = (k * 4 + 1) + 4 from by omega, show k * 4 + 4 + 2 = (k * 4 + 2) + 4 from by omega, show k * 4 + 4 + 3 = (k * 4 + 3) + 4 from by omega, e, e, e, e]
    simpa using ih

theorem Tryd.info46 : (Tryd.prog.info? 46).map (fun i => (i.zero, i.size, i.bytes)) = some (some (.agg #[.int .i64 0, .string ⟨#[]⟩, .int .i64 0, .int .i64 0]), 4, 40) := by kernel_rfl

/-- A slice that holds these nodes, in a block from b0 on. -/
def NdIs (w : World) (b0 : Nat) (v : Value) (l : List Px.Nd) : Prop :=
  (v = .slice none 0 0 ∧ l = []) ∨ ∃ g cap, v = .slice (some ⟨g, 0, none⟩) l.length cap ∧ b0 ≤ g ∧ g < w.heap.size ∧ l.length ≤ cap ∧ cap ≤ maxLen ∧ ∀ j u, (ndsV l)[j]? = some u → w.cell? ⟨g, j, none⟩ = some u

theorem NdIs.nil (w : World) (b0 : Nat) : NdIs w b0 (.slice none 0 0) [] := .inl ⟨rfl, rfl⟩

theorem NdIs.keep {w w' : World} {b0 B : Nat} {v : Value} {l : List Px.Nd} (h : NdIs w b0 v l) (hg : w.grownBy w' (some B)) (hB : B < b0) : NdIs w' b0 v l := by
  rcases h with h | ⟨g, cap, rfl, h1, h2, h3, h4, h5⟩
  · exact .inl h
  · refine .inr ⟨g, cap, rfl, h1, Nat.lt_of_lt_of_le h2 hg.size, h3, h4, fun j u hu => ?_⟩
    rw [World.cell?_of_block (w := w) (hg.block g h2 (by simp; omega))]
    exact h5 j u hu

theorem NdIs.below {w w' : World} {b0 : Nat} {v : Value} {l : List Px.Nd} (h : NdIs w b0 v l) (hg : Below w.heap.size w w') : NdIs w' b0 v l := by
  rcases h with h | ⟨g, cap, rfl, h1, h2, h3, h4, h5⟩
  · exact .inl h
  · refine .inr ⟨g, cap, rfl, h1, Nat.lt_of_lt_of_le h2 hg.size, h3, h4, fun j u hu => ?_⟩
    rw [World.cell?_of_block (w := w) (hg.block g h2)]
    exact h5 j u hu

theorem NdIs.of_own {w : World} {b0 : Nat} {v : Value} {l : List Px.Nd} (h : w.ownsRow b0 46 4 v l.length (ndsV l)) : NdIs w b0 v l := by
  rcases h.2 with ⟨rfl, hn⟩ | ⟨g, cap, cur, rfl, hb, hg, h1, h2, h3, h4⟩
  · exact .inl ⟨rfl, List.length_eq_zero_iff.1 hn⟩
  · refine .inr ⟨g, cap, rfl, hb, (Array.getElem?_eq_some_iff.1 hg).1, h1, h2, fun j u hu => ?_⟩
    have := h.cells (g := g) rfl j u hu
    simpa only [Addr.add_lit, Nat.zero_add] using this

theorem toksV_nth : ∀ (ts : List Lx.Tok) (k : Nat) (h : k < ts.length), (toksV ts)[k * 3]? = some (.int .i64 (ts[k].kind : Int)) ∧ (toksV ts)[k * 3 + 1]? = some (.string ⟨ts[k].text.toArray⟩) ∧ (toksV ts)[k * 3 + 2]? = some (.int .i64 (ts[k].pos : Int))
  | t :: ts, 0, _ => ⟨rfl, rfl, rfl⟩
  | t :: ts, k + 1, h => by
    have ih := toksV_nth ts k (by simpa using h)
    have e : ∀ j, (toksV (t :: ts))[j + 3]? = (toksV ts)[j]? := by
      intro j
      show (tokV t ++ toksV ts)[j + 3]? = _
      rw [List.getElem?_append_right (by simp [tokV])]
      simp [tokV]
    rw [show (k + 1) * 3 = k * 3 + 3 from by omega, show k * 3 + 3 + 1 = (k * 3 + 1) + 3 from by omega, show k * 3 + 3 + 2 = (k * 3 + 2) + 3 from by omega, e, e, e]
    simpa using ih

theorem own_set {w : World} {B i b n : Nat} {lv x : Value} {xs : List Value} (ho : w.ownsRow b 43 3 lv n xs) (hne : lv.ownBlock ≠ some B) : (w.setCell ⟨B, i, none⟩ x).ownsRow b 43 3 lv n xs :=
  ho.kept (row := some B) ⟨rfl, rfl, rfl, by simp [World.setCell], fun k _ h => Below.heap_setCell w _ x k (by simpa using h)⟩ (by
    cases hv : lv.ownBlock with
    | none => simp
    | some g => simp; intro e; subst e; exact hne hv)

/-- The token at a place of the list; behind the end: an empty one at the text's length. -/
def hereT (ts : List Lx.Tok) (sz k : Nat) : Lx.Tok := (ts[k]?).getD ⟨0, [], sz⟩

def tokA (t : Lx.Tok) : Value := .agg #[.int .i64 (t.kind : Int), .string ⟨t.text.toArray⟩, .int .i64 (t.pos : Int)]

end Go.Proofs.YtihchcoclncjdaaDoor
