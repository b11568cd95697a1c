/- Parts of the proof: Bas RefA RefB RefC RefD RefE RefF RefG RefH RefI -/
import Derived.Test.YtcdgihdhpaipaaaGreatDoorRows
import Derived.WalkKit
import Derived.WalkSpells
import Derived.WalkLawsBesides
import Derived.Test.YtcdgihdhpaipaaaGreatDoorX1
import Derived.Deep.Light
import Derived.Lib.Strings
import Derived.Lib.IndexBytes
import Derived.Laws.IdiomStrings
import Derived.BigQuiet
import Derived.Deep.QuietTactic
import Derived.Handy
namespace Go.Proofs.YtcdgihdhpaipaaaGreatDoor
open Go.RowKit
set_option linter.unusedSimpArgs false
set_option linter.unusedVariables false

theorem hd {p : Prop} (h : p) : Hid p := h

theorem ret_bool {a b : Bool} (h : a = b) : Ending.returned (.bool a) = .returned (.bool b) := by rw [h]

theorem ret_int {k : IntKind} {a b : Int} (h : a = b) : Ending.returned (.int k a) = .returned (.int k b) := by rw [h]

theorem drop_at (s : ByteArray) (k : Nat) (h : k < s.size) : s.data.toList.drop k = s[k] :: s.data.toList.drop (k + 1) := by
  rw [List.drop_eq_getElem_cons (by simpa using h)]; rfl

theorem cnt_at (p : UInt8 → Bool) (s : ByteArray) (k : Nat) (h : k < s.size) : Lx.cnt p (s.data.toList.drop k) = if p s[k] = true then Lx.cnt p (s.data.toList.drop (k + 1)) + 1 else 0 := by
  rw [drop_at s k h]; rfl

theorem cnt_end (p : UInt8 → Bool) (s : ByteArray) (k : Nat) (h : s.size ≤ k) : Lx.cnt p (s.data.toList.drop k) = 0 := by
  rw [List.drop_eq_nil_of_le (by simpa using h)]; rfl

theorem folB_drop (l : Lx.Bs) (a i lo hi : Nat) : Lx.folB (l.drop a) i lo hi = Lx.folB l (a + i) lo hi := by
  unfold Lx.folB; rw [List.getElem?_drop]

def charB (b : Nat) (two near three four : Bool) : Nat :=
  if b < 128 then 1
  else if (194 ≤ b ∧ b ≤ 223) ∧ two = true then 2
  else if (224 ≤ b ∧ b ≤ 239) ∧ near = true ∧ three = true then 3
  else if (240 ≤ b ∧ b ≤ 244) ∧ near = true ∧ three = true ∧ four = true then 4
  else 0

theorem charN_at (s : ByteArray) (a : Nat) (h : a < s.size) : Lx.charN (s.data.toList.drop a) =
    charB s[a].toNat (Lx.folB s.data.toList (a + 1) 128 191) (Lx.folB s.data.toList (a + 1) (Lx.loOf s[a].toNat) (Lx.hiOf s[a].toNat)) (Lx.folB s.data.toList (a + 2) 128 191) (Lx.folB s.data.toList (a + 3) 128 191) := by
  have e := drop_at s a h
  have f : ∀ i lo hi, Lx.folB (s[a] :: s.data.toList.drop (a + 1)) i lo hi = Lx.folB s.data.toList (a + i) lo hi := by
    intro i lo hi; rw [← e, folB_drop]
  rw [e]
  simp only [Lx.charN, charB, f]

theorem beq_yes {c n : Nat} (h : ((c : Int) == (n : Int)) = true) : c = n := by simp at h; omega

theorem beq_no {c n : Nat} (h : ((c : Int) == (n : Int)) = false) : ¬ c = n := by simp at h; omega

theorem valid_at (s : ByteArray) (k : Nat) (h : k < s.size) : Lx.validN (s.data.toList.drop k) =
    if Lx.charN (s.data.toList.drop k) = 0 ∨ s[k].toNat = 0 then false else Lx.validN (s.data.toList.drop (k + Lx.charN (s.data.toList.drop k))) := by
  have e := drop_at s k h
  rw [e, Lx.validN_cons, ← e, List.drop_drop]

theorem valid_end (s : ByteArray) (k : Nat) (h : s.size ≤ k) : Lx.validN (s.data.toList.drop k) = true := by
  rw [List.drop_eq_nil_of_le (by simpa using h)]; rfl

theorem or_zero {n m : Nat} (h : ((n : Int) == 0) = true ∨ ((m : Int) == 0) = true) : n = 0 ∨ m = 0 := by
  simp only [beq_iff_eq] at h; omega

theorem and_zero {n m : Nat} (h : ((n : Int) == 0) = false ∧ ((m : Int) == 0) = false) : ¬ (n = 0 ∨ m = 0) := by
  simp only [beq_eq_false_iff_ne, ne_eq] at h; omega

/-- How long the text in a slot is. -/
def strSize : Value → Nat | .string t => t.size | _ => 0

theorem least_at (t : ByteArray) (h : 1 < t.size) : Lx.leastB t.data.toList = if t[0].toNat = 48 then Lx.leastB (t.data.toList.drop 1) else t.data.toList := by
  obtain ⟨⟨l⟩⟩ := t
  match l, h with
  | b :: c :: r, _ => rfl

theorem least_short (t : ByteArray) (h : t.size ≤ 1) : Lx.leastB t.data.toList = t.data.toList := by
  obtain ⟨⟨l⟩⟩ := t
  match l, h with
  | [], _ => rfl
  | [b], _ => rfl
  | b :: c :: r, h => simp [ByteArray.size] at h

theorem skip_end (m : Bool) (s : ByteArray) (k : Nat) (h : s.size ≤ k) : Lx.skipM m (s.data.toList.drop k) = 0 := by
  rw [List.drop_eq_nil_of_le (by simpa using h)]; cases m <;> rfl

theorem skip_in (s : ByteArray) (k : Nat) (h : k < s.size) : Lx.skipM true (s.data.toList.drop k) = if s[k].toNat = 10 then 1 + Lx.skipM false (s.data.toList.drop (k + 1)) else 1 + Lx.skipM true (s.data.toList.drop (k + 1)) := by
  rw [drop_at s k h]
  simp only [Lx.skipM, Lx.notNl]
  by_cases q : s[k].toNat = 10 <;> simp [q]

theorem skip_out (s : ByteArray) (k : Nat) (h : k < s.size) : Lx.skipM false (s.data.toList.drop k) =
    if s[k].toNat = 45 ∧ (s.data.toList.drop (k + 1)).head? = some 45 then 1 + Lx.skipM true (s.data.toList.drop (k + 1)) else if Lx.isSp s[k] = true then 1 + Lx.skipM false (s.data.toList.drop (k + 1)) else 0 := by
  rw [drop_at s k h]
  simp only [Lx.skipM]

theorem skip_nl (s : ByteArray) (k : Nat) (h : k < s.size) (q : s[k].toNat = 10) : Lx.skipM false (s.data.toList.drop k) = 1 + Lx.skipM false (s.data.toList.drop (k + 1)) := by
  rw [skip_out s k h, if_neg (by omega), if_pos (by simp [Lx.isSp, q])]

theorem bne_yes {c n : Nat} (h : ((c : Int) != (n : Int)) = true) : ¬ c = n := by simp at h; omega

theorem bne_no {c n : Nat} (h : ((c : Int) != (n : Int)) = false) : c = n := by simp at h; omega

theorem two_at (s : ByteArray) (k : Nat) (h : k + 2 ≤ s.size) : (s.extract k (k + 2)).toList = [s[k], s[k + 1]] := by
  rw [Lib.extract_toList, drop_at s k (by omega), drop_at s (k + 1) (by omega)]
  simp

theorem skip_dash (s : ByteArray) (k : Nat) (h2 : (2 : Int) ≤ s.size - k) (hd : ((s.extract k (k + 2)).toList == [45, 45]) = true) :
    Lx.skipM false (s.data.toList.drop k) = Lx.skipM true (s.data.toList.drop k) ∧ (s[k]'(by omega)).toNat = 45 := by
  have h : k < s.size := by omega
  rw [two_at s k (by omega)] at hd
  simp only [beq_iff_eq, List.cons.injEq, and_true] at hd
  obtain ⟨e1, e2⟩ := hd
  have e1' : s[k].toNat = 45 := by rw [e1]; rfl
  refine ⟨?_, e1'⟩
  rw [skip_out s k h, skip_in s k h, if_pos ⟨e1', by rw [drop_at s (k + 1) (by omega), e2]; rfl⟩, if_neg (by omega)]

theorem skip_plain (s : ByteArray) (k : Nat) (h : k < s.size) (hd : ((s.extract k (k + 2)).toList == [45, 45]) = false ∨ (s.size : Int) - k < 2) :
    Lx.skipM false (s.data.toList.drop k) = if Lx.isSp s[k] = true then 1 + Lx.skipM false (s.data.toList.drop (k + 1)) else 0 := by
  rw [skip_out s k h, if_neg]
  rintro ⟨q1, q2⟩
  have q1' : s[k] = 45 := UInt8.toNat_inj.1 (by rw [q1]; rfl)
  by_cases h2 : k + 2 ≤ s.size
  · rcases hd with hd | hd
    · rw [drop_at s (k + 1) (by omega)] at q2
      rw [two_at s k h2, q1'] at hd
      simp at hd q2
      exact hd q2
    · omega
  · rw [List.drop_eq_nil_of_le (by simp; have : s.data.size = s.size := rfl; omega)] at q2
    simp at q2

theorem contains_at (ss : List Lx.Bs) (x : Lx.Bs) (k : Nat) (h : k < ss.length) : Lx.hasB (ss.drop k) x = (ss.getD k [] == x || Lx.hasB (ss.drop (k + 1)) x) := by
  rw [List.drop_eq_getElem_cons h, List.getD_eq_getElem?_getD, List.getElem?_eq_getElem h]
  rfl

/-- Texts laid as a row of strings. -/
def strRow (ss : List Lx.Bs) : Array Value := (ss.map fun x => Value.string ⟨x.toArray⟩).toArray

theorem strRow_cell (w : World) (ss : List Lx.Bs) (T : TypeId) : ∀ i, i < ss.length → ∃ t : ByteArray, (w.alloc (.cells (strRow ss) T)).cell? ⟨w.heap.size, i, none⟩ = some (.string t) ∧ t.data.toList = ss.getD i [] := by
  intro i hi
  refine ⟨⟨(ss.getD i []).toArray⟩, ?_, by simp⟩
  rw [World.cell?_alloc_at _ _ _ _ rfl]
  simp [strRow, List.getElem?_eq_getElem hi]

/-- A row of bytes of which the first k are turned. -/
def Cased (f : UInt8 → UInt8) (s : ByteArray) (g k : Nat) (wr : World) : Prop :=
  ∀ j, (h : j < s.size) → wr.cell? ⟨g, j, none⟩ = some (.int .u8 ((if j < k then f s[j] else s[j]).toNat : Int)) ∧ wr.frozen? ⟨g, j, none⟩ = false

theorem Cased.keep {f : UInt8 → UInt8} {s : ByteArray} {g k : Nat} {wr : World} (h : Cased f s g k wr) (hk : k < s.size) (he : f s[k] = s[k]) : Cased f s g (k + 1) wr := by
  intro j hj
  refine ⟨?_, (h j hj).2⟩
  rw [(h j hj).1]
  by_cases e : j = k
  · subst e; simp [he]
  · by_cases q : j < k
    · simp [q, show j < k + 1 from by omega]
    · simp [q, show ¬ j < k + 1 from by omega]

theorem Cased.set {f : UInt8 → UInt8} {s : ByteArray} {g k : Nat} {wr : World} (h : Cased f s g k wr) (hk : k < s.size) (x : Int) (he : x = ((f s[k]).toNat : Int)) : Cased f s g (k + 1) (wr.setCell ⟨g, k, none⟩ (.int .u8 x)) := by
  intro j hj
  rw [World.frozen?_setCell]
  refine ⟨?_, (h j hj).2⟩
  by_cases e : j = k
  · subst e
    rw [World.cell?_setCell_same _ _ _ (h j hj).1, he]
    simp
  · rw [World.cell?_setCell_other _ _ _ _ (by simp [Ne.symm e]), (h j hj).1]
    by_cases q : j < k
    · simp [q, show j < k + 1 from by omega]
    · simp [q, show ¬ j < k + 1 from by omega]

theorem Cased.start (f : UInt8 → UInt8) (s : ByteArray) (w : World) (cap : Nat) :
    Cased f s w.heap.size 0 (w.drew.alloc (.cells (bytesRow s cap) 5 ((bytesRow s cap).size, (bytesRow s cap).size + 1))) := by
  intro j hj
  have hsz : s.size ≤ (bytesRow s cap).size := by simp [bytesRow]
  have e0 : w.heap.size = w.drew.heap.size := rfl
  constructor
  · rw [e0, World.cell?_alloc_mark]
    unfold bytesRow
    rw [Array.getElem?_append_left (by simpa using hj)]
    simp only [Array.getElem?_map, Nat.not_lt_zero, if_false]
    rw [Array.getElem?_eq_getElem hj]
    rfl
  · have hb : (w.drew.alloc (.cells (bytesRow s cap) 5 ((bytesRow s cap).size, (bytesRow s cap).size + 1))).heap[w.heap.size]? = some (.cells (bytesRow s cap) 5 ((bytesRow s cap).size, (bytesRow s cap).size + 1)) := by
      show (w.heap.push _)[w.heap.size]? = _
      simp
    simp only [World.frozen?, hb]
    simp
    omega

theorem Cased.done {f : UInt8 → UInt8} {s : ByteArray} {g : Nat} {wr : World} (h : Cased f s g s.size wr) :
    ∀ j (hj : j < (s.data.toList.map f).length), wr.cell? ((⟨g, 0, none⟩ : Addr).add j) = some (.int .u8 (((s.data.toList.map f)[j]).toNat : Int)) := by
  intro j hj
  have hj' : j < s.size := by simpa using hj
  rw [Addr.add_lit, Nat.zero_add, (h j hj').1]
  simp [hj']
  rfl

theorem Below.cased {w : World} (s : ByteArray) (cap : Nat) : Below w.heap.size w (w.drew.alloc (.cells (bytesRow s cap) 5 ((bytesRow s cap).size, (bytesRow s cap).size + 1))) :=
  (Below.refl _ _).drew.alloc (Nat.le_refl _) _

theorem upper_num {b : UInt8} (h1 : (97 : Int) ≤ (b.toNat : Int)) (h2 : (b.toNat : Int) ≤ 122) : (b.toNat : Int) - 32 = ((Lx.upB b).toNat : Int) := by
  unfold Lx.upB
  rw [if_pos (by omega), UInt8.toNat_sub]
  have : (32 : UInt8).toNat = 32 := rfl
  omega

theorem upper_same {b : UInt8} (h : ¬ ((97 : Int) ≤ (b.toNat : Int) ∧ (b.toNat : Int) ≤ 122)) : Lx.upB b = b := by
  unfold Lx.upB
  rw [if_neg (by omega)]

theorem lower_num {b : UInt8} (h1 : (65 : Int) ≤ (b.toNat : Int)) (h2 : (b.toNat : Int) ≤ 90) : (b.toNat : Int) + 32 = ((Lx.lowB b).toNat : Int) := by
  unfold Lx.lowB
  rw [if_pos (by omega), UInt8.toNat_add]
  have : (32 : UInt8).toNat = 32 := rfl
  omega

theorem lower_same {b : UInt8} (h : ¬ ((65 : Int) ≤ (b.toNat : Int) ∧ (b.toNat : Int) ≤ 90)) : Lx.lowB b = b := by
  unfold Lx.lowB
  rw [if_neg (by omega)]

/-- A byte as a value. -/
def byteV (b : UInt8) : Value := .int .u8 (b.toNat : Int)

theorem Tryz.info5 : (Tryz.prog.info? 5).map (fun i => (i.zero, i.size, i.bytes)) = some (some (.int .u8 0), 1, 1) := by kernel_rfl

theorem conv_own {w : World} {base : Nat} {v : Value} {acc : Lx.Bs} (h : w.ownsRow base 5 1 v acc.length (acc.map byteV)) :
    ∃ t : ByteArray, (convert 177 9 v).run Tryz.prog w = .ok (.string t) w ∧ t.data.toList = acc := by
  rcases h.2 with ⟨rfl, hn⟩ | ⟨g, cap, cur, rfl, _, hg, hn, _, _, htake⟩
  · have : acc = [] := List.length_eq_zero_iff.1 hn
    subst this
    refine ⟨ByteArray.empty, ?_, rfl⟩
    rw [run_convert_bytes_string w 177 9 5 none 0 0 Tryz.underlying177 Tryz.underlying5 Tryz.underlying9]
    rfl
  · refine ⟨⟨acc.toArray⟩, ?_, by simp⟩
    refine run_convert_bytes_back (P := Tryz.prog) w 177 9 5 ⟨g, 0, none⟩ cap acc Tryz.underlying177 Tryz.underlying5 Tryz.underlying9 ?_
    intro j hj
    refine h.cells (g := g) rfl j _ ?_
    simp [List.getElem?_eq_getElem hj, byteV]

theorem betw_other (m : UInt8) (b : UInt8) (r : Lx.Bs) (h : b ≠ m) : Lx.betw m (b :: r) = (Lx.betw m r).map (fun x => (b :: x.1, x.2 + 1)) := by
  cases r with
  | nil => simp [Lx.betw, h]
  | cons c r => simp [Lx.betw, h]

/-- What has been read so far of what stands between. -/
def BetwAt (m : UInt8) (l : Lx.Bs) (k : Nat) (acc : Lx.Bs) : Prop :=
  Lx.betw m l = (Lx.betw m (l.drop k)).map (fun x => (acc ++ x.1, x.2 + k)) ∧ acc.length ≤ k

theorem BetwAt.start (m : UInt8) (l : Lx.Bs) : BetwAt m l 0 [] := by
  unfold BetwAt
  simp

theorem BetwAt.other {m : UInt8} {l : Lx.Bs} {k : Nat} {acc : Lx.Bs} {b : UInt8} {r : Lx.Bs} (h : BetwAt m l k acc) (e : l.drop k = b :: r) (hb : b ≠ m) : BetwAt m l (k + 1) (acc ++ [b]) := by
  unfold BetwAt at *
  have e2 : l.drop (k + 1) = r := by rw [← List.drop_drop, e]; rfl
  refine ⟨?_, by simp; omega⟩
  rw [h.1, e, betw_other m b r hb, e2, Option.map_map]
  congr 1
  funext x
  simp; omega

theorem BetwAt.double {m : UInt8} {l : Lx.Bs} {k : Nat} {acc : Lx.Bs} {r : Lx.Bs} (h : BetwAt m l k acc) (e : l.drop k = m :: m :: r) : BetwAt m l (k + 2) (acc ++ [m]) := by
  unfold BetwAt at *
  have e2 : l.drop (k + 2) = r := by rw [← List.drop_drop, e]; rfl
  refine ⟨?_, by simp; omega⟩
  rw [h.1, e, e2]
  simp only [Lx.betw, if_true, Option.map_map]
  congr 1
  funext x
  simp; omega

theorem BetwAt.last {m : UInt8} {l : Lx.Bs} {k : Nat} {acc : Lx.Bs} {r : Lx.Bs} (h : BetwAt m l k acc) (e : l.drop k = m :: r) (hr : r.head? ≠ some m) : Lx.betw m l = some (acc, k + 1) := by
  unfold BetwAt at *
  rw [h.1, e]
  cases r with
  | nil => simp [Lx.betw]; omega
  | cons c r =>
    have : c ≠ m := by simpa using hr
    simp [Lx.betw, this]; omega

theorem BetwAt.none {m : UInt8} {l : Lx.Bs} {k : Nat} {acc : Lx.Bs} (h : BetwAt m l k acc) (e : l.drop k = []) : Lx.betw m l = none := by
  unfold BetwAt at *
  rw [h.1, e]
  rfl

/-- What 'between' answers. -/
def betwV (r : Option (Lx.Bs × Nat)) (a : Nat) (t : ByteArray) (n : Int) : Prop :=
  match r with
  | some (x, k) => t.data.toList = x ∧ n = (a + 1 + k : Nat)
  | none => t.data.toList = [] ∧ n = -1

theorem bcell {W w1 : World} (hb : Below W.heap.size W w1) : (∀ b o, b < W.heap.size → w1.cell? ⟨b, o, none⟩ = W.cell? ⟨b, o, none⟩) ∧ (∀ b o, b < W.heap.size → w1.frozen? ⟨b, o, none⟩ = W.frozen? ⟨b, o, none⟩) :=
  ⟨fun b o h => hb.cell (p := ⟨b, o, none⟩) h, fun b o h => hb.frozen (p := ⟨b, o, none⟩) h⟩

/-- Block b holds just these cells, none frozen. -/
def Blk (w : World) (b : Nat) (cs : Array Value) (t : TypeId) : Prop := w.heap[b]? = some (.cells cs t (0, 0))

theorem Blk.cell {w : World} {b : Nat} {cs : Array Value} {t : TypeId} (h : Blk w b cs t) (i : Nat) : w.cell? ⟨b, i, none⟩ = cs[i]? := cell_of_row w b i cs t (0, 0) h

theorem Blk.free {w : World} {b : Nat} {cs : Array Value} {t : TypeId} (h : Blk w b cs t) (i : Nat) : w.frozen? ⟨b, i, none⟩ = false := by
  unfold Blk at h
  simp [World.frozen?, h]

theorem Blk.lt {w : World} {b : Nat} {cs : Array Value} {t : TypeId} (h : Blk w b cs t) : b < w.heap.size := (Array.getElem?_eq_some_iff.1 h).1

theorem Blk.new (w : World) (cs : Array Value) (t : TypeId) : Blk (w.alloc (.cells cs t)) w.heap.size cs t := heap_alloc_new w _

theorem Blk.alloc {w : World} {b : Nat} {cs : Array Value} {t : TypeId} (h : Blk w b cs t) (o : Obj) : Blk (w.alloc o) b cs t := by
  unfold Blk at *
  show (w.heap.push o)[b]? = _
  rw [Array.getElem?_push_lt (Array.getElem?_eq_some_iff.1 h).1, ← Array.getElem?_eq_getElem]; exact h

theorem Blk.below {W w1 : World} {b B : Nat} {cs : Array Value} {t : TypeId} (h : Blk W b cs t) (hb : Below B W w1) (hlt : b < B) : Blk w1 b cs t := by
  unfold Blk at *
  rw [hb.block b hlt]; exact h

theorem Blk.drew {w : World} {b : Nat} {cs : Array Value} {t : TypeId} (h : Blk w b cs t) : Blk w.drew b cs t := h

theorem Blk.set {w : World} {b : Nat} {cs : Array Value} {t : TypeId} (h : Blk w b cs t) (i : Nat) (v : Value) : Blk (w.setCell ⟨b, i, none⟩ v) b (cs.setIfInBounds i v) t := by
  unfold Blk at *
  simp only [World.setCell, Array.getElem?_modify, if_true, h]
  rfl

theorem Blk.far {w : World} {b : Nat} {cs : Array Value} {t : TypeId} (h : Blk w b cs t) (p : Addr) (v : Value) (hp : p.block ≠ b) : Blk (w.setCell p v) b cs t := by
  unfold Blk at *
  rw [Below.heap_setCell _ _ _ _ (Ne.symm hp)]; exact h

theorem Blk.three {w : World} {b : Nat} {x y z : Value} {t : TypeId} (h : Blk w b #[x, y, z] t) :
    (w.cell? ⟨b, 0, none⟩ = some x ∧ w.cell? ⟨b, 1, none⟩ = some y ∧ w.cell? ⟨b, 2, none⟩ = some z) ∧ w.frozen? ⟨b, 0, none⟩ = false ∧ w.frozen? ⟨b, 1, none⟩ = false ∧ w.frozen? ⟨b, 2, none⟩ = false :=
  ⟨⟨h.cell 0, h.cell 1, h.cell 2⟩, h.free 0, h.free 1, h.free 2⟩

/-- A token's three cells, just written. -/
theorem fin3 {w W : World} {N : Nat} {x y z : Value} {T : TypeId} (h : Blk W N #[x, y, z] T) (hB : Below N w W) (k : Int) (t : ByteArray) (p : Int) :
    Blk (((W.setCell ⟨N, 0, none⟩ (.int .i64 k)).setCell ⟨N, 1, none⟩ (.string t)).setCell ⟨N, 2, none⟩ (.int .i64 p)) N #[.int .i64 k, .string t, .int .i64 p] T ∧
      Below N w (((W.setCell ⟨N, 0, none⟩ (.int .i64 k)).setCell ⟨N, 1, none⟩ (.string t)).setCell ⟨N, 2, none⟩ (.int .i64 p)) :=
  ⟨((h.set 0 _).set 1 _).set 2 _, ((hB.setCell (p := ⟨N, 0, none⟩) (Nat.le_refl _) _).setCell (p := ⟨N, 1, none⟩) (Nat.le_refl _) _).setCell (p := ⟨N, 2, none⟩) (Nat.le_refl _) _⟩

/-- A store into the token that lies behind. -/
theorem far1 {w W : World} {N : Nat} {cs : Array Value} {T : TypeId} (h : Blk W N cs T ∧ Below N w W) (i : Nat) (v : Value) : Blk (W.setCell ⟨N + 1, i, none⟩ v) N cs T ∧ Below N w (W.setCell ⟨N + 1, i, none⟩ v) :=
  ⟨h.1.far _ _ (by simp), h.2.setCell (p := ⟨N + 1, i, none⟩) (Nat.le_succ _) _⟩

/-- What 'one' answers. -/
def OneV (r : Except Nat (Nat × Lx.Bs × Nat)) (a : Nat) (kv : Int) (tv : ByteArray) (pv en ec : Int) : Prop :=
  match r with
  | .error c => ec = (c : Int) ∧ c ≠ 0
  | .ok (k, t, n) => ec = 0 ∧ kv = (k : Int) ∧ tv.data.toList = t ∧ pv = (a : Int) ∧ en = ((a + n : Nat) : Int)

theorem oneT_letter (s : ByteArray) (a : Nat) (h : a < s.size) (hl : Lx.isLet s[a] = true) : Lx.oneT (s.data.toList.drop a) =
    if Lx.hasB Lx.keys (((s.data.toList.drop a).take (Lx.cnt Lx.isWd (s.data.toList.drop a))).map Lx.upB) then .ok (50, ((s.data.toList.drop a).take (Lx.cnt Lx.isWd (s.data.toList.drop a))).map Lx.upB, Lx.cnt Lx.isWd (s.data.toList.drop a))
    else .ok (18, ((s.data.toList.drop a).take (Lx.cnt Lx.isWd (s.data.toList.drop a))).map Lx.lowB, Lx.cnt Lx.isWd (s.data.toList.drop a)) := by
  have e := drop_at s a h
  rw [e]
  simp only [Lx.oneT, hl, if_true]

theorem oneT_digit (s : ByteArray) (a : Nat) (h : a < s.size) (hl : Lx.isLet s[a] = false) (hd : Lx.isDig s[a] = true) : Lx.oneT (s.data.toList.drop a) =
    if Lx.cnt Lx.isDig (s.data.toList.drop a) < Lx.cnt Lx.isWd (s.data.toList.drop a) then .error 2
    else if Lx.overTop (Lx.leastB ((s.data.toList.drop a).take (Lx.cnt Lx.isDig (s.data.toList.drop a)))) then .error 3
    else .ok (16, Lx.leastB ((s.data.toList.drop a).take (Lx.cnt Lx.isDig (s.data.toList.drop a))), Lx.cnt Lx.isDig (s.data.toList.drop a)) := by
  have e := drop_at s a h
  rw [e]
  simp only [Lx.oneT, hl, hd, if_true, if_false, Bool.false_eq_true]

theorem over_yes {t : ByteArray} (hs : t.size = t.data.toList.length) (h : (19 : Int) < t.size ∨ ((t.size : Int) = 19 ∧ ((!Op.bytesLess t.toList [57, 50, 50, 51, 51, 55, 50, 48, 51, 54, 56, 53, 52, 55, 55, 53, 56, 48, 56]) = true ∧ (!t.toList == [57, 50, 50, 51, 51, 55, 50, 48, 51, 54, 56, 53, 52, 55, 55, 53, 56, 48, 56]) = true))) :
    Lx.overTop t.data.toList = true := by
  unfold Lx.overTop Lx.top
  rw [Lib.toList_data] at h
  rcases h with h | ⟨h, h1, h2⟩
  · simp only [Bool.or_eq_true, decide_eq_true_eq]; left; omega
  · rw [h1, h2]
    simp only [Bool.or_eq_true, Bool.and_eq_true, decide_eq_true_eq]; right; exact ⟨by omega, trivial, trivial⟩

theorem over_no {t : ByteArray} (hs : t.size = t.data.toList.length) (h0 : (t.size : Int) ≤ 19) (h : ¬ (t.size : Int) = 19 ∨ ((!Op.bytesLess t.toList [57, 50, 50, 51, 51, 55, 50, 48, 51, 54, 56, 53, 52, 55, 55, 53, 56, 48, 56]) = false ∨ (!t.toList == [57, 50, 50, 51, 51, 55, 50, 48, 51, 54, 56, 53, 52, 55, 55, 53, 56, 48, 56]) = false)) :
    ¬ Lx.overTop t.data.toList = true := by
  unfold Lx.overTop Lx.top
  rw [Lib.toList_data] at h
  simp only [Bool.or_eq_true, Bool.and_eq_true, decide_eq_true_eq]
  rintro (q | ⟨q, q1, q2⟩)
  · omega
  · rcases h with h | h | h
    · omega
    · rw [h] at q1; cases q1
    · rw [h] at q2; cases q2

theorem oneT_quote (s : ByteArray) (a : Nat) (h : a < s.size) (hl : Lx.isLet s[a] = false) (hd : Lx.isDig s[a] = false) (hq : s[a].toNat = 39 ∨ s[a].toNat = 34) : Lx.oneT (s.data.toList.drop a) =
    match Lx.betw s[a] (s.data.toList.drop (a + 1)) with
      | none => .error 2
      | some (t, n) =>
        if Lx.validN t = false ∨ (s[a].toNat = 34 ∧ t = []) then .error 2
        else .ok (if s[a].toNat = 34 then 18 else 17, t, n + 1) := by
  have e := drop_at s a h
  rw [e]
  simp only [Lx.oneT, hl, hd, if_true, if_false, Bool.false_eq_true]
  rw [if_pos hq]
  rcases Lx.betw s[a] (s.data.toList.drop (a + 1)) with _ | ⟨t, n⟩ <;> rfl

theorem quote_bad (s : ByteArray) (a : Nat) (h : a < s.size) (hl : Lx.isLet s[a] = false) (hd : Lx.isDig s[a] = false) (hq : s[a].toNat = 39 ∨ s[a].toNat = 34) (t : ByteArray) (n : Int)
    (hb : betwV (Lx.betw s[a] (s.data.toList.drop (a + 1))) a t n) (hx : n < 0 ∨ Lx.validN t.data.toList = false ∨ (s[a].toNat = 34 ∧ t.data.toList = [])) : Lx.oneT (s.data.toList.drop a) = .error 2 := by
  rw [oneT_quote s a h hl hd hq]
  unfold betwV at hb
  split at hb
  · rename_i x k hbe
    obtain ⟨rfl, rfl⟩ := hb
    simp only [hbe]
    rw [if_pos]
    rcases hx with hx | hx
    · omega
    · exact hx
  · rename_i hbe
    simp only [hbe]

theorem quote_good (s : ByteArray) (a : Nat) (h : a < s.size) (hl : Lx.isLet s[a] = false) (hd : Lx.isDig s[a] = false) (hq : s[a].toNat = 39 ∨ s[a].toNat = 34) (t : ByteArray) (n : Int)
    (hb : betwV (Lx.betw s[a] (s.data.toList.drop (a + 1))) a t n) (h0 : 0 ≤ n) (hv : Lx.validN t.data.toList = true) (hx : ¬ (s[a].toNat = 34 ∧ t.data.toList = [])) :
    Lx.oneT (s.data.toList.drop a) = .ok (if s[a].toNat = 34 then 18 else 17, t.data.toList, n.toNat - a) ∧ a ≤ n.toNat := by
  rw [oneT_quote s a h hl hd hq]
  unfold betwV at hb
  split at hb
  · rename_i x k hbe
    obtain ⟨rfl, rfl⟩ := hb
    simp only [hbe]
    rw [if_neg (by simp only [hv]; simpa using hx)]
    refine ⟨?_, by omega⟩
    rw [show ((a + 1 + k : Nat) : Int).toNat - a = k + 1 from by omega]
  · omega

theorem betwV_size {m : UInt8} {l : Lx.Bs} {a : Nat} {t : ByteArray} {n : Int} (h : betwV (Lx.betw m l) a t n) : t.size ≤ l.length := by
  rw [Lib.size_eq]
  unfold betwV at h
  split at h
  · rename_i x k hb
    have := Lx.betw_le m l x k hb
    rw [h.1]; omega
  · rw [h.1]; simp

theorem oneT_sign (s : ByteArray) (a : Nat) (h : a < s.size) (hl : Lx.isLet s[a] = false) (hd : Lx.isDig s[a] = false) (hq : ¬ (s[a].toNat = 39 ∨ s[a].toNat = 34)) : Lx.oneT (s.data.toList.drop a) =
    if 2 ≤ s.size - a ∧ Lx.hasB Lx.twos ((s.data.toList.drop a).take 2) = true then .ok (51, (s.data.toList.drop a).take 2, 2)
    else if Lx.hasB Lx.ones ((s.data.toList.drop a).take 1) = true then .ok (51, (s.data.toList.drop a).take 1, 1)
    else .error 2 := by
  have e := drop_at s a h
  have el : (s.data.toList.drop a).length = s.size - a := by simp
  rw [← el, e]
  simp only [Lx.oneT, hl, hd, if_true, if_false, Bool.false_eq_true]
  rw [if_neg hq]

theorem row_cell (w : World) (ss : List Lx.Bs) (T : TypeId) (cs : Array Value) (hcs : cs = strRow ss) (g : Nat) (hg : g = w.heap.size) : ∀ i, i < ss.length → ∃ t : ByteArray, (w.alloc (.cells cs T)).cell? ⟨g, i, none⟩ = some (.string t) ∧ t.data.toList = ss.getD i [] := by
  subst hcs; subst hg
  exact strRow_cell w ss T

/-- A token's cells, a list's cells. -/
def tokV (t : Lx.Tok) : List Value := [.int .i64 (t.kind : Int), .string ⟨t.text.toArray⟩, .int .i64 (t.pos : Int)]

def toksV : List Lx.Tok → List Value
  | [] => []
  | t :: ts => tokV t ++ toksV ts

theorem toksV_length : ∀ ts : List Lx.Tok, (toksV ts).length = ts.length * 3
  | [] => rfl
  | t :: ts => by simp [toksV, tokV, toksV_length ts]; omega

theorem toksV_append : ∀ a b : List Lx.Tok, toksV (a ++ b) = toksV a ++ toksV b
  | [], b => rfl
  | t :: a, b => by simp [toksV, toksV_append a b]

theorem toksV_one (t : Lx.Tok) : toksV [t] = tokV t := by simp [toksV]

/-- What a Tokens answers for a text whose reading is r. -/
def TokV (r : Except (Nat × Nat) (List Lx.Tok)) (base : Nat) (w : World) (v : Value) (n c : Int) : Prop :=
  match r with
  | .error (p, e) => v = .slice none 0 0 ∧ n = (p : Int) ∧ c = (e : Int)
  | .ok ts => w.ownsRow base 44 3 v ts.length (toksV ts) ∧ n = 0 ∧ c = 0

/-- The tokens that are read so far, at a place where no space stands. -/
def LexAt (l : Lx.Bs) (k : Nat) (ts : List Lx.Tok) : Prop :=
  ts.length ≤ k ∧ Lx.lexM 0 (Lx.skipN l) (l.drop (Lx.skipN l)) = match Lx.lexM 0 k (l.drop k) with
    | .ok r => .ok (ts ++ r)
    | .error e => .error e

theorem LexAt.start (l : Lx.Bs) : LexAt l (Lx.skipN l) [] := by
  refine ⟨by simp, ?_⟩
  cases Lx.lexM 0 (Lx.skipN l) (l.drop (Lx.skipN l)) <;> simp

theorem LexAt.done {l : Lx.Bs} {k : Nat} {ts : List Lx.Tok} (h : LexAt l k ts) (hk : l.length ≤ k) : Lx.lexM 0 (Lx.skipN l) (l.drop (Lx.skipN l)) = .ok ts := by
  rw [h.2, List.drop_eq_nil_of_le hk]
  simp [Lx.lexM]

theorem LexAt.fail {l : Lx.Bs} {k e : Nat} {ts : List Lx.Tok} (h : LexAt l k ts) (hk : k < l.length) (h1 : Lx.oneT (l.drop k) = .error e) : Lx.lexM 0 (Lx.skipN l) (l.drop (Lx.skipN l)) = .error (k, e) := by
  rw [h.2]
  have e1 := List.drop_eq_getElem_cons hk
  rw [e1] at h1 ⊢
  rw [Lx.lexM_cons, h1]

theorem LexAt.step {l : Lx.Bs} {k c n : Nat} {t : Lx.Bs} {ts : List Lx.Tok} (h : LexAt l k ts) (hk : k < l.length) (h1 : Lx.oneT (l.drop k) = .ok (c, t, n)) : LexAt l (k + n + Lx.skipN (l.drop (k + n))) (ts ++ [⟨c, t, k⟩]) := by
  have hl := Lx.oneT_len h1
  refine ⟨by have := h.1; simp; omega, ?_⟩
  rw [h.2]
  have e1 := List.drop_eq_getElem_cons hk
  rw [e1] at h1 ⊢
  rw [Lx.lexM_cons, h1]
  dsimp only
  rw [← e1, List.drop_drop, List.drop_drop]
  cases Lx.lexM 0 (k + n + Lx.skipN (l.drop (k + n))) (l.drop (k + n + Lx.skipN (l.drop (k + n)))) <;> simp

theorem Below.grownBy {w w' : World} {row : Option Nat} (h : Below w.heap.size w w') : w.grownBy w' row := ⟨h.os, h.tape, h.output, h.size, fun k hk _ => h.block k hk⟩

theorem owns_below {w w1 : World} {base : Nat} {e : TypeId} {size : Nat} {v : Value} {n : Nat} {xs : List Value} (h : w.ownsRow base e size v n xs) (hb : Below w.heap.size w w1) : w1.ownsRow base e size v n xs :=
  h.kept (row := none) (Below.grownBy hb) (by cases v.ownBlock <;> simp)

theorem Tryz.info44 : (Tryz.prog.info? 44).map (fun i => (i.zero, i.size, i.bytes)) = some (some (.agg #[.int .i64 0, .string ⟨#[]⟩, .int .i64 0]), 3, 32) := by kernel_rfl

theorem three_news (w : World) (x y z : Value) (T : TypeId) (g : Nat) (hg : g = w.heap.size) : ∀ j u, [x, y, z][j]? = some u → (w.alloc (.cells #[x, y, z] T)).cell? ((⟨g, 0, none⟩ : Addr).add j) = some u := by
  intro j u hj
  subst hg
  rw [Addr.add_lit, Nat.zero_add, (Blk.new w #[x, y, z] T).cell j]
  rw [← hj]
  simp

/-! Nodes in memory. -/
def ndV (x : Px.Nd) : List Value := [.int .i64 x.kind, .string ⟨x.text.toArray⟩, .int .i64 x.num, .int .i64 x.kids]

def ndsV : List Px.Nd → List Value
  | [] => []
  | x :: r => ndV x ++ ndsV r

theorem ndsV_length : ∀ l : List Px.Nd, (ndsV l).length = l.length * 4
  | [] => rfl
  | x :: l => by simp [ndsV, ndV, ndsV_length l]; omega

theorem ndsV_append : ∀ a b : List Px.Nd, ndsV (a ++ b) = ndsV a ++ ndsV b
  | [], b => rfl
  | x :: a, b => by simp [ndsV, ndsV_append a b]

theorem ndsV_one (x : Px.Nd) : ndsV [x] = ndV x := by simp [ndsV]

theorem ndsV_at : ∀ (l : List Px.Nd) (k : Nat) (h : k < l.length), (ndsV l)[k * 4]? = some (.int .i64 l[k].kind) ∧ (ndsV l)[k * 4 + 1]? = some (.string ⟨l[k].text.toArray⟩) ∧ (ndsV l)[k * 4 + 2]? = some (.int .i64 l[k].num) ∧ (ndsV l)[k * 4 + 3]? = some (.int .i64 l[k].kids)
  | x :: l, 0, _ => ⟨rfl, rfl, rfl, rfl⟩
  | x :: l, k + 1, h => by
    have ih := ndsV_at l k (by simpa using h)
    have e : ∀ j, (ndsV (x :: l))[j + 4]? = (ndsV l)[j]? := by
      intro j
      show (ndV x ++ ndsV l)[j + 4]? = _
      rw [List.getElem?_append_right (by simp [ndV])]
      simp [ndV]
    rw [show (k + 1) * 4 = k * 4 + 4 from by omega, show k * 4 + 4 + 1 = (k * 4 + 1) + 4 from by omega, show k * 4 + 4 + 2 = (k * 4 + 2) + 4 from by omega, show k * 4 + 4 + 3 = (k * 4 + 3) + 4 from by omega, e, e, e, e]
    simpa using ih

theorem Tryz.info46 : (Tryz.prog.info? 46).map (fun i => (i.zero, i.size, i.bytes)) = some (some (.agg #[.int .i64 0, .string ⟨#[]⟩, .int .i64 0, .int .i64 0]), 4, 40) := by kernel_rfl

/-- A slice that holds these nodes, in a block from b0 on. -/
def NdIs (w : World) (b0 : Nat) (v : Value) (l : List Px.Nd) : Prop :=
  (v = .slice none 0 0 ∧ l = []) ∨ ∃ g cap, v = .slice (some ⟨g, 0, none⟩) l.length cap ∧ b0 ≤ g ∧ g < w.heap.size ∧ l.length ≤ cap ∧ cap ≤ maxLen ∧ ∀ j u, (ndsV l)[j]? = some u → w.cell? ⟨g, j, none⟩ = some u

theorem NdIs.nil (w : World) (b0 : Nat) : NdIs w b0 (.slice none 0 0) [] := .inl ⟨rfl, rfl⟩

theorem NdIs.keep {w w' : World} {b0 B : Nat} {v : Value} {l : List Px.Nd} (h : NdIs w b0 v l) (hg : w.grownBy w' (some B)) (hB : B < b0) : NdIs w' b0 v l := by
  rcases h with h | ⟨g, cap, rfl, h1, h2, h3, h4, h5⟩
  · exact .inl h
  · refine .inr ⟨g, cap, rfl, h1, Nat.lt_of_lt_of_le h2 hg.size, h3, h4, fun j u hu => ?_⟩
    rw [World.cell?_of_block (w := w) (hg.block g h2 (by simp; omega))]
    exact h5 j u hu

theorem NdIs.below {w w' : World} {b0 : Nat} {v : Value} {l : List Px.Nd} (h : NdIs w b0 v l) (hg : Below w.heap.size w w') : NdIs w' b0 v l := by
  rcases h with h | ⟨g, cap, rfl, h1, h2, h3, h4, h5⟩
  · exact .inl h
  · refine .inr ⟨g, cap, rfl, h1, Nat.lt_of_lt_of_le h2 hg.size, h3, h4, fun j u hu => ?_⟩
    rw [World.cell?_of_block (w := w) (hg.block g h2)]
    exact h5 j u hu

theorem NdIs.of_own {w : World} {b0 : Nat} {v : Value} {l : List Px.Nd} (h : w.ownsRow b0 46 4 v l.length (ndsV l)) : NdIs w b0 v l := by
  rcases h.2 with ⟨rfl, hn⟩ | ⟨g, cap, cur, rfl, hb, hg, h1, h2, h3, h4⟩
  · exact .inl ⟨rfl, List.length_eq_zero_iff.1 hn⟩
  · refine .inr ⟨g, cap, rfl, hb, (Array.getElem?_eq_some_iff.1 hg).1, h1, h2, fun j u hu => ?_⟩
    have := h.cells (g := g) rfl j u hu
    simpa only [Addr.add_lit, Nat.zero_add] using this

theorem toksV_nth : ∀ (ts : List Lx.Tok) (k : Nat) (h : k < ts.length), (toksV ts)[k * 3]? = some (.int .i64 (ts[k].kind : Int)) ∧ (toksV ts)[k * 3 + 1]? = some (.string ⟨ts[k].text.toArray⟩) ∧ (toksV ts)[k * 3 + 2]? = some (.int .i64 (ts[k].pos : Int))
  | t :: ts, 0, _ => ⟨rfl, rfl, rfl⟩
  | t :: ts, k + 1, h => by
    have ih := toksV_nth ts k (by simpa using h)
    have e : ∀ j, (toksV (t :: ts))[j + 3]? = (toksV ts)[j]? := by
      intro j
      show (tokV t ++ toksV ts)[j + 3]? = _
      rw [List.getElem?_append_right (by simp [tokV])]
      simp [tokV]
    rw [show (k + 1) * 3 = k * 3 + 3 from by omega, show k * 3 + 3 + 1 = (k * 3 + 1) + 3 from by omega, show k * 3 + 3 + 2 = (k * 3 + 2) + 3 from by omega, e, e, e]
    simpa using ih

theorem own_set {w : World} {B i b n : Nat} {lv x : Value} {xs : List Value} (ho : w.ownsRow b 44 3 lv n xs) (hne : lv.ownBlock ≠ some B) : (w.setCell ⟨B, i, none⟩ x).ownsRow b 44 3 lv n xs :=
  ho.kept (row := some B) ⟨rfl, rfl, rfl, by simp [World.setCell], fun k _ h => Below.heap_setCell w _ x k (by simpa using h)⟩ (by
    cases hv : lv.ownBlock with
    | none => simp
    | some g => simp; intro e; subst e; exact hne hv)

/-- The token at a place of the list; behind the end: an empty one at the text's length. -/
def hereT (ts : List Lx.Tok) (sz k : Nat) : Lx.Tok := (ts[k]?).getD ⟨0, [], sz⟩

def tokA (t : Lx.Tok) : Value := .agg #[.int .i64 (t.kind : Int), .string ⟨t.text.toArray⟩, .int .i64 (t.pos : Int)]

end Go.Proofs.YtcdgihdhpaipaaaGreatDoor

namespace Go.Proofs.YtcdgihdhpaipaaaGreatDoor
open Go.RowKit
set_option linter.unusedSimpArgs false
set_option linter.unusedVariables false

set_option maxHeartbeats 400000 in
theorem space_any (b : UInt8) (w : World) :
    Calls Tryz.prog 58 #[.int .u8 (b.toNat : Int)] w fun e w' => e = .returned (.bool (Lx.isSp b)) ∧ w' = w := by
  go_enter Tryz.func58, Tryz.ntmps58
  go_wp2
  all_goals
    go_ret
    refine ⟨ret_bool ?_, rfl⟩
    rw [Bool.eq_iff_iff]; simp [Lx.isSp]; omega

set_option maxHeartbeats 400000 in
theorem digit_any (b : UInt8) (w : World) :
    Calls Tryz.prog 60 #[.int .u8 (b.toNat : Int)] w fun e w' => e = .returned (.bool (Lx.isDig b)) ∧ w' = w := by
  go_enter Tryz.func60, Tryz.ntmps60
  go_wp2
  all_goals
    go_ret
    refine ⟨ret_bool ?_, rfl⟩
    rw [Bool.eq_iff_iff]; simp [Lx.isDig]; omega

set_option maxHeartbeats 400000 in
theorem letter_any (b : UInt8) (w : World) :
    Calls Tryz.prog 59 #[.int .u8 (b.toNat : Int)] w fun e w' => e = .returned (.bool (Lx.isLet b)) ∧ w' = w := by
  go_enter Tryz.func59, Tryz.ntmps59
  go_wp2
  all_goals
    go_ret
    refine ⟨ret_bool ?_, rfl⟩
    rw [Bool.eq_iff_iff]; simp [Lx.isLet]; omega

set_option maxHeartbeats 400000 in
theorem run_any (s : ByteArray) (a : Nat) (lets : Bool) (w : World) (hs : s.size ≤ maxLen) (ha : a ≤ s.size) :
    Calls Tryz.prog 61 #[.string s, .int .i64 a, .bool lets] w fun e w' => e = .returned (.int .i64 (a + Lx.cnt (if lets then Lx.isWd else Lx.isDig) (s.data.toList.drop a) : Nat)) ∧ w' = w := by
  unfold maxLen at hs
  obtain ⟨p, hp⟩ : ∃ p, p = (if lets = true then Lx.isWd else Lx.isDig) := ⟨_, rfl⟩
  have hpp : ∀ b, p b = (Lx.isDig b || (lets && Lx.isLet b)) := by
    intro b; subst hp; cases lets <;> simp [Lx.isWd]
  rw [← hp]
  have HP : Hid (∀ b, p b = (Lx.isDig b || (lets && Lx.isLet b))) := hpp
  clear hpp hp
  go_enter Tryz.func61, Tryz.ntmps61
  go_wp2
  go_loop [1] (fun i => ∃ k : Nat, k ≤ s.size ∧ i = .int .i64 k ∧ Hid (a + Lx.cnt p (s.data.toList.drop a) = k + Lx.cnt p (s.data.toList.drop k))) (fun i => s.size - (intOf i).toNat)
  case atStart => exact ⟨a, ha, rfl, rfl⟩
  case round =>
    obtain ⟨k, hk, rfl, HK⟩ := hrel
    by_cases hlt : k < s.size
    · have HC : Hid (Lx.cnt p (s.data.toList.drop k) = if p s[k] = true then Lx.cnt p (s.data.toList.drop (k + 1)) + 1 else 0) := cnt_at p s k hlt
      cases hd : Lx.isDig s[k] <;> cases hl : Lx.isLet s[k] <;> cases lets
      all_goals
        have HQ := HP.out s[k]
        simp only [hd, hl, Bool.or_true, Bool.true_or, Bool.or_false, Bool.false_or, Bool.and_true, Bool.and_false] at HQ
        have HQ' : Hid _ := HQ
        clear HQ
        go_wp2_with (first | (go_at_call 60; refine (digit_any _ _).mono ?_; rintro e w' ⟨rfl, rfl⟩) | (go_at_call 59; refine (letter_any _ _).mono ?_; rintro e w' ⟨rfl, rfl⟩))
      all_goals first
        | (go_round
           case rel => exact ⟨k + 1, by omega, by go_num, by have h1 := HK.out; have h2 := HC.out; rw [HQ'.out] at h2; simp at h2; show _ = _; omega⟩
           case measure => simp [intOf]; omega)
        | (go_ret
           exact ⟨ret_int (by have h1 := HK.out; have h2 := HC.out; rw [HQ'.out] at h2; simp at h2; omega), rfl⟩)
    · go_wp2
      go_ret
      exact ⟨ret_int (by have h1 := HK.out; rw [cnt_end p s k (by omega)] at h1; omega), rfl⟩
end Go.Proofs.YtcdgihdhpaipaaaGreatDoor

namespace Go.Proofs.YtcdgihdhpaipaaaGreatDoor
open Go.RowKit
set_option linter.unusedSimpArgs false
set_option linter.unusedVariables false

set_option maxHeartbeats 400000 in
theorem follows_any (s : ByteArray) (a lo hi : Int) (w : World) (hs : s.size ≤ maxLen) (ha : 0 ≤ a) (hl : 0 ≤ lo) (hh : 0 ≤ hi) :
    Calls Tryz.prog 117 #[.string s, .int .i64 a, .int .u8 lo, .int .u8 hi] w fun e w' => e = .returned (.bool (Lx.folB s.data.toList a.toNat lo.toNat hi.toNat)) ∧ w' = w := by
  unfold maxLen at hs
  obtain ⟨k, rfl⟩ := Int.eq_ofNat_of_zero_le ha
  rw [Int.toNat_natCast]
  by_cases hlt : k < s.size
  · have hf : Lx.folB s.data.toList k lo.toNat hi.toNat = decide (lo.toNat ≤ s[k].toNat ∧ s[k].toNat ≤ hi.toNat) := by
      unfold Lx.folB
      rw [List.getElem?_eq_getElem (by simpa using hlt)]
      rfl
    have HF : Hid _ := hf
    clear hf
    go_enter Tryz.func117, Tryz.ntmps117
    go_wp2
    all_goals
      go_ret
      refine ⟨ret_bool ?_, rfl⟩
      rw [HF.out, Bool.eq_iff_iff]; simp; omega
  · have hf : Lx.folB s.data.toList k lo.toNat hi.toNat = false := by
      unfold Lx.folB
      rw [List.getElem?_eq_none (by simpa using hlt)]
    rw [hf]
    go_enter Tryz.func117, Tryz.ntmps117
    go_wp2
    all_goals
      go_ret
      exact ⟨ret_bool rfl, rfl⟩

set_option maxRecDepth 100000 in
set_option maxHeartbeats 1000000 in
theorem char_any (s : ByteArray) (a : Nat) (w : World) (ha : a < s.size) (hs : s.size ≤ 1000000000) :
    Calls Tryz.prog 96 #[.string s, .int .i64 a] w fun e w' => e = .returned (.int .i64 (Lx.charN (s.data.toList.drop a) : Nat)) ∧ w' = w := by
  have hm : s.size ≤ maxLen := by unfold maxLen; omega
  have hB : Hid (Lx.charN (s.data.toList.drop a) = _) := charN_at s a ha
  have hlo : Hid (Lx.loOf s[a].toNat = if s[a].toNat = 224 then 160 else if s[a].toNat = 240 then 144 else 128) := rfl
  have hhi : Hid (Lx.hiOf s[a].toNat = if s[a].toNat = 237 then 159 else if s[a].toNat = 244 then 143 else 191) := rfl
  have hb : s[a].toNat < 256 := s[a].toNat_lt
  go_enter Tryz.func96, Tryz.ntmps96
  go_wp2_with fail
  refine (follows_any s _ _ _ _ hm (by omega) (by omega) (by omega)).mono ?_
  rintro e w' ⟨rfl, rfl⟩
  rw [show ((a : Int) + 1).toNat = a + 1 from by omega]
  go_wp2_with fail
  refine (follows_any s _ _ _ _ hm (by omega) (by omega) (by omega)).mono ?_
  rintro e w' ⟨rfl, rfl⟩
  rw [show ((a : Int) + 2).toNat = a + 2 from by omega]
  go_wp2_with fail
  refine (follows_any s _ _ _ _ hm (by omega) (by omega) (by omega)).mono ?_
  rintro e w' ⟨rfl, rfl⟩
  rw [show ((a : Int) + 3).toNat = a + 3 from by omega]
  generalize s[a].toNat = c at *
  go_wp2_with fail
  all_goals
    have hN : ∀ lo hi : Int, lo = Lx.loOf c → hi = Lx.hiOf c → Lx.folB s.data.toList ((a : Int) + 1).toNat lo.toNat hi.toNat = Lx.folB s.data.toList (a + 1) (Lx.loOf c) (Lx.hiOf c) := by
      intro lo hi e1 e2; rw [e1, e2, Int.toNat_natCast, Int.toNat_natCast, show ((a : Int) + 1).toNat = a + 1 from by omega]
    have HN : Hid _ := hN
    clear hN
    refine (follows_any s _ _ _ _ hm (by omega) (by omega) (by omega)).mono ?_
    rintro e w' ⟨rfl, rfl⟩
    first
      | (have q := beq_yes (c := c) (n := 224) (by assumption)
         rw [HN.out _ _ (by rw [hlo.out, if_pos q]; rfl) (by rw [hhi.out, if_neg (by omega), if_neg (by omega)]; rfl)])
      | (have q0 := beq_no (c := c) (n := 224) (by assumption)
         have q := beq_yes (c := c) (n := 237) (by assumption)
         rw [HN.out _ _ (by rw [hlo.out, if_neg q0, if_neg (by omega)]; rfl) (by rw [hhi.out, if_pos q]; rfl)])
      | (have q0 := beq_no (c := c) (n := 224) (by assumption)
         have q := beq_yes (c := c) (n := 240) (by assumption)
         rw [HN.out _ _ (by rw [hlo.out, if_neg q0, if_pos q]; rfl) (by rw [hhi.out, if_neg (by omega), if_neg (by omega)]; rfl)])
      | (have q0 := beq_no (c := c) (n := 224) (by assumption)
         have q := beq_yes (c := c) (n := 244) (by assumption)
         rw [HN.out _ _ (by rw [hlo.out, if_neg q0, if_neg (by omega)]; rfl) (by rw [hhi.out, if_neg (by omega), if_pos q]; rfl)])
      | (have q1 := beq_no (c := c) (n := 224) (by assumption)
         have q2 := beq_no (c := c) (n := 237) (by assumption)
         have q3 := beq_no (c := c) (n := 240) (by assumption)
         have q4 := beq_no (c := c) (n := 244) (by assumption)
         rw [HN.out _ _ (by rw [hlo.out, if_neg q1, if_neg q3]; rfl) (by rw [hhi.out, if_neg q2, if_neg q4]; rfl)])
    clear HN
  all_goals
    generalize Lx.folB s.data.toList (a + 1) 128 191 = f1 at *
    generalize Lx.folB s.data.toList (a + 1) (Lx.loOf c) (Lx.hiOf c) = fn at *
    generalize Lx.folB s.data.toList (a + 2) 128 191 = f2 at *
    generalize Lx.folB s.data.toList (a + 3) 128 191 = f3 at *
    go_wp2_with fail
  all_goals
    go_ret
    refine ⟨ret_int ?_, rfl⟩
    go_light
    rw [hB.out]
    clear hB hlo hhi
    simp only [beq_iff_eq, beq_eq_false_iff_ne, ne_eq] at *
    unfold charB
    try simp only [*]
    repeat' (split)
    all_goals (first | rfl | omega | (simp at * <;> omega))
end Go.Proofs.YtcdgihdhpaipaaaGreatDoor

namespace Go.Proofs.YtcdgihdhpaipaaaGreatDoor
open Go.RowKit
set_option linter.unusedSimpArgs false
set_option linter.unusedVariables false

set_option maxHeartbeats 400000 in
theorem Valid_any (s : ByteArray) (w : World) (hs : s.size ≤ 1000000000) :
    Calls Tryz.prog 68 #[.string s] w fun e w' => e = .returned (.bool (Lx.validN s.data.toList)) ∧ w' = w := by
  go_enter Tryz.func68, Tryz.ntmps68
  go_wp2
  go_loop [3] (fun i => ∃ k : Nat, k ≤ s.size ∧ i = .int .i64 k ∧ Hid (Lx.validN s.data.toList = Lx.validN (s.data.toList.drop k))) (fun i => s.size - (intOf i).toNat)
  case atStart => exact ⟨0, by omega, rfl, by show _ = _; simp⟩
  case round =>
    obtain ⟨k, hk, rfl, HK⟩ := hrel
    by_cases hlt : k < s.size
    · have HC : Hid (Lx.validN (s.data.toList.drop k) = _) := valid_at s k hlt
      have hle := Lx.charN_le (s.data.toList.drop k)
      simp only [List.length_drop, Array.length_toList] at hle
      have hle2 : Lx.charN (s.data.toList.drop k) ≤ s.size - k := hle
      clear hle
      go_wp2_with (go_at_call 96; refine (char_any _ _ _ hlt hs).mono ?_; rintro e w' ⟨rfl, rfl⟩; generalize Lx.charN (List.drop k s.data.toList) = n at *)
      · go_ret
        exact ⟨ret_bool (by rw [HK.out, HC.out, if_pos (.inl ‹_›)]), rfl⟩
      · go_ret
        exact ⟨ret_bool (by rw [HK.out, HC.out, if_pos (or_zero ‹_›)]), rfl⟩
      · go_round
        case rel => exact ⟨k + n, by omega, by go_num, by show _ = _; rw [HK.out, HC.out, if_neg (and_zero ‹_›)]⟩
        case measure => have := and_zero ‹_›; simp [intOf]; omega
    · go_wp2
      go_ret
      exact ⟨ret_bool (by rw [HK.out, valid_end s k (by omega)]), rfl⟩

set_option maxHeartbeats 400000 in
theorem least_any (s : ByteArray) (w : World) (hs : s.size ≤ 1000000000) :
    Calls Tryz.prog 66 #[.string s] w fun e w' => ∃ t : ByteArray, e = .returned (.string t) ∧ t.data.toList = Lx.leastB s.data.toList ∧ w' = w := by
  go_enter Tryz.func66, Tryz.ntmps66
  go_wp2
  go_loop [0] (fun v => ∃ t : ByteArray, t.size ≤ s.size ∧ v = .string t ∧ Hid (Lx.leastB s.data.toList = Lx.leastB t.data.toList)) (fun v => strSize v)
  case atStart => exact ⟨s, by omega, rfl, rfl⟩
  case round =>
    obtain ⟨t, ht, rfl, HK⟩ := hrel
    by_cases h1 : 1 < t.size
    · have HE : Hid (Lx.leastB t.data.toList = if t[0].toNat = 48 then Lx.leastB (t.data.toList.drop 1) else t.data.toList) := least_at t h1
      go_wp2
      · go_round
        case rel =>
          have q := beq_yes (c := t[0].toNat) (n := 48) (by assumption)
          exact ⟨t.extract 1 t.size, by simp; omega, rfl, by show _ = _; rw [HK.out, HE.out, if_pos q, Lib.extract_to_end]⟩
        case measure => simp [strSize]; omega
      · go_ret
        have q := beq_no (c := t[0].toNat) (n := 48) (by assumption)
        exact ⟨t, rfl, by rw [HK.out, HE.out, if_neg q], rfl⟩
    · go_wp2
      go_ret
      exact ⟨t, rfl, by rw [HK.out, least_short t (by omega)], rfl⟩

set_option maxHeartbeats 1000000 in
theorem skip_any (s : ByteArray) (a : Nat) (w : World) (hs : s.size ≤ 1000000000) (ha : a ≤ s.size) :
    Calls Tryz.prog 30 #[.string s, .int .i64 a] w fun e w' => e = .returned (.int .i64 (a + Lx.skipN (s.data.toList.drop a) : Nat)) ∧ w' = w := by
  go_enter Tryz.func30, Tryz.ntmps30
  go_wp2
  go_loop [1] (fun i => ∃ k : Nat, k ≤ s.size ∧ i = .int .i64 k ∧ Hid (a + Lx.skipM false (s.data.toList.drop a) = k + Lx.skipM false (s.data.toList.drop k))) (fun i => s.size - (intOf i).toNat)
  case atStart => exact ⟨a, by omega, rfl, rfl⟩
  case round =>
    obtain ⟨k, hk, rfl, HK⟩ := hrel
    by_cases hlt : k < s.size
    · go_wp2_with fail
      · have hd := skip_dash s k (by assumption) (by assumption)
        obtain ⟨hd1, hd2⟩ := hd
        have HD1 : Hid _ := hd1
        have HD2 : Hid _ := hd2
        clear hd1 hd2
        go_loop [1] (fun i => ∃ j : Nat, k ≤ j ∧ j ≤ s.size ∧ i = .int .i64 j ∧ Hid (a + Lx.skipM false (s.data.toList.drop a) = j + Lx.skipM true (s.data.toList.drop j))) (fun i => s.size - (intOf i).toNat)
        case atStart => exact ⟨k, by omega, by omega, rfl, by show _ = _; rw [HK.out, HD1.out]⟩
        case round =>
          obtain ⟨j, hj1, hj2, rfl, HJ⟩ := hrel
          by_cases hjl : j < s.size
          · have HI : Hid _ := skip_in s j hjl
            go_wp2
            · go_round
              case rel =>
                have q := bne_yes (c := s[j].toNat) (n := 10) (by assumption)
                exact ⟨j + 1, by omega, by omega, by go_num, by have h1 := HJ.out; have h2 := HI.out; rw [if_neg q] at h2; show _ = _; omega⟩
              case measure => simp [intOf]; omega
            · go_round
              case rel =>
                have q := bne_no (c := s[j].toNat) (n := 10) (by assumption)
                refine ⟨j, by omega, rfl, ?_⟩
                have h1 := HJ.out; have h2 := HI.out; rw [if_pos q] at h2
                have h3 := skip_nl s j hjl q
                show _ = _; omega
              case measure =>
                have q := bne_no (c := s[j].toNat) (n := 10) (by assumption)
                have h1 := HD2.out
                have : j ≠ k := by rintro rfl; omega
                simp [intOf]; omega
          · go_wp2
            go_round
            case rel =>
              refine ⟨j, by omega, rfl, ?_⟩
              have h1 := HJ.out
              rw [skip_end true s j (by omega)] at h1
              show _ = _; rw [skip_end false s j (by omega)]; omega
            case measure => simp [intOf]; omega
      · refine (space_any _ _).mono ?_
        rintro e w' ⟨rfl, rfl⟩
        have HP : Hid _ := skip_plain s k hlt (.inl (by assumption))
        cases hsp : Lx.isSp s[k]
        all_goals go_wp2
        · go_ret
          exact ⟨ret_int (by have h1 := HK.out; have h2 := HP.out; rw [hsp] at h2; simp at h2; unfold Lx.skipN; omega), rfl⟩
        · go_round
          case rel => exact ⟨k + 1, by omega, by go_num, by have h1 := HK.out; have h2 := HP.out; rw [hsp] at h2; simp at h2; show _ = _; omega⟩
          case measure => simp [intOf]; omega
      · refine (space_any _ _).mono ?_
        rintro e w' ⟨rfl, rfl⟩
        have HP : Hid _ := skip_plain s k hlt (.inr (by assumption))
        cases hsp : Lx.isSp s[k]
        all_goals go_wp2
        · go_ret
          exact ⟨ret_int (by have h1 := HK.out; have h2 := HP.out; rw [hsp] at h2; simp at h2; unfold Lx.skipN; omega), rfl⟩
        · go_round
          case rel => exact ⟨k + 1, by omega, by go_num, by have h1 := HK.out; have h2 := HP.out; rw [hsp] at h2; simp at h2; show _ = _; omega⟩
          case measure => simp [intOf]; omega
    · go_wp2
      go_ret
      exact ⟨ret_int (by have h1 := HK.out; rw [skip_end false s k (by omega)] at h1; unfold Lx.skipN; omega), rfl⟩
end Go.Proofs.YtcdgihdhpaipaaaGreatDoor

namespace Go.Proofs.YtcdgihdhpaipaaaGreatDoor
open Go.RowKit
set_option linter.unusedSimpArgs false
set_option linter.unusedVariables false

set_option maxHeartbeats 400000 in
theorem In_any (s : ByteArray) (g cap : Nat) (ss : List Lx.Bs) (w : World) (hn : ss.length ≤ 1000)
    (hc : ∀ i, i < ss.length → ∃ t : ByteArray, w.cell? ⟨g, i, none⟩ = some (.string t) ∧ t.data.toList = ss.getD i []) :
    Calls Tryz.prog 63 #[.string s, .slice (some ⟨g, 0, none⟩) ss.length cap] w fun e w' => e = .returned (.bool (Lx.hasB ss s.data.toList)) ∧ w' = w := by
  have HC : Hid _ := hc
  clear hc
  go_enter Tryz.func63, Tryz.ntmps63
  go_wp2
  go_loop [5] (fun i => ∃ k : Nat, k ≤ ss.length ∧ i = .int .i64 k ∧ Hid (Lx.hasB ss s.data.toList = Lx.hasB (ss.drop k) s.data.toList)) (fun i => ss.length - (intOf i).toNat)
  case atStart => exact ⟨0, by omega, rfl, by show _ = _; simp⟩
  case round =>
    obtain ⟨k, hk, rfl, HK⟩ := hrel
    by_cases hlt : k < ss.length
    · obtain ⟨t, ht, ht2⟩ := HC.out k hlt
      have HT : Hid (t.data.toList = ss.getD k []) := ht2
      clear ht2
      have HS : Hid _ := contains_at ss s.data.toList k hlt
      go_wp2
      · go_ret
        have q : (t.toList == s.toList) = true := by assumption
        exact ⟨ret_bool (by rw [HK.out, HS.out, ← HT.out, ← Lib.toList_data, ← Lib.toList_data, q]; simp), rfl⟩
      · go_round
        case rel =>
          have q : (t.toList == s.toList) = false := by assumption
          exact ⟨k + 1, by omega, by go_num, by show _ = _; rw [HK.out, HS.out, ← HT.out]; rw [Lib.toList_data, Lib.toList_data] at q; rw [q]; simp⟩
        case measure => simp [intOf]; omega
    · go_wp2
      go_ret
      exact ⟨ret_bool (by rw [HK.out, List.drop_eq_nil_of_le (by omega)]; rfl), rfl⟩

set_option maxHeartbeats 400000 in
theorem keywords_any (w : World) :
    Calls Tryz.prog 64 #[] w fun e w' => e = .returned (.slice (some ⟨w.heap.size, 0, none⟩) 27 27) ∧ w' = w.alloc (.cells (strRow Lx.keys) 9) := by
  go_enter Tryz.func64, Tryz.ntmps64
  go_wp2
  go_ret
  exact ⟨rfl, rfl⟩

set_option maxHeartbeats 1000000 in
theorem upper_any (s : ByteArray) (w : World) (hs : s.size ≤ 1000000000) :
    Calls Tryz.prog 62 #[.string s] w fun e w' => ∃ t : ByteArray, e = .returned (.string t) ∧ t.data.toList = s.data.toList.map Lx.upB ∧ Below w.heap.size w w' := by
  have hcv := fun (w : World) => run_bytes_of_string (P := Tryz.prog) w 9 177 5 s Tryz.underlying9 Tryz.underlying177 Tryz.underlying5
  go_enter Tryz.func62, Tryz.ntmps62
  go_wp2
  clear hcv
  generalize hcap : grownCap w s.size 0 5 = cap
  clear hcap
  go_loopw [4] (fun i wr => ∃ k : Nat, k ≤ s.size ∧ i = .int .i64 k ∧ Hid (Cased Lx.upB s w.heap.size k wr ∧ Below w.heap.size w wr)) (fun i _ => s.size - (intOf i).toNat)
  case atStart => exact ⟨0, by omega, rfl, Cased.start _ _ _ _, Below.cased _ _⟩
  case round =>
    obtain ⟨k, hk, rfl, HK⟩ := hrel
    by_cases hlt : k < s.size
    · obtain ⟨hck, hfk⟩ := HK.out.1 k hlt
      simp only [Nat.lt_irrefl, if_false] at hck
      have hb : s[k].toNat < 256 := s[k].toNat_lt
      go_wp2
      all_goals
        go_roundw
        case rel =>
          refine ⟨k + 1, by omega, by go_num, ?_⟩
          first
            | exact ⟨HK.out.1.set hlt _ (upper_num ‹_› ‹_›), HK.out.2.setCell (by simp) _⟩
            | exact ⟨HK.out.1.keep hlt (upper_same (by omega)), HK.out.2⟩
        case measure => simp [intOf]; omega
    · have e : k = s.size := by omega
      subst e
      obtain ⟨t, ht⟩ : ∃ t : ByteArray, t = ⟨(s.data.toList.map Lx.upB).toArray⟩ := ⟨_, rfl⟩
      have hcv : ∀ cap, (convert 177 9 (.slice (some ⟨w.heap.size, 0, none⟩) s.size cap)).run Tryz.prog wr = .ok (.string t) wr := by
        intro cap
        have h := run_convert_bytes_back (P := Tryz.prog) wr 177 9 5 ⟨w.heap.size, 0, none⟩ cap (s.data.toList.map Lx.upB) Tryz.underlying177 Tryz.underlying5 Tryz.underlying9 HK.out.1.done
        rw [ht, ← h]
        simp only [List.length_map, Array.length_toList]
        rfl
      have HT : Hid (t.data.toList = s.data.toList.map Lx.upB) := by rw [ht]; show _ = _; simp
      clear ht
      go_wp2
      go_ret
      exact ⟨t, rfl, HT.out, HK.out.2⟩

set_option maxHeartbeats 1000000 in
theorem lower_any (s : ByteArray) (w : World) (hs : s.size ≤ 1000000000) :
    Calls Tryz.prog 65 #[.string s] w fun e w' => ∃ t : ByteArray, e = .returned (.string t) ∧ t.data.toList = s.data.toList.map Lx.lowB ∧ Below w.heap.size w w' := by
  have hcv := fun (w : World) => run_bytes_of_string (P := Tryz.prog) w 9 177 5 s Tryz.underlying9 Tryz.underlying177 Tryz.underlying5
  go_enter Tryz.func65, Tryz.ntmps65
  go_wp2
  clear hcv
  generalize hcap : grownCap w s.size 0 5 = cap
  clear hcap
  go_loopw [4] (fun i wr => ∃ k : Nat, k ≤ s.size ∧ i = .int .i64 k ∧ Hid (Cased Lx.lowB s w.heap.size k wr ∧ Below w.heap.size w wr)) (fun i _ => s.size - (intOf i).toNat)
  case atStart => exact ⟨0, by omega, rfl, Cased.start _ _ _ _, Below.cased _ _⟩
  case round =>
    obtain ⟨k, hk, rfl, HK⟩ := hrel
    by_cases hlt : k < s.size
    · obtain ⟨hck, hfk⟩ := HK.out.1 k hlt
      simp only [Nat.lt_irrefl, if_false] at hck
      have hb : s[k].toNat < 256 := s[k].toNat_lt
      go_wp2
      all_goals
        go_roundw
        case rel =>
          refine ⟨k + 1, by omega, by go_num, ?_⟩
          first
            | exact ⟨HK.out.1.set hlt _ (lower_num ‹_› ‹_›), HK.out.2.setCell (by simp) _⟩
            | exact ⟨HK.out.1.keep hlt (lower_same (by omega)), HK.out.2⟩
        case measure => simp [intOf]; omega
    · have e : k = s.size := by omega
      subst e
      obtain ⟨t, ht⟩ : ∃ t : ByteArray, t = ⟨(s.data.toList.map Lx.lowB).toArray⟩ := ⟨_, rfl⟩
      have hcv : ∀ cap, (convert 177 9 (.slice (some ⟨w.heap.size, 0, none⟩) s.size cap)).run Tryz.prog wr = .ok (.string t) wr := by
        intro cap
        have h := run_convert_bytes_back (P := Tryz.prog) wr 177 9 5 ⟨w.heap.size, 0, none⟩ cap (s.data.toList.map Lx.lowB) Tryz.underlying177 Tryz.underlying5 Tryz.underlying9 HK.out.1.done
        rw [ht, ← h]
        simp only [List.length_map, Array.length_toList]
        rfl
      have HT : Hid (t.data.toList = s.data.toList.map Lx.lowB) := by rw [ht]; show _ = _; simp
      clear ht
      go_wp2
      go_ret
      exact ⟨t, rfl, HT.out, HK.out.2⟩
end Go.Proofs.YtcdgihdhpaipaaaGreatDoor

namespace Go.Proofs.YtcdgihdhpaipaaaGreatDoor
open Go.RowKit
set_option linter.unusedSimpArgs false
set_option linter.unusedVariables false

set_option maxRecDepth 100000 in
set_option maxHeartbeats 1000000 in
theorem between_any (s : ByteArray) (a : Nat) (w : World) (hs : s.size ≤ 1000000) (ha : a < s.size) :
    Calls Tryz.prog 67 #[.string s, .int .i64 a] w fun e w' => ∃ (t : ByteArray) (n : Int), e = .returned (.tuple #[.string t, .int .i64 n]) ∧ betwV (Lx.betw s[a] (s.data.toList.drop (a + 1))) a t n ∧ Below w.heap.size w w' := by
  obtain ⟨i0, hi, hz0, hz1, hz2⟩ := info_parts Tryz.info5
  go_enter Tryz.func67, Tryz.ntmps67
  go_wp2
  go_loopw [7, 8] (fun v i wr => ∃ (j : Nat) (acc : Lx.Bs), a + 1 ≤ j ∧ j ≤ s.size ∧ i = .int .i64 (j : Int) ∧ acc.length ≤ j - (a + 1) ∧ Hid (wr.ownsRow w.heap.size 5 1 v acc.length (acc.map byteV)) ∧ Hid (BetwAt s[a] (s.data.toList.drop (a + 1)) (j - (a + 1)) acc) ∧ Hid (Below w.heap.size w wr))
    (fun _ i _ => s.size - (intOf i).toNat)
  case atStart => exact ⟨a + 1, [], by omega, by omega, by go_num, by simp, World.ownsRow_nil _ _ _ _, by rw [Nat.sub_self]; exact BetwAt.start _ _, Below.refl _ _⟩
  case round =>
    obtain ⟨j, acc, hj1, hj2, rfl, hacc, HO, HB, HW⟩ := hrel
    have HD : Hid ((s.data.toList.drop (a + 1)).drop (j - (a + 1)) = s.data.toList.drop j) := by show _ = _; rw [List.drop_drop]; congr 1; omega
    have hsz := HW.out.size
    by_cases hlt : j < s.size
    · have HD1 : Hid ((s.data.toList.drop (a + 1)).drop (j - (a + 1)) = s[j] :: s.data.toList.drop (j + 1)) := HD.out.trans (drop_at s j hlt)
      by_cases hm : s[j] = s[a]
      · have t1 : ((s[j].toNat : Int) != (s[a].toNat : Int)) = false := by rw [hm]; simp
        have HM : Hid _ := hm
        clear hm
        by_cases hlt2 : j + 1 < s.size
        · have HD2 : Hid _ := drop_at s (j + 1) hlt2
          by_cases hm2 : s[j + 1] = s[a]
          · have t2 : ((s[j + 1].toNat : Int) == (s[a].toNat : Int)) = true := by rw [hm2]; simp
            have HM2 : Hid _ := hm2
            clear hm2
            go_wp2_with (at_builtin; refine wpList_append_own _ rfl _ _ 177 rfl w.heap.size 5 i0 (.int .u8 0) 1 1 Tryz.underlying177 hi hz0 hz1 hz2 rfl (by decide) _ _ _ rfl (HO.out.alloc _) ⟨wr.heap.size, 0, none⟩ 1 1 [byteV s[a]] rfl rfl ?d1 ?d2 ?d3 ?d4 ?d5 ?_)
            case d1 => exact (cell_one_new _ _ _)
            case d2 => intro u hu; simp at hu; subst hu; rfl
            case d3 => unfold maxLen; omega
            case d4 => omega
            case d5 => simp; omega
            · intro v' w1 hown' hgrow _
              have HN : Hid _ := And.intro hown' hgrow
              clear hown' hgrow
              go_wp2
              go_roundw
              case rel =>
                refine ⟨j + 2, acc ++ [s[a]], by omega, by omega, by go_num, by simp; omega, ?_, ?_, ?_⟩
                · have := HN.out.1; show World.ownsRow _ _ _ _ _ _ _; simpa using this
                · have h := HB.out.double (r := s.data.toList.drop (j + 2)) (by rw [HD1.out, HD2.out, HM.out, HM2.out])
                  show BetwAt _ _ _ _
                  rw [show j + 2 - (a + 1) = j - (a + 1) + 2 from by omega]; exact h
                · exact (HW.out.alloc hsz _).grown HN.out.2 (by simp; omega) (fun q hq => (HO.out.lt q hq).1)
              case measure => simp [intOf]; omega
          · have t2 : ((s[j + 1].toNat : Int) == (s[a].toNat : Int)) = false := by
              rw [beq_eq_false_iff_ne]; intro e; exact hm2 (UInt8.toNat_inj.1 (by omega))
            have HM2 : Hid _ := hm2
            clear hm2
            obtain ⟨t, hcv, ht⟩ := conv_own HO.out
            have HT : Hid _ := ht
            clear ht
            go_wp2
            go_ret2
            refine ⟨t, _, rfl, ?_, HW.out⟩
            rw [HB.out.last (r := s.data.toList.drop (j + 1)) (by rw [HD1.out, HM.out]) (by rw [HD2.out]; simpa using HM2.out)]
            exact ⟨HT.out, by omega⟩
        · obtain ⟨t, hcv, ht⟩ := conv_own HO.out
          have HT : Hid _ := ht
          clear ht
          go_wp2
          go_ret2
          refine ⟨t, _, rfl, ?_, HW.out⟩
          rw [HB.out.last (r := s.data.toList.drop (j + 1)) (by rw [HD1.out, HM.out]) (by rw [List.drop_eq_nil_of_le (by simp; have : s.data.size = s.size := rfl; omega)]; simp)]
          exact ⟨HT.out, by omega⟩
      · have t1 : ((s[j].toNat : Int) != (s[a].toNat : Int)) = true := by
          rw [bne_iff_ne]; intro e; exact hm (UInt8.toNat_inj.1 (by omega))
        have HM : Hid _ := hm
        clear hm
        go_wp2_with (at_builtin; refine wpList_append_own _ rfl _ _ 177 rfl w.heap.size 5 i0 (.int .u8 0) 1 1 Tryz.underlying177 hi hz0 hz1 hz2 rfl (by decide) _ _ _ rfl (HO.out.alloc _) ⟨wr.heap.size, 0, none⟩ 1 1 [byteV s[j]] rfl rfl ?c1 ?c2 ?c3 ?c4 ?c5 ?_)
        case c1 => exact (cell_one_new _ _ _)
        case c2 => intro u hu; simp at hu; subst hu; rfl
        case c3 => unfold maxLen; omega
        case c4 => omega
        case c5 => simp; omega
        · intro v' w1 hown' hgrow _
          have HN : Hid _ := And.intro hown' hgrow
          clear hown' hgrow
          go_wp2
          go_roundw
          case rel =>
            refine ⟨j + 1, acc ++ [s[j]], by omega, by omega, by go_num, by simp; omega, ?_, ?_, ?_⟩
            · have := HN.out.1; show World.ownsRow _ _ _ _ _ _ _; simpa using this
            · have h := HB.out.other HD1.out HM.out
              show BetwAt _ _ _ _
              rw [show j + 1 - (a + 1) = j - (a + 1) + 1 from by omega]; exact h
            · exact (HW.out.alloc hsz _).grown HN.out.2 (by simp; omega) (fun q hq => (HO.out.lt q hq).1)
          case measure => simp [intOf]; omega
    · go_wp2
      go_ret2
      refine ⟨ByteArray.empty, -1, rfl, ?_, HW.out⟩
      rw [HB.out.none (by rw [HD.out, List.drop_eq_nil_of_le (by simp; have : s.data.size = s.size := rfl; omega)])]
      exact ⟨rfl, rfl⟩
end Go.Proofs.YtcdgihdhpaipaaaGreatDoor

namespace Go.Proofs.YtcdgihdhpaipaaaGreatDoor
open Go.RowKit
set_option linter.unusedSimpArgs false
set_option linter.unusedVariables false

/-- A call of 'one' at a place. -/
def OneSays (s : ByteArray) (a : Nat) (w : World) : Prop :=
  Calls Tryz.prog 31 #[.string s, .int .i64 a] w fun e w' => ∃ (kv : Int) (tv : ByteArray) (pv en ec : Int),
    e = .returned (.tuple #[.agg #[.int .i64 kv, .string tv, .int .i64 pv], .int .i64 en, .int .i64 ec]) ∧ OneV (Lx.oneT (s.data.toList.drop a)) a kv tv pv en ec ∧ Below w.heap.size w w'

set_option maxRecDepth 100000 in
set_option maxHeartbeats 1000000 in
theorem one_letter (s : ByteArray) (a : Nat) (w : World) (hs : s.size ≤ 1000000) (ha : a < s.size) (hl : Lx.isLet s[a] = true) : OneSays s a w := by
  unfold OneSays
  have hm : s.size ≤ maxLen := by unfold maxLen; omega
  have HL : Hid _ := oneT_letter s a ha hl
  have hcn := Lx.cnt_le Lx.isWd (s.data.toList.drop a)
  simp only [List.length_drop, Array.length_toList] at hcn
  have hcn2 : Lx.cnt Lx.isWd (s.data.toList.drop a) ≤ s.size - a := hcn
  clear hcn
  have HR := run_any s a true w hm (by omega)
  generalize hgn : Lx.cnt Lx.isWd (s.data.toList.drop a) = n at *
  have HGN : Hid _ := hgn
  clear hgn HR
  go_enter Tryz.func31, Tryz.ntmps31
  go_wp2_with fail
  refine (letter_any _ _).mono ?_
  rintro e w' ⟨rfl, rfl⟩
  go_wp2_with fail
  refine (digit_any _ _).mono ?_
  rintro e w' ⟨rfl, rfl⟩
  go_wp2_with fail
  refine (run_any s a true _ hm (by omega)).mono ?_
  rintro e w' ⟨rfl, rfl⟩
  simp only [if_true]
  rw [HGN.out]
  go_wp2_with fail
  refine (upper_any _ _ (by simp; omega)).mono ?_
  rintro e w1 ⟨up, rfl, hup, hb1⟩
  have HU : Hid _ := hup
  clear hup
  have A1 : Blk w1 w.heap.size #[.int .i64 0, .string ⟨#[]⟩, .int .i64 0] 44 := ((Blk.new w _ _).alloc _).below hb1 (by simp; omega)
  have B1 : Blk w1 (w.heap.size + 1) #[.int .i64 0, .string ⟨#[]⟩, .int .i64 a] 44 := (by have h := Blk.new (w.alloc (.cells #[.int .i64 0, .string ⟨#[]⟩, .int .i64 0] 44)) #[.int .i64 0, .string ⟨#[]⟩, .int .i64 a] 44; simp only [World.size_alloc] at h; exact h.below hb1 (by simp))
  have hz1 : w.heap.size + 1 < w1.heap.size := B1.lt
  obtain ⟨⟨a10, a11, a12⟩, a13, a14, a15⟩ := A1.three
  obtain ⟨⟨b10, b11, b12⟩, b13, b14, b15⟩ := B1.three
  have hB1 : Hid (Below w.heap.size w w1) := (((Below.refl _ _).alloc (Nat.le_refl _) _).alloc (by simp) _).trans (hb1.mono (by simp; omega))
  clear hb1
  have HK2 : Hid (up.data.toList = ((s.data.toList.drop a).take n).map Lx.upB) := by have h := HU.out; rw [Lib.extract_data] at h; rw [h]; show _ = _; congr 2; omega
  go_wp2_with fail
  refine (keywords_any _).mono ?_
  rintro e w2 ⟨rfl, rfl⟩
  go_wp2_with fail
  refine (In_any up _ 27 Lx.keys _ (by decide) (strRow_cell _ _ _)).mono ?_
  rintro e w3 ⟨rfl, rfl⟩
  cases hk : Lx.hasB Lx.keys up.data.toList
  all_goals
    go_wp2_with fail
    refine (lower_any _ _ (by simp; omega)).mono ?_
    rintro e w4 ⟨lo, rfl, hlo, hb4⟩
    have HLO : Hid (lo.data.toList = ((s.data.toList.drop a).take n).map Lx.lowB) := by rw [Lib.extract_data] at hlo; rw [hlo]; show _ = _; congr 2; omega
    clear hlo
    have A4 := ((A1.far ⟨w.heap.size + 1, 0, none⟩ (.int .i64 18) (by simp)).alloc (.cells (strRow Lx.keys) 9)).below hb4 (by simp; omega)
    have B4 := ((B1.set 0 (.int .i64 18)).alloc (.cells (strRow Lx.keys) 9)).below hb4 (by simp; omega)
    have hB4 : Hid (Below w.heap.size w w4) := ((hB1.out.setCell (by simp) _).alloc (by simp; omega) _).trans (hb4.mono (by simp; omega))
    clear hb4 a10 a11 a12 a13 a14 a15 b10 b11 b12 b13 b14 b15
    have hz4 : w.heap.size + 1 < w4.heap.size := B4.lt
    obtain ⟨⟨a40, a41, a42⟩, a43, a44, a45⟩ := A4.three
    obtain ⟨⟨b40, b41, b42⟩, b43, b44, b45⟩ := Blk.three B4
    go_wp2
  · have D := far1 ⟨A4, hB4.out⟩ 1 (.string lo)
    obtain ⟨F, G⟩ := fin3 D.1 D.2 18 lo a
    obtain ⟨⟨f0, f1, f2⟩, -⟩ := Blk.three F
    refine bodyPost_ret (v := .tuple #[.agg #[.int .i64 18, .string lo, .int .i64 a], .int .i64 (a + n), .int .i64 0]) ?_ rfl ⟨18, lo, a, a + n, 0, rfl, ?_, G⟩
    · simp only [f0, f1, f2, results, Tryz.results31, go_sem]
      simp [f0, f1, f2, go_sem]
    · rw [HL.out, ← HK2.out, hk, ← HLO.out]
      exact ⟨rfl, rfl, rfl, rfl, by omega⟩
  · have D := far1 (far1 (far1 ⟨A4, hB4.out⟩ 1 (.string lo)) 0 (.int .i64 50)) 1 (.string up)
    obtain ⟨F, G⟩ := fin3 D.1 D.2 50 up a
    obtain ⟨⟨f0, f1, f2⟩, -⟩ := Blk.three F
    refine bodyPost_ret (v := .tuple #[.agg #[.int .i64 50, .string up, .int .i64 a], .int .i64 (a + n), .int .i64 0]) ?_ rfl ⟨50, up, a, a + n, 0, rfl, ?_, G⟩
    · simp only [f0, f1, f2, results, Tryz.results31, go_sem]
      simp [f0, f1, f2, go_sem]
    · rw [HL.out, ← HK2.out, hk]
      exact ⟨rfl, rfl, rfl, rfl, by omega⟩

set_option maxRecDepth 100000 in
set_option maxHeartbeats 1000000 in
theorem one_digit (s : ByteArray) (a : Nat) (w : World) (hs : s.size ≤ 1000000) (ha : a < s.size) (hl : Lx.isLet s[a] = false) (hd : Lx.isDig s[a] = true) : OneSays s a w := by
  unfold OneSays
  have hm : s.size ≤ maxLen := by unfold maxLen; omega
  have HL : Hid _ := oneT_digit s a ha hl hd
  have hcn := Lx.cnt_le Lx.isWd (s.data.toList.drop a)
  have hcd := Lx.cnt_le Lx.isDig (s.data.toList.drop a)
  simp only [List.length_drop, Array.length_toList] at hcn hcd
  have hcn2 : Lx.cnt Lx.isWd (s.data.toList.drop a) ≤ s.size - a := hcn
  have hcd2 : Lx.cnt Lx.isDig (s.data.toList.drop a) ≤ s.size - a := hcd
  clear hcn hcd
  generalize hgn : Lx.cnt Lx.isWd (s.data.toList.drop a) = n at *
  generalize hgd : Lx.cnt Lx.isDig (s.data.toList.drop a) = d at *
  have HGN : Hid _ := hgn
  have HGD : Hid _ := hgd
  clear hgn hgd
  go_enter Tryz.func31, Tryz.ntmps31
  go_wp2_with fail
  refine (letter_any _ _).mono ?_
  rintro e w' ⟨rfl, rfl⟩
  go_wp2_with fail
  refine (digit_any _ _).mono ?_
  rintro e w' ⟨rfl, rfl⟩
  go_wp2_with fail
  refine (run_any s a false _ hm (by omega)).mono ?_
  rintro e w' ⟨rfl, rfl⟩
  simp only [Bool.false_eq_true, if_false]
  rw [HGD.out]
  go_wp2_with fail
  refine (run_any s a true _ hm (by omega)).mono ?_
  rintro e w' ⟨rfl, rfl⟩
  simp only [if_true]
  rw [HGN.out]
  by_cases hdn : d < n
  · have hov : Lx.oneT (s.data.toList.drop a) = .error 2 := by rw [HL.out, if_pos hdn]
    have HV : Hid _ := hov
    clear hov
    go_wp2_with fail
    refine bodyPost_ret (v := .tuple #[.agg #[.int .i64 0, .string ⟨#[]⟩, .int .i64 a], .int .i64 a, .int .i64 2]) (by simp [results, Tryz.results31, go_sem]) rfl ⟨_, _, _, _, _, rfl, ?_, ?_⟩
    · rw [HV.out]; exact ⟨rfl, by omega⟩
    · exact ((Below.refl _ _).alloc (Nat.le_refl _) _).alloc (by simp) _
  · go_wp2_with fail
    refine (least_any _ _ (by simp; omega)).mono ?_
    rintro e w' ⟨t, rfl, ht, rfl⟩
    have HT : Hid (t.data.toList = Lx.leastB ((s.data.toList.drop a).take d)) := by rw [Lib.extract_data] at ht; rw [ht]; show _ = _; congr 2; omega
    clear ht
    have HN : Hid (Lx.oneT (s.data.toList.drop a) = if Lx.overTop t.data.toList then .error 3 else .ok (16, t.data.toList, d)) := by rw [HL.out, if_neg hdn, HT.out]; rfl
    have hts : t.size = t.data.toList.length := Lib.size_eq t
    have HTS : Hid _ := hts
    clear hts
    go_wp2
    · refine bodyPost_ret (v := .tuple #[.agg #[.int .i64 16, .string t, .int .i64 a], .int .i64 a, .int .i64 3]) (by simp [results, Tryz.results31, go_sem]) rfl ⟨_, _, _, _, _, rfl, ?_, ?_⟩
      · rw [HN.out, if_pos (over_yes HTS.out (.inr ⟨‹_›, ‹_›⟩))]; exact ⟨rfl, by omega⟩
      · exact ((Below.refl _ _).alloc (Nat.le_refl _) _).alloc (by simp) _
    · refine bodyPost_ret (v := .tuple #[.agg #[.int .i64 16, .string t, .int .i64 a], .int .i64 (a + d), .int .i64 0]) (by simp [results, Tryz.results31, go_sem]) rfl ⟨_, _, _, _, _, rfl, ?_, ?_⟩
      · rw [HN.out, if_neg (over_no HTS.out ‹_› (.inr ‹_›))]; exact ⟨rfl, rfl, rfl, rfl, by omega⟩
      · exact ((Below.refl _ _).alloc (Nat.le_refl _) _).alloc (by simp) _
    · refine bodyPost_ret (v := .tuple #[.agg #[.int .i64 16, .string t, .int .i64 a], .int .i64 (a + d), .int .i64 0]) (by simp [results, Tryz.results31, go_sem]) rfl ⟨_, _, _, _, _, rfl, ?_, ?_⟩
      · rw [HN.out, if_neg (over_no HTS.out ‹_› (.inl ‹_›))]; exact ⟨rfl, rfl, rfl, rfl, by omega⟩
      · exact ((Below.refl _ _).alloc (Nat.le_refl _) _).alloc (by simp) _
    · refine bodyPost_ret (v := .tuple #[.agg #[.int .i64 16, .string t, .int .i64 a], .int .i64 a, .int .i64 3]) (by simp [results, Tryz.results31, go_sem]) rfl ⟨_, _, _, _, _, rfl, ?_, ?_⟩
      · rw [HN.out, if_pos (over_yes HTS.out (.inl ‹_›))]; exact ⟨rfl, by omega⟩
      · exact ((Below.refl _ _).alloc (Nat.le_refl _) _).alloc (by simp) _
end Go.Proofs.YtcdgihdhpaipaaaGreatDoor

namespace Go.Proofs.YtcdgihdhpaipaaaGreatDoor
open Go.RowKit
set_option linter.unusedSimpArgs false
set_option linter.unusedVariables false

set_option maxRecDepth 100000 in
set_option maxHeartbeats 1000000 in
theorem one_quote39 (s : ByteArray) (a : Nat) (w : World) (hs : s.size ≤ 1000000) (ha : a < s.size) (hl : Lx.isLet s[a] = false) (hd : Lx.isDig s[a] = false) (hq : s[a].toNat = 39) : OneSays s a w := by
  unfold OneSays
  have HQ : Hid (∀ t n, _) := quote_bad s a ha hl hd (by omega)
  have HG : Hid (∀ t n, _) := quote_good s a ha hl hd (by omega)
  have q1 : 39 ≤ s[a].toNat := by omega
  have q2 : s[a].toNat ≤ 39 := by omega
  have hq1 : ((s[a].toNat : Int) == 39) = true := by rw [hq]; rfl
  have hq2 : ((s[a].toNat : Int) == 34) = false := by rw [hq]; rfl
  have HQ0 : Hid _ := hq
  clear hq
  go_enter Tryz.func31, Tryz.ntmps31
  go_wp2_with fail
  refine (letter_any _ _).mono ?_
  rintro e w' ⟨rfl, rfl⟩
  go_wp2_with fail
  refine (digit_any _ _).mono ?_
  rintro e w' ⟨rfl, rfl⟩
  go_wp2_with fail
  refine (between_any s a _ hs ha).mono ?_
  rintro e w1 ⟨t, n, rfl, hbt, hb1⟩
  have hts := betwV_size hbt
  simp only [List.length_drop, Array.length_toList] at hts
  have hts2 : t.size ≤ s.size - (a + 1) := hts
  clear hts
  have HBT : Hid _ := hbt
  clear hbt
  have A1 : Blk w1 w.heap.size #[.int .i64 0, .string ⟨#[]⟩, .int .i64 0] 44 := ((Blk.new w _ _).alloc _).below hb1 (by simp; omega)
  have B1 : Blk w1 (w.heap.size + 1) #[.int .i64 0, .string ⟨#[]⟩, .int .i64 a] 44 := (by have h := Blk.new (w.alloc (.cells #[.int .i64 0, .string ⟨#[]⟩, .int .i64 0] 44)) #[.int .i64 0, .string ⟨#[]⟩, .int .i64 a] 44; simp only [World.size_alloc] at h; exact h.below hb1 (by simp))
  have hz1 : w.heap.size + 1 < w1.heap.size := B1.lt
  obtain ⟨⟨a10, a11, a12⟩, a13, a14, a15⟩ := A1.three
  obtain ⟨⟨b10, b11, b12⟩, b13, b14, b15⟩ := B1.three
  have hB1 : Hid (Below w.heap.size w w1) := (((Below.refl _ _).alloc (Nat.le_refl _) _).alloc (by simp) _).trans (hb1.mono (by simp; omega))
  clear hb1
  go_wp2_with fail
  refine (Valid_any t _ (by omega)).mono ?_
  rintro e w' ⟨rfl, rfl⟩
  by_cases h0 : 0 ≤ n
  · cases hv : Lx.validN t.data.toList
    · go_wp2
      obtain ⟨F, G⟩ := fin3 A1 hB1.out 0 ⟨#[]⟩ a
      obtain ⟨⟨f0, f1, f2⟩, -⟩ := Blk.three F
      refine bodyPost_ret (v := .tuple #[.agg #[.int .i64 0, .string ⟨#[]⟩, .int .i64 a], .int .i64 a, .int .i64 2]) ?_ rfl ⟨_, _, _, _, _, rfl, ?_, G⟩
      · simp only [f0, f1, f2, results, Tryz.results31, go_sem]
        simp [f0, f1, f2, go_sem]
      · rw [HQ.out t n HBT.out (.inr (.inl hv))]; exact ⟨rfl, by omega⟩
    · go_wp2
      have D := far1 (far1 ⟨A1, hB1.out⟩ 0 (.int .i64 17)) 1 (.string t)
      obtain ⟨F, G⟩ := fin3 D.1 D.2 17 t a
      obtain ⟨⟨f0, f1, f2⟩, -⟩ := Blk.three F
      refine bodyPost_ret (v := .tuple #[.agg #[.int .i64 17, .string t, .int .i64 a], .int .i64 n, .int .i64 0]) ?_ rfl ⟨_, _, _, _, _, rfl, ?_, G⟩
      · simp only [f0, f1, f2, results, Tryz.results31, go_sem]
        simp [f0, f1, f2, go_sem]
      · have h := HG.out t n HBT.out h0 hv (fun q => by have := HQ0.out; omega)
        rw [h.1, HQ0.out]; exact ⟨rfl, rfl, rfl, rfl, by have := h.2; omega⟩
  · go_wp2
    obtain ⟨F, G⟩ := fin3 A1 hB1.out 0 ⟨#[]⟩ a
    obtain ⟨⟨f0, f1, f2⟩, -⟩ := Blk.three F
    refine bodyPost_ret (v := .tuple #[.agg #[.int .i64 0, .string ⟨#[]⟩, .int .i64 a], .int .i64 a, .int .i64 2]) ?_ rfl ⟨_, _, _, _, _, rfl, ?_, G⟩
    · simp only [f0, f1, f2, results, Tryz.results31, go_sem]
      simp [f0, f1, f2, go_sem]
    · rw [HQ.out t n HBT.out (.inl (by omega))]; exact ⟨rfl, by omega⟩

set_option maxRecDepth 100000 in
set_option maxHeartbeats 1000000 in
theorem one_quote34 (s : ByteArray) (a : Nat) (w : World) (hs : s.size ≤ 1000000) (ha : a < s.size) (hl : Lx.isLet s[a] = false) (hd : Lx.isDig s[a] = false) (hq : s[a].toNat = 34) : OneSays s a w := by
  unfold OneSays
  have HQ : Hid (∀ t n, _) := quote_bad s a ha hl hd (by omega)
  have HG : Hid (∀ t n, _) := quote_good s a ha hl hd (by omega)
  have q1 : 34 ≤ s[a].toNat := by omega
  have q2 : s[a].toNat ≤ 34 := by omega
  have hq1 : ((s[a].toNat : Int) == 39) = false := by rw [hq]; rfl
  have hq2 : ((s[a].toNat : Int) == 34) = true := by rw [hq]; rfl
  have HQ0 : Hid _ := hq
  clear hq
  go_enter Tryz.func31, Tryz.ntmps31
  go_wp2_with fail
  refine (letter_any _ _).mono ?_
  rintro e w' ⟨rfl, rfl⟩
  go_wp2_with fail
  refine (digit_any _ _).mono ?_
  rintro e w' ⟨rfl, rfl⟩
  go_wp2_with fail
  refine (between_any s a _ hs ha).mono ?_
  rintro e w1 ⟨t, n, rfl, hbt, hb1⟩
  have hts := betwV_size hbt
  simp only [List.length_drop, Array.length_toList] at hts
  have hts2 : t.size ≤ s.size - (a + 1) := hts
  clear hts
  have HBT : Hid _ := hbt
  clear hbt
  have A1 : Blk w1 w.heap.size #[.int .i64 0, .string ⟨#[]⟩, .int .i64 0] 44 := ((Blk.new w _ _).alloc _).below hb1 (by simp; omega)
  have B1 : Blk w1 (w.heap.size + 1) #[.int .i64 0, .string ⟨#[]⟩, .int .i64 a] 44 := (by have h := Blk.new (w.alloc (.cells #[.int .i64 0, .string ⟨#[]⟩, .int .i64 0] 44)) #[.int .i64 0, .string ⟨#[]⟩, .int .i64 a] 44; simp only [World.size_alloc] at h; exact h.below hb1 (by simp))
  have hz1 : w.heap.size + 1 < w1.heap.size := B1.lt
  obtain ⟨⟨a10, a11, a12⟩, a13, a14, a15⟩ := A1.three
  obtain ⟨⟨b10, b11, b12⟩, b13, b14, b15⟩ := B1.three
  have hB1 : Hid (Below w.heap.size w w1) := (((Below.refl _ _).alloc (Nat.le_refl _) _).alloc (by simp) _).trans (hb1.mono (by simp; omega))
  clear hb1
  go_wp2_with fail
  refine (Valid_any t _ (by omega)).mono ?_
  rintro e w' ⟨rfl, rfl⟩
  by_cases h0 : 0 ≤ n
  · cases hv : Lx.validN t.data.toList
    · go_wp2
      obtain ⟨F, G⟩ := fin3 A1 hB1.out 0 ⟨#[]⟩ a
      obtain ⟨⟨f0, f1, f2⟩, -⟩ := Blk.three F
      refine bodyPost_ret (v := .tuple #[.agg #[.int .i64 0, .string ⟨#[]⟩, .int .i64 a], .int .i64 a, .int .i64 2]) ?_ rfl ⟨_, _, _, _, _, rfl, ?_, G⟩
      · simp only [f0, f1, f2, results, Tryz.results31, go_sem]
        simp [f0, f1, f2, go_sem]
      · rw [HQ.out t n HBT.out (.inr (.inl hv))]; exact ⟨rfl, by omega⟩
    · go_wp2
      · have q : n < 0 ∨ t.toList.isEmpty = true := by assumption
        obtain ⟨F, G⟩ := fin3 A1 hB1.out 0 ⟨#[]⟩ a
        obtain ⟨⟨f0, f1, f2⟩, -⟩ := Blk.three F
        refine bodyPost_ret (v := .tuple #[.agg #[.int .i64 0, .string ⟨#[]⟩, .int .i64 a], .int .i64 a, .int .i64 2]) ?_ rfl ⟨_, _, _, _, _, rfl, ?_, G⟩
        · simp only [f0, f1, f2, results, Tryz.results31, go_sem]
          simp [f0, f1, f2, go_sem]
        · rw [HQ.out t n HBT.out (q.imp_right fun q => .inr ⟨HQ0.out, by rw [Lib.toList_data] at q; simpa using q⟩)]; exact ⟨rfl, by omega⟩
      · have q : 0 ≤ n ∧ t.toList.isEmpty = false := by assumption
        have D := far1 (far1 (far1 ⟨A1, hB1.out⟩ 0 (.int .i64 17)) 0 (.int .i64 18)) 1 (.string t)
        obtain ⟨F, G⟩ := fin3 D.1 D.2 18 t a
        obtain ⟨⟨f0, f1, f2⟩, -⟩ := Blk.three F
        refine bodyPost_ret (v := .tuple #[.agg #[.int .i64 18, .string t, .int .i64 a], .int .i64 n, .int .i64 0]) ?_ rfl ⟨_, _, _, _, _, rfl, ?_, G⟩
        · simp only [f0, f1, f2, results, Tryz.results31, go_sem]
          simp [f0, f1, f2, go_sem]
        · have h := HG.out t n HBT.out h0 hv (fun x => by have := q.2; rw [Lib.toList_data, x.2] at this; cases this)
          rw [h.1, HQ0.out]; exact ⟨rfl, rfl, rfl, rfl, by have := h.2; omega⟩
  · go_wp2
    obtain ⟨F, G⟩ := fin3 A1 hB1.out 0 ⟨#[]⟩ a
    obtain ⟨⟨f0, f1, f2⟩, -⟩ := Blk.three F
    refine bodyPost_ret (v := .tuple #[.agg #[.int .i64 0, .string ⟨#[]⟩, .int .i64 a], .int .i64 a, .int .i64 2]) ?_ rfl ⟨_, _, _, _, _, rfl, ?_, G⟩
    · simp only [f0, f1, f2, results, Tryz.results31, go_sem]
      simp [f0, f1, f2, go_sem]
    · rw [HQ.out t n HBT.out (.inl (by omega))]; exact ⟨rfl, by omega⟩
end Go.Proofs.YtcdgihdhpaipaaaGreatDoor

namespace Go.Proofs.YtcdgihdhpaipaaaGreatDoor
open Go.RowKit
set_option linter.unusedSimpArgs false
set_option linter.unusedVariables false

set_option maxRecDepth 100000 in
set_option maxHeartbeats 1000000 in
theorem one_sign (s : ByteArray) (a : Nat) (w : World) (hs : s.size ≤ 1000000) (ha : a < s.size) (hl : Lx.isLet s[a] = false) (hd : Lx.isDig s[a] = false) (hq : ¬ (s[a].toNat = 39 ∨ s[a].toNat = 34)) : OneSays s a w := by
  unfold OneSays
  have HS : Hid _ := oneT_sign s a ha hl hd hq
  have hq1 : ((s[a].toNat : Int) == 39) = false := by rw [beq_eq_false_iff_ne]; omega
  have hq2 : ((s[a].toNat : Int) == 34) = false := by rw [beq_eq_false_iff_ne]; omega
  have e2 : Hid ((s.extract a (a + 2)).data.toList = (s.data.toList.drop a).take 2) := by show _ = _; rw [Lib.extract_data]; congr 1; omega
  have e1 : Hid ((s.extract a (a + 1)).data.toList = (s.data.toList.drop a).take 1) := by show _ = _; rw [Lib.extract_data]; congr 1; omega
  clear hq
  by_cases h2 : a + 2 ≤ s.size
  · go_enter Tryz.func31, Tryz.ntmps31
    go_wp2_with fail
    refine (letter_any _ _).mono ?_
    rintro e w' ⟨rfl, rfl⟩
    go_wp2_with fail
    refine (digit_any _ _).mono ?_
    rintro e w' ⟨rfl, rfl⟩
    go_wp2_with fail
    refine (In_any _ _ 4 Lx.twos _ (by decide) (row_cell _ _ _ _ rfl _ (by simp))).mono ?_
    rintro e w' ⟨rfl, rfl⟩
    rw [e2.out]
    cases h3 : Lx.hasB Lx.twos ((s.data.toList.drop a).take 2)
    · go_wp2_with fail
      refine (In_any _ _ 12 Lx.ones _ (by decide) (row_cell _ _ _ _ rfl _ (by simp))).mono ?_
      rintro e w' ⟨rfl, rfl⟩
      rw [e1.out]
      cases h4 : Lx.hasB Lx.ones ((s.data.toList.drop a).take 1)
      · go_wp2_with fail
        refine bodyPost_ret (v := .tuple #[.agg #[.int .i64 51, .string ⟨#[]⟩, .int .i64 a], .int .i64 a, .int .i64 2]) (by simp [results, Tryz.results31, go_sem]) rfl ⟨_, _, _, _, _, rfl, ?_, ?_⟩
        · rw [HS.out, if_neg (by rw [h3]; simp), if_neg (by rw [h4]; simp)]; exact ⟨rfl, by omega⟩
        · exact ((((Below.refl _ _).alloc (Nat.le_refl _) _).alloc (by simp <;> omega) _).alloc (by simp <;> omega) _).alloc (by simp <;> omega) _
      · go_wp2_with fail
        refine bodyPost_ret (v := .tuple #[.agg #[.int .i64 51, .string (s.extract a (a + 1)), .int .i64 a], .int .i64 (a + 1), .int .i64 0]) (by simp [results, Tryz.results31, go_sem]) rfl ⟨_, _, _, _, _, rfl, ?_, ?_⟩
        · rw [HS.out, if_neg (by rw [h3]; simp), if_pos h4]; exact ⟨rfl, rfl, e1.out, rfl, by omega⟩
        · exact ((((Below.refl _ _).alloc (Nat.le_refl _) _).alloc (by simp <;> omega) _).alloc (by simp <;> omega) _).alloc (by simp <;> omega) _
    · go_wp2_with fail
      refine bodyPost_ret (v := .tuple #[.agg #[.int .i64 51, .string (s.extract a (a + 2)), .int .i64 a], .int .i64 (a + 2), .int .i64 0]) (by simp [results, Tryz.results31, go_sem]) rfl ⟨_, _, _, _, _, rfl, ?_, ?_⟩
      · rw [HS.out, if_pos ⟨by omega, h3⟩]; exact ⟨rfl, rfl, e2.out, rfl, by omega⟩
      · exact (((Below.refl _ _).alloc (Nat.le_refl _) _).alloc (by simp <;> omega) _).alloc (by simp <;> omega) _
  · go_enter Tryz.func31, Tryz.ntmps31
    go_wp2_with fail
    refine (letter_any _ _).mono ?_
    rintro e w' ⟨rfl, rfl⟩
    go_wp2_with fail
    refine (digit_any _ _).mono ?_
    rintro e w' ⟨rfl, rfl⟩
    go_wp2_with fail
    refine (In_any _ _ 12 Lx.ones _ (by decide) (row_cell _ _ _ _ rfl _ (by simp))).mono ?_
    rintro e w' ⟨rfl, rfl⟩
    rw [e1.out]
    cases h4 : Lx.hasB Lx.ones ((s.data.toList.drop a).take 1)
    · go_wp2_with fail
      refine bodyPost_ret (v := .tuple #[.agg #[.int .i64 51, .string ⟨#[]⟩, .int .i64 a], .int .i64 a, .int .i64 2]) (by simp [results, Tryz.results31, go_sem]) rfl ⟨_, _, _, _, _, rfl, ?_, ?_⟩
      · rw [HS.out, if_neg (by omega), if_neg (by rw [h4]; simp)]; exact ⟨rfl, by omega⟩
      · exact (((Below.refl _ _).alloc (Nat.le_refl _) _).alloc (by simp <;> omega) _).alloc (by simp <;> omega) _
    · go_wp2_with fail
      refine bodyPost_ret (v := .tuple #[.agg #[.int .i64 51, .string (s.extract a (a + 1)), .int .i64 a], .int .i64 (a + 1), .int .i64 0]) (by simp [results, Tryz.results31, go_sem]) rfl ⟨_, _, _, _, _, rfl, ?_, ?_⟩
      · rw [HS.out, if_neg (by omega), if_pos h4]; exact ⟨rfl, rfl, e1.out, rfl, by omega⟩
      · exact (((Below.refl _ _).alloc (Nat.le_refl _) _).alloc (by simp <;> omega) _).alloc (by simp <;> omega) _

/-- 'one' reads the token that stands at a place. -/
theorem one_any (s : ByteArray) (a : Nat) (w : World) (hs : s.size ≤ 1000000) (ha : a < s.size) : OneSays s a w := by
  cases hl : Lx.isLet s[a]
  · cases hd : Lx.isDig s[a]
    · by_cases h1 : s[a].toNat = 39
      · exact one_quote39 s a w hs ha hl hd h1
      · by_cases h2 : s[a].toNat = 34
        · exact one_quote34 s a w hs ha hl hd h2
        · exact one_sign s a w hs ha hl hd (by omega)
    · exact one_digit s a w hs ha hl hd
  · exact one_letter s a w hs ha hl
end Go.Proofs.YtcdgihdhpaipaaaGreatDoor

namespace Go.Proofs.YtcdgihdhpaipaaaGreatDoor
open Go.RowKit
set_option linter.unusedSimpArgs false
set_option linter.unusedVariables false

theorem skip_at (s : ByteArray) (k n : Nat) (w : World) (hs : s.size ≤ 1000000000) (ha : k + n ≤ s.size) :
    Calls Tryz.prog 30 #[.string s, .int .i64 ((k : Int) + (n : Int))] w fun e w' => e = .returned (.int .i64 (k + n + Lx.skipN (s.data.toList.drop (k + n)) : Nat)) ∧ w' = w :=
  skip_any s (k + n) w hs ha

set_option maxRecDepth 100000 in
set_option maxHeartbeats 1000000 in
theorem rTokens_any (s : ByteArray) (w : World) (hm : s.size ≤ maxLen) :
    Calls Tryz.prog 15 #[.string s] w fun e w' => ∃ (v : Value) (n c : Int), e = .returned (.tuple #[v, .int .i64 n, .int .i64 c]) ∧ TokV (Lx.lex s.data.toList) w.heap.size w' v n c ∧ Below w.heap.size w w' := by
  unfold maxLen at hm
  obtain ⟨i0, hi, hz0, hz1, hz2⟩ := info_parts Tryz.info44
  have hsl : s.data.toList.length = s.size := (Lib.size_eq s).symm
  have HSL : Hid _ := hsl
  clear hsl
  by_cases hlong : 2000 < s.size
  · have HL : Hid (Lx.lex s.data.toList = .error (0, 1)) := by show _ = _; unfold Lx.lex; rw [if_pos (by rw [HSL.out]; exact hlong)]
    go_enter Tryz.func15, Tryz.ntmps15
    go_wp2_with fail
    go_ret3
    refine ⟨_, _, _, rfl, ?_, Below.refl _ _⟩
    rw [HL.out]
    exact ⟨rfl, rfl, rfl⟩
  · have HL : Hid (Lx.lex s.data.toList = Lx.lexM 0 (Lx.skipN s.data.toList) (s.data.toList.drop (Lx.skipN s.data.toList))) := by show _ = _; unfold Lx.lex; rw [if_neg (by rw [HSL.out]; exact hlong)]
    have hsk := Lx.skipN_le s.data.toList
    rw [HSL.out] at hsk
    go_enter Tryz.func15, Tryz.ntmps15
    go_wp2_with fail
    refine (skip_any s 0 _ (by omega) (by omega)).mono ?_
    rintro e w' ⟨rfl, rfl⟩
    rw [List.drop_zero, Nat.zero_add]
    go_wp2_with fail
    go_loopw [5, 6] (fun v i wr => ∃ (k : Nat) (ts : List Lx.Tok), k ≤ s.size ∧ i = .int .i64 (k : Int) ∧ ts.length ≤ 2000 ∧ Hid (wr.ownsRow w'.heap.size 44 3 v ts.length (toksV ts)) ∧ Hid (LexAt s.data.toList k ts) ∧ Hid (Below w'.heap.size w' wr))
      (fun _ i _ => s.size - (intOf i).toNat)
    case atStart => exact ⟨_, [], hsk, rfl, by simp, World.ownsRow_nil _ _ _ _, LexAt.start _, Below.refl _ _⟩
    case round =>
      obtain ⟨k, ts, hk, rfl, hts, HO, HB, HW⟩ := hrel
      by_cases hlt : k < s.size
      · go_wp2_with fail
        have h1 := one_any s k wr (by omega) hlt
        unfold OneSays at h1
        refine h1.mono ?_
        clear h1
        rintro e w1 ⟨kv, tv, pv, en, ec, rfl, hov, hb1⟩
        have HW1 : Hid (Below w'.heap.size w' w1) := HW.out.trans (hb1.mono HW.out.size)
        have HO1 : Hid (w1.ownsRow w'.heap.size 44 3 u5 ts.length (toksV ts)) := owns_below HO.out hb1
        clear hb1
        rcases hone : Lx.oneT (s.data.toList.drop k) with c | ⟨c, t, n⟩
        · rw [hone] at hov
          obtain ⟨rfl, hc0⟩ := hov
          have hc1 : ((c : Int) != 0) = true := by rw [bne_iff_ne]; omega
          have HE : Hid _ := HB.out.fail (by rw [HSL.out]; exact hlt) hone
          clear hone
          go_wp2_with fail
          go_ret3
          refine ⟨_, _, _, rfl, ?_, HW1.out.alloc (HW1.out.size) _⟩
          rw [HL.out, HE.out]
          exact ⟨rfl, rfl, rfl⟩
        · rw [hone] at hov
          obtain ⟨rfl, rfl, ht, rfl, rfl⟩ := hov
          have hlen := Lx.oneT_len hone
          simp only [List.length_drop] at hlen
          rw [HSL.out] at hlen
          have HS := hd (HB.out.step (by rw [HSL.out]; exact hlt) hone)
          have HT : Hid (tv = ⟨t.toArray⟩) := by rw [← ht]; exact (Lib.mk_data tv).symm
          have hsk2 := Lx.skipN_le (s.data.toList.drop (k + n))
          simp only [List.length_drop] at hsk2
          rw [HSL.out] at hsk2
          have hzw := HW1.out.size
          have HTS : Hid (ts.length ≤ k) := HB.out.1
          clear hone ht
          go_wp2_with (first
            | (at_builtin; refine wpList_append_own _ rfl _ _ 42 rfl w'.heap.size 44 i0 (.agg #[.int .i64 0, .string ⟨#[]⟩, .int .i64 0]) 3 32 Tryz.underlying42 hi hz0 hz1 hz2 rfl (by decide) _ _ _ rfl ((HO1.out.alloc _).alloc _) ⟨w1.heap.size + 1, 0, none⟩ 1 1 [.int .i64 (c : Int), .string tv, .int .i64 (k : Int)] rfl rfl ?c1 ?c2 ?c3 ?c4 ?c5 ?_)
            | fail)
          case c1 => exact three_news (w1.alloc _) _ _ _ _ _ (by simp)
          case c2 => intro u hu; simp at hu; rcases hu with rfl | rfl | rfl <;> rfl
          case c3 => have := HTS.out; unfold maxLen; omega
          case c4 => have := HTS.out; omega
          case c5 => simp; omega
          intro v' w2 hown' hgrow _
          have HO2 : Hid (w2.ownsRow w'.heap.size 44 3 v' (ts ++ [Lx.Tok.mk c t k]).length (toksV (ts ++ [Lx.Tok.mk c t k]))) := by
            rw [List.length_append, List.length_singleton, toksV_append, toksV_one]
            show World.ownsRow _ _ _ _ _ _ _
            unfold tokV
            rw [← HT.out]; exact hown'
          have HW2 : Hid (Below w'.heap.size w' w2) := ((HW1.out.alloc hzw _).alloc (by simp; omega) _).grown hgrow (by simp; omega) (fun q hq => (HO1.out.lt q hq).1)
          clear hown' hgrow
          go_wp2_with fail
          refine (skip_at s k n _ (by omega) (by omega)).mono ?_
          rintro e w3 ⟨rfl, rfl⟩
          go_wp2_with fail
          go_roundw
          case rel => exact ⟨_, ts ++ [Lx.Tok.mk c t k], by omega, rfl, by have := HTS.out; simp; omega, HO2, HS, HW2⟩
          case measure => simp [intOf]; omega
      · go_wp2_with fail
        go_ret3
        refine ⟨_, _, _, rfl, ?_, HW.out⟩
        rw [HL.out, HB.out.done (by rw [HSL.out]; omega)]
        exact ⟨HO.out, rfl, rfl⟩
end Go.Proofs.YtcdgihdhpaipaaaGreatDoor

