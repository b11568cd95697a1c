/- Parts of the proof: Mp Mq Mo Mr Ms Mt Mu Mv Mw Mx -/
import Derived.Test.YtkcakbgcfnhgaaaGreatDoorZ14
import Derived.Test.YtkcakbgcfnhgaaaGreatDoorZ5
import Derived.Test.YtkcakbgcfnhgaaaGreatDoorZ8
import Derived.Laws.OwnMore
import Derived.Test.YtkcakbgcfnhgaaaGreatDoorZ2
import Derived.Deep.AppendLies
namespace Go.Proofs.YtkcakbgcfnhgaaaGreatDoor
set_option linter.unusedSimpArgs false
set_option linter.unusedVariables false
set_option maxRecDepth 100000
set_option maxHeartbeats 16000000
open Go.RowKit
section
namespace Px
open Lx (Bs)
structure EOk (d s : Nat) (e : E) : Prop where
 ok : e.ok 2000
 good : e.good
 dep : e.depth ≤ d
 size : e.size ≤ s
theorem deepest_le {n : Nat} : ∀ l : List E, (∀ e ∈ l, e.depth ≤ n) → deepest l ≤ n
 | [], _ => Nat.zero_le _
 | e :: l, h => by
  have h1 := h e (by simp)
  have h2 := deepest_le l (fun x hx => h x (by simp [hx]))
  simp only [deepest]
  omega
structure Sok (s : St) : Prop where
 fit : s.Fit
 good : ∀ e ∈ s.exprs, e.good
 deep : deepest s.exprs ≤ 40
 few : s.nodes.length ≤ 80000
abbrev EK (e : E) : Prop := EOk 40 127 e
theorem flat_le2 {α : Type} (f : α → List Nd) (n : Nat) : ∀ l : List α, (∀ a ∈ l, (f a).length ≤ n) → (l.flatMap f).length ≤ l.length * n
 | [], _ => by simp
 | a :: l, h => by
  have h1 := h a (by simp)
  have h2 := flat_le2 f n l (fun x hx => h x (by simp [hx]))
  simp only [List.flatMap_cons, List.length_append, List.length_cons, Nat.add_mul]
  omega
theorem EOk.len {d s : Nat} {e : E} (h : EOk d s e) : e.nodes.length ≤ s := by rw [E.nodes_length]; exact h.size
def WK (o : Option E) : Prop := ∀ e ∈ o.toList, EK e
theorem WK.len {o : Option E} (h : WK o) : (whereN o).length ≤ 128 := by
 cases o with
 | none => simp [whereN]
 | some e => have := (h e (by simp)).len; simp only [whereN, over1, List.length_cons]; omega
theorem ok_of {s : St} (hf : (∀ e ∈ s.exprs, e.ok 2000) → s.Fit) (he : ∀ e ∈ s.exprs, EK e) (hn : s.nodes.length ≤ 80000) : Sok s :=
 ⟨hf fun e h => (he e h).ok, fun e h => (he e h).good, deepest_le _ fun e h => (he e h).dep, hn⟩
theorem create_ok {t : Bs} {c : List (Bs × Nat)} (ht : isName t = true) (h1 : 1 ≤ c.length) (h2 : c.length ≤ 6) (h : ∀ x ∈ c, isName x.1 = true ∧ 1 ≤ x.2 ∧ x.2 ≤ 7 ∧ x.2 ≠ 4) : Sok (.create t c) :=
 ok_of (s := .create t c) (fun h' => ⟨h', ⟨ht, h1, h2, h⟩⟩) (fun e h => by cases h) (by simp [St.nodes]; omega)
theorem drop_ok {t : Bs} (ht : isName t = true) : Sok (.drop t) := ok_of (s := .drop t) (fun h' => ⟨h', ht⟩) (fun e h => by cases h) (by simp [St.nodes])
theorem delete_ok {t : Bs} {o : Option E} (ht : isName t = true) (h : WK o) : Sok (.delete t o) :=
 ok_of (s := .delete t o) (fun h' => ⟨h', ht⟩) (fun e he => h e he) (by have := h.len; simp only [St.nodes, List.length_cons]; omega)
theorem insert_ok {t : Bs} {r : List (List E)} (ht : isName t = true) (h0 : r ≠ []) (hl : r.length ≤ 2) (h : ∀ x ∈ r, x ≠ [] ∧ x.length ≤ 3 ∧ ∀ e ∈ x, EK e) : Sok (.insert t r) := by
 refine ok_of (s := .insert t r) (fun h' => ⟨h', ⟨ht, h0, fun x hx => (h x hx).1⟩⟩) (fun e he => ?_) ?_
 · obtain ⟨x, hx, hex⟩ := List.mem_flatten.1 he
   exact (h x hx).2.2 e hex
 have := flat_le2 rowN 400 r (fun a ha => by
  have h1 := flat_le2 E.nodes 127 a (fun e he => ((h a ha).2.2 e he).len)
  have h2 := (h a ha).2.1
  have h3 : a.length * 127 ≤ 3 * 127 := Nat.mul_le_mul_right _ h2
  simp only [rowN, List.length_cons]; omega)
 have h3 : r.length * 400 ≤ 2 * 400 := Nat.mul_le_mul_right _ hl
 simp only [St.nodes, List.length_cons]; omega
theorem update_ok {t : Bs} {s : List (Bs × E)} {o : Option E} (ht : isName t = true) (h0 : s ≠ []) (hl : s.length ≤ 2) (h : ∀ x ∈ s, isName x.1 = true ∧ EK x.2) (ho : WK o) : Sok (.update t s o) := by
 refine ok_of (s := .update t s o) (fun h' => ⟨h', ⟨ht, h0, fun x hx => (h x hx).1⟩⟩) (fun e he => ?_) ?_
 · simp only [St.exprs, List.mem_append, List.mem_map] at he
   rcases he with ⟨x, hx, rfl⟩ | he
   · exact (h x hx).2
   exact ho e he
 have := flat_le2 setN 128 s (fun a ha => by have := (h a ha).2.len; simp only [setN, List.length_cons]; omega)
 have h3 : s.length * 128 ≤ 2 * 128 := Nat.mul_le_mul_right _ hl
 have := ho.len
 simp only [St.nodes, List.length_cons, List.length_append]; omega
theorem select_ok {t : Bs} {i : List (Option E)} {o : Option E} {r : List (E × Bool)} {l : Option Nat} (ht : isName t = true) (h0 : i ≠ []) (hl : i.length ≤ 3) (h : ∀ x ∈ i, WK x) (ho : WK o) (hr : r.length ≤ 2) (hrr : ∀ x ∈ r, EK x.1) (hlm : ∀ n, l = some n → n ≤ 1000000000) : Sok (.select i t o r l) := by
 refine ok_of (s := .select i t o r l) (fun h' => ⟨h', ⟨ht, h0, hlm⟩⟩) (fun e he => ?_) ?_
 · simp only [St.exprs, List.mem_append, List.mem_map, List.mem_filterMap, id] at he
   rcases he with (⟨x, hx, rfl⟩ | he) | ⟨x, hx, rfl⟩
   · exact h _ hx e (by simp)
   · exact ho e he
   exact hrr x hx
 have := flat_le2 itemN 127 i (fun a ha => by
  cases a with
  | none => simp [itemN]
  | some e => have := (h _ ha e (by simp)).len; simp only [itemN]; omega)
 have h3 : i.length * 127 ≤ 3 * 127 := Nat.mul_le_mul_right _ hl
 have := flat_le2 orderN 128 r (fun a ha => by have := (hrr a ha).len; simp only [orderN, List.length_cons]; omega)
 have h4 : r.length * 128 ≤ 2 * 128 := Nat.mul_le_mul_right _ hr
 have := ho.len
 have : (limN l).length ≤ 1 := by cases l <;> simp [limN]
 simp only [St.nodes, List.length_cons, List.length_append]; omega
theorem EOk.up {d s d' s' : Nat} {e : E} (h : EOk d s e) (h1 : d ≤ d') (h2 : s ≤ s') : EOk d' s' e := ⟨h.ok, h.good, Nat.le_trans h.dep h1, Nat.le_trans h.size h2⟩
theorem EOk.un {d s k : Nat} {e : E} (h : EOk d s e) (h1 : 19 ≤ k) (h2 : k ≤ 22) (h3 : k = 19 → e.isNum = false) : EOk (d + 1) (s + 1) (.un k e) :=
 ⟨⟨h1, h2, h3, h.ok⟩, h.good, by have := h.dep; simp only [E.depth]; omega, by have := h.size; simp only [E.size]; omega⟩
theorem EOk.bin {d s k : Nat} {a b : E} (h : EOk d s a) (h' : EOk d s b) (h1 : 23 ≤ k) (h2 : k ≤ 36) : EOk (d + 1) (s + s + 1) (.bin k a b) :=
 ⟨⟨h1, h2, h.ok, h'.ok⟩, ⟨h.good, h'.good⟩, by have := h.dep; have := h'.dep; simp only [E.depth]; omega, by have := h.size; have := h'.size; simp only [E.size]; omega⟩
theorem kind_num (e : E) (h : e.ok 2000) : ∃ x r, e.nodes = x :: r ∧ (x.kind = 16 ↔ e.isNum = true) := by
 cases e with
 | un k e => exact ⟨_, _, rfl, by have := h.1; have := h.2.1; simp [E.isNum]; omega⟩
 | bin k a b => exact ⟨_, _, rfl, by have := h.1; have := h.2.1; simp [E.isNum]; omega⟩
 | _ => exact ⟨_, _, rfl, by simp [E.isNum]⟩
end Px
end
section
theorem valid_app : ∀ (n : Nat) (l x : Lx.Bs), l.length ≤ n → Lx.validN l = true → Lx.validN x = true → Lx.validN (l ++ x) = true
 | _, [], x, _, _, hx => by simpa using hx
 | 0, b :: r, x, hn, _, _ => by simp at hn
 | n + 1, b :: r, x, hn, hl, hx => by
  rw [Lx.validN_cons] at hl
  split at hl
  · cases hl
  rename_i h
  have h0 : Lx.charN (b :: r) ≠ 0 := fun e => h (.inl e)
  have ih := valid_app n ((b :: r).drop (Lx.charN (b :: r))) x (by simp only [List.length_drop, List.length_cons] at hn ⊢; omega) hl hx
  have e := valid_char (b :: r) ((b :: r).drop (Lx.charN (b :: r)) ++ x) h0 (fun b' r' e => by cases e; exact fun e => h (.inr e))
  rw [← laa, List.take_append_drop] at e
  rw [e]
  exact ih
namespace Mk
structure Pln (w : World) (b : Nat) (ao : Option Addr) (n : Nat) (bo : Option Addr) (m : Nat) : Prop where
 few : n ≤ maxLen
 few2 : m ≤ maxLen
 nums : ∀ k, k < n → ∃ g off z, ao = some ⟨g, off, none⟩ ∧ g < b ∧ w.cell? ⟨g, off + k, none⟩ = some (.int .i64 z) ∧ -9223372036854775808 ≤ z ∧ z ≤ 9223372036854775807
 txts : ∀ k, k < m → ∃ g off s, bo = some ⟨g, off, none⟩ ∧ g < b ∧ w.cell? ⟨g, off + k, none⟩ = some (.string s) ∧ s.size ≤ maxLen
theorem cell_lt {w : World} {g off : Nat} {v : Value} (h : w.cell? ⟨g, off, none⟩ = some v) : g < w.heap.size := by
 rcases Nat.lt_or_ge g w.heap.size with h1 | h1
 · exact h1
 simp [World.cell?, Array.getElem?_eq_none h1] at h
theorem kept_cell {w w' : World} {b g off : Nat} {v : Value} (h : Kp w w' b) (hg : g < b) (hc : w.cell? ⟨g, off, none⟩ = some v) : w'.cell? ⟨g, off, none⟩ = some v := by
 have hlt : g < w.heap.size := cell_lt hc
 have e : w'.heap[g]? = w.heap[g]? := by
  rw [Array.getElem?_eq_getElem hlt]
  exact h.block g _ (Array.getElem?_eq_getElem hlt) (.inl hg)
 rw [← hc]
 simp only [World.cell?, e]
theorem Pln.keep {w w' : World} {b n m : Nat} {ao bo : Option Addr} (h : Pln w b ao n bo m) (k : Kp w w' b) : Pln w' b ao n bo m := by
 refine ⟨h.few, h.few2, fun i hi => ?_, fun i hi => ?_⟩
 · obtain ⟨g, off, z, h1, h2, h3, h4⟩ := h.nums i hi
   exact ⟨g, off, z, h1, h2, kept_cell k h2 h3, h4⟩
 obtain ⟨g, off, z, h1, h2, h3, h4⟩ := h.txts i hi
 exact ⟨g, off, z, h1, h2, kept_cell k h2 h3, h4⟩
structure At (w : World) (b : Nat) (ao : Option Addr) (n c : Nat) (bo : Option Addr) (m d : Nat) (l : List Px.Nd) : Prop where
 pln : Pln w b ao n bo m
 rows : ∃ (i j : Nat) (lv : Value), i ≤ n ∧ j ≤ m ∧ Blk w b #[.slice ao n c, .slice bo m d, .int .i64 (i : Int), .int .i64 (j : Int), lv] 50 ∧ w.ownsRow (b + 1) 43 4 lv l.length (ndsV l)
section
variable {w w' : World} {b n c m d : Nat} {ao bo : Option Addr} {l : List Px.Nd}
theorem At.below (h : At w b ao n c bo m d l) (hb : Below w.heap.size w w') : At w' b ao n c bo m d l := by
 obtain ⟨i, j, lv, h1, h2, h3, h4⟩ := h.rows
 exact ⟨h.pln.keep (Kp.below hb), i, j, lv, h1, h2, h3.below hb h3.lt, obw h4 hb⟩
theorem At.alloc (h : At w b ao n c bo m d l) (o : Obj) : At (w.alloc o) b ao n c bo m d l := h.below ((Below.refl _ _).alloc (nlr _) o)
theorem At.drew (h : At w b ao n c bo m d l) : At w.drew b ao n c bo m d l := h.below ((Below.refl _ _).drew)
theorem At.lt (h : At w b ao n c bo m d l) : b < w.heap.size := by
 obtain ⟨i, j, lv, h1, h2, h3, h4⟩ := h.rows
 exact h3.lt
end
theorem kp_set (w : World) (b i : Nat) (u : Value) : Kp w (w.setCell ⟨b, i, none⟩ u) b :=
 ⟨rfl, rfl, rfl, by simp [World.setCell], fun k o hk hc => by
  have hkb : k ≠ b := by
   rcases hc with h | h
   · omega
   exact h.1
  rw [Below.heap_setCell _ _ _ _ (by show k ≠ b; exact hkb)]
  exact hk⟩
theorem kp_stored {w : World} {b g i n cap : Nat} {xs : List Value} (h : w.ownsRow (b + 1) 43 4 (.slice (some ⟨g, 0, none⟩) n cap) n xs) (u : Value) : Kp w (w.setCell ⟨g, i, none⟩ u) b :=
 ⟨rfl, rfl, rfl, by simp [World.setCell], fun k o hk hc => by
  have hkb : k ≠ g := by
   rintro rfl
   have := (h.lt k rfl).1
   obtain ⟨cur, hcur⟩ := own_type h k rfl
   rcases hc with hc | hc
   · omega
   rw [hk] at hcur
   simp only [Option.some.injEq] at hcur
   exact hc.2 _ _ hcur
  rw [Below.heap_setCell _ _ _ _ (by show k ≠ g; exact hkb)]
  exact hk⟩
def Out (w : World) (b : Nat) (ao : Option Addr) (n c : Nat) (bo : Option Addr) (m d : Nat) (l : List Px.Nd) (w' : World) : Prop := At w' b ao n c bo m d l ∧ Kp w w' b
end Mk
end
namespace Mk
theorem wrap_in {z : Int} (h1 : -9223372036854775808 ≤ z) (h2 : z ≤ 9223372036854775807) : IntKind.i64.wrap z = z := by
 unfold IntKind.wrap
 simp only [IntKind.bits, IntKind.signed]
 simp
 omega
theorem kPick_any (z : Int) (k : Nat) (w : World) (h1 : -9223372036854775808 ≤ z) (h2 : z ≤ 9223372036854775807) (hk : 1 ≤ k) (hk2 : k ≤ 2000000000) :
   Calls Tryz.prog 39 #[.int .i64 z, .int .i64 k] w fun x w' => ∃ r : Nat, r < k ∧ x = .returned (.int .i64 r) ∧ w' = w := by
 have key : ∀ c : Int, 0 ≤ c → ∃ r : Nat, r < k ∧ Int.tmod c k = (r : Int) := by
  intro c hc
  obtain ⟨n, rfl⟩ := Int.eq_ofNat_of_zero_le hc
  exact ⟨n % k, Nat.mod_lt _ (by omega), by rw [Int.ofNat_tmod]⟩
 have hk0 : ¬ ((k : Int) = 0) := by omega
 by_cases hz : z < 0
 · have e1 : IntKind.i64.wrap (z + 1) = z + 1 := wrap_in (by omega) (by omega)
   have e2 : IntKind.i64.wrap (-(z + 1)) = -(z + 1) := wrap_in (by omega) (by omega)
   obtain ⟨r, hr, he⟩ := key (-(z + 1)) (by omega)
   have e3 : IntKind.i64.wrap (r : Int) = r := wrap_in (by omega) (by omega)
   go_enter Tryz.func39, Tryz.ntmps39
   go_wp2
   go_ret
   exact ⟨r, hr, by simp_all, rfl⟩
 obtain ⟨r, hr, he⟩ := key z (by omega)
 have e3 : IntKind.i64.wrap (r : Int) = r := wrap_in (by omega) (by omega)
 go_enter Tryz.func39, Tryz.ntmps39
 go_wp2
 go_ret
 exact ⟨r, hr, by simp_all, rfl⟩
end Mk
section
namespace Mk
variable {w : World} {b n c m d : Nat} {ao bo : Option Addr} {l : List Px.Nd}
theorem Blk.five {w : World} {b : Nat} {x y z u v : Value} {t : TypeId} (h : Blk w b #[x, y, z, u, v] t) :
   (w.cell? ⟨b, 0, none⟩ = some x ∧ w.cell? ⟨b, 1, none⟩ = some y ∧ w.cell? ⟨b, 2, none⟩ = some z ∧ w.cell? ⟨b, 3, none⟩ = some u ∧ w.cell? ⟨b, 4, none⟩ = some v) ∧ w.frozen? ⟨b, 2, none⟩ = false ∧ w.frozen? ⟨b, 3, none⟩ = false ∧ w.frozen? ⟨b, 4, none⟩ = false :=
 ⟨⟨h.cell 0, h.cell 1, h.cell 2, h.cell 3, h.cell 4⟩, h.free 2, h.free 3, h.free 4⟩
theorem pos_wrap (i : Nat) (h : i + 1 ≤ maxLen) : IntKind.i64.wrap ((i : Int) + 1) = (i : Int) + 1 := by
 unfold maxLen at h
 exact wrap_in (z := (i : Int) + 1) (by omega) (by omega)
theorem back_wrap (i : Nat) (K : Int) (hK : (i : Int) + 1 = K) (h : i ≤ maxLen) : IntKind.i64.wrap (K - 1) = (i : Int) := by
 unfold maxLen at h
 rw [wrap_in (z := K - 1) (by omega) (by omega)]
 omega
theorem kp_drew {w w1 : World} {b : Nat} (h : Kp w w1 b) : Kp w w1.drew b := h.trans (Kp.below ((Below.refl _ _).drew))
theorem mNumber_any (h : At w b ao n c bo m d l) :
   Calls Tryz.prog 38 #[.pointer (some ⟨b, 0, none⟩)] w fun x w' => ∃ z : Int, x = .returned (.int .i64 z) ∧ (-9223372036854775808 ≤ z ∧ z ≤ 9223372036854775807) ∧ Out w b ao n c bo m d l w' := by
 have HX := hd h
 obtain ⟨i, j, lv, hi, hj, hblk, hown⟩ := h.rows
 have hlt := hblk.lt
 obtain ⟨⟨c0, c1, c2, c3, c4⟩, f2, f3, f4⟩ := Blk.five hblk
 have HB := hd hblk
 have HO := hd hown
 have hfew := h.pln.few
 clear hblk hown
 by_cases hin : i < n
 · obtain ⟨g, off, z, rfl, hg, hz, hz1, hz2⟩ := h.pln.nums i hin
   have hgn : g ≠ b := by omega
   have z1 : (0 : Int) ≤ (i : Int) := by omega
   have hw1 := pos_wrap i (by omega)
   obtain ⟨K, hK⟩ : ∃ K : Int, (i : Int) + 1 = K := ⟨_, rfl⟩
   have hw2 := back_wrap i K hK (by omega)
   rw [hK] at hw1
   have q0 : (w.setCell ⟨b, 2, none⟩ (.int .i64 K)).cell? ⟨b, 0, none⟩ = some (.slice (some ⟨g, off, none⟩) n c) := by
    rw [World.cell?_setCell_other _ _ _ _ (by simp)]; exact c0
   have q2 : (w.setCell ⟨b, 2, none⟩ (.int .i64 K)).cell? ⟨b, 2, none⟩ = some (.int .i64 K) := World.cell?_setCell_same _ _ _ c2
   have qz : (w.setCell ⟨b, 2, none⟩ (.int .i64 K)).cell? ⟨g, off + i, none⟩ = some (.int .i64 z) := by
    rw [World.cell?_setCell_other _ _ _ _ (by intro e; simp only [Addr.mk.injEq] at e; omega)]; exact hz
   clear h
   go_enter Tryz.func38, Tryz.ntmps38
   go_wp2_with fail
   go_region
   all_goals
    go_wp2_with fail
    go_region
   all_goals
    go_wp2_with fail
    go_ret
    refine ⟨z, by first | rfl | simp, ⟨hz1, hz2⟩, ?_⟩
    have hA : At (w.setCell ⟨b, 2, none⟩ (.int .i64 K)) b (some ⟨g, off, none⟩) n c bo m d l :=
     ⟨HX.out.pln.keep (kp_set w b 2 (.int .i64 K)), i + 1, j, lv, by omega, hj, (by have := HB.out.set 2 (.int .i64 K); rw [← hK] at this ⊢; simpa using this), ownsRow_setCell_below HO.out (by show b < b + 1; omega) _⟩
    exact ⟨hA.drew.drew, (kp_drew (kp_set w b 2 _)).trans (Kp.below ((Below.refl _ _).drew))⟩
 clear h
 go_enter Tryz.func38, Tryz.ntmps38
 go_wp2_with fail
 go_region
 all_goals
  go_wp2_with fail
  go_ret
  exact ⟨0, rfl, ⟨by omega, by omega⟩, HX.out.drew, Kp.below ((Below.refl _ _).drew)⟩
end Mk
end
section
namespace Mk
variable {w : World} {b n c m d : Nat} {ao bo : Option Addr} {l : List Px.Nd}
theorem mOne_any (h : At w b ao n c bo m d l) (K : Int) (h1 : 1 ≤ K) (h2 : K ≤ 2000000000) :
   Calls Tryz.prog 18 #[.pointer (some ⟨b, 0, none⟩), .int .i64 K] w fun x w' => ∃ r : Nat, (r : Int) < K ∧ x = .returned (.int .i64 r) ∧ Out w b ao n c bo m d l w' := by
 have HX := hd h
 obtain ⟨k, rfl⟩ := Int.eq_ofNat_of_zero_le (show 0 ≤ K by omega)
 clear h
 go_enter Tryz.func18, Tryz.ntmps18
 go_wp2_with fail
 refine (mNumber_any HX.out).mono ?_
 rintro x w1 ⟨z, rfl, ⟨z1, z2⟩, ho⟩
 have HO := hd ho
 clear ho
 go_wp2_with fail
 refine (kPick_any z k w1 z1 z2 (by omega) (by omega)).mono ?_
 rintro x w2 ⟨r, hr, rfl, rfl⟩
 go_wp2_with fail
 go_ret
 exact ⟨r, by omega, rfl, HO.out⟩
theorem blk_row {w w' : World} {N : Nat} {a : Array Value} {T : TypeId} {row : Option Nat} (h : Blk w N a T) (hg : w.grownBy w' row) (hr : ∀ o, row = some o → N ≠ o) : Blk w' N a T := by
 have hl := h.lt
 unfold Blk at *
 rw [hg.block N hl (fun e => hr N e.symm rfl)]
 exact h
theorem kp_grown {W w7 : World} {b n : Nat} {v : Value} {xs : List Value} (ho : W.ownsRow (b + 1) 43 4 v n xs) (hg : W.grownBy w7 v.ownBlock) : Kp W w7 b :=
 ⟨hg.os, hg.tape, hg.output, hg.size, fun k o hk hc => by
  rw [hg.block k (Array.getElem?_eq_some_iff.1 hk).1 (by
   intro e
   obtain ⟨cur, hcur⟩ := own_type ho k e.symm
   have := (ho.lt k e.symm).1
   rcases hc with h | h
   · omega
   rw [hk] at hcur
   simp only [Option.some.injEq] at hcur
   exact h.2 _ _ hcur)]
  exact hk⟩
theorem mAdd_any (h : At w b ao n c bo m d l) (hl : l.length ≤ 100000) (kd : Int) (tx : ByteArray) (nu ks : Int) :
   Calls Tryz.prog 20 #[.pointer (some ⟨b, 0, none⟩), .agg #[.int .i64 kd, .string tx, .int .i64 nu, .int .i64 ks]] w fun x w' => x = .returned (.tuple #[]) ∧ Out w b ao n c bo m d (l ++ [⟨kd, tx.data.toList, nu, ks⟩]) w' := by
 obtain ⟨i0, hi, hz0, hz1, hz2⟩ := info_parts Tryz.info43
 have HX := hd h
 obtain ⟨W, hW⟩ : ∃ W, W = w.alloc (.cells #[.int .i64 kd, .string tx, .int .i64 nu, .int .i64 ks] 43) := ⟨_, rfl⟩
 have HXW : Hid (At W b ao n c bo m d l) := by rw [hW]; exact h.alloc _
 have HKW : Hid (Kp w W b) := by rw [hW]; exact Kp.below (by go_grown)
 have hsz : W.heap.size = w.heap.size + 1 := by rw [hW]; simp
 have hbx : Blk W w.heap.size #[.int .i64 kd, .string tx, .int .i64 nu, .int .i64 ks] 43 := by rw [hW]; exact Blk.new _ _ _
 have hlt := h.lt
 clear h
 obtain ⟨i, j, lv, hi', hj, hblk, hown⟩ := HXW.out.rows
 obtain ⟨ao', n', cp', rfl⟩ := osl hown
 have c4 : W.cell? ⟨b, 4, none⟩ = some (.slice ao' n' cp') := hblk.cell 4
 have f4 := hblk.free 4
 have hbW := hblk.lt
 have x0 := hbx.cell 0
 have x1 := hbx.cell 1
 have x2 := hbx.cell 2
 have x3 := hbx.cell 3
 simp at x0 x1 x2 x3
 have HB := hd hblk
 have HO := hd hown
 clear hblk hown hbx
 go_enter Tryz.func20, Tryz.ntmps20
 go_wp2_with fail
 rw [← hW]
 have HS := hd hsz
 clear hW hsz
 go_region_law (first
  | (refine step_append_lies _ rfl _ _ 22 rfl (b + 1) 43 i0 (.agg #[.int .i64 0, .string ⟨#[]⟩, .int .i64 0, .int .i64 0]) 4 40 Tryz.underlying22 hi hz0 hz1 hz2 rfl (by decide) _ l.length _ rfl (HO.out.drew.alloc _) ⟨W.heap.size, 0, none⟩ 1 1 [.int .i64 kd, .string tx, .int .i64 nu, .int .i64 ks] rfl rfl (node_news W.drew (.int .i64 kd) (.string tx) (.int .i64 nu) (.int .i64 ks) 43) (by intro u hu; simp at hu; rcases hu with rfl | rfl | rfl | rfl <;> rfl) (by omega) (by unfold maxLen; omega) (by omega) (by simp; omega) _ rfl ?_
     intro g cap w7 hown hgrow hat hltg
     have HO7 := hd hown
     have HG7 := hd hgrow
     have HB7 := hd (blk_row (HB.out.drew.alloc _) hgrow (fun o ho => by have := (HO.out.lt o ho).1; omega))
     have e4 := HB7.out.free 4
     have d4 := HB7.out.cell 4
     simp at d4
     clear hown hgrow hat))
 all_goals
  go_wp2_with fail
  go_end0
  have HK : Kp w (w7.setCell ⟨b, 4, none⟩ (.slice (some ⟨g, 0, none⟩) (l.length + 1) cap)) b :=
   (((HKW.out.trans (kp_drew (Kp.refl _ b))).alloc _).trans (kp_grown (HO.out.drew.alloc _) HG7.out)).trans (kp_set _ b 4 _)
  refine ⟨rfl, ⟨HX.out.pln.keep HK, i, j, _, hi', hj, HB7.out.set 4 _, ?_⟩, HK⟩
  rw [List.length_append, List.length_singleton, ndsV_append, ndsV_one]
  have := ownsRow_setCell_below HO7.out (a := ⟨b, 4, none⟩) (by show b < b + 1; omega) (.slice (some ⟨g, 0, none⟩) (l.length + 1) cap)
  simpa [ndV] using this
end Mk
end
section
namespace Mk
variable {w : World} {b n c m d : Nat} {ao bo : Option Addr} {l : List Px.Nd}
theorem conv_one (w : World) (g : Nat) (hg : g = w.heap.size) (x : Int) :
   (convert 73 9 (.slice (some ⟨g, 0, none⟩) 1 1)).run Tryz.prog (w.alloc (.cells #[.int .u8 x] 5)) = .ok (.string ⟨#[UInt8.ofNat x.toNat]⟩) (w.alloc (.cells #[.int .u8 x] 5)) := by
 subst hg
 refine (run_convert_bytes_arg (P := Tryz.prog) (w.alloc (.cells #[.int .u8 x] 5)) 73 5 Tryz.underlying73 Tryz.underlying5 w.heap.size 0 1 1 [x] rfl ?_ 9 Tryz.underlying9).trans ?_
 · intro i hi
   have h0 : i = 0 := by omega
   subst h0
   exact (Blk.new w #[.int .u8 x] 5).cell 0
 rfl
def odds : List Lx.Bs := [[195, 169], [226, 130, 172], [240, 159, 152, 128], [39], [34], [195, 159]]
theorem odds_ok : ∀ r, r < 6 → Lx.validN (odds.getD r []) = true ∧ (odds.getD r []).length ≤ 4 := by decide
def Odd (w : World) (O : Nat) : Prop := ∀ r, r < 6 → ∃ t : ByteArray, w.cell? ⟨O, r, none⟩ = some (.string t) ∧ Lx.validN t.data.toList = true ∧ t.size ≤ 4
theorem odd_new (w : World) : Odd (w.alloc (.cells #[.string ⟨#[195, 169]⟩, .string ⟨#[226, 130, 172]⟩, .string ⟨#[240, 159, 152, 128]⟩, .string ⟨#[39]⟩, .string ⟨#[34]⟩, .string ⟨#[195, 159]⟩] 9)) w.heap.size := by
 intro r hr
 obtain ⟨t, h1, h2⟩ := row_cell w odds 9 _ rfl w.heap.size rfl r (by exact hr)
 have := odds_ok r hr
 rw [← h2] at this
 exact ⟨t, h1, this.1, by have := this.2; simpa using this⟩
theorem Odd.below {w w' : World} {O : Nat} (h : Odd w O) (hO : O < w.heap.size) (hb : Below w.heap.size w w') : Odd w' O := by
 intro r hr
 obtain ⟨t, h1, h2⟩ := h r hr
 exact ⟨t, by rw [hb.cell (p := ⟨O, r, none⟩) hO]; exact h1, h2⟩
theorem ascii_one (x : UInt8) (h1 : x.toNat ≠ 0) (h2 : x.toNat < 128) : Lx.validN [x] = true := Lx.valid_ascii [x] (by intro b hb; simp at hb; subst hb; omega)
theorem u8_back (x : UInt8) : UInt8.ofNat ((x.toNat : Int)).toNat = x := by simp
structure TKeep (W wr : World) (O : Nat) : Prop where
 below : Below W.heap.size W wr
 odd : Odd wr O
def TOk (K : Int) (t : ByteArray) : Prop := Lx.validN t.data.toList = true ∧ (t.size : Int) ≤ K
theorem TOk.app {K : Int} {t u : ByteArray} (h : TOk K t) (hu : Lx.validN u.data.toList = true) (hk : ((t.size : Int) + u.size) ≤ K) : TOk K (t ++ u) := by
 refine ⟨?_, ?_⟩
 · have e : (t ++ u).data.toList = t.data.toList ++ u.data.toList := by simp
   rw [e]
   exact valid_app _ _ _ (nlr _) h.1 hu
 rw [ByteArray.size_append]; omega
theorem mText_any (h : At w b ao n c bo m d l) (K : Int) (h1 : 0 ≤ K) (h2 : K ≤ 1000) :
   Calls Tryz.prog 40 #[.pointer (some ⟨b, 0, none⟩), .int .i64 K] w fun x w' => ∃ s : ByteArray, x = .returned (.string s) ∧ TOk K s ∧ Out w b ao n c bo m d l w' := by
 have HX := hd h
 obtain ⟨i, j, lv, hi, hj, hblk, hown⟩ := h.rows
 have hlt := hblk.lt
 obtain ⟨⟨c0, c1, c2, c3, c4⟩, f2, f3, f4⟩ := Blk.five hblk
 have HB := hd hblk
 have HO := hd hown
 have hfew := h.pln.few2
 clear hblk hown
 by_cases hin : j < m
 · obtain ⟨g, off, s, rfl, hg, hz, hz1⟩ := h.pln.txts j hin
   have z1 : (0 : Int) ≤ (j : Int) := by omega
   have hw1 := pos_wrap j (by omega)
   obtain ⟨J, hJ⟩ : ∃ J : Int, (j : Int) + 1 = J := ⟨_, rfl⟩
   rw [hJ] at hw1
   unfold maxLen at hz1
   have hA : At (w.setCell ⟨b, 3, none⟩ (.int .i64 J)) b ao n c (some ⟨g, off, none⟩) m d l :=
    ⟨HX.out.pln.keep (kp_set w b 3 (.int .i64 J)), i, j + 1, lv, hi, by omega, (by have := HB.out.set 3 (.int .i64 J); rw [← hJ] at this ⊢; simpa using this), ownsRow_setCell_below HO.out (by show b < b + 1; omega) _⟩
   have HA0 : Hid (At (w.setCell ⟨b, 3, none⟩ (.int .i64 J)) b ao n c (some ⟨g, off, none⟩) m d l) := hA
   have HK0 : Hid (Kp w (w.setCell ⟨b, 3, none⟩ (.int .i64 J)) b) := kp_set w b 3 _
   have hws : (w.setCell ⟨b, 3, none⟩ (.int .i64 J)).heap.size = w.heap.size := by simp [World.setCell]
   have HOD : Hid (Odd ((w.setCell ⟨b, 3, none⟩ (.int .i64 J)).alloc (.cells #[.string ⟨#[195, 169]⟩, .string ⟨#[226, 130, 172]⟩, .string ⟨#[240, 159, 152, 128]⟩, .string ⟨#[39]⟩, .string ⟨#[34]⟩, .string ⟨#[195, 159]⟩] 9)) w.heap.size) := by
    have := odd_new (w.setCell ⟨b, 3, none⟩ (.int .i64 J))
    rwa [hws] at this
   clear h hA
   go_enter Tryz.func40, Tryz.ntmps40
   go_wp2_with fail
   go_region
   all_goals
    go_wp2_with fail
    go_region
   all_goals
    go_wp2_with fail
    have HWS := hd hws
    clear hws
    generalize w.setCell ⟨b, 3, none⟩ (.int .i64 J) = W1 at *
    go_loopw [7, 8] (fun o i wr => ∃ (k : Nat) (t : ByteArray), k ≤ s.size ∧ i = .int .i64 k ∧ o = .string t ∧ Hid (TOk K t) ∧ Hid (Below W1.heap.size W1 wr) ∧ Hid (Odd wr w.heap.size) ∧ w.heap.size < wr.heap.size) (fun _ i _ => s.size - (intOf i).toNat)
    case atStart => exact ⟨0, ⟨#[]⟩, by omega, rfl, rfl, ⟨rfl, h1⟩, (by show Below _ _ _; go_grown), HOD, by have := HWS.out; simp; omega⟩
    case round =>
     obtain ⟨k, t, hk, rfl, rfl, HT, HW, HD, hwr⟩ := hrel
     by_cases hlt : k < s.size ∧ (k : Int) < K
     · obtain ⟨hl1, hl2⟩ := hlt
       have hts : t.size ≤ 1000 := by have := HT.out.2; omega
       have z2 : (0 : Int) ≤ (k : Int) := by omega
       have z3 : (k : Int) < (s.size : Int) := by omega
       go_wp2_with fail
       rw [conv_one _ _ (by simp)]
       simp only [u8_back]
       have hx256 : s[k].toNat < 256 := UInt8.toNat_lt _
       have HD2 := hd (HD.out.below hwr ((Below.refl wr.heap.size wr).alloc (nlr _) (.cells #[.int .u8 (s[k].toNat : Int)] 5)))
       have HW2 := hd (HW.out.trans (((Below.refl wr.heap.size wr).alloc (nlr _) (.cells #[.int .u8 (s[k].toNat : Int)] 5)).mono HW.out.size))
       have hwr2 : w.heap.size < (wr.alloc (.cells #[.int .u8 (s[k].toNat : Int)] 5)).heap.size := by simp; omega
       clear HD HW hwr
       generalize wr.alloc (.cells #[.int .u8 (s[k].toNat : Int)] 5) = w2 at *
       by_cases hx0 : s[k].toNat = 0
       · obtain ⟨u, hu1, hu2, hu3⟩ := HD2.out 0 (by omega)
         have HU := hd hu2
         clear hu2
         go_wp2_with fail
         all_goals
          go_roundw
          case rel =>
           first
            | exact ⟨k + 1, t ++ u, by omega, by go_num, rfl, hd (HT.out.app HU.out (by omega)), HW2, HD2, hwr2⟩
            | exact ⟨k + 1, t, by omega, by go_num, rfl, HT, HW2, HD2, hwr2⟩
          case measure => simp [intOf]; omega
       by_cases hx : 128 ≤ s[k].toNat
       · obtain ⟨u, hu1, hu2, hu3⟩ := HD2.out (s[k].toNat % 6) (Nat.mod_lt _ (by omega))
         have htm : Int.tmod (s[k].toNat : Int) 6 = ((s[k].toNat % 6 : Nat) : Int) := by rw [show (6 : Int) = ((6 : Nat) : Int) from rfl, ← Int.ofNat_tmod]
         have hx6 : s[k].toNat % 6 < 6 := Nat.mod_lt _ (by omega)
         have HU := hd hu2
         clear hu2
         go_wp2_with fail
         all_goals
          go_roundw
          case rel =>
           first
            | exact ⟨k + 1, t ++ u, by omega, by go_num, rfl, hd (HT.out.app HU.out (by omega)), HW2, HD2, hwr2⟩
            | exact ⟨k + 1, t, by omega, by go_num, rfl, HT, HW2, HD2, hwr2⟩
          case measure => simp [intOf]; omega
       have HU := hd (ascii_one s[k] hx0 (by omega))
       have hx1 : s[k].toNat < 128 := by omega
       have hx2 : ((s[k].toNat : Nat) : Int) < 128 := by omega
       have hx3 : (((s[k].toNat : Nat) : Int) == 0) = false := by simpa using hx0
       clear hx
       go_wp2_with fail
       all_goals
        go_roundw
        case rel =>
         first
          | exact ⟨k + 1, t, by omega, by go_num, rfl, HT, HW2, HD2, hwr2⟩
          | exact ⟨k + 1, t ++ ⟨#[s[k]]⟩, by omega, by go_num, rfl, hd (HT.out.app (u := ⟨#[s[k]]⟩) HU.out (by have e : ((⟨#[s[k]]⟩ : ByteArray).size) = 1 := rfl; rw [e]; omega)), HW2, HD2, hwr2⟩
        case measure => simp [intOf]; omega
     have hlt' : (s.size : Int) ≤ k ∨ K ≤ k := by omega
     have hnn : ¬ ((k : Int) < (s.size : Int) ∧ (k : Int) < K) := by omega
     go_wp2_with fail
     all_goals
      go_ret
      exact ⟨t, rfl, HT.out, HA0.out.below HW.out, HK0.out.trans (Kp.below HW.out)⟩
 clear h
 go_enter Tryz.func40, Tryz.ntmps40
 go_wp2_with fail
 go_region
 all_goals
  go_wp2_with fail
  go_loopw [7, 8] (fun o i wr => i = .int .i64 0 ∧ o = .string ⟨#[]⟩ ∧ Hid (Below w.heap.size w wr)) (fun _ _ _ => 0)
  case atStart => exact ⟨rfl, rfl, by show Below _ _ _; go_grown⟩
  case round =>
   obtain ⟨rfl, rfl, HW⟩ := hrel
   go_wp2_with fail
   go_ret
   exact ⟨⟨#[]⟩, rfl, ⟨rfl, h1⟩, HX.out.below HW.out, Kp.below HW.out⟩
theorem name_of {t : ByteArray} (h : TOk 30 t) (hne : t.size ≠ 0) : Px.isName t.data.toList = true := by
 have h2 := h.2
 unfold Px.isName
 rw [h.1]
 have e : t.data.toList.length = t.size := by simp
 have : t.data.toList ≠ [] := by
  intro e'
  rw [e'] at e
  simp at e
  omega
 simp only [Bool.true_and, Bool.and_eq_true, Bool.not_eq_true', decide_eq_true_eq]
 exact ⟨by simpa [List.isEmpty_iff] using this, by omega⟩
theorem mName_any (h : At w b ao n c bo m d l) :
   Calls Tryz.prog 19 #[.pointer (some ⟨b, 0, none⟩)] w fun x w' => ∃ s : ByteArray, x = .returned (.string s) ∧ Px.isName s.data.toList = true ∧ Out w b ao n c bo m d l w' := by
 have HX := hd h
 clear h
 go_enter Tryz.func19, Tryz.ntmps19
 go_wp2_with fail
 refine (mText_any HX.out 30 (by omega) (by omega)).mono ?_
 rintro x w1 ⟨s, rfl, ht, ho⟩
 have HO := hd ho
 have HT := hd ht
 clear ho ht
 by_cases h0 : s.size = 0
 · have e : s = ⟨#[]⟩ := by
    obtain ⟨⟨a⟩⟩ := s
    have : a = [] := List.length_eq_zero_iff.1 (by simpa [ByteArray.size] using h0)
    rw [this]
   subst e
   go_wp2_with fail
   go_ret
   exact ⟨⟨#[110]⟩, rfl, by decide, HO.out⟩
 have HN := hd (name_of HT.out h0)
 have hne : (s.toList == []) = false := by
  have : s.toList ≠ [] := by
   intro e
   rw [Lib.toList_data] at e
   have e2 := congrArg List.length e
   rw [Array.length_toList] at e2
   exact h0 e2
  simpa using this
 go_wp2_with fail
 go_ret
 exact ⟨s, rfl, HN.out, HO.out⟩
end Mk
end
section
namespace Mk
variable {w : World} {b n c m d : Nat} {ao bo : Option Addr} {l : List Px.Nd}
def EOut (w : World) (b : Nat) (ao : Option Addr) (n c : Nat) (bo : Option Addr) (m d : Nat) (l : List Px.Nd) (dp sz : Nat) (w' : World) : Prop := ∃ e : Px.E, Px.EOk dp sz e ∧ Out w b ao n c bo m d (l ++ e.nodes) w'
theorem EOut.mk {dp sz : Nat} {w' : World} (e : Px.E) (h : Px.EOk dp sz e) (ho : Out w b ao n c bo m d (l ++ e.nodes) w') : EOut w b ao n c bo m d l dp sz w' := ⟨e, h, ho⟩
theorem Out.trans {w1 w2 : World} {l1 l2 : List Px.Nd} (h : Out w b ao n c bo m d l1 w1) (k : Out w1 b ao n c bo m d l2 w2) : Out w b ao n c bo m d l2 w2 := ⟨k.1, h.2.trans k.2⟩
theorem mLeaf_any (h : At w b ao n c bo m d l) (hl : l.length ≤ 90000) :
   Calls Tryz.prog 64 #[.pointer (some ⟨b, 0, none⟩)] w fun x w' => x = .returned (.tuple #[]) ∧ EOut w b ao n c bo m d l 1 1 w' := by
 have HX := hd h
 clear h
 go_enter Tryz.func64, Tryz.ntmps64
 go_wp2_with fail
 refine (mOne_any HX.out 6 (by omega) (by omega)).mono ?_
 rintro x w1 ⟨r, hr, rfl, ho⟩
 have HO := hd ho
 clear ho
 have hr6 : r = 0 ∨ r = 1 ∨ r = 2 ∨ r = 3 ∨ r = 4 ∨ r = 5 := by omega
 rcases hr6 with rfl | rfl | rfl | rfl | rfl | rfl
 · go_wp2_with fail
   refine (mNumber_any HO.out.1).mono ?_
   rintro x w2 ⟨z, rfl, ⟨z1, z2⟩, ho⟩
   have HO2 := hd ho
   clear ho
   go_wp2_with fail
   refine (mAdd_any HO2.out.1 (by omega) 16 ⟨#[]⟩ z 0).mono ?_
   rintro x w3 ⟨rfl, ho⟩
   have HO3 := hd ho
   clear ho
   go_wp2_with fail
   go_end0
   exact ⟨rfl, EOut.mk (.num z) ⟨⟨z1, z2⟩, trivial, nlr _, nlr _⟩ ((HO.out.trans HO2.out).trans HO3.out)⟩
 · go_wp2_with fail
   refine (mText_any HO.out.1 40 (by omega) (by omega)).mono ?_
   rintro x w2 ⟨s, rfl, ht, ho⟩
   have HO2 := hd ho
   have HT := hd ht
   clear ho ht
   go_wp2_with fail
   refine (mAdd_any HO2.out.1 (by omega) 17 s 0 0).mono ?_
   rintro x w3 ⟨rfl, ho⟩
   have HO3 := hd ho
   clear ho
   go_wp2_with fail
   go_end0
   exact ⟨rfl, EOut.mk (.str s.data.toList) ⟨by have := HT.out.2; show s.data.toList.length ≤ 2000; rw [Array.length_toList]; show s.size ≤ 2000; omega, HT.out.1, nlr _, nlr _⟩ ((HO.out.trans HO2.out).trans HO3.out)⟩
 · go_wp2_with fail
   refine (mOne_any HO.out.1 2 (by omega) (by omega)).mono ?_
   rintro x w2 ⟨q, hq, rfl, ho⟩
   have HO2 := hd ho
   clear ho
   go_wp2_with fail
   refine (mAdd_any HO2.out.1 (by omega) 15 ⟨#[]⟩ (q : Int) 0).mono ?_
   rintro x w3 ⟨rfl, ho⟩
   have HO3 := hd ho
   clear ho
   go_wp2_with fail
   go_end0
   refine ⟨rfl, EOut.mk (.bool (decide (q = 1))) ⟨trivial, trivial, nlr _, nlr _⟩ ?_⟩
   have hq2 : q = 0 ∨ q = 1 := by omega
   have := (HO.out.trans HO2.out).trans HO3.out
   rcases hq2 with rfl | rfl
   · exact this
   exact this
 · go_wp2_with fail
   refine (mAdd_any HO.out.1 (by omega) 14 ⟨#[]⟩ 0 0).mono ?_
   rintro x w3 ⟨rfl, ho⟩
   have HO3 := hd ho
   clear ho
   go_wp2_with fail
   go_end0
   exact ⟨rfl, EOut.mk .null ⟨trivial, trivial, nlr _, nlr _⟩ (HO.out.trans HO3.out)⟩
 all_goals
  go_wp2_with fail
  refine (mName_any HO.out.1).mono ?_
  rintro x w2 ⟨s, rfl, ht, ho⟩
  have HO2 := hd ho
  have HT := hd ht
  clear ho ht
  go_wp2_with fail
  refine (mAdd_any HO2.out.1 (by omega) 18 s 0 0).mono ?_
  rintro x w3 ⟨rfl, ho⟩
  have HO3 := hd ho
  clear ho
  go_wp2_with fail
  go_end0
  exact ⟨rfl, EOut.mk (.nm s.data.toList) ⟨Px.isName_len HT.out, HT.out, nlr _, nlr _⟩ ((HO.out.trans HO2.out).trans HO3.out)⟩
end Mk
end
section
namespace Mk
variable {w : World} {b n c m d : Nat} {ao bo : Option Addr} {l : List Px.Nd}
theorem own_full {w : World} {base : Nat} {e : TypeId} {size : Nat} {v : Value} {n : Nat} {xs : List Value} (h : w.ownsRow base e size v n xs) : ∃ ao cp, v = .slice ao n cp := by
 rcases h.2 with ⟨rfl, rfl⟩ | ⟨g, cap, cur, rfl, _⟩
 · exact ⟨_, _, rfl⟩
 exact ⟨_, _, rfl⟩
theorem At.len (h : At w b ao n c bo m d l) : ∃ lo cp, w.cell? ⟨b, 4, none⟩ = some (.slice lo l.length cp) := by
 obtain ⟨i, j, lv, _, _, hblk, hown⟩ := h.rows
 obtain ⟨lo, cp, rfl⟩ := own_full hown
 exact ⟨lo, cp, hblk.cell 4⟩
theorem ndsV_set (x y : Px.Nd) (r : List Px.Nd) (j : Nat) (u : Value) (h : (ndV x).set j u = ndV y) (hj : j < 4) : (ndsV (l ++ x :: r)).set (l.length * 4 + j) u = ndsV (l ++ y :: r) := by
 have hl : (ndV x).length = 4 := rfl
 rw [ndsV_append, ndsV_append, List.set_append_right _ _ (by rw [ndsV_length]; omega), ndsV_length, Nat.add_sub_cancel_left]
 congr 1
 show (ndV x ++ ndsV r).set j u = ndV y ++ ndsV r
 rw [List.set_append_left _ _ (by rw [hl]; exact hj), h]
theorem At.node (h : At w b ao n c bo m d l) (hne : l ≠ []) : ∃ g cp, w.cell? ⟨b, 4, none⟩ = some (.slice (some ⟨g, 0, none⟩) l.length cp) ∧ g < w.heap.size ∧ b < g ∧
   (∀ k, (hk : k < l.length) → w.cell? ⟨g, k * 4, none⟩ = some (.int .i64 l[k].kind) ∧ w.cell? ⟨g, k * 4 + 3, none⟩ = some (.int .i64 l[k].kids)) ∧ (∀ j, w.frozen? ⟨g, j, none⟩ = false) ∧
   ∀ (l1 r : List Px.Nd) (x y : Px.Nd) (j : Nat) (u : Value), l = l1 ++ x :: r → (ndV x).set j u = ndV y → j < 4 → At (w.setCell ⟨g, l1.length * 4 + j, none⟩ u) b ao n c bo m d (l1 ++ y :: r) ∧ Kp w (w.setCell ⟨g, l1.length * 4 + j, none⟩ u) b := by
 obtain ⟨i, j, lv, h1, h2, hblk, hown⟩ := h.rows
 have hp : 0 < l.length := by
  cases l with
  | nil => exact absurd rfl hne
  | cons => simp
 obtain ⟨g, cp, rfl⟩ : ∃ g cp, lv = .slice (some ⟨g, 0, none⟩) l.length cp := by
  rcases hown.2 with ⟨_, hn⟩ | ⟨g, cap, cur, hv, _⟩
  · omega
  exact ⟨g, cap, hv⟩
 have hlt := hown.lt g rfl
 refine ⟨g, cp, hblk.cell 4, hlt.2, by omega, fun k hk => ?_, fun j => hown.frozenAt j, ?_⟩
 · obtain ⟨q0, q1, q2, q3⟩ := ndsV_at l k hk
   have e := fun j u (hu : (ndsV l)[j]? = some u) => hown.cells (g := g) rfl j u hu
   simp only [Addr.add_lit, Nat.zero_add] at e
   exact ⟨e _ _ q0, e _ _ q3⟩
 intro l1 r x y j u hl hu hj
 have hk : Kp w (w.setCell ⟨g, l1.length * 4 + j, none⟩ u) b := kp_stored hown u
 have ho := (hown.stored (l1.length * 4 + j) u).1
 refine ⟨⟨h.pln.keep hk, i, _, _, h1, h2, hblk.far _ _ (show g ≠ b by omega), ?_⟩, hk⟩
 subst hl
 rw [ndsV_set x y r j u hu hj] at ho
 have e : (l1 ++ y :: r).length = (l1 ++ x :: r).length := by simp
 rw [e]
 exact ho
def ExprAt (b : Nat) (ao : Option Addr) (n c : Nat) (bo : Option Addr) (m d : Nat) (K : Int) (D P : Nat) : Prop :=
 ∀ (w : World) (l : List Px.Nd), At w b ao n c bo m d l → l.length + P ≤ 80000 →
   Calls Tryz.prog 41 #[.pointer (some ⟨b, 0, none⟩), .int .i64 K] w fun x w' => x = .returned (.tuple #[]) ∧ EOut w b ao n c bo m d l D (P - 1) w'
theorem expr_one : ExprAt b ao n c bo m d 1 1 2 := by
 intro w l h hl
 have HX := hd h
 clear h
 go_enter Tryz.func41, Tryz.ntmps41
 go_wp2_with fail
 refine (mOne_any HX.out 24 (by omega) (by omega)).mono ?_
 rintro x w1 ⟨k, hk, rfl, ho⟩
 have HO := hd ho
 clear ho
 go_wp2_with fail
 refine (mLeaf_any HO.out.1 (by omega)).mono ?_
 rintro x w2 ⟨rfl, e, he, ho⟩
 have HE := hd he
 have HO2 := hd ho
 clear ho he
 go_wp2_with fail
 (try simp only [Exit.inBlock, Exit.then])
 refine bodyPost_ret (results_none rfl _ _ _) rfl ?_
 exact ⟨rfl, EOut.mk e HE.out (HO.out.trans HO2.out)⟩
theorem expr_more (K K' : Int) (D P : Nat) (hK : (1 : Int) < K) (hK7 : K ≤ 7) (hKK : K - 1 = K') (hD1 : 1 ≤ D) (hP : 2 ≤ P) (ih : ExprAt b ao n c bo m d K' D P) : ExprAt b ao n c bo m d K (D + 1) (P + P) := by
 intro w l h hl
 have HX := hd h
 have HIH := hd ih
 clear h ih
 go_enter Tryz.func41, Tryz.ntmps41
 go_wp2_with fail
 refine (mOne_any HX.out 24 (by omega) (by omega)).mono ?_
 rintro x w1 ⟨k, hk, rfl, ho⟩
 have HO := hd ho
 clear ho
 by_cases hleaf : (k : Int) < 6
 · go_wp2_with fail
   refine (mLeaf_any HO.out.1 (by omega)).mono ?_
   rintro x w2 ⟨rfl, e, he, ho⟩
   have HE := hd he
   have HO2 := hd ho
   clear ho he
   go_wp2_with fail
   (try simp only [Exit.inBlock, Exit.then])
   refine bodyPost_ret (results_none rfl _ _ _) rfl ?_
   exact ⟨rfl, EOut.mk e (HE.out.up (by omega) (by omega)) (HO.out.trans HO2.out)⟩
 have hk6 : (6 : Int) ≤ (k : Int) := by omega
 clear hleaf
 by_cases hun : (k : Int) < 10
 · have hk4 : k = 6 ∨ k = 7 ∨ k = 8 ∨ k = 9 := by omega
   obtain ⟨lo, cp, c4⟩ := HO.out.1.len
   have hlt := HO.out.1.lt
   have ll := hd (rfl : l.length = l.length)
   rcases hk4 with rfl | rfl | rfl | rfl
   · go_wp2_with fail
     refine (mAdd_any (HO.out.1.alloc _) (by omega) 19 ⟨#[]⟩ 0 1).mono ?_
     rintro x w2 ⟨rfl, ho⟩
     have HO2 : Hid (Out w b ao n c bo m d (l ++ [⟨19, [], 0, 1⟩]) w2) := ⟨ho.1, (HO.out.2.alloc _).trans ho.2⟩
     clear ho
     go_wp2_with fail
     refine (HIH.out w2 _ HO2.out.1 (by simp only [List.length_append, List.length_cons, List.length_nil]; omega)).mono ?_
     rintro x w3 ⟨rfl, e1, he1, ho⟩
     have HE1 := hd he1
     have hs1 := he1.size
     have HO3 := hd (HO2.out.trans ho)
     obtain ⟨x1, r1, hx1, hxk⟩ := Px.kind_num e1 he1.ok
     have HXK := hd hxk
     have HX1 := hd hx1
     clear ho he1 hxk
     obtain ⟨g, cp3, d4, hg, hbg, hcells, hfr, hput⟩ := HO3.out.1.node (by simp)
     have HPUT := hd hput
     have hL : (l ++ [(⟨19, [], 0, 1⟩ : Px.Nd)] ++ e1.nodes).length = l.length + 1 + e1.nodes.length := by simp; omega
     have hl1 : 1 ≤ e1.nodes.length := by rw [hx1]; simp
     have hn1 := e1.nodes_length
     have y0 := (hcells (l.length + 1) (by rw [hL]; omega)).1
     have hy : ((l ++ [(⟨19, [], 0, 1⟩ : Px.Nd)] ++ e1.nodes)[l.length + 1]'(by rw [hL]; omega)).kind = x1.kind := by
      have : (l ++ [(⟨19, [], 0, 1⟩ : Px.Nd)] ++ e1.nodes)[l.length + 1]? = some x1 := by
       rw [hx1, List.getElem?_append_right (by simp)]
       simp
      rw [List.getElem?_eq_getElem (by rw [hL]; omega)] at this
      rw [Option.some.inj this]
     rw [hy] at y0
     have y1 := (hcells l.length (by rw [hL]; omega)).1
     generalize ((l ++ [(⟨19, [], 0, 1⟩ : Px.Nd)] ++ e1.nodes)[l.length]'(by rw [hL]; omega)).kind = y9 at y1
     rw [hL] at d4
     have f0 := hfr (l.length * 4)
     have hne : some g ≠ some b := by simp; omega
     clear hcells hput hfr hx1 hL hy HX HIH
     generalize e1.nodes.length = q at *
     have hw : IntKind.i64.wrap ((l.length : Int) + 1) = (l.length : Int) + 1 := wrap_in (z := (l.length : Int) + 1) (by omega) (by omega)
     by_cases hkk : x1.kind = 16
     · go_wp2_with fail
       (try simp only [Exit.inBlock, Exit.then])
       refine bodyPost_ret (results_none rfl _ _ _) rfl ?_
       refine ⟨rfl, EOut.mk (.un 21 e1) ((HE1.out.un (by omega) (by omega) (by omega)).up (nlr _) (by omega)) ?_⟩
       obtain ⟨p1, p2⟩ := HPUT.out l e1.nodes ⟨19, [], 0, 1⟩ ⟨21, [], 0, 1⟩ 0 (.int .i64 21) (by simp) rfl (by omega)
       exact ⟨p1, HO3.out.2.trans p2⟩
     have hkb : (x1.kind == 16) = false := by simpa using hkk
     go_wp2_with fail
     (try simp only [Exit.inBlock, Exit.then])
     refine bodyPost_ret (results_none rfl _ _ _) rfl ?_
     have hnum : e1.isNum = false := by
      cases hq : e1.isNum with
      | false => rfl
      | true => exact absurd (HXK.out.2 hq) hkk
     refine ⟨rfl, EOut.mk (.un 19 e1) ((HE1.out.un (by omega) (by omega) (fun _ => hnum)).up (nlr _) (by omega)) ?_⟩
     have := HO3.out
     rw [laa] at this
     exact this
   · go_wp2_with fail
     refine (mAdd_any (HO.out.1.alloc _) (by omega) 20 ⟨#[]⟩ 0 1).mono ?_
     rintro x w2 ⟨rfl, ho⟩
     have HO2 := hd ho
     have HOK := hd (HO.out.2.alloc (.cells #[.int .i64 19, .int .i64 20, .int .i64 21, .int .i64 22] 3))
     clear ho
     go_wp2_with fail
     refine (HIH.out w2 _ HO2.out.1 (by simp only [List.length_append, List.length_cons, List.length_nil]; omega)).mono ?_
     rintro x w3 ⟨rfl, e1, he1, ho⟩
     have HE1 := hd he1
     have hs1 := he1.size
     have HO3 := hd (HO2.out.trans ho)
     clear ho he1
     go_wp2_with fail
     (try simp only [Exit.inBlock, Exit.then])
     refine bodyPost_ret (results_none rfl _ _ _) rfl ?_
     have hfin := HO3.out
     rw [laa] at hfin
     exact ⟨rfl, EOut.mk (.un 20 e1) ((HE1.out.un (by omega) (by omega) (by omega)).up (nlr _) (by omega)) ⟨hfin.1, HOK.out.trans hfin.2⟩⟩
   · go_wp2_with fail
     refine (mAdd_any (HO.out.1.alloc _) (by omega) 21 ⟨#[]⟩ 0 1).mono ?_
     rintro x w2 ⟨rfl, ho⟩
     have HO2 := hd ho
     have HOK := hd (HO.out.2.alloc (.cells #[.int .i64 19, .int .i64 20, .int .i64 21, .int .i64 22] 3))
     clear ho
     go_wp2_with fail
     refine (HIH.out w2 _ HO2.out.1 (by simp only [List.length_append, List.length_cons, List.length_nil]; omega)).mono ?_
     rintro x w3 ⟨rfl, e1, he1, ho⟩
     have HE1 := hd he1
     have hs1 := he1.size
     have HO3 := hd (HO2.out.trans ho)
     clear ho he1
     go_wp2_with fail
     (try simp only [Exit.inBlock, Exit.then])
     refine bodyPost_ret (results_none rfl _ _ _) rfl ?_
     have hfin := HO3.out
     rw [laa] at hfin
     exact ⟨rfl, EOut.mk (.un 21 e1) ((HE1.out.un (by omega) (by omega) (by omega)).up (nlr _) (by omega)) ⟨hfin.1, HOK.out.trans hfin.2⟩⟩
   go_wp2_with fail
   refine (mAdd_any (HO.out.1.alloc _) (by omega) 22 ⟨#[]⟩ 0 1).mono ?_
   rintro x w2 ⟨rfl, ho⟩
   have HO2 := hd ho
   have HOK := hd (HO.out.2.alloc (.cells #[.int .i64 19, .int .i64 20, .int .i64 21, .int .i64 22] 3))
   clear ho
   go_wp2_with fail
   refine (HIH.out w2 _ HO2.out.1 (by simp only [List.length_append, List.length_cons, List.length_nil]; omega)).mono ?_
   rintro x w3 ⟨rfl, e1, he1, ho⟩
   have HE1 := hd he1
   have hs1 := he1.size
   have HO3 := hd (HO2.out.trans ho)
   clear ho he1
   go_wp2_with fail
   (try simp only [Exit.inBlock, Exit.then])
   refine bodyPost_ret (results_none rfl _ _ _) rfl ?_
   have hfin := HO3.out
   rw [laa] at hfin
   exact ⟨rfl, EOut.mk (.un 22 e1) ((HE1.out.un (by omega) (by omega) (by omega)).up (nlr _) (by omega)) ⟨hfin.1, HOK.out.trans hfin.2⟩⟩
 have hk10 : (10 : Int) ≤ (k : Int) := by omega
 go_wp2_with fail
 refine (mAdd_any HO.out.1 (by omega) (23 + (k : Int) - 10) ⟨#[]⟩ 0 2).mono ?_
 rintro x w2 ⟨rfl, ho⟩
 have HO2 := hd ho
 clear ho
 go_wp2_with fail
 refine (HIH.out w2 _ HO2.out.1 (by simp only [List.length_append, List.length_cons, List.length_nil]; omega)).mono ?_
 rintro x w3 ⟨rfl, e1, he1, ho⟩
 have HE1 := hd he1
 have HO3 := hd ho
 have hs1 := he1.size
 have hn1 := e1.nodes_length
 clear ho he1
 go_wp2_with fail
 refine (HIH.out w3 _ HO3.out.1 (by simp only [List.length_append, List.length_cons, List.length_nil]; omega)).mono ?_
 rintro x w4 ⟨rfl, e2, he2, ho⟩
 have HE2 := hd he2
 have HO4 := hd ho
 clear ho he2
 go_wp2_with fail
 go_end0
 refine ⟨rfl, EOut.mk (.bin (k + 13) e1 e2) ((HE1.out.bin HE2.out (by omega) (by omega)).up (nlr _) (by omega)) ?_⟩
 have := ((HO.out.trans HO2.out).trans HO3.out).trans HO4.out
 have e : l ++ (Px.E.bin (k + 13) e1 e2).nodes = l ++ [⟨23 + (k : Int) - 10, [], 0, 2⟩] ++ e1.nodes ++ e2.nodes := by
  simp [Px.E.nodes, Px.over2]
  omega
 rw [e]
 exact this
theorem mExpr_any : ExprAt b ao n c bo m d 7 7 128 := by
 have h1 : ExprAt b ao n c bo m d 1 1 2 := expr_one
 have h2 : ExprAt b ao n c bo m d 2 2 4 := expr_more 2 1 1 2 (by omega) (by omega) rfl (by omega) (by omega) h1
 have h3 : ExprAt b ao n c bo m d 3 3 8 := expr_more 3 2 2 4 (by omega) (by omega) rfl (by omega) (by omega) h2
 have h4 : ExprAt b ao n c bo m d 4 4 16 := expr_more 4 3 3 8 (by omega) (by omega) rfl (by omega) (by omega) h3
 have h5 : ExprAt b ao n c bo m d 5 5 32 := expr_more 5 4 4 16 (by omega) (by omega) rfl (by omega) (by omega) h4
 have h6 : ExprAt b ao n c bo m d 6 6 64 := expr_more 6 5 5 32 (by omega) (by omega) rfl (by omega) (by omega) h5
 exact expr_more 7 6 6 64 (by omega) (by omega) rfl (by omega) (by omega) h6
end Mk
end
section
namespace Mk
variable {w : World} {b n c m d : Nat} {ao bo : Option Addr} {l : List Px.Nd}
theorem ek {e : Px.E} (h : Px.EOk 7 127 e) : Px.EK e := h.up (by omega) (by omega)
theorem mWhere_any (h : At w b ao n c bo m d l) (hl : l.length ≤ 70000) :
   Calls Tryz.prog 24 #[.pointer (some ⟨b, 0, none⟩)] w fun x w' => ∃ o : Option Px.E, Px.WK o ∧ x = .returned (.int .i64 ((Px.one? o : Nat) : Int)) ∧ Out w b ao n c bo m d (l ++ Px.whereN o) w' := by
 have HX := hd h
 clear h
 go_enter Tryz.func24, Tryz.ntmps24
 go_wp2_with fail
 refine (mOne_any HX.out 2 (by omega) (by omega)).mono ?_
 rintro x w1 ⟨r, hr, rfl, ho⟩
 have HO := hd ho
 clear ho
 have hr2 : r = 0 ∨ r = 1 := by omega
 rcases hr2 with rfl | rfl
 · go_wp2_with fail
   go_ret
   exact ⟨none, fun e he => by simp at he, rfl, by have := HO.out; simpa [Px.whereN] using this⟩
 go_wp2_with fail
 refine (mAdd_any HO.out.1 (by omega) 11 ⟨#[]⟩ 0 1).mono ?_
 rintro x w2 ⟨rfl, ho⟩
 have HO2 := hd ho
 clear ho
 go_wp2_with fail
 refine (mExpr_any w2 _ HO2.out.1 (by simp only [List.length_append, List.length_cons, List.length_nil]; omega)).mono ?_
 rintro x w3 ⟨rfl, e1, he1, ho⟩
 have HE1 := hd he1
 have HO3 := hd ho
 clear ho he1
 go_wp2_with fail
 go_ret
 refine ⟨some e1, fun e he => by simp at he; subst he; exact ek HE1.out, rfl, ?_⟩
 have := (HO.out.trans HO2.out).trans HO3.out
 rw [laa] at this
 exact this
structure Chosen (i : List (Option Px.E)) (o : Option Px.E) (r : List (Px.E × Bool)) (lm : Option Nat) : Prop where
 ne : i ≠ []
 few : i.length ≤ 3
 items : ∀ x ∈ i, Px.WK x
 wh : Px.WK o
 few2 : r.length ≤ 2
 orders : ∀ x ∈ r, Px.EK x.1
 lim : ∀ n, lm = some n → n ≤ 1000000000
def chN (i : List (Option Px.E)) (o : Option Px.E) (r : List (Px.E × Bool)) (lm : Option Nat) : List Px.Nd := i.flatMap Px.itemN ++ Px.whereN o ++ r.flatMap Px.orderN ++ Px.limN lm
theorem items_len {i : List (Option Px.E)} (h : ∀ x ∈ i, Px.WK x) : (i.flatMap Px.itemN).length ≤ i.length * 127 :=
 Px.flat_le2 Px.itemN 127 i fun a ha => by
  cases a with
  | none => simp [Px.itemN]
  | some e => exact (h _ ha e (by simp)).len
theorem orders_len {r : List (Px.E × Bool)} (h : ∀ x ∈ r, Px.EK x.1) : (r.flatMap Px.orderN).length ≤ r.length * 128 :=
 Px.flat_le2 Px.orderN 128 r fun a ha => by
  have := (h _ ha).len
  simp only [Px.orderN, List.length_cons]
  omega
theorem mChoose_any (h : At w b ao n c bo m d l) (hl : l.length ≤ 60000) :
   Calls Tryz.prog 21 #[.pointer (some ⟨b, 0, none⟩)] w fun x w' => ∃ i o r lm, Chosen i o r lm ∧ x = .returned (.int .i64 ((i.length + Px.one? o + r.length + Px.one? lm : Nat) : Int)) ∧ Out w b ao n c bo m d (l ++ chN i o r lm) w' := by
 have HX := hd h
 clear h
 go_enter Tryz.func21, Tryz.ntmps21
 go_wp2_with fail
 refine (mOne_any HX.out 3 (by omega) (by omega)).mono ?_
 rintro x w1 ⟨r, hr, rfl, ho⟩
 have HO := hd ho
 clear ho
 go_wp2_with fail
 go_loopw [4] (fun i wr => ∃ (k : Nat) (its : List (Option Px.E)), k ≤ 1 + r ∧ i = .int .i64 k ∧ Hid (its.length = k) ∧ Hid (∀ x ∈ its, Px.WK x) ∧ Hid (Out w b ao n c bo m d (l ++ its.flatMap Px.itemN) wr)) (fun i _ => 1 + r - (intOf i).toNat)
 case atStart => exact ⟨0, [], by omega, rfl, rfl, fun x hx => by simp at hx, by have := HO.out; show Out _ _ _ _ _ _ _ _ _ _; simpa using this⟩
 case round =>
  obtain ⟨k, its, hk, rfl, HL, HI, HO1⟩ := hrel
  have hlen := items_len HI.out
  have hle := HL.out
  have hm127 : its.length * 127 ≤ 3 * 127 := Nat.mul_le_mul_right _ (by omega)
  by_cases hlt : k < 1 + r
  · have hlt' : (k : Int) < 1 + (r : Int) := by omega
    go_wp2_with fail
    refine (mOne_any HO1.out.1 5 (by omega) (by omega)).mono ?_
    rintro x w2 ⟨q, hq, rfl, ho⟩
    have HO2 := hd ho
    clear ho
    by_cases hq4 : q = 4
    · subst hq4
      go_wp2_with fail
      refine (mAdd_any HO2.out.1 (by simp only [List.length_append]; omega) 10 ⟨#[]⟩ 0 0).mono ?_
      rintro x w3 ⟨rfl, ho⟩
      have HO3 := hd ((HO1.out.trans HO2.out).trans ho)
      clear ho
      go_wp2_with fail
      go_roundw
      case rel =>
       refine ⟨k + 1, its ++ [none], by omega, by go_num, (by show _ = _; have := HL.out; simp; omega), (fun x hx => ?_), ?_⟩
       · rcases List.mem_append.1 hx with hx | hx
         · exact HI.out x hx
         simp at hx; subst hx; exact fun e he => by simp at he
       have := HO3.out
       show Out _ _ _ _ _ _ _ _ _ _
       rw [List.flatMap_append]
       simpa [Px.itemN] using this
      case measure => simp [intOf]; omega
    have hqb : ((q : Int) == 4) = false := by simp; omega
    go_wp2_with fail
    refine (mExpr_any w2 _ HO2.out.1 (by simp only [List.length_append]; omega)).mono ?_
    rintro x w3 ⟨rfl, e1, he1, ho⟩
    have HE1 := hd he1
    have HO3 := hd ((HO1.out.trans HO2.out).trans ho)
    clear ho he1
    go_wp2_with fail
    go_roundw
    case rel =>
     refine ⟨k + 1, its ++ [some e1], by omega, by go_num, (by show _ = _; have := HL.out; simp; omega), (fun x hx => ?_), ?_⟩
     · rcases List.mem_append.1 hx with hx | hx
       · exact HI.out x hx
       simp at hx; subst hx; exact fun e he => by simp at he; subst he; exact ek HE1.out
     have := HO3.out
     show Out _ _ _ _ _ _ _ _ _ _
     rw [List.flatMap_append]
     simpa [Px.itemN] using this
    case measure => simp [intOf]; omega
  have hkc : k = 1 + r := by omega
  have hnlt : 1 + (r : Int) ≤ (k : Int) := by omega
  go_wp2_with fail
  refine (mWhere_any HO1.out.1 (by simp only [List.length_append]; omega)).mono ?_
  rintro x w2 ⟨o, hw, rfl, ho⟩
  have HW := hd hw
  have HO2 := hd (HO1.out.trans ho)
  have hwl := hw.len
  have ho1 : Px.one? o ≤ 1 := by cases o <;> simp [Px.one?]
  clear ho hw
  generalize hon : Px.one? o = on at *
  have HON := hd hon
  clear hon
  go_wp2_with fail
  refine (mOne_any HO2.out.1 3 (by omega) (by omega)).mono ?_
  rintro x w3 ⟨q, hq, rfl, ho⟩
  have HO3 := hd (HO2.out.trans ho)
  clear ho HO2 HO1
  go_wp2_with fail
  go_loopw [7] (fun i wr => ∃ (k : Nat) (os : List (Px.E × Bool)), k ≤ q ∧ i = .int .i64 k ∧ Hid (os.length = k) ∧ Hid (∀ x ∈ os, Px.EK x.1) ∧ Hid (Out w b ao n c bo m d (l ++ its.flatMap Px.itemN ++ Px.whereN o ++ os.flatMap Px.orderN) wr)) (fun i _ => q - (intOf i).toNat)
  case atStart => exact ⟨0, [], by omega, rfl, rfl, fun x hx => by simp at hx, by have := HO3.out; show Out _ _ _ _ _ _ _ _ _ _; simpa using this⟩
  case round =>
   obtain ⟨k2, os, hk2, rfl, HL2, HI2, HO4⟩ := hrel
   have hlen2 := orders_len HI2.out
   have hle2 := HL2.out
   have hm128 : os.length * 128 ≤ 2 * 128 := Nat.mul_le_mul_right _ (by omega)
   by_cases hlt : k2 < q
   · go_wp2_with fail
     refine (mOne_any HO4.out.1 2 (by omega) (by omega)).mono ?_
     rintro x w4 ⟨z, hz, rfl, ho⟩
     have HO5 := hd (HO4.out.trans ho)
     clear ho
     go_wp2_with fail
     refine (mAdd_any HO5.out.1 (by simp only [List.length_append]; omega) 12 ⟨#[]⟩ (z : Int) 1).mono ?_
     rintro x w5 ⟨rfl, ho⟩
     have HO6 := hd (HO5.out.trans ho)
     clear ho
     go_wp2_with fail
     refine (mExpr_any w5 _ HO6.out.1 (by simp only [List.length_append, List.length_cons, List.length_nil]; omega)).mono ?_
     rintro x w6 ⟨rfl, e1, he1, ho⟩
     have HE1 := hd he1
     have HO7 := hd (HO6.out.trans ho)
     clear ho he1
     go_wp2_with fail
     go_roundw
     case rel =>
      refine ⟨k2 + 1, os ++ [(e1, decide (z = 1))], by omega, by go_num, (by show _ = _; have := HL2.out; simp; omega), (fun x hx => ?_), ?_⟩
      · rcases List.mem_append.1 hx with hx | hx
        · exact HI2.out x hx
        simp at hx; subst hx; exact ek HE1.out
      have := HO7.out
      show Out _ _ _ _ _ _ _ _ _ _
      have hz2 : z = 0 ∨ z = 1 := by omega
      rw [List.flatMap_append]
      rcases hz2 with rfl | rfl <;> simpa [Px.orderN] using this
     case measure => simp [intOf]; omega
   have hkc2 : k2 = q := by omega
   go_wp2_with fail
   refine (mOne_any HO4.out.1 2 (by omega) (by omega)).mono ?_
   rintro x w4 ⟨z, hz, rfl, ho⟩
   have HO5 := hd (HO4.out.trans ho)
   clear ho
   have hz2 : z = 0 ∨ z = 1 := by omega
   have HNE : Hid (its ≠ []) := by
    intro e
    have := HL.out
    rw [e] at this
    simp at this
    omega
   rcases hz2 with rfl | rfl
   · go_wp2_with fail
     go_ret
     refine ⟨its, o, os, none, ⟨HNE.out, by omega, HI.out, HW.out, by omega, HI2.out, fun n e => by cases e⟩, ?_, ?_⟩
     · rw [HON.out]
       have := HL.out
       have := HL2.out
       refine ret_int ?_
       simp only [Px.one?]
       omega
     have := HO5.out
     simpa [chN, Px.limN, laa] using this
   go_wp2_with fail
   refine (mOne_any HO5.out.1 1000000001 (by omega) (by omega)).mono ?_
   rintro x w5 ⟨y, hy, rfl, ho⟩
   have HO6 := hd (HO5.out.trans ho)
   clear ho
   go_wp2_with fail
   refine (mAdd_any HO6.out.1 (by simp only [List.length_append]; omega) 13 ⟨#[]⟩ (y : Int) 0).mono ?_
   rintro x w6 ⟨rfl, ho⟩
   have HO7 := hd (HO6.out.trans ho)
   clear ho
   go_wp2_with fail
   go_ret
   refine ⟨its, o, os, some y, ⟨HNE.out, by omega, HI.out, HW.out, by omega, HI2.out, fun n e => by cases e; omega⟩, ?_, ?_⟩
   · rw [HON.out]
     have := HL.out
     have := HL2.out
     refine ret_int ?_
     simp only [Px.one?]
     omega
   have := HO7.out
   simpa [chN, Px.limN, laa] using this
end Mk
end
section
namespace Mk
variable {w : World} {b n c m d : Nat} {ao bo : Option Addr} {l : List Px.Nd}
def ColK (x : Lx.Bs × Nat) : Prop := Px.isName x.1 = true ∧ 1 ≤ x.2 ∧ x.2 ≤ 7 ∧ x.2 ≠ 4
theorem mColumns_any (h : At w b ao n c bo m d l) (hl : l.length ≤ 60000) :
   Calls Tryz.prog 22 #[.pointer (some ⟨b, 0, none⟩)] w fun x w' => ∃ cs : List (Lx.Bs × Nat), 1 ≤ cs.length ∧ cs.length ≤ 6 ∧ (∀ x ∈ cs, ColK x) ∧ x = .returned (.int .i64 (cs.length : Int)) ∧ Out w b ao n c bo m d (l ++ cs.map Px.colN) w' := by
 have HX := hd h
 clear h
 go_enter Tryz.func22, Tryz.ntmps22
 go_wp2_with fail
 refine (mOne_any HX.out 6 (by omega) (by omega)).mono ?_
 rintro x w1 ⟨r, hr, rfl, ho⟩
 have HO := hd ho
 clear ho
 go_wp2_with fail
 go_loopw [4] (fun i wr => ∃ (k : Nat) (cs : List (Lx.Bs × Nat)), k ≤ 1 + r ∧ i = .int .i64 k ∧ Hid (cs.length = k) ∧ Hid (∀ x ∈ cs, ColK x) ∧ Hid (Out w b ao n c bo m d (l ++ cs.map Px.colN) wr)) (fun i _ => 1 + r - (intOf i).toNat)
 case atStart => exact ⟨0, [], by omega, rfl, rfl, fun x hx => by simp at hx, by have := HO.out; show Out _ _ _ _ _ _ _ _ _ _; simpa using this⟩
 case round =>
  obtain ⟨k, cs, hk, rfl, HL, HI, HO1⟩ := hrel
  have hle := HL.out
  by_cases hlt : k < 1 + r
  · have hlt' : (k : Int) < 1 + (r : Int) := by omega
    go_wp2_with fail
    refine (mName_any HO1.out.1).mono ?_
    rintro x w2 ⟨s, rfl, ht, ho⟩
    have HO2 := hd (HO1.out.trans ho)
    have HT := hd ht
    clear ho ht
    go_wp2_with fail
    refine (mOne_any HO2.out.1 3 (by omega) (by omega)).mono ?_
    rintro x w3 ⟨q, hq, rfl, ho⟩
    have HO3 := hd (HO2.out.trans ho)
    clear ho
    go_wp2_with fail
    refine (mOne_any HO3.out.1 2 (by omega) (by omega)).mono ?_
    rintro x w4 ⟨z, hz, rfl, ho⟩
    have HO4 := hd (HO3.out.trans ho)
    clear ho
    go_wp2_with fail
    refine (mAdd_any HO4.out.1 (by simp only [List.length_append, List.length_map]; omega) 2 s _ 0).mono ?_
    rintro x w5 ⟨rfl, ho⟩
    have HO5 := hd (HO4.out.trans ho)
    clear ho
    go_wp2_with fail
    go_roundw
    case rel =>
     refine ⟨k + 1, cs ++ [(s.data.toList, 1 + q + 4 * z)], by omega, by go_num, (by show _ = _; have := HL.out; simp; omega), (fun x hx => ?_), ?_⟩
     · rcases List.mem_append.1 hx with hx | hx
       · exact HI.out x hx
       simp at hx; subst hx; exact ⟨HT.out, by simp only; omega, by simp only; omega, by simp only; omega⟩
     have := HO5.out
     show Out _ _ _ _ _ _ _ _ _ _
     rw [List.map_append, List.map_singleton, ← laa]
     have e : Px.colN (s.data.toList, 1 + q + 4 * z) = ⟨2, s.data.toList, 1 + (q : Int) + 4 * (z : Int), 0⟩ := by
      simp only [Px.colN]
      congr 1
     rw [e]
     exact this
    case measure => simp [intOf]; omega
  have hkc : k = 1 + r := by omega
  have hnlt : 1 + (r : Int) ≤ (k : Int) := by omega
  go_wp2_with fail
  go_ret
  exact ⟨cs, by omega, by omega, HI.out, ret_int (by omega), HO1.out⟩
theorem sets_len {r : List (Lx.Bs × Px.E)} (h : ∀ x ∈ r, Px.isName x.1 = true ∧ Px.EK x.2) : (r.flatMap Px.setN).length ≤ r.length * 128 :=
 Px.flat_le2 Px.setN 128 r fun a ha => by
  have := (h _ ha).2.len
  simp only [Px.setN, List.length_cons]
  omega
theorem mSets_any (h : At w b ao n c bo m d l) (hl : l.length ≤ 60000) :
   Calls Tryz.prog 25 #[.pointer (some ⟨b, 0, none⟩)] w fun x w' => ∃ (ss : List (Lx.Bs × Px.E)) (o : Option Px.E), ss ≠ [] ∧ ss.length ≤ 2 ∧ (∀ x ∈ ss, Px.isName x.1 = true ∧ Px.EK x.2) ∧ Px.WK o ∧ x = .returned (.int .i64 ((ss.length + Px.one? o : Nat) : Int)) ∧ Out w b ao n c bo m d (l ++ (ss.flatMap Px.setN ++ Px.whereN o)) w' := by
 have HX := hd h
 clear h
 go_enter Tryz.func25, Tryz.ntmps25
 go_wp2_with fail
 refine (mOne_any HX.out 2 (by omega) (by omega)).mono ?_
 rintro x w1 ⟨r, hr, rfl, ho⟩
 have HO := hd ho
 clear ho
 go_wp2_with fail
 go_loopw [4] (fun i wr => ∃ (k : Nat) (ss : List (Lx.Bs × Px.E)), k ≤ 1 + r ∧ i = .int .i64 k ∧ Hid (ss.length = k) ∧ Hid (∀ x ∈ ss, Px.isName x.1 = true ∧ Px.EK x.2) ∧ Hid (Out w b ao n c bo m d (l ++ ss.flatMap Px.setN) wr)) (fun i _ => 1 + r - (intOf i).toNat)
 case atStart => exact ⟨0, [], by omega, rfl, rfl, fun x hx => by simp at hx, by have := HO.out; show Out _ _ _ _ _ _ _ _ _ _; simpa using this⟩
 case round =>
  obtain ⟨k, ss, hk, rfl, HL, HI, HO1⟩ := hrel
  have hlen := sets_len HI.out
  have hle := HL.out
  have hm128 : ss.length * 128 ≤ 2 * 128 := Nat.mul_le_mul_right _ (by omega)
  by_cases hlt : k < 1 + r
  · have hlt' : (k : Int) < 1 + (r : Int) := by omega
    go_wp2_with fail
    refine (mName_any HO1.out.1).mono ?_
    rintro x w2 ⟨s, rfl, ht, ho⟩
    have HO2 := hd (HO1.out.trans ho)
    have HT := hd ht
    clear ho ht
    go_wp2_with fail
    refine (mAdd_any HO2.out.1 (by simp only [List.length_append]; omega) 8 s 0 1).mono ?_
    rintro x w3 ⟨rfl, ho⟩
    have HO3 := hd (HO2.out.trans ho)
    clear ho
    go_wp2_with fail
    refine (mExpr_any w3 _ HO3.out.1 (by simp only [List.length_append, List.length_cons, List.length_nil]; omega)).mono ?_
    rintro x w4 ⟨rfl, e1, he1, ho⟩
    have HE1 := hd he1
    have HO4 := hd (HO3.out.trans ho)
    clear ho he1
    go_wp2_with fail
    go_roundw
    case rel =>
     refine ⟨k + 1, ss ++ [(s.data.toList, e1)], by omega, by go_num, (by show _ = _; have := HL.out; simp; omega), (fun x hx => ?_), ?_⟩
     · rcases List.mem_append.1 hx with hx | hx
       · exact HI.out x hx
       simp at hx; subst hx; exact ⟨HT.out, ek HE1.out⟩
     have := HO4.out
     show Out _ _ _ _ _ _ _ _ _ _
     rw [List.flatMap_append]
     simpa [Px.setN] using this
    case measure => simp [intOf]; omega
  have hkc : k = 1 + r := by omega
  have hnlt : 1 + (r : Int) ≤ (k : Int) := by omega
  go_wp2_with fail
  refine (mWhere_any HO1.out.1 (by simp only [List.length_append]; omega)).mono ?_
  rintro x w2 ⟨o, hw, rfl, ho⟩
  have HW := hd hw
  have HO2 := hd (HO1.out.trans ho)
  have ho1 : Px.one? o ≤ 1 := by cases o <;> simp [Px.one?]
  clear ho hw
  generalize hon : Px.one? o = on at *
  have HON := hd hon
  clear hon
  go_wp2_with fail
  go_ret
  refine ⟨ss, o, ?_, by omega, HI.out, HW.out, ?_, ?_⟩
  · intro e
    have := HL.out
    rw [e] at this
    simp at this
    omega
  · rw [HON.out]
    exact ret_int (by omega)
  have := HO2.out
  rwa [laa] at this
theorem exprs_len {r : List Px.E} (h : ∀ x ∈ r, Px.EK x) : (r.flatMap Px.E.nodes).length ≤ r.length * 127 :=
 Px.flat_le2 Px.E.nodes 127 r fun a ha => (h _ ha).len
def RowK (x : List Px.E) : Prop := x ≠ [] ∧ x.length ≤ 3 ∧ ∀ e ∈ x, Px.EK e
theorem rows_len {r : List (List Px.E)} (h : ∀ x ∈ r, RowK x) : (r.flatMap Px.rowN).length ≤ r.length * 382 :=
 Px.flat_le2 Px.rowN 382 r fun a ha => by
  have := exprs_len (h _ ha).2.2
  have := (h _ ha).2.1
  simp only [Px.rowN, List.length_cons]
  omega
theorem mRows_any (h : At w b ao n c bo m d l) (hl : l.length ≤ 60000) :
   Calls Tryz.prog 23 #[.pointer (some ⟨b, 0, none⟩)] w fun x w' => ∃ rs : List (List Px.E), rs ≠ [] ∧ rs.length ≤ 2 ∧ (∀ x ∈ rs, RowK x) ∧ x = .returned (.int .i64 (rs.length : Int)) ∧ Out w b ao n c bo m d (l ++ rs.flatMap Px.rowN) w' := by
 have HX := hd h
 clear h
 go_enter Tryz.func23, Tryz.ntmps23
 go_wp2_with fail
 refine (mOne_any HX.out 2 (by omega) (by omega)).mono ?_
 rintro x w1 ⟨r, hr, rfl, ho⟩
 have HO := hd ho
 clear ho
 go_wp2_with fail
 go_loopw [4] (fun i wr => ∃ (k : Nat) (rs : List (List Px.E)), k ≤ 1 + r ∧ i = .int .i64 k ∧ Hid (rs.length = k) ∧ Hid (∀ x ∈ rs, RowK x) ∧ Hid (Out w b ao n c bo m d (l ++ rs.flatMap Px.rowN) wr)) (fun i _ => 1 + r - (intOf i).toNat)
 case atStart => exact ⟨0, [], by omega, rfl, rfl, fun x hx => by simp at hx, by have := HO.out; show Out _ _ _ _ _ _ _ _ _ _; simpa using this⟩
 case round =>
  obtain ⟨k, rs, hk, rfl, HL, HI, HO1⟩ := hrel
  have hlen := rows_len HI.out
  have hle := HL.out
  have hm382 : rs.length * 382 ≤ 2 * 382 := Nat.mul_le_mul_right _ (by omega)
  by_cases hlt : k < 1 + r
  · have hlt' : (k : Int) < 1 + (r : Int) := by omega
    go_wp2_with fail
    refine (mOne_any HO1.out.1 3 (by omega) (by omega)).mono ?_
    rintro x w2 ⟨q, hq, rfl, ho⟩
    have HO2 := hd (HO1.out.trans ho)
    clear ho
    go_wp2_with fail
    refine (mAdd_any HO2.out.1 (by simp only [List.length_append]; omega) 5 ⟨#[]⟩ 0 _).mono ?_
    rintro x w3 ⟨rfl, ho⟩
    have HO3 := hd (HO2.out.trans ho)
    clear ho
    obtain ⟨wo, hwo⟩ : ∃ wo, wo = wr := ⟨_, rfl⟩
    go_wp2_with fail
    go_loopw [6] (fun i wr => ∃ (k2 : Nat) (es : List Px.E), k2 ≤ 1 + q ∧ i = .int .i64 k2 ∧ Hid (es.length = k2) ∧ Hid (∀ x ∈ es, Px.EK x) ∧ Hid (Out w b ao n c bo m d (l ++ rs.flatMap Px.rowN ++ (⟨5, [], 0, 1 + (q : Int)⟩ :: es.flatMap Px.E.nodes)) wr)) (fun i _ => 1 + q - (intOf i).toNat)
    case atStart => exact ⟨0, [], by omega, rfl, rfl, fun x hx => by simp at hx, by have := HO3.out; show Out _ _ _ _ _ _ _ _ _ _; simpa using this⟩
    case round =>
     obtain ⟨k2, es, hk2, rfl, HL2, HI2, HO4⟩ := hrel
     have hlen2 := exprs_len HI2.out
     have hle2 := HL2.out
     have hm127 : es.length * 127 ≤ 3 * 127 := Nat.mul_le_mul_right _ (by omega)
     by_cases hlt2 : k2 < 1 + q
     · have hlt2' : (k2 : Int) < 1 + (q : Int) := by omega
       go_wp2_with fail
       refine (mExpr_any _ _ HO4.out.1 (by simp only [List.length_append, List.length_cons]; omega)).mono ?_
       rintro x w4 ⟨rfl, e1, he1, ho⟩
       have HE1 := hd he1
       have HO5 := hd (HO4.out.trans ho)
       clear ho he1
       go_wp2_with fail
       go_roundw
       case rel =>
        refine ⟨k2 + 1, es ++ [e1], by omega, by go_num, (by show _ = _; have := HL2.out; simp; omega), (fun x hx => ?_), ?_⟩
        · rcases List.mem_append.1 hx with hx | hx
          · exact HI2.out x hx
          simp at hx; subst hx; exact ek HE1.out
        have := HO5.out
        show Out _ _ _ _ _ _ _ _ _ _
        rw [List.flatMap_append]
        simpa using this
       case measure => simp [intOf]; omega
     have hkc2 : k2 = 1 + q := by omega
     have hnlt2 : 1 + (q : Int) ≤ (k2 : Int) := by omega
     go_wp2_with fail
     go_roundw
     case rel =>
      refine ⟨k + 1, rs ++ [es], by omega, by go_num, (by show _ = _; have := HL.out; simp; omega), (fun x hx => ?_), ?_⟩
      · rcases List.mem_append.1 hx with hx | hx
        · exact HI.out x hx
        simp at hx; subst hx
        refine ⟨?_, by have := HL2.out; omega, HI2.out⟩
        intro e
        have := HL2.out
        rw [e] at this
        simp at this
        omega
      have := HO4.out
      show Out _ _ _ _ _ _ _ _ _ _
      rw [List.flatMap_append]
      have e : ([es] : List (List Px.E)).flatMap Px.rowN = ⟨5, [], 0, 1 + (q : Int)⟩ :: es.flatMap Px.E.nodes := by
       have := HL2.out
       simp [Px.rowN]
       omega
      rw [e, ← laa]
      exact this
     case measure => simp [intOf]; omega
  have hkc : k = 1 + r := by omega
  have hnlt : 1 + (r : Int) ≤ (k : Int) := by omega
  go_wp2_with fail
  go_ret
  refine ⟨rs, ?_, by omega, HI.out, ret_int (by omega), HO1.out⟩
  intro e
  have := HL.out
  rw [e] at this
  simp at this
  omega
end Mk
end
end Go.Proofs.YtkcakbgcfnhgaaaGreatDoor
