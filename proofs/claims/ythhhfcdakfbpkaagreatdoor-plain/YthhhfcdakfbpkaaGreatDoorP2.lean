/- Parts of the proof -/
import Derived.Test.YthhhfcdakfbpkaaGreatDoorP1
import Derived.Test.YthhhfcdakfbpkaaGreatDoorPShelf
import Derived.Deep.RegionHeld3
import Derived.Deep.DrawnRows
import Derived.Deep.RegionWith
import Derived.Test.YthhhfcdakfbpkaaGreatDoorRows
import Derived.Lib.LaidU8T
import Derived.PinnedBridge
import Derived.Deep.Strs
import Derived.Lib.ItoaMem
import Derived.Lib.Replace
import Derived.Lib.CountLaws
import Derived.Lib.IndexBytes
namespace Go.Proofs.YthhhfcdakfbpkaaGreatDoor
set_option linter.unusedSimpArgs false
set_option linter.unusedVariables false
set_option maxRecDepth 100000
set_option maxHeartbeats 16000000
open Go.RowKit
variable {w w' w1 : World} {B g k n st sz : Nat} {s : ByteArray} {lv : Value} {dp : Bool} {t : TypeId}
def kT : List Lx.Bs := Lx.EB ++ Lx.ones
structure Env (w : World) : Prop where
 tabs : Lib.Utf8Tabs 5 6 w
 kws : ∃ t fr, w.heap[4]? = some (.cells (eZ Lx.keys) t fr)
 sgs : ∃ t fr, w.heap[1]? = some (.cells (eZ kT) t fr)
 room : 12 ≤ w.heap.size
theorem Env.grown (h : Env w) (hg : w.grownBy w' (some B)) (hB : 12 ≤ B) : Env w' := by
 have hr := h.room
 have hb : ∀ k, k < 12 → w'.heap[k]? = w.heap[k]? := fun k hk => hg.block k (by omega) (by simp; omega)
 refine ⟨⟨fun c hc => ?_, fun i hi => ?_⟩, ?_, ?_, Nat.le_trans hr hg.size⟩
 · rw [World.cell?_of_block (w := w) (hb _ (by simp))]; exact h.tabs.1 c hc
 · rw [World.cell?_of_block (w := w) (hb _ (by simp)), World.cell?_of_block (w := w) (hb _ (by simp))]; exact h.tabs.2 i hi
 · rw [hb _ (by simp)]; exact h.kws
 rw [hb _ (by simp)]; exact h.sgs
theorem Env.below (h : Env w) (hb : Below w.heap.size w w') : Env w' := h.grown (B := w.heap.size) (Below.grownBy hb) h.room
structure NK (w : World) : Prop where
 tabs : Lib.Utf8Tabs 5 6 w
 kws : ∃ t fr, w.heap[4]? = some (.cells (eZ Lx.keys) t fr)
 room : 12 ≤ w.heap.size
theorem Env.weak (h : Env w) : NK w := ⟨h.tabs, h.kws, h.room⟩
theorem ay {w2 : World} {row : Option Nat} (h : w.grownBy w1 row) (k : w1.grownBy w2 row) : w.grownBy w2 row :=
 ⟨k.os.trans h.os, k.tape.trans h.tape, k.output.trans h.output, Nat.le_trans h.size k.size, fun i hi hne => (k.block i (nlA hi h.size) hne).trans (h.block i hi hne)⟩
theorem grownBy_refl (w : World) (row : Option Nat) : w.grownBy w row := ⟨rfl, rfl, rfl, nlr _, fun _ _ _ => rfl⟩
theorem oD (w : World) (B i : Nat) (v : Value) : w.grownBy (w.setCell ⟨B, i, none⟩ v) (some B) :=
 ⟨rfl, rfl, rfl, by simp [World.setCell], fun k _ hne => Below.heap_setCell w _ v k (by simpa using hne)⟩
theorem grownBy_drew {row : Option Nat} (h : w.grownBy w1 row) : w.grownBy w1.drew row := ⟨h.os, h.tape, h.output, h.size, h.block⟩
structure Rd (w : World) (B : Nat) (s : ByteArray) (k st : Nat) : Prop where
 blk : af w B #[.string s, .int .i64 (k : Int), .int .i64 (st : Int)] 143
 low : 12 ≤ B
 env : Env w
 le : k ≤ s.size
 small : s.size ≤ 2000
theorem Rd.below (h : Rd w B s k st) (hb : Below w.heap.size w w') : Rd w' B s k st :=
 ⟨h.blk.below hb h.blk.lt, h.low, h.env.below hb, h.le, h.small⟩
theorem Rd.drew (h : Rd w B s k st) : Rd w.drew B s k st :=
 ⟨h.blk, h.low, ⟨h.env.tabs, h.env.kws, h.env.sgs, h.env.room⟩, h.le, h.small⟩
theorem Rd.set1 (h : Rd w B s k st) (j : Nat) (hj : j ≤ s.size) : Rd (w.setCell ⟨B, 1, none⟩ (.int .i64 (j : Int))) B s j st :=
 ⟨h.blk.set 1 _, h.low, h.env.grown (oD w B 1 _) h.low, hj, h.small⟩
theorem Rd.set2 (h : Rd w B s k st) (j : Nat) : Rd (w.setCell ⟨B, 2, none⟩ (.int .i64 (j : Int))) B s k j :=
 ⟨h.blk.set 2 _, h.low, h.env.grown (oD w B 2 _) h.low, h.le, h.small⟩
def O3 (r : Int) : Bool := decide (r = 9 ∨ r = 10 ∨ r = 13 ∨ r = 32)
def yJ (r : Int) : Bool := decide (r ≠ 10)
def wW (r : Int) : Bool := decide (48 ≤ r ∧ r ≤ 57)
def Lc (r : Int) : Bool := decide ((97 ≤ r ∧ r ≤ 122) ∨ (65 ≤ r ∧ r ≤ 90) ∨ r = 95 ∨ (48 ≤ r ∧ r ≤ 57))
theorem su (r : Int) (w : World) : Calls Tryz.prog 111 #[.int .i32 r] w fun e w' => e = .returned (.bool (O3 r)) ∧ w' = w := by
 go_enter Tryz.func111, Tryz.ntmps111;go_wp2
 all_goals
  go_ret;refine ⟨fV ?_, rfl⟩;rw [Bool.eq_iff_iff]; simp [O3]; omega
theorem uB (r : Int) (w : World) : Calls Tryz.prog 113 #[.int .i32 r] w fun e w' => e = .returned (.bool (yJ r)) ∧ w' = w := by
 go_enter Tryz.func113, Tryz.ntmps113;go_wp2
 all_goals
  go_ret;refine ⟨fV ?_, rfl⟩;rw [Bool.eq_iff_iff]; simp [yJ]
theorem jw (r : Int) (w : World) : Calls Tryz.prog 173 #[.int .i32 r] w fun e w' => e = .returned (.bool (wW r)) ∧ w' = w := by
 go_enter Tryz.func173, Tryz.ntmps173;go_wp2
 all_goals
  go_ret;refine ⟨fV ?_, rfl⟩;rw [Bool.eq_iff_iff]; simp [wW]; omega
theorem jf (r : Int) (w : World) : Calls Tryz.prog 175 #[.int .i32 r] w fun e w' => e = .returned (.bool (Lc r)) ∧ w' = w := by
 go_enter Tryz.func175, Tryz.ntmps175;go_wp2_with (go_at_call 173; refine (jw _ _).mono ?_; rintro e w' ⟨rfl, rfl⟩)
 all_goals
  go_ret;refine ⟨fV ?_, rfl⟩;rw [Bool.eq_iff_iff]; simp [Lc, wW] <;> omega
theorem iV (w : World) (B : Nat) (s : ByteArray) (k st : Nat) (c : Int) (h : Rd w B s k st) :
   Calls Tryz.prog 228 #[.pointer (some ⟨B, 0, none⟩), .int .i64 c] w fun e w' => e = .panicked [{ v := .iface 74 (.agg #[.int .i64 (st : Int), .int .i64 c]), recovered := false }] ∧ w' = w := by
 obtain ⟨⟨b0, b1, b2⟩, b3, b4, b5⟩ := h.blk.three;go_enter Tryz.func228, Tryz.ntmps228;go_wp2;exact ⟨rfl, rfl, rfl⟩
def bB (s : ByteArray) (k : Nat) : Int × Nat :=
 if k < s.size then (if Lx.aI (s.data.toList.drop k) = 0 then (-2, 1) else ((Utf8.decode s k).1, Lx.aI (s.data.toList.drop k))) else (-1, 0)
theorem get_extract (s : ByteArray) (k j : Nat) : (s.extract k s.size).get! j = s.get! (k + j) := by
 have e : (s.extract k s.size).data.toList = s.data.toList.drop k := Lib.extract_to_end s k
 have g : ∀ (t : ByteArray) (i : Nat), t.get! i = (t.data.toList[i]?).getD default := by
  intro t i;show t.data[i]! = _;rw [getElem!_def];simp only [Array.getElem?_toList]
  cases t.data[i]? <;> rfl
 rw [g, g, e, List.getElem?_drop]
theorem decode_extract (s : ByteArray) (k : Nat) (h : k ≤ s.size) : Utf8.decode (s.extract k s.size) 0 = Utf8.decode s k := by
 rw [Lib.decode_at, Lib.decode_at];rw [get_extract, get_extract, get_extract, get_extract];simp only [Nat.zero_add, Nat.add_zero, Nat.sub_zero]
 congr 1
 simp
theorem sG (s : ByteArray) (k : Nat) (h : k < s.size) : Lib.decodeGo (s.extract k s.size) = Utf8.decode s k := by
 unfold Lib.decodeGo;rw [if_neg (by simp; omega), decode_extract s k (by omega)]
theorem yS (s : ByteArray) (k : Nat) (h : ¬ k < s.size) : Lib.decodeGo (s.extract k s.size) = (65533, 0) := by
 unfold Lib.decodeGo;rw [if_pos (by simp; omega)]
theorem o9 (w : World) (B : Nat) (s : ByteArray) (k st : Nat) (h : Rd w B s k st) :
   Calls Tryz.prog 172 #[.pointer (some ⟨B, 0, none⟩)] w fun e w' => e = .returned (.tuple #[.int .i32 (bB s k).1, .int .i64 ((bB s k).2 : Int)]) ∧ Below w.heap.size w w' := by
 obtain ⟨⟨b0, b1, b2⟩, b3, b4, b5⟩ := h.blk.three;have hle := h.le;have hsm := h.small;by_cases hk : k < s.size
 · by_cases hc : Lx.aI (s.data.toList.drop k) = 0
   · have hp : bB s k = (-2, 1) := by unfold bB; rw [if_pos hk, if_pos hc]
     have hd := (sG s k hk).trans (oW s k hk hc).1;rw [hp];clear hp hc;go_enter Tryz.func172, Tryz.ntmps172;go_wp2
     go_region_with (go_at_call 227; refine (Tryz.utf8_DecodeRuneInString _ _ h.drew.env.tabs).mono ?_; rintro e w1 ⟨rfl, hb1⟩; simp only [hd])
     all_goals
      go_wp2
      go_ret2
      exact ⟨rfl, (Below.refl _ _).drew.trans (by assumption)⟩
   obtain ⟨hg1, hg2, hg3⟩ := ky s k hk hc
   have hp : bB s k = (((Utf8.decode s k).1 : Int), (Utf8.decode s k).2) := by unfold bB; rw [if_pos hk, if_neg hc, hg1]
   have hd := sG s k hk
   have hx : ¬ ((Utf8.decode s k).1 = 65533 ∧ (Utf8.decode s k).2 ≤ 1) := by
    rintro ⟨q1, q2⟩;rcases hg3 with ⟨_, q3, q4⟩ | ⟨q3, _⟩ <;> omega
   rw [hp];generalize Utf8.decode s k = d at *;obtain ⟨c, n⟩ := d;clear hp hc hg1 hg2 hg3;simp only;by_cases hc1 : c = 65533
   · subst hc1
     have hn : 1 < n := by simp at hx; omega
     clear hx;go_enter Tryz.func172, Tryz.ntmps172;go_wp2
     go_region_with (go_at_call 227; refine (Tryz.utf8_DecodeRuneInString _ _ h.drew.env.tabs).mono ?_; rintro e w1 ⟨rfl, hb1⟩; simp only [hd])
     all_goals
      go_wp2
      go_ret2
      exact ⟨rfl, (Below.refl _ _).drew.trans (by assumption)⟩
   have hn : ¬ (c : Int) = 65533 := by omega
   clear hx hc1;go_enter Tryz.func172, Tryz.ntmps172;go_wp2
   go_region_with (go_at_call 227; refine (Tryz.utf8_DecodeRuneInString _ _ h.drew.env.tabs).mono ?_; rintro e w1 ⟨rfl, hb1⟩; simp only [hd])
   all_goals
    go_wp2
    go_ret2
    exact ⟨rfl, (Below.refl _ _).drew.trans (by assumption)⟩
 have hp : bB s k = (-1, 0) := by unfold bB; rw [if_neg hk]
 have hd := yS s k hk;rw [hp];clear hp;go_enter Tryz.func172, Tryz.ntmps172;go_wp2
 go_region_with (go_at_call 227; refine (Tryz.utf8_DecodeRuneInString _ _ h.drew.env.tabs).mono ?_; rintro e w1 ⟨rfl, hb1⟩; simp only [hd])
 all_goals
  go_wp2
  go_ret2
  exact ⟨rfl, (Below.refl _ _).drew.trans (by assumption)⟩
section
namespace Px
open Lx (Bs Tok)
inductive E where
 | null
 | bool (b : Bool)
 | num (z : Int)
 | str (s : Bs)
 | nm (s : Bs)
 | un (k : Nat) (e : E)
 | bin (k : Nat) (a b : E)
def E.nodes : E → List Nd
 | .null => leaf 14 [] 0
 | .bool b => leaf 15 [] (if b = true then 1 else 0)
 | .num z => leaf 16 [] z
 | .str s => leaf 17 s 0
 | .nm s => leaf 18 s 0
 | .un k e => aS k e.nodes
 | .bin k a b => bO k a.nodes b.nodes
def E.depth : E → Nat
 | .un _ e => e.depth + 1
 | .bin _ a b => max a.depth b.depth + 1
 | _ => 1
def E.size : E → Nat
 | .un _ e => e.size + 1
 | .bin _ a b => a.size + b.size + 1
 | _ => 1
def E.isNum : E → Bool
 | .num _ => true
 | _ => false
def E.ok (n : Nat) : E → Prop
 | .num z => -9223372036854775808 ≤ z ∧ z ≤ 9223372036854775807
 | .str s => s.length ≤ n
 | .nm s => s.length ≤ 30
 | .un k e => 19 ≤ k ∧ k ≤ 22 ∧ (k = 19 → e.isNum = false) ∧ e.ok n
 | .bin k a b => 23 ≤ k ∧ k ≤ 36 ∧ a.ok n ∧ b.ok n
 | _ => True
theorem E.yR (e : E) : e.nodes.length = e.size := by
 induction e with
 | un k e ih => simp [E.nodes, E.size, aS, ih]
 | bin k a b iha ihb => simp [E.nodes, E.size, bO, iha, ihb]
 | _ => simp [E.nodes, E.size, leaf]
theorem E.size_pos (e : E) : 1 ≤ e.size := by cases e <;> simp [E.size]
theorem E.pW (e : E) : e.depth ≤ e.size := by
 induction e with
 | un k e ih => simp [E.depth, E.size]; omega
 | bin k a b iha ihb => simp [E.depth, E.size]; omega
 | _ => simp [E.depth, E.size]
theorem E.tree (e : E) (h : e.ok n) : Df e.nodes e.depth := by
 induction e with
 | un k e ih => exact (ih h.2.2.2).aS _ (by have := h.1; have := h.2.1; simp [fe]; omega)
 | bin k a b iha ihb => exact (iha h.2.2.1).bO _ (by have := h.1; have := h.2.1; simp [fe]; omega) (ihb h.2.2.2)
 | null => exact Df.leaf _ _ _ (by decide)
 | bool b => exact Df.leaf _ _ _ (by decide)
 | num b => exact Df.leaf _ _ _ (by decide)
 | str b => exact Df.leaf _ _ _ (by decide)
 | nm b => exact Df.leaf _ _ _ (by decide)
theorem uj (p : Nat) (z : Int) (r : List Tok) : negate p (E.num z).nodes r = if z = bot then some (.error (p, 3)) else some (.ok ((E.num (-z)).nodes, r)) := by
 simp only [E.nodes, leaf, negate];rw [if_neg (by decide)]
theorem DR (p n : Nat) (e : E) (r : List Tok) (h : e.isNum = false) (ho : e.ok n) : negate p e.nodes r = some (.ok ((E.un 19 e).nodes, r)) := by
 cases e with
 | num z => simp [E.isNum] at h
 | un k e =>
  have := ho.1; have := ho.2.1;simp only [E.nodes, aS, negate];rw [if_pos (by omega)]; rfl
 | bin k a b =>
  have := ho.1; have := ho.2.1;simp only [E.nodes, bO, negate];rw [if_pos (by omega)]; rfl
 | _ =>
  simp only [E.nodes, leaf, negate];rw [if_pos (by decide)]; rfl
end Px
end
section
namespace Px
open Lx (Bs Tok)
abbrev Rg (α : Type) := List Tok → iZ α → Prop
def bY {α β : Type} (f : α → β) : iZ α → iZ β
 | .error e => .error e
 | .ok (a, q) => .ok (f a, q)
def Rg.seq {α β : Type} (x : Rg α) (f : α → Rg β) : Rg β := fun ts r => ∃ r1, x ts r1 ∧ Then r1 f r
theorem Rg.err {α β : Type} {x : Rg α} {f : α → Rg β} {ts : List Tok} {e : Nat × Nat} (h : x ts (.error e)) : Rg.seq x f ts (.error e) := ⟨_, h, rfl⟩
theorem Rg.go {α β : Type} {x : Rg α} {f : α → Rg β} {ts q : List Tok} {a : α} {r : iZ β} (h : x ts (.ok (a, q))) (h' : f a q r) : Rg.seq x f ts r := ⟨_, h, h'⟩
def Rg.ret {α : Type} (a : α) : Rg α := fun ts r => r = .ok (a, ts)
def bL (sz : Nat) (s : Bs) : Rg Unit := fun ts r => must sz s ts = some r
def dB (sz : Nat) : Rg Bs := fun ts r => name sz ts = some r
def A9 (sz : Nat) : Rg E := fun ts r => Ex sz 1 [] ts (bY E.nodes r) ∧ ∀ e q, r = .ok (e, q) → e.ok 2000 ∧ e.size + q.length ≤ ts.length
inductive Reach {α : Type} (x : Nat → Rg α) (ts : List Tok) : List α → List Tok → Prop
 | first {a : α} {q : List Tok} : x 0 ts (.ok (a, q)) → Reach x ts [a] q
 | step {l : List α} {q : List Tok} {a : α} {q' : List Tok} : Reach x ts l q → sees jd q = true → x l.length q.tail (.ok (a, q')) → Reach x ts (l ++ [a]) q'
inductive Sep {α : Type} (x : Nat → Rg α) (ts : List Tok) : iZ (List α) → Prop
 | err0 {e : Nat × Nat} : x 0 ts (.error e) → Sep x ts (.error e)
 | err {l : List α} {q : List Tok} {e : Nat × Nat} : Reach x ts l q → sees jd q = true → x l.length q.tail (.error e) → Sep x ts (.error e)
 | stop {l : List α} {q : List Tok} : Reach x ts l q → sees jd q = false → Sep x ts (.ok (l, q))
def jr {β : Type} (item : Nat → β → List Tok → Out β) (n : Nat) (b : β) (q : List Tok) : Out β := if sees jd q = true then sep item n b q.tail else some (.ok (b, q))
theorem eu {β : Type} (item : Nat → β → List Tok → Out β) (n : Nat) (a : β) (ts : List Tok) : sep item (n + 1) a ts = aD (item n a ts) (jr item n) := rfl
theorem aC {β : Type} {item : Nat → β → List Tok → Out β} (h : ∀ b ts, dA fun n => item n b ts) : ∀ b ts, dA fun n => sep item n b ts := by
 have key : ∀ n k b ts r, n ≤ k → sep item n b ts = some r → sep item k b ts = some r := by
  intro n
  induction n with
  | zero => intro k b ts r _ hh; cases hh
  | succ n ih =>
   intro k b ts r hk hh
   cases k with
   | zero => omega
   | succ k =>
    rw [eu] at hh ⊢;rcases uM hh with ⟨e, h1, rfl⟩ | ⟨a, q, h1, h2⟩
    · rw [show item k b ts = _ from h b ts n k _ (by omega) h1]; rfl
    rw [show item k b ts = _ from h b ts n k _ (by omega) h1];show jr item k a q = some r;unfold jr at h2 ⊢
    split at h2
    · rename_i c; rw [if_pos c]; exact ih k _ _ _ (by omega) h2
    rename_i c; rw [if_neg c]; exact h2
 intro b ts n k r hnk hh;exact key n k b ts r hnk hh
theorem sw {β : Type} {item : Nat → β → List Tok → Out β} (h : ∀ b ts, dA fun n => item n b ts) (b : β) (q : List Tok) : dA fun n => jr item n b q := by
 unfold jr;exact aW (aC h _ _) (ag _)
def uR {α β : Type} (x : Nat → Rg α) (item : Nat → β → List Tok → Out β) (acc : List α → β) : Prop :=
 ∀ (l : List α) (ts : List Tok) (r : iZ α), x l.length ts r → ∃ n, item n (acc l) ts = some (bY (fun a => acc (l ++ [a])) r)
theorem xY {α β : Type} {x : Nat → Rg α} {item : Nat → β → List Tok → Out β} {acc : List α → β} (hg : ∀ b ts, dA fun n => item n b ts) (hm : uR x item acc) {ts : List Tok} {l : List α} {q : List Tok} (h : Reach x ts l q) :
   ∀ r, (∃ n, jr item n (acc l) q = some r) → ∃ n, sep item n (acc []) ts = some r := by
 induction h with
 | first h1 =>
  rename_i a q;rintro r ⟨n, hn⟩;obtain ⟨k, hk⟩ := hm [] ts _ h1;refine ⟨max n k + 1, ?_⟩;rw [eu, show item (max n k) (acc []) ts = _ from hg _ _ k _ _ (Nat.le_max_right _ _) hk];exact sw hg _ _ n _ _ (Nat.le_max_left _ _) hn
 | step h1 hs hx ih =>
  rename_i l q a q';rintro r ⟨n, hn⟩;obtain ⟨k, hk⟩ := hm l _ _ hx;refine ih r ⟨max n k + 1, ?_⟩;unfold jr;rw [if_pos hs, eu, show item (max n k) (acc l) q.tail = _ from hg _ _ k _ _ (Nat.le_max_right _ _) hk];exact sw hg _ _ n _ _ (Nat.le_max_left _ _) hn
theorem jZ {α β : Type} {x : Nat → Rg α} {item : Nat → β → List Tok → Out β} {acc : List α → β} (hg : ∀ b ts, dA fun n => item n b ts) (hm : uR x item acc) {ts : List Tok} {r : iZ (List α)} (h : Sep x ts r) :
   ∃ n, sep item n (acc []) ts = some (bY acc r) := by
 cases h with
 | err0 h1 =>
  obtain ⟨k, hk⟩ := hm [] ts _ h1;exact ⟨k + 1, by rw [eu, hk]; rfl⟩
 | err h1 hs hx =>
  rename_i l q e;obtain ⟨k, hk⟩ := hm l _ _ hx;refine xY hg hm h1 _ ⟨k + 1, ?_⟩;unfold jr;rw [if_pos hs, eu, hk]; rfl
 | stop h1 hs =>
  refine xY hg hm h1 _ ⟨0, ?_⟩;unfold jr;rw [if_neg (by simp [hs])]
  rfl
def aU {α : Type} (x : Rg α) : Prop := ∀ ts a q, x ts (.ok (a, q)) → q.length ≤ ts.length
theorem Reach.len {α : Type} {x : Nat → Rg α} (hx : ∀ i, aU (x i)) {ts : List Tok} {l : List α} {q : List Tok} (h : Reach x ts l q) : q.length + l.length ≤ ts.length + 1 := by
 induction h with
 | first h1 => have := hx _ _ _ _ h1; simp; omega
 | step h1 hs h2 ih =>
  have := hx _ _ _ _ h2;have := bg hs;simp; omega
inductive St where
 | create (t : Bs) (cols : List (Bs × Nat))
 | drop (t : Bs)
 | insert (t : Bs) (rows : List (List E))
 | delete (t : Bs) (w : Option E)
 | update (t : Bs) (sets : List (Bs × E)) (w : Option E)
 | select (items : List (Option E)) (t : Bs) (w : Option E) (orders : List (E × Bool)) (lim : Option Nat)
def oG (c : Bs × Nat) : Nd := ⟨2, c.1, c.2, 0⟩
def GV (r : List E) : List Nd := ⟨5, [], 0, r.length⟩ :: r.flatMap E.nodes
def BN (s : Bs × E) : List Nd := ⟨8, s.1, 0, 1⟩ :: s.2.nodes
def mO : Option E → List Nd
 | none => [⟨10, [], 0, 0⟩]
 | some e => e.nodes
def dV (o : E × Bool) : List Nd := ⟨12, [], if o.2 = true then 1 else 0, 1⟩ :: o.1.nodes
def d9 : Option E → List Nd
 | none => []
 | some e => aS 11 e.nodes
def mK : Option Nat → List Nd
 | none => []
 | some n => [⟨13, [], n, 0⟩]
def one? {α : Type} : Option α → Nat
 | none => 0
 | some _ => 1
def St.nodes : St → List Nd
 | .create t c => ⟨1, t, 0, c.length⟩ :: c.map oG
 | .drop t => [⟨3, t, 0, 0⟩]
 | .insert t r => ⟨4, t, 0, r.length⟩ :: r.flatMap GV
 | .delete t w => ⟨6, t, 0, one? w⟩ :: d9 w
 | .update t s w => ⟨7, t, 0, s.length + one? w⟩ :: (s.flatMap BN ++ d9 w)
 | .select i t w o l => ⟨9, t, 0, i.length + one? w + o.length + one? l⟩ :: (i.flatMap mO ++ d9 w ++ o.flatMap dV ++ mK l)
def deepest : List E → Nat
 | [] => 0
 | e :: l => max e.depth (deepest l)
def St.exprs : St → List E
 | .create _ _ => []
 | .drop _ => []
 | .insert _ r => r.flatten
 | .delete _ w => w.toList
 | .update _ s w => s.map (·.2) ++ w.toList
 | .select i _ w o _ => i.filterMap id ++ w.toList ++ o.map (·.1)
def fU (sz : Nat) : Rg Nat := fun ts r =>
 if sees lG ts = true then r = .ok (1, ts.tail) else if sees nD ts = true then r = .ok (2, ts.tail) else Rg.seq (bL sz iW) (fun _ => Rg.ret 3) ts r
def jB (sz : Nat) (n : Bs) (k : Nat) : Rg (Bs × Nat) := fun ts r =>
 if sees ko ts = true then Rg.seq (bL sz bf) (fun _ => Rg.ret (n, k + 4)) ts.tail r else r = .ok ((n, k), ts)
def jG (sz : Nat) (i : Nat) : Rg (Bs × Nat) := fun ts r =>
 Rg.seq (dB sz) (fun n q r => if 6 ≤ i then r = .error (oN sz ts, 4) else Rg.seq (fU sz) (jB sz n) q r) ts r
def zS (sz : Nat) : Rg St :=
 Rg.seq (bL sz mD) fun _ => Rg.seq (dB sz) fun t => Rg.seq (bL sz nL) fun _ => Rg.seq (Sep (jG sz)) fun l => Rg.seq (bL sz mF) fun _ => Rg.ret (.create t l)
def zK (sz : Nat) : Rg (List E) := Rg.seq (bL sz nL) fun _ => Rg.seq (Sep fun _ => A9 sz) fun l => Rg.seq (bL sz mF) fun _ => Rg.ret l
def Az (sz : Nat) : Rg St := Rg.seq (bL sz FI) fun _ => Rg.seq (dB sz) fun t => Rg.seq (bL sz tF) fun _ => Rg.seq (Sep fun _ => zK sz) fun l => Rg.ret (.insert t l)
def fG (sz : Nat) : Rg (Option E) := fun ts r => if sees wN ts = true then Rg.seq (A9 sz) (fun e => Rg.ret (some e)) ts.tail r else r = .ok (none, ts)
def zi (sz : Nat) : Rg (Bs × E) := Rg.seq (dB sz) fun n => Rg.seq (bL sz RX) fun _ => Rg.seq (A9 sz) fun e => Rg.ret (n, e)
def zu (sz : Nat) : Rg St := Rg.seq (dB sz) fun t => Rg.seq (bL sz LF) fun _ => Rg.seq (Sep fun _ => zi sz) fun l => Rg.seq (fG sz) fun w => Rg.ret (.update t l w)
def gT (sz : Nat) : Rg (Option E) := fun ts r => if sees I5 ts = true then r = .ok (none, ts.tail) else Rg.seq (A9 sz) (fun e => Rg.ret (some e)) ts r
def jb (e : E) : Rg (E × Bool) := fun ts r =>
 if sees BM ts = true then r = .ok ((e, true), ts.tail) else if sees NA ts = true then r = .ok ((e, false), ts.tail) else r = .ok ((e, false), ts)
def jK (sz : Nat) : Rg (E × Bool) := Rg.seq (A9 sz) jb
def cB (sz : Nat) : Rg (List (E × Bool)) := fun ts r => if sees qP ts = true then Rg.seq (bL sz O1) (fun _ => Sep fun _ => jK sz) ts.tail r else r = .ok ([], ts)
def Aa (sz : Nat) : Rg (Option Nat) := fun ts r => if sees jO ts = true then Rg.seq (fun ts r => limit sz ts = some r) (fun n => Rg.ret (some n)) ts.tail r else r = .ok (none, ts)
def yZ (sz : Nat) : Rg St :=
 Rg.seq (Sep fun _ => gT sz) fun i => Rg.seq (bL sz rU) fun _ => Rg.seq (dB sz) fun t => Rg.seq (fG sz) fun w => Rg.seq (cB sz) fun o => Rg.seq (Aa sz) fun l => Rg.ret (.select i t w o l)
def Nl (sz : Nat) : Rg St := Rg.seq (bL sz mD) fun _ => Rg.seq (dB sz) fun t => Rg.ret (.drop t)
def Ay (sz : Nat) : Rg St := Rg.seq (bL sz rU) fun _ => Rg.seq (dB sz) fun t => Rg.seq (fG sz) fun w => Rg.ret (.delete t w)
def dz (sz : Nat) : Rg St := fun ts r =>
 if sees fE ts = true then zS sz ts.tail r else if sees mQ ts = true then Nl sz ts.tail r else if sees gZ ts = true then Az sz ts.tail r
 else if sees iH ts = true then Ay sz ts.tail r else if sees jC ts = true then zu sz ts.tail r
 else Rg.seq (bL sz kR) (fun _ => yZ sz) ts r
def je (s : Bs) (r : Except (Nat × Nat) St) : Prop :=
 match Lx.lex s with
 | .error e => r = .error e
 | .ok ts => ∃ q, dz s.length ts q ∧ match q with
  | .error e => r = .error e
  | .ok (a, u) => if u = [] then r = (if 40 < deepest a.exprs then .error (0, 6) else .ok a) else r = .error (oN s.length u, 4)
end Px
end
section
namespace Px
open Lx (Bs Tok)
def All {α : Type} (x : Rg α) (P : α → Prop) : Prop := ∀ ts a q, x ts (.ok (a, q)) → P a
theorem seq_ok {α β : Type} {x : Rg α} {f : α → Rg β} {ts : List Tok} {r : iZ β} (h : Rg.seq x f ts r) : (∃ e, x ts (.error e) ∧ r = .error e) ∨ ∃ a q, x ts (.ok (a, q)) ∧ f a q r := by
 obtain ⟨r1, h1, h2⟩ := h
 match r1, h1, h2 with
 | .error e, h1, h2 => exact .inl ⟨e, h1, h2⟩
 | .ok (a, q), h1, h2 => exact .inr ⟨a, q, h1, h2⟩
theorem All.seq {α β : Type} {x : Rg α} {f : α → Rg β} {P : α → Prop} {Q : β → Prop} (hx : All x P) (hf : ∀ a, P a → All (f a) Q) : All (Rg.seq x f) Q := by
 intro ts b q h;rcases seq_ok h with ⟨e, _, h2⟩ | ⟨a, q1, h1, h2⟩
 · cases h2
 exact hf a (hx _ _ _ h1) _ _ _ h2
theorem All.ret {α : Type} {a : α} {P : α → Prop} (h : P a) : All (Rg.ret a) P := by
 intro ts b q hb
 cases hb; exact h
theorem All.any {α : Type} (x : Rg α) : All x fun _ => True := fun _ _ _ _ => trivial
theorem All.reach {α : Type} {x : Nat → Rg α} {P : α → Prop} (hx : ∀ i, All (x i) P) {ts : List Tok} {l : List α} {q : List Tok} (h : Reach x ts l q) : ∀ a ∈ l, P a := by
 induction h with
 | first h1 => intro a ha; simp at ha; subst ha; exact hx _ _ _ _ h1
 | step h1 hs h2 ih =>
  intro a ha;rcases List.mem_append.1 ha with ha | ha
  · exact ih a ha
  simp at ha; subst ha; exact hx _ _ _ _ h2
theorem All.sep {α : Type} {x : Nat → Rg α} {P : α → Prop} (hx : ∀ i, All (x i) P) : All (Sep x) fun l => ∀ a ∈ l, P a := by
 intro ts l q h
 cases h with
 | stop h1 _ => exact All.reach hx h1
theorem gK (sz : Nat) (s : Bs) : aU (bL sz s) := by
 intro ts a q h;rcases aN h with ⟨h1, h2⟩ | ⟨h1, h2⟩
 · cases h2; have := bg h1; omega
 cases h2
theorem qh (sz : Nat) : aU (dB sz) := by
 intro ts a q h;unfold dB at h
 cases ts with
 | nil => simp [name] at h
 | cons t r =>
  simp only [name] at h
  split at h
  · cases h
  split at h
  · cases h
  cases h; simp
theorem gV (sz : Nat) : aU (A9 sz) := by
 intro ts a q h;have := (h.2 _ _ rfl).2;have := a.size_pos;omega
theorem aU.seq {α β : Type} {x : Rg α} {f : α → Rg β} (hx : aU x) (hf : ∀ a, aU (f a)) : aU (Rg.seq x f) := by
 intro ts b q h;rcases seq_ok h with ⟨e, _, h2⟩ | ⟨a, q1, h1, h2⟩
 · cases h2
 exact Nat.le_trans (hf a _ _ _ h2) (hx _ _ _ h1)
theorem aU.ret {α : Type} (a : α) : aU (Rg.ret a) := by intro ts b q h; cases h; exact nlr _
theorem aU.sep {α : Type} {x : Nat → Rg α} (hx : ∀ i, aU (x i)) : aU (Sep x) := by
 intro ts l q h
 cases h with
 | stop h1 _ =>
  have := h1.len hx
  have : 1 ≤ l.length := by cases h1 <;> simp
  omega
theorem iI (ts : List Tok) : ts.tail.length ≤ ts.length := by cases ts <;> simp
theorem zq (sz : Nat) : aU (fU sz) := by
 intro ts a q h;unfold fU at h
 split at h
 · cases h; exact iI _
 split at h
 · cases h; exact iI _
 exact (gK sz _).seq (fun _ => aU.ret _) _ _ _ h
theorem zA (sz : Nat) (n : Bs) (k : Nat) : aU (jB sz n k) := by
 intro ts a q h;unfold jB at h
 split at h
 · exact Nat.le_trans ((gK sz _).seq (fun _ => aU.ret _) _ _ _ h) (iI _)
 cases h; exact nlr _
theorem rP (sz i : Nat) : aU (jG sz i) := by
 intro ts a q h;unfold jG at h;rcases seq_ok h with ⟨e, _, h2⟩ | ⟨a, q1, h1, h2⟩
 · cases h2
 have := qh sz _ _ _ h1
 split at h2
 · cases h2
 exact Nat.le_trans ((zq sz).seq (zA sz _) _ _ _ h2) this
theorem sj (sz : Nat) : aU (zK sz) := (gK sz _).seq fun _ => (aU.sep fun _ => gV sz).seq fun _ => (gK sz _).seq fun _ => aU.ret _
theorem r9 (sz : Nat) : aU (zi sz) := (qh sz).seq fun _ => (gK sz _).seq fun _ => (gV sz).seq fun _ => aU.ret _
theorem oQ (sz : Nat) : aU (gT sz) := by
 intro ts a q h;unfold gT at h
 split at h
 · cases h; exact iI _
 exact (gV sz).seq (fun _ => aU.ret _) _ _ _ h
theorem nM (sz : Nat) : aU (jK sz) := (gV sz).seq fun e => by
 intro ts a q h;unfold jb at h
 split at h
 · cases h; exact iI _
 split at h
 · cases h; exact iI _
 cases h; exact nlr _
theorem aB {α β α' β' : Type} {x : Rg α} {f : α → Rg β} {X : Nat → Out α'} {F : Nat → α' → List Tok → Out β'} {g : α → α'} {h : β → β'} {ts : List Tok} {r : iZ β}
   (hs : Rg.seq x f ts r) (h1 : ∀ r1, x ts r1 → ∃ n, X n = some (bY g r1)) (h2 : ∀ a q, x ts (.ok (a, q)) → f a q r → ∃ n, F n (g a) q = some (bY h r)) (hX : dA X) (hF : ∀ a q, dA fun n => F n a q) : ∃ n, aD (X n) (F n) = some (bY h r) := by
 rcases seq_ok hs with ⟨e, ha, rfl⟩ | ⟨a, q, ha, hb⟩
 · obtain ⟨n, hn⟩ := h1 _ ha;exact ⟨n, by rw [hn]; rfl⟩
 obtain ⟨n, hn⟩ := h1 _ ha;obtain ⟨k, hk⟩ := h2 a q ha hb;refine ⟨max n k, ?_⟩;rw [show X (max n k) = _ from hX n _ _ (Nat.le_max_left _ _) hn];exact hF _ _ k _ _ (Nat.le_max_right _ _) hk
theorem y7 {α : Type} (r : iZ α) : bY id r = r := by
 match r with
 | .error _ => rfl
 | .ok (_, _) => rfl
theorem bK {s : Bs} {ts : List Tok} : ∀ r1, bL sz s ts r1 → ∃ _ : Nat, must sz s ts = some (bY id r1) := fun _ h => ⟨0, by rw [y7]; exact h⟩
theorem fM {ts : List Tok} : ∀ r1, dB sz ts r1 → ∃ _ : Nat, name sz ts = some (bY id r1) := fun _ h => ⟨0, by rw [y7]; exact h⟩
theorem qB {ts : List Tok} : ∀ r1, A9 sz ts r1 → ∃ n : Nat, ex sz n 1 [] ts = some (bY E.nodes r1) := fun _ h => h.1
theorem dM (sz : Nat) : ∀ b ts, dA fun n => item sz n b ts := fun b ts => aL (bG sz 1 [] ts) fun _ _ => ag _
def oM {α : Type} (g : α → List Nd) (l : List α) : List Nd × Nat := (l.flatMap g, l.length)
theorem fT {α : Type} (g : α → List Nd) (l : List α) (a : α) : oM g (l ++ [a]) = ((oM g l).1 ++ g a, (oM g l).2 + 1) := by simp [oM]
theorem Dm (sz : Nat) : uR (fun _ => A9 sz) (item sz) (oM E.nodes) := by
 intro l ts r h;obtain ⟨n, hn⟩ := h.1;refine ⟨n, ?_⟩;unfold item;rw [hn]
 match r with
 | .error e => rfl
 | .ok (e, q) => simp only [bY, aD, fT]
theorem iP (sz : Nat) : ∀ b ts, dA fun n => row sz n b ts := fun b ts => aL (ag _) fun _ _ => aL (aC (dM sz) _ _) fun _ _ => aL (ag _) fun _ _ => ag _
theorem Gu (sz : Nat) : uR (fun _ => zK sz) (row sz) (oM GV) := by
 intro l ts r h;unfold row;refine aB h bK (fun _ q _ h => ?_) ?_ (fun _ _ => ?_);refine aB h (fun _ h1 => jZ (dM sz) (Dm sz) h1) (fun m q _ h => ?_) ?_ (fun _ _ => ?_);refine aB h bK (fun _ q _ h => ?_) ?_ (fun _ _ => ?_);refine ⟨0, ?_⟩
 cases h
 simp only [bY, fT]
 rfl
 all_goals repeat' (first | exact ag _ | exact bG _ _ _ _ | exact aC (dM _) _ _ | refine aL ?_ (fun _ _ => ?_) | refine aW ?_ ?_)
theorem fP (sz : Nat) (ts : List Tok) : dA fun n => fH sz n ts := aW (aL (bG sz 1 [] _) fun _ _ => ag _) (ag _)
theorem mI {ts : List Tok} : ∀ r, fG sz ts r → ∃ n, fH sz n ts = some (bY (fun w => (d9 w, one? w)) r) := by
 intro r h;unfold fG at h;unfold fH
 split at h
 · rename_i c;simp only [if_pos c];refine aB h qB (fun e q _ h => ?_) ?_ (fun _ _ => ?_)
   cases h
   exact ⟨0, rfl⟩
   all_goals repeat' (first | exact ag _ | exact bG _ _ _ _ | exact aC (dM _) _ _ | refine aL ?_ (fun _ _ => ?_) | refine aW ?_ ?_)
 rename_i c;simp only [if_neg c]
 cases h
 exact ⟨0, rfl⟩
theorem eO (sz : Nat) : ∀ b ts, dA fun n => Ai sz n b ts := fun b ts => aL (ag _) fun _ _ => aL (ag _) fun _ _ => aL (bG sz 1 [] _) fun _ _ => ag _
theorem Aj (sz : Nat) : uR (fun _ => zi sz) (Ai sz) (oM BN) := by
 intro l ts r h;unfold Ai;refine aB h fM (fun n q _ h => ?_) ?_ (fun _ _ => ?_);refine aB h bK (fun _ q _ h => ?_) ?_ (fun _ _ => ?_);refine aB h qB (fun e q _ h => ?_) ?_ (fun _ _ => ?_);refine ⟨0, ?_⟩
 cases h
 simp only [bY, fT]
 rfl
 all_goals repeat' (first | exact ag _ | exact bG _ _ _ _ | refine aL ?_ (fun _ _ => ?_) | refine aW ?_ ?_)
theorem fJ (sz : Nat) : ∀ b ts, dA fun n => pick sz n b ts := fun b ts => aW (ag _) (dM sz b ts)
theorem Dv (sz : Nat) : uR (fun _ => gT sz) (pick sz) (oM mO) := by
 intro l ts r h;unfold gT at h;unfold pick
 split at h
 · rename_i c;simp only [if_pos c];refine ⟨0, ?_⟩
   cases h
   simp only [bY, fT]
   rfl
 rename_i c;simp only [if_neg c];unfold item;refine aB h qB (fun e q _ h => ?_) ?_ (fun _ _ => ?_);refine ⟨0, ?_⟩
 cases h
 simp only [bY, fT]
 rfl
 all_goals repeat' (first | exact ag _ | exact bG _ _ _ _ | refine aL ?_ (fun _ _ => ?_) | refine aW ?_ ?_)
theorem jX {s t : Bs} {ts : List Tok} (h : sees s ts = true) (hne : s ≠ t) : sees t ts = false := by
 obtain ⟨x, r, rfl⟩ := qJ h;simp only [sees, Bool.and_eq_true, beq_iff_eq] at h;simp only [sees, Bool.and_eq_false_iff, beq_eq_false_iff_ne];exact .inr (by rw [h.2]; exact hne)
theorem eG (sz : Nat) : ∀ b ts, dA fun n => order sz n b ts := fun b ts => aL (bG sz 1 [] _) fun _ _ => ag _
theorem AP {ts : List Tok} {r : iZ St} (h : Az sz ts r) : ∃ n, insert sz n ts = some (bY St.nodes r) := by
 unfold insert;refine aB h bK (fun _ q _ h => ?_) ?_ (fun _ _ => ?_);refine aB h fM (fun t q _ h => ?_) ?_ (fun _ _ => ?_);refine aB h bK (fun _ q _ h => ?_) ?_ (fun _ _ => ?_);refine aB h (fun _ h1 => jZ (iP sz) (Gu sz) h1) (fun m q _ h => ?_) ?_ (fun _ _ => ?_)
 cases h
 exact ⟨0, rfl⟩
 all_goals repeat' (first | exact ag _ | exact bG _ _ _ _ | exact fP _ _ | exact aC (dM _) _ _ | exact aC (iP _) _ _ | exact aC (eO _) _ _ | exact aC (fJ _) _ _ | exact aC (eG _) _ _ | refine aL ?_ (fun _ _ => ?_) | refine aW ?_ ?_)
theorem zI {ts : List Tok} {r : iZ St} (h : zu sz ts r) : ∃ n, update sz n ts = some (bY St.nodes r) := by
 unfold update;refine aB h fM (fun t q _ h => ?_) ?_ (fun _ _ => ?_);refine aB h bK (fun _ q _ h => ?_) ?_ (fun _ _ => ?_);refine aB h (fun _ h1 => jZ (eO sz) (Aj sz) h1) (fun m q _ h => ?_) ?_ (fun _ _ => ?_);refine aB h mI (fun w q _ h => ?_) ?_ (fun _ _ => ?_)
 cases h
 exact ⟨0, rfl⟩
 all_goals repeat' (first | exact ag _ | exact bG _ _ _ _ | exact fP _ _ | exact aC (dM _) _ _ | exact aC (iP _) _ _ | exact aC (eO _) _ _ | exact aC (fJ _) _ _ | exact aC (eG _) _ _ | refine aL ?_ (fun _ _ => ?_) | refine aW ?_ ?_)
theorem Av {ts : List Tok} {r : iZ St} (h : Ay sz ts r) : ∃ n, delete sz n ts = some (bY St.nodes r) := by
 unfold delete;refine aB h bK (fun _ q _ h => ?_) ?_ (fun _ _ => ?_);refine aB h fM (fun t q _ h => ?_) ?_ (fun _ _ => ?_);refine aB h mI (fun w q _ h => ?_) ?_ (fun _ _ => ?_)
 cases h
 exact ⟨0, rfl⟩
 all_goals repeat' (first | exact ag _ | exact bG _ _ _ _ | exact fP _ _ | exact aC (dM _) _ _ | exact aC (iP _) _ _ | exact aC (eO _) _ _ | exact aC (fJ _) _ _ | exact aC (eG _) _ _ | refine aL ?_ (fun _ _ => ?_) | refine aW ?_ ?_)
theorem Eu {ts : List Tok} {r : iZ St} (h : Nl sz ts r) : ∃ _ : Nat, drop sz ts = some (bY St.nodes r) := by
 unfold drop;refine aB h bK (fun _ q _ h => ?_) ?_ (fun _ _ => ?_);refine aB h fM (fun t q _ h => ?_) ?_ (fun _ _ => ?_)
 cases h
 exact ⟨0, rfl⟩
 all_goals repeat' (first | exact ag _ | exact bG _ _ _ _ | exact fP _ _ | exact aC (dM _) _ _ | exact aC (iP _) _ _ | exact aC (eO _) _ _ | exact aC (fJ _) _ _ | exact aC (eG _) _ _ | refine aL ?_ (fun _ _ => ?_) | refine aW ?_ ?_)
end Px
end
section
namespace Px
open Lx (Bs Tok)
theorem qA (sz : Nat) (x : List Nd × Nat) (ts : List Tok) : dA fun n => orders sz n x ts := aW (aL (ag _) fun _ _ => aC (eG sz) _ _) (ag _)
theorem vP (sz : Nat) (x : List Nd × Nat) : uR (fun _ => jK sz) (order sz) (fun l => (x.1 ++ (oM dV l).1, x.2 + (oM dV l).2)) := by
 intro l ts r h;unfold order;refine aB h qB (fun e q _ h => ?_) (bG _ _ _ _) (fun _ _ => ag _);refine ⟨0, ?_⟩;unfold jb at h
 split at h
 · rename_i c;rw [if_neg (by rw [jX c (by decide)]; decide), if_pos c]
   cases h
   simp only [bY, fT, laa, Nat.add_assoc]
   rfl
 rename_i c
 split at h
 · rename_i c2;rw [if_pos c2]
   cases h
   simp only [bY, fT, laa, Nat.add_assoc]
   rfl
 rename_i c2;rw [if_neg c2, if_neg c]
 cases h
 simp only [bY, fT, laa, Nat.add_assoc]
 rfl
theorem Aw {x : List Nd × Nat} {ts : List Tok} : ∀ r, cB sz ts r → ∃ n, orders sz n x ts = some (bY (fun l => (x.1 ++ (oM dV l).1, x.2 + (oM dV l).2)) r) := by
 intro r h;unfold cB at h;unfold orders
 split at h
 · rename_i c;simp only [if_pos c];refine aB h bK (fun _ q _ h => ?_) (ag _) (fun _ _ => aC (eG sz) _ _);have := jZ (eG sz) (vP sz x) h;simpa [oM] using this
 rename_i c;simp only [if_neg c]
 cases h
 exact ⟨0, by simp [bY, oM]⟩
theorem Af {x : List Nd × Nat} {ts : List Tok} : ∀ r, Aa sz ts r → ∃ _ : Nat, limits sz x ts = some (bY (fun l => (x.1 ++ mK l, x.2 + one? l)) r) := by
 intro r h;unfold Aa at h;unfold limits
 split at h
 · rename_i c;simp only [if_pos c];refine aB (g := id) h (fun r1 h1 => ⟨0, by rw [y7]; exact h1⟩) (fun _ q _ h => ?_) (ag _) (fun _ _ => ag _)
   cases h
   exact ⟨0, rfl⟩
 rename_i c;simp only [if_neg c]
 cases h
 exact ⟨0, by simp [bY, mK, one?]⟩
theorem zV {ts : List Tok} {r : iZ St} (h : yZ sz ts r) : ∃ n, choose sz n ts = some (bY St.nodes r) := by
 unfold choose;refine aB h (fun _ h1 => jZ (fJ sz) (Dv sz) h1) (fun i q _ h => ?_) ?_ (fun _ _ => ?_);refine aB h bK (fun _ q _ h => ?_) ?_ (fun _ _ => ?_);refine aB h fM (fun t q _ h => ?_) ?_ (fun _ _ => ?_);refine aB h mI (fun w q _ h => ?_) ?_ (fun _ _ => ?_);refine aB h Aw (fun o q _ h => ?_) ?_ (fun _ _ => ?_);refine aB h Af (fun l q _ h => ?_) ?_ (fun _ _ => ?_)
 · refine ⟨0, ?_⟩
   cases h
   simp only [bY, oM, St.nodes, id, Option.some.injEq, Except.ok.injEq, Prod.mk.injEq, List.cons.injEq, Nd.mk.injEq, true_and, and_true];omega
 all_goals repeat' (first | exact ag _ | exact fP _ _ | exact qA _ _ _ | exact aC (fJ _) _ _ | refine aL ?_ (fun _ _ => ?_))
theorem uQ {q : List Tok} {r : iZ Nat} (h : fU sz q r) : EW sz q = some (bY (fun k : Nat => (k : Int)) r) ∨ ∃ q1, r = .ok (1, q1) ∧ sees nD q1 = true ∧ EW sz q = some (.error (oN sz q1, 4)) := by
 unfold fU at h;unfold EW
 split at h
 · rename_i c;rw [if_pos c];subst h;by_cases ht : sees nD q.tail = true
   · right; exact ⟨_, rfl, ht, by rw [if_pos ht]⟩
   left; rw [if_neg ht]; rfl
 rename_i c;rw [if_neg c]
 left
 split at h
 · rename_i c2;rw [if_pos c2, h]; rfl
 rename_i c2;rw [if_neg c2];rcases seq_ok h with ⟨e, h1, rfl⟩ | ⟨a, q1, h1, h2⟩
 · rw [show must sz iW q = _ from h1]; rfl
 rw [show must sz iW q = _ from h1]
 cases h2; rfl
theorem mZ (sz : Nat) {l : List (Bs × Nat)} {ts : List Tok} {r : iZ (Bs × Nat)} (hl : l.length ≤ 6) (h : jG sz l.length ts r) :
   Cq sz (l.map oG) ts = some (bY (fun a => (l ++ [a]).map oG) r) ∨ ∃ a q, r = .ok (a, q) ∧ sees nD q = true ∧ Cq sz (l.map oG) ts = some (.error (oN sz q, 4)) := by
 unfold jG at h;unfold Cq;rcases seq_ok h with ⟨e, h1, rfl⟩ | ⟨n, q, h1, h2⟩
 · left
   rw [show name sz ts = _ from h1]; rfl
 rw [show name sz ts = _ from h1];simp only [aD, List.length_map]
 split at h2
 · rename_i c;subst h2
   left; rw [if_pos (by omega)]; rfl
 rename_i c;rw [if_neg (by omega)];rcases seq_ok h2 with ⟨e, h3, rfl⟩ | ⟨k, q1, h3, h4⟩
 · rcases uQ h3 with h5 | ⟨_, h5, _⟩
   · left; rw [h5]; rfl
   cases h5
 rcases uQ h3 with h5 | ⟨q2, h5, h6, h7⟩
 · left
   rw [h5];simp only [bY];unfold jB at h4
   split at h4
   · rename_i c2;rw [if_pos c2];rcases seq_ok h4 with ⟨e, h8, rfl⟩ | ⟨_, q3, h8, h9⟩
     · rw [show must sz bf q1.tail = _ from h8]
     rw [show must sz bf q1.tail = _ from h8]
     cases h9
     simp [bY, oG]
   rename_i c2;rw [if_neg c2];subst h4;simp [bY, oG]
 right
 cases h5
 have hn := jX h6 (t := ko) (by decide);unfold jB at h4;rw [if_neg (by simp [hn])] at h4;exact ⟨_, _, h4, h6, by rw [h7]⟩
theorem yg (sz : Nat) : ∀ (b : List Nd) ts, dA fun n => (fun (_ : Nat) l q => Cq sz l q) n b ts := fun _ _ => ag _
theorem yz {ts : List Tok} {l : List (Bs × Nat)} {q : List Tok} (h : Reach (jG sz) ts l q) :
   l.length ≤ 6 ∧ ((∀ r, (∃ n, jr (fun _ l q => Cq sz l q) n (l.map oG) q = some r) → ∃ n, sep (fun _ l q => Cq sz l q) n [] ts = some r) ∨ (sees nD q = true ∧ ∃ n, sep (fun _ l q => Cq sz l q) n [] ts = some (.error (oN sz q, 4)))) := by
 have six : ∀ {i : Nat} {ts : List Tok} {a : Bs × Nat} {q : List Tok}, jG sz i ts (.ok (a, q)) → i < 6 := by
  intro i ts a q h;unfold jG at h;rcases seq_ok h with ⟨e, h1, h2⟩ | ⟨n, q, h1, h2⟩
  · cases h2
  split at h2
  · cases h2
  omega
 induction h with
 | first h1 =>
  rename_i a q;refine ⟨by simp, ?_⟩;rcases mZ sz (l := []) (by simp) h1 with h2 | ⟨a', q', h3, h4, h5⟩
  · left
    rintro r ⟨n, hn⟩;refine ⟨n + 1, ?_⟩;rw [eu];rw [show Cq sz [] ts = _ from h2];exact hn
  right
  cases h3
  exact ⟨h4, 1, by rw [eu, show Cq sz [] ts = _ from h5]; rfl⟩
 | step h1 hs hx ih =>
  rename_i l q a q';obtain ⟨i1, i2⟩ := ih;have := six hx;refine ⟨by simp; omega, ?_⟩;rcases i2 with i2 | ⟨i2, _⟩
  · rcases mZ sz i1 hx with h2 | ⟨a', q2, h3, h4, h5⟩
    · left
      rintro r ⟨n, hn⟩;refine i2 r ⟨n + 1, ?_⟩;unfold jr;rw [if_pos hs, eu, h2];exact hn
    right
    cases h3
    refine ⟨h4, i2 _ ⟨1, ?_⟩⟩;unfold jr;rw [if_pos hs, eu, h5]; rfl
  exfalso
  rw [jX i2 (by decide)] at hs
  cases hs
theorem zW {ts : List Tok} {r : iZ St} (h : zS sz ts r) : ∃ n, create sz n ts = some (bY St.nodes r) := by
 unfold create;refine aB h bK (fun _ q _ h => ?_) (ag _) (fun _ _ => ?_);refine aB h fM (fun t q _ h => ?_) (ag _) (fun _ _ => ?_);refine aB h bK (fun _ q _ h => ?_) (ag _) (fun _ _ => ?_)
 · rcases seq_ok h with ⟨e, h1, rfl⟩ | ⟨l, q1, h1, h2⟩
   · have key : ∃ n, sep (fun _ l q => Cq sz l q) n [] q = some (.error e) := by
      cases h1 with
      | err0 h3 =>
       rcases mZ sz (l := []) (by simp) h3 with h4 | ⟨_, _, h4, _⟩
       · exact ⟨1, by rw [eu, show Cq sz [] q = _ from h4]; rfl⟩
       cases h4
      | err h3 hs h4 =>
       rename_i l q2;obtain ⟨i1, i2⟩ := yz h3;rcases i2 with i2 | ⟨i2, _⟩
       · rcases mZ sz i1 h4 with h5 | ⟨_, _, h5, _⟩
         · refine i2 _ ⟨1, ?_⟩;unfold jr;rw [if_pos hs, eu, h5]; rfl
         cases h5
       exfalso
       rw [jX i2 (by decide)] at hs
       cases hs
     obtain ⟨n, hn⟩ := key;exact ⟨n, by rw [hn]; rfl⟩
   cases h1 with
   | stop h3 hs =>
    obtain ⟨i1, i2⟩ := yz h3;rcases i2 with i2 | ⟨i2, n, hn⟩
    · obtain ⟨n, hn⟩ := i2 (.ok (l.map oG, q1)) ⟨0, by unfold jr; rw [if_neg (by simp [hs])]⟩;refine ⟨n, ?_⟩;rw [hn];simp only [aD];rcases seq_ok h2 with ⟨e, h4, rfl⟩ | ⟨_, q3, h4, h5⟩
      · rw [show must sz mF q1 = _ from h4]; rfl
      rw [show must sz mF q1 = _ from h4]
      cases h5
      simp [bY, St.nodes]
    refine ⟨n, ?_⟩;rw [hn];simp only [aD];rcases seq_ok h2 with ⟨e, h4, rfl⟩ | ⟨_, q3, h4, h5⟩
    · rcases aN h4 with ⟨h6, _⟩ | ⟨_, h6⟩
      · rw [jX i2 (by decide)] at h6; cases h6
      cases h6; rfl
    rcases aN h4 with ⟨h6, _⟩ | ⟨_, h6⟩
    · rw [jX i2 (by decide)] at h6; cases h6
    cases h6
 all_goals repeat' (first | exact ag _ | exact aC (yg sz) _ _ | refine aL ?_ (fun _ _ => ?_))
def qd (t : Tok) : Prop := t.kind = 51 → Lx.hasB Lx.keys t.text = false
theorem Bf {s : Bs} {t : Tok} {r : List Tok} (hk : Lx.hasB Lx.keys s = true) (ht : qd t) : (sees s (t :: r) = true) ↔ (t.kind = 50 ∧ t.text = s) := by
 simp only [sees, Bool.and_eq_true, Bool.or_eq_true, decide_eq_true_eq, beq_iff_eq]
 constructor
 · rintro ⟨h | h, h2⟩
   · exact ⟨h, h2⟩
   have := ht h;rw [h2, hk] at this
   cases this
 rintro ⟨h1, h2⟩;exact ⟨.inl h1, h2⟩
theorem EJ {ts : List Tok} {r : iZ St} (ht : ∀ t ∈ ts, qd t) (h : dz sz ts r) : ∃ n, stmt sz n ts = some (bY St.nodes r) := by
 unfold dz at h
 cases ts with
 | nil =>
  simp only [sees, Bool.false_eq_true, if_false] at h;rcases seq_ok h with ⟨e, h1, rfl⟩ | ⟨_, q3, h1, h5⟩
  · exact ⟨0, by rcases aN h1 with ⟨h6, _⟩ | ⟨_, h6⟩
                 · cases h6
                 cases h6; rfl⟩
  rcases aN h1 with ⟨h6, _⟩ | ⟨_, h6⟩
  · cases h6
  cases h6
 | cons t q =>
  have hs := ht t (by simp)
  have K : ∀ s, Lx.hasB Lx.keys s = true → ((sees s (t :: q) = true) ↔ (t.kind = 50 ∧ t.text = s)) := fun s hk => Bf hk hs
  simp only [K fE (by decide), K mQ (by decide), K gZ (by decide), K iH (by decide), K jC (by decide), List.tail_cons] at h;by_cases h50 : t.kind = 50
  · simp only [h50, true_and] at h;unfold stmt;simp only [h50, ne_eq, not_true_eq_false, if_false]
    split at h
    · rename_i c; simp only [if_pos c]; exact zW h
    rename_i c;simp only [if_neg c]
    split at h
    · rename_i c; simp only [if_pos c]; exact Eu h
    rename_i c;simp only [if_neg c]
    split at h
    · rename_i c; simp only [if_pos c]; exact AP h
    rename_i c;simp only [if_neg c]
    split at h
    · rename_i c; simp only [if_pos c]; exact Av h
    rename_i c;simp only [if_neg c]
    split at h
    · rename_i c; simp only [if_pos c]; exact zI h
    rename_i c;simp only [if_neg c];rcases seq_ok h with ⟨e, h1, rfl⟩ | ⟨_, q3, h1, h5⟩
    · rcases aN h1 with ⟨_, h6⟩ | ⟨h6, h7⟩
      · cases h6
      cases h7
      refine ⟨0, ?_⟩
      rw [if_neg (fun e => by
       have := (K kR (by decide)).2 ⟨h50, e⟩
       rw [h6] at this; cases this)]
      rfl
    rcases aN h1 with ⟨h6, h7⟩ | ⟨_, h6⟩
    · cases h7
      simp only [if_pos ((K kR (by decide)).1 h6).2];exact zV h5
    cases h6
  simp only [h50, false_and, if_false] at h;unfold stmt;simp only [h50, ne_eq, not_false_eq_true, if_true];rcases seq_ok h with ⟨e, h1, rfl⟩ | ⟨_, q3, h1, h5⟩
  · rcases aN h1 with ⟨_, h6⟩ | ⟨h6, h7⟩
    · cases h6
    cases h7; exact ⟨0, rfl⟩
  rcases aN h1 with ⟨h6, h7⟩ | ⟨_, h6⟩
  · exact absurd ((K kR (by decide)).1 h6).1 h50
  cases h6
end Px
end
section
namespace Px
open Lx (Bs Tok)
theorem gM (a b : List E) : deepest (a ++ b) = max (deepest a) (deepest b) := by
 induction a with
 | nil => simp [deepest]
 | cons e a ih => simp [deepest, ih, Nat.max_assoc]
theorem gQ.exprs : ∀ (l : List E), (∀ e ∈ l, e.ok 2000) → gQ (l.flatMap E.nodes) (deepest l)
 | [], _ => gQ.nil
 | e :: l, h => by
  rw [List.flatMap_cons];exact (gQ.tree (e.tree (h e (by simp)))).append (gQ.exprs l (fun x hx => h x (by simp [hx])))
theorem gQ.flat {α : Type} (g : α → List Nd) (ex : α → List E) (h : ∀ a, (∀ e ∈ ex a, e.ok 2000) → gQ (g a) (deepest (ex a))) : ∀ (l : List α), (∀ e ∈ l.flatMap ex, e.ok 2000) → gQ (l.flatMap g) (deepest (l.flatMap ex))
 | [], _ => gQ.nil
 | a :: l, hl => by
  rw [List.flatMap_cons, List.flatMap_cons, gM]
  exact (h a (fun e he => hl e (by simp [he]))).append (gQ.flat g ex h l (fun e he => hl e (by
   rw [List.flatMap_cons]; exact List.mem_append.2 (.inr he))))
theorem gQ.fH (w : Option E) (h : ∀ e ∈ w.toList, e.ok 2000) : gQ (d9 w) (deepest w.toList) := by
 cases w with
 | none => exact gQ.nil
 | some e =>
  have := gQ.cons (x := ⟨11, [], 0, 1⟩) (by decide) (gQ.tree (e.tree (h e (by simp))));simpa [deepest, d9, aS] using this
theorem lM {α β : Type} (f : α → β) (l : List α) : l.flatMap (fun x => [f x]) = l.map f := by
 induction l with
 | nil => rfl
 | cons a l ih => rw [List.flatMap_cons, ih]; rfl
theorem yB {α β : Type} (l : List α) : l.flatMap (fun _ => ([] : List β)) = [] := by
 induction l with
 | nil => rfl
 | cons a l ih => rw [List.flatMap_cons, ih]; rfl
theorem Cr (i : List (Option E)) : i.filterMap id = i.flatMap Option.toList := by
 induction i with
 | nil => rfl
 | cons a i ih => cases a <;> simp [ih]
theorem St.Sd (s : St) (h : ∀ e ∈ s.exprs, e.ok 2000) : gQ s.nodes (deepest s.exprs) := by
 cases s with
 | create t c =>
  refine gQ.cons (by decide : fe (1 : Int) = false) ?_;have := gQ.flat (fun x => [oG x]) (fun _ => []) (fun a _ => gQ.plain _ rfl) c (by rw [yB]; intro e he; cases he);rw [lM, yB] at this;exact this
 | drop t => exact gQ.plain _ rfl
 | insert t r =>
  refine gQ.cons (by decide : fe (4 : Int) = false) ?_;have := gQ.flat GV id (fun a ha => gQ.cons (by decide : fe (5 : Int) = false) (gQ.exprs a ha)) r (by simpa [St.exprs] using h);simpa [St.exprs] using this
 | delete t w => exact gQ.cons (by decide : fe (6 : Int) = false) (gQ.fH w h)
 | update t s w =>
  refine gQ.cons (by decide : fe (7 : Int) = false) ?_
  have h1 := gQ.flat BN (fun x => [x.2]) (fun a ha => by
   have := gQ.cons (x := ⟨8, a.1, 0, 1⟩) rfl (gQ.tree (a.2.tree (ha a.2 (by simp))))
   simpa [deepest, BN] using this) s (fun e he => h e (by
    rw [lM] at he; exact List.mem_append.2 (.inl he)))
  have h2 := gQ.fH w (fun e he => h e (by simp only [St.exprs]; exact List.mem_append.2 (.inr he)));have := h1.append h2;rw [← gM] at this;rw [lM] at this;exact this
 | select i t w o l =>
  refine gQ.cons (by decide : fe (9 : Int) = false) ?_;simp only [St.exprs] at h ⊢;rw [Cr] at h ⊢
  have h1 := gQ.flat mO Option.toList (fun a ha => by
   cases a with
   | none => exact gQ.plain _ rfl
   | some e => have := gQ.tree (e.tree (ha e (by simp))); simpa [deepest, mO] using this) i (fun e he => h e (by simp only [List.mem_append]; exact .inl (.inl he)))
  have h2 := gQ.fH w (fun e he => h e (by simp only [List.mem_append]; exact .inl (.inr he)))
  have h3 := gQ.flat dV (fun x => [x.1]) (fun a ha => by
   have := gQ.cons (x := ⟨12, [], if a.2 = true then 1 else 0, 1⟩) rfl (gQ.tree (a.1.tree (ha a.1 (by simp))))
   simpa [deepest, dV] using this) o (fun e he => h e (by
    rw [lM] at he; exact List.mem_append.2 (.inr he)))
  rw [lM] at h3
  have h4 : gQ (mK l) 0 := by
   cases l with
   | none => exact gQ.nil
   | some n => exact gQ.plain _ rfl
  have := ((h1.append h2).append h3).append h4;rw [← gM, ← gM, Nat.max_zero] at this;exact this
theorem vI (sz : Nat) : All (A9 sz) fun e => e.ok 2000 := fun ts e q h => (h.2 _ _ rfl).1
theorem rD (sz : Nat) : All (fG sz) fun w => ∀ e ∈ w.toList, e.ok 2000 := by
 intro ts w q h;unfold fG at h
 split at h
 · exact (vI sz).seq (fun e he => All.ret (P := fun w => ∀ x ∈ Option.toList w, E.ok 2000 x) (by simpa using he)) _ _ _ h
 cases h; simp
theorem KE (sz : Nat) : All (dz sz) fun s : St => ∀ e ∈ s.exprs, E.ok 2000 e := by
 intro ts s q h;unfold dz at h
 split at h
 · refine All.seq (All.any _) (fun _ _ => All.seq (All.any _) fun t _ => All.seq (All.any _) fun _ _ => All.seq (All.any _) fun l _ => All.seq (All.any _) fun _ _ => All.ret (P := fun s : St => ∀ e ∈ s.exprs, E.ok 2000 e) ?_) _ _ _ h;simp [St.exprs]
 split at h
 · refine All.seq (All.any _) (fun _ _ => All.seq (All.any _) fun t _ => All.ret (P := fun s : St => ∀ e ∈ s.exprs, E.ok 2000 e) ?_) _ _ _ h;simp [St.exprs]
 split at h
 · have hrow : All (zK sz) fun l => ∀ e ∈ l, e.ok 2000 := All.seq (All.any _) fun _ _ => All.seq (All.sep fun _ => vI sz) fun l hl => All.seq (All.any _) fun _ _ => All.ret hl
   refine All.seq (All.any _) (fun _ _ => All.seq (All.any _) fun t _ => All.seq (All.any _) fun _ _ => All.seq (All.sep fun _ => hrow) fun l hl => All.ret (P := fun s : St => ∀ e ∈ s.exprs, E.ok 2000 e) ?_) _ _ _ h;simp only [St.exprs, List.mem_flatten];rintro e ⟨r, h1, h2⟩;exact hl r h1 e h2
 split at h
 · refine All.seq (All.any _) (fun _ _ => All.seq (All.any _) fun t _ => All.seq (rD sz) fun w hw => All.ret (P := fun s : St => ∀ e ∈ s.exprs, E.ok 2000 e) ?_) _ _ _ h;exact hw
 split at h
 · have hset : All (zi sz) fun x => x.2.ok 2000 := All.seq (All.any _) fun n _ => All.seq (All.any _) fun _ _ => All.seq (vI sz) fun e he => All.ret (P := fun x : Bs × E => x.2.ok 2000) he
   refine All.seq (All.any _) (fun t _ => All.seq (All.any _) fun _ _ => All.seq (All.sep fun _ => hset) fun l hl => All.seq (rD sz) fun w hw => All.ret (P := fun s : St => ∀ e ∈ s.exprs, E.ok 2000 e) ?_) _ _ _ h;simp only [St.exprs, List.mem_append, List.mem_map];rintro e (⟨x, h1, rfl⟩ | h1)
   · exact hl x h1
   exact hw e h1
 have Jc : All (gT sz) fun x => ∀ e ∈ x.toList, e.ok 2000 := by
  intro ts w q h;unfold gT at h
  split at h
  · cases h; simp
  exact (vI sz).seq (fun e he => All.ret (P := fun w => ∀ x ∈ Option.toList w, E.ok 2000 x) (by simpa using he)) _ _ _ h
 have Oy : All (jK sz) fun x => x.1.ok 2000 := (vI sz).seq fun e he => by
  intro ts x q h;unfold jb at h
  split at h
  · cases h; exact he
  split at h
  · cases h; exact he
  cases h; exact he
 have MR : All (cB sz) fun l => ∀ x ∈ l, x.1.ok 2000 := by
  intro ts l q h;unfold cB at h
  split at h
  · exact All.seq (All.any _) (fun _ _ => All.sep fun _ => Oy) _ _ _ h
  cases h; simp
 refine All.seq (All.any _) (fun _ _ => All.seq (All.sep fun _ => Jc) fun i hi => All.seq (All.any _) fun _ _ => All.seq (All.any _) fun t _ => All.seq (rD sz) fun w hw => All.seq MR fun o ho => All.seq (All.any _) fun l _ => All.ret (P := fun s : St => ∀ e ∈ s.exprs, E.ok 2000 e) ?_) _ _ _ h;simp only [St.exprs, List.mem_append, List.mem_map, Cr, List.mem_flatMap];rintro e ((⟨x, h1, h2⟩ | h1) | ⟨x, h1, rfl⟩)
 · exact hi x h1 e h2
 · exact hw e h1
 exact ho x h1
def Ra {α β : Type} (f : α → β) : Except (Nat × Nat) α → Except (Nat × Nat) β
 | .error e => .error e
 | .ok a => .ok (f a)
theorem Kh {l : Bs} {t : Bs} (h : Lx.dU l = .ok (k, t, n)) (p : Nat) : qd ⟨k, t, p⟩ := by
 intro hk;simp only at hk;subst hk
 have two : ∀ x : Bs, Lx.hasB Lx.EB x = true → Lx.hasB Lx.keys x = false := by
  intro x hx;simp only [Lx.EB, Lx.hasB, Bool.or_eq_true, beq_iff_eq, Bool.false_eq_true, or_false] at hx;rcases hx with rfl | rfl | rfl | rfl <;> decide
 have one : ∀ x : Bs, Lx.hasB Lx.ones x = true → Lx.hasB Lx.keys x = false := by
  intro x hx;simp only [Lx.ones, Lx.hasB, Bool.or_eq_true, beq_iff_eq, Bool.false_eq_true, or_false] at hx;rcases hx with rfl | rfl | rfl | rfl | rfl | rfl | rfl | rfl | rfl | rfl | rfl | rfl <;> decide
 unfold Lx.dU at h
 split at h
 · simp at h
 split at h
 · split at h <;> simp at h
 split at h
 · split at h
   · simp at h
   split at h <;> simp at h
 split at h
 · split at h
   · simp at h
   split at h
   · simp at h
   simp only [Except.ok.injEq, Prod.mk.injEq] at h;have := h.1
   split at this <;> omega
 split at h
 · rename_i h3;simp only [Except.ok.injEq, Prod.mk.injEq] at h;obtain ⟨_, rfl, _⟩ := h;exact two _ h3.2
 split at h
 · rename_i h3;simp only [Except.ok.injEq, Prod.mk.injEq] at h;obtain ⟨_, rfl, _⟩ := h;exact one _ h3
 simp at h
theorem J2 : ∀ (m : Nat) (l : Bs) (pos : Nat) (ts : List Tok), l.length ≤ m → Lx.il 0 pos l = .ok ts → ∀ t ∈ ts, qd t := by
 intro m
 induction m with
 | zero =>
  intro l pos ts hl h;obtain rfl := List.length_eq_zero_iff.1 (Nat.le_zero.1 hl);simp only [Lx.il, Except.ok.injEq] at h;subst h;simp
 | succ m ih =>
  intro l pos ts hl h
  cases l with
  | nil =>
   simp only [Lx.il, Except.ok.injEq] at h;subst h;simp
  | cons b r =>
   rw [Lx.kr] at h
   split at h
   · simp at h
   rename_i k t n h1;have hn := Lx.iU h1;simp only [List.length_cons] at hn hl
   split at h
   · rename_i us h2;simp only [Except.ok.injEq] at h;subst h;intro x hx;rcases List.mem_cons.1 hx with rfl | hx
     · exact Kh h1 pos
     exact ih _ _ _ (by simp; omega) h2 x hx
   simp at h
theorem FD {l : Bs} {ts : List Tok} (h : Lx.lex l = .ok ts) : ∀ t ∈ ts, qd t := by
 unfold Lx.lex at h
 split at h
 · simp at h
 exact J2 _ _ _ _ (nlr _) h
theorem Bl {s : Bs} {r : Except (Nat × Nat) St} (h : je s r) : Parse s (Ra St.nodes r) := by
 unfold je at h;unfold Parse
 cases hl : Lx.lex s with
 | error e => rw [hl] at h; simp only at h ⊢; rw [h]; rfl
 | ok ts =>
  rw [hl] at h;simp only at h ⊢;obtain ⟨q, h1, h2⟩ := h;obtain ⟨n, hn⟩ := EJ (FD hl) h1;refine ⟨n, ?_⟩;unfold whole;rw [hn]
  match q, h1, h2 with
  | .error e, h1, h2 =>
   simp only at h2;rw [h2];exact ⟨_, rfl, rfl⟩
  | .ok (a, u), h1, h2 =>
   simp only at h2;simp only [bY, aD];by_cases hu : u = []
   · rw [if_pos hu] at h2;rw [if_pos hu];refine ⟨_, rfl, deepest a.exprs, ?_, ?_⟩
     · exact (a.Sd (KE _ _ _ _ h1)).deep
     rw [h2]; split <;> rfl
   rw [if_neg hu] at h2;rw [if_neg hu, h2];exact ⟨_, rfl, rfl⟩
end Px
end
section
namespace Px
open Lx (Bs Tok)
structure PT where
 out : Bs
 kind : Nat
 val : Bs
 pre : Bool
def oO (s : Bs) : PT := ⟨s, 50, s, false⟩
def Ld (s : Bs) : PT := ⟨s, 51, s, false⟩
def RV : PT := ⟨[45], 51, [45], true⟩
def LB (s : Bs) : PT := ⟨nP s, 18, s, false⟩
def R8 (s : Bs) : PT := ⟨QX 39 s, 17, s, false⟩
def Q7 (n : Nat) : PT := ⟨sQ 20 n, 16, sQ 20 n, false⟩
def apart (a b : PT) : Bool := if a.out = [40] ∨ b.out = [41] ∨ b.out = [44] then false else if a.pre = true then decide (b.out.head? = some 45) else true
def Ends : Bs → Prop
 | [] => True
 | c :: _ => c = 32 ∨ c = 41 ∨ c = 44
structure PT.Ok (t : PT) : Prop where
 ne : ∃ c r, t.out = c :: r ∧ Lx.isSp c = false ∧ (c.toNat = 45 → t.out = [45])
 reads : ∀ rest, (Ends rest ∨ t.out = [40] ∨ t.pre = true) → Lx.dU (t.out ++ rest) = .ok (t.kind, t.val, t.out.length)
 pre : t.pre = true → t.out = [45]
 small : t.out.length ≤ 100000
end Px
end
section
namespace Px
open Lx (Bs Tok)
def Same (ts : List Tok) (l : List PT) : Prop := ts.map (fun t => (t.kind, t.text)) = l.map fun t => (t.kind, t.val)
def E.lvl : E → Nat
 | .num z => if z < 0 then 8 else 9
 | .un k _ => if k = 20 then 3 else if k = 19 then 8 else 4
 | .bin k _ _ => (sS k).2
 | _ => 9
def Gp (lvl least : Nat) (l : List PT) : List PT := if lvl < least then Ld [40] :: (l ++ [Ld [41]]) else l
def R3 (k : Nat) : PT := if k < 25 then oO (sS k).1 else Ld (sS k).1
def leftOf (k : Nat) : Nat := if (sS k).2 = 4 then 5 else (sS k).2
def E.pt : E → List PT
 | .null => [oO bf]
 | .bool b => [oO (if b = true then gH else dK)]
 | .num z => if z < 0 then [RV, Q7 z.natAbs] else [Q7 z.natAbs]
 | .str s => [R8 s]
 | .nm s => [LB s]
 | .un k e => if k = 20 then oO ko :: Gp e.lvl 3 e.pt else if k = 19 then RV :: Gp e.lvl 8 e.pt
   else if k = 21 then Gp e.lvl 5 e.pt ++ [oO Ib, oO bf] else Gp e.lvl 5 e.pt ++ [oO Ib, oO ko, oO bf]
 | .bin k a b => Gp a.lvl (leftOf k) a.pt ++ R3 k :: Gp b.lvl ((sS k).2 + 1) b.pt
def E.good : E → Prop
 | .str s => Lx.bM s = true
 | .nm s => isName s = true
 | .un _ e => e.good
 | .bin _ a b => a.good ∧ b.good
 | _ => True
def Stops (m : Nat) (rest : List Tok) : Prop := (∀ l, m ≤ l → oper l rest = 0) ∧ (m ≤ 4 → sees Ib rest = false)
def PY (L : Nat) : Prop := L = 1 ∨ L = 2 ∨ L = 5 ∨ L = 6 ∨ L = 7
def Loop (sz : Nat) (e : E) : Prop := PY e.lvl → ∀ ts rest r, Same ts e.pt → Stops (e.lvl + 1) rest → Ex sz (e.lvl + 10) e.nodes rest r → Ex sz e.lvl [] (ts ++ rest) r
end Px
end
section
namespace Px
open Lx (Bs Tok)
def Dk : List (List PT) → List PT
 | [] => []
 | [a] => a
 | a :: b :: r => a ++ Ld [44] :: Dk (b :: r)
def O6 (n : Nat) : Bs := if n % 4 = 1 then lG else if n % 4 = 2 then nD else iW
def QL (c : Bs × Nat) : List PT := LB c.1 :: oO (O6 c.2) :: (if 4 < c.2 then [oO ko, oO bf] else [])
def Q6 (r : List E) : List PT := Ld [40] :: (Dk (r.map E.pt) ++ [Ld [41]])
def Qx (s : Bs × E) : List PT := LB s.1 :: Ld [61] :: s.2.pt
def Pk : Option E → List PT
 | none => [Ld [42]]
 | some e => e.pt
def Og (o : E × Bool) : List PT := o.1.pt ++ (if o.2 = true then [oO BM] else [])
def Dw : Option E → List PT
 | none => []
 | some e => oO wN :: e.pt
def Re : Option Nat → List PT
 | none => []
 | some n => [oO jO, Q7 n]
def MZ : List (E × Bool) → List PT
 | [] => []
 | o :: r => oO qP :: oO O1 :: Dk ((o :: r).map Og)
def St.pt : St → List PT
 | .create t c => oO fE :: oO mD :: LB t :: Ld [40] :: (Dk (c.map QL) ++ [Ld [41]])
 | .drop t => [oO mQ, oO mD, LB t]
 | .insert t r => oO gZ :: oO FI :: LB t :: oO tF :: Dk (r.map Q6)
 | .delete t w => oO iH :: oO rU :: LB t :: Dw w
 | .update t s w => oO jC :: LB t :: oO LF :: (Dk (s.map Qx) ++ Dw w)
 | .select i t w o l => oO kR :: (Dk (i.map Pk) ++ oO rU :: LB t :: (Dw w ++ (MZ o ++ Re l)))
structure St.Fit (s : St) : Prop where
 exprs : ∀ e ∈ s.exprs, e.ok 2000
 parts : match s with
  | .create t c => isName t = true ∧ 1 ≤ c.length ∧ c.length ≤ 6 ∧ ∀ x ∈ c, isName x.1 = true ∧ 1 ≤ x.2 ∧ x.2 ≤ 7 ∧ x.2 ≠ 4
  | .drop t => isName t = true
  | .insert t r => isName t = true ∧ r ≠ [] ∧ ∀ x ∈ r, x ≠ []
  | .delete t w => isName t = true
  | .update t s w => isName t = true ∧ s ≠ [] ∧ ∀ x ∈ s, isName x.1 = true
  | .select i t w o l => isName t = true ∧ i ≠ [] ∧ ∀ n, l = some n → n ≤ 1000000000
section
variable {α : Type} {x : Nat → Rg α} {pt : α → List PT} {P : List Tok → Prop} {N : Nat}
end
theorem Du (sz : Nat) (ts : List Tok) : dA fun n => stmt sz n ts := by
 cases ts with
 | nil => exact ag _
 | cons t r =>
  unfold stmt;refine aW (ag _) (aW ?_ (aW (ag _) (aW ?_ (aW ?_ (aW ?_ (aW ?_ (ag _)))))))
  all_goals
   first | unfold create | unfold insert | unfold delete | unfold update | unfold choose
   repeat' (first | exact ag _ | exact fP _ _ | exact qA _ _ _ | exact aC (yg sz) _ _ | exact aC (iP _) _ _ | exact aC (eO _) _ _ | exact aC (fJ _) _ _ | refine aL ?_ (fun _ _ => ?_))
theorem rZ (sz : Nat) (ts : List Tok) : dA fun n => whole sz n ts := aL (Du sz ts) fun _ _ => ag _
theorem Parse.one {s : Bs} {r r' : Except (Nat × Nat) (List Nd)} (h : Parse s r) (h' : Parse s r') : r = r' := by
 unfold Parse at h h'
 cases hl : Lx.lex s with
 | error e => rw [hl] at h h'; simp only at h h'; rw [h, h']
 | ok ts =>
  rw [hl] at h h';simp only at h h';obtain ⟨n, q, h1, h2⟩ := h;obtain ⟨n', q', h1', h2'⟩ := h';have e1 := rZ s.length ts n (max n n') _ (Nat.le_max_left _ _) h1;have e2 := rZ s.length ts n' (max n n') _ (Nat.le_max_right _ _) h1';simp only at e1 e2;rw [e1] at e2
  cases e2
  match q, h2, h2' with
  | .error e, h2, h2' => simp only at h2 h2'; rw [h2, h2']
  | .ok (a, _), h2, h2' =>
   obtain ⟨d, d1, d2⟩ := h2;obtain ⟨d', d1', d2'⟩ := h2';rw [d1] at d1'
   cases d1'
   rw [d2, d2']
end Px
end
def gL : List (Nat × Lx.Bs × Nat) → List Value
 | [] => []
 | (l, s, k) :: r => [.int .i64 (k : Int), .string ⟨s.toArray⟩, .int .i64 (l : Int)] ++ gL r
structure jH (w : World) : Prop where
 env : Env w
 ops : ∃ t fr, w.heap[7]? = some (.cells (gL Px.bW).toArray t fr)
 rng : ∃ te pe, w.cell? ⟨9, 0, none⟩ = some (.iface te pe)
theorem jH.grown (h : jH w) (hg : w.grownBy w' (some B)) (hB : 12 ≤ B) : jH w' := by
 have hr := h.env.room
 have hb : ∀ k, k < 12 → w'.heap[k]? = w.heap[k]? := fun k hk => hg.block k (by omega) (by simp; omega)
 refine ⟨h.env.grown hg hB, ?_, ?_⟩
 · rw [hb _ (by simp)]; exact h.ops
 rw [World.cell?_of_block (w := w) (hb _ (by simp))]; exact h.rng
theorem jH.below (h : jH w) (hb : Below w.heap.size w w') : jH w' := h.grown (B := w.heap.size) (Below.grownBy hb) h.env.room
structure Sa (w : World) : Prop where
 env : NK w
 ops : ∃ t fr, w.heap[7]? = some (.cells (gL Px.bW).toArray t fr)
structure Cs (w : World) (B : Nat) (lv : Value) (ts : List Lx.Tok) (sz k : Nat) (dp : Bool) : Prop where
 blk : af w B #[lv, .int .i64 (k : Int), .int .i64 (sz : Int), .bool dp] 79
 own : ∃ b, w.ownsRow b 146 3 lv ts.length (gI ts)
 ne : lv.ownBlock ≠ some B
 toks : ∀ t ∈ ts, Lx.C8 t ∧ Px.qd t ∧ t.pos ≤ 2000 ∧ t.text.length ≤ 2000
 len : ts.length ≤ 2000
 size : sz ≤ 2000
 le : k ≤ ts.length
 env : jH w
 low : 12 ≤ B
theorem Cs.kept {ts : List Lx.Tok} {k' : Nat} {dp' : Bool} (h : Cs w B lv ts sz k dp) (hg : w.grownBy w' (some B)) (hb : af w' B #[lv, .int .i64 (k' : Int), .int .i64 (sz : Int), .bool dp'] 79) (hk : k' ≤ ts.length) : Cs w' B lv ts sz k' dp' := by
 obtain ⟨b, ho⟩ := h.own;refine ⟨hb, ⟨b, ho.kept hg ?_⟩, h.ne, h.toks, h.len, h.size, hk, h.env.grown hg h.low, h.low⟩
 cases hv : lv.ownBlock with
 | none => simp
 | some g => right; intro e; exact h.ne (by rw [hv, e])
theorem Cs.below {ts : List Lx.Tok} (h : Cs w B lv ts sz k dp) (hb : Below w.heap.size w w') : Cs w' B lv ts sz k dp := by
 obtain ⟨b, ho⟩ := h.own;exact ⟨h.blk.below hb h.blk.lt, ⟨b, dJ ho hb⟩, h.ne, h.toks, h.len, h.size, h.le, h.env.below hb, h.low⟩
theorem Cs.setAt {ts : List Lx.Tok} (h : Cs w B lv ts sz k dp) (j : Nat) (hj : j ≤ ts.length) : Cs (w.setCell ⟨B, 1, none⟩ (.int .i64 (j : Int))) B lv ts sz j dp :=
 h.kept (oD w B 1 _) (h.blk.set 1 _) hj
theorem Cs.Mr {ts : List Lx.Tok} (h : Cs w B lv ts sz k dp) : Cs (w.setCell ⟨B, 3, none⟩ (.bool true)) B lv ts sz k true :=
 h.kept (oD w B 3 _) (h.blk.set 3 _) h.le
theorem Cs.cells {ts : List Lx.Tok} (h : Cs w B lv ts sz k dp) :
   w.cell? ⟨B, 0, none⟩ = some lv ∧ w.cell? ⟨B, 1, none⟩ = some (.int .i64 (k : Int)) ∧ w.cell? ⟨B, 2, none⟩ = some (.int .i64 (sz : Int)) ∧ w.cell? ⟨B, 3, none⟩ = some (.bool dp) :=
 ⟨h.blk.cell 0, h.blk.cell 1, h.blk.cell 2, h.blk.cell 3⟩
def Cx (w : World) (B : Nat) (lv : Value) (ts : List Lx.Tok) (sz : Nat) (q : List Lx.Tok) (dp : Bool) : Prop := ∃ k, q = ts.drop k ∧ Cs w B lv ts sz k dp
theorem Cx.below {ts : List Lx.Tok} {q : List Lx.Tok} (h : Cx w B lv ts sz q dp) (hb : Below w.heap.size w w') : Cx w' B lv ts sz q dp := by
 obtain ⟨k, h1, h2⟩ := h;exact ⟨k, h1, h2.below hb⟩
def pk (sz : Nat) : List Lx.Tok → Lx.Tok
 | [] => ⟨0, [], sz⟩
 | t :: _ => t
theorem MP (ts : List Lx.Tok) (sz k : Nat) : pk sz (ts.drop k) = ug ts sz k := by
 unfold ug;by_cases hk : k < ts.length
 · rw [List.drop_eq_getElem_cons hk];simp [pk, hk]
 rw [List.drop_eq_nil_of_le (by omega)];simp [pk, hk]
theorem Jm (sz : Nat) (q : List Lx.Tok) : Px.oN sz q = (pk sz q).pos := by cases q <;> rfl
theorem M7 (s : Lx.Bs) (sz : Nat) (q : List Lx.Tok) : Px.sees s q = ((decide ((pk sz q).kind = 50) || decide ((pk sz q).kind = 51)) && (pk sz q).text == s) := by cases q <;> rfl
def ll (p c : Nat) : Ending := .panicked [{ v := .iface 74 (.agg #[.int .i64 (p : Int), .int .i64 (c : Int)]), recovered := false }]
theorem Cs.tok {ts : List Lx.Tok} (h : Cs w B lv ts sz k dp) : ∃ ao cap, lv = .slice ao ts.length cap ∧
   ∀ k, (hk : k < ts.length) → ∃ g, ao = some ⟨g, 0, none⟩ ∧ g < w.heap.size ∧ w.cell? ⟨g, k * 3, none⟩ = some (.int .i64 (ts[k].kind : Int)) ∧ w.cell? ⟨g, k * 3 + 1, none⟩ = some (.string ⟨ts[k].text.toArray⟩) ∧ w.cell? ⟨g, k * 3 + 2, none⟩ = some (.int .i64 (ts[k].pos : Int)) := by
 obtain ⟨b, ho⟩ := h.own;have ho2 := ho.2;rcases ho2 with ⟨rfl, hn⟩ | ⟨g, cap, cur, rfl, hb, hg, h1, h2, h3, h4⟩
 · exact ⟨none, 0, by rw [hn], fun k hk => by omega⟩
 refine ⟨some ⟨g, 0, none⟩, cap, rfl, fun k hk => ⟨g, rfl, ?_⟩⟩;have hc := ho.cells (g := g) rfl;obtain ⟨q0, q1, q2⟩ := yt ts k hk;have a0 := hc _ _ q0;have a1 := hc _ _ q1;have a2 := hc _ _ q2;simp only [Addr.add_lit, Nat.zero_add] at a0 a1 a2;exact ⟨(geA.1 hg).1, a0, a1, a2⟩
theorem Hg (w : World) (B : Nat) (lv : Value) (ts : List Lx.Tok) (sz k : Nat) (dp : Bool) (h : Cs w B lv ts sz k dp) :
   Calls Tryz.prog 63 #[.pointer (some ⟨B, 0, none⟩)] w fun x w' => x = .returned (iJ (ug ts sz k)) ∧ Below w.heap.size w w' := by
 obtain ⟨c0, c1, c2, c3⟩ := h.cells;obtain ⟨ao, cap, rfl, hk⟩ := h.tok;have hle := h.le;have hlen := h.len;have hB := h.blk.lt;by_cases hlt : k < ts.length
 · obtain ⟨g, rfl, hg, k0, k1, k2⟩ := hk k hlt
   have e1 : ug ts sz k = ts[k] := by simp [ug, hlt]
   rw [e1];generalize ts[k] = t at *;clear hk e1 h;go_enter Tryz.func63, Tryz.ntmps63;go_wp2
   go_region
   all_goals go_wp2
   all_goals go_region
   all_goals go_wp2
   refine bodyPost_ret (v := iJ t) (by simp [results, Tryz.results63, go_sem, iJ]) rfl ⟨rfl, by go_grown⟩
 have e1 : ug ts sz k = ⟨0, [], sz⟩ := by simp [ug, hlt]
 rw [e1];clear hk e1 h;go_enter Tryz.func63, Tryz.ntmps63;go_wp2
 go_region
 all_goals go_wp2
 refine bodyPost_ret (v := iJ ⟨0, [], sz⟩) (by simp [results, Tryz.results63, go_sem, iJ]) rfl ⟨rfl, by go_grown⟩
theorem bJ (w : World) (B : Nat) (lv : Value) (ts : List Lx.Tok) (sz : Nat) (q : List Lx.Tok) (dp : Bool) (h : Cx w B lv ts sz q dp) :
   Calls Tryz.prog 63 #[.pointer (some ⟨B, 0, none⟩)] w fun x w' => x = .returned (iJ (pk sz q)) ∧ Below w.heap.size w w' := by
 obtain ⟨k, rfl, h⟩ := h;rw [MP];exact Hg w B lv ts sz k dp h
theorem P9 (a b c : Value) (w : World) : (Instr.field 146 (.agg #[a, b, c]) 0).run Tryz.prog w = .ok a w := by kernel_rfl
theorem RP (a b c : Value) (w : World) : (Instr.field 146 (.agg #[a, b, c]) 1).run Tryz.prog w = .ok b w := by kernel_rfl
theorem Oo (a b c : Value) (w : World) : (Instr.field 146 (.agg #[a, b, c]) 2).run Tryz.prog w = .ok c w := by kernel_rfl
theorem gY (w : World) (v : Value) (p c : Nat) :
   Calls Tryz.prog 62 #[v, .int .i64 (p : Int), .int .i64 (c : Int)] w fun e w' => e = ll p c ∧ w' = w := by
 go_enter Tryz.func62, Tryz.ntmps62;go_wp2;exact ⟨rfl, rfl, rfl⟩
theorem oL (w : World) (v : Value) : Calls Tryz.prog 29 #[v, .bool true] w fun e w' => e = .returned (.tuple #[]) ∧ w' = w := by
 go_enter Tryz.func29, Tryz.ntmps29;go_wp2_with fail
 go_end0
 exact ⟨rfl, rfl⟩
theorem Ia (w : World) (B : Nat) (lv : Value) (ts : List Lx.Tok) (sz : Nat) (q : List Lx.Tok) (dp : Bool) (h : Cx w B lv ts sz q dp) (tk : Nat) (tt : Lx.Bs) (tp : Nat) (ht : pk sz q = ⟨tk, tt, tp⟩) :
   Calls Tryz.prog 29 #[.pointer (some ⟨B, 0, none⟩), .bool false] w fun e w' => e = ll tp 4 ∧ Below w.heap.size w w' := by
 have HT := hd ht;clear ht;have hf2 := Oo;go_enter Tryz.func29, Tryz.ntmps29;go_wp2_with fail;refine (bJ w B lv ts sz q dp h).mono ?_;rintro x w1 ⟨rfl, hb⟩;rw [HT.out];unfold iJ;simp only;go_wp2_with fail;refine (gY w1 _ tp 4).mono ?_;rintro x w2 ⟨rfl, rfl⟩;exact ⟨rfl, rfl, hb⟩
theorem qZ (w : World) (B : Nat) (lv : Value) (ts : List Lx.Tok) (sz : Nat) (q : List Lx.Tok) (dp : Bool) (h : Cx w B lv ts sz q dp) :
   Calls Tryz.prog 29 #[.pointer (some ⟨B, 0, none⟩), .bool false] w fun e w' => e = ll (Px.oN sz q) 4 ∧ Below w.heap.size w w' := by
 rw [Jm];rcases ht : pk sz q with ⟨tk, tt, tp⟩;exact Ia w B lv ts sz q dp h tk tt tp ht
def rF (t : Lx.Tok) : Lx.Bs := if t.kind = 50 ∨ t.kind = 51 then t.text else []
theorem ET (w : World) (B : Nat) (lv : Value) (ts : List Lx.Tok) (sz : Nat) (q : List Lx.Tok) (dp : Bool) (h : Cx w B lv ts sz q dp) (tk : Nat) (tt : Lx.Bs) (tp : Nat) (ht : pk sz q = ⟨tk, tt, tp⟩) :
   Calls Tryz.prog 116 #[.pointer (some ⟨B, 0, none⟩)] w fun x w' => x = .returned (.string ⟨(rF ⟨tk, tt, tp⟩).toArray⟩) ∧ Below w.heap.size w w' := by
 have HT := hd ht;clear ht;unfold rF;go_enter Tryz.func116, Tryz.ntmps116;go_wp2_with fail;refine (bJ w B lv ts sz q dp h).mono ?_;rintro x w1 ⟨rfl, hb⟩;rw [HT.out];unfold iJ;simp only;have hs := hb.size;by_cases h50 : tk = 50
 · subst h50;go_wp2;go_ret;exact ⟨rfl, by go_grown⟩
 have h1 : ((tk : Int) == 50) = false := by rw [beq_eq_false_iff_ne]; omega
 by_cases h51 : tk = 51
 · subst h51;go_wp2;go_ret;exact ⟨rfl, by go_grown⟩
 have h2 : ((tk : Int) == 51) = false := by rw [beq_eq_false_iff_ne]; omega
 go_wp2;go_ret;exact ⟨by simp [h50, h51], by go_grown⟩
theorem jE (w : World) (B : Nat) (lv : Value) (ts : List Lx.Tok) (sz : Nat) (q : List Lx.Tok) (dp : Bool) (h : Cx w B lv ts sz q dp) :
   Calls Tryz.prog 116 #[.pointer (some ⟨B, 0, none⟩)] w fun x w' => x = .returned (.string ⟨(rF (pk sz q)).toArray⟩) ∧ Below w.heap.size w w' := by
 rcases ht : pk sz q with ⟨tk, tt, tp⟩;exact ET w B lv ts sz q dp h tk tt tp ht
theorem Bb {s : Lx.Bs} (hs : s ≠ []) (sz : Nat) (q : List Lx.Tok) : (rF (pk sz q) = s) ↔ Px.sees s q = true := by
 rw [M7 s sz q];rcases pk sz q with ⟨tk, tt, tp⟩;unfold rF;simp only [Bool.and_eq_true, Bool.or_eq_true, decide_eq_true_eq, beq_iff_eq];by_cases h : tk = 50 ∨ tk = 51
 · rw [if_pos h]; exact ⟨fun e => ⟨h, e⟩, fun e => e.2⟩
 rw [if_neg h]; exact ⟨fun e => absurd e.symm hs, fun e => absurd e.1 h⟩
theorem Cx.next {ts : List Lx.Tok} {q : List Lx.Tok} (h : Cx w B lv ts sz q dp) (hq : q ≠ []) : ∃ k : Nat, k ≤ 2000 ∧ w.cell? ⟨B, 1, none⟩ = some (.int .i64 (k : Int)) ∧ w.frozen? ⟨B, 1, none⟩ = false ∧
   Cx (w.setCell ⟨B, 1, none⟩ (.int .i64 ((k : Int) + 1))) B lv ts sz q.tail dp := by
 obtain ⟨k, rfl, h⟩ := h
 have hk : k < ts.length := by
  apply Decidable.byContradiction;intro hn;exact hq (List.drop_eq_nil_of_le (by omega))
 have := h.len;refine ⟨k, by omega, h.cells.2.1, h.blk.free 1, k + 1, by rw [List.tail_drop], ?_⟩;have := h.setAt (k + 1) (by omega)
 rwa [show (((k + 1 : Nat) : Nat) : Int) = (k : Int) + 1 by omega] at this
theorem Cx.lt {ts : List Lx.Tok} {q : List Lx.Tok} (h : Cx w B lv ts sz q dp) : B < w.heap.size := by
 obtain ⟨k, _, h⟩ := h;exact h.blk.lt
theorem nN (s : ByteArray) (w : World) (B : Nat) (lv : Value) (ts : List Lx.Tok) (sz : Nat) (q : List Lx.Tok) (dp : Bool) (h : Cx w B lv ts sz q dp) (hs : Px.sees s.data.toList q = true) (hne : s.data.toList ≠ []) :
   Calls Tryz.prog 54 #[.pointer (some ⟨B, 0, none⟩), .string s] w fun x w' => x = .returned (.bool true) ∧ Cx w' B lv ts sz q.tail dp ∧ w.grownBy w' (some B) := by
 have hq : q ≠ [] := by rintro rfl; cases hs
 have hf : (⟨(rF (pk sz q)).toArray⟩ : ByteArray) = s := by
  rw [(Bb hne sz q).2 hs]
 go_enter Tryz.func54, Tryz.ntmps54;go_wp2_with fail;refine (jE w B lv ts sz q dp h).mono ?_;rintro x w1 ⟨rfl, hb⟩;rw [hf];clear hf hs hne;obtain ⟨k, hk, c1, f1, hn⟩ := (h.below hb).next hq;have HN := hd hn;have HB := hd hb;clear hb hn h;go_wp2;go_ret;exact ⟨rfl, HN.out, ay (Below.grownBy HB.out) (oD w1 B 1 _)⟩
theorem di (s : ByteArray) (w : World) (B : Nat) (lv : Value) (ts : List Lx.Tok) (sz : Nat) (q : List Lx.Tok) (dp : Bool) (h : Cx w B lv ts sz q dp) (hs : Px.sees s.data.toList q = false) (hne : s.data.toList ≠ []) :
   Calls Tryz.prog 54 #[.pointer (some ⟨B, 0, none⟩), .string s] w fun x w' => x = .returned (.bool false) ∧ Below w.heap.size w w' := by
 have hf : ((⟨(rF (pk sz q)).toArray⟩ : ByteArray).toList == s.toList) = false := by
  rw [beq_eq_false_iff_ne, Lib.toList_data, Lib.toList_data];intro e;rw [(Bb hne sz q).1 e] at hs
  cases hs
 go_enter Tryz.func54, Tryz.ntmps54;go_wp2_with fail;refine (jE w B lv ts sz q dp h).mono ?_;rintro x w1 ⟨rfl, hb⟩;generalize (⟨(rF (pk sz q)).toArray⟩ : ByteArray) = f at *;clear hs hne h;go_wp2;go_ret;exact ⟨rfl, hb⟩
theorem Ak (s : ByteArray) (w : World) (B g : Nat) (lv : Value) (ts : List Lx.Tok) (sz : Nat) (q : List Lx.Tok) (dp : Bool) (h : Cx w B lv ts sz q dp) (hs : Px.sees s.data.toList q = true) (hne : s.data.toList ≠ []) (hv : w.cell? ⟨g, 0, none⟩ = some (.string s)) :
   Calls Tryz.prog 56 #[.pointer (some ⟨B, 0, none⟩), .slice (some ⟨g, 0, none⟩) 1 1] w fun x w' => x = .returned (.tuple #[]) ∧ Cx w' B lv ts sz q.tail dp ∧ w.grownBy w' (some B) := by
 have HS := hd hs;have HN := hd hne;clear hs hne;go_enter Tryz.func56, Tryz.ntmps56;go_wp2_with fail;refine wp_loop_rounds 2 ?_;rw [rounds_succ];go_wp2_with fail;refine (nN s w B lv ts sz q dp h HS.out HN.out).mono ?_;rintro x w1 ⟨rfl, hx, hg⟩;go_wp2_with fail;refine (oL w1 _).mono ?_;rintro x w2 ⟨rfl, rfl⟩;go_wp2_with fail;rw [rounds_succ];go_wp2_with fail
 go_end0
 exact ⟨rfl, hx, hg⟩
theorem BP (s : ByteArray) (w : World) (B g : Nat) (lv : Value) (ts : List Lx.Tok) (sz : Nat) (q : List Lx.Tok) (dp : Bool) (h : Cx w B lv ts sz q dp) (hs : Px.sees s.data.toList q = false) (hne : s.data.toList ≠ []) (hv : w.cell? ⟨g, 0, none⟩ = some (.string s)) :
   Calls Tryz.prog 56 #[.pointer (some ⟨B, 0, none⟩), .slice (some ⟨g, 0, none⟩) 1 1] w fun x w' => x = ll (Px.oN sz q) 4 ∧ Below w.heap.size w w' := by
 have HS := hd hs;have HN := hd hne;clear hs hne;go_enter Tryz.func56, Tryz.ntmps56;go_wp2_with fail;refine wp_loop_rounds 1 ?_;rw [rounds_succ];go_wp2_with fail;refine (di s w B lv ts sz q dp h HS.out HN.out).mono ?_;rintro x w1 ⟨rfl, hb⟩;go_wp2_with fail;refine (qZ w1 B lv ts sz q dp (h.below hb)).mono ?_;rintro x w2 ⟨rfl, hb2⟩;exact ⟨rfl, rfl, hb.trans (hb2.mono hb.size)⟩
theorem bI {row : Option Nat} (h : w.grownBy w1 row) {M : Nat} (hM : w.heap.size ≤ M) (i : Nat) (v : Value) : w.grownBy (w1.setCell ⟨M, i, none⟩ v) row :=
 ⟨h.os, h.tape, h.output, by simpa [World.setCell] using h.size, fun k hk hne => by rw [Below.heap_setCell _ _ _ _ (by show k ≠ M; omega)]; exact h.block k hk hne⟩
theorem Cx.step {ts : List Lx.Tok} {q : List Lx.Tok} {dp' : Bool} (h : Cx w B lv ts sz q dp) (hg : w.grownBy w' (some B)) (hq : q ≠ []) (k : Nat) (hc : w.cell? ⟨B, 1, none⟩ = some (.int .i64 (k : Int))) (hb : af w' B #[lv, .int .i64 ((k : Int) + 1), .int .i64 (sz : Int), .bool dp'] 79) : Cx w' B lv ts sz q.tail dp' := by
 obtain ⟨j, rfl, h⟩ := h
 have e : (j : Int) = k := by
  have := h.cells.2.1;rw [this] at hc;simpa using hc
 have hk : j < ts.length := by
  apply Decidable.byContradiction;intro hn;exact hq (List.drop_eq_nil_of_le (by omega))
 refine ⟨j + 1, by rw [List.tail_drop], h.kept (k' := j + 1) hg ?_ (by omega)⟩;rw [show ((j + 1 : Nat) : Int) = (k : Int) + 1 by omega];exact hb
theorem Cx.blk {ts : List Lx.Tok} {q : List Lx.Tok} (h : Cx w B lv ts sz q dp) : ∃ k : Nat, k ≤ 2000 ∧ af w B #[lv, .int .i64 (k : Int), .int .i64 (sz : Int), .bool dp] 79 := by
 obtain ⟨k, _, h⟩ := h;exact ⟨k, Nat.le_trans h.le h.len, h.blk⟩
theorem nS (w : World) (B : Nat) (lv : Value) (ts : List Lx.Tok) (sz : Nat) (tk : Nat) (tt : Lx.Bs) (tp : Nat) (q : List Lx.Tok) (dp : Bool) (h : Cx w B lv ts sz (⟨tk, tt, tp⟩ :: q) dp) (kd : Nat) (hk : tk = kd) :
   Calls Tryz.prog 120 #[.pointer (some ⟨B, 0, none⟩), .int .i64 (kd : Int)] w fun x w' => x = .returned (iJ ⟨tk, tt, tp⟩) ∧ Cx w' B lv ts sz q dp ∧ w.grownBy w' (some B) := by
 subst hk;obtain ⟨k, hk2, hblk⟩ := h.blk;have HX := hd h;have hlt := h.lt;clear h;go_enter Tryz.func120, Tryz.ntmps120;go_wp2_with fail;refine (bJ _ B lv ts sz _ dp (HX.out.below ((Below.refl _ _).alloc (nlr _) _))).mono ?_;rintro x w1 ⟨rfl, hb⟩;have hs := hb.size;have hb0 : Below w.heap.size w w1 := ((Below.refl _ _).alloc (nlr _) _).trans (hb.mono (by simp));have K4 := (af.new w #[.int .i64 0, .string ⟨#[]⟩, .int .i64 0] 146).below hb (by simp);simp only [World.size_alloc] at hs;unfold iJ pk;simp only;go_wp2_with fail;refine (oL _ _).mono ?_;rintro x w2 ⟨rfl, hw⟩
 have hb2 : Below w.heap.size w w2 := by subst hw; exact hb0.alloc (by omega) _
 have KB := hblk.below hb2 hlt
 have KN : af w2 w1.heap.size #[.int .i64 (tk : Int), .string ⟨tt.toArray⟩, .int .i64 (tp : Int)] 146 := by subst hw; exact af.new _ _ _
 have K4' : af w2 w.heap.size #[.int .i64 0, .string ⟨#[]⟩, .int .i64 0] 146 := by subst hw; exact K4.alloc _
 clear hw K4 hb hb0;have c1 : w2.cell? ⟨B, 1, none⟩ = some (.int .i64 (k : Int)) := KB.cell 1;have f1 := KB.free 1;have n0 : w2.cell? ⟨w1.heap.size, 0, none⟩ = some (.int .i64 (tk : Int)) := KN.cell 0;have n1 : w2.cell? ⟨w1.heap.size, 1, none⟩ = some (.string ⟨tt.toArray⟩) := KN.cell 1;have n2 : w2.cell? ⟨w1.heap.size, 2, none⟩ = some (.int .i64 (tp : Int)) := KN.cell 2;have m0 : w2.cell? ⟨w.heap.size, 0, none⟩ = some (.int .i64 0) := K4'.cell 0;have m1 : w2.cell? ⟨w.heap.size, 1, none⟩ = some (.string ⟨#[]⟩) := K4'.cell 1;have m2 : w2.cell? ⟨w.heap.size, 2, none⟩ = some (.int .i64 0) := K4'.cell 2;have g0 := K4'.free 0;have g1 := K4'.free 1;have g2 := K4'.free 2
 have d1 : ¬ B = w1.heap.size := by omega
 have d2 : ¬ w1.heap.size = B := by omega
 have d3 : ¬ B = w.heap.size := by omega
 have d4 : ¬ w.heap.size = B := by omega
 have d5 : ¬ w1.heap.size = w.heap.size := by omega
 have d6 : ¬ w.heap.size = w1.heap.size := by omega
 have HB2 := hd hb2;have HKB := hd KB;have HK4 := hd K4';clear KN K4' hb2 KB;go_wp2;have KF := (((HK4.out.far ⟨B, 1, none⟩ (.int .i64 ((k : Int) + 1)) d3).set 0 (.int .i64 (tk : Int))).set 1 (.string ⟨tt.toArray⟩)).set 2 (.int .i64 (tp : Int));have e0 := KF.cell 0;have e1 := KF.cell 1;have e2 := KF.cell 2;simp at e0 e1 e2;refine bodyPost_ret (v := iJ ⟨tk, tt, tp⟩) (by simp [results, Tryz.results120, go_sem, iJ, e0, e1, e2]) rfl ⟨rfl, ?_, ?_⟩
 · refine Cx.step (q := ⟨tk, tt, tp⟩ :: q) HX.out (bI (bI (bI (ay (Below.grownBy HB2.out) (oD w2 B 1 _)) (nlr _) 0 _) (nlr _) 1 _) (nlr _) 2 _) (by simp) k (hblk.cell 1) ?_;exact (((HKB.out.set 1 (.int .i64 ((k : Int) + 1))).far ⟨w.heap.size, 0, none⟩ _ d4).far ⟨w.heap.size, 1, none⟩ _ d4).far ⟨w.heap.size, 2, none⟩ _ d4
 exact bI (bI (bI (ay (Below.grownBy HB2.out) (oD w2 B 1 _)) (nlr _) 0 _) (nlr _) 1 _) (nlr _) 2 _
theorem xP (w : World) (B : Nat) (lv : Value) (ts : List Lx.Tok) (sz : Nat) (q : List Lx.Tok) (dp : Bool) (h : Cx w B lv ts sz q dp) (tk : Nat) (tt : Lx.Bs) (tp : Nat) (ht : pk sz q = ⟨tk, tt, tp⟩) (kd : Nat) (hk : tk ≠ kd) :
   Calls Tryz.prog 120 #[.pointer (some ⟨B, 0, none⟩), .int .i64 (kd : Int)] w fun x w' => x = ll (Px.oN sz q) 4 ∧ Below w.heap.size w w' := by
 have HX := hd h;have HT := hd ht
 have h0 : ((tk : Int) == (kd : Int)) = false := by rw [beq_eq_false_iff_ne]; omega
 clear h ht;go_enter Tryz.func120, Tryz.ntmps120;go_wp2_with fail;refine (bJ _ B lv ts sz _ dp (HX.out.below ((Below.refl _ _).alloc (nlr _) _))).mono ?_;rintro x w1 ⟨rfl, hb⟩;have hs := hb.size;have hb0 : Below w.heap.size w w1 := ((Below.refl _ _).alloc (nlr _) _).trans (hb.mono (by simp));have HB0 := hd hb0;clear hb hb0;simp only [World.size_alloc] at hs;rw [HT.out];unfold iJ;simp only;go_wp2_with fail;refine (qZ _ B lv ts sz q dp (HX.out.below (HB0.out.alloc (by omega) _))).mono ?_;rintro x w2 ⟨rfl, hb2⟩;exact ⟨rfl, rfl, (HB0.out.alloc (by omega) _).trans (hb2.mono (by simp; omega))⟩
section
open Go.RowKit Go.Shelf Go.Lib
theorem CG {x : List UInt8} (h : s.data.toList = x) : s = ⟨x.toArray⟩ := by
 cases s with
 | mk d => cases d with
  | mk l => simp at h; subst h; rfl
theorem nJ {P : Program} {nm : String} {m : Nat} {e : TypeId} (ss : List (List UInt8)) (hg : P.globalNamed nm = some g) (hty : (P.globals[g]?).map (·.type) = some t)
   (ht : P.underlying t = some (.array m e)) (he : P.underlying e = some .string) (hce : P.cellsOf e = 1) (hct : P.cellsOf t = m)
   (h : VarReads P w nm (.agg (ss.map fun x => .lit (.string x)))) : ∃ t' fr, w.heap[g]? = some (.cells (eZ ss) t' fr) := by
 obtain ⟨g', t', cs, fuel, p, hg', hty', hvar, hd⟩ := h;obtain rfl := Option.some.inj (hg.symm.trans hg');obtain rfl := Option.some.inj (hty.symm.trans hty')
 have hcs : cs = eZ ss := by
  cases fuel with
  | zero => simp [DataW.trod] at hd
  | succ fuel =>
   simp only [DataW.trod, ht, hce, hct, Nat.mul_one] at hd
   split at hd
   · rename_i hl;obtain ⟨xs, hm, hx⟩ := Option.map_eq_some_iff.1 hd
     have hxs : xs.map (·.1) = ss.map fun x => (DataW.lit (.string x) : DataW Unit) := by
      have := congrArg Prod.fst hx;simpa using this
     have hxl : xs.length = m := by simpa using mapM_length hm
     have hzl : ss.length = m := by
      have := congrArg List.length hxs;simp at this;omega
     apply Array.ext';apply List.ext_getElem?;intro i;by_cases hi : i < m
     · obtain ⟨b, hb, hf⟩ := mapM_at hm i i (by simp [hi]);obtain ⟨s, hc, rfl, _⟩ := DataW.trod_string he hf
       have h1 : cs.toList[i]? = some (.string s) := by
        have := congrArg (·[0]?) hc;simpa [List.getElem?_take, List.getElem?_drop] using this
       have h2 : (xs.map (·.1))[i]? = some (DataW.lit (.string s.data.toList) : DataW Unit) := by simp [hb]
       rw [hxs] at h2;simp only [List.getElem?_map, Option.map_eq_some_iff, DataW.lit.injEq, Lit.string.injEq] at h2;obtain ⟨x, hx', hxx⟩ := h2;rw [h1, CG hxx.symm];simp [eZ, hx']
     rw [List.getElem?_eq_none (by omega), List.getElem?_eq_none (by simp [eZ]; omega)]
   cases hd
 subst hcs;simp only [World.var?, hg, Option.bind_some] at hvar
 split at hvar
 · rename_i c t2 fr hh
   cases hvar
   exact ⟨t2, fr, hh⟩
 cases hvar
def ES (x : Nat × Lx.Bs × Nat) : DataW Unit := .agg [.lit (.int .i64 (x.2.2 : Int)), .lit (.string x.2.1), .lit (.int .i64 (x.1 : Int))]
theorem nI : ∀ l : List (Nat × Lx.Bs × Nat), (gL l).length = l.length * 3
 | [] => rfl
 | (a, s, k) :: r => by simp [gL, nI r]; omega
theorem xL : ∀ (l : List (Nat × Lx.Bs × Nat)) (i : Nat) (h : i < l.length), (gL l)[i * 3]? = some (.int .i64 (l[i].2.2 : Int)) ∧ (gL l)[i * 3 + 1]? = some (.string ⟨l[i].2.1.toArray⟩) ∧ (gL l)[i * 3 + 2]? = some (.int .i64 (l[i].1 : Int))
 | (a, s, k) :: r, 0, _ => ⟨rfl, rfl, rfl⟩
 | (a, s, k) :: r, i + 1, h => by
  have ih := xL r i (by simpa using h)
  have e : ∀ j, (gL ((a, s, k) :: r))[j + 3]? = (gL r)[j]? := by
   intro j;show ([Value.int .i64 (k : Int), .string ⟨s.toArray⟩, .int .i64 (a : Int)] ++ gL r)[j + 3]? = _;rw [List.getElem?_append_right (by simp)];simp
  rw [show (i + 1) * 3 = i * 3 + 3 from by omega, show i * 3 + 3 + 1 = (i * 3 + 1) + 3 from by omega, show i * 3 + 3 + 2 = (i * 3 + 2) + 3 from by omega, e, e, e];simpa using ih
theorem Ae {P : Program} {nm : String} {m : Nat} {e : TypeId} {f0 f1 f2 : Field} (ss : List (Nat × Lx.Bs × Nat)) (hg : P.globalNamed nm = some g) (hty : (P.globals[g]?).map (·.type) = some t)
   (ht : P.underlying t = some (.array m e)) (he : P.underlying e = some (.struct #[f0, f1, f2])) (hce : P.cellsOf e = 3) (hct : P.cellsOf t = m * 3) (hm : ss.length = m)
   (u0 : P.underlying f0.type = some (.int .i64)) (u1 : P.underlying f1.type = some .string) (u2 : P.underlying f2.type = some (.int .i64)) (c0 : P.cellsOf f0.type = 1) (c1 : P.cellsOf f1.type = 1) (c2 : P.cellsOf f2.type = 1)
   (o0 : f0.offset = 0) (o1 : f1.offset = 1) (o2 : f2.offset = 2)
   (h : VarReads P w nm (.agg (ss.map ES))) : ∃ t' fr, w.heap[g]? = some (.cells (gL ss).toArray t' fr) := by
 obtain ⟨g', t', cs, fuel, p, hg', hty', hvar, hd⟩ := h;obtain rfl := Option.some.inj (hg.symm.trans hg');obtain rfl := Option.some.inj (hty.symm.trans hty')
 have hlen : cs.toList.length = m * 3 := by
  cases fuel with
  | zero => simp [DataW.trod] at hd
  | succ fuel =>
   simp only [DataW.trod, ht] at hd
   split at hd
   · rename_i hl;rw [hl, hct]
   cases hd
 have key : ∀ i, (hi : i < m) → cs.toList[i * 3]? = some (.int .i64 ((ss[i]'(by omega)).2.2 : Int)) ∧ cs.toList[i * 3 + 1]? = some (.string ⟨(ss[i]'(by omega)).2.1.toArray⟩) ∧ cs.toList[i * 3 + 2]? = some (.int .i64 ((ss[i]'(by omega)).1 : Int)) := by
  intro i hi;obtain ⟨fuel', d, q, hdi, hel⟩ := array_elem ht hd i hi
  have hi' : i < ss.length := by omega
  simp only [List.getElem?_map, List.getElem?_eq_getElem hi', Option.map_some, Option.some.injEq] at hdi;subst hdi;rw [hce] at hel;obtain ⟨y0, y1, y2, n, hx, hl, h0, h1, h2⟩ := Go.Deep.trod_struct3 he hel;rw [o0, c0] at h0;rw [o1, c1] at h1;rw [o2, c2] at h2;obtain ⟨z0, a0, b0, _⟩ := DataW.trod_int u0 h0;obtain ⟨z1, a1, b1, _⟩ := DataW.trod_string u1 h1;obtain ⟨z2, a2, b2, _⟩ := DataW.trod_int u2 h2;subst b0;subst b1;subst b2;simp only [ES, Prod.mk.injEq, DataW.agg.injEq, List.cons.injEq, DataW.lit.injEq, Lit.int.injEq, Lit.string.injEq, true_and, and_true] at hx;obtain ⟨⟨e0, e1, e2⟩, _⟩ := hx;have g0 := congrArg (·[0]?) a0;have g1 := congrArg (·[0]?) a1;have g2 := congrArg (·[0]?) a2;simp only [List.getElem?_take, List.getElem?_drop] at g0 g1 g2;simp at g0 g1 g2;refine ⟨?_, ?_, ?_⟩
  · rw [e0]; simpa using g0
  · rw [CG (s := z1) e1.symm] at g1; simpa using g1
  rw [e2]; simpa using g2
 have hcs : cs = (gL ss).toArray := by
  apply Array.ext';apply List.ext_getElem?;intro j;by_cases hj : j < m * 3
  · have hi : j / 3 < m := by omega
    obtain ⟨k0, k1, k2⟩ := key (j / 3) hi;obtain ⟨r0, r1, r2⟩ := xL ss (j / 3) (by omega)
    have h3 : j = j / 3 * 3 ∨ j = j / 3 * 3 + 1 ∨ j = j / 3 * 3 + 2 := by omega
    rcases h3 with e | e | e
    · rw [e, k0]; exact r0.symm
    · rw [e, k1]; exact r1.symm
    rw [e, k2]; exact r2.symm
  rw [List.getElem?_eq_none (by omega), List.getElem?_eq_none (by simp [nI]; omega)]
 subst hcs;simp only [World.var?, hg, Option.bind_some] at hvar
 split at hvar
 · rename_i c t2 fr hh
   cases hvar
   exact ⟨t2, fr, hh⟩
 cases hvar
theorem AL {P : Program} {nm name : String} {is : Array (String × TypeId)} {d : DataW Unit} (hg : P.globalNamed nm = some g) (hty : (P.globals[g]?).map (·.type) = some t)
   (ht : P.underlying t = some (.interface is)) (h : VarReads P w nm (.iface name d)) : ∃ te pe, w.cell? ⟨g, 0, none⟩ = some (.iface te pe) := by
 obtain ⟨g', t', cs, fuel, p, hg', hty', hvar, hd⟩ := h;obtain rfl := Option.some.inj (hg.symm.trans hg');obtain rfl := Option.some.inj (hty.symm.trans hty');rw [World.var?_cell hg hvar 0, ← Array.getElem?_toList];generalize cs.toList = l at hd ⊢
 cases fuel with
 | zero => simp [DataW.trod] at hd
 | succ fuel =>
  match l, hd with
  | [], hd => simp [DataW.trod, ht] at hd
  | [v], hd =>
   cases v with
   | iface u x => exact ⟨u, x, rfl⟩
   | _ => simp [DataW.trod, ht] at hd
  | a :: b :: r, hd => simp [DataW.trod, ht] at hd
end
theorem Ko (s : ByteArray) (k : Nat) (h : k ≤ s.size) : k + (bB s k).2 ≤ s.size := by
 unfold bB
 split
 · rename_i hk
   split
   · simp; omega
   have hle := Lx.iq (s.data.toList.drop k);rw [List.length_drop, show s.data.toList.length = s.size from by simp] at hle;simp; omega
 simp; omega
theorem wK (w : World) (B : Nat) (s : ByteArray) (k st : Nat) (h : Rd w B s k st) :
   Calls Tryz.prog 234 #[.pointer (some ⟨B, 0, none⟩)] w fun e w' => e = .returned (.int .i32 (bB s k).1) ∧ Rd w' B s (k + (bB s k).2) st ∧ w.grownBy w' (some B) := by
 have hpl := Ko s k h.le;have hsm := h.small;obtain ⟨c, n, hpk⟩ : ∃ c n, bB s k = (c, n) := ⟨_, _, rfl⟩;rw [hpk] at hpl ⊢;have HPK : Hid _ := hpk;clear hpk;simp only at hpl ⊢;go_enter Tryz.func234, Tryz.ntmps234;go_wp2_with fail;refine (o9 w B s k st h).mono ?_;rintro e w1 ⟨rfl, hb1⟩;rw [HPK.out];have h1 := h.below hb1;obtain ⟨⟨b0, b1, b2⟩, b3, b4, b5⟩ := h1.blk.three;go_wp2;go_ret;refine ⟨rfl, ?_, ?_⟩
 · exact h1.set1 (k + n) hpl
 exact ay (Below.grownBy hb1) (oD w1 B 1 _)
theorem yK (s : ByteArray) (i : Nat) (h : i < s.size) (hb : 128 ≤ s[i].toNat) : i + (Utf8.decode s i).2 ≤ s.size ∧ 1 ≤ (Utf8.decode s i).2 ∧ ∀ j, j < (Utf8.decode s i).2 → 128 ≤ (s.get! (i + j)).toNat := by
 by_cases hc : Lx.aI (s.data.toList.drop i) = 0
 · rw [(oW s i h hc).1];refine ⟨by simp; omega, by simp, ?_⟩;intro j hj
   have : j = 0 := by simp at hj; exact hj
   subst this;rw [Nat.add_zero, cK s i h]; exact hb
 have hle := Lx.iq (s.data.toList.drop i);rw [List.length_drop, show s.data.toList.length = s.size from by simp] at hle;have hg := ky s i h hc;have hcls := rC s i h;rw [cK s i h] at hcls;rw [hg.1];refine ⟨by omega, by omega, ?_⟩;intro j hj;rcases hg.2.2 with ⟨q, _, q2⟩ | ⟨q, _⟩
 · omega
 have hn : Lx.aI (s.data.toList.drop i) = 2 ∨ Lx.aI (s.data.toList.drop i) = 3 ∨ Lx.aI (s.data.toList.drop i) = 4 := by
  have : ∀ n b0 b1 b2 b3, jP n b0 b1 b2 b3 ≤ 4 := by
   intro n b0 b1 b2 b3;unfold jP
   repeat' split
   all_goals omega
  have := this (s.size - i) s[i].toNat (s.get! (i + 1)).toNat (s.get! (i + 2)).toNat (s.get! (i + 3)).toNat;rw [← hcls] at this;omega
 have lo : ∀ b, 128 ≤ Lx.jV b := by
  intro b; unfold Lx.jV
  repeat' split
  all_goals omega
 have hj0 : j = 0 → 128 ≤ (s.get! (i + j)).toNat := by rintro rfl; rw [Nat.add_zero, cK s i h]; exact hb
 rcases hn with e | e | e
 · rw [e] at hcls hj;obtain ⟨_, q1, _⟩ := FQ _ _ _ _ _ hcls.symm
   have : j = 0 ∨ j = 1 := by omega
   rcases this with rfl | rfl
   · exact hj0 rfl
   exact q1.2.1
 · rw [e] at hcls hj;obtain ⟨_, q1, q2, _⟩ := xV _ _ _ _ _ hcls.symm;have := lo s[i].toNat
   have : j = 0 ∨ j = 1 ∨ j = 2 := by omega
   rcases this with rfl | rfl | rfl
   · exact hj0 rfl
   · omega
   exact q2.2.1
 rw [e] at hcls hj;obtain ⟨_, q1, q2, q3, _⟩ := Cf _ _ _ _ _ hcls.symm;have := lo s[i].toNat
 have : j = 0 ∨ j = 1 ∨ j = 2 ∨ j = 3 := by omega
 rcases this with rfl | rfl | rfl | rfl
 · exact hj0 rfl
 · omega
 · exact q2.2.1
 exact q3.2.1
structure Fits (p : Int → Bool) (q : UInt8 → Bool) : Prop where
 low : ∀ b : UInt8, b.toNat < 128 → p (b.toNat : Int) = q b
 high : (∀ r : Int, 128 ≤ r → p r = false) ∧ (∀ b : UInt8, 128 ≤ b.toNat → q b = false) ∨ (∀ r : Int, 128 ≤ r → p r = true) ∧ (∀ b : UInt8, 128 ≤ b.toNat → q b = true)
theorem EZ (q : UInt8 → Bool) (s : ByteArray) : ∀ (n i : Nat), i + n ≤ s.size → (∀ j, j < n → q (s.get! (i + j)) = true) → Lx.cnt q (s.data.toList.drop i) = n + Lx.cnt q (s.data.toList.drop (i + n))
 | 0, i, _, _ => by simp
 | n + 1, i, h, hq => by
  rw [zy q s i (by omega), if_pos (by have := hq 0 (by omega); rwa [Nat.add_zero, cK s i (by omega)] at this)];rw [EZ q s n (i + 1) (by omega) (fun j hj => by have := hq (j + 1) (by omega); rwa [show i + (j + 1) = i + 1 + j from by omega] at this)];rw [show i + 1 + n = i + (n + 1) from by omega]; omega
theorem Fits.yes {p : Int → Bool} {q : UInt8 → Bool} (hf : Fits p q) (s : ByteArray) (i : Nat) (h : i < s.size) (hp : p ((Utf8.decode s i).1 : Int) = true) :
   Lx.cnt q (s.data.toList.drop i) = (Utf8.decode s i).2 + Lx.cnt q (s.data.toList.drop (i + (Utf8.decode s i).2)) ∧ i + (Utf8.decode s i).2 ≤ s.size ∧ 1 ≤ (Utf8.decode s i).2 := by
 by_cases hb : s[i].toNat < 128
 · rw [decode_ascii s i h hb] at hp ⊢;simp only at hp ⊢;rw [hf.low _ hb] at hp;refine ⟨?_, by omega, by omega⟩;rw [zy q s i h, if_pos hp]; omega
 have hh := yK s i h (by omega);have hr := (decode_high s i h (by omega)).1;refine ⟨?_, hh.1, hh.2.1⟩;rcases hf.high with ⟨h1, _⟩ | ⟨_, h2⟩
 · rw [h1 _ (by omega)] at hp; cases hp
 exact EZ q s _ i hh.1 (fun j hj => h2 _ (hh.2.2 j hj))
theorem Fits.no {p : Int → Bool} {q : UInt8 → Bool} (hf : Fits p q) (s : ByteArray) (i : Nat) (h : i < s.size) (hp : p ((Utf8.decode s i).1 : Int) = false) : Lx.cnt q (s.data.toList.drop i) = 0 := by
 rw [zy q s i h, if_neg];intro hq;by_cases hb : s[i].toNat < 128
 · rw [decode_ascii s i h hb] at hp;rw [hf.low _ hb, hq] at hp
   cases hp
 have hr := (decode_high s i h (by omega)).1;rcases hf.high with ⟨_, h2⟩ | ⟨h1, _⟩
 · rw [h2 _ (by omega)] at hq; cases hq
 rw [h1 _ (by omega)] at hp; cases hp
theorem Fj : Fits O3 Lx.isSp := by
 refine ⟨fun b hb => ?_, .inl ⟨fun r hr => ?_, fun b hb => ?_⟩⟩
 · unfold O3 Lx.isSp; rw [Bool.eq_iff_iff]; simp; omega
 · unfold O3; simp; omega
 unfold Lx.isSp; simp; omega
theorem yu : Fits yJ Lx.fQ := by
 refine ⟨fun b hb => ?_, .inr ⟨fun r hr => ?_, fun b hb => ?_⟩⟩
 · unfold yJ Lx.fQ; rw [Bool.eq_iff_iff]; simp; omega
 · unfold yJ; simp; omega
 unfold Lx.fQ; simp; omega
theorem Br : Fits wW Lx.aK := by
 refine ⟨fun b hb => ?_, .inl ⟨fun r hr => ?_, fun b hb => ?_⟩⟩
 · unfold wW Lx.aK; rw [Bool.eq_iff_iff]; simp; omega
 · unfold wW; simp; omega
 unfold Lx.aK; simp; omega
theorem zJ : Fits Lc Lx.dF := by
 refine ⟨fun b hb => ?_, .inl ⟨fun r hr => ?_, fun b hb => ?_⟩⟩
 · unfold Lc Lx.dF Lx.aK Lx.isLet; rw [Bool.eq_iff_iff]; simp; omega
 · unfold Lc; simp; omega
 unfold Lx.dF Lx.aK Lx.isLet; simp; omega
theorem Rd.iter (h : Rd w B s k st) (t : ByteArray) (p : Nat) : Rd (w.drew.iter t p) B s k st :=
 h.drew.below ((Below.refl _ _).alloc (nlr _) _)
theorem cZ (w : World) (t : ByteArray) (p B : Nat) : w.grownBy (w.drew.iter t p) (some B) :=
 ay (grownBy_drew (grownBy_refl w _)) (Below.grownBy ((Below.refl _ _).alloc (nlr _) _))
theorem sZ (w : World) (B : Nat) (s : ByteArray) (k st : Nat) (h : Rd w B s k st) :
   Calls Tryz.prog 110 #[.pointer (some ⟨B, 0, none⟩), .func (.func 173) #[] #[]] w fun e w' => ∃ u : ByteArray, e = .returned (.string u) ∧ u.data.toList = (s.data.toList.drop k).take (Lx.cnt Lx.aK (s.data.toList.drop k)) ∧ Rd w' B s (k + Lx.cnt Lx.aK (s.data.toList.drop k)) st ∧ w.grownBy w' (some B) := by
 obtain ⟨⟨b0, b1, b2⟩, b3, b4, b5⟩ := h.blk.three;have hle := h.le;have hsm := h.small;obtain ⟨t, ht⟩ : ∃ t, t = s.extract k s.size := ⟨_, rfl⟩
 have hT : t.data.toList = s.data.toList.drop k := by rw [ht]; exact Lib.extract_to_end s k
 have hts : t.size + k = s.size := by rw [ht]; simp; omega
 rw [← hT];have HT := hd hT;have HTT := hd ht;clear ht hT
 have hI1 : ∀ p, (w.drew.iter t p).cell? ⟨B, 1, none⟩ = some (.int .i64 (k : Int)) := fun p => (h.iter t p).blk.cell 1
 have hI2 : ∀ p, (w.drew.iter t p).frozen? ⟨B, 1, none⟩ = false := fun p => (h.iter t p).blk.free 1
 go_enter Tryz.func110, Tryz.ntmps110;go_wp2
 go_region
 all_goals go_wp2
 rw [← HTT.out];go_loopw [6] (fun v wr => ∃ pos : Nat, v = .int .i64 (t.size : Int) ∧ wr = w.drew.iter t pos ∧ pos ≤ t.size ∧ Hid (Lx.cnt Lx.aK t.data.toList = pos + Lx.cnt Lx.aK (t.data.toList.drop pos))) (fun _ wr => t.size - wr.iterPos w.heap.size)
 case atStart => exact ⟨0, by rw [show s.size - k = t.size from by omega], rfl, by omega, by show _ = _; simp⟩
 case round =>
  obtain ⟨pos, rfl, rfl, hpos, HK⟩ := hrel;by_cases hlt : pos < t.size
  · have hnx : ∀ ty, (Instr.next (.pointer (some ⟨w.heap.size, 0, none⟩)) true ty).run Tryz.prog (w.drew.iter t pos) = .ok (.tuple #[.bool true, .int .i64 pos, .int .i32 (Utf8.decode t pos).1]) (w.drew.iter t (pos + (Utf8.decode t pos).2)) := fun ty => run_next_any (P := Tryz.prog) w.drew t pos ty hlt
    cases hp : wW ((Utf8.decode t pos).1 : Int)
    · have HN := hd (Br.no t pos hlt hp);generalize (Utf8.decode t pos) = d at *;obtain ⟨c, n⟩ := d;go_wp2_with (go_at_call 173; refine (jw _ _).mono ?_; rintro e w' ⟨rfl, rfl⟩);go_ret
      have hc : Lx.cnt Lx.aK t.data.toList = pos := by rw [HK.out, HN.out]; rfl
      rw [hc];refine ⟨_, rfl, ?_, (h.iter t (pos + n)).set1 (k + pos) (by omega), ay (cZ w t (pos + n) B) (oD _ B 1 _)⟩;rw [Lib.extract_data]; simp
    have HY := hd (Br.yes t pos hlt hp);generalize (Utf8.decode t pos) = d at *;obtain ⟨c, n⟩ := d;go_wp2_with (go_at_call 173; refine (jw _ _).mono ?_; rintro e w' ⟨rfl, rfl⟩);go_roundw
    case rel =>
     obtain ⟨y1, y2, y3⟩ := HY.out
     try simp only at y1 y2 y3
     exact ⟨pos + n, rfl, rfl, y2, by have h1 := HK.out; show _ = _; omega⟩
    case measure =>
     obtain ⟨y1, y2, y3⟩ := HY.out
     try simp only at y1 y2 y3
     show t.size - (w.drew.iter t (pos + n)).iterPos w.drew.heap.size < t.size - (w.drew.iter t pos).iterPos w.drew.heap.size;rw [World.iterPos_iter, World.iterPos_iter]; omega
  have hnx : ∀ ty, (Instr.next (.pointer (some ⟨w.heap.size, 0, none⟩)) true ty).run Tryz.prog (w.drew.iter t pos) = .ok (.tuple #[.bool false]) (w.drew.iter t pos) := fun ty => run_next_end (P := Tryz.prog) w.drew t pos ty hlt
  go_wp2;go_ret
  have hc : Lx.cnt Lx.aK t.data.toList = t.size := by rw [HK.out, pJ Lx.aK t pos (by omega)]; omega
  rw [hc];refine ⟨_, rfl, ?_, (h.iter t pos).set1 (k + t.size) (by omega), ay (cZ w t pos B) (oD _ B 1 _)⟩;rw [List.take_of_length_le (by simp)]
theorem sP (w : World) (B : Nat) (s : ByteArray) (k st : Nat) (h : Rd w B s k st) :
   Calls Tryz.prog 110 #[.pointer (some ⟨B, 0, none⟩), .func (.func 111) #[] #[]] w fun e w' => ∃ u : ByteArray, e = .returned (.string u) ∧ u.data.toList = (s.data.toList.drop k).take (Lx.cnt Lx.isSp (s.data.toList.drop k)) ∧ Rd w' B s (k + Lx.cnt Lx.isSp (s.data.toList.drop k)) st ∧ w.grownBy w' (some B) := by
 obtain ⟨⟨b0, b1, b2⟩, b3, b4, b5⟩ := h.blk.three;have hle := h.le;have hsm := h.small;obtain ⟨t, ht⟩ : ∃ t, t = s.extract k s.size := ⟨_, rfl⟩
 have hT : t.data.toList = s.data.toList.drop k := by rw [ht]; exact Lib.extract_to_end s k
 have hts : t.size + k = s.size := by rw [ht]; simp; omega
 rw [← hT];have HT := hd hT;have HTT := hd ht;clear ht hT
 have hI1 : ∀ p, (w.drew.iter t p).cell? ⟨B, 1, none⟩ = some (.int .i64 (k : Int)) := fun p => (h.iter t p).blk.cell 1
 have hI2 : ∀ p, (w.drew.iter t p).frozen? ⟨B, 1, none⟩ = false := fun p => (h.iter t p).blk.free 1
 go_enter Tryz.func110, Tryz.ntmps110;go_wp2
 go_region
 all_goals go_wp2
 rw [← HTT.out];go_loopw [6] (fun v wr => ∃ pos : Nat, v = .int .i64 (t.size : Int) ∧ wr = w.drew.iter t pos ∧ pos ≤ t.size ∧ Hid (Lx.cnt Lx.isSp t.data.toList = pos + Lx.cnt Lx.isSp (t.data.toList.drop pos))) (fun _ wr => t.size - wr.iterPos w.heap.size)
 case atStart => exact ⟨0, by rw [show s.size - k = t.size from by omega], rfl, by omega, by show _ = _; simp⟩
 case round =>
  obtain ⟨pos, rfl, rfl, hpos, HK⟩ := hrel;by_cases hlt : pos < t.size
  · have hnx : ∀ ty, (Instr.next (.pointer (some ⟨w.heap.size, 0, none⟩)) true ty).run Tryz.prog (w.drew.iter t pos) = .ok (.tuple #[.bool true, .int .i64 pos, .int .i32 (Utf8.decode t pos).1]) (w.drew.iter t (pos + (Utf8.decode t pos).2)) := fun ty => run_next_any (P := Tryz.prog) w.drew t pos ty hlt
    cases hp : O3 ((Utf8.decode t pos).1 : Int)
    · have HN := hd (Fj.no t pos hlt hp);generalize (Utf8.decode t pos) = d at *;obtain ⟨c, n⟩ := d;go_wp2_with (go_at_call 111; refine (su _ _).mono ?_; rintro e w' ⟨rfl, rfl⟩);go_ret
      have hc : Lx.cnt Lx.isSp t.data.toList = pos := by rw [HK.out, HN.out]; rfl
      rw [hc];refine ⟨_, rfl, ?_, (h.iter t (pos + n)).set1 (k + pos) (by omega), ay (cZ w t (pos + n) B) (oD _ B 1 _)⟩;rw [Lib.extract_data]; simp
    have HY := hd (Fj.yes t pos hlt hp);generalize (Utf8.decode t pos) = d at *;obtain ⟨c, n⟩ := d;go_wp2_with (go_at_call 111; refine (su _ _).mono ?_; rintro e w' ⟨rfl, rfl⟩);go_roundw
    case rel =>
     obtain ⟨y1, y2, y3⟩ := HY.out
     try simp only at y1 y2 y3
     exact ⟨pos + n, rfl, rfl, y2, by have h1 := HK.out; show _ = _; omega⟩
    case measure =>
     obtain ⟨y1, y2, y3⟩ := HY.out
     try simp only at y1 y2 y3
     show t.size - (w.drew.iter t (pos + n)).iterPos w.drew.heap.size < t.size - (w.drew.iter t pos).iterPos w.drew.heap.size;rw [World.iterPos_iter, World.iterPos_iter]; omega
  have hnx : ∀ ty, (Instr.next (.pointer (some ⟨w.heap.size, 0, none⟩)) true ty).run Tryz.prog (w.drew.iter t pos) = .ok (.tuple #[.bool false]) (w.drew.iter t pos) := fun ty => run_next_end (P := Tryz.prog) w.drew t pos ty hlt
  go_wp2;go_ret
  have hc : Lx.cnt Lx.isSp t.data.toList = t.size := by rw [HK.out, pJ Lx.isSp t pos (by omega)]; omega
  rw [hc];refine ⟨_, rfl, ?_, (h.iter t pos).set1 (k + t.size) (by omega), ay (cZ w t pos B) (oD _ B 1 _)⟩;rw [List.take_of_length_le (by simp)]
theorem uT (w : World) (B : Nat) (s : ByteArray) (k st : Nat) (h : Rd w B s k st) :
   Calls Tryz.prog 110 #[.pointer (some ⟨B, 0, none⟩), .func (.func 113) #[] #[]] w fun e w' => ∃ u : ByteArray, e = .returned (.string u) ∧ u.data.toList = (s.data.toList.drop k).take (Lx.cnt Lx.fQ (s.data.toList.drop k)) ∧ Rd w' B s (k + Lx.cnt Lx.fQ (s.data.toList.drop k)) st ∧ w.grownBy w' (some B) := by
 obtain ⟨⟨b0, b1, b2⟩, b3, b4, b5⟩ := h.blk.three;have hle := h.le;have hsm := h.small;obtain ⟨t, ht⟩ : ∃ t, t = s.extract k s.size := ⟨_, rfl⟩
 have hT : t.data.toList = s.data.toList.drop k := by rw [ht]; exact Lib.extract_to_end s k
 have hts : t.size + k = s.size := by rw [ht]; simp; omega
 rw [← hT];have HT := hd hT;have HTT := hd ht;clear ht hT
 have hI1 : ∀ p, (w.drew.iter t p).cell? ⟨B, 1, none⟩ = some (.int .i64 (k : Int)) := fun p => (h.iter t p).blk.cell 1
 have hI2 : ∀ p, (w.drew.iter t p).frozen? ⟨B, 1, none⟩ = false := fun p => (h.iter t p).blk.free 1
 go_enter Tryz.func110, Tryz.ntmps110;go_wp2
 go_region
 all_goals go_wp2
 rw [← HTT.out];go_loopw [6] (fun v wr => ∃ pos : Nat, v = .int .i64 (t.size : Int) ∧ wr = w.drew.iter t pos ∧ pos ≤ t.size ∧ Hid (Lx.cnt Lx.fQ t.data.toList = pos + Lx.cnt Lx.fQ (t.data.toList.drop pos))) (fun _ wr => t.size - wr.iterPos w.heap.size)
 case atStart => exact ⟨0, by rw [show s.size - k = t.size from by omega], rfl, by omega, by show _ = _; simp⟩
 case round =>
  obtain ⟨pos, rfl, rfl, hpos, HK⟩ := hrel;by_cases hlt : pos < t.size
  · have hnx : ∀ ty, (Instr.next (.pointer (some ⟨w.heap.size, 0, none⟩)) true ty).run Tryz.prog (w.drew.iter t pos) = .ok (.tuple #[.bool true, .int .i64 pos, .int .i32 (Utf8.decode t pos).1]) (w.drew.iter t (pos + (Utf8.decode t pos).2)) := fun ty => run_next_any (P := Tryz.prog) w.drew t pos ty hlt
    cases hp : yJ ((Utf8.decode t pos).1 : Int)
    · have HN := hd (yu.no t pos hlt hp);generalize (Utf8.decode t pos) = d at *;obtain ⟨c, n⟩ := d;go_wp2_with (go_at_call 113; refine (uB _ _).mono ?_; rintro e w' ⟨rfl, rfl⟩);go_ret
      have hc : Lx.cnt Lx.fQ t.data.toList = pos := by rw [HK.out, HN.out]; rfl
      rw [hc];refine ⟨_, rfl, ?_, (h.iter t (pos + n)).set1 (k + pos) (by omega), ay (cZ w t (pos + n) B) (oD _ B 1 _)⟩;rw [Lib.extract_data]; simp
    have HY := hd (yu.yes t pos hlt hp);generalize (Utf8.decode t pos) = d at *;obtain ⟨c, n⟩ := d;go_wp2_with (go_at_call 113; refine (uB _ _).mono ?_; rintro e w' ⟨rfl, rfl⟩);go_roundw
    case rel =>
     obtain ⟨y1, y2, y3⟩ := HY.out
     try simp only at y1 y2 y3
     exact ⟨pos + n, rfl, rfl, y2, by have h1 := HK.out; show _ = _; omega⟩
    case measure =>
     obtain ⟨y1, y2, y3⟩ := HY.out
     try simp only at y1 y2 y3
     show t.size - (w.drew.iter t (pos + n)).iterPos w.drew.heap.size < t.size - (w.drew.iter t pos).iterPos w.drew.heap.size;rw [World.iterPos_iter, World.iterPos_iter]; omega
  have hnx : ∀ ty, (Instr.next (.pointer (some ⟨w.heap.size, 0, none⟩)) true ty).run Tryz.prog (w.drew.iter t pos) = .ok (.tuple #[.bool false]) (w.drew.iter t pos) := fun ty => run_next_end (P := Tryz.prog) w.drew t pos ty hlt
  go_wp2;go_ret
  have hc : Lx.cnt Lx.fQ t.data.toList = t.size := by rw [HK.out, pJ Lx.fQ t pos (by omega)]; omega
  rw [hc];refine ⟨_, rfl, ?_, (h.iter t pos).set1 (k + t.size) (by omega), ay (cZ w t pos B) (oD _ B 1 _)⟩;rw [List.take_of_length_le (by simp)]
theorem uA (w : World) (B : Nat) (s : ByteArray) (k st : Nat) (h : Rd w B s k st) :
   Calls Tryz.prog 110 #[.pointer (some ⟨B, 0, none⟩), .func (.func 175) #[] #[]] w fun e w' => ∃ u : ByteArray, e = .returned (.string u) ∧ u.data.toList = (s.data.toList.drop k).take (Lx.cnt Lx.dF (s.data.toList.drop k)) ∧ Rd w' B s (k + Lx.cnt Lx.dF (s.data.toList.drop k)) st ∧ w.grownBy w' (some B) := by
 obtain ⟨⟨b0, b1, b2⟩, b3, b4, b5⟩ := h.blk.three;have hle := h.le;have hsm := h.small;obtain ⟨t, ht⟩ : ∃ t, t = s.extract k s.size := ⟨_, rfl⟩
 have hT : t.data.toList = s.data.toList.drop k := by rw [ht]; exact Lib.extract_to_end s k
 have hts : t.size + k = s.size := by rw [ht]; simp; omega
 rw [← hT];have HT := hd hT;have HTT := hd ht;clear ht hT
 have hI1 : ∀ p, (w.drew.iter t p).cell? ⟨B, 1, none⟩ = some (.int .i64 (k : Int)) := fun p => (h.iter t p).blk.cell 1
 have hI2 : ∀ p, (w.drew.iter t p).frozen? ⟨B, 1, none⟩ = false := fun p => (h.iter t p).blk.free 1
 go_enter Tryz.func110, Tryz.ntmps110;go_wp2
 go_region
 all_goals go_wp2
 rw [← HTT.out];go_loopw [6] (fun v wr => ∃ pos : Nat, v = .int .i64 (t.size : Int) ∧ wr = w.drew.iter t pos ∧ pos ≤ t.size ∧ Hid (Lx.cnt Lx.dF t.data.toList = pos + Lx.cnt Lx.dF (t.data.toList.drop pos))) (fun _ wr => t.size - wr.iterPos w.heap.size)
 case atStart => exact ⟨0, by rw [show s.size - k = t.size from by omega], rfl, by omega, by show _ = _; simp⟩
 case round =>
  obtain ⟨pos, rfl, rfl, hpos, HK⟩ := hrel;by_cases hlt : pos < t.size
  · have hnx : ∀ ty, (Instr.next (.pointer (some ⟨w.heap.size, 0, none⟩)) true ty).run Tryz.prog (w.drew.iter t pos) = .ok (.tuple #[.bool true, .int .i64 pos, .int .i32 (Utf8.decode t pos).1]) (w.drew.iter t (pos + (Utf8.decode t pos).2)) := fun ty => run_next_any (P := Tryz.prog) w.drew t pos ty hlt
    cases hp : Lc ((Utf8.decode t pos).1 : Int)
    · have HN := hd (zJ.no t pos hlt hp);generalize (Utf8.decode t pos) = d at *;obtain ⟨c, n⟩ := d;go_wp2_with (go_at_call 175; refine (jf _ _).mono ?_; rintro e w' ⟨rfl, rfl⟩);go_ret
      have hc : Lx.cnt Lx.dF t.data.toList = pos := by rw [HK.out, HN.out]; rfl
      rw [hc];refine ⟨_, rfl, ?_, (h.iter t (pos + n)).set1 (k + pos) (by omega), ay (cZ w t (pos + n) B) (oD _ B 1 _)⟩;rw [Lib.extract_data]; simp
    have HY := hd (zJ.yes t pos hlt hp);generalize (Utf8.decode t pos) = d at *;obtain ⟨c, n⟩ := d;go_wp2_with (go_at_call 175; refine (jf _ _).mono ?_; rintro e w' ⟨rfl, rfl⟩);go_roundw
    case rel =>
     obtain ⟨y1, y2, y3⟩ := HY.out
     try simp only at y1 y2 y3
     exact ⟨pos + n, rfl, rfl, y2, by have h1 := HK.out; show _ = _; omega⟩
    case measure =>
     obtain ⟨y1, y2, y3⟩ := HY.out
     try simp only at y1 y2 y3
     show t.size - (w.drew.iter t (pos + n)).iterPos w.drew.heap.size < t.size - (w.drew.iter t pos).iterPos w.drew.heap.size;rw [World.iterPos_iter, World.iterPos_iter]; omega
  have hnx : ∀ ty, (Instr.next (.pointer (some ⟨w.heap.size, 0, none⟩)) true ty).run Tryz.prog (w.drew.iter t pos) = .ok (.tuple #[.bool false]) (w.drew.iter t pos) := fun ty => run_next_end (P := Tryz.prog) w.drew t pos ty hlt
  go_wp2;go_ret
  have hc : Lx.cnt Lx.dF t.data.toList = t.size := by rw [HK.out, pJ Lx.dF t pos (by omega)]; omega
  rw [hc];refine ⟨_, rfl, ?_, (h.iter t pos).set1 (k + t.size) (by omega), ay (cZ w t pos B) (oD _ B 1 _)⟩;rw [List.take_of_length_le (by simp)]
section
open Go.RowKit Go.Shelf Go.Lib
theorem MM : U8Types Tryz.prog Tryz.lays197_ren := ⟨by kernel_rfl, by kernel_rfl, by kernel_rfl, by kernel_rfl⟩
theorem LQ : U8Extra Tryz.prog Tryz.lays197_ren := ⟨by kernel_rfl, by kernel_rfl, by kernel_rfl, by kernel_rfl, by kernel_rfl, by kernel_rfl, by kernel_rfl⟩
theorem Gf : (Rows.laid_unicode_utf8_acceptRanges : DataW Unit) = acceptData := by kernel_rfl
theorem IQ : Rows.laid_unicode_utf8_first = firstData := Pinned.utf8First_eq
theorem keys_eq : (Rows.laid_clause_reader_keywords : DataW Unit) = .agg (Lx.keys.map fun x => .lit (.string x)) := by kernel_rfl
theorem J5 : (Rows.laid_clause_reader_signs : DataW Unit) = .agg (kT.map fun x => .lit (.string x)) := by kernel_rfl
theorem NI : (Rows.laid_clause_syntax_operators : DataW Unit) = .agg (Px.bW.map ES) := by kernel_rfl
theorem xy {W : World} (h : W.ShapedOpen Tryz.prog) : 12 ≤ W.heap.size := by
 have hz : (((begin Tryz.prog (fun _ _ => 0) default).world.heap[12 - 1]?).bind Obj.row?).isSome = true := by kernel_rfl
 obtain ⟨⟨zero, t⟩, he⟩ := Option.isSome_iff_exists.1 hz;obtain ⟨cs, hc, _⟩ := h.1 (12 - 1) zero t (of_decide_eq_true (by kernel_rfl)) he;obtain ⟨hlt, _⟩ := geA.1 hc;exact hlt
theorem xm {W : World} (ha : VarReads Tryz.prog W "unicode/utf8.acceptRanges" Rows.laid_unicode_utf8_acceptRanges) (hk : VarReads Tryz.prog W "clause/reader.keywords" Rows.laid_clause_reader_keywords)
   (hs : VarReads Tryz.prog W "clause/reader.signs" Rows.laid_clause_reader_signs) (hf : VarReads Tryz.prog W "unicode/utf8.first" Rows.laid_unicode_utf8_first)
   (ho : VarReads Tryz.prog W "clause/syntax.operators" Rows.laid_clause_syntax_operators) (hr : VarReads Tryz.prog W "strconv.ErrRange" Rows.laid_strconv_ErrRange) (hsh : W.ShapedOpen Tryz.prog) : jH W where
 env := {
   tabs := utf8Tabs_of_readsT MM LQ (IQ ▸ hf) (Gf ▸ ha)
   kws := nJ (t := 383) (e := 9) (m := 27) Lx.keys (by kernel_rfl) (by kernel_rfl) (by kernel_rfl) (by kernel_rfl) (by kernel_rfl) (by kernel_rfl) (keys_eq ▸ hk)
   sgs := nJ (t := 338) (e := 9) (m := 16) kT (by kernel_rfl) (by kernel_rfl) (by kernel_rfl) (by kernel_rfl) (by kernel_rfl) (by kernel_rfl) (J5 ▸ hs)
   room := xy hsh }
 ops := Ae (t := 409) (e := 408) (m := 14) Px.bW (by kernel_rfl) (by kernel_rfl) (by kernel_rfl) Tryz.underlying408 (by kernel_rfl) (by kernel_rfl) rfl (by kernel_rfl) (by kernel_rfl) (by kernel_rfl) (by kernel_rfl) (by kernel_rfl) (by kernel_rfl) rfl rfl rfl (NI ▸ ho)
 rng := AL (t := 209) (by kernel_rfl) (by kernel_rfl) Tryz.underlying209 hr
end
section
namespace Px
open Lx (Bs Tok)
def lu : List Nd → Int
 | [] => 0
 | x :: _ => x.kind
def rA (x : Nd) : Option E :=
 if x.kind = 14 then if jk x 0 = true then some .null else none
 else if x.kind = 15 then if x.text = [] ∧ x.kids = 0 ∧ (x.num = 0 ∨ x.num = 1) then some (.bool (decide (x.num = 1))) else none
 else if x.kind = 16 then if x.text = [] ∧ x.kids = 0 then some (.num x.num) else none
 else if x.kind = 17 then if Lx.bM x.text = true ∧ x.num = 0 ∧ x.kids = 0 then some (.str x.text) else none
 else if x.kind = 18 then if isName x.text = true ∧ x.num = 0 ∧ x.kids = 0 then some (.nm x.text) else none
 else none
def rE : Nat → List Nd → Option (E × List Nd)
 | 0, _ => none
 | _ + 1, [] => none
 | f + 1, x :: r =>
  if x.kind = 19 ∨ x.kind = 20 ∨ x.kind = 21 ∨ x.kind = 22 then
    if jk x 1 = true ∧ ¬ (x.kind = 19 ∧ lu r = 16) then (rE f r).map fun y => (.un x.kind.toNat y.1, y.2) else none
  else if 23 ≤ x.kind ∧ x.kind ≤ 36 then
    if jk x 2 = true then (rE f r).bind fun y => (rE f y.2).map fun z => (.bin x.kind.toNat y.1 z.1, z.2) else none
  else (rA x).map fun e => (e, r)
def rN {α : Type} (x : List Nd → Option (α × List Nd)) : Nat → List Nd → Option (List α × List Nd)
 | 0, l => some ([], l)
 | k + 1, l => (x l).bind fun y => (rN x k y.2).map fun z => (y.1 :: z.1, z.2)
def rW {α : Type} (is : Int → Bool) (x : List Nd → Option (α × List Nd)) : Nat → List Nd → Option (List α × Nat × List Nd)
 | 0, l => some ([], 0, l)
 | k + 1, l => if is (lu l) = true then (x l).bind fun y => (rW is x k y.2).map fun z => (y.1 :: z.1, z.2) else some ([], k + 1, l)
def NN : List Nd → Option ((Bs × Nat) × List Nd)
 | [] => none
 | x :: r => if x.kind = 2 ∧ isName x.text = true ∧ x.kids = 0 ∧ 1 ≤ (if 4 < x.num then x.num - 4 else x.num) ∧ (if 4 < x.num then x.num - 4 else x.num) ≤ 3 then some ((x.text, x.num.toNat), r) else none
def Mf : List Nd → Option (List E × List Nd)
 | [] => none
 | x :: r => if x.kind = 5 ∧ x.text = [] ∧ x.num = 0 ∧ 1 ≤ x.kids then rN (rE 40) x.kids.toNat r else none
def Lp : List Nd → Option ((Bs × E) × List Nd)
 | [] => none
 | x :: r => if x.kind = 8 ∧ isName x.text = true ∧ x.num = 0 ∧ x.kids = 1 then (rE 40 r).map fun y => ((x.text, y.1), y.2) else none
def Cj : List Nd → Option (Option E × List Nd)
 | [] => none
 | x :: r => if x.kind = 10 then if jk x 0 = true then some (none, r) else none else (rE 40 (x :: r)).map fun y => (some y.1, y.2)
def zg : List Nd → Option ((E × Bool) × List Nd)
 | [] => none
 | x :: r => if x.text = [] ∧ x.kids = 1 ∧ (x.num = 0 ∨ x.num = 1) then (rE 40 r).map fun y => ((y.1, decide (x.num = 1)), y.2) else none
def ru (left : Nat) (l : List Nd) : Option (Option E × Nat × List Nd) :=
 if left ≠ 0 ∧ lu l = 11 then
   match l with
   | [] => none
   | x :: r => if jk x 1 = true then (rE 40 r).map fun y => (some y.1, left - 1, y.2) else none
 else some (none, left, l)
def ME (left : Nat) (l : List Nd) : Option (Option Nat × Nat × List Nd) :=
 if left ≠ 0 ∧ lu l = 13 then
   match l with
   | [] => none
   | x :: r => if x.text = [] ∧ x.kids = 0 ∧ 0 ≤ x.num ∧ x.num ≤ 1000000000 then some (some x.num.toNat, left - 1, r) else none
 else some (none, left, l)
def ma (k : Int) : Bool := decide (k = 11 ∨ k = 12 ∨ k = 13)
def NC : List Nd → Option (St × List Nd)
 | [] => none
 | x :: r =>
  if x.num = 0 ∧ isName x.text = true then
    if x.kind = 1 then if 1 ≤ x.kids ∧ x.kids ≤ 6 then (rN NN x.kids.toNat r).map fun y => (.create x.text y.1, y.2) else none
    else if x.kind = 3 then if x.kids = 0 then some (.drop x.text, r) else none
    else if x.kind = 4 then if 1 ≤ x.kids then (rN Mf x.kids.toNat r).map fun y => (.insert x.text y.1, y.2) else none
    else if x.kind = 6 then if x.kids < 0 then none else (ru x.kids.toNat r).bind fun y => if y.2.1 = 0 then some (.delete x.text y.1, y.2.2) else none
    else if x.kind = 7 then if x.kids < 0 then none else (rW (fun k => decide (k = 8)) Lp x.kids.toNat r).bind fun y => (ru y.2.1 y.2.2).bind fun z => if z.2.1 = 0 ∧ y.1 ≠ [] then some (.update x.text y.1 z.1, z.2.2) else none
    else if x.kind = 9 then if x.kids < 0 then none else (rW (fun k => !ma k) Cj x.kids.toNat r).bind fun y => (ru y.2.1 y.2.2).bind fun z => (rW (fun k => decide (k = 12)) zg z.2.1 z.2.2).bind fun o =>
     (ME o.2.1 o.2.2).bind fun u => if u.2.1 = 0 ∧ y.1 ≠ [] then some (.select y.1 x.text z.1 o.1 u.1, u.2.2) else none
    else none
  else none
def rS (l : List Nd) : Option St := (NC l).bind fun y => if y.2 = [] then some y.1 else none
theorem dC (k : Int) (n : Int) : jk ⟨k, [], 0, n⟩ n = true := by simp [jk]
theorem lQ (e : E) : ∀ (f : Nat) (r : List Nd), e.ok 2000 → e.good → e.depth ≤ f → rE f (e.nodes ++ r) = some (e, r) := by
 induction e with
 | null =>
  intro f r _ _ hd
  match f, hd with
  | f + 1, _ => simp [E.nodes, leaf, rE, rA, jk]
 | bool b =>
  intro f r _ _ hd
  match f, hd with
  | f + 1, _ => cases b <;> simp [E.nodes, leaf, rE, rA]
 | num z =>
  intro f r _ _ hd
  match f, hd with
  | f + 1, _ => simp [E.nodes, leaf, rE, rA]
 | str s =>
  intro f r _ hg hd
  match f, hd with
  | f + 1, _ =>
   have : Lx.bM s = true := hg;simp [E.nodes, leaf, rE, rA, this]
 | nm s =>
  intro f r _ hg hd
  match f, hd with
  | f + 1, _ =>
   have : isName s = true := hg;simp [E.nodes, leaf, rE, rA, this]
 | un k e ih =>
  intro f r ho hg hd
  match f, hd with
  | f + 1, hd =>
   obtain ⟨h1, h2, h3, h4⟩ := ho;have hi := ih f r h4 hg (by simp only [E.depth] at hd; omega);simp only [E.nodes, aS, List.cons_append];unfold rE
   have hk : (k : Int) = 19 ∨ (k : Int) = 20 ∨ (k : Int) = 21 ∨ (k : Int) = 22 := by omega
   have hp : ¬ ((k : Int) = 19 ∧ lu (e.nodes ++ r) = 16) := by
    rintro ⟨e1, e2⟩;have hn := h3 (by omega)
    cases e with
    | num z => simp [E.isNum] at hn
    | un k' e' => simp only [E.nodes, aS, List.cons_append, lu] at e2; have := h4.1; have := h4.2.1; omega
    | bin k' a b => simp only [E.nodes, bO, List.cons_append, lu] at e2; have := h4.1; have := h4.2.1; omega
    | _ => simp [E.nodes, leaf, lu] at e2
   simp only [if_pos hk];rw [if_pos (by (repeat' apply And.intro) <;> first | trivial | rfl | assumption | exact dC _ _ | omega | (split <;> omega) | (split <;> simp)), hi];simp
 | bin k a b iha ihb =>
  intro f r ho hg hd
  match f, hd with
  | f + 1, hd =>
   obtain ⟨h1, h2, h3, h4⟩ := ho;simp only [E.depth] at hd;have hi := iha f (b.nodes ++ r) h3 hg.1 (by omega);have hj := ihb f r h4 hg.2 (by omega);simp only [E.nodes, bO, List.cons_append, laa];unfold rE
   have hk : ¬ ((k : Int) = 19 ∨ (k : Int) = 20 ∨ (k : Int) = 21 ∨ (k : Int) = 22) := by omega
   simp only [if_neg hk];rw [if_pos (by omega), if_pos (dC _ _), hi];simp only [Option.bind_some];rw [hj];simp
theorem qw {α : Type} {x : List Nd → Option (α × List Nd)} {nd : α → List Nd} : ∀ (l : List α) (r : List Nd), (∀ a ∈ l, ∀ r, x (nd a ++ r) = some (a, r)) → rN x l.length (l.flatMap nd ++ r) = some (l, r)
 | [], r, _ => rfl
 | a :: l, r, h => by
  simp only [List.length_cons, List.flatMap_cons, laa, rN];rw [h a (by simp)];simp only [Option.bind_some];rw [qw l r (fun b hb => h b (by simp [hb]))]
  rfl
theorem oU {α : Type} {is : Int → Bool} {x : List Nd → Option (α × List Nd)} {nd : α → List Nd} : ∀ (l : List α) (k : Nat) (r : List Nd), (∀ a ∈ l, ∀ r, is (lu (nd a ++ r)) = true ∧ x (nd a ++ r) = some (a, r)) → (k ≠ 0 → is (lu r) = false) → rW is x (l.length + k) (l.flatMap nd ++ r) = some (l, k, r)
 | [], k, r, _, hr => by
  match k, hr with
  | 0, _ => rfl
  | k + 1, hr =>
   rw [show ([] : List α).length + (k + 1) = k + 1 from by simp];simp only [List.flatMap_nil, List.nil_append, rW];rw [if_neg (by rw [hr (by omega)]; decide)]
 | a :: l, k, r, h, hr => by
  obtain ⟨h1, h2⟩ := h a (by simp) (l.flatMap nd ++ r);rw [show (a :: l).length + k = (l.length + k) + 1 from by simp; omega];simp only [List.flatMap_cons, laa, rW];rw [if_pos h1, h2];simp only [Option.bind_some];rw [oU l k r (fun b hb => h b (by simp [hb])) hr]
  rfl
theorem yC : ∀ l : List (Bs × Nat), l.flatMap (fun x => [oG x]) = l.map oG
 | [] => rfl
 | a :: l => by simp only [List.flatMap_cons, List.map_cons, List.singleton_append]; rw [yC l]
theorem BZ {l : List E} {e : E} (h : e ∈ l) : e.depth ≤ deepest l := by
 induction l with
 | nil => cases h
 | cons a l ih =>
  simp only [deepest];rcases List.mem_cons.1 h with rfl | h
  · omega
  have := ih h; omega
theorem E.head (e : E) (n : Nat) (ho : e.ok n) (r : List Nd) : 14 ≤ lu (e.nodes ++ r) ∧ lu (e.nodes ++ r) ≤ 36 := by
 cases e with
 | un k e => simp only [E.nodes, aS, List.cons_append, lu]; have := ho.1; have := ho.2.1; omega
 | bin k a b => simp only [E.nodes, bO, List.cons_append, lu]; have := ho.1; have := ho.2.1; omega
 | _ => simp [E.nodes, leaf, lu]
theorem kH (w : Option E) (k : Nat) (r : List Nd) (h : ∀ e ∈ w.toList, e.ok 2000 ∧ e.good ∧ e.depth ≤ 40) (hr : k ≠ 0 → lu r ≠ 11) : ru (one? w + k) (d9 w ++ r) = some (w, k, r) := by
 cases w with
 | none =>
  simp only [one?, d9, Nat.zero_add, List.nil_append, ru];rw [if_neg (by rintro ⟨h1, h2⟩; exact hr h1 h2)]
 | some e =>
  obtain ⟨h1, h2, h3⟩ := h e (by simp);simp only [one?, d9, aS, List.cons_append, ru, lu];rw [if_pos (by (repeat' apply And.intro) <;> first | trivial | rfl | assumption | exact dC _ _ | omega | (split <;> omega) | (split <;> simp)), if_pos (dC _ _), lQ e 40 r h1 h2 h3];simp
theorem DX (l : Option Nat) (h : ∀ n, l = some n → n ≤ 1000000000) : ME (one? l) (mK l) = some (l, 0, []) := by
 cases l with
 | none => simp [one?, mK, ME]
 | some n =>
  have := h n rfl;simp only [one?, mK, ME, lu];rw [if_pos (by (repeat' apply And.intro) <;> first | trivial | rfl | assumption | exact dC _ _ | omega | (split <;> omega) | (split <;> simp)), if_pos (by (repeat' apply And.intro) <;> first | trivial | rfl | assumption | exact dC _ _ | omega | (split <;> omega) | (split <;> simp))];simp
theorem Kn (s : St) (hf : s.Fit) (hg : ∀ e ∈ s.exprs, e.good) (hd : deepest s.exprs ≤ 40) : rS s.nodes = some s := by
 have hall : ∀ e ∈ s.exprs, e.ok 2000 ∧ e.good ∧ e.depth ≤ 40 := fun e he => ⟨hf.exprs e he, hg e he, by have := BZ he; omega⟩
 have hp := hf.parts;unfold rS
 cases s with
 | create t c =>
  obtain ⟨h1, h2, h3, h4⟩ := hp
  have hn : rN NN c.length (c.flatMap (fun x => [oG x]) ++ []) = some (c, []) := qw c [] (fun a ha r => by
   obtain ⟨q1, q2, q3, q4⟩ := h4 a ha;simp only [oG, List.cons_append, List.nil_append, NN];rw [if_pos (by (repeat' apply And.intro) <;> first | trivial | rfl | assumption | exact dC _ _ | omega | (split <;> omega) | (split <;> simp))]
   simp)
  have hm : c.flatMap (fun x => [oG x]) ++ [] = c.map oG := by rw [List.append_nil]; exact yC c
  rw [hm] at hn;simp only [St.nodes, NC];rw [if_pos (by (repeat' apply And.intro) <;> first | trivial | rfl | assumption | exact dC _ _ | omega | (split <;> omega) | (split <;> simp))];simp only [if_true];rw [if_pos (by (repeat' apply And.intro) <;> first | trivial | rfl | assumption | exact dC _ _ | omega | (split <;> omega) | (split <;> simp))];simp [hn]
 | drop t =>
  have h1 : isName t = true := hp;simp [St.nodes, NC, h1]
 | insert t rs =>
  obtain ⟨h1, h2, h3⟩ := hp
  have hrow : ∀ a ∈ rs, ∀ r, Mf (GV a ++ r) = some (a, r) := by
   intro a ha r;have hne := h3 a ha;have hl : 1 ≤ a.length := List.length_pos_iff.2 hne;simp only [GV, List.cons_append, Mf];rw [if_pos (by (repeat' apply And.intro) <;> first | trivial | rfl | assumption | exact dC _ _ | omega | (split <;> omega) | (split <;> simp))];simp only [Int.toNat_natCast];refine qw a r (fun e he r => ?_);obtain ⟨q1, q2, q3⟩ := hall e (by simp only [St.exprs, List.mem_flatten]; exact ⟨a, ha, he⟩);exact lQ e 40 r q1 q2 q3
  have hl : 1 ≤ rs.length := List.length_pos_iff.2 h2;have hn := qw (x := Mf) (nd := GV) rs [] hrow;rw [List.append_nil] at hn;simp only [St.nodes, NC];rw [if_pos (by (repeat' apply And.intro) <;> first | trivial | rfl | assumption | exact dC _ _ | omega | (split <;> omega) | (split <;> simp))];simp only [show ¬ ((4 : Int) = 1) by decide, show ¬ ((4 : Int) = 3) by decide, if_false, if_true];rw [if_pos (by omega)];simp [hn]
 | delete t w =>
  have h1 : isName t = true := hp;have hw := kH w 0 [] (fun e he => hall e (by simpa [St.exprs] using he)) (by simp);rw [Nat.add_zero, List.append_nil] at hw;simp only [St.nodes, NC];rw [if_pos (by (repeat' apply And.intro) <;> first | trivial | rfl | assumption | exact dC _ _ | omega | (split <;> omega) | (split <;> simp))];simp only [show ¬ ((6 : Int) = 1) by decide, show ¬ ((6 : Int) = 3) by decide, show ¬ ((6 : Int) = 4) by decide, if_false, if_true];rw [if_neg (by omega)];simp [hw]
 | update t ss w =>
  obtain ⟨h1, h2, h3⟩ := hp
  have hs : ∀ a ∈ ss, ∀ r, decide (lu (BN a ++ r) = 8) = true ∧ Lp (BN a ++ r) = some (a, r) := by
   intro a ha r;obtain ⟨q1, q2, q3⟩ := hall a.2 (by simp only [St.exprs, List.mem_append, List.mem_map]; exact .inl ⟨a, ha, rfl⟩);have h3' := h3 a ha;simp only [BN, List.cons_append, lu, Lp];rw [if_pos (by (repeat' apply And.intro) <;> first | trivial | rfl | assumption | exact dC _ _ | omega | (split <;> omega) | (split <;> simp)), lQ a.2 40 r q1 q2 q3];simp
  have hw := kH w 0 [] (fun e he => hall e (by simp only [St.exprs, List.mem_append]; exact .inr he)) (by simp);rw [Nat.add_zero, List.append_nil] at hw
  have hr := oU (is := fun k => decide (k = 8)) (x := Lp) (nd := BN) ss (one? w) (d9 w) hs (fun _ => by
   cases w with
   | none => simp [d9, lu]
   | some e => simp [d9, aS, lu])
  simp only [St.nodes, NC];rw [if_pos (by (repeat' apply And.intro) <;> first | trivial | rfl | assumption | exact dC _ _ | omega | (split <;> omega) | (split <;> simp))];simp only [show ¬ ((7 : Int) = 1) by decide, show ¬ ((7 : Int) = 3) by decide, show ¬ ((7 : Int) = 4) by decide, show ¬ ((7 : Int) = 6) by decide, if_false, if_true];rw [if_neg (by omega)];rw [show ((ss.length : Int) + (one? w : Int)).toNat = ss.length + one? w from by omega, hr];simp [hw, h2]
 | select is t w os lim =>
  obtain ⟨h1, h2, h3⟩ := hp
  have hi : ∀ a ∈ is, ∀ r, (!ma (lu (mO a ++ r))) = true ∧ Cj (mO a ++ r) = some (a, r) := by
   intro a ha r
   cases a with
   | none => simp [mO, lu, ma, Cj, jk]
   | some e =>
    obtain ⟨q1, q2, q3⟩ := hall e (by simp only [St.exprs, List.mem_append, List.mem_filterMap, id]; exact .inl (.inl ⟨some e, ha, rfl⟩));have hh := e.head 2000 q1 r;have hx := lQ e 40 r q1 q2 q3;simp only [mO];refine ⟨by simp [ma]; omega, ?_⟩
    match hn : e.nodes ++ r, hh, hx with
    | [], hh, hx => simp [lu] at hh
    | x :: r', hh, hx =>
     simp only [lu] at hh;simp only [Cj];rw [if_neg (by omega), hx]
     rfl
  have ho : ∀ a ∈ os, ∀ r, decide (lu (dV a ++ r) = 12) = true ∧ zg (dV a ++ r) = some (a, r) := by
   intro a ha r;obtain ⟨q1, q2, q3⟩ := hall a.1 (by simp only [St.exprs, List.mem_append, List.mem_map]; exact .inr ⟨a, ha, rfl⟩);simp only [dV, List.cons_append, lu, zg];refine ⟨by simp, ?_⟩;rw [if_pos (by (repeat' apply And.intro) <;> first | trivial | rfl | assumption | exact dC _ _ | omega | (split <;> omega) | (split <;> simp)), lQ a.1 40 r q1 q2 q3];obtain ⟨e, b⟩ := a
   cases b <;> simp
  have hl := DX lim h3
  have hlim : lu (mK lim) = 0 ∨ lu (mK lim) = 13 := by cases lim <;> simp [mK, lu]
  have hor := oU (is := fun k => decide (k = 12)) (x := zg) (nd := dV) os (one? lim) (mK lim) ho (fun _ => by rcases hlim with h | h <;> rw [h] <;> decide)
  have hpo : ∀ l, lu (os.flatMap dV ++ mK lim) = l → l = 0 ∨ l = 12 ∨ l = 13 := by
   intro l e
   cases os with
   | nil => simp only [List.flatMap_nil, List.nil_append] at e; rw [← e]; rcases hlim with h | h <;> omega
   | cons a r => simp only [List.flatMap_cons, dV, List.cons_append, lu] at e; omega
  have hw := kH w (os.length + one? lim) (os.flatMap dV ++ mK lim) (fun e he => hall e (by simp only [St.exprs, List.mem_append]; exact .inl (.inr he))) (fun _ e => by rcases hpo _ e with h | h | h <;> omega)
  have hit := oU (is := fun k => !ma k) (x := Cj) (nd := mO) is (one? w + (os.length + one? lim)) (d9 w ++ (os.flatMap dV ++ mK lim)) hi (fun hne => by
   cases w with
   | some e => simp [d9, aS, lu, ma]
   | none =>
    simp only [d9, List.nil_append]
    cases os with
    | cons a r => simp [dV, lu, ma]
    | nil =>
     cases lim with
     | some n => simp [mK, lu, ma]
     | none => simp [one?] at hne)
  simp only [St.nodes, NC];rw [if_pos (by (repeat' apply And.intro) <;> first | trivial | rfl | assumption | exact dC _ _ | omega | (split <;> omega) | (split <;> simp))];simp only [show ¬ ((9 : Int) = 1) by decide, show ¬ ((9 : Int) = 3) by decide, show ¬ ((9 : Int) = 4) by decide, show ¬ ((9 : Int) = 6) by decide, show ¬ ((9 : Int) = 7) by decide, if_false, if_true];rw [if_neg (by omega)];rw [show ((is.length : Int) + (one? w : Int) + (os.length : Int) + (one? lim : Int)).toNat = is.length + (one? w + (os.length + one? lim)) from by omega];rw [show is.flatMap mO ++ d9 w ++ os.flatMap dV ++ mK lim = is.flatMap mO ++ (d9 w ++ (os.flatMap dV ++ mK lim)) from by simp [laa], hit];simp only [Option.bind_some];rw [hw];simp only [Option.bind_some];rw [hor];simp only [Option.bind_some];rw [hl];simp [h2]
end Px
end
section
open Lx (Bs)
theorem uC : ∀ (f n : Nat), n < 10 ^ (f + 1) → Px.sQ (f + 1) n = Lib.decDigits n
 | 0, n, h => by
  have h1 : n < 10 := by simpa using h
  rw [Px.sQ, Lib.decDigits, if_pos h1, dif_pos h1]
 | f + 1, n, h => by
  rw [Px.sQ, Lib.decDigits];by_cases h1 : n < 10
  · rw [if_pos h1, dif_pos h1]
  rw [if_neg h1, dif_neg h1, uC f (n / 10) (by rw [Nat.pow_succ] at h; omega)]
theorem K7 (n : Nat) (h : n ≤ 9223372036854775808) : Lib.itoa (n : Int) = Px.sQ 20 n := by
 rw [Lib.itoa_nonneg, uC 19 n (by omega)]
theorem Iu (n : Nat) (h0 : 1 ≤ n) (h : n ≤ 9223372036854775808) : Lib.itoa (-(n : Int)) = 45 :: Px.sQ 20 n := by
 rw [Lib.itoa_neg n h0, uC 19 n (by omega)]
end
namespace Lx
theorem si : ∀ l : Bs, (∀ b ∈ l, 0 < b.toNat ∧ b.toNat < 128) → bM l = true
 | [], _ => rfl
 | b :: r, h => by
  have hb := h b (by simp)
  have hc : aI (b :: r) = 1 := by unfold aI; simp only; rw [if_pos hb.2]
  rw [lJ, hc, if_neg (by omega)];exact si r (fun x hx => h x (by simp [hx]))
structure qI (t : Tok) : Prop where
 str : t.kind = 17 → bM t.text = true
 name : t.kind = 18 → bM t.text = true ∧ t.text ≠ []
theorem NH (b : UInt8) (h : dF b = true) : 0 < (zM b).toNat ∧ (zM b).toNat < 128 := by
 simp only [dF, aK, isLet, Bool.or_eq_true, decide_eq_true_eq] at h;unfold zM
 split
 · rename_i h1
   have : (b + 32).toNat = b.toNat + 32 := by
    rw [UInt8.toNat_add];show (b.toNat + 32) % 256 = _;omega
   omega
 omega
theorem Ja {l : Bs} {t : Bs} (h : dU l = .ok (k, t, n)) (p : Nat) : qI ⟨k, t, p⟩ := by
 unfold dU at h
 split at h
 · simp at h
 rename_i b r
 split at h
 · rename_i hlet
   split at h
   · simp only [Except.ok.injEq, Prod.mk.injEq] at h;obtain ⟨rfl, rfl, rfl⟩ := h;exact ⟨fun e => by simp at e, fun e => by simp at e⟩
   simp only [Except.ok.injEq, Prod.mk.injEq] at h;obtain ⟨rfl, rfl, rfl⟩ := h;refine ⟨fun e => by simp at e, fun _ => ⟨?_, ?_⟩⟩
   · apply si;intro x hx;obtain ⟨y, hy, rfl⟩ := List.mem_map.1 hx;exact NH y (zH dF (b :: r) y hy)
   have hw : dF b = true := by unfold dF; rw [hlet]; simp
   have := qm (r := r) hw;intro e;have e2 := congrArg List.length e;simp only [List.length_map, List.length_take, List.length_nil, List.length_cons] at e2;omega
 split at h
 · split at h
   · simp at h
   split at h
   · simp at h
   simp only [Except.ok.injEq, Prod.mk.injEq] at h;obtain ⟨rfl, rfl, rfl⟩ := h;exact ⟨fun e => by simp at e, fun e => by simp at e⟩
 split at h
 · split at h
   · simp at h
   split at h
   · simp at h
   rename_i hv;simp only [Except.ok.injEq, Prod.mk.injEq] at h;obtain ⟨rfl, rfl, rfl⟩ := h;rename_i t' n' _
   have hv1 : bM t' = true := by
    cases hh : bM t' with
    | true => rfl
    | false => exact absurd (.inl hh) hv
   refine ⟨fun _ => hv1, fun e => ⟨hv1, fun e2 => ?_⟩⟩;by_cases h34 : b.toNat = 34
   · exact hv (.inr ⟨h34, e2⟩)
   simp only at e;rw [if_neg h34] at e;simp at e
 split at h
 · simp only [Except.ok.injEq, Prod.mk.injEq] at h;obtain ⟨rfl, rfl, rfl⟩ := h;exact ⟨fun e => by simp at e, fun e => by simp at e⟩
 split at h
 · simp only [Except.ok.injEq, Prod.mk.injEq] at h;obtain ⟨rfl, rfl, rfl⟩ := h;exact ⟨fun e => by simp at e, fun e => by simp at e⟩
 simp at h
theorem Kv : ∀ (m : Nat) (l : Bs) (pos : Nat) (ts : List Tok), l.length ≤ m → il 0 pos l = .ok ts → ∀ t ∈ ts, qI t := by
 intro m
 induction m with
 | zero =>
  intro l pos ts hl h;obtain rfl := List.length_eq_zero_iff.1 (Nat.le_zero.1 hl);simp only [il, Except.ok.injEq] at h;subst h
  exact fun t ht => by cases ht
 | succ m ih =>
  intro l pos ts hl h
  cases l with
  | nil =>
   simp only [il, Except.ok.injEq] at h;subst h
   exact fun t ht => by cases ht
  | cons b r =>
   rw [kr] at h
   split at h
   · simp at h
   rename_i k t n h1;have hn := iU h1
   split at h
   · rename_i us h2;simp only [Except.ok.injEq] at h;subst h;intro x hx;rcases List.mem_cons.1 hx with rfl | hx
     · exact Ja h1 pos
     refine ih _ _ _ ?_ h2 x hx;simp only [List.length_drop, List.length_cons] at hl hn ⊢;omega
   simp at h
theorem MI {l : Bs} {ts : List Tok} (h : lex l = .ok ts) : ∀ t ∈ ts, qI t := by
 unfold lex at h
 split at h
 · simp at h
 exact Kv _ _ _ _ (nlr _) h
end Lx
section
namespace Px
open Lx (Bs Tok qI)
def NR (x : Nd) : Prop := (x.kind = 17 → Lx.bM x.text = true) ∧ (x.kind = 18 → isName x.text = true)
def ng (ts : List Tok) : Prop := ∀ t ∈ ts, qI t
def ni (l : List Nd) : Prop := ∀ x ∈ l, NR x
theorem ng.tail {ts : List Tok} (h : ng ts) : ng ts.tail := fun t ht => h t (List.mem_of_mem_tail ht)
theorem ni.aS {k : Int} {l : List Nd} (h : ni l) (hk : k ≠ 18) : ni (aS k l) := by
 intro x hx;rcases List.mem_cons.1 hx with rfl | hx
 · exact ⟨fun _ => rfl, fun e => absurd e hk⟩
 exact h x hx
theorem ni.bO {k : Int} {a b : List Nd} (ha : ni a) (hb : ni b) (hk : k ≠ 18) : ni (bO k a b) := by
 intro x hx;rcases List.mem_cons.1 hx with rfl | hx
 · exact ⟨fun _ => rfl, fun e => absurd e hk⟩
 rcases List.mem_append.1 hx with hx | hx
 · exact ha x hx
 exact hb x hx
theorem ni.num (z : Int) : ni (leaf 16 [] z) := by
 intro x hx;simp [leaf] at hx;subst hx;exact ⟨fun e => by simp at e, fun e => by simp at e⟩
theorem FM (lv : Nat) (s : Bs) : ∀ l : List (Nat × Bs × Nat), (∀ o ∈ l, o.2.2 ≠ 18) → iy l lv s ≠ 18
 | [], _ => by simp [iy]
 | o :: r, h => by
  unfold iy
  split
  · exact h o (by simp)
  exact FM lv s r (fun x hx => h x (by simp [hx]))
theorem Fb (l : Nat) (ts : List Tok) : ((oper l ts : Nat) : Int) ≠ 18 := by
 have : oper l ts ≠ 18 := by
  unfold oper
  split
  · simp
  split
  · exact FM l _ bW (by decide)
  simp
 omega
theorem Gh {ts q : List Tok} {b : List Nd} (h : atom sz ts = some (.ok (b, q))) (hv : ng ts) : ni b ∧ ng q := by
 match ts, h, hv with
 | [], h, _ => simp [atom] at h
 | t :: r, h, hv =>
  have ht := hv t (by simp)
  have hr : ng r := fun x hx => hv x (by simp [hx])
  unfold atom at h;simp only at h
  repeat' split at h
  all_goals first
   | (cases h; done)
   | (cases h
      refine ⟨?_, hr⟩;intro x hx;simp [leaf] at hx;subst hx;refine ⟨fun e => ?_, fun e => ?_⟩
      all_goals first
       | (simp at e; done)
       | exact ht.str (by assumption)
       | skip
      all_goals
       have h18 := ht.name (by assumption);unfold isName;rw [h18.1]
       have h30 : t.text.length ≤ 30 := by omega
       cases hh : t.text with
       | nil => exact absurd hh h18.2
       | cons c r' => rw [hh] at h30; simp at h30 ⊢; exact h30)
theorem MJ : ∀ n m a ts b q, ex sz n m a ts = some (.ok (b, q)) → ng ts → ni a → ni b ∧ ng q := by
 intro n
 induction n with
 | zero => intro m a ts b q h; cases h
 | succ n ih =>
  intro m a ts b q h hv ha
  have nil : ni [] := fun x hx => by cases hx
  unfold ex at h
  split at h
  · split at h
    · cases h; exact ⟨ha, hv⟩
    rcases uM h with ⟨e, _, h2⟩ | ⟨b1, q1, h1, h2⟩
    · cases h2
    have i1 := ih _ _ _ _ _ h1 hv.tail nil;exact ih _ _ _ _ _ h2 i1.2 (ha.bO i1.1 (Fb _ _))
  split at h
  · split at h
    · rcases uM h with ⟨e, _, h2⟩ | ⟨b1, q1, h1, h2⟩
      · cases h2
      cases h2
      have i1 := ih _ _ _ _ _ h1 hv.tail nil;exact ⟨i1.1.aS (by decide), i1.2⟩
    exact ih _ _ _ _ _ h hv nil
  split at h
  · rcases uM h with ⟨e, _, h2⟩ | ⟨b1, q1, h1, h2⟩
    · cases h2
    have i1 := ih _ _ _ _ _ h1 hv nil;unfold iw at h2
    split at h2
    · split at h2
      · rcases uM h2 with ⟨e, _, h3⟩ | ⟨b2, q2, h3, h4⟩
        · cases h3
        cases h4
        rcases aN h3 with ⟨c6, h6⟩ | ⟨_, h6⟩
        · cases h6
          exact ⟨i1.1.aS (by decide), i1.2.tail.tail.tail⟩
        cases h6
      rcases uM h2 with ⟨e, _, h3⟩ | ⟨b2, q2, h3, h4⟩
      · cases h3
      cases h4
      rcases aN h3 with ⟨c6, h6⟩ | ⟨_, h6⟩
      · cases h6
        exact ⟨i1.1.aS (by decide), i1.2.tail.tail⟩
      cases h6
    split at h2
    · cases h2; exact i1
    rcases uM h2 with ⟨e, _, h3⟩ | ⟨b2, q2, h3, h4⟩
    · cases h3
    cases h4
    have i2 := ih _ _ _ _ _ h3 i1.2.tail nil;exact ⟨i1.1.bO i2.1 (Fb _ _), i2.2⟩
  split at h
  · split at h
    · split at h
      · cases h
        exact ⟨ni.num _, hv.tail.tail⟩
      rcases uM h with ⟨e, _, h2⟩ | ⟨b1, q1, h1, h2⟩
      · cases h2
      have i1 := ih _ _ _ _ _ h1 hv.tail nil;unfold negate at h2
      split at h2
      · cases h2
        exact ⟨i1.1.aS (by decide), i1.2⟩
      split at h2
      · cases h2
        exact ⟨i1.1.aS (by decide), i1.2⟩
      split at h2
      · cases h2
      cases h2
      exact ⟨ni.num _, i1.2⟩
    exact ih _ _ _ _ _ h hv nil
  split at h
  · split at h
    · rcases uM h with ⟨e, _, h2⟩ | ⟨b1, q1, h1, h2⟩
      · cases h2
      have i1 := ih _ _ _ _ _ h1 hv.tail nil;rcases uM h2 with ⟨e, _, h3⟩ | ⟨b2, q2, h3, h4⟩
      · cases h3
      cases h4
      rcases aN h3 with ⟨c7, h7⟩ | ⟨_, h7⟩
      · cases h7
        exact ⟨i1.1, i1.2.tail⟩
      cases h7
    exact Gh h hv
  rcases uM h with ⟨e, _, h2⟩ | ⟨b1, q1, h1, h2⟩
  · cases h2
  have i1 := ih _ _ _ _ _ h1 hv nil;exact ih _ _ _ _ _ h2 i1.2 i1.1
theorem E.tJ : ∀ e : E, ni e.nodes → e.good
 | .null, _ => trivial
 | .bool _, _ => trivial
 | .num _, _ => trivial
 | .str s, h => (h ⟨17, s, 0, 0⟩ (by simp [E.nodes, leaf])).1 rfl
 | .nm s, h => (h ⟨18, s, 0, 0⟩ (by simp [E.nodes, leaf])).2 rfl
 | .un k e, h => E.tJ e (fun x hx => h x (by simp [E.nodes, aS, hx]))
 | .bin k a b, h => ⟨E.tJ a (fun x hx => h x (by simp [E.nodes, bO, hx])), E.tJ b (fun x hx => h x (by simp [E.nodes, bO, hx]))⟩
theorem JS {ts q : List Tok} {e : E} (h : A9 sz ts (.ok (e, q))) (hv : ng ts) : e.good ∧ ng q ∧ e.ok 2000 := by
 obtain ⟨⟨n, hn⟩, h2⟩ := h;have := MJ n 1 [] ts e.nodes q hn hv (fun x hx => by cases hx);exact ⟨E.tJ e this.1, this.2, (h2 e q rfl).1⟩
theorem Dh {ts q : List Tok} {s : Bs} (h : dB sz ts (.ok (s, q))) (hv : ng ts) : isName s = true ∧ ng q := by
 unfold dB name at h
 split at h
 · cases h
 rename_i t r
 split at h
 · cases h
 rename_i hk
 split at h
 · cases h
 rename_i hl
 cases h
 have h18 := (hv t (by simp)).name (by simpa using hk);refine ⟨?_, fun x hx => hv x (by simp [hx])⟩;unfold isName;rw [h18.1]
 cases hh : t.text with
 | nil => exact absurd hh h18.2
 | cons c r' => rw [hh] at hl; simp at hl ⊢; omega
end Px
end
section
namespace Px
open Lx (Bs Tok qI)
variable {α β : Type}
def aV (x : Rg α) (P : α → Prop) : Prop := ∀ ts a q, x ts (.ok (a, q)) → ng ts → P a ∧ ng q
theorem aV.seq {x : Rg α} {f : α → Rg β} {P : α → Prop} {Q : β → Prop} (hx : aV x P) (hf : ∀ a, P a → aV (f a) Q) : aV (Rg.seq x f) Q := by
 rintro ts b q ⟨r1, h1, h2⟩ hv
 match r1, h1, h2 with
 | .error e, h1, h2 => cases h2
 | .ok (a, q1), h1, h2 =>
  obtain ⟨p1, p2⟩ := hx ts a q1 h1 hv;exact hf a p1 q1 b q h2 p2
theorem aV.ret {a : α} {P : α → Prop} (h : P a) : aV (Rg.ret a) P := by
 intro ts b q h1 hv
 cases h1
 exact ⟨h, hv⟩
theorem aV.must (sz : Nat) (s : Bs) : aV (bL sz s) fun _ => True := by
 intro ts a q h hv;rcases aN h with ⟨_, h2⟩ | ⟨_, h2⟩
 · cases h2; exact ⟨trivial, hv.tail⟩
 cases h2
theorem aV.name (sz : Nat) : aV (dB sz) fun s => isName s = true := fun ts a q h hv => Dh h hv
theorem aV.ex (sz : Nat) : aV (A9 sz) fun e => e.good ∧ e.ok 2000 := fun ts a q h hv => by
 have := JS h hv;exact ⟨⟨this.1, this.2.2⟩, this.2.1⟩
theorem oH {x : Nat → Rg α} {P : α → Prop} (hx : ∀ i, aV (x i) P) {ts : List Tok} {l : List α} {q : List Tok} (h : Reach x ts l q) (hv : ng ts) : (l ≠ [] ∧ ∀ a ∈ l, P a) ∧ ng q := by
 induction h with
 | first h1 =>
  have := hx 0 _ _ _ h1 hv;exact ⟨⟨by simp, fun a ha => by simp at ha; subst ha; exact this.1⟩, this.2⟩
 | step h1 h2 h3 ih =>
  have := hx _ _ _ _ h3 ih.2.tail;refine ⟨⟨by simp, fun a ha => ?_⟩, this.2⟩;rcases List.mem_append.1 ha with ha | ha
  · exact ih.1.2 a ha
  simp at ha; subst ha; exact this.1
theorem aV.sep {x : Nat → Rg α} {P : α → Prop} (hx : ∀ i, aV (x i) P) : aV (Sep x) fun l => l ≠ [] ∧ ∀ a ∈ l, P a := by
 intro ts l q h hv
 cases h with
 | stop h1 h2 => exact oH hx h1 hv
def MS (o : Option E) : Prop := ∀ e ∈ o.toList, e.good ∧ e.ok 2000
theorem aV.where (sz : Nat) : aV (fG sz) MS := by
 intro ts a q h hv;unfold fG at h
 split at h
 · exact (aV.seq (aV.ex sz) (fun e he => aV.ret (P := MS) (by intro e' h'; simp at h'; subst h'; exact he))) _ _ _ h hv.tail
 cases h
 exact ⟨fun e he => (by simp at he), hv⟩
theorem aV.mono {x : Rg α} {P Q : α → Prop} (hx : aV x P) (h : ∀ a, P a → Q a) : aV x Q := fun ts a q h1 hv => ⟨h a (hx ts a q h1 hv).1, (hx ts a q h1 hv).2⟩
theorem aV.kind (sz : Nat) : aV (fU sz) fun k => 1 ≤ k ∧ k ≤ 3 := by
 intro ts a q h hv;unfold fU at h
 split at h
 · cases h; exact ⟨by omega, hv.tail⟩
 split at h
 · cases h; exact ⟨by omega, hv.tail⟩
 exact (aV.seq (aV.must sz _) (fun _ _ => aV.ret (P := fun k => 1 ≤ k ∧ k ≤ 3) (by omega))) _ _ _ h hv
def dX (x : Bs × Nat) : Prop := isName x.1 = true ∧ 1 ≤ x.2 ∧ x.2 ≤ 7 ∧ x.2 ≠ 4
theorem aV.null (sz : Nat) (n : Bs) (k : Nat) (hn : isName n = true) (hk : 1 ≤ k ∧ k ≤ 3) : aV (jB sz n k) dX := by
 intro ts a q h hv;unfold jB at h
 split at h
 · exact (aV.seq (aV.must sz _) (fun _ _ => aV.ret (P := dX) ⟨hn, by simp only; omega, by simp only; omega, by simp only; omega⟩)) _ _ _ h hv.tail
 cases h
 exact ⟨⟨hn, by simp only; omega, by simp only; omega, by simp only; omega⟩, hv⟩
theorem aV.Cq (sz i : Nat) : aV (jG sz i) fun x => dX x ∧ i < 6 := by
 intro ts a q h hv;unfold jG at h;refine (aV.seq (Q := fun x => dX x ∧ i < 6) (f := fun n q r => if 6 ≤ i then r = .error (oN sz ts, 4) else Rg.seq (fU sz) (jB sz n) q r) (aV.name sz) (fun n hn => ?_)) _ _ _ h hv;intro ts2 b q2 h2 hv2
 split at h2
 · cases h2
 rename_i hi;have := (aV.seq (aV.kind sz) (fun k hk => aV.null sz n k hn hk)) _ _ _ h2 hv2;exact ⟨⟨this.1, by omega⟩, this.2⟩
def Ez (s : St) : Prop := s.Fit ∧ ∀ e ∈ s.exprs, e.good
theorem aV.NG (sz : Nat) : aV (Sep (jG sz)) fun l => (l ≠ [] ∧ ∀ a ∈ l, dX a) ∧ l.length ≤ 6 := by
 intro ts l q h hv
 cases h with
 | stop h1 h2 =>
  have := oH (P := dX) (fun i => (aV.Cq sz i).mono fun a ha => ha.1) h1 hv;refine ⟨⟨this.1, ?_⟩, this.2⟩
  have key : ∀ {l : List (Bs × Nat)} {q : List Tok}, Reach (jG sz) ts l q → l.length ≤ 6 := by
   intro l q h
   induction h with
   | first _ => simp
   | step h1 h2 h3 ih =>
    rename_i l' q' a' q'';have hv' := (oH (P := dX) (fun i => (aV.Cq sz i).mono fun a ha => ha.1) h1 hv).2;have := (aV.Cq sz _ _ _ _ h3 hv'.tail).1.2;simp only [List.length_append, List.length_singleton];omega
  exact key h1
theorem Jn (sz : Nat) : aV (dz sz) Ez := by
 intro ts s q h hv;unfold dz at h
 split at h
 · exact (aV.seq (aV.must sz _) fun _ _ => aV.seq (aV.name sz) fun t ht => aV.seq (aV.must sz _) fun _ _ => aV.seq (aV.NG sz) fun l hl => aV.seq (aV.must sz _) fun _ _ => aV.ret (a := St.create t l) (P := Ez)
     ⟨⟨fun e he => (by simp [St.exprs] at he), ht, List.length_pos_iff.2 hl.1.1, hl.2, hl.1.2⟩, fun e he => (by simp [St.exprs] at he)⟩) _ _ _ h hv.tail
 split at h
 · exact (aV.seq (aV.must sz _) fun _ _ => aV.seq (aV.name sz) fun t ht => aV.ret (a := St.drop t) (P := Ez) ⟨⟨fun e he => (by simp [St.exprs] at he), ht⟩, fun e he => (by simp [St.exprs] at he)⟩) _ _ _ h hv.tail
 split at h
 · have hrow : aV (zK sz) fun l => l ≠ [] ∧ ∀ e ∈ l, e.good ∧ e.ok 2000 := aV.seq (aV.must sz _) fun _ _ => aV.seq (aV.sep fun _ => aV.ex sz) fun l hl => aV.seq (aV.must sz _) fun _ _ => aV.ret hl
   refine (aV.seq (aV.must sz _) fun _ _ => aV.seq (aV.name sz) fun t ht => aV.seq (aV.must sz _) fun _ _ => aV.seq (aV.sep fun _ => hrow) fun l hl => aV.ret (a := St.insert t l) (P := Ez) ⟨⟨?_, ht, hl.1, fun x hx => (hl.2 x hx).1⟩, ?_⟩) _ _ _ h hv.tail
   · intro e he;obtain ⟨r, hr, her⟩ := List.mem_flatten.1 he;exact ((hl.2 r hr).2 e her).2
   intro e he;obtain ⟨r, hr, her⟩ := List.mem_flatten.1 he;exact ((hl.2 r hr).2 e her).1
 split at h
 · exact (aV.seq (aV.must sz _) fun _ _ => aV.seq (aV.name sz) fun t ht => aV.seq (aV.where sz) fun w hw => aV.ret (a := St.delete t w) (P := Ez) ⟨⟨fun e he => (hw e he).2, ht⟩, fun e he => (hw e he).1⟩) _ _ _ h hv.tail
 split at h
 · have hset : aV (zi sz) fun x => isName x.1 = true ∧ x.2.good ∧ x.2.ok 2000 := aV.seq (aV.name sz) fun n hn => aV.seq (aV.must sz _) fun _ _ => aV.seq (aV.ex sz) fun e he => aV.ret ⟨hn, he⟩
   refine (aV.seq (aV.name sz) fun t ht => aV.seq (aV.must sz _) fun _ _ => aV.seq (aV.sep fun _ => hset) fun l hl => aV.seq (aV.where sz) fun w hw => aV.ret (a := St.update t l w) (P := Ez) ⟨⟨?_, ht, hl.1, fun x hx => (hl.2 x hx).1⟩, ?_⟩) _ _ _ h hv.tail
   · intro e he;rcases List.mem_append.1 he with he | he
     · obtain ⟨x, hx, rfl⟩ := List.mem_map.1 he;exact (hl.2 x hx).2.2
     exact (hw e he).2
   intro e he;rcases List.mem_append.1 he with he | he
   · obtain ⟨x, hx, rfl⟩ := List.mem_map.1 he;exact (hl.2 x hx).2.1
   exact (hw e he).1
 have Jc : aV (gT sz) MS := by
  intro ts a q h hv;unfold gT at h
  split at h
  · cases h
    exact ⟨fun e he => (by simp at he), hv.tail⟩
  exact (aV.seq (aV.ex sz) (fun e he => aV.ret (P := MS) (by intro e' h'; simp at h'; subst h'; exact he))) _ _ _ h hv
 have hdesc : ∀ e : E, (e.good ∧ e.ok 2000) → aV (jb e) fun x => x.1.good ∧ x.1.ok 2000 := by
  intro e he ts a q h hv;unfold jb at h
  split at h
  · cases h; exact ⟨he, hv.tail⟩
  split at h
  · cases h; exact ⟨he, hv.tail⟩
  cases h; exact ⟨he, hv⟩
 have PP : aV (cB sz) fun l => ∀ x ∈ l, x.1.good ∧ x.1.ok 2000 := by
  intro ts a q h hv;unfold cB at h
  split at h
  · exact ((aV.seq (aV.must sz _) fun _ _ => (aV.sep fun _ => aV.seq (aV.ex sz) hdesc).mono fun l hl => hl.2)) _ _ _ h hv.tail
  cases h
  exact ⟨fun x hx => (by cases hx), hv⟩
 have hlim : aV (Aa sz) fun l => ∀ n, l = some n → n ≤ 1000000000 := by
  intro ts a q h hv;unfold Aa at h
  split at h
  · refine (aV.seq (P := fun n => n ≤ 1000000000) (Q := fun l => ∀ n, l = some n → n ≤ 1000000000) (x := fun ts r => limit sz ts = some r) ?_ fun n hn => aV.ret (by intro m hm; cases hm; exact hn)) _ _ _ h hv.tail;intro ts2 n q2 h2 hv2;unfold limit at h2
    split at h2
    · cases h2
    split at h2
    · cases h2
    split at h2
    · cases h2
    rename_i hx
    cases h2
    exact ⟨by omega, fun x hx => hv2 x (by simp [hx])⟩
  cases h
  exact ⟨fun n hn => (by cases hn), hv⟩
 refine (aV.seq (aV.must sz _) fun _ _ => aV.seq (aV.sep fun _ => Jc) fun i hi => aV.seq (aV.must sz _) fun _ _ => aV.seq (aV.name sz) fun t ht => aV.seq (aV.where sz) fun w hw => aV.seq PP fun o ho => aV.seq hlim fun l hl => aV.ret (a := St.select i t w o l) (P := Ez) ⟨⟨?_, ht, hi.1, hl⟩, ?_⟩) _ _ _ h hv
 · intro e he;simp only [St.exprs, List.mem_append, List.mem_filterMap, id, List.mem_map] at he;rcases he with (⟨x, hx, rfl⟩ | he) | ⟨x, hx, rfl⟩
   · exact (hi.2 (some e) hx e (by simp)).2
   · exact (hw e he).2
   exact (ho x hx).2
 intro e he;simp only [St.exprs, List.mem_append, List.mem_filterMap, id, List.mem_map] at he;rcases he with (⟨x, hx, rfl⟩ | he) | ⟨x, hx, rfl⟩
 · exact (hi.2 (some e) hx e (by simp)).1
 · exact (hw e he).1
 exact (ho x hx).1
theorem GY {s : Bs} {st : St} (h : je s (.ok st)) : st.Fit ∧ (∀ e ∈ st.exprs, e.good) ∧ deepest st.exprs ≤ 40 := by
 unfold je at h
 cases hl : Lx.lex s with
 | error e => rw [hl] at h; cases h
 | ok ts =>
  rw [hl] at h;obtain ⟨q, h1, h2⟩ := h
  match q, h1, h2 with
  | .error e, h1, h2 => cases h2
  | .ok (a, u), h1, h2 =>
   have hs := (Jn s.length ts a u h1 (Lx.MI hl)).1;simp only at h2
   split at h2
   · split at h2
     · cases h2
     rename_i hd
     cases h2
     exact ⟨hs.1, hs.2, by omega⟩
   cases h2
end Px
end
section
namespace Px
open Lx (Bs Tok)
def e2 (k : Nat) (a b : Int) : E := .bin 33 (.bin k (.num a) (.num b)) (.num b)
def e3 (a b : Int) : E := .bin 32 (.bin 34 (.bin 35 (.num a) (.num b)) (.num b)) (.bin 36 (.num a) (.num b))
end Px
end
section
namespace Px
open Lx (Bs Tok)
def qO (z : Int) : Bs := if z < 0 then 45 :: sQ 20 z.natAbs else sQ 20 z.natAbs
def t1 (k : Nat) (a b : Int) : Bs := qO a ++ (32 :: ((sS k).1 ++ (32 :: qO b)))
def t2 (a b : Int) : Bs := 40 :: (qO a ++ ([32, 43, 32] ++ (qO b ++ ([41, 32, 45, 32] ++ qO b))))
def t3 (a b : Int) : Bs := 40 :: (qO a ++ ([32, 47, 32] ++ (qO b ++ ([41, 32, 42, 32] ++ (qO b ++ ([32, 43, 32] ++ (qO a ++ ([32, 37, 32] ++ qO b))))))))
end Px
end
end Go.Proofs.YthhhfcdakfbpkaaGreatDoor
