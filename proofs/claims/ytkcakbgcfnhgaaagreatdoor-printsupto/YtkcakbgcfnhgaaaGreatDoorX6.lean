/- Parts of the proof: CpQ CpR CpS CpT Rb Dig Ya VarQ -/
import Derived.Test.YtkcakbgcfnhgaaaGreatDoorX5
import Derived.Test.YtkcakbgcfnhgaaaGreatDoorX3
import Derived.Lib.ItoaMem
import Derived.Lib.Replace
import Derived.Lib.CountLaws
import Derived.Lib.IndexBytes
import Derived.Test.YtkcakbgcfnhgaaaGreatDoorX4
import Derived.Test.YtkcakbgcfnhgaaaGreatDoorXShelfC
import Derived.Lib.OthersKept
import Derived.Lib.BufferKept
import Derived.Test.YtkcakbgcfnhgaaaGreatDoorX2
import Derived.Shelf.Vars
namespace Go.Proofs.YtkcakbgcfnhgaaaGreatDoor
set_option linter.unusedSimpArgs false
set_option linter.unusedVariables false
set_option maxRecDepth 100000
set_option maxHeartbeats 16000000
open Go.RowKit

theorem Tryz.info139 : (Tryz.prog.info? 139).map (fun i => (i.zero, i.size, i.bytes)) = some (some (.agg #[.string ⟨#[]⟩, .nilIface]), 2, 32) := by kernel_rfl

def RowsIs (w : World) (base : Nat) : List (List Px.E) → List Value → Prop
 | [], [] => True
 | r :: l, v :: vs => w.ownsRow base 97 1 v r.length (r.flatMap exC) ∧ RowsIs w base l vs
 | _, _ => False
theorem RowsIs.map {w w' : World} {base : Nat} (f : ∀ (r : List Px.E) (v : Value), w.ownsRow base 97 1 v r.length (r.flatMap exC) → w'.ownsRow base 97 1 v r.length (r.flatMap exC)) : ∀ {l : List (List Px.E)} {vs : List Value}, RowsIs w base l vs → RowsIs w' base l vs
 | [], [], _ => trivial
 | r :: l, v :: vs, h => ⟨f r v h.1, RowsIs.map f h.2⟩
 | [], _ :: _, h => h.elim
 | _ :: _, [], h => h.elim
theorem RowsIs.snoc {w : World} {base : Nat} {r : List Px.E} {v : Value} (hr : w.ownsRow base 97 1 v r.length (r.flatMap exC)) : ∀ {l : List (List Px.E)} {vs : List Value}, RowsIs w base l vs → RowsIs w base (l ++ [r]) (vs ++ [v])
 | [], [], _ => ⟨hr, trivial⟩
 | _ :: _, _ :: _, h => ⟨h.1, RowsIs.snoc hr h.2⟩
 | [], _ :: _, h => h.elim
 | _ :: _, [], h => h.elim
def rowsV (B : Nat) (l : List (List Px.E)) (v : Value) (w : World) : Prop := ∃ vs, w.ownsRow (B + 1) 136 1 v l.length vs ∧ RowsIs w (B + 1) l vs
theorem own_slice {w : World} {base : Nat} {e : TypeId} {size : Nat} {v : Value} {n : Nat} {xs : List Value} (h : w.ownsRow base e size v n xs) : ∃ ao n cp, v = .slice ao n cp := by
 rcases h.2 with ⟨rfl, _⟩ | ⟨g, cap, cur, rfl, _⟩
 · exact ⟨_, _, _, rfl⟩
 · exact ⟨_, _, _, rfl⟩
theorem own_far {w w' : World} {B : Nat} {e : TypeId} {size : Nat} {v : Value} {n : Nat} {xs : List Value} (h : w.ownsRow (B + 1) e size v n xs) (hg : w.grownBy w' (some B)) : w'.ownsRow (B + 1) e size v n xs :=
 h.kept hg (by
  cases hv : v.ownBlock with
  | none => exact .inl rfl
  | some g => right; have := (h.lt g hv).1; simp; omega)
theorem own_type {w : World} {base : Nat} {e : TypeId} {size : Nat} {v : Value} {n : Nat} {xs : List Value} (h : w.ownsRow base e size v n xs) : ∀ g, v.ownBlock = some g → ∃ cur, w.heap[g]? = some (.cells cur e (0, 0)) := by
 intro g hg
 rcases h.2 with ⟨rfl, _⟩ | ⟨g', cap, cur, rfl, _, hh, _⟩
 · simp [Value.ownBlock] at hg
 · simp [Value.ownBlock] at hg
   subst hg
   exact ⟨cur, hh⟩
theorem own_apart {w : World} {b1 b2 : Nat} {e1 e2 : TypeId} {s1 s2 : Nat} {v1 v2 : Value} {n1 n2 : Nat} {x1 x2 : List Value} (h1 : w.ownsRow b1 e1 s1 v1 n1 x1) (h2 : w.ownsRow b2 e2 s2 v2 n2 x2) (hne : e1 ≠ e2) : v1.ownBlock = none ∨ v1.ownBlock ≠ v2.ownBlock := by
 cases hv : v1.ownBlock with
 | none => exact .inl rfl
 | some g =>
  right
  intro e
  obtain ⟨c1, k1⟩ := own_type h1 g hv
  obtain ⟨c2, k2⟩ := own_type h2 g e.symm
  rw [k1] at k2
  simp only [Option.some.injEq, Obj.cells.injEq] at k2
  exact hne k2.2.1
theorem Tryz.info136 : (Tryz.prog.info? 136).map (fun i => (i.zero, i.size, i.bytes)) = some (some (.slice none 0 0), 1, 24) := by kernel_rfl
section
namespace Px
open Lx (Bs Tok)
def lastOut (l : List PT) : Bs := match l.getLast? with
 | none => []
 | some a => a.out
def lastPre (l : List PT) : Bool := match l.getLast? with
 | none => false
 | some a => a.pre
def gapL (l : List PT) (t : PT) : Bs := match l.getLast? with
 | none => []
 | some a => gap a t
theorem render_snoc : ∀ (l : List PT) (t : PT), render (l ++ [t]) = render l ++ gapL l t ++ t.out
 | [], t => by simp [render, gapL]
 | [a], t => by simp [render, gapL]
 | a :: b :: l, t => by
  have ih := render_snoc (b :: l) t
  simp only [List.cons_append, render] at ih ⊢
  rw [ih]
  simp [gapL, List.getLast?_cons_cons, List.append_assoc]
theorem render_mono (l : List PT) : ∀ x, (render l).length ≤ (render (l ++ x)).length := by
 intro x
 induction x generalizing l with
 | nil => simp
 | cons t x ih =>
  have := ih (l ++ [t])
  rw [List.append_assoc, List.singleton_append] at this
  rw [render_snoc] at this
  simp only [List.length_append] at this
  omega
theorem lastOut_snoc (l : List PT) (t : PT) : lastOut (l ++ [t]) = t.out := by simp [lastOut]
theorem lastPre_snoc (l : List PT) (t : PT) : lastPre (l ++ [t]) = t.pre := by simp [lastPre]
theorem render_last (l : List PT) (s t : PT) (h : s.out = t.out) : render (l ++ [s]) = render (l ++ [t]) := by
 rw [render_snoc, render_snoc, h]
 congr 2
 unfold gapL
 cases l.getLast? with
 | none => rfl
 | some a =>
  have : apart a s = apart a t := by unfold apart; rw [h]
  show gap a s = gap a t
  unfold gap
  rw [this]
def apartL (l : List PT) (o : Bs) : Bool := if lastOut l = [] ∨ lastOut l = [40] ∨ o = [41] ∨ o = [44] then false else if lastPre l = true then decide (o.head? = some 45) else true
theorem gapL_is (l : List PT) (t : PT) (h : ∀ x ∈ l, x.out ≠ []) : gapL l t = if apartL l t.out = true then [32] else [] := by
 unfold gapL apartL lastOut lastPre
 cases hl : l.getLast? with
 | none => simp
 | some a =>
  have ha : a.out ≠ [] := h a (List.mem_of_getLast? hl)
  have : apart a t = if a.out = [] ∨ a.out = [40] ∨ t.out = [41] ∨ t.out = [44] then false else if a.pre = true then decide (t.out.head? = some 45) else true := by
   unfold apart
   by_cases h1 : a.out = [40] ∨ t.out = [41] ∨ t.out = [44]
   · rw [if_pos h1, if_pos (.inr h1)]
   · have h2 : ¬ (a.out = [] ∨ a.out = [40] ∨ t.out = [41] ∨ t.out = [44]) := fun e => e.elim ha h1
     simp only [if_neg h1, if_neg h2]
  show gap a t = _
  unfold gap
  rw [this]
end Px
end
section
open Lx (Bs)
theorem decF_lib : ∀ (f n : Nat), n < 10 ^ (f + 1) → Px.decF (f + 1) n = Lib.decDigits n
 | 0, n, h => by
  have h1 : n < 10 := by simpa using h
  rw [Px.decF, Lib.decDigits, if_pos h1, dif_pos h1]
 | f + 1, n, h => by
  rw [Px.decF, Lib.decDigits]
  by_cases h1 : n < 10
  · rw [if_pos h1, dif_pos h1]
  · rw [if_neg h1, dif_neg h1, decF_lib f (n / 10) (by rw [Nat.pow_succ] at h; omega)]
theorem itoa_pos (n : Nat) (h : n ≤ 9223372036854775808) : Lib.itoa (n : Int) = Px.decF 20 n := by
 rw [Lib.itoa_nonneg, decF_lib 19 n (by omega)]
theorem itoa_min (n : Nat) (h0 : 1 ≤ n) (h : n ≤ 9223372036854775808) : Lib.itoa (-(n : Int)) = 45 :: Px.decF 20 n := by
 rw [Lib.itoa_neg n h0, decF_lib 19 n (by omega)]
theorem decF_ne (n : Nat) : Px.decF 20 n ≠ [] := by
 rw [Px.decF]
 split <;> simp
def dblIn (m : UInt8) (s : Bs) : Bs := s.flatMap fun b => if b = m then [b, b] else [b]
theorem index_here (m : UInt8) (r : Bs) : Lib.index (m :: r) [m] = ((0 : Nat) : Int) := by
 rw [Lib.index_one, Lib.indexByte]; simp
theorem index_later (b m : UInt8) (r : Bs) (h : b ≠ m) : Lib.index (b :: r) [m] = if Lib.index r [m] = -1 then -1 else Lib.index r [m] + 1 := by
 rw [Lib.index_one, Lib.index_one, Lib.indexByte, if_neg (by simpa using h)]
 by_cases h1 : Lib.indexByte r m = -1
 · rw [if_pos (by simpa using h1), if_pos h1]
 · rw [if_neg (by simpa using h1), if_neg h1]
theorem count_later (b m : UInt8) (r : Bs) (h : b ≠ m) : Lib.count (b :: r) [m] = Lib.count r [m] := by
 have hi := index_later b m r h
 by_cases h1 : Lib.index r [m] = -1
 · rw [if_pos h1] at hi
   rw [Lib.count_miss hi, Lib.count_miss h1]
 · rw [if_neg h1] at hi
   have hge := Lib.index_ge r [m]
   obtain ⟨i, hi'⟩ : ∃ i : Nat, Lib.index r [m] = i := ⟨(Lib.index r [m]).toNat, by omega⟩
   rw [Lib.count_hit (by simp) hi', Lib.count_hit (i := i + 1) (by simp) (by rw [hi, hi']; omega)]
   rfl
theorem replaceK_later (b m : UInt8) (new r : Bs) (h : b ≠ m) : ∀ k, Lib.replaceK [m] new k (b :: r) = b :: Lib.replaceK [m] new k r
 | 0 => rfl
 | k + 1 => by
  have hi := index_later b m r h
  by_cases h1 : Lib.index r [m] = -1
  · rw [if_pos h1] at hi
    rw [Lib.replaceK, if_pos (by rw [hi]; rfl), Lib.replaceK, if_pos (by rw [h1]; rfl)]
  · rw [if_neg h1] at hi
    have hge := Lib.index_ge r [m]
    obtain ⟨i, hi'⟩ : ∃ i : Nat, Lib.index r [m] = i := ⟨(Lib.index r [m]).toNat, by omega⟩
    rw [Lib.replaceK_hit _ _ k r i hi', Lib.replaceK_hit _ _ k (b :: r) (i + 1) (by rw [hi, hi']; omega)]
    rw [List.length_singleton, show i + 1 + 1 = (i + 1) + 1 from rfl, List.drop_succ_cons, List.take_succ_cons]
    simp
theorem replaceK_dbl (m : UInt8) : ∀ s : Bs, Lib.replaceK [m] [m, m] (Lib.count s [m]) s = dblIn m s
 | [] => by rw [Lib.count_miss (by rfl)]; rfl
 | b :: r => by
  have ih := replaceK_dbl m r
  by_cases h : b = m
  · subst h
    rw [Lib.count_hit (by simp) (index_here b r), Nat.add_comm, Lib.replaceK_hit _ _ _ _ 0 (index_here b r)]
    simp only [List.length_singleton, Nat.zero_add, List.drop_succ_cons, List.drop_zero, List.take_zero, List.nil_append]
    rw [ih]
    simp [dblIn]
  · rw [count_later b m r h, replaceK_later b m _ r h, ih]
    simp [dblIn, h]
theorem replaceAll_dbl (m : UInt8) (s : Bs) : Lib.replaceAll s [m] [m, m] = dblIn m s := by
 unfold Lib.replaceAll Lib.replace
 rw [if_neg (by simp)]
 unfold Lib.replaceNum
 rw [if_pos (.inl (by decide))]
 exact replaceK_dbl m s
theorem dbl_in (m : UInt8) (s : Bs) : Px.dbl m s = [m] ++ dblIn m s ++ [m] := rfl
theorem count_le (m : UInt8) : ∀ s : Bs, Lib.count s [m] ≤ s.length
 | [] => by rw [Lib.count_miss (by rfl)]; simp
 | b :: r => by
  have ih := count_le m r
  by_cases h : b = m
  · subst h
    rw [Lib.count_hit (by simp) (index_here b r)]
    show 1 + Lib.count r [b] ≤ r.length + 1
    omega
  · rw [count_later b m r h, List.length_cons]; omega
end
structure EnvV (w : World) : Prop where
 envw : EnvW w
 mx : ∃ m, w.cell? ⟨7, 0, none⟩ = some (.int .i64 m)
 pow : ∃ t fr, w.heap[6]? = some (.cells (Lib.pow10Tab.map fun z => Value.int .u64 z).toArray t fr)
theorem EnvV.keep {w w' : World} (h : EnvV w) (hs : w.heap.size ≤ w'.heap.size) (hb : ∀ k, k < 12 → w'.heap[k]? = w.heap[k]?) : EnvV w' := by
 refine ⟨h.envw.keep hs hb, ?_, ?_⟩
 · rw [World.cell?_of_block (w := w) (hb _ (by simp))]; exact h.mx
 · rw [hb _ (by simp)]; exact h.pow
theorem EnvV.low {w w' : World} {B : Nat} (h : EnvV w) (hb : Below B w w') (hB : 12 ≤ B) : EnvV w' := h.keep hb.size fun k hk => hb.block k (by omega)
theorem EnvV.below {w w' : World} (h : EnvV w) (hb : Below w.heap.size w w') : EnvV w' := h.low hb h.envw.env.room
structure EnvQ (w : World) : Prop where
 envp : EnvP w
 mx : ∃ m, w.cell? ⟨7, 0, none⟩ = some (.int .i64 m)
 pow : ∃ t fr, w.heap[6]? = some (.cells (Lib.pow10Tab.map fun z => Value.int .u64 z).toArray t fr)
theorem EnvV.tab {w : World} (h : EnvV w) : Lib.TabIs Tryz.prog w "internal/strconv.uint64pow10" .u64 Lib.pow10Tab := by
 obtain ⟨t, fr, hp⟩ := h.pow
 have hg : Tryz.prog.globalNamed "internal/strconv.uint64pow10" = some 6 := by kernel_rfl
 unfold Lib.TabIs World.var?
 rw [hg]
 simp only [Option.bind_some, hp]
def Kq (B : Nat) (w w' : World) : Prop := Below B w w' ∧ Lib.OthersKept 5 (some B) w w'
theorem Kq.refl (B : Nat) (w : World) : Kq B w w := ⟨Below.refl _ _, Lib.OthersKept.refl _ _ _⟩
theorem Kq.trans {B : Nat} {a b c : World} (h : Kq B a b) (k : Kq B b c) : Kq B a c := ⟨h.1.trans k.1, h.2.trans k.2⟩
theorem Kq.below {B : Nat} {w w' : World} (h : Below w.heap.size w w') (hB : B ≤ w.heap.size) : Kq B w w' := ⟨h.mono hB, (Lib.OthersKept.refl _ _ _).below h⟩
theorem Kq.more {B : Nat} {w w1 w' : World} (h : Kq B w w1) (hb : Below w1.heap.size w1 w') (hB : B ≤ w1.heap.size) : Kq B w w' := h.trans (Kq.below hb hB)
theorem Kq.set {B : Nat} {w w1 : World} (h : Kq B w w1) (i : Nat) (v : Value) : Kq B w (w1.setCell ⟨B, i, none⟩ v) := ⟨h.1.setCell (p := ⟨B, i, none⟩) (Nat.le_refl _) v, h.2.setCell ⟨B, i, none⟩ rfl v⟩
theorem Kq.blk {B N : Nat} {w w' : World} (h : Kq B w w') {a : Array Value} {T : TypeId} (hb : Blk w N a T) (hN : N ≠ B) (hT : T ≠ 5) : Blk w' N a T := by
 unfold Blk at *
 refine h.2 N _ hb (by simpa using hN) ?_
 intro c fz e
 injection e with e1 e2 e3
 exact hT e2
def Bld (w : World) (B : Nat) (bs la : Lx.Bs) (ah : Bool) : Prop :=
 ∃ p v, (p = .pointer none ∨ p = .pointer (some ⟨B, 0, none⟩)) ∧ Blk w B #[p, v, .string ⟨la.toArray⟩, .bool ah] 77 ∧ w.ownsRow (B + 1) 5 1 v bs.length (Lib.byteCells bs)
def BldU (w : World) (B : Nat) (bs la : Lx.Bs) (ah : Bool) : Prop :=
 ∃ v, Blk w B #[.pointer (some ⟨B, 0, none⟩), v, .string ⟨la.toArray⟩, .bool ah] 77 ∧ w.ownsRow (B + 1) 5 1 v bs.length (Lib.byteCells bs)
theorem BldU.is {w : World} {B : Nat} {bs la : Lx.Bs} {ah : Bool} (h : BldU w B bs la ah) : Bld w B bs la ah := by
 obtain ⟨v, h1, h2⟩ := h
 exact ⟨_, v, .inr rfl, h1, h2⟩
theorem Bld.lt {w : World} {B : Nat} {bs la : Lx.Bs} {ah : Bool} (h : Bld w B bs la ah) : B < w.heap.size := by
 obtain ⟨p, v, _, h1, h2⟩ := h
 exact h1.lt
theorem Bld.below {w w' : World} {B : Nat} {bs la : Lx.Bs} {ah : Bool} (h : Bld w B bs la ah) (hb : Below w.heap.size w w') : Bld w' B bs la ah := by
 obtain ⟨p, v, hp, h1, h2⟩ := h
 exact ⟨p, v, hp, h1.below hb h1.lt, owns_below h2 hb⟩
theorem own_ne {w : World} {B : Nat} {e : TypeId} {size : Nat} {v : Value} {n : Nat} {xs : List Value} (h : w.ownsRow (B + 1) e size v n xs) : v.ownBlock = none ∨ v.ownBlock ≠ some B := by
 cases hv : v.ownBlock with
 | none => exact .inl rfl
 | some g => right; have := (h.lt g hv).1; simp; omega
theorem own_setP {w : World} {B i : Nat} {e : TypeId} {size : Nat} {v u : Value} {n : Nat} {xs : List Value} (h : w.ownsRow (B + 1) e size v n xs) : (w.setCell ⟨B, i, none⟩ u).ownsRow (B + 1) e size v n xs :=
 h.kept (grownBy_set w B i u) (own_ne h)
theorem lies_printer : liesAt Tryz.prog Tryz.prog.depth 77 (4 / Tryz.prog.cellsOf 77) 0 75 1 = true := by kernel_rfl
theorem size_builder : (Tryz.prog.info? 75).map (·.size) = some 2 := by kernel_rfl
theorem info_uint8 : (Tryz.prog.info? 5).map (fun i => (i.zero, i.size, i.bytes)) = some (some (.int .u8 0), 1, 1) := by kernel_rfl
theorem b_copy_used (B : Nat) (w : World) (h0 : w.cell? ⟨B, 0, none⟩ = some (.pointer (some ⟨B, 0, none⟩))) :
   Calls Tryz.prog 170 #[.pointer (some ⟨B, 0, none⟩)] w fun e w' => e = .returned (.tuple #[]) ∧ w' = w := by
 obtain ⟨j, hj, _⟩ := Option.map_eq_some_iff.1 size_builder
 go_enter Tryz.func170, Tryz.ntmps170
 go_wp2
 rw [Lib.run_neq_ptr_same w _ Tryz.underlying72 hj]
 go_wp2
 go_end0
 exact ⟨rfl, rfl⟩
theorem b_copy_fresh (B : Nat) (w : World) (h0 : w.cell? ⟨B, 0, none⟩ = some (.pointer none)) (hsh : w.shape? B = some (77, 4)) (hfz : w.frozen? ⟨B, 0, none⟩ = false) :
   Calls Tryz.prog 170 #[.pointer (some ⟨B, 0, none⟩)] w fun e w' => e = .returned (.tuple #[]) ∧ w' = w.setCell ⟨B, 0, none⟩ (.pointer (some ⟨B, 0, none⟩)) := by
 obtain ⟨j, hj, hjs⟩ := Option.map_eq_some_iff.1 size_builder
 go_enter Tryz.func170, Tryz.ntmps170
 go_wp2
 rw [Lib.run_to_unsafe w ⟨B, 0, none⟩ Tryz.underlying72 Tryz.underlying232 hj (by rw [hjs]; decide) hsh (Nat.zero_lt_succ 3)]
 simp only [Result.andThen]
 rw [Oper.upon_value]
 go_wp2
 rw [run_callFunc_extern Tryz.func197 (by kernel_rfl) (by kernel_rfl) (by kernel_rfl) (e := Extern.AbiNoEscape.same) (by kernel_rfl)]
 rw [Lib.run_noEscape]
 simp only [Result.andThen]
 rw [Oper.upon_value]
 go_wp2
 rw [Lib.run_from_unsafe w ⟨B, 0, none⟩ Tryz.underlying232 Tryz.underlying72 hj hsh lies_printer]
 simp only [Result.andThen]
 rw [Oper.upon_value]
 go_wp2
 go_end0
 exact ⟨rfl, rfl⟩
theorem b_copy_any (B : Nat) (w : World) (bs la : Lx.Bs) (ah : Bool) (h : Bld w B bs la ah) :
   Calls Tryz.prog 170 #[.pointer (some ⟨B, 0, none⟩)] w fun e w' => e = .returned (.tuple #[]) ∧ BldU w' B bs la ah ∧ Kq B w w' := by
 obtain ⟨p, v, hp, h1, h2⟩ := h
 rcases hp with rfl | rfl
 · refine (b_copy_fresh B w (by have := h1.cell 0; simpa using this) (by unfold Blk at h1; simp [World.shape?, h1]) (h1.free 0)).mono ?_
   rintro e w' ⟨rfl, rfl⟩
   exact ⟨rfl, ⟨v, h1.set 0 _, own_setP h2⟩, (Kq.refl B w).set 0 _⟩
 · refine (b_copy_used B w (by have := h1.cell 0; simpa using this)).mono ?_
   rintro e w' ⟨rfl, rfl⟩
   exact ⟨rfl, ⟨v, h1, h2⟩, Kq.refl B _⟩
theorem b_Len_any (B : Nat) (w : World) (bs la : Lx.Bs) (ah : Bool) (h : Bld w B bs la ah) :
   Calls Tryz.prog 116 #[.pointer (some ⟨B, 0, none⟩)] w fun e w' => e = .returned (.int .i64 (bs.length : Int)) ∧ w' = w := by
 obtain ⟨p, v, hp, h1, h2⟩ := h
 obtain ⟨ao, cap, rfl⟩ : ∃ ao cap, v = .slice ao bs.length cap := by
  rcases h2.2 with ⟨hv, h0⟩ | ⟨g, cap, cur, hv, _⟩
  · exact ⟨none, 0, by rw [hv, h0]⟩
  · exact ⟨_, _, hv⟩
 have c1 := h1.cell 1
 simp at c1
 clear h1 h2 hp
 go_enter Tryz.func116, Tryz.ntmps116
 go_wp2
 go_ret
 exact ⟨rfl, rfl⟩
theorem blk_rowP {w w' : World} {N : Nat} {a : Array Value} {T : TypeId} {row : Option Nat} (h : Blk w N a T) (hg : w.grownBy w' row) (hr : ∀ o, row = some o → N ≠ o) : Blk w' N a T := by
 have hl := h.lt
 unfold Blk at *
 rw [hg.block N hl (fun e => hr N e.symm rfl)]
 exact h
theorem Kq.grown {B : Nat} {w w1 w2 : World} {v : Value} {n : Nat} {xs : List Value} (h : Kq B w w1) (hB : B < w1.heap.size) (ho : w1.ownsRow (B + 1) 5 1 v n xs) (hg : w1.grownBy w2 v.ownBlock) : Kq B w w2 := by
 refine ⟨h.1.grown hg (by omega) (fun k hk => by have := (ho.lt k hk).1; omega), h.2.grown hg (fun k hk => ?_)⟩
 obtain ⟨cur, hc⟩ := own_type ho k hk
 exact ⟨cur, _, hc⟩
theorem b_WriteByte_any (B : Nat) (w : World) (bs la : Lx.Bs) (ah : Bool) (c : UInt8) (h : Bld w B bs la ah) (hl : bs.length ≤ 1000000) :
   Calls Tryz.prog 114 #[.pointer (some ⟨B, 0, none⟩), .int .u8 (c.toNat : Int)] w fun e w' => e = .returned .nilIface ∧ BldU w' B (bs ++ [c]) la ah ∧ Kq B w w' := by
 obtain ⟨i0, hi, hz0, hz1, hz2⟩ := info_parts info_uint8
 have HB := hd h
 clear h
 go_enter Tryz.func114, Tryz.ntmps114
 go_wp2_with fail
 refine (b_copy_any B w bs la ah HB.out).mono ?_
 rintro e w1 ⟨rfl, ⟨v, h1, h2⟩, k1⟩
 have c1 := h1.cell 1
 simp at c1
 have hlt := h1.lt
 go_wp2_with (at_builtin; refine wpList_append_own _ rfl _ _ 73 rfl (B + 1) 5 i0 (.int .u8 0) 1 1 Tryz.underlying73 hi hz0 hz1 hz2 rfl (by decide) _ _ _ rfl (h2.alloc _) ⟨w1.heap.size, 0, none⟩ 1 1 [.int .u8 (c.toNat : Int)] rfl rfl ?c1 ?c2 ?c3 ?c4 ?c5 ?_)
 case c1 => exact one_news w1 (.int .u8 (c.toNat : Int)) 5
 case c2 => intro u hu; simp at hu; subst hu; rfl
 case c3 => unfold maxLen; omega
 case c4 => omega
 case c5 => simp; omega
 intro v' w2 hown' hgrow _
 have K2 := blk_rowP (h1.alloc _) hgrow (fun o ho => by have := (h2.lt o ho).1; omega)
 have d1 := K2.cell 1
 simp at d1
 have f1 := K2.free 1
 have HK2 := hd K2
 have HO2 := hd hown'
 have HKq := hd (Kq.grown (k1.more ((Below.refl _ _).alloc (Nat.le_refl _) _) (by omega)) (by simp; omega) (h2.alloc _) hgrow)
 obtain ⟨ao', n', cap', rfl⟩ := own_slice hown'
 clear hown' hgrow K2 h1 h2 k1 c1
 go_wp2_with fail
 go_ret
 refine ⟨rfl, ⟨_, HK2.out.set 1 _, own_setP ?_⟩, HKq.out.set 1 _⟩
 have := HO2.out
 rw [List.length_append, Lib.byteCells_append]
 exact this
theorem b_WriteString_any (B : Nat) (w : World) (bs la : Lx.Bs) (ah : Bool) (s : Lx.Bs) (h : Bld w B bs la ah) (hl : bs.length + s.length ≤ 140737488355328) :
   Calls Tryz.prog 115 #[.pointer (some ⟨B, 0, none⟩), .string ⟨s.toArray⟩] w fun e w' => (∃ x, e = .returned x) ∧ BldU w' B (bs ++ s) la ah ∧ Kq B w w' := by
 obtain ⟨i0, hi, hz0, hz1, hz2⟩ := info_parts info_uint8
 have HB := hd h
 clear h
 have hsz : (⟨s.toArray⟩ : ByteArray).size = s.length := by simp [ByteArray.size]
 obtain ⟨sb, hsb⟩ : ∃ sb : ByteArray, sb = ⟨s.toArray⟩ := ⟨_, rfl⟩
 rw [← hsb] at hsz ⊢
 have HSB := hd hsb
 clear hsb
 go_enter Tryz.func115, Tryz.ntmps115
 go_wp2_with fail
 refine (b_copy_any B w bs la ah HB.out).mono ?_
 rintro e w1 ⟨rfl, ⟨v, h1, h2⟩, k1⟩
 have c1 := h1.cell 1
 simp at c1
 have hlt := h1.lt
 go_wp2_with (at_builtin; refine Lib.wpList_append_own_string _ rfl _ _ 73 9 rfl (B + 1) 5 i0 Tryz.underlying73 Tryz.underlying9 hi hz0 hz1 hz2 _ _ _ rfl h2 sb rfl ?c3 ?c4 ?c5 ?_)
 case c3 => unfold maxLen; omega
 case c4 => omega
 case c5 => omega
 intro v' w2 hown' hgrow _
 have K2 := blk_rowP h1 hgrow (fun o ho => by have := (h2.lt o ho).1; omega)
 have d1 := K2.cell 1
 simp at d1
 have f1 := K2.free 1
 have HK2 := hd K2
 have HO2 := hd hown'
 have HKq := hd (Kq.grown k1 (by omega) h2 hgrow)
 obtain ⟨ao', n', cap', rfl⟩ := own_slice hown'
 clear hown' hgrow K2 h1 h2 k1 c1
 go_wp2_with fail
 go_ret2
 refine ⟨⟨_, rfl⟩, ⟨_, HK2.out.set 1 _, own_setP ?_⟩, HKq.out.set 1 _⟩
 have := HO2.out
 rw [List.length_append, Lib.byteCells_append]
 rw [Lib.strCells_eq, HSB.out] at this
 exact this
theorem b_String_any (B : Nat) (w : World) (bs la : Lx.Bs) (ah : Bool) (h : Bld w B bs la ah) (h0 : bs ≠ []) :
   Calls Tryz.prog 43 #[.pointer (some ⟨B, 0, none⟩)] w fun e w' => e = .returned (.string ⟨bs.toArray⟩) ∧ Kq B w w' := by
 obtain ⟨p, v, hp, hbk, hown⟩ := h
 have hl0 : bs.length ≠ 0 := by simpa using h0
 obtain ⟨g, cap, cur, rfl, hbg, hg, hnc, hcm, hcs, htake⟩ : ∃ g cap cur, v = .slice (some ⟨g, 0, none⟩) bs.length cap ∧ B + 1 ≤ g ∧ w.heap[g]? = some (.cells cur 5 (0, 0)) ∧ bs.length ≤ cap ∧ cap ≤ maxLen ∧ cur.size = cap * 1 ∧ cur.toList.take (bs.length * 1) = Lib.byteCells bs := by
  rcases hown.2 with ⟨_, hz⟩ | ⟨g, cap, cur, hv, r⟩
  · exact absurd hz hl0
  · exact ⟨g, cap, cur, hv, r⟩
 have c1 : w.drew.cell? ⟨B, 1, none⟩ = some (.slice (some ⟨g, 0, none⟩) bs.length cap) := by have := hbk.cell 1; simpa using this
 have hSD : (Builtin.unsafeSliceData_ #[73] 124 #[.slice (some ⟨g, 0, none⟩) bs.length cap]).run Tryz.prog w.drew = .ok (.pointer (some ⟨g, 0, none⟩)) w.drew :=
  Lib.run_unsafeSliceData_row _ _ _ _ _ _ (by omega)
 have hUS : (Builtin.unsafeString_ #[124, 3] 9 #[.pointer (some ⟨g, 0, none⟩), .int .i64 bs.length]).run Tryz.prog w.drew = .ok (.string ⟨bs.toArray⟩) (w.drew.freeze ⟨g, 0, none⟩ bs.length) := by
  refine Lib.run_unsafeString_row w.drew 124 3 9 5 Tryz.underlying124 (by kernel_rfl) g cur.size (by have hg' : w.drew.heap[g]? = some (.cells cur 5 (0, 0)) := hg; simp [World.shape?, hg']) bs h0 (by omega) (by unfold maxLen at hcm; omega) ?_
  intro j x hx
  have := hown.cells (g := g) rfl j (.int .u8 x.toNat) (by simp [Lib.byteCells, hx])
  exact this
 have HKq : Hid (Kq B w (w.drew.freeze ⟨g, 0, none⟩ bs.length)) :=
  ⟨Lib.below_freeze (Below.drew (Below.refl B w)) (p := ⟨g, 0, none⟩) (show B ≤ g by omega) _, ((Lib.OthersKept.refl _ _ w).drew).freeze ⟨g, 0, none⟩ _ ⟨cur, _, hg⟩⟩
 clear hbk hown hg htake hp
 go_enter Tryz.func43, Tryz.ntmps43
 go_wp2
 go_region
 all_goals (go_wp2; go_ret; exact ⟨rfl, HKq.out⟩)
section
open Go.RowKit Go.Shelf Go.Lib
theorem tab_of_reads {P : Program} {w : World} {nm : String} {g m : Nat} {t e : TypeId} {k : IntKind} (zs : List Int) (hg : P.globalNamed nm = some g) (hty : (P.globals[g]?).map (·.type) = some t)
   (ht : P.underlying t = some (.array m e)) (he : P.underlying e = some (.int k)) (hce : P.cellsOf e = 1) (hct : P.cellsOf t = m)
   (h : VarReads P w nm (tabData k zs)) : ∃ t' fr, w.heap[g]? = some (.cells (zs.map fun z => Value.int k z).toArray t' fr) := by
 obtain ⟨g', t', cs, fuel, p, hg', hty', hvar, hd⟩ := h
 obtain rfl := Option.some.inj (hg.symm.trans hg')
 obtain rfl := Option.some.inj (hty.symm.trans hty')
 have hcs : cs = (zs.map fun z => Value.int k z).toArray := by
  apply Array.ext'
  exact cells_of_tab ht he hce hct hd
 subst hcs
 simp only [World.var?, hg, Option.bind_some] at hvar
 split at hvar
 · rename_i c t2 fr hh
   cases hvar
   exact ⟨t2, fr, hh⟩
 · cases hvar
theorem pow_eq : (Rows.laid_internal_strconv_uint64pow10 : DataW Unit) = tabData .u64 pow10Tab := by kernel_rfl
theorem mx_of_shape {W : World} (h : W.ShapedOpen Tryz.prog) : ∃ m, W.cell? ⟨7, 0, none⟩ = some (.int .i64 m) :=
 cell_of_shapedOpen_int (t := 3) (zero := #[.int .i64 0]) h (of_decide_eq_true (by kernel_rfl)) (by kernel_rfl) rfl (by kernel_rfl) (by kernel_rfl) (by kernel_rfl)
theorem envV_of_reads {W : World} (hp : EnvW W) (h : VarReads Tryz.prog W "internal/strconv.uint64pow10" Rows.laid_internal_strconv_uint64pow10) (hsh : W.ShapedOpen Tryz.prog) : EnvV W where
 envw := hp
 mx := mx_of_shape hsh
 pow := tab_of_reads (t := 286) (e := 264) (m := 20) pow10Tab (by kernel_rfl) (by kernel_rfl) (by kernel_rfl) (by kernel_rfl) (by kernel_rfl) (by kernel_rfl) (pow_eq ▸ h)
end
end Go.Proofs.YtkcakbgcfnhgaaaGreatDoor
