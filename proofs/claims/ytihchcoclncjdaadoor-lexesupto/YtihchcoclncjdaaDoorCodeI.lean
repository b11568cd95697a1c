/- The contract of the program's own Tokens, as callers meet it. -/
import Derived.Test.YtihchcoclncjdaaDoorCodeT
import Derived.Defers
import Derived.Recover
namespace Go.Proofs.YtihchcoclncjdaaDoor
open Go.RowKit
set_option linter.unusedSimpArgs false
set_option linter.unusedVariables false

set_option maxRecDepth 100000 in
set_option maxHeartbeats 1000000 in
theorem catch_panicking (b0 b1 : Nat) (x y p c : Int) (older : List PanicEntry) (w : World) (h0 : Blk w b0 #[.int .i64 x] 3) (h1 : Blk w b1 #[.int .i64 y] 34) (hne : b0 ≠ b1) :
    CallsD Tryd.prog 11 #[.pointer (some ⟨b0, 0, none⟩), .pointer (some ⟨b1, 0, none⟩)] (.panicking ({ v := .iface 58 (.agg #[.int .i64 p, .int .i64 c]), recovered := false } :: older)) w fun e u' w' =>
      e = .returned (.tuple #[]) ∧ u' = .panicking ({ v := .iface 58 (.agg #[.int .i64 p, .int .i64 c]), recovered := true } :: older) ∧ ∃ w1, Below w.heap.size w w1 ∧ w' = (w1.setCell ⟨b0, 0, none⟩ (.int .i64 p)).setCell ⟨b1, 0, none⟩ (.int .i64 c) := by
  refine callsD_of_wpS Tryd.func11 rfl fun c₀ cs hu => ?_
  apply wpS_seq
  apply wpS_region
  simp [wpOpsS, go_sem, recoverD, hu, Tryd.ntmps11, Exit.thenS]
  apply wpS_seq
  apply wpS_region
  simp [wpOpsS, go_sem, recoverD, hu, Tryd.ntmps11, Exit.thenS]
  refine wpS_cond (t := true) (by simp [Act.eval, Array.replicate]) ?_
  simp only [if_true]
  refine wpS_of_wp ?_
  simp only [Array.replicate, List.replicate, List.toArray_replicate]
  go_wp2_with fail
  refine (told_any p c w).mono ?_
  rintro e w1 ⟨rfl, hb1⟩
  have k0 := h0.below hb1 h0.lt
  have k1 := h1.below hb1 h1.lt
  have c0 : w1.cell? ⟨b0, 0, none⟩ = some (.int .i64 x) := k0.cell 0
  have c1 : w1.cell? ⟨b1, 0, none⟩ = some (.int .i64 y) := k1.cell 0
  have f0 := k0.free 0
  have f1 := k1.free 0
  have hne' : ¬ b0 = b1 := hne
  have hne'' : ¬ b1 = b0 := fun e => hne e.symm
  go_wp2
  refine ⟨rfl, _, rfl, .tuple #[], by simp [results, Tryd.results11], rfl, rfl, w1, hb1, rfl⟩

set_option maxRecDepth 100000 in
set_option maxHeartbeats 1000000 in
theorem catch_idle (p q : Addr) (w : World) :
    CallsD Tryd.prog 11 #[.pointer (some p), .pointer (some q)] .returning w fun e u' w' => e = .returned (.tuple #[]) ∧ u' = .returning ∧ w' = w := by
  refine callsD_of_wpS Tryd.func11 rfl fun c₀ cs hu => ?_
  apply wpS_seq
  apply wpS_region
  simp [wpOpsS, go_sem, recoverD, hu, Tryd.ntmps11, Exit.thenS]
  apply wpS_seq
  apply wpS_region
  simp [wpOpsS, go_sem, recoverD, hu, Tryd.ntmps11, Exit.thenS]
  refine wpS_cond (t := false) (by simp [Act.eval, Array.replicate]) ?_
  simp only [Bool.false_eq_true, if_false]
  refine wpS_of_wp (wp_skip ?_)
  cases c₀
  simp_all [bodyPostS, results, Tryd.results11]

set_option maxRecDepth 100000 in
set_option maxHeartbeats 2000000 in
theorem cTokens_any (s : ByteArray) (w : World) (he : Env w) (hm : s.size ≤ maxLen) :
    Calls Tryd.prog 6 #[.string s] w fun e w' => ∃ (v : Value) (n c : Int), e = .returned (.tuple #[v, .int .i64 n, .int .i64 c]) ∧ TokV (Lx.lex s.data.toList) w.heap.size w' v n c ∧ Below w.heap.size w w' := by
  have hmf : ∀ (fn : Fn) (first cap : Array Value) (w : World), (Instr.makeFunc fn first cap).run Tryd.prog w = .ok (.func fn first cap) w := fun _ _ _ _ => rfl
  have HE := hd he
  clear he
  have hb0 : Below w.heap.size w ((w.alloc (.cells #[.int .i64 0] 3)).alloc (.cells #[.int .i64 0] 34)) := ((Below.refl _ _).alloc (Nat.le_refl _) _).alloc (by simp) _
  have HT := hd (rdTokens_any s ((w.alloc (.cells #[.int .i64 0] 3)).alloc (.cells #[.int .i64 0] 34)) (HE.out.below hb0) hm)
  have K0 : Blk ((w.alloc (.cells #[.int .i64 0] 3)).alloc (.cells #[.int .i64 0] 34)) w.heap.size #[.int .i64 0] 3 := (Blk.new w _ _).alloc _
  have K1 : Blk ((w.alloc (.cells #[.int .i64 0] 3)).alloc (.cells #[.int .i64 0] 34)) (w.heap.size + 1) #[.int .i64 0] 34 := (by have h := Blk.new (w.alloc (.cells #[.int .i64 0] 3)) #[.int .i64 0] 34; rwa [World.size_alloc] at h)
  generalize Lx.lex s.data.toList = r at *
  go_enter_defers Tryd.func6, Tryd.ntmps6
  go_wp2_with fail
  refine HT.out.mono ?_
  rintro e w1 ⟨hb1, ht⟩
  have K0' := K0.below hb1 (by simp; omega)
  have K1' := K1.below hb1 (by simp)
  have HB1 : Hid (Below w.heap.size w w1) := hb0.trans (hb1.mono (by simp; omega))
  clear hb1 K0 K1 hb0
  have c0 : w1.cell? ⟨w.heap.size, 0, none⟩ = some (.int .i64 0) := K0'.cell 0
  have c1 : w1.cell? ⟨w.heap.size + 1, 0, none⟩ = some (.int .i64 0) := K1'.cell 0
  have f0 := K0'.free 0
  have f1 := K1'.free 0
  rcases hr : r with ⟨p, c⟩ | ts
  · rw [hr] at ht
    simp only at ht
    subst ht
    refine leaves_cons (f := 11) (args := #[.pointer (some ⟨w.heap.size, 0, none⟩), .pointer (some ⟨w.heap.size + 1, 0, none⟩)]) (by simp) (by simp [go_sem]) ?_
    refine (catch_panicking w.heap.size (w.heap.size + 1) 0 0 (p : Int) (c : Int) [] w1 K0' K1' (by omega)).mono ?_
    rintro e u' w'' ⟨rfl, rfl, w2, hb2, rfl⟩
    have k0 := ((K0'.below hb2 K0'.lt).set 0 (.int .i64 (p : Int))).far ⟨w.heap.size + 1, 0, none⟩ (.int .i64 (c : Int)) (by simp)
    have k1 := ((K1'.below hb2 K1'.lt).far ⟨w.heap.size, 0, none⟩ (.int .i64 (p : Int)) (by simp)).set 0 (.int .i64 (c : Int))
    have d0 := k0.cell 0
    have d1 := k1.cell 0
    simp at d0 d1
    simp [Leaves, settle, results, Tryd.results6, go_sem, d0, d1]
    refine ⟨_, _, _, ⟨rfl, rfl, rfl⟩, ?_, ?_⟩
    · rw [hr]; exact ⟨rfl, rfl, rfl⟩
    · exact ((HB1.out.trans (hb2.mono HB1.out.size)).setCell (p := ⟨w.heap.size, 0, none⟩) (Nat.le_refl _) _).setCell (p := ⟨w.heap.size + 1, 0, none⟩) (Nat.le_succ _) _
  · rw [hr] at ht
    obtain ⟨v, rfl, hown⟩ := ht
    go_wp2
    refine leaves_cons (f := 11) (args := #[.pointer (some ⟨w.heap.size, 0, none⟩), .pointer (some ⟨w.heap.size + 1, 0, none⟩)]) (by simp) (by simp [go_sem]) ?_
    refine (catch_idle ⟨w.heap.size, 0, none⟩ ⟨w.heap.size + 1, 0, none⟩ _).mono ?_
    rintro e u' w'' ⟨rfl, rfl, rfl⟩
    have k0 := (K0'.set 0 (.int .i64 0)).far ⟨w.heap.size + 1, 0, none⟩ (.int .i64 0) (by simp)
    have k1 := (K1'.far ⟨w.heap.size, 0, none⟩ (.int .i64 0) (by simp)).set 0 (.int .i64 0)
    have d0 := k0.cell 0
    have d1 := k1.cell 0
    simp at d0 d1
    simp [Leaves, settle, results, Tryd.results6, go_sem, d0, d1]
    refine ⟨_, _, _, ⟨rfl, rfl, rfl⟩, ?_, ?_⟩
    · rw [hr]
      simp only [World.size_alloc] at hown
      exact ⟨owns_base (ownsRow_setCell_below (ownsRow_setCell_below hown (by show w.heap.size < _; omega) _) (by show w.heap.size + 1 < _; omega) _) (by omega), rfl, rfl⟩
    · exact (HB1.out.setCell (p := ⟨w.heap.size, 0, none⟩) (Nat.le_refl _) _).setCell (p := ⟨w.heap.size + 1, 0, none⟩) (Nat.le_succ _) _

end Go.Proofs.YtihchcoclncjdaaDoor
