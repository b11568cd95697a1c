/- Parts of the proof: Kg -/
import Derived.Test.YtkcakbgcfnhgaaaGreatDoorZ16
import Derived.Test.YtkcakbgcfnhgaaaGreatDoorZ15
namespace Go.Proofs.YtkcakbgcfnhgaaaGreatDoor
set_option linter.unusedSimpArgs false
set_option linter.unusedVariables false
set_option maxRecDepth 100000
set_option maxHeartbeats 16000000
open Go.RowKit
namespace Kl
def OpV (ts : List Lx.Tok) (i : Nat) (z : Int) : Prop := z = -1 ∨ ∃ k, i < k ∧ z = (k : Int) ∧ (∃ t, ts[i]? = some t ∧ t.kind = 51 ∧ t.text = [40]) ∧ ∃ t, ts[k]? = some t ∧ t.kind = 51 ∧ t.text = [41]
theorem open_any (ao : Option Addr) (cap : Nat) (ts : List Lx.Tok) (i : Nat) (w : World) (hn : ts.length ≤ 100000) (hi : i < ts.length) (h : TkIs w ao ts) :
   Calls Tryz.prog 14 #[.slice ao ts.length cap, .int .i64 (i : Int)] w fun e w' => ∃ z, e = .returned (.int .i64 z) ∧ Hid (OpV ts i z) ∧ Below w.heap.size w w' := by
 have HT := hd h
 obtain ⟨g, rfl, hg, p0, p1, p2⟩ := h.cells i hi
 obtain ⟨g', hg', _, z0, z1, z2⟩ := h.cells 0 (by omega)
 have : g' = g := by
  simp only [Option.some.injEq, Addr.mk.injEq, and_true] at hg'
  exact hg'.symm
 subst this
 have HTI : Hid (ts[i]? = some ts[i]) := List.getElem?_eq_getElem hi
 clear h hg'
 generalize ts[i] = t at *
 obtain ⟨tk, tt, tp⟩ := t
 simp only at p0 p1 p2
 by_cases h51 : tk = 51
 rotate_left
 · have hb : ((tk : Int) == 51) = false := by simp; omega
   go_enter Tryz.func14, Tryz.ntmps14
   go_wp2
   go_ret
   exact ⟨-1, rfl, .inl rfl, Below.refl _ _⟩
 subst h51
 by_cases h40 : tt = [40]
 rotate_left
 · have hb : (tt == [40]) = false := by simpa using h40
   go_enter Tryz.func14, Tryz.ntmps14
   go_wp2
   go_ret
   exact ⟨-1, rfl, .inl rfl, Below.refl _ _⟩
 subst h40
 by_cases h0 : i = 0
 · subst h0
   simp only [Nat.zero_mul, Nat.zero_add] at p0 p1 p2
   go_enter Tryz.func14, Tryz.ntmps14
   go_wp2
   all_goals
    go_ret
    exact ⟨-1, rfl, .inl rfl, Below.refl _ _⟩
 obtain ⟨j, rfl⟩ : ∃ j, i = j + 1 := ⟨i - 1, by omega⟩
 obtain ⟨g2, hg2, _, q0, q1, q2⟩ := HT.out.cells j (by omega)
 have : g2 = g' := by
  simp only [Option.some.injEq, Addr.mk.injEq, and_true] at hg2
  exact hg2.symm
 subst this
 generalize ts[j] = t at *
 generalize ts[0] = u at *
 obtain ⟨bk, bt, bp⟩ := t
 obtain ⟨uk, ut, up⟩ := u
 simp only at q0 q1 q2 z0 z1 z2
 simp only [Nat.zero_mul, Nat.zero_add] at z0 z1 z2
 have HOU := hd (fun w' h => outer_any (some ⟨g2, 0, none⟩) cap ts (j + 1) ((j : Int) + 1) (by omega) w' hn (by omega) h)
 have hjl : (j : Int) + 1 < (ts.length : Int) := by omega
 have hj0 : (((j : Int) + 1) == 0) = false := by simp; omega
 have hcast : ((j + 1 : Nat) : Int) = (j : Int) + 1 := by omega
 rw [hcast]
 clear hg2 h0 hcast
 go_enter Tryz.func14, Tryz.ntmps14
 go_wp2_with fail
 have hb1 : Below w.heap.size w (w.alloc (.cells #[.int .i64 (bk : Int), .string ⟨bt.toArray⟩, .int .i64 (bp : Int)] 41)) := by go_grown
 have hk1 := Blk.new w #[.int .i64 (bk : Int), .string ⟨bt.toArray⟩, .int .i64 (bp : Int)] 41
 refine (HOU.out _ (HT.out.below hb1)).mono ?_
 rintro x w1 ⟨q, rfl, hbx⟩
 have hk2 := hk1.below hbx hk1.lt
 have b0 := hk2.cell 0
 have b1 := hk2.cell 1
 have b2 := hk2.cell 2
 simp at b0 b1 b2
 have HB1 : Hid (Below w.heap.size w w1) := hb1.trans (hbx.mono hb1.size)
 have HTW := HT
 rw [← HB1.out.cell (p := ⟨g2, 0, none⟩) hg] at z0
 rw [← HB1.out.cell (p := ⟨g2, 1, none⟩) hg] at z1
 clear hb1 hk1 hbx hk2 HT HOU p0 p1 p2 q0 q1 q2 z2
 generalize (⟨bt.toArray⟩ : ByteArray) = btb at *
 generalize (⟨ut.toArray⟩ : ByteArray) = utb at *
 go_wp2_with fail
 all_goals first
  | (go_ret; exact ⟨-1, rfl, .inl rfl, HB1.out⟩)
  | skip
 all_goals
  clear z0 z1 b0 b1 b2
  go_loopw [10, 11] (fun s jv wr => ∃ (k : Nat) (dp : Int), j + 1 ≤ k ∧ k ≤ ts.length ∧ jv = .int .i64 k ∧ s = .int .i64 dp ∧ -(k : Int) ≤ dp ∧ dp ≤ k ∧ Hid (Below w.heap.size w wr)) (fun _ jv _ => ts.length - (intOf jv).toNat)
  case atStart => exact ⟨j + 1, 0, by omega, by omega, by go_num, rfl, by omega, by omega, HB1⟩
  case round =>
   obtain ⟨k, dp, hk1, hk2, rfl, rfl, hd1, hd2, HW⟩ := hrel
   by_cases hlt : k < ts.length
   · obtain ⟨g3, hg3, _, p0, p1, p2⟩ := (HTW.out.below HW.out).cells k hlt
     have : g3 = g2 := by
      simp only [Option.some.injEq, Addr.mk.injEq, and_true] at hg3
      exact hg3.symm
     subst this
     have HTK : Hid (ts[k]? = some ts[k]) := List.getElem?_eq_getElem hlt
     have z1 : (0 : Int) ≤ (k : Int) := by omega
     have z2 : (k : Int) < (ts.length : Int) := by omega
     generalize ts[k] = t at *
     obtain ⟨tk, tt, tq⟩ := t
     simp only at p0 p1 p2
     clear hg3
     by_cases h51 : tk = 51
     · subst h51
       by_cases h41 : tt = [41]
       · subst h41
         have hkj : j + 1 < k := by
          rcases Nat.lt_or_ge (j + 1) k with h | h
          · exact h
          have e : k = j + 1 := by omega
          have h1 := HTK.out
          rw [e, HTI.out] at h1
          simp at h1
         go_wp2
         all_goals first
          | (go_ret; exact ⟨(k : Int), rfl, .inr ⟨k, hkj, rfl, ⟨_, HTI.out, rfl, rfl⟩, ⟨_, HTK.out, rfl, rfl⟩⟩, HW.out⟩)
          | skip
         all_goals
          go_roundw
          case rel => exact ⟨k + 1, _, by omega, by omega, by go_num, rfl, by omega, by omega, HW⟩
          case measure => simp [intOf]; omega
       have hb : (tt == [41]) = false := by simpa using h41
       go_wp2
       all_goals
        go_roundw
        case rel => exact ⟨k + 1, _, by omega, by omega, by go_num, rfl, by omega, by omega, HW⟩
        case measure => simp [intOf]; omega
     have hb : ((tk : Int) == 51) = false := by simp; omega
     go_wp2
     all_goals
      go_roundw
      case rel => exact ⟨k + 1, _, by omega, by omega, by go_num, rfl, by omega, by omega, HW⟩
      case measure => simp [intOf]; omega
   have z2 : (ts.length : Int) ≤ (k : Int) := by omega
   go_wp2
   go_ret
   exact ⟨-1, rfl, .inl rfl, HW.out⟩
end Kl
end Go.Proofs.YtkcakbgcfnhgaaaGreatDoor
