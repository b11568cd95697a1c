/- Parts of the proof: Dp Dq Dr Ds Rno -/
import Derived.Test.YtaiebhhommgnbaaGreatDoorZ10
import Derived.Lib.AppendZeros
import Derived.Lib.SliceRun
import Derived.Laws.AppendOwnNone
import Derived.RangeFuncRecord
import Derived.Deep.RegionHeld
import Derived.OrdersIn
import Derived.RangeFuncCalls
import Derived.Test.YtaiebhhommgnbaaGreatDoorZ1
namespace Go.Proofs.YtaiebhhommgnbaaGreatDoor
set_option linter.unusedSimpArgs false
set_option linter.unusedVariables false
set_option maxRecDepth 100000
set_option maxHeartbeats 16000000
open Go.RowKit
section
open Go.RowKit Go.Shelf
attribute [local go_sem] Oper.semAt_some
namespace Tw
def Kf (B : Nat) (W W' : World) : Prop := W.heap.size ≤ W'.heap.size ∧ ∀ k, B ≤ k → k < W.heap.size → W'.heap[k]? = W.heap[k]?
theorem putObj_below {B l : Nat} {w : World} {o : Obj} (h : B ≤ l) : Below B w (w.putObj l o) :=
 ⟨rfl, rfl, rfl, by simp [World.putObj], fun k hk => World.putObj_heap_other (by omega)⟩
structure Apart (a b : Nat) (W W' : World) : Prop where
 os : W'.os = W.os
 tape : W'.tape = W.tape
 output : W'.output = W.output
 size : W.heap.size ≤ W'.heap.size
 block : ∀ k, k < a ∨ b ≤ k → k < W.heap.size → W'.heap[k]? = W.heap[k]?
theorem Apart.trans {a b : Nat} {u v w : World} (h : Apart a b u v) (g : Apart a b v w) : Apart a b u w :=
 ⟨g.os.trans h.os, g.tape.trans h.tape, g.output.trans h.output, Nat.le_trans h.size g.size, fun k hk hl => (g.block k hk (Nat.lt_of_lt_of_le hl h.size)).trans (h.block k hk hl)⟩
theorem putObj_apart {a b l : Nat} {w : World} {o : Obj} (h : a ≤ l) (h2 : l < b) : Apart a b w (w.putObj l o) :=
 ⟨rfl, rfl, rfl, by simp [World.putObj], fun k hk _ => World.putObj_heap_other (by omega)⟩
theorem Apart.cell {a b : Nat} {w w' : World} (h : Apart a b w w') {p : Addr} (hp : p.block < a ∨ b ≤ p.block) (hl : p.block < w.heap.size) : w'.cell? p = w.cell? p := World.cell?_of_block (w := w) (h.block p.block hp hl)
theorem OneRow.apart {w w' : World} {a b p g cap gv cv : Nat} (h : OneRow w p g cap gv cv) (hb : Apart a b w w') (hp : p < a) (hg : g < a) : OneRow w' p g cap gv cv :=
 ⟨Nat.lt_of_lt_of_le h.hp hb.size, Nat.lt_of_lt_of_le h.hg hb.size, (hb.cell (p := ⟨p, 1, none⟩) (.inl hp) h.hp).trans h.ents, (hb.cell (p := ⟨p, 2, none⟩) (.inl hp) h.hp).trans h.kids, (hb.cell (p := ⟨g, 0, none⟩) (.inl hg) h.hg).trans h.key, (hb.cell (p := ⟨g, 1, none⟩) (.inl hg) h.hg).trans h.row⟩
theorem all_any (p : Nat) (w : World) : Calls Tryz.prog 126 #[.pointer (some ⟨p, 1, none⟩)] w fun x w' => x = .returned (.func (.func 176) #[] #[.pointer (some ⟨w.heap.size, 0, none⟩)]) ∧ w' = w.alloc (.cells #[.pointer (some ⟨p, 1, none⟩)] 226) := by
 go_enter Tryz.func126, Tryz.ntmps126
 go_wp2_with fail
 go_ret
 exact ⟨rfl, rfl⟩
theorem isChosen_nil (tv rv : Value) (w : World) : Calls Tryz.prog 127 #[tv, .nilIface, rv] w fun x w' => x = .returned (.bool true) ∧ w' = w := by
 go_enter Tryz.func127, Tryz.ntmps127
 go_wp2_with fail
 go_ret
 exact ⟨rfl, rfl⟩
theorem chosen1_one (n l bt bw p g cap gv cv : Nat) (w : World) (hbt : bt < w.heap.size) (ht : w.cell? ⟨bt, 0, none⟩ = some (.pointer (some ⟨p, 0, none⟩))) (hbw : bw < w.heap.size) (hw : w.cell? ⟨bw, 0, none⟩ = some .nilIface) (h : OneRow w p g cap gv cv)
   (G : World → Prop) (X : List PanicEntry → World → Prop) (hG : ∀ W, G W → OneRow W p g cap gv cv ∧ p < w.heap.size ∧ g < w.heap.size)
   (hY : ∀ m W, Below w.heap.size w W → w.heap.size + 4 ≤ W.heap.size → YieldAt Fence.wide m Tryz.prog l #[.int .i64 0, .slice (some ⟨gv, 0, none⟩) 1 cv] W fun e W' => Kf w.heap.size W W' ∧ ((e = .returned (.bool true) ∧ G W') ∨ (∃ c, e = .panicked c ∧ X c W'))) :
   CallsIn Fence.wide n Tryz.prog 125 #[.func (.yield l) #[] #[], .pointer (some ⟨bt, 0, none⟩), .pointer (some ⟨bw, 0, none⟩)] w fun e W' => (e = .returned (.tuple #[]) ∧ ∃ W0, G W0 ∧ Apart w.heap.size (w.heap.size + 4) W0 W') ∨ (∃ c, e = .panicked c ∧ ∃ W0, X c W0 ∧ Apart w.heap.size (w.heap.size + 4) W0 W') := by
 refine calls_of_atFn Tryz.func125 rfl ?_
 simp only [Tryz.ntmps125, List.size_toArray, List.length_cons, List.length_nil, Nat.reduceAdd, Nat.reduceSub, Array.replicate_succ, Array.replicate_zero, List.push_toArray, List.append_toArray, List.nil_append, List.cons_append]
 have hp := h.hp
 refine atFn_seq (n := n) ?_
 gi_wp2
 refine atFn_seq (n := n) ?_
 have HB0 : Hid (Below w.heap.size w (w.alloc (.cells #[.func (.yield l) #[] #[]] 231))) := by show Below _ _ _; go_grown
 have d0 := (HB0.out.cell (p := ⟨bt, 0, none⟩) hbt).trans ht
 have hbt0 := Nat.lt_of_lt_of_le hbt HB0.out.size
 gi_wp2
 refine ⟨trivial, (fun h => by cases h), (callsIn_wide.2 (all_any p _)).mono ?_⟩
 rintro x w1 ⟨rfl, rfl⟩
 gi_wp2
 have HV : Hid (Below w.heap.size w ((w.alloc (.cells #[.func (.yield l) #[] #[]] 231)).alloc (.cells #[.pointer (some ⟨p, 1, none⟩)] 226))) := by show Below _ _ _; go_grown
 have HVs : Hid (((w.alloc (.cells #[.func (.yield l) #[] #[]] 231)).alloc (.cells #[.pointer (some ⟨p, 1, none⟩)] 226)).heap.size = w.heap.size + 2) := by show _ = _; simp
 have HYB := hd ((Blk.new w #[.func (.yield l) #[] #[]] 231).alloc (.cells #[.pointer (some ⟨p, 1, none⟩)] 226))
 have HAB := hd (Blk.new (w.alloc (.cells #[.func (.yield l) #[] #[]] 231)) #[.pointer (some ⟨p, 1, none⟩)] 226)
 generalize ((w.alloc (.cells #[.func (.yield l) #[] #[]] 231)).alloc (.cells #[.pointer (some ⟨p, 1, none⟩)] 226)) = V at *
 rw [World.size_alloc] at HAB
 refine atFn_block (atFn_range1 (n := n) (gf := 176) (lb := #[.pointer (some ⟨w.heap.size + 1, 0, none⟩)]) rfl (enters_of Tryz.func176 (by kernel_rfl) rfl) ?_)
 rw [HVs.out]
 intro W1 hrec hdef hb1 hs1
 have HBW : Hid (Below w.heap.size w W1) := HV.out.trans (hb1.mono (by omega))
 have HYC : Hid (W1.cell? ⟨w.heap.size, 0, none⟩ = some (.func (.yield l) #[] #[])) := (hb1.cell (p := ⟨w.heap.size, 0, none⟩) (by simp)).trans ((HYB.out.cell 0).trans rfl)
 have HAC : Hid (W1.cell? ⟨w.heap.size + 1, 0, none⟩ = some (.pointer (some ⟨p, 1, none⟩))) := (hb1.cell (p := ⟨w.heap.size + 1, 0, none⟩) (by simp)).trans ((HAB.out.cell 0).trans rfl)
 have hlt1 : w.heap.size + 3 < W1.heap.size := by rw [hs1]; omega
 have HREC := hd hrec
 have HDEF := hd hdef
 have HH := hd h
 clear HV HVs HYB HAB hb1 hdef d0 hbt0 HB0
 show CallsIn Fence.wide (n - 1) Tryz.prog 176 #[.func (.yield (w.heap.size + 2 + 1)) #[] #[], .pointer (some ⟨w.heap.size + 1, 0, none⟩)] W1 _
 refine (all1_one (n - 1) (w.heap.size + 2 + 1) (w.heap.size + 1) p g cap gv cv W1 HAC.out (by omega) (h.below HBW.out)
   (fun W => ∃ W0, G W0 ∧ Apart w.heap.size (w.heap.size + 4) W0 W ∧ W.heap[w.heap.size + 2 + 1]? = W1.heap[w.heap.size + 2 + 1]? ∧ W.heap[w.heap.size + 2]? = W1.heap[w.heap.size + 2]?)
   (fun c W => X c W ∧ W.heap[w.heap.size + 2]? = W1.heap[w.heap.size + 2]?)
   (fun W ⟨W0, g0, b0, _⟩ => (hG W0 g0).1.apart b0 (hG W0 g0).2.1 (hG W0 g0).2.2) ?_).mono ?_
 · intro W hW
   have hrW := (hW.block (w.heap.size + 2 + 1) (by omega)).trans HREC.out
   have hdW := hW.block (w.heap.size + 2) (by omega)
   refine ⟨_, _, _, _, run_yield hrW rfl, roundIn_p trivial ⟨_, Tryz.func125⟩ ?_⟩
   simp only [loopRec]
   have HW2 : Hid (Below w.heap.size w W) := HBW.out.trans (hW.mono (by omega))
   gi_wp2
   refine ⟨_, run_beginRound hrW rfl, ?_⟩
   generalize hW2 : W.putObj (w.heap.size + 2 + 1) _ = W2
   have HP : Hid (∀ k, k ≠ w.heap.size + 2 + 1 → W2.heap[k]? = W.heap[k]?) := fun k hk => by rw [← hW2]; exact World.putObj_heap_other hk
   have HB2 : Hid (Below w.heap.size w W2) := by rw [← hW2]; exact HW2.out.trans (putObj_below (by omega))
   have HR2 : Hid (∃ r : Loop, W1.heap[w.heap.size + 2 + 1]? = some (.loop r) ∧ r.pending = none ∧ r.state = .ready ∧ W2.heap[w.heap.size + 2 + 1]? = some (.loop { r with state := .busy })) := ⟨_, HREC.out, rfl, rfl, by rw [← hW2]; exact World.putObj_heap_same (by have := hW.size; omega)⟩
   have hs2 : W.heap.size ≤ W2.heap.size := by rw [← hW2]; simp [World.putObj]
   have e0 := (HB2.out.cell (p := ⟨bt, 0, none⟩) hbt).trans ht
   have e1 := (HB2.out.cell (p := ⟨bw, 0, none⟩) hbw).trans hw
   have e2 : W2.cell? ⟨w.heap.size, 0, none⟩ = some (.func (.yield l) #[] #[]) := by
    rw [World.cell?_of_block (w := W1) ((HP.out w.heap.size (by omega)).trans (hW.block w.heap.size (by omega)))]
    exact HYC.out
   have hlt2 := Nat.lt_of_lt_of_le hbt HB2.out.size
   have hlt3 := Nat.lt_of_lt_of_le hbw HB2.out.size
   have hlt4 : w.heap.size < W2.heap.size := by have := hW.size; omega
   obtain ⟨fn', tmps', assign', body', hy, hR⟩ := hY (n - 1 - 1 - 1 - 1) W2 HB2.out (by have := hW.size; omega)
   clear hW2
   gi_wp2
   refine ⟨trivial, (fun h => by cases h), (CallsIn.inRound _ (callsIn_wide.2 (isChosen_nil _ _ _))).mono ?_⟩
   rintro x W2 ⟨rfl, rfl⟩
   gi_wp2
   refine ⟨(fun h => by cases h), (hR : RoundIn (Fence.wide.inRound _) _ _ _ _ _ _ _ _ _).mono ?_⟩
   rintro e W4 ⟨hkf, (⟨rfl, g4⟩ | ⟨c, rfl, hx⟩)⟩
   · gi_wp2
     obtain ⟨r, hr1, hp1, hs1', hr2⟩ := HR2.out
     have hr4 := (hkf.2 (w.heap.size + 2 + 1) (by omega) (by have := hW.size; omega)).trans hr2
     refine ⟨_, _, run_endRound none hr4, .inl ⟨rfl, W4, g4, putObj_apart (by omega) (by omega), ?_, ?_⟩⟩
     · rw [World.putObj_heap_same (by have := hkf.1; have := hW.size; omega), hr1]
       cases r
       cases hp1
       cases hs1'
       rfl
     · rw [World.putObj_heap_other (by omega), hkf.2 _ (by omega) (by have := hW.size; omega), HP.out _ (by omega), hdW]
   · refine ⟨rfl, .inr ⟨c, rfl, hx, ?_⟩⟩
     rw [hkf.2 _ (by omega) (by have := hW.size; omega), HP.out _ (by omega), hdW]
 · rintro e W' (⟨rfl, W0, g0, b0, hr', hd'⟩ | ⟨c, rfl, hx, hd'⟩)
   · have hr2 := hr'.trans HREC.out
     have hd2 := hd'.trans HDEF.out
     refine ⟨_, _, run_endLoop hr2 (by simp [loopRec]), ?_⟩
     refine ⟨by simp, .inl ⟨_, _, rfl, run_takeDeferred ((World.putObj_heap_other (by omega)).trans hd2), ?_⟩⟩
     exact ⟨_, results_none rfl _ _ _, .inl ⟨rfl, W0, g0, b0.trans ((putObj_apart (by omega) (by omega)).trans (putObj_apart (by omega) (by omega)))⟩⟩
   · have hd2 := hd'.trans HDEF.out
     refine ⟨by simp, .inl ⟨_, _, rfl, run_takeDeferred hd2, ?_⟩⟩
     exact .inr ⟨c, rfl, W', hx, putObj_apart (by omega) (by omega)⟩
end Tw
end
namespace Tq
theorem where_nil (w : World) : Calls Tryz.prog 66 #[.nilIface] w fun x w' => x = .returned (.slice none 0 0) ∧ w' = w := by
 go_enter Tryz.func66, Tryz.ntmps66
 go_wp2_with fail
 go_ret
 exact ⟨rfl, rfl⟩
theorem chosen_any (tp : Option Addr) (w : World) : Calls Tryz.prog 67 #[.pointer tp, .nilIface] w fun x w' => x = .returned (.func (.func 125) #[] #[.pointer (some ⟨w.heap.size, 0, none⟩), .pointer (some ⟨w.heap.size + 1, 0, none⟩)]) ∧ w' = (w.alloc (.cells #[.pointer tp] 81)).alloc (.cells #[.nilIface] 85) := by
 go_enter Tryz.func67, Tryz.ntmps67
 go_wp2_with fail
 go_ret
 exact ⟨by simp, rfl⟩
theorem orderExprs_none {ao : Option Addr} {co : Nat} (w : World) : Calls Tryz.prog 73 #[.slice ao 0 co] w fun x w' => x = .returned (.slice none 0 0) ∧ w' = w := by
 go_enter Tryz.func73, Tryz.ntmps73
 go_wp2_with fail
 go_loopw [3, 8] (fun v i wr => v = .slice none 0 0 ∧ i = .int .i64 0 ∧ wr = w) (fun _ _ _ => 0)
 case atStart => exact ⟨rfl, rfl, rfl⟩
 case round =>
  obtain ⟨rfl, rfl, rfl⟩ := hrel
  go_wp2_with fail
  go_ret
  exact ⟨rfl, rfl⟩
theorem demands_none (t : Int) (w : World) : Calls Tryz.prog 75 #[.slice none 0 0, .int .i64 t] w fun x w' => x = .returned (.slice none 0 0) ∧ w' = w := by
 go_enter Tryz.func75, Tryz.ntmps75
 go_wp2_with fail
 go_loopw [5, 10] (fun v i wr => v = .slice none 0 0 ∧ i = .int .i64 0 ∧ wr = w) (fun _ _ _ => 0)
 case atStart => exact ⟨rfl, rfl, rfl⟩
 case round =>
  obtain ⟨rfl, rfl, rfl⟩ := hrel
  go_wp2_with fail
  go_ret
  exact ⟨rfl, rfl⟩
theorem values_none (sv rv : Value) (w : World) : Calls Tryz.prog 62 #[sv, .slice none 0 0, rv] w fun x w' => x = .returned (.slice none 0 0) ∧ w' = w := by
 go_enter Tryz.func62, Tryz.ntmps62
 go_wp2_with fail
 go_loopw [7, 12] (fun v i wr => v = .slice none 0 0 ∧ i = .int .i64 0 ∧ wr = w) (fun _ _ _ => 0)
 case atStart => exact ⟨rfl, rfl, rfl⟩
 case round =>
  obtain ⟨rfl, rfl, rfl⟩ := hrel
  go_wp2_with fail
  go_ret
  exact ⟨rfl, rfl⟩
theorem demands_one (et : TypeId) (ex : Value) (t : Int) (g cap : Nat) (w : World) (hg : g < w.heap.size) (c0 : w.cell? ⟨g, 0, none⟩ = some (.iface et ex)) :
   Calls Tryz.prog 75 #[.slice (some ⟨g, 0, none⟩) 1 cap, .int .i64 t] w fun x w' => Below w.heap.size w w' ∧ ∃ v, x = .returned v ∧ w'.ownsRow w.heap.size 168 2 v 1 [.iface et ex, .int .i64 t] := by
 obtain ⟨i0, hi, hz0, hz1, hz2⟩ := info_parts Tb.Tryz.info168
 go_enter Tryz.func75, Tryz.ntmps75
 go_wp2_with fail
 go_loopw [5, 10] (fun v i wr => Hid (Below w.heap.size w wr) ∧ ((i = .int .i64 0 ∧ v = .slice none 0 0) ∨ (i = .int .i64 1 ∧ Hid (wr.ownsRow w.heap.size 168 2 v 1 [.iface et ex, .int .i64 t])))) (fun _ i _ => 1 - (intOf i).toNat)
 case atStart => exact ⟨Below.refl _ _, .inl ⟨rfl, rfl⟩⟩
 case round =>
  obtain ⟨HW, ⟨rfl, rfl⟩ | ⟨rfl, HO⟩⟩ := hrel
  · have d0 := (HW.out.cell (p := ⟨g, 0, none⟩) hg).trans c0
    have hg2 := Nat.lt_of_lt_of_le hg HW.out.size
    go_wp2_with (first
     | (at_builtin; refine wpList_append_own _ rfl _ _ 145 rfl w.heap.size 168 i0 (.agg #[.nilIface, .int .i64 0]) 2 24 Tryz.underlying145 hi hz0 hz1 hz2 rfl (by decide) _ _ _ rfl (World.ownsRow_nil _ _ _ _) ⟨wr.heap.size, 0, none⟩ 1 1 [.iface et ex, .int .i64 t] rfl rfl ?c1 ?c2 ?c3 ?c4 ?c5 ?_)
     | fail)
    case c1 => exact Tb.twoNews wr _ _ _
    case c2 => intro u hu; simp at hu; rcases hu with rfl | rfl <;> rfl
    case c3 => simp [maxLen]
    case c4 => omega
    case c5 => have := HW.out.size; simp; omega
    intro v' w3 hown hgrow _
    have HB3 : Hid (Below w.heap.size w w3) := by
     have h1 := HW.out.alloc HW.out.size (.cells #[.iface et ex, .int .i64 t] 168)
     exact ⟨hgrow.os.trans h1.os, hgrow.tape.trans h1.tape, hgrow.output.trans h1.output, Nat.le_trans h1.size hgrow.size, fun k hk => (hgrow.block k (Nat.lt_of_lt_of_le hk h1.size) (by simp [Value.ownBlock])).trans (h1.block k hk)⟩
    have HO3 := hd hown
    clear hown hgrow
    go_wp2_with fail
    go_roundw
    case rel => exact ⟨HB3, .inr ⟨rfl, HO3⟩⟩
    case measure => simp [intOf]
  · go_wp2_with fail
    go_ret
    exact ⟨HW.out, _, rfl, HO.out⟩
theorem Tryz.info85 : (Tryz.prog.info? 85).map (fun i => (i.zero, i.size, i.bytes)) = some (some .nilIface, 1, 16) := by kernel_rfl
theorem itemExprs_one (et : TypeId) (ex : Value) (tv : Value) (g cap : Nat) (w : World) (hg : g < w.heap.size) (c0 : w.cell? ⟨g, 0, none⟩ = some (.bool false)) (c1 : w.cell? ⟨g, 1, none⟩ = some (.iface et ex)) :
   Calls Tryz.prog 72 #[tv, .slice (some ⟨g, 0, none⟩) 1 cap] w fun x w' => Below w.heap.size w w' ∧ ∃ v, x = .returned v ∧ w'.ownsRow w.heap.size 85 1 v 1 [.iface et ex] := by
 obtain ⟨i0, hi, hz0, hz1, hz2⟩ := info_parts Tryz.info85
 go_enter Tryz.func72, Tryz.ntmps72
 go_wp2_with fail
 go_loopw [5, 12] (fun v i wr => Hid (Below w.heap.size w wr) ∧ ((i = .int .i64 0 ∧ v = .slice none 0 0) ∨ (i = .int .i64 1 ∧ Hid (wr.ownsRow w.heap.size 85 1 v 1 [.iface et ex])))) (fun _ i _ => 1 - (intOf i).toNat)
 case atStart => exact ⟨Below.refl _ _, .inl ⟨rfl, rfl⟩⟩
 case round =>
  obtain ⟨HW, ⟨rfl, rfl⟩ | ⟨rfl, HO⟩⟩ := hrel
  · have d0 := (HW.out.cell (p := ⟨g, 0, none⟩) hg).trans c0
    have d1 := (HW.out.cell (p := ⟨g, 1, none⟩) hg).trans c1
    have hg2 := Nat.lt_of_lt_of_le hg HW.out.size
    go_wp2_with (first
     | (at_builtin; refine wpList_append_own _ rfl _ _ 148 rfl w.heap.size 85 i0 .nilIface 1 16 Tryz.underlying148 hi hz0 hz1 hz2 rfl (by decide) _ _ _ rfl (World.ownsRow_nil _ _ _ _) ⟨wr.heap.size + 1, 0, none⟩ 1 1 [.iface et ex] rfl rfl ?c1 ?c2 ?c3 ?c4 ?c5 ?_)
     | fail)
    case c1 =>
     have := Tb.oneNew (wr.alloc (.cells #[.bool false, .iface et ex] 206)) (.iface et ex) 85
     rw [World.size_alloc] at this
     exact this
    case c2 => intro u hu; simp at hu; subst hu; rfl
    case c3 => simp [maxLen]
    case c4 => omega
    case c5 => have := HW.out.size; simp; omega
    intro v' w3 hown hgrow _
    have HB3 : Hid (Below w.heap.size w w3) := by
     have h0 := HW.out.alloc HW.out.size (.cells #[.bool false, .iface et ex] 206)
     have h1 := h0.alloc h0.size (.cells #[.iface et ex] 85)
     exact ⟨hgrow.os.trans h1.os, hgrow.tape.trans h1.tape, hgrow.output.trans h1.output, Nat.le_trans h1.size hgrow.size, fun k hk => (hgrow.block k (Nat.lt_of_lt_of_le hk h1.size) (by simp [Value.ownBlock])).trans (h1.block k hk)⟩
    have HO3 := hd hown
    clear hown hgrow
    go_wp2_with fail
    go_roundw
    case rel => exact ⟨HB3, .inr ⟨rfl, HO3⟩⟩
    case measure => simp [intOf]
  · go_wp2_with fail
    go_ret
    exact ⟨HW.out, _, rfl, HO.out⟩
end Tq
namespace Tq
theorem insSort_one (v : Value) (f : Nat) (lb : Array Value) (w : World) : Calls Tryz.prog 184 #[v, .int .i64 0, .int .i64 1, .func (.func f) #[] lb] w fun x w' => x = .returned (.tuple #[]) ∧ w' = w := by
 go_enter Tryz.func184, Tryz.ntmps184
 go_wp2_with fail
 go_loopw [8] (fun i wr => i = .int .i64 1 ∧ wr = w) (fun _ _ => 0)
 case atStart => exact ⟨rfl, rfl⟩
 case round =>
  obtain ⟨rfl, rfl⟩ := hrel
  go_wp2_with fail
  go_end0
  exact ⟨rfl, rfl⟩
theorem stable_one (v : Value) (f : Nat) (lb : Array Value) (w : World) : Calls Tryz.prog 134 #[v, .int .i64 1, .func (.func f) #[] lb] w fun x w' => x = .returned (.tuple #[]) ∧ w' = w := by
 go_enter Tryz.func134, Tryz.ntmps134
 go_wp2_with fail
 go_loopw [7, 8] (fun i j wr => i = .int .i64 0 ∧ j = .int .i64 20 ∧ wr = w) (fun _ _ _ => 0)
 case atStart => exact ⟨rfl, rfl, rfl⟩
 case round =>
  obtain ⟨rfl, rfl, rfl⟩ := hrel
  go_wp2_with fail
  refine (insSort_one v f lb _).mono ?_
  rintro x wr ⟨rfl, rfl⟩
  go_wp2_with fail
  go_loopw [6, 7, 8] (fun i j k wr' => i = .int .i64 20 ∧ wr' = wr) (fun _ _ _ _ => 0)
  case atStart => exact ⟨rfl, rfl⟩
  case round =>
   obtain ⟨rfl, rfl⟩ := hrel
   go_wp2_with fail
   go_end0
   exact ⟨rfl, rfl⟩
theorem sort_one (b : Option Addr) (cap f : Nat) (lb : Array Value) (w : World) : Calls Tryz.prog 76 #[.slice b 1 cap, .func (.func f) #[] lb] w fun x w' => x = .returned (.tuple #[]) ∧ w' = w := by
 go_enter Tryz.func76, Tryz.ntmps76
 go_wp2_with fail
 refine (stable_one _ f lb _).mono ?_
 rintro x w1 ⟨rfl, rfl⟩
 go_wp2_with fail
 go_end0
 exact ⟨rfl, rfl⟩
end Tq
namespace Tq
theorem grow_one (w : World) : Calls Tryz.prog 133 #[.slice none 0 0, .int .i64 1] w fun x w' => Below w.heap.size w w' ∧ ∃ v, x = .returned v ∧ w'.ownsRow w.heap.size 168 2 v 0 [] := by
 obtain ⟨i0, hi, hz0, hz1, hz2⟩ := info_parts Tb.Tryz.info168
 have hrz := fun ty => Lib.run_append_nil_zeros (P := Tryz.prog) w 145 3 ty 168 i0 (.agg #[.nilIface, .int .i64 0]) .i64 .i64 Tryz.underlying145 Tryz.underlying3 hi hz0 1 (by decide) (by omega) (by decide) (by omega)
 have hG1 : 1 ≤ grownCap w 1 0 168 := grownCap_ge w _ _ _
 have hG2 := grownCap_le_maxLen w 1 0 168 (by decide)
 generalize grownCap w 1 0 168 = G at *
 have hG3 : G ≤ 9223372036854775807 := by unfold maxLen at hG2; omega
 have HG2 := hd hG2
 have HB : Hid (Below w.heap.size w (w.drew.alloc (.cells (Builtin.zeroCells (Value.agg #[.nilIface, .int .i64 0]).cells 1 ++ Builtin.zeroCells (Value.agg #[.nilIface, .int .i64 0]).cells (G - 1)) 168))) := ((Below.refl w.heap.size w).drew).alloc (Nat.le_refl _) _
 have HO : Hid ((w.drew.alloc (.cells (Builtin.zeroCells (Value.agg #[.nilIface, .int .i64 0]).cells 1 ++ Builtin.zeroCells (Value.agg #[.nilIface, .int .i64 0]).cells (G - 1)) 168)).ownsRow w.heap.size 168 2 (.slice (some ⟨w.heap.size, 0, none⟩) 0 G) 0 []) := by
  refine ⟨rfl, .inr ⟨w.heap.size, G, _, rfl, Nat.le_refl _, World.alloc_heap_new w.drew _, Nat.zero_le _, HG2.out, ?_, by simp⟩⟩
  rw [Array.size_append, size_zeroCells, size_zeroCells]
  simp [Value.cells]
  omega
 clear hG2 hi hz0 hz1 hz2
 go_enter Tryz.func133, Tryz.ntmps133
 go_wp2_with (first
  | (at_builtin; refine Lib.wpList_append_run _ rfl _ _ 145 3 rfl (.slice none 0 0) (.int .i64 1) rfl rfl _ _ (hrz _) ?_)
  | fail)
 go_wp2_with fail
 go_ret
 exact ⟨HB.out, _, rfl, HO.out⟩
theorem concat_one (a b : Value) (ha : a.oneCell' = true) (hb' : b.oneCell' = true) (gl cl g cap : Nat) (w : World) (hgl : gl < w.heap.size) (l0 : w.cell? ⟨gl, 0, none⟩ = some (.slice (some ⟨g, 0, none⟩) 1 cap)) (l1 : w.cell? ⟨gl, 1, none⟩ = some (.slice none 0 0)) (l2 : w.cell? ⟨gl, 2, none⟩ = some (.slice none 0 0))
   (hg : g < w.heap.size) (c0 : w.cell? ⟨g, 0, none⟩ = some a) (c1 : w.cell? ⟨g, 1, none⟩ = some b) :
   Calls Tryz.prog 74 #[.slice (some ⟨gl, 0, none⟩) 3 cl] w fun x w' => Below w.heap.size w w' ∧ ∃ v, x = .returned v ∧ w'.ownsRow w.heap.size 168 2 v 1 [a, b] := by
 obtain ⟨i0, hi, hz0, hz1, hz2⟩ := info_parts Tb.Tryz.info168
 go_enter Tryz.func74, Tryz.ntmps74
 go_wp2_with fail
 go_loopw [3, 11] (fun n i wr => w = wr ∧ ((i = .int .i64 0 ∧ n = .int .i64 0) ∨ (i = .int .i64 1 ∧ n = .int .i64 1) ∨ (i = .int .i64 2 ∧ n = .int .i64 1) ∨ (i = .int .i64 3 ∧ n = .int .i64 1))) (fun _ i _ => 3 - (intOf i).toNat)
 case atStart => exact ⟨rfl, .inl ⟨rfl, rfl⟩⟩
 case round =>
  obtain ⟨rfl, ⟨rfl, rfl⟩ | ⟨rfl, rfl⟩ | ⟨rfl, rfl⟩ | ⟨rfl, rfl⟩⟩ := hrel
  · go_wp2_with fail
    go_roundw
    case rel => exact ⟨trivial, .inr (.inl ⟨rfl, rfl⟩)⟩
    case measure => simp [intOf]
  · go_wp2_with fail
    go_roundw
    case rel => exact ⟨trivial, .inr (.inr (.inl ⟨rfl, rfl⟩))⟩
    case measure => simp [intOf]
  · go_wp2_with fail
    go_roundw
    case rel => exact ⟨trivial, .inr (.inr (.inr ⟨rfl, rfl⟩))⟩
    case measure => simp [intOf]
  · go_wp2_with fail
    refine (grow_one _).mono ?_
    rintro x w1 ⟨hb, v0, rfl, hown⟩
    have HB := hd hb
    have HO := hd hown
    clear hb hown
    go_wp2_with fail
    go_loopw [6, 27] (fun v i w2 => Hid (Below w.heap.size w w2) ∧ ((i = .int .i64 0 ∧ Hid (w2.ownsRow w.heap.size 168 2 v 0 [])) ∨ ((i = .int .i64 1 ∨ i = .int .i64 2 ∨ i = .int .i64 3) ∧ Hid (w2.ownsRow w.heap.size 168 2 v 1 [a, b])))) (fun _ i _ => 3 - (intOf i).toNat)
    case atStart => exact ⟨HB, .inl ⟨rfl, HO⟩⟩
    case round =>
     obtain ⟨HW, ⟨rfl, HO2⟩ | ⟨(rfl | rfl | rfl), HO2⟩⟩ := hrel
     · have d0 := (HW.out.cell (p := ⟨gl, 0, none⟩) hgl).trans l0
       have hg2 := Nat.lt_of_lt_of_le hgl HW.out.size
       go_wp2_with (first
        | (at_builtin; refine wpList_append_own _ rfl _ _ 145 rfl w.heap.size 168 i0 (.agg #[.nilIface, .int .i64 0]) 2 24 Tryz.underlying145 hi hz0 hz1 hz2 rfl (by decide) _ _ _ rfl HO2.out ⟨g, 0, none⟩ 1 cap [a, b] rfl rfl ?c1 ?c2 ?c3 ?c4 ?c5 ?_)
        | fail)
       case c1 =>
        intro j u hu
        rw [Addr.add_lit, Nat.zero_add, HW.out.cell hg]
        match j, hu with
        | 0, hu => rw [c0]; simpa using hu
        | 1, hu => rw [c1]; simpa using hu
        | j + 2, hu => simp at hu
       case c2 => intro u hu; simp at hu; rcases hu with rfl | rfl <;> assumption
       case c3 => simp [maxLen]
       case c4 => omega
       case c5 => exact HW.out.size
       intro v' w3 hown hgrow _
       have HB3 : Hid (Below w.heap.size w w3) := HW.out.grown hgrow HW.out.size (by intro k hk; rcases HO2.out.2 with ⟨rfl, _⟩ | ⟨g', _, _, rfl, hge, _⟩ <;> simp [Value.ownBlock] at hk; omega)
       have HO3 := hd hown
       clear hown hgrow
       go_wp2_with fail
       go_roundw
       case rel => exact ⟨HB3, .inr ⟨.inl rfl, HO3⟩⟩
       case measure => simp [intOf]
     · have d0 := (HW.out.cell (p := ⟨gl, 1, none⟩) hgl).trans l1
       have hg2 := Nat.lt_of_lt_of_le hgl HW.out.size
       go_wp2_with (first
        | (at_builtin; refine wpList_append_own_none rfl _ _ 145 rfl w.heap.size 168 i0 2 Tryz.underlying145 hi _ _ _ rfl HO2.out rfl ?_)
        | fail)
       go_wp2_with fail
       go_roundw
       case rel => exact ⟨HW, .inr ⟨.inr (.inl rfl), HO2⟩⟩
       case measure => simp [intOf]
     · have d0 := (HW.out.cell (p := ⟨gl, 2, none⟩) hgl).trans l2
       have hg2 := Nat.lt_of_lt_of_le hgl HW.out.size
       go_wp2_with (first
        | (at_builtin; refine wpList_append_own_none rfl _ _ 145 rfl w.heap.size 168 i0 2 Tryz.underlying145 hi _ _ _ rfl HO2.out rfl ?_)
        | fail)
       go_wp2_with fail
       go_roundw
       case rel => exact ⟨HW, .inr ⟨.inr (.inr rfl), HO2⟩⟩
       case measure => simp [intOf]
     · go_wp2_with fail
       go_ret
       exact ⟨HW.out, _, rfl, HO2.out⟩
end Tq
section
open Go
variable {P : Program} {ops : Array Oper} {Q : Exit → Act → World → Prop} {l n : Nat}
def noDefer (ops : Array Oper) : Bool := ops.all fun o => match o.op with | .defer _ => false | _ => true
theorem noDefer_at (h : noDefer ops = true) {i : Nat} {o : Oper} (ho : ops[i]? = some o) (c : Call) : o.op ≠ .defer c := by
 intro hc
 unfold noDefer at h
 rw [Array.all_eq_true] at h
 obtain ⟨hi, he⟩ := Array.getElem?_eq_some_iff.1 ho
 have := h i hi
 rw [he, hc] at this
 cases this
theorem wpIn_of_wp {o : Oper} {a : Act} {w : World} {K : Act → World → Prop} (hd : ∀ c, o.op ≠ .defer c) (h : o.wp P a w K Q) : o.wpIn (Fence.wide.inRound l) n P a w K Q := by
 refine ⟨fun _ _ => trivial, ?_⟩
 rw [Oper.semAt_eq _ _ _ hd]
 unfold Oper.wp at h
 generalize (execOp a.eval o).run P w = r at h
 cases r with
 | ok nx w' =>
  cases nx with
  | value v => exact h
  | skip => exact h
  | defer d => exact h
  | enter f args => exact ⟨(fun h => by cases h), CallsIn.inRound l (callsIn_wide.2 h)⟩
  | row row args => exact ⟨(fun h => by cases h), fun c cs _ => let ⟨v, w', r, s⟩ := h c cs; ⟨v, w', r, stepsIn_wide.2 s⟩⟩
  | _ => exact (h : False).elim
 | halt s w' =>
  cases s with
  | panic v => exact h
  | _ => exact (h : False).elim
theorem wpAnyIn_round {md : Region.Mode} (hL : ¬ LetsOut Q) (hd : noDefer ops = true) : ∀ (fuel : Nat) (listed : Array Bool) (a : Act) (w : World), wpAny P md ops Q fuel listed a w → wpAnyIn (Fence.wide.inRound l) n P md ops Q fuel listed a w
 | 0, _, _, _, h => h
 | fuel + 1, listed, a, w, h => by
  refine ⟨h.1, fun i hi => ?_⟩
  have h2 := h.2 i hi
  unfold wpOp at h2
  unfold wpOpIn
  split at h2
  · rename_i hn; rw [hn]; exact wpAnyIn_round hL hd fuel _ a w h2
  · rename_i o ho
    rw [ho]
    dsimp only
    split at h2
    · rename_i hw
      rw [if_pos hw]
      rcases h2 with h2 | ⟨_, h3⟩
      · exact Oper.wpIn_mono (fun a' w' h' => wpAnyIn_round hL hd fuel _ a' w' h') (wpIn_of_wp (noDefer_at hd ho) h2)
      · exact absurd h3 hL
    · rename_i hw
      rw [if_neg hw]
      exact ⟨fun _ _ => trivial, wpAnyIn_round hL hd fuel _ _ w h2⟩
theorem region_round {S : World → Prop} {id : Nat} {a : Act} {w : World} (hm : P.follows .mixedOrders = true) (hL : ¬ LetsOut Q) (hd : noDefer ops = true) (hS : S w.drew)
   (h : S w.drew → wpAnyH P .any ops Q S ops.size (Array.replicate ops.size false) a w.drew) : (Code.region id ops true).wpIn (Fence.wide.inRound l) n P Q a w :=
 wpIn_region_any hm (wpAnyIn_round hL hd _ _ _ _ (wpAny_of_held _ _ _ _ (h hS)))
end
end Go.Proofs.YtaiebhhommgnbaaGreatDoor
