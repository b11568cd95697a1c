/- Parts of the proof: CqH CqI CqJ Wg Wh Wi -/
import Derived.Test.YtkcakbgcfnhgaaaGreatDoorZ8
import Derived.Test.YtkcakbgcfnhgaaaGreatDoorZ1
import Derived.Test.YtkcakbgcfnhgaaaGreatDoorZ4
import Derived.Deep.RegionHeld
namespace Go.Proofs.YtkcakbgcfnhgaaaGreatDoor
set_option linter.unusedSimpArgs false
set_option linter.unusedVariables false
set_option maxRecDepth 100000
set_option maxHeartbeats 16000000
open Go.RowKit
theorem sel_nn (b : Nat) (w : World) (t : Lx.Bs) (i : List (Option Px.E)) (o : Option Px.E) (r : List (Px.E × Bool)) (hvo : ev? o = .nilIface) (ao ao2 : Option Addr) (cap cap2 : Nat) (base : Nat) (h : Ls w b []) (hcap1 : i.length ≤ cap) (hcap2 : cap ≤ maxLen) (hcap3 : r.length ≤ cap2) (hcap4 : cap2 ≤ maxLen) (hu : w.ownsRow base 141 2 (.slice ao i.length cap) i.length (i.flatMap itemC)) (hub : ∀ g, Value.ownBlock (.slice ao i.length cap) = some g → g < b) (hu2 : w.ownsRow base 143 2 (.slice ao2 r.length cap2) r.length (r.flatMap orderC)) (hub2 : ∀ g, Value.ownBlock (.slice ao2 r.length cap2) = some g → g < b) (hc : (Px.St.select i t o r none).nodes.length ≤ 80000) (hil : i.length ≤ 3000) (hrl : r.length ≤ 3000) :
   Calls Tryz.prog 52 #[.pointer (some ⟨b, 0, none⟩), .agg #[.slice ao i.length cap, .string ⟨t.toArray⟩, .nilIface, .slice ao2 r.length cap2, .bool false, .int .i64 0]] w (LsOut w b (Px.St.select i t o r none).nodes) := by
 have hlt := h.lt
 have HO := hd hu
 have HO2 := hd hu2
 have HX := hd h
 have HUB := hd hub
 have HUB2 := hd hub2
 have HCN := hd (y_count_any o)
 have HWH := hd (y_where_any b o)
 rw [hvo] at HCN HWH
 have ho1 : Px.one? o ≤ 1 := by cases o <;> simp [Px.one?]
 have hon : ∃ on : Nat, Px.one? o = on := ⟨_, rfl⟩
 obtain ⟨on, hon⟩ := hon
 rw [hon] at HCN ho1
 have HON := hd hon
 have hw1 : IntKind.i64.wrap ((i.length : Int) + (on : Int)) = (i.length : Int) + (on : Int) := wrap_small _ (by omega) (by omega)
 have hw2 : IntKind.i64.wrap ((i.length : Int) + (on : Int) + (r.length : Int)) = (i.length : Int) + (on : Int) + (r.length : Int) := wrap_small _ (by omega) (by omega)
 have hw3 : IntKind.i64.wrap ((i.length : Int) + (on : Int) + (r.length : Int) + 1) = (i.length : Int) + (on : Int) + (r.length : Int) + 1 := wrap_small _ (by omega) (by omega)
 unfold maxLen at hcap2 hcap4
 clear h hu hub hu2 hub2 hvo hon
 have HBX := hd (Blk.new w #[.slice ao i.length cap, .string ⟨t.toArray⟩, .nilIface, .slice ao2 r.length cap2, .bool false, .int .i64 0] 109)
 go_enter Tryz.func52, Tryz.ntmps52
 go_wp2_with fail
 go_region_held3 (fun w' => w'.cell? ⟨w.heap.size, 0, none⟩ = some (.slice ao i.length cap) ∧ w'.cell? ⟨w.heap.size, 1, none⟩ = some (.string ⟨t.toArray⟩) ∧ w'.cell? ⟨w.heap.size, 2, none⟩ = some (.nilIface) ∧ w'.cell? ⟨w.heap.size, 3, none⟩ = some (.slice ao2 r.length cap2) ∧ w'.cell? ⟨w.heap.size, 4, none⟩ = some (.bool false)) (go_keep)
   (first
    | (go_at_call 49; refine (HCN.out _).mono ?_; rintro x w' ⟨rfl, rfl⟩)
    | (go_at_call 81; refine (y_one_any false _).mono ?_; rintro x w' ⟨rfl, rfl⟩)
    | (go_at_call 47
       refine (yaa _ b [] (HX.out.alloc _).drew (by simp) 9 ⟨t.toArray⟩ 0 _).mono ?_
       rintro x w1 ⟨rfl, hls, hkp⟩
       have HB1 := hd (hkp.blk HBX.out.drew (by omega) (by decide))
       have q0 := HB1.out.cell 0
       have q1 := HB1.out.cell 1
       have q2 := HB1.out.cell 2
       have q3 := HB1.out.cell 3
       have q4 := HB1.out.cell 4
       simp at q0 q1 q2 q3 q4))
 have HL1 := hd hls
 have HK1 := hd (((Kp.below (b := b) ((Below.refl w.heap.size w).alloc (nlr _) (.cells #[.slice ao i.length cap, .string ⟨t.toArray⟩, .nilIface, .slice ao2 r.length cap2, .bool false, .int .i64 0] 109))).trans (Kp.drew _ b)).trans hkp)
 clear hls hkp HBX q1 q2 q3 q4
 go_wp2_with fail
 go_loopw [30] (fun x wr => ∃ k : Nat, k ≤ i.length ∧ x = .int .i64 k ∧ Hid (Ls wr b (⟨9, t, 0, (i.length : Int) + on + r.length + 0⟩ :: (i.take k).flatMap Px.itemN)) ∧ Hid (Kp w wr b) ∧ Hid (Blk wr w.heap.size #[.slice ao i.length cap, .string ⟨t.toArray⟩, .nilIface, .slice ao2 r.length cap2, .bool false, .int .i64 0] 109)) (fun x _ => i.length - (intOf x).toNat)
 case atStart => exact ⟨0, by omega, rfl, (by show Ls _ _ _; have := HL1.out; simpa using this), HK1, HB1⟩
 case round =>
  clear HL1 HK1 HB1 q0
  obtain ⟨k, hk, rfl, HL, HK, HB⟩ := hrel
  by_cases hlt2 : k < i.length
  · have hown := HK.out.own HO.out (by decide) (fun g hg => by have := HUB.out g hg; omega)
    obtain ⟨ao3, cap3, hsl2, _, _, hcells⟩ := ls_cells (cl := itemC) (m := 2) (fun a => by cases a <;> rfl) hown
    simp only [Value.slice.injEq, true_and] at hsl2
    obtain ⟨rfl, rfl⟩ := hsl2
    obtain ⟨g, rfl, hg, hj⟩ := hcells k hlt2
    have p0 := hj 0 (by omega)
    have p1 := hj 1 (by omega)
    have HT := hd (flat_take_succ Px.itemN i k hlt2)
    have hlen := flat_take_le Px.itemN i (k + 1)
    rw [HT.out] at hlen
    have hws := HL.out.lt
    simp only [Px.St.nodes, List.length_cons, List.length_append] at hc hlen
    generalize i[k] = cc at *
    have z1 : (0 : Int) ≤ (k : Int) := by omega
    simp only [Nat.add_zero] at p0 p1
    clear hown hcells hj
    cases cc with
    | none =>
     simp only [itemC, List.getElem?_cons_zero, List.getElem?_cons_succ] at p0 p1
     simp only [Px.itemN, List.length_cons, List.length_nil] at hlen
     go_wp2_with fail
     refine (yaa _ b _ (HL.out.alloc _) (by simp only [List.length_cons]; omega) 10 ⟨#[]⟩ 0 0).mono ?_
     rintro x w3 ⟨rfl, hls, hkp⟩
     have HL4 := hd hls
     have HKW := hd ((Kp.below (b := b) ((Below.refl wr.heap.size wr).alloc (nlr _) (.cells #[.bool true, .nilIface] 141))).trans hkp)
     have HK4 := hd (HK.out.trans HKW.out)
     have HB4 := hd (HKW.out.blk HB.out (by omega) (by decide))
     clear hls hkp HL HK HB HKW
     go_wp2_with fail
     go_roundw
     case rel => exact ⟨k + 1, by omega, by go_num, (by have := HL4.out; show Ls _ _ _; rw [HT.out]; simpa [Px.itemN] using this), HK4, HB4⟩
     case measure => simp [intOf]; omega
    | some e =>
     simp only [itemC, List.getElem?_cons_zero, List.getElem?_cons_succ] at p0 p1
     simp only [Px.itemN, Px.E.nodes_length] at hlen
     have HEX := hd (y_expr_any b e)
     obtain ⟨t2, y2, hy2⟩ := evi e
     rw [hy2] at HEX p1
     clear hy2
     go_wp2_with fail
     refine (HEX.out _ _ (HL.out.alloc _) (by simp only [List.length_cons]; omega)).mono ?_
     rintro x w3 ⟨rfl, hls, hkp⟩
     have HL4 := hd hls
     have HKW := hd ((Kp.below (b := b) ((Below.refl wr.heap.size wr).alloc (nlr _) (.cells #[.bool false, .iface t2 y2] 141))).trans hkp)
     have HK4 := hd (HK.out.trans HKW.out)
     have HB4 := hd (HKW.out.blk HB.out (by omega) (by decide))
     clear hls hkp HL HK HB HKW
     go_wp2_with fail
     go_roundw
     case rel => exact ⟨k + 1, by omega, by go_num, (by have := HL4.out; show Ls _ _ _; rw [HT.out]; simpa [Px.itemN] using this), HK4, HB4⟩
     case measure => simp [intOf]; omega
  have hkc : k = i.length := by omega
  have v2 : wr.cell? ⟨w.heap.size, 2, none⟩ = some (.nilIface) := HB.out.cell 2
  have HLF : Hid (Ls wr b (⟨9, t, 0, (i.length : Int) + on + r.length + 0⟩ :: i.flatMap Px.itemN)) := by
   have := HL.out
   rw [hkc, List.take_length] at this
   exact this
  clear HL
  simp only [Px.St.nodes, List.length_cons, List.length_append] at hc
  go_wp2_with fail
  refine (HWH.out wr _ HLF.out (by simp only [List.length_cons]; omega)).mono ?_
  rintro x w5 ⟨rfl, hls, hkp⟩
  have HL5 := hd hls
  have HK5 := hd (HK.out.trans hkp)
  have HB5 := hd (hkp.blk HB.out (by omega) (by decide))
  have v3 : w5.cell? ⟨w.heap.size, 3, none⟩ = some (.slice ao2 r.length cap2) := HB5.out.cell 3
  clear hls hkp HLF HK HB v2
  go_wp2_with fail
  go_loopw [50] (fun x wr => ∃ k : Nat, k ≤ r.length ∧ x = .int .i64 k ∧ Hid (Ls wr b (⟨9, t, 0, (i.length : Int) + on + r.length + 0⟩ :: (i.flatMap Px.itemN ++ Px.whereN o ++ (r.take k).flatMap Px.orderN))) ∧ Hid (Kp w wr b) ∧ Hid (Blk wr w.heap.size #[.slice ao i.length cap, .string ⟨t.toArray⟩, .nilIface, .slice ao2 r.length cap2, .bool false, .int .i64 0] 109)) (fun x _ => r.length - (intOf x).toNat)
  case atStart => exact ⟨0, by omega, rfl, (by show Ls _ _ _; have := HL5.out; simpa using this), HK5, HB5⟩
  case round =>
   clear HL5 HK5 HB5 v3
   obtain ⟨k, hk, rfl, HL, HK, HB⟩ := hrel
   by_cases hlt2 : k < r.length
   · have hown := HK.out.own HO2.out (by decide) (fun g hg => by have := HUB2.out g hg; omega)
     obtain ⟨ao3, cap3, hsl2, _, _, hcells⟩ := ls_cells (cl := orderC) (m := 2) (fun a => rfl) hown
     simp only [Value.slice.injEq, true_and] at hsl2
     obtain ⟨rfl, rfl⟩ := hsl2
     obtain ⟨g, rfl, hg, hj⟩ := hcells k hlt2
     have p0 := hj 0 (by omega)
     have p1 := hj 1 (by omega)
     have HT := hd (flat_take_succ Px.orderN r k hlt2)
     have hlen := flat_take_le Px.orderN r (k + 1)
     rw [HT.out] at hlen
     have hws := HL.out.lt
     simp only [List.length_append] at hlen
     generalize r[k] = cc at *
     obtain ⟨e, ds⟩ := cc
     simp only [orderC, Nat.add_zero, List.getElem?_cons_zero, List.getElem?_cons_succ] at p0 p1
     simp only [Px.orderN, List.length_cons, Px.E.nodes_length] at hlen
     have z1 : (0 : Int) ≤ (k : Int) := by omega
     have HEX := hd (y_expr_any b e)
     obtain ⟨t2, y2, hy2⟩ := evi e
     rw [hy2] at HEX p0
     have hds : ∃ dn : Int, (if ds = true then (1 : Int) else 0) = dn := ⟨_, rfl⟩
     obtain ⟨dn, hds⟩ := hds
     have HDS := hd hds
     have HBL := hd (Blk.new wr #[.iface t2 y2, .bool ds] 143)
     clear hown hcells hj hy2 hds
     go_wp2_with fail
     refine (y_one_any ds _).mono ?_
     rintro x w0 ⟨rfl, hw0⟩
     rw [HDS.out]
     have HL0 : Hid (Ls w0 b (⟨9, t, 0, (i.length : Int) + on + r.length + 0⟩ :: (i.flatMap Px.itemN ++ Px.whereN o ++ (r.take k).flatMap Px.orderN))) := by
      subst hw0
      exact HL.out.alloc _
     have HK0 : Hid (Kp wr w0 b) := by
      subst hw0
      exact Kp.below ((Below.refl wr.heap.size wr).alloc (nlr _) _)
     have HBL0 : Hid (Blk w0 wr.heap.size #[.iface t2 y2, .bool ds] 143) := by
      subst hw0
      exact HBL.out
     clear hw0 HBL
     go_wp2_with fail
     refine (yaa _ b _ HL0.out (by simp only [List.length_cons, List.length_append]; omega) 12 ⟨#[]⟩ dn 1).mono ?_
     rintro x w3 ⟨rfl, hls, hkp⟩
     have HL3 := hd hls
     have HK3 := hd (HK0.out.trans hkp)
     have HB3 := hd (hkp.blk HBL0.out (by omega) (by decide))
     have r0 : w3.cell? ⟨wr.heap.size, 0, none⟩ = some (.iface t2 y2) := HB3.out.cell 0
     clear hls hkp HBL0 HL0 HK0
     go_wp2_with fail
     refine (HEX.out w3 _ HL3.out (by simp only [List.length_cons, List.length_append, List.length_nil]; omega)).mono ?_
     rintro x w4 ⟨rfl, hls, hkp⟩
     have HL4 := hd hls
     have HKW := hd (HK3.out.trans hkp)
     have HK4 := hd (HK.out.trans HKW.out)
     have HB4 := hd (HKW.out.blk HB.out (by omega) (by decide))
     clear hls hkp HL HK HB HL3 HK3 HKW
     go_wp2_with fail
     go_roundw
     case rel => exact ⟨k + 1, by omega, by go_num, (by have := HL4.out; show Ls _ _ _; rw [HT.out]; simp only [Px.orderN]; rw [HDS.out]; simpa using this), HK4, HB4⟩
     case measure => simp [intOf]; omega
   have hkc : k = r.length := by omega
   have v4 : wr.cell? ⟨w.heap.size, 4, none⟩ = some (.bool false) := HB.out.cell 4
   have v5 : wr.cell? ⟨w.heap.size, 5, none⟩ = some (.int .i64 0) := HB.out.cell 5
   have HLF : Hid (Ls wr b (⟨9, t, 0, (i.length : Int) + on + r.length + 0⟩ :: (i.flatMap Px.itemN ++ Px.whereN o ++ r.flatMap Px.orderN))) := by
    have := HL.out
    rw [hkc, List.take_length] at this
    exact this
   clear HL
   go_wp2_with fail
   go_end0
   refine ⟨rfl, ?_, HK.out⟩
   have := HLF.out
   simp only [Px.St.nodes]
   rw [HON.out]
   simpa [Px.limN, Px.one?] using this
theorem sel_ns (b : Nat) (w : World) (t : Lx.Bs) (i : List (Option Px.E)) (o : Option Px.E) (r : List (Px.E × Bool)) (nl : Nat) (hvo : ev? o = .nilIface) (ao ao2 : Option Addr) (cap cap2 : Nat) (base : Nat) (h : Ls w b []) (hcap1 : i.length ≤ cap) (hcap2 : cap ≤ maxLen) (hcap3 : r.length ≤ cap2) (hcap4 : cap2 ≤ maxLen) (hu : w.ownsRow base 141 2 (.slice ao i.length cap) i.length (i.flatMap itemC)) (hub : ∀ g, Value.ownBlock (.slice ao i.length cap) = some g → g < b) (hu2 : w.ownsRow base 143 2 (.slice ao2 r.length cap2) r.length (r.flatMap orderC)) (hub2 : ∀ g, Value.ownBlock (.slice ao2 r.length cap2) = some g → g < b) (hc : (Px.St.select i t o r (some nl)).nodes.length ≤ 80000) (hil : i.length ≤ 3000) (hrl : r.length ≤ 3000) :
   Calls Tryz.prog 52 #[.pointer (some ⟨b, 0, none⟩), .agg #[.slice ao i.length cap, .string ⟨t.toArray⟩, .nilIface, .slice ao2 r.length cap2, .bool true, .int .i64 (nl : Int)]] w (LsOut w b (Px.St.select i t o r (some nl)).nodes) := by
 have hlt := h.lt
 have HO := hd hu
 have HO2 := hd hu2
 have HX := hd h
 have HUB := hd hub
 have HUB2 := hd hub2
 have HCN := hd (y_count_any o)
 have HWH := hd (y_where_any b o)
 rw [hvo] at HCN HWH
 have ho1 : Px.one? o ≤ 1 := by cases o <;> simp [Px.one?]
 have hon : ∃ on : Nat, Px.one? o = on := ⟨_, rfl⟩
 obtain ⟨on, hon⟩ := hon
 rw [hon] at HCN ho1
 have HON := hd hon
 have hw1 : IntKind.i64.wrap ((i.length : Int) + (on : Int)) = (i.length : Int) + (on : Int) := wrap_small _ (by omega) (by omega)
 have hw2 : IntKind.i64.wrap ((i.length : Int) + (on : Int) + (r.length : Int)) = (i.length : Int) + (on : Int) + (r.length : Int) := wrap_small _ (by omega) (by omega)
 have hw3 : IntKind.i64.wrap ((i.length : Int) + (on : Int) + (r.length : Int) + 1) = (i.length : Int) + (on : Int) + (r.length : Int) + 1 := wrap_small _ (by omega) (by omega)
 unfold maxLen at hcap2 hcap4
 clear h hu hub hu2 hub2 hvo hon
 have HBX := hd (Blk.new w #[.slice ao i.length cap, .string ⟨t.toArray⟩, .nilIface, .slice ao2 r.length cap2, .bool true, .int .i64 (nl : Int)] 109)
 go_enter Tryz.func52, Tryz.ntmps52
 go_wp2_with fail
 go_region_held3 (fun w' => w'.cell? ⟨w.heap.size, 0, none⟩ = some (.slice ao i.length cap) ∧ w'.cell? ⟨w.heap.size, 1, none⟩ = some (.string ⟨t.toArray⟩) ∧ w'.cell? ⟨w.heap.size, 2, none⟩ = some (.nilIface) ∧ w'.cell? ⟨w.heap.size, 3, none⟩ = some (.slice ao2 r.length cap2) ∧ w'.cell? ⟨w.heap.size, 4, none⟩ = some (.bool true)) (go_keep)
   (first
    | (go_at_call 49; refine (HCN.out _).mono ?_; rintro x w' ⟨rfl, rfl⟩)
    | (go_at_call 81; refine (y_one_any true _).mono ?_; rintro x w' ⟨rfl, rfl⟩)
    | (go_at_call 47
       refine (yaa _ b [] (HX.out.alloc _).drew (by simp) 9 ⟨t.toArray⟩ 0 _).mono ?_
       rintro x w1 ⟨rfl, hls, hkp⟩
       have HB1 := hd (hkp.blk HBX.out.drew (by omega) (by decide))
       have q0 := HB1.out.cell 0
       have q1 := HB1.out.cell 1
       have q2 := HB1.out.cell 2
       have q3 := HB1.out.cell 3
       have q4 := HB1.out.cell 4
       simp at q0 q1 q2 q3 q4))
 have HL1 := hd hls
 have HK1 := hd (((Kp.below (b := b) ((Below.refl w.heap.size w).alloc (nlr _) (.cells #[.slice ao i.length cap, .string ⟨t.toArray⟩, .nilIface, .slice ao2 r.length cap2, .bool true, .int .i64 (nl : Int)] 109))).trans (Kp.drew _ b)).trans hkp)
 clear hls hkp HBX q1 q2 q3 q4
 go_wp2_with fail
 go_loopw [30] (fun x wr => ∃ k : Nat, k ≤ i.length ∧ x = .int .i64 k ∧ Hid (Ls wr b (⟨9, t, 0, (i.length : Int) + on + r.length + 1⟩ :: (i.take k).flatMap Px.itemN)) ∧ Hid (Kp w wr b) ∧ Hid (Blk wr w.heap.size #[.slice ao i.length cap, .string ⟨t.toArray⟩, .nilIface, .slice ao2 r.length cap2, .bool true, .int .i64 (nl : Int)] 109)) (fun x _ => i.length - (intOf x).toNat)
 case atStart => exact ⟨0, by omega, rfl, (by show Ls _ _ _; have := HL1.out; simpa using this), HK1, HB1⟩
 case round =>
  clear HL1 HK1 HB1 q0
  obtain ⟨k, hk, rfl, HL, HK, HB⟩ := hrel
  by_cases hlt2 : k < i.length
  · have hown := HK.out.own HO.out (by decide) (fun g hg => by have := HUB.out g hg; omega)
    obtain ⟨ao3, cap3, hsl2, _, _, hcells⟩ := ls_cells (cl := itemC) (m := 2) (fun a => by cases a <;> rfl) hown
    simp only [Value.slice.injEq, true_and] at hsl2
    obtain ⟨rfl, rfl⟩ := hsl2
    obtain ⟨g, rfl, hg, hj⟩ := hcells k hlt2
    have p0 := hj 0 (by omega)
    have p1 := hj 1 (by omega)
    have HT := hd (flat_take_succ Px.itemN i k hlt2)
    have hlen := flat_take_le Px.itemN i (k + 1)
    rw [HT.out] at hlen
    have hws := HL.out.lt
    simp only [Px.St.nodes, List.length_cons, List.length_append] at hc hlen
    generalize i[k] = cc at *
    have z1 : (0 : Int) ≤ (k : Int) := by omega
    simp only [Nat.add_zero] at p0 p1
    clear hown hcells hj
    cases cc with
    | none =>
     simp only [itemC, List.getElem?_cons_zero, List.getElem?_cons_succ] at p0 p1
     simp only [Px.itemN, List.length_cons, List.length_nil] at hlen
     go_wp2_with fail
     refine (yaa _ b _ (HL.out.alloc _) (by simp only [List.length_cons]; omega) 10 ⟨#[]⟩ 0 0).mono ?_
     rintro x w3 ⟨rfl, hls, hkp⟩
     have HL4 := hd hls
     have HKW := hd ((Kp.below (b := b) ((Below.refl wr.heap.size wr).alloc (nlr _) (.cells #[.bool true, .nilIface] 141))).trans hkp)
     have HK4 := hd (HK.out.trans HKW.out)
     have HB4 := hd (HKW.out.blk HB.out (by omega) (by decide))
     clear hls hkp HL HK HB HKW
     go_wp2_with fail
     go_roundw
     case rel => exact ⟨k + 1, by omega, by go_num, (by have := HL4.out; show Ls _ _ _; rw [HT.out]; simpa [Px.itemN] using this), HK4, HB4⟩
     case measure => simp [intOf]; omega
    | some e =>
     simp only [itemC, List.getElem?_cons_zero, List.getElem?_cons_succ] at p0 p1
     simp only [Px.itemN, Px.E.nodes_length] at hlen
     have HEX := hd (y_expr_any b e)
     obtain ⟨t2, y2, hy2⟩ := evi e
     rw [hy2] at HEX p1
     clear hy2
     go_wp2_with fail
     refine (HEX.out _ _ (HL.out.alloc _) (by simp only [List.length_cons]; omega)).mono ?_
     rintro x w3 ⟨rfl, hls, hkp⟩
     have HL4 := hd hls
     have HKW := hd ((Kp.below (b := b) ((Below.refl wr.heap.size wr).alloc (nlr _) (.cells #[.bool false, .iface t2 y2] 141))).trans hkp)
     have HK4 := hd (HK.out.trans HKW.out)
     have HB4 := hd (HKW.out.blk HB.out (by omega) (by decide))
     clear hls hkp HL HK HB HKW
     go_wp2_with fail
     go_roundw
     case rel => exact ⟨k + 1, by omega, by go_num, (by have := HL4.out; show Ls _ _ _; rw [HT.out]; simpa [Px.itemN] using this), HK4, HB4⟩
     case measure => simp [intOf]; omega
  have hkc : k = i.length := by omega
  have v2 : wr.cell? ⟨w.heap.size, 2, none⟩ = some (.nilIface) := HB.out.cell 2
  have HLF : Hid (Ls wr b (⟨9, t, 0, (i.length : Int) + on + r.length + 1⟩ :: i.flatMap Px.itemN)) := by
   have := HL.out
   rw [hkc, List.take_length] at this
   exact this
  clear HL
  simp only [Px.St.nodes, List.length_cons, List.length_append] at hc
  go_wp2_with fail
  refine (HWH.out wr _ HLF.out (by simp only [List.length_cons]; omega)).mono ?_
  rintro x w5 ⟨rfl, hls, hkp⟩
  have HL5 := hd hls
  have HK5 := hd (HK.out.trans hkp)
  have HB5 := hd (hkp.blk HB.out (by omega) (by decide))
  have v3 : w5.cell? ⟨w.heap.size, 3, none⟩ = some (.slice ao2 r.length cap2) := HB5.out.cell 3
  clear hls hkp HLF HK HB v2
  go_wp2_with fail
  go_loopw [50] (fun x wr => ∃ k : Nat, k ≤ r.length ∧ x = .int .i64 k ∧ Hid (Ls wr b (⟨9, t, 0, (i.length : Int) + on + r.length + 1⟩ :: (i.flatMap Px.itemN ++ Px.whereN o ++ (r.take k).flatMap Px.orderN))) ∧ Hid (Kp w wr b) ∧ Hid (Blk wr w.heap.size #[.slice ao i.length cap, .string ⟨t.toArray⟩, .nilIface, .slice ao2 r.length cap2, .bool true, .int .i64 (nl : Int)] 109)) (fun x _ => r.length - (intOf x).toNat)
  case atStart => exact ⟨0, by omega, rfl, (by show Ls _ _ _; have := HL5.out; simpa using this), HK5, HB5⟩
  case round =>
   clear HL5 HK5 HB5 v3
   obtain ⟨k, hk, rfl, HL, HK, HB⟩ := hrel
   by_cases hlt2 : k < r.length
   · have hown := HK.out.own HO2.out (by decide) (fun g hg => by have := HUB2.out g hg; omega)
     obtain ⟨ao3, cap3, hsl2, _, _, hcells⟩ := ls_cells (cl := orderC) (m := 2) (fun a => rfl) hown
     simp only [Value.slice.injEq, true_and] at hsl2
     obtain ⟨rfl, rfl⟩ := hsl2
     obtain ⟨g, rfl, hg, hj⟩ := hcells k hlt2
     have p0 := hj 0 (by omega)
     have p1 := hj 1 (by omega)
     have HT := hd (flat_take_succ Px.orderN r k hlt2)
     have hlen := flat_take_le Px.orderN r (k + 1)
     rw [HT.out] at hlen
     have hws := HL.out.lt
     simp only [List.length_append] at hlen
     generalize r[k] = cc at *
     obtain ⟨e, ds⟩ := cc
     simp only [orderC, Nat.add_zero, List.getElem?_cons_zero, List.getElem?_cons_succ] at p0 p1
     simp only [Px.orderN, List.length_cons, Px.E.nodes_length] at hlen
     have z1 : (0 : Int) ≤ (k : Int) := by omega
     have HEX := hd (y_expr_any b e)
     obtain ⟨t2, y2, hy2⟩ := evi e
     rw [hy2] at HEX p0
     have hds : ∃ dn : Int, (if ds = true then (1 : Int) else 0) = dn := ⟨_, rfl⟩
     obtain ⟨dn, hds⟩ := hds
     have HDS := hd hds
     have HBL := hd (Blk.new wr #[.iface t2 y2, .bool ds] 143)
     clear hown hcells hj hy2 hds
     go_wp2_with fail
     refine (y_one_any ds _).mono ?_
     rintro x w0 ⟨rfl, hw0⟩
     rw [HDS.out]
     have HL0 : Hid (Ls w0 b (⟨9, t, 0, (i.length : Int) + on + r.length + 1⟩ :: (i.flatMap Px.itemN ++ Px.whereN o ++ (r.take k).flatMap Px.orderN))) := by
      subst hw0
      exact HL.out.alloc _
     have HK0 : Hid (Kp wr w0 b) := by
      subst hw0
      exact Kp.below ((Below.refl wr.heap.size wr).alloc (nlr _) _)
     have HBL0 : Hid (Blk w0 wr.heap.size #[.iface t2 y2, .bool ds] 143) := by
      subst hw0
      exact HBL.out
     clear hw0 HBL
     go_wp2_with fail
     refine (yaa _ b _ HL0.out (by simp only [List.length_cons, List.length_append]; omega) 12 ⟨#[]⟩ dn 1).mono ?_
     rintro x w3 ⟨rfl, hls, hkp⟩
     have HL3 := hd hls
     have HK3 := hd (HK0.out.trans hkp)
     have HB3 := hd (hkp.blk HBL0.out (by omega) (by decide))
     have r0 : w3.cell? ⟨wr.heap.size, 0, none⟩ = some (.iface t2 y2) := HB3.out.cell 0
     clear hls hkp HBL0 HL0 HK0
     go_wp2_with fail
     refine (HEX.out w3 _ HL3.out (by simp only [List.length_cons, List.length_append, List.length_nil]; omega)).mono ?_
     rintro x w4 ⟨rfl, hls, hkp⟩
     have HL4 := hd hls
     have HKW := hd (HK3.out.trans hkp)
     have HK4 := hd (HK.out.trans HKW.out)
     have HB4 := hd (HKW.out.blk HB.out (by omega) (by decide))
     clear hls hkp HL HK HB HL3 HK3 HKW
     go_wp2_with fail
     go_roundw
     case rel => exact ⟨k + 1, by omega, by go_num, (by have := HL4.out; show Ls _ _ _; rw [HT.out]; simp only [Px.orderN]; rw [HDS.out]; simpa using this), HK4, HB4⟩
     case measure => simp [intOf]; omega
   have hkc : k = r.length := by omega
   have v4 : wr.cell? ⟨w.heap.size, 4, none⟩ = some (.bool true) := HB.out.cell 4
   have v5 : wr.cell? ⟨w.heap.size, 5, none⟩ = some (.int .i64 (nl : Int)) := HB.out.cell 5
   have HLF : Hid (Ls wr b (⟨9, t, 0, (i.length : Int) + on + r.length + 1⟩ :: (i.flatMap Px.itemN ++ Px.whereN o ++ r.flatMap Px.orderN))) := by
    have := HL.out
    rw [hkc, List.take_length] at this
    exact this
   clear HL
   go_wp2_with fail
   refine (yaa _ b _ HLF.out (by simp only [List.length_cons, List.length_append]; omega) 13 ⟨#[]⟩ (nl : Int) 0).mono ?_
   rintro x w6 ⟨rfl, hls, hkp⟩
   have HL6 := hd hls
   have HK6 := hd (HK.out.trans hkp)
   clear hls hkp
   go_wp2_with fail
   go_end0
   refine ⟨rfl, ?_, HK6.out⟩
   have := HL6.out
   simp only [Px.St.nodes]
   rw [HON.out]
   simpa [Px.limN, Px.one?] using this
theorem sel_in (b : Nat) (w : World) (t : Lx.Bs) (i : List (Option Px.E)) (o : Option Px.E) (r : List (Px.E × Bool)) (et : Nat) (ex : Value) (hvo : ev? o = .iface et ex) (ao ao2 : Option Addr) (cap cap2 : Nat) (base : Nat) (h : Ls w b []) (hcap1 : i.length ≤ cap) (hcap2 : cap ≤ maxLen) (hcap3 : r.length ≤ cap2) (hcap4 : cap2 ≤ maxLen) (hu : w.ownsRow base 141 2 (.slice ao i.length cap) i.length (i.flatMap itemC)) (hub : ∀ g, Value.ownBlock (.slice ao i.length cap) = some g → g < b) (hu2 : w.ownsRow base 143 2 (.slice ao2 r.length cap2) r.length (r.flatMap orderC)) (hub2 : ∀ g, Value.ownBlock (.slice ao2 r.length cap2) = some g → g < b) (hc : (Px.St.select i t o r none).nodes.length ≤ 80000) (hil : i.length ≤ 3000) (hrl : r.length ≤ 3000) :
   Calls Tryz.prog 52 #[.pointer (some ⟨b, 0, none⟩), .agg #[.slice ao i.length cap, .string ⟨t.toArray⟩, .iface et ex, .slice ao2 r.length cap2, .bool false, .int .i64 0]] w (LsOut w b (Px.St.select i t o r none).nodes) := by
 have hlt := h.lt
 have HO := hd hu
 have HO2 := hd hu2
 have HX := hd h
 have HUB := hd hub
 have HUB2 := hd hub2
 have HCN := hd (y_count_any o)
 have HWH := hd (y_where_any b o)
 rw [hvo] at HCN HWH
 have ho1 : Px.one? o ≤ 1 := by cases o <;> simp [Px.one?]
 have hon : ∃ on : Nat, Px.one? o = on := ⟨_, rfl⟩
 obtain ⟨on, hon⟩ := hon
 rw [hon] at HCN ho1
 have HON := hd hon
 have hw1 : IntKind.i64.wrap ((i.length : Int) + (on : Int)) = (i.length : Int) + (on : Int) := wrap_small _ (by omega) (by omega)
 have hw2 : IntKind.i64.wrap ((i.length : Int) + (on : Int) + (r.length : Int)) = (i.length : Int) + (on : Int) + (r.length : Int) := wrap_small _ (by omega) (by omega)
 have hw3 : IntKind.i64.wrap ((i.length : Int) + (on : Int) + (r.length : Int) + 1) = (i.length : Int) + (on : Int) + (r.length : Int) + 1 := wrap_small _ (by omega) (by omega)
 unfold maxLen at hcap2 hcap4
 clear h hu hub hu2 hub2 hvo hon
 have HBX := hd (Blk.new w #[.slice ao i.length cap, .string ⟨t.toArray⟩, .iface et ex, .slice ao2 r.length cap2, .bool false, .int .i64 0] 109)
 go_enter Tryz.func52, Tryz.ntmps52
 go_wp2_with fail
 go_region_held3 (fun w' => w'.cell? ⟨w.heap.size, 0, none⟩ = some (.slice ao i.length cap) ∧ w'.cell? ⟨w.heap.size, 1, none⟩ = some (.string ⟨t.toArray⟩) ∧ w'.cell? ⟨w.heap.size, 2, none⟩ = some (.iface et ex) ∧ w'.cell? ⟨w.heap.size, 3, none⟩ = some (.slice ao2 r.length cap2) ∧ w'.cell? ⟨w.heap.size, 4, none⟩ = some (.bool false)) (go_keep)
   (first
    | (go_at_call 49; refine (HCN.out _).mono ?_; rintro x w' ⟨rfl, rfl⟩)
    | (go_at_call 81; refine (y_one_any false _).mono ?_; rintro x w' ⟨rfl, rfl⟩)
    | (go_at_call 47
       refine (yaa _ b [] (HX.out.alloc _).drew (by simp) 9 ⟨t.toArray⟩ 0 _).mono ?_
       rintro x w1 ⟨rfl, hls, hkp⟩
       have HB1 := hd (hkp.blk HBX.out.drew (by omega) (by decide))
       have q0 := HB1.out.cell 0
       have q1 := HB1.out.cell 1
       have q2 := HB1.out.cell 2
       have q3 := HB1.out.cell 3
       have q4 := HB1.out.cell 4
       simp at q0 q1 q2 q3 q4))
 have HL1 := hd hls
 have HK1 := hd (((Kp.below (b := b) ((Below.refl w.heap.size w).alloc (nlr _) (.cells #[.slice ao i.length cap, .string ⟨t.toArray⟩, .iface et ex, .slice ao2 r.length cap2, .bool false, .int .i64 0] 109))).trans (Kp.drew _ b)).trans hkp)
 clear hls hkp HBX q1 q2 q3 q4
 go_wp2_with fail
 go_loopw [30] (fun x wr => ∃ k : Nat, k ≤ i.length ∧ x = .int .i64 k ∧ Hid (Ls wr b (⟨9, t, 0, (i.length : Int) + on + r.length + 0⟩ :: (i.take k).flatMap Px.itemN)) ∧ Hid (Kp w wr b) ∧ Hid (Blk wr w.heap.size #[.slice ao i.length cap, .string ⟨t.toArray⟩, .iface et ex, .slice ao2 r.length cap2, .bool false, .int .i64 0] 109)) (fun x _ => i.length - (intOf x).toNat)
 case atStart => exact ⟨0, by omega, rfl, (by show Ls _ _ _; have := HL1.out; simpa using this), HK1, HB1⟩
 case round =>
  clear HL1 HK1 HB1 q0
  obtain ⟨k, hk, rfl, HL, HK, HB⟩ := hrel
  by_cases hlt2 : k < i.length
  · have hown := HK.out.own HO.out (by decide) (fun g hg => by have := HUB.out g hg; omega)
    obtain ⟨ao3, cap3, hsl2, _, _, hcells⟩ := ls_cells (cl := itemC) (m := 2) (fun a => by cases a <;> rfl) hown
    simp only [Value.slice.injEq, true_and] at hsl2
    obtain ⟨rfl, rfl⟩ := hsl2
    obtain ⟨g, rfl, hg, hj⟩ := hcells k hlt2
    have p0 := hj 0 (by omega)
    have p1 := hj 1 (by omega)
    have HT := hd (flat_take_succ Px.itemN i k hlt2)
    have hlen := flat_take_le Px.itemN i (k + 1)
    rw [HT.out] at hlen
    have hws := HL.out.lt
    simp only [Px.St.nodes, List.length_cons, List.length_append] at hc hlen
    generalize i[k] = cc at *
    have z1 : (0 : Int) ≤ (k : Int) := by omega
    simp only [Nat.add_zero] at p0 p1
    clear hown hcells hj
    cases cc with
    | none =>
     simp only [itemC, List.getElem?_cons_zero, List.getElem?_cons_succ] at p0 p1
     simp only [Px.itemN, List.length_cons, List.length_nil] at hlen
     go_wp2_with fail
     refine (yaa _ b _ (HL.out.alloc _) (by simp only [List.length_cons]; omega) 10 ⟨#[]⟩ 0 0).mono ?_
     rintro x w3 ⟨rfl, hls, hkp⟩
     have HL4 := hd hls
     have HKW := hd ((Kp.below (b := b) ((Below.refl wr.heap.size wr).alloc (nlr _) (.cells #[.bool true, .nilIface] 141))).trans hkp)
     have HK4 := hd (HK.out.trans HKW.out)
     have HB4 := hd (HKW.out.blk HB.out (by omega) (by decide))
     clear hls hkp HL HK HB HKW
     go_wp2_with fail
     go_roundw
     case rel => exact ⟨k + 1, by omega, by go_num, (by have := HL4.out; show Ls _ _ _; rw [HT.out]; simpa [Px.itemN] using this), HK4, HB4⟩
     case measure => simp [intOf]; omega
    | some e =>
     simp only [itemC, List.getElem?_cons_zero, List.getElem?_cons_succ] at p0 p1
     simp only [Px.itemN, Px.E.nodes_length] at hlen
     have HEX := hd (y_expr_any b e)
     obtain ⟨t2, y2, hy2⟩ := evi e
     rw [hy2] at HEX p1
     clear hy2
     go_wp2_with fail
     refine (HEX.out _ _ (HL.out.alloc _) (by simp only [List.length_cons]; omega)).mono ?_
     rintro x w3 ⟨rfl, hls, hkp⟩
     have HL4 := hd hls
     have HKW := hd ((Kp.below (b := b) ((Below.refl wr.heap.size wr).alloc (nlr _) (.cells #[.bool false, .iface t2 y2] 141))).trans hkp)
     have HK4 := hd (HK.out.trans HKW.out)
     have HB4 := hd (HKW.out.blk HB.out (by omega) (by decide))
     clear hls hkp HL HK HB HKW
     go_wp2_with fail
     go_roundw
     case rel => exact ⟨k + 1, by omega, by go_num, (by have := HL4.out; show Ls _ _ _; rw [HT.out]; simpa [Px.itemN] using this), HK4, HB4⟩
     case measure => simp [intOf]; omega
  have hkc : k = i.length := by omega
  have v2 : wr.cell? ⟨w.heap.size, 2, none⟩ = some (.iface et ex) := HB.out.cell 2
  have HLF : Hid (Ls wr b (⟨9, t, 0, (i.length : Int) + on + r.length + 0⟩ :: i.flatMap Px.itemN)) := by
   have := HL.out
   rw [hkc, List.take_length] at this
   exact this
  clear HL
  simp only [Px.St.nodes, List.length_cons, List.length_append] at hc
  go_wp2_with fail
  refine (HWH.out wr _ HLF.out (by simp only [List.length_cons]; omega)).mono ?_
  rintro x w5 ⟨rfl, hls, hkp⟩
  have HL5 := hd hls
  have HK5 := hd (HK.out.trans hkp)
  have HB5 := hd (hkp.blk HB.out (by omega) (by decide))
  have v3 : w5.cell? ⟨w.heap.size, 3, none⟩ = some (.slice ao2 r.length cap2) := HB5.out.cell 3
  clear hls hkp HLF HK HB v2
  go_wp2_with fail
  go_loopw [50] (fun x wr => ∃ k : Nat, k ≤ r.length ∧ x = .int .i64 k ∧ Hid (Ls wr b (⟨9, t, 0, (i.length : Int) + on + r.length + 0⟩ :: (i.flatMap Px.itemN ++ Px.whereN o ++ (r.take k).flatMap Px.orderN))) ∧ Hid (Kp w wr b) ∧ Hid (Blk wr w.heap.size #[.slice ao i.length cap, .string ⟨t.toArray⟩, .iface et ex, .slice ao2 r.length cap2, .bool false, .int .i64 0] 109)) (fun x _ => r.length - (intOf x).toNat)
  case atStart => exact ⟨0, by omega, rfl, (by show Ls _ _ _; have := HL5.out; simpa using this), HK5, HB5⟩
  case round =>
   clear HL5 HK5 HB5 v3
   obtain ⟨k, hk, rfl, HL, HK, HB⟩ := hrel
   by_cases hlt2 : k < r.length
   · have hown := HK.out.own HO2.out (by decide) (fun g hg => by have := HUB2.out g hg; omega)
     obtain ⟨ao3, cap3, hsl2, _, _, hcells⟩ := ls_cells (cl := orderC) (m := 2) (fun a => rfl) hown
     simp only [Value.slice.injEq, true_and] at hsl2
     obtain ⟨rfl, rfl⟩ := hsl2
     obtain ⟨g, rfl, hg, hj⟩ := hcells k hlt2
     have p0 := hj 0 (by omega)
     have p1 := hj 1 (by omega)
     have HT := hd (flat_take_succ Px.orderN r k hlt2)
     have hlen := flat_take_le Px.orderN r (k + 1)
     rw [HT.out] at hlen
     have hws := HL.out.lt
     simp only [List.length_append] at hlen
     generalize r[k] = cc at *
     obtain ⟨e, ds⟩ := cc
     simp only [orderC, Nat.add_zero, List.getElem?_cons_zero, List.getElem?_cons_succ] at p0 p1
     simp only [Px.orderN, List.length_cons, Px.E.nodes_length] at hlen
     have z1 : (0 : Int) ≤ (k : Int) := by omega
     have HEX := hd (y_expr_any b e)
     obtain ⟨t2, y2, hy2⟩ := evi e
     rw [hy2] at HEX p0
     have hds : ∃ dn : Int, (if ds = true then (1 : Int) else 0) = dn := ⟨_, rfl⟩
     obtain ⟨dn, hds⟩ := hds
     have HDS := hd hds
     have HBL := hd (Blk.new wr #[.iface t2 y2, .bool ds] 143)
     clear hown hcells hj hy2 hds
     go_wp2_with fail
     refine (y_one_any ds _).mono ?_
     rintro x w0 ⟨rfl, hw0⟩
     rw [HDS.out]
     have HL0 : Hid (Ls w0 b (⟨9, t, 0, (i.length : Int) + on + r.length + 0⟩ :: (i.flatMap Px.itemN ++ Px.whereN o ++ (r.take k).flatMap Px.orderN))) := by
      subst hw0
      exact HL.out.alloc _
     have HK0 : Hid (Kp wr w0 b) := by
      subst hw0
      exact Kp.below ((Below.refl wr.heap.size wr).alloc (nlr _) _)
     have HBL0 : Hid (Blk w0 wr.heap.size #[.iface t2 y2, .bool ds] 143) := by
      subst hw0
      exact HBL.out
     clear hw0 HBL
     go_wp2_with fail
     refine (yaa _ b _ HL0.out (by simp only [List.length_cons, List.length_append]; omega) 12 ⟨#[]⟩ dn 1).mono ?_
     rintro x w3 ⟨rfl, hls, hkp⟩
     have HL3 := hd hls
     have HK3 := hd (HK0.out.trans hkp)
     have HB3 := hd (hkp.blk HBL0.out (by omega) (by decide))
     have r0 : w3.cell? ⟨wr.heap.size, 0, none⟩ = some (.iface t2 y2) := HB3.out.cell 0
     clear hls hkp HBL0 HL0 HK0
     go_wp2_with fail
     refine (HEX.out w3 _ HL3.out (by simp only [List.length_cons, List.length_append, List.length_nil]; omega)).mono ?_
     rintro x w4 ⟨rfl, hls, hkp⟩
     have HL4 := hd hls
     have HKW := hd (HK3.out.trans hkp)
     have HK4 := hd (HK.out.trans HKW.out)
     have HB4 := hd (HKW.out.blk HB.out (by omega) (by decide))
     clear hls hkp HL HK HB HL3 HK3 HKW
     go_wp2_with fail
     go_roundw
     case rel => exact ⟨k + 1, by omega, by go_num, (by have := HL4.out; show Ls _ _ _; rw [HT.out]; simp only [Px.orderN]; rw [HDS.out]; simpa using this), HK4, HB4⟩
     case measure => simp [intOf]; omega
   have hkc : k = r.length := by omega
   have v4 : wr.cell? ⟨w.heap.size, 4, none⟩ = some (.bool false) := HB.out.cell 4
   have v5 : wr.cell? ⟨w.heap.size, 5, none⟩ = some (.int .i64 0) := HB.out.cell 5
   have HLF : Hid (Ls wr b (⟨9, t, 0, (i.length : Int) + on + r.length + 0⟩ :: (i.flatMap Px.itemN ++ Px.whereN o ++ r.flatMap Px.orderN))) := by
    have := HL.out
    rw [hkc, List.take_length] at this
    exact this
   clear HL
   go_wp2_with fail
   go_end0
   refine ⟨rfl, ?_, HK.out⟩
   have := HLF.out
   simp only [Px.St.nodes]
   rw [HON.out]
   simpa [Px.limN, Px.one?] using this
theorem sel_is (b : Nat) (w : World) (t : Lx.Bs) (i : List (Option Px.E)) (o : Option Px.E) (r : List (Px.E × Bool)) (nl : Nat) (et : Nat) (ex : Value) (hvo : ev? o = .iface et ex) (ao ao2 : Option Addr) (cap cap2 : Nat) (base : Nat) (h : Ls w b []) (hcap1 : i.length ≤ cap) (hcap2 : cap ≤ maxLen) (hcap3 : r.length ≤ cap2) (hcap4 : cap2 ≤ maxLen) (hu : w.ownsRow base 141 2 (.slice ao i.length cap) i.length (i.flatMap itemC)) (hub : ∀ g, Value.ownBlock (.slice ao i.length cap) = some g → g < b) (hu2 : w.ownsRow base 143 2 (.slice ao2 r.length cap2) r.length (r.flatMap orderC)) (hub2 : ∀ g, Value.ownBlock (.slice ao2 r.length cap2) = some g → g < b) (hc : (Px.St.select i t o r (some nl)).nodes.length ≤ 80000) (hil : i.length ≤ 3000) (hrl : r.length ≤ 3000) :
   Calls Tryz.prog 52 #[.pointer (some ⟨b, 0, none⟩), .agg #[.slice ao i.length cap, .string ⟨t.toArray⟩, .iface et ex, .slice ao2 r.length cap2, .bool true, .int .i64 (nl : Int)]] w (LsOut w b (Px.St.select i t o r (some nl)).nodes) := by
 have hlt := h.lt
 have HO := hd hu
 have HO2 := hd hu2
 have HX := hd h
 have HUB := hd hub
 have HUB2 := hd hub2
 have HCN := hd (y_count_any o)
 have HWH := hd (y_where_any b o)
 rw [hvo] at HCN HWH
 have ho1 : Px.one? o ≤ 1 := by cases o <;> simp [Px.one?]
 have hon : ∃ on : Nat, Px.one? o = on := ⟨_, rfl⟩
 obtain ⟨on, hon⟩ := hon
 rw [hon] at HCN ho1
 have HON := hd hon
 have hw1 : IntKind.i64.wrap ((i.length : Int) + (on : Int)) = (i.length : Int) + (on : Int) := wrap_small _ (by omega) (by omega)
 have hw2 : IntKind.i64.wrap ((i.length : Int) + (on : Int) + (r.length : Int)) = (i.length : Int) + (on : Int) + (r.length : Int) := wrap_small _ (by omega) (by omega)
 have hw3 : IntKind.i64.wrap ((i.length : Int) + (on : Int) + (r.length : Int) + 1) = (i.length : Int) + (on : Int) + (r.length : Int) + 1 := wrap_small _ (by omega) (by omega)
 unfold maxLen at hcap2 hcap4
 clear h hu hub hu2 hub2 hvo hon
 have HBX := hd (Blk.new w #[.slice ao i.length cap, .string ⟨t.toArray⟩, .iface et ex, .slice ao2 r.length cap2, .bool true, .int .i64 (nl : Int)] 109)
 go_enter Tryz.func52, Tryz.ntmps52
 go_wp2_with fail
 go_region_held3 (fun w' => w'.cell? ⟨w.heap.size, 0, none⟩ = some (.slice ao i.length cap) ∧ w'.cell? ⟨w.heap.size, 1, none⟩ = some (.string ⟨t.toArray⟩) ∧ w'.cell? ⟨w.heap.size, 2, none⟩ = some (.iface et ex) ∧ w'.cell? ⟨w.heap.size, 3, none⟩ = some (.slice ao2 r.length cap2) ∧ w'.cell? ⟨w.heap.size, 4, none⟩ = some (.bool true)) (go_keep)
   (first
    | (go_at_call 49; refine (HCN.out _).mono ?_; rintro x w' ⟨rfl, rfl⟩)
    | (go_at_call 81; refine (y_one_any true _).mono ?_; rintro x w' ⟨rfl, rfl⟩)
    | (go_at_call 47
       refine (yaa _ b [] (HX.out.alloc _).drew (by simp) 9 ⟨t.toArray⟩ 0 _).mono ?_
       rintro x w1 ⟨rfl, hls, hkp⟩
       have HB1 := hd (hkp.blk HBX.out.drew (by omega) (by decide))
       have q0 := HB1.out.cell 0
       have q1 := HB1.out.cell 1
       have q2 := HB1.out.cell 2
       have q3 := HB1.out.cell 3
       have q4 := HB1.out.cell 4
       simp at q0 q1 q2 q3 q4))
 have HL1 := hd hls
 have HK1 := hd (((Kp.below (b := b) ((Below.refl w.heap.size w).alloc (nlr _) (.cells #[.slice ao i.length cap, .string ⟨t.toArray⟩, .iface et ex, .slice ao2 r.length cap2, .bool true, .int .i64 (nl : Int)] 109))).trans (Kp.drew _ b)).trans hkp)
 clear hls hkp HBX q1 q2 q3 q4
 go_wp2_with fail
 go_loopw [30] (fun x wr => ∃ k : Nat, k ≤ i.length ∧ x = .int .i64 k ∧ Hid (Ls wr b (⟨9, t, 0, (i.length : Int) + on + r.length + 1⟩ :: (i.take k).flatMap Px.itemN)) ∧ Hid (Kp w wr b) ∧ Hid (Blk wr w.heap.size #[.slice ao i.length cap, .string ⟨t.toArray⟩, .iface et ex, .slice ao2 r.length cap2, .bool true, .int .i64 (nl : Int)] 109)) (fun x _ => i.length - (intOf x).toNat)
 case atStart => exact ⟨0, by omega, rfl, (by show Ls _ _ _; have := HL1.out; simpa using this), HK1, HB1⟩
 case round =>
  clear HL1 HK1 HB1 q0
  obtain ⟨k, hk, rfl, HL, HK, HB⟩ := hrel
  by_cases hlt2 : k < i.length
  · have hown := HK.out.own HO.out (by decide) (fun g hg => by have := HUB.out g hg; omega)
    obtain ⟨ao3, cap3, hsl2, _, _, hcells⟩ := ls_cells (cl := itemC) (m := 2) (fun a => by cases a <;> rfl) hown
    simp only [Value.slice.injEq, true_and] at hsl2
    obtain ⟨rfl, rfl⟩ := hsl2
    obtain ⟨g, rfl, hg, hj⟩ := hcells k hlt2
    have p0 := hj 0 (by omega)
    have p1 := hj 1 (by omega)
    have HT := hd (flat_take_succ Px.itemN i k hlt2)
    have hlen := flat_take_le Px.itemN i (k + 1)
    rw [HT.out] at hlen
    have hws := HL.out.lt
    simp only [Px.St.nodes, List.length_cons, List.length_append] at hc hlen
    generalize i[k] = cc at *
    have z1 : (0 : Int) ≤ (k : Int) := by omega
    simp only [Nat.add_zero] at p0 p1
    clear hown hcells hj
    cases cc with
    | none =>
     simp only [itemC, List.getElem?_cons_zero, List.getElem?_cons_succ] at p0 p1
     simp only [Px.itemN, List.length_cons, List.length_nil] at hlen
     go_wp2_with fail
     refine (yaa _ b _ (HL.out.alloc _) (by simp only [List.length_cons]; omega) 10 ⟨#[]⟩ 0 0).mono ?_
     rintro x w3 ⟨rfl, hls, hkp⟩
     have HL4 := hd hls
     have HKW := hd ((Kp.below (b := b) ((Below.refl wr.heap.size wr).alloc (nlr _) (.cells #[.bool true, .nilIface] 141))).trans hkp)
     have HK4 := hd (HK.out.trans HKW.out)
     have HB4 := hd (HKW.out.blk HB.out (by omega) (by decide))
     clear hls hkp HL HK HB HKW
     go_wp2_with fail
     go_roundw
     case rel => exact ⟨k + 1, by omega, by go_num, (by have := HL4.out; show Ls _ _ _; rw [HT.out]; simpa [Px.itemN] using this), HK4, HB4⟩
     case measure => simp [intOf]; omega
    | some e =>
     simp only [itemC, List.getElem?_cons_zero, List.getElem?_cons_succ] at p0 p1
     simp only [Px.itemN, Px.E.nodes_length] at hlen
     have HEX := hd (y_expr_any b e)
     obtain ⟨t2, y2, hy2⟩ := evi e
     rw [hy2] at HEX p1
     clear hy2
     go_wp2_with fail
     refine (HEX.out _ _ (HL.out.alloc _) (by simp only [List.length_cons]; omega)).mono ?_
     rintro x w3 ⟨rfl, hls, hkp⟩
     have HL4 := hd hls
     have HKW := hd ((Kp.below (b := b) ((Below.refl wr.heap.size wr).alloc (nlr _) (.cells #[.bool false, .iface t2 y2] 141))).trans hkp)
     have HK4 := hd (HK.out.trans HKW.out)
     have HB4 := hd (HKW.out.blk HB.out (by omega) (by decide))
     clear hls hkp HL HK HB HKW
     go_wp2_with fail
     go_roundw
     case rel => exact ⟨k + 1, by omega, by go_num, (by have := HL4.out; show Ls _ _ _; rw [HT.out]; simpa [Px.itemN] using this), HK4, HB4⟩
     case measure => simp [intOf]; omega
  have hkc : k = i.length := by omega
  have v2 : wr.cell? ⟨w.heap.size, 2, none⟩ = some (.iface et ex) := HB.out.cell 2
  have HLF : Hid (Ls wr b (⟨9, t, 0, (i.length : Int) + on + r.length + 1⟩ :: i.flatMap Px.itemN)) := by
   have := HL.out
   rw [hkc, List.take_length] at this
   exact this
  clear HL
  simp only [Px.St.nodes, List.length_cons, List.length_append] at hc
  go_wp2_with fail
  refine (HWH.out wr _ HLF.out (by simp only [List.length_cons]; omega)).mono ?_
  rintro x w5 ⟨rfl, hls, hkp⟩
  have HL5 := hd hls
  have HK5 := hd (HK.out.trans hkp)
  have HB5 := hd (hkp.blk HB.out (by omega) (by decide))
  have v3 : w5.cell? ⟨w.heap.size, 3, none⟩ = some (.slice ao2 r.length cap2) := HB5.out.cell 3
  clear hls hkp HLF HK HB v2
  go_wp2_with fail
  go_loopw [50] (fun x wr => ∃ k : Nat, k ≤ r.length ∧ x = .int .i64 k ∧ Hid (Ls wr b (⟨9, t, 0, (i.length : Int) + on + r.length + 1⟩ :: (i.flatMap Px.itemN ++ Px.whereN o ++ (r.take k).flatMap Px.orderN))) ∧ Hid (Kp w wr b) ∧ Hid (Blk wr w.heap.size #[.slice ao i.length cap, .string ⟨t.toArray⟩, .iface et ex, .slice ao2 r.length cap2, .bool true, .int .i64 (nl : Int)] 109)) (fun x _ => r.length - (intOf x).toNat)
  case atStart => exact ⟨0, by omega, rfl, (by show Ls _ _ _; have := HL5.out; simpa using this), HK5, HB5⟩
  case round =>
   clear HL5 HK5 HB5 v3
   obtain ⟨k, hk, rfl, HL, HK, HB⟩ := hrel
   by_cases hlt2 : k < r.length
   · have hown := HK.out.own HO2.out (by decide) (fun g hg => by have := HUB2.out g hg; omega)
     obtain ⟨ao3, cap3, hsl2, _, _, hcells⟩ := ls_cells (cl := orderC) (m := 2) (fun a => rfl) hown
     simp only [Value.slice.injEq, true_and] at hsl2
     obtain ⟨rfl, rfl⟩ := hsl2
     obtain ⟨g, rfl, hg, hj⟩ := hcells k hlt2
     have p0 := hj 0 (by omega)
     have p1 := hj 1 (by omega)
     have HT := hd (flat_take_succ Px.orderN r k hlt2)
     have hlen := flat_take_le Px.orderN r (k + 1)
     rw [HT.out] at hlen
     have hws := HL.out.lt
     simp only [List.length_append] at hlen
     generalize r[k] = cc at *
     obtain ⟨e, ds⟩ := cc
     simp only [orderC, Nat.add_zero, List.getElem?_cons_zero, List.getElem?_cons_succ] at p0 p1
     simp only [Px.orderN, List.length_cons, Px.E.nodes_length] at hlen
     have z1 : (0 : Int) ≤ (k : Int) := by omega
     have HEX := hd (y_expr_any b e)
     obtain ⟨t2, y2, hy2⟩ := evi e
     rw [hy2] at HEX p0
     have hds : ∃ dn : Int, (if ds = true then (1 : Int) else 0) = dn := ⟨_, rfl⟩
     obtain ⟨dn, hds⟩ := hds
     have HDS := hd hds
     have HBL := hd (Blk.new wr #[.iface t2 y2, .bool ds] 143)
     clear hown hcells hj hy2 hds
     go_wp2_with fail
     refine (y_one_any ds _).mono ?_
     rintro x w0 ⟨rfl, hw0⟩
     rw [HDS.out]
     have HL0 : Hid (Ls w0 b (⟨9, t, 0, (i.length : Int) + on + r.length + 1⟩ :: (i.flatMap Px.itemN ++ Px.whereN o ++ (r.take k).flatMap Px.orderN))) := by
      subst hw0
      exact HL.out.alloc _
     have HK0 : Hid (Kp wr w0 b) := by
      subst hw0
      exact Kp.below ((Below.refl wr.heap.size wr).alloc (nlr _) _)
     have HBL0 : Hid (Blk w0 wr.heap.size #[.iface t2 y2, .bool ds] 143) := by
      subst hw0
      exact HBL.out
     clear hw0 HBL
     go_wp2_with fail
     refine (yaa _ b _ HL0.out (by simp only [List.length_cons, List.length_append]; omega) 12 ⟨#[]⟩ dn 1).mono ?_
     rintro x w3 ⟨rfl, hls, hkp⟩
     have HL3 := hd hls
     have HK3 := hd (HK0.out.trans hkp)
     have HB3 := hd (hkp.blk HBL0.out (by omega) (by decide))
     have r0 : w3.cell? ⟨wr.heap.size, 0, none⟩ = some (.iface t2 y2) := HB3.out.cell 0
     clear hls hkp HBL0 HL0 HK0
     go_wp2_with fail
     refine (HEX.out w3 _ HL3.out (by simp only [List.length_cons, List.length_append, List.length_nil]; omega)).mono ?_
     rintro x w4 ⟨rfl, hls, hkp⟩
     have HL4 := hd hls
     have HKW := hd (HK3.out.trans hkp)
     have HK4 := hd (HK.out.trans HKW.out)
     have HB4 := hd (HKW.out.blk HB.out (by omega) (by decide))
     clear hls hkp HL HK HB HL3 HK3 HKW
     go_wp2_with fail
     go_roundw
     case rel => exact ⟨k + 1, by omega, by go_num, (by have := HL4.out; show Ls _ _ _; rw [HT.out]; simp only [Px.orderN]; rw [HDS.out]; simpa using this), HK4, HB4⟩
     case measure => simp [intOf]; omega
   have hkc : k = r.length := by omega
   have v4 : wr.cell? ⟨w.heap.size, 4, none⟩ = some (.bool true) := HB.out.cell 4
   have v5 : wr.cell? ⟨w.heap.size, 5, none⟩ = some (.int .i64 (nl : Int)) := HB.out.cell 5
   have HLF : Hid (Ls wr b (⟨9, t, 0, (i.length : Int) + on + r.length + 1⟩ :: (i.flatMap Px.itemN ++ Px.whereN o ++ r.flatMap Px.orderN))) := by
    have := HL.out
    rw [hkc, List.take_length] at this
    exact this
   clear HL
   go_wp2_with fail
   refine (yaa _ b _ HLF.out (by simp only [List.length_cons, List.length_append]; omega) 13 ⟨#[]⟩ (nl : Int) 0).mono ?_
   rintro x w6 ⟨rfl, hls, hkp⟩
   have HL6 := hd hls
   have HK6 := hd (HK.out.trans hkp)
   clear hls hkp
   go_wp2_with fail
   go_end0
   refine ⟨rfl, ?_, HK6.out⟩
   have := HL6.out
   simp only [Px.St.nodes]
   rw [HON.out]
   simpa [Px.limN, Px.one?] using this
theorem st_isCreate (a0 a1 : Value) (w : World) : (Instr.typeAssert (.iface 87 (.agg #[a0, a1])) 59 87 true).run Tryz.prog w = .ok (.tuple #[.agg #[a0, a1], .bool true]) w := by kernel_rfl
theorem st_isDrop (a0 : Value) (w : World) : (Instr.typeAssert (.iface 90 (.agg #[a0])) 59 90 true).run Tryz.prog w = .ok (.tuple #[.agg #[a0], .bool true]) w := by kernel_rfl
theorem st_isInsert (a0 a1 : Value) (w : World) : (Instr.typeAssert (.iface 94 (.agg #[a0, a1])) 59 94 true).run Tryz.prog w = .ok (.tuple #[.agg #[a0, a1], .bool true]) w := by kernel_rfl
theorem st_isDelete (a0 a1 : Value) (w : World) : (Instr.typeAssert (.iface 99 (.agg #[a0, a1])) 59 99 true).run Tryz.prog w = .ok (.tuple #[.agg #[a0, a1], .bool true]) w := by kernel_rfl
theorem st_isUpdate (a0 a1 a2 : Value) (w : World) : (Instr.typeAssert (.iface 104 (.agg #[a0, a1, a2])) 59 104 true).run Tryz.prog w = .ok (.tuple #[.agg #[a0, a1, a2], .bool true]) w := by kernel_rfl
theorem st_isSelect (a0 a1 a2 a3 a4 a5 : Value) (w : World) : (Instr.typeAssert (.iface 109 (.agg #[a0, a1, a2, a3, a4, a5])) 59 109 true).run Tryz.prog w = .ok (.tuple #[.agg #[a0, a1, a2, a3, a4, a5], .bool true]) w := by kernel_rfl
theorem st_noCreate (t : Nat) (v : Value) (ht : t = 90 ∨ t = 94 ∨ t = 99 ∨ t = 104 ∨ t = 109) (w : World) : (Instr.typeAssert (.iface t v) 59 87 true).run Tryz.prog w = .ok (.tuple #[.agg #[.string ⟨#[]⟩, .slice none 0 0], .bool false]) w := by
 rcases ht with rfl | rfl | rfl | rfl | rfl
 all_goals (show Sem.run _ _ _ = _; kernel_rfl)
theorem st_noDrop (t : Nat) (v : Value) (ht : t = 94 ∨ t = 99 ∨ t = 104 ∨ t = 109) (w : World) : (Instr.typeAssert (.iface t v) 59 90 true).run Tryz.prog w = .ok (.tuple #[.agg #[.string ⟨#[]⟩], .bool false]) w := by
 rcases ht with rfl | rfl | rfl | rfl
 all_goals (show Sem.run _ _ _ = _; kernel_rfl)
theorem st_noInsert (t : Nat) (v : Value) (ht : t = 99 ∨ t = 104 ∨ t = 109) (w : World) : (Instr.typeAssert (.iface t v) 59 94 true).run Tryz.prog w = .ok (.tuple #[.agg #[.string ⟨#[]⟩, .slice none 0 0], .bool false]) w := by
 rcases ht with rfl | rfl | rfl
 all_goals (show Sem.run _ _ _ = _; kernel_rfl)
theorem st_noDelete (t : Nat) (v : Value) (ht : t = 104 ∨ t = 109) (w : World) : (Instr.typeAssert (.iface t v) 59 99 true).run Tryz.prog w = .ok (.tuple #[.agg #[.string ⟨#[]⟩, .nilIface], .bool false]) w := by
 rcases ht with rfl | rfl
 all_goals (show Sem.run _ _ _ = _; kernel_rfl)
theorem st_noUpdate (t : Nat) (v : Value) (ht : t = 109) (w : World) : (Instr.typeAssert (.iface t v) 59 104 true).run Tryz.prog w = .ok (.tuple #[.agg #[.string ⟨#[]⟩, .slice none 0 0, .nilIface], .bool false]) w := by
 subst ht
 all_goals (show Sem.run _ _ _ = _; kernel_rfl)
def NdOut (w : World) (l : List Px.Nd) (x : Ending) (w' : World) : Prop := Below w.heap.size w w' ∧ ∃ u, x = .returned u ∧ w'.ownsRow w.heap.size 43 4 u l.length (ndsV l)
theorem Kp.to {w W w' : World} (hb : Below w.heap.size w W) (h : Kp W w' w.heap.size) : Below w.heap.size w w' :=
 ⟨h.os.trans hb.os, h.tape.trans hb.tape, h.output.trans hb.output, Nat.le_trans hb.size h.size, fun k hk => by
  have h1 := hb.block k hk
  obtain ⟨o, ho⟩ : ∃ o, w.heap[k]? = some o := ⟨_, Array.getElem?_eq_getElem hk⟩
  rw [ho] at h1 ⊢
  exact h.block k o h1 (.inl hk)⟩
theorem nodes_create (w : World) (B : Nat) (t : Lx.Bs) (c : List (Lx.Bs × Nat)) (ao : Option Addr) (m cp : Nat) (hu : lsV B 135 2 colC c (.slice ao m cp) w) (hc : c.length ≤ 3000) :
   Calls Tryz.prog 31 #[.iface 87 (.agg #[.string ⟨t.toArray⟩, .slice ao m cp])] w (NdOut w (Px.St.create t c).nodes) := by
 have yes := st_isCreate (.string ⟨t.toArray⟩) (.slice ao m cp)
 have HL0 : Hid (Ls (w.alloc (.cells #[.slice none 0 0] 84)) w.heap.size []) := ⟨.slice none 0 0, Blk.new _ _ _, World.ownsRow_nil _ _ _ _⟩
 have HB0 : Hid (Below w.heap.size w ((w.alloc (.cells #[.slice none 0 0] 84)).alloc (.cells #[.string ⟨t.toArray⟩, .slice ao m cp] 87))) := ((Below.refl _ _).alloc (nlr _) _).alloc (by simp) _
 have HLL := hd (HL0.out.alloc (.cells #[.string ⟨t.toArray⟩, .slice ao m cp] 87))
 have HBL : Hid (Blk ((w.alloc (.cells #[.slice none 0 0] 84)).alloc (.cells #[.string ⟨t.toArray⟩, .slice ao m cp] 87)) (w.heap.size + 1) #[.string ⟨t.toArray⟩, .slice ao m cp] 87) := by
  have := Blk.new (w.alloc (.cells #[.slice none 0 0] 84)) #[.string ⟨t.toArray⟩, .slice ao m cp] 87
  rwa [World.size_alloc] at this
 have HU := hd hu
 clear hu
 go_enter Tryz.func31, Tryz.ntmps31
 go_wp2_with fail
 refine (y_create_any w.heap.size _ t c (.slice ao m cp) (B + 1) HLL.out (oal (oal HU.out _) _) (fun g hg => (HU.out.lt g hg).2) hc).mono ?_
 rintro x w2 ⟨rfl, hls, hkp⟩
 have HBF := hd (Kp.to HB0.out hkp)
 obtain ⟨nv, hnb, hno⟩ := hls.rows
 obtain ⟨ao9, n9, cp9, rfl⟩ := osl hno
 have HOF := hd hno
 have cc : w2.cell? ⟨w.heap.size, 0, none⟩ = some (.slice ao9 n9 cp9) := hnb.cell 0
 clear hls hkp hnb hno HB0 HLL HBL HL0
 go_wp2_with fail
 go_ret
 refine ⟨HBF.out, _, rfl, ?_⟩
 exact ownBase HOF.out (by omega)
theorem nodes_drop (w : World) (t : Lx.Bs) :
   Calls Tryz.prog 31 #[.iface 90 (.agg #[.string ⟨t.toArray⟩])] w (NdOut w (Px.St.drop t).nodes) := by
 have no0 := st_noCreate 90 (.agg #[.string ⟨t.toArray⟩]) (.inl rfl)
 have yes := st_isDrop (.string ⟨t.toArray⟩)
 have HL0 : Hid (Ls (w.alloc (.cells #[.slice none 0 0] 84)) w.heap.size []) := ⟨.slice none 0 0, Blk.new _ _ _, World.ownsRow_nil _ _ _ _⟩
 have HB0 : Hid (Below w.heap.size w ((w.alloc (.cells #[.slice none 0 0] 84)).alloc (.cells #[.string ⟨t.toArray⟩] 90))) := ((Below.refl _ _).alloc (nlr _) _).alloc (by simp) _
 have HLL := hd (HL0.out.alloc (.cells #[.string ⟨t.toArray⟩] 90))
 have HBL : Hid (Blk ((w.alloc (.cells #[.slice none 0 0] 84)).alloc (.cells #[.string ⟨t.toArray⟩] 90)) (w.heap.size + 1) #[.string ⟨t.toArray⟩] 90) := by
  have := Blk.new (w.alloc (.cells #[.slice none 0 0] 84)) #[.string ⟨t.toArray⟩] 90
  rwa [World.size_alloc] at this
 go_enter Tryz.func31, Tryz.ntmps31
 go_wp2_with fail
 refine (yaa _ w.heap.size [] HLL.out (by simp) 3 ⟨t.toArray⟩ 0 0).mono ?_
 rintro x w2 ⟨rfl, hls, hkp⟩
 have HBF := hd (Kp.to HB0.out hkp)
 obtain ⟨nv, hnb, hno⟩ := hls.rows
 obtain ⟨ao9, n9, cp9, rfl⟩ := osl hno
 have HOF := hd hno
 have cc : w2.cell? ⟨w.heap.size, 0, none⟩ = some (.slice ao9 n9 cp9) := hnb.cell 0
 clear hls hkp hnb hno HB0 HLL HBL HL0
 go_wp2_with fail
 go_ret
 refine ⟨HBF.out, _, rfl, ?_⟩
 exact ownBase HOF.out (by omega)
theorem nodes_insert (w : World) (B : Nat) (t : Lx.Bs) (r : List (List Px.E)) (ao : Option Addr) (m cp : Nat) (hu : rowsV B r (.slice ao m cp) w) (hc : (Px.St.insert t r).nodes.length ≤ 80000) (hl : r.length ≤ 3000) :
   Calls Tryz.prog 31 #[.iface 94 (.agg #[.string ⟨t.toArray⟩, .slice ao m cp])] w (NdOut w (Px.St.insert t r).nodes) := by
 have no0 := st_noCreate 94 (.agg #[.string ⟨t.toArray⟩, .slice ao m cp]) (.inr (.inl rfl))
 have no1 := st_noDrop 94 (.agg #[.string ⟨t.toArray⟩, .slice ao m cp]) (.inl rfl)
 have yes := st_isInsert (.string ⟨t.toArray⟩) (.slice ao m cp)
 have HL0 : Hid (Ls (w.alloc (.cells #[.slice none 0 0] 84)) w.heap.size []) := ⟨.slice none 0 0, Blk.new _ _ _, World.ownsRow_nil _ _ _ _⟩
 have HB0 : Hid (Below w.heap.size w ((w.alloc (.cells #[.slice none 0 0] 84)).alloc (.cells #[.string ⟨t.toArray⟩, .slice ao m cp] 94))) := ((Below.refl _ _).alloc (nlr _) _).alloc (by simp) _
 have HLL := hd (HL0.out.alloc (.cells #[.string ⟨t.toArray⟩, .slice ao m cp] 94))
 have HBL : Hid (Blk ((w.alloc (.cells #[.slice none 0 0] 84)).alloc (.cells #[.string ⟨t.toArray⟩, .slice ao m cp] 94)) (w.heap.size + 1) #[.string ⟨t.toArray⟩, .slice ao m cp] 94) := by
  have := Blk.new (w.alloc (.cells #[.slice none 0 0] 84)) #[.string ⟨t.toArray⟩, .slice ao m cp] 94
  rwa [World.size_alloc] at this
 obtain ⟨vs, h1, h2⟩ := hu
 have H1 := hd h1
 have H2 := hd h2
 have H3 : Hid (∀ v ∈ vs, ∀ g, v.ownBlock = some g → g < w.heap.size) := by
  intro v hv g hg
  obtain ⟨k, hk, rfl⟩ := List.getElem_of_mem hv
  have hkl : k < r.length := by have := h2.length; omega
  obtain ⟨v', hv', ho⟩ := h2.at k hkl
  rw [List.getElem?_eq_getElem hk] at hv'
  cases hv'
  exact (ho.lt g hg).2
 clear h1 h2
 go_enter Tryz.func31, Tryz.ntmps31
 go_wp2_with fail
 refine (y_insert_any w.heap.size _ t r (.slice ao m cp) vs (B + 1) HLL.out (oal (oal H1.out _) _) (H2.out.map fun r v hr => oal (oal hr _) _) (fun g hg => (H1.out.lt g hg).2) H3.out hc hl).mono ?_
 rintro x w2 ⟨rfl, hls, hkp⟩
 have HBF := hd (Kp.to HB0.out hkp)
 obtain ⟨nv, hnb, hno⟩ := hls.rows
 obtain ⟨ao9, n9, cp9, rfl⟩ := osl hno
 have HOF := hd hno
 have cc : w2.cell? ⟨w.heap.size, 0, none⟩ = some (.slice ao9 n9 cp9) := hnb.cell 0
 clear hls hkp hnb hno HB0 HLL HBL HL0
 go_wp2_with fail
 go_ret
 refine ⟨HBF.out, _, rfl, ?_⟩
 exact ownBase HOF.out (by omega)
theorem nodes_delete_n (w : World) (t : Lx.Bs) (o : Option Px.E) (hvo : ev? o = .nilIface) (hc : (Px.St.delete t o).nodes.length ≤ 80000) :
   Calls Tryz.prog 31 #[.iface 99 (.agg #[.string ⟨t.toArray⟩, .nilIface])] w (NdOut w (Px.St.delete t o).nodes) := by
 have no0 := st_noCreate 99 (.agg #[.string ⟨t.toArray⟩, .nilIface]) (.inr (.inr (.inl rfl)))
 have no1 := st_noDrop 99 (.agg #[.string ⟨t.toArray⟩, .nilIface]) (.inr (.inl rfl))
 have no2 := st_noInsert 99 (.agg #[.string ⟨t.toArray⟩, .nilIface]) (.inl rfl)
 have yes := st_isDelete (.string ⟨t.toArray⟩) (.nilIface)
 have HL0 : Hid (Ls (w.alloc (.cells #[.slice none 0 0] 84)) w.heap.size []) := ⟨.slice none 0 0, Blk.new _ _ _, World.ownsRow_nil _ _ _ _⟩
 have HB0 : Hid (Below w.heap.size w ((w.alloc (.cells #[.slice none 0 0] 84)).alloc (.cells #[.string ⟨t.toArray⟩, .nilIface] 99))) := ((Below.refl _ _).alloc (nlr _) _).alloc (by simp) _
 have HLL := hd (HL0.out.alloc (.cells #[.string ⟨t.toArray⟩, .nilIface] 99))
 have HBL : Hid (Blk ((w.alloc (.cells #[.slice none 0 0] 84)).alloc (.cells #[.string ⟨t.toArray⟩, .nilIface] 99)) (w.heap.size + 1) #[.string ⟨t.toArray⟩, .nilIface] 99) := by
  have := Blk.new (w.alloc (.cells #[.slice none 0 0] 84)) #[.string ⟨t.toArray⟩, .nilIface] 99
  rwa [World.size_alloc] at this
 have HCN := hd (y_count_any o)
 have HWH := hd (y_where_any w.heap.size o)
 rw [hvo] at HCN HWH
 simp only [Px.St.nodes, List.length_cons] at hc
 clear hvo
 go_enter Tryz.func31, Tryz.ntmps31
 go_wp2_with fail
 go_region_held3 (fun w' => w'.cell? ⟨w.heap.size + 1, 0, none⟩ = some (.string ⟨t.toArray⟩) ∧ w'.cell? ⟨w.heap.size + 1, 1, none⟩ = some (.nilIface)) (go_keep)
   (first
    | (go_at_call 49; refine (HCN.out _).mono ?_; rintro x w' ⟨rfl, rfl⟩)
    | (go_at_call 47
       refine (yaa _ w.heap.size [] HLL.out.drew (by simp) 6 ⟨t.toArray⟩ 0 _).mono ?_
       rintro x w1 ⟨rfl, hls, hkp⟩
       have HB1 := hd (hkp.blk HBL.out.drew (by omega) (by decide))
       have q0 := HB1.out.cell 0
       have q1 := HB1.out.cell 1
       simp at q0 q1))
 have HL1 := hd hls
 have HK1 := hd ((Kp.drew _ w.heap.size).trans hkp)
 clear hls hkp q0 HLL HBL
 go_wp2_with fail
 refine (HWH.out w1 _ HL1.out (by simp; omega)).mono ?_
 rintro x w2 ⟨rfl, hls, hkp⟩
 have HBF := hd (Kp.to HB0.out (HK1.out.trans hkp))
 obtain ⟨nv, hnb, hno⟩ := hls.rows
 obtain ⟨ao9, n9, cp9, rfl⟩ := osl hno
 have HOF := hd hno
 have cc : w2.cell? ⟨w.heap.size, 0, none⟩ = some (.slice ao9 n9 cp9) := hnb.cell 0
 clear hls hkp hnb hno HB0 HL0 HL1 HK1
 go_wp2_with fail
 go_ret
 refine ⟨HBF.out, _, rfl, ?_⟩
 have := ownBase HOF.out (base' := w.heap.size) (by omega)
 exact this
theorem nodes_update_n (w : World) (B : Nat) (t : Lx.Bs) (s : List (Lx.Bs × Px.E)) (o : Option Px.E) (ao : Option Addr) (m cp : Nat) (hvo : ev? o = .nilIface) (hu : lsV B 139 2 setC s (.slice ao m cp) w) (hc : (Px.St.update t s o).nodes.length ≤ 80000) (hl : s.length ≤ 3000) :
   Calls Tryz.prog 31 #[.iface 104 (.agg #[.string ⟨t.toArray⟩, .slice ao m cp, .nilIface])] w (NdOut w (Px.St.update t s o).nodes) := by
 have no0 := st_noCreate 104 (.agg #[.string ⟨t.toArray⟩, .slice ao m cp, .nilIface]) (.inr (.inr (.inr (.inl rfl))))
 have no1 := st_noDrop 104 (.agg #[.string ⟨t.toArray⟩, .slice ao m cp, .nilIface]) (.inr (.inr (.inl rfl)))
 have no2 := st_noInsert 104 (.agg #[.string ⟨t.toArray⟩, .slice ao m cp, .nilIface]) (.inr (.inl rfl))
 have no3 := st_noDelete 104 (.agg #[.string ⟨t.toArray⟩, .slice ao m cp, .nilIface]) (.inl rfl)
 have yes := st_isUpdate (.string ⟨t.toArray⟩) (.slice ao m cp) (.nilIface)
 have HL0 : Hid (Ls (w.alloc (.cells #[.slice none 0 0] 84)) w.heap.size []) := ⟨.slice none 0 0, Blk.new _ _ _, World.ownsRow_nil _ _ _ _⟩
 have HB0 : Hid (Below w.heap.size w ((w.alloc (.cells #[.slice none 0 0] 84)).alloc (.cells #[.string ⟨t.toArray⟩, .slice ao m cp, .nilIface] 104))) := ((Below.refl _ _).alloc (nlr _) _).alloc (by simp) _
 have HLL := hd (HL0.out.alloc (.cells #[.string ⟨t.toArray⟩, .slice ao m cp, .nilIface] 104))
 have HBL : Hid (Blk ((w.alloc (.cells #[.slice none 0 0] 84)).alloc (.cells #[.string ⟨t.toArray⟩, .slice ao m cp, .nilIface] 104)) (w.heap.size + 1) #[.string ⟨t.toArray⟩, .slice ao m cp, .nilIface] 104) := by
  have := Blk.new (w.alloc (.cells #[.slice none 0 0] 84)) #[.string ⟨t.toArray⟩, .slice ao m cp, .nilIface] 104
  rwa [World.size_alloc] at this
 have HU := hd hu
 have HUP := hd (y_update_any w.heap.size ((w.alloc (.cells #[.slice none 0 0] 84)).alloc (.cells #[.string ⟨t.toArray⟩, .slice ao m cp, .nilIface] 104)) t s o (.slice ao m cp) (B + 1) HLL.out (oal (oal hu _) _) (fun g hg => (hu.lt g hg).2) hc hl)
 rw [hvo] at HUP
 clear hu hvo
 go_enter Tryz.func31, Tryz.ntmps31
 go_wp2_with fail
 refine HUP.out.mono ?_
 rintro x w2 ⟨rfl, hls, hkp⟩
 have HBF := hd (Kp.to HB0.out hkp)
 obtain ⟨nv, hnb, hno⟩ := hls.rows
 obtain ⟨ao9, n9, cp9, rfl⟩ := osl hno
 have HOF := hd hno
 have cc : w2.cell? ⟨w.heap.size, 0, none⟩ = some (.slice ao9 n9 cp9) := hnb.cell 0
 clear hls hkp hnb hno HB0 HLL HBL HL0
 go_wp2_with fail
 go_ret
 refine ⟨HBF.out, _, rfl, ?_⟩
 exact ownBase HOF.out (by omega)
theorem nodes_select_nn (w : World) (B : Nat) (t : Lx.Bs) (i : List (Option Px.E)) (o : Option Px.E) (r : List (Px.E × Bool)) (ao ao2 : Option Addr) (cp cp2 : Nat) (hvo : ev? o = .nilIface) (hu : lsV B 141 2 itemC i (.slice ao i.length cp) w) (hu2 : lsV B 143 2 orderC r (.slice ao2 r.length cp2) w) (h1 : i.length ≤ cp) (h2 : cp ≤ maxLen) (h3 : r.length ≤ cp2) (h4 : cp2 ≤ maxLen) (hc : (Px.St.select i t o r none).nodes.length ≤ 80000) (hl1 : i.length ≤ 3000) (hl2 : r.length ≤ 3000) :
   Calls Tryz.prog 31 #[.iface 109 (.agg #[.slice ao i.length cp, .string ⟨t.toArray⟩, .nilIface, .slice ao2 r.length cp2, .bool false, .int .i64 0])] w (NdOut w (Px.St.select i t o r none).nodes) := by
 have no0 := st_noCreate 109 (.agg #[.slice ao i.length cp, .string ⟨t.toArray⟩, .nilIface, .slice ao2 r.length cp2, .bool false, .int .i64 0]) (.inr (.inr (.inr (.inr rfl))))
 have no1 := st_noDrop 109 (.agg #[.slice ao i.length cp, .string ⟨t.toArray⟩, .nilIface, .slice ao2 r.length cp2, .bool false, .int .i64 0]) (.inr (.inr (.inr rfl)))
 have no2 := st_noInsert 109 (.agg #[.slice ao i.length cp, .string ⟨t.toArray⟩, .nilIface, .slice ao2 r.length cp2, .bool false, .int .i64 0]) (.inr (.inr rfl))
 have no3 := st_noDelete 109 (.agg #[.slice ao i.length cp, .string ⟨t.toArray⟩, .nilIface, .slice ao2 r.length cp2, .bool false, .int .i64 0]) (.inr rfl)
 have no4 := st_noUpdate 109 (.agg #[.slice ao i.length cp, .string ⟨t.toArray⟩, .nilIface, .slice ao2 r.length cp2, .bool false, .int .i64 0]) (rfl)
 have yes := st_isSelect (.slice ao i.length cp) (.string ⟨t.toArray⟩) (.nilIface) (.slice ao2 r.length cp2) (.bool false) (.int .i64 0)
 have HL0 : Hid (Ls (w.alloc (.cells #[.slice none 0 0] 84)) w.heap.size []) := ⟨.slice none 0 0, Blk.new _ _ _, World.ownsRow_nil _ _ _ _⟩
 have HB0 : Hid (Below w.heap.size w ((w.alloc (.cells #[.slice none 0 0] 84)).alloc (.cells #[.slice ao i.length cp, .string ⟨t.toArray⟩, .nilIface, .slice ao2 r.length cp2, .bool false, .int .i64 0] 109))) := ((Below.refl _ _).alloc (nlr _) _).alloc (by simp) _
 have HLL := hd (HL0.out.alloc (.cells #[.slice ao i.length cp, .string ⟨t.toArray⟩, .nilIface, .slice ao2 r.length cp2, .bool false, .int .i64 0] 109))
 have HBL : Hid (Blk ((w.alloc (.cells #[.slice none 0 0] 84)).alloc (.cells #[.slice ao i.length cp, .string ⟨t.toArray⟩, .nilIface, .slice ao2 r.length cp2, .bool false, .int .i64 0] 109)) (w.heap.size + 1) #[.slice ao i.length cp, .string ⟨t.toArray⟩, .nilIface, .slice ao2 r.length cp2, .bool false, .int .i64 0] 109) := by
  have := Blk.new (w.alloc (.cells #[.slice none 0 0] 84)) #[.slice ao i.length cp, .string ⟨t.toArray⟩, .nilIface, .slice ao2 r.length cp2, .bool false, .int .i64 0] 109
  rwa [World.size_alloc] at this
 have HUP := hd (sel_nn w.heap.size ((w.alloc (.cells #[.slice none 0 0] 84)).alloc (.cells #[.slice ao i.length cp, .string ⟨t.toArray⟩, .nilIface, .slice ao2 r.length cp2, .bool false, .int .i64 0] 109)) t i o r hvo ao ao2 cp cp2 (B + 1) HLL.out h1 h2 h3 h4 (oal (oal hu _) _) (fun g hg => (hu.lt g hg).2) (oal (oal hu2 _) _) (fun g hg => (hu2.lt g hg).2) hc hl1 hl2)
 clear hu hu2 hvo h2 h4
 go_enter Tryz.func31, Tryz.ntmps31
 go_wp2_with fail
 refine HUP.out.mono ?_
 rintro x w2 ⟨rfl, hls, hkp⟩
 have HBF := hd (Kp.to HB0.out hkp)
 obtain ⟨nv, hnb, hno⟩ := hls.rows
 obtain ⟨ao9, n9, cp9, rfl⟩ := osl hno
 have HOF := hd hno
 have cc : w2.cell? ⟨w.heap.size, 0, none⟩ = some (.slice ao9 n9 cp9) := hnb.cell 0
 clear hls hkp hnb hno HB0 HLL HBL HL0
 go_wp2_with fail
 go_ret
 refine ⟨HBF.out, _, rfl, ?_⟩
 exact ownBase HOF.out (by omega)
theorem nodes_select_ns (w : World) (B : Nat) (t : Lx.Bs) (i : List (Option Px.E)) (o : Option Px.E) (r : List (Px.E × Bool)) (nl : Nat) (ao ao2 : Option Addr) (cp cp2 : Nat) (hvo : ev? o = .nilIface) (hu : lsV B 141 2 itemC i (.slice ao i.length cp) w) (hu2 : lsV B 143 2 orderC r (.slice ao2 r.length cp2) w) (h1 : i.length ≤ cp) (h2 : cp ≤ maxLen) (h3 : r.length ≤ cp2) (h4 : cp2 ≤ maxLen) (hc : (Px.St.select i t o r (some nl)).nodes.length ≤ 80000) (hl1 : i.length ≤ 3000) (hl2 : r.length ≤ 3000) :
   Calls Tryz.prog 31 #[.iface 109 (.agg #[.slice ao i.length cp, .string ⟨t.toArray⟩, .nilIface, .slice ao2 r.length cp2, .bool true, .int .i64 (nl : Int)])] w (NdOut w (Px.St.select i t o r (some nl)).nodes) := by
 have no0 := st_noCreate 109 (.agg #[.slice ao i.length cp, .string ⟨t.toArray⟩, .nilIface, .slice ao2 r.length cp2, .bool true, .int .i64 (nl : Int)]) (.inr (.inr (.inr (.inr rfl))))
 have no1 := st_noDrop 109 (.agg #[.slice ao i.length cp, .string ⟨t.toArray⟩, .nilIface, .slice ao2 r.length cp2, .bool true, .int .i64 (nl : Int)]) (.inr (.inr (.inr rfl)))
 have no2 := st_noInsert 109 (.agg #[.slice ao i.length cp, .string ⟨t.toArray⟩, .nilIface, .slice ao2 r.length cp2, .bool true, .int .i64 (nl : Int)]) (.inr (.inr rfl))
 have no3 := st_noDelete 109 (.agg #[.slice ao i.length cp, .string ⟨t.toArray⟩, .nilIface, .slice ao2 r.length cp2, .bool true, .int .i64 (nl : Int)]) (.inr rfl)
 have no4 := st_noUpdate 109 (.agg #[.slice ao i.length cp, .string ⟨t.toArray⟩, .nilIface, .slice ao2 r.length cp2, .bool true, .int .i64 (nl : Int)]) (rfl)
 have yes := st_isSelect (.slice ao i.length cp) (.string ⟨t.toArray⟩) (.nilIface) (.slice ao2 r.length cp2) (.bool true) (.int .i64 (nl : Int))
 have HL0 : Hid (Ls (w.alloc (.cells #[.slice none 0 0] 84)) w.heap.size []) := ⟨.slice none 0 0, Blk.new _ _ _, World.ownsRow_nil _ _ _ _⟩
 have HB0 : Hid (Below w.heap.size w ((w.alloc (.cells #[.slice none 0 0] 84)).alloc (.cells #[.slice ao i.length cp, .string ⟨t.toArray⟩, .nilIface, .slice ao2 r.length cp2, .bool true, .int .i64 (nl : Int)] 109))) := ((Below.refl _ _).alloc (nlr _) _).alloc (by simp) _
 have HLL := hd (HL0.out.alloc (.cells #[.slice ao i.length cp, .string ⟨t.toArray⟩, .nilIface, .slice ao2 r.length cp2, .bool true, .int .i64 (nl : Int)] 109))
 have HBL : Hid (Blk ((w.alloc (.cells #[.slice none 0 0] 84)).alloc (.cells #[.slice ao i.length cp, .string ⟨t.toArray⟩, .nilIface, .slice ao2 r.length cp2, .bool true, .int .i64 (nl : Int)] 109)) (w.heap.size + 1) #[.slice ao i.length cp, .string ⟨t.toArray⟩, .nilIface, .slice ao2 r.length cp2, .bool true, .int .i64 (nl : Int)] 109) := by
  have := Blk.new (w.alloc (.cells #[.slice none 0 0] 84)) #[.slice ao i.length cp, .string ⟨t.toArray⟩, .nilIface, .slice ao2 r.length cp2, .bool true, .int .i64 (nl : Int)] 109
  rwa [World.size_alloc] at this
 have HUP := hd (sel_ns w.heap.size ((w.alloc (.cells #[.slice none 0 0] 84)).alloc (.cells #[.slice ao i.length cp, .string ⟨t.toArray⟩, .nilIface, .slice ao2 r.length cp2, .bool true, .int .i64 (nl : Int)] 109)) t i o r nl hvo ao ao2 cp cp2 (B + 1) HLL.out h1 h2 h3 h4 (oal (oal hu _) _) (fun g hg => (hu.lt g hg).2) (oal (oal hu2 _) _) (fun g hg => (hu2.lt g hg).2) hc hl1 hl2)
 clear hu hu2 hvo h2 h4
 go_enter Tryz.func31, Tryz.ntmps31
 go_wp2_with fail
 refine HUP.out.mono ?_
 rintro x w2 ⟨rfl, hls, hkp⟩
 have HBF := hd (Kp.to HB0.out hkp)
 obtain ⟨nv, hnb, hno⟩ := hls.rows
 obtain ⟨ao9, n9, cp9, rfl⟩ := osl hno
 have HOF := hd hno
 have cc : w2.cell? ⟨w.heap.size, 0, none⟩ = some (.slice ao9 n9 cp9) := hnb.cell 0
 clear hls hkp hnb hno HB0 HLL HBL HL0
 go_wp2_with fail
 go_ret
 refine ⟨HBF.out, _, rfl, ?_⟩
 exact ownBase HOF.out (by omega)
theorem nodes_delete_i (w : World) (t : Lx.Bs) (o : Option Px.E) (et : Nat) (ex : Value) (hvo : ev? o = .iface et ex) (hc : (Px.St.delete t o).nodes.length ≤ 80000) :
   Calls Tryz.prog 31 #[.iface 99 (.agg #[.string ⟨t.toArray⟩, .iface et ex])] w (NdOut w (Px.St.delete t o).nodes) := by
 have no0 := st_noCreate 99 (.agg #[.string ⟨t.toArray⟩, .iface et ex]) (.inr (.inr (.inl rfl)))
 have no1 := st_noDrop 99 (.agg #[.string ⟨t.toArray⟩, .iface et ex]) (.inr (.inl rfl))
 have no2 := st_noInsert 99 (.agg #[.string ⟨t.toArray⟩, .iface et ex]) (.inl rfl)
 have yes := st_isDelete (.string ⟨t.toArray⟩) (.iface et ex)
 have HL0 : Hid (Ls (w.alloc (.cells #[.slice none 0 0] 84)) w.heap.size []) := ⟨.slice none 0 0, Blk.new _ _ _, World.ownsRow_nil _ _ _ _⟩
 have HB0 : Hid (Below w.heap.size w ((w.alloc (.cells #[.slice none 0 0] 84)).alloc (.cells #[.string ⟨t.toArray⟩, .iface et ex] 99))) := ((Below.refl _ _).alloc (nlr _) _).alloc (by simp) _
 have HLL := hd (HL0.out.alloc (.cells #[.string ⟨t.toArray⟩, .iface et ex] 99))
 have HBL : Hid (Blk ((w.alloc (.cells #[.slice none 0 0] 84)).alloc (.cells #[.string ⟨t.toArray⟩, .iface et ex] 99)) (w.heap.size + 1) #[.string ⟨t.toArray⟩, .iface et ex] 99) := by
  have := Blk.new (w.alloc (.cells #[.slice none 0 0] 84)) #[.string ⟨t.toArray⟩, .iface et ex] 99
  rwa [World.size_alloc] at this
 have HCN := hd (y_count_any o)
 have HWH := hd (y_where_any w.heap.size o)
 rw [hvo] at HCN HWH
 simp only [Px.St.nodes, List.length_cons] at hc
 clear hvo
 go_enter Tryz.func31, Tryz.ntmps31
 go_wp2_with fail
 go_region_held3 (fun w' => w'.cell? ⟨w.heap.size + 1, 0, none⟩ = some (.string ⟨t.toArray⟩) ∧ w'.cell? ⟨w.heap.size + 1, 1, none⟩ = some (.iface et ex)) (go_keep)
   (first
    | (go_at_call 49; refine (HCN.out _).mono ?_; rintro x w' ⟨rfl, rfl⟩)
    | (go_at_call 47
       refine (yaa _ w.heap.size [] HLL.out.drew (by simp) 6 ⟨t.toArray⟩ 0 _).mono ?_
       rintro x w1 ⟨rfl, hls, hkp⟩
       have HB1 := hd (hkp.blk HBL.out.drew (by omega) (by decide))
       have q0 := HB1.out.cell 0
       have q1 := HB1.out.cell 1
       simp at q0 q1))
 have HL1 := hd hls
 have HK1 := hd ((Kp.drew _ w.heap.size).trans hkp)
 clear hls hkp q0 HLL HBL
 go_wp2_with fail
 refine (HWH.out w1 _ HL1.out (by simp; omega)).mono ?_
 rintro x w2 ⟨rfl, hls, hkp⟩
 have HBF := hd (Kp.to HB0.out (HK1.out.trans hkp))
 obtain ⟨nv, hnb, hno⟩ := hls.rows
 obtain ⟨ao9, n9, cp9, rfl⟩ := osl hno
 have HOF := hd hno
 have cc : w2.cell? ⟨w.heap.size, 0, none⟩ = some (.slice ao9 n9 cp9) := hnb.cell 0
 clear hls hkp hnb hno HB0 HL0 HL1 HK1
 go_wp2_with fail
 go_ret
 refine ⟨HBF.out, _, rfl, ?_⟩
 have := ownBase HOF.out (base' := w.heap.size) (by omega)
 exact this
theorem nodes_update_i (w : World) (B : Nat) (t : Lx.Bs) (s : List (Lx.Bs × Px.E)) (o : Option Px.E) (ao : Option Addr) (m cp : Nat) (et : Nat) (ex : Value) (hvo : ev? o = .iface et ex) (hu : lsV B 139 2 setC s (.slice ao m cp) w) (hc : (Px.St.update t s o).nodes.length ≤ 80000) (hl : s.length ≤ 3000) :
   Calls Tryz.prog 31 #[.iface 104 (.agg #[.string ⟨t.toArray⟩, .slice ao m cp, .iface et ex])] w (NdOut w (Px.St.update t s o).nodes) := by
 have no0 := st_noCreate 104 (.agg #[.string ⟨t.toArray⟩, .slice ao m cp, .iface et ex]) (.inr (.inr (.inr (.inl rfl))))
 have no1 := st_noDrop 104 (.agg #[.string ⟨t.toArray⟩, .slice ao m cp, .iface et ex]) (.inr (.inr (.inl rfl)))
 have no2 := st_noInsert 104 (.agg #[.string ⟨t.toArray⟩, .slice ao m cp, .iface et ex]) (.inr (.inl rfl))
 have no3 := st_noDelete 104 (.agg #[.string ⟨t.toArray⟩, .slice ao m cp, .iface et ex]) (.inl rfl)
 have yes := st_isUpdate (.string ⟨t.toArray⟩) (.slice ao m cp) (.iface et ex)
 have HL0 : Hid (Ls (w.alloc (.cells #[.slice none 0 0] 84)) w.heap.size []) := ⟨.slice none 0 0, Blk.new _ _ _, World.ownsRow_nil _ _ _ _⟩
 have HB0 : Hid (Below w.heap.size w ((w.alloc (.cells #[.slice none 0 0] 84)).alloc (.cells #[.string ⟨t.toArray⟩, .slice ao m cp, .iface et ex] 104))) := ((Below.refl _ _).alloc (nlr _) _).alloc (by simp) _
 have HLL := hd (HL0.out.alloc (.cells #[.string ⟨t.toArray⟩, .slice ao m cp, .iface et ex] 104))
 have HBL : Hid (Blk ((w.alloc (.cells #[.slice none 0 0] 84)).alloc (.cells #[.string ⟨t.toArray⟩, .slice ao m cp, .iface et ex] 104)) (w.heap.size + 1) #[.string ⟨t.toArray⟩, .slice ao m cp, .iface et ex] 104) := by
  have := Blk.new (w.alloc (.cells #[.slice none 0 0] 84)) #[.string ⟨t.toArray⟩, .slice ao m cp, .iface et ex] 104
  rwa [World.size_alloc] at this
 have HU := hd hu
 have HUP := hd (y_update_any w.heap.size ((w.alloc (.cells #[.slice none 0 0] 84)).alloc (.cells #[.string ⟨t.toArray⟩, .slice ao m cp, .iface et ex] 104)) t s o (.slice ao m cp) (B + 1) HLL.out (oal (oal hu _) _) (fun g hg => (hu.lt g hg).2) hc hl)
 rw [hvo] at HUP
 clear hu hvo
 go_enter Tryz.func31, Tryz.ntmps31
 go_wp2_with fail
 refine HUP.out.mono ?_
 rintro x w2 ⟨rfl, hls, hkp⟩
 have HBF := hd (Kp.to HB0.out hkp)
 obtain ⟨nv, hnb, hno⟩ := hls.rows
 obtain ⟨ao9, n9, cp9, rfl⟩ := osl hno
 have HOF := hd hno
 have cc : w2.cell? ⟨w.heap.size, 0, none⟩ = some (.slice ao9 n9 cp9) := hnb.cell 0
 clear hls hkp hnb hno HB0 HLL HBL HL0
 go_wp2_with fail
 go_ret
 refine ⟨HBF.out, _, rfl, ?_⟩
 exact ownBase HOF.out (by omega)
theorem nodes_select_in (w : World) (B : Nat) (t : Lx.Bs) (i : List (Option Px.E)) (o : Option Px.E) (r : List (Px.E × Bool)) (ao ao2 : Option Addr) (cp cp2 : Nat) (et : Nat) (ex : Value) (hvo : ev? o = .iface et ex) (hu : lsV B 141 2 itemC i (.slice ao i.length cp) w) (hu2 : lsV B 143 2 orderC r (.slice ao2 r.length cp2) w) (h1 : i.length ≤ cp) (h2 : cp ≤ maxLen) (h3 : r.length ≤ cp2) (h4 : cp2 ≤ maxLen) (hc : (Px.St.select i t o r none).nodes.length ≤ 80000) (hl1 : i.length ≤ 3000) (hl2 : r.length ≤ 3000) :
   Calls Tryz.prog 31 #[.iface 109 (.agg #[.slice ao i.length cp, .string ⟨t.toArray⟩, .iface et ex, .slice ao2 r.length cp2, .bool false, .int .i64 0])] w (NdOut w (Px.St.select i t o r none).nodes) := by
 have no0 := st_noCreate 109 (.agg #[.slice ao i.length cp, .string ⟨t.toArray⟩, .iface et ex, .slice ao2 r.length cp2, .bool false, .int .i64 0]) (.inr (.inr (.inr (.inr rfl))))
 have no1 := st_noDrop 109 (.agg #[.slice ao i.length cp, .string ⟨t.toArray⟩, .iface et ex, .slice ao2 r.length cp2, .bool false, .int .i64 0]) (.inr (.inr (.inr rfl)))
 have no2 := st_noInsert 109 (.agg #[.slice ao i.length cp, .string ⟨t.toArray⟩, .iface et ex, .slice ao2 r.length cp2, .bool false, .int .i64 0]) (.inr (.inr rfl))
 have no3 := st_noDelete 109 (.agg #[.slice ao i.length cp, .string ⟨t.toArray⟩, .iface et ex, .slice ao2 r.length cp2, .bool false, .int .i64 0]) (.inr rfl)
 have no4 := st_noUpdate 109 (.agg #[.slice ao i.length cp, .string ⟨t.toArray⟩, .iface et ex, .slice ao2 r.length cp2, .bool false, .int .i64 0]) (rfl)
 have yes := st_isSelect (.slice ao i.length cp) (.string ⟨t.toArray⟩) (.iface et ex) (.slice ao2 r.length cp2) (.bool false) (.int .i64 0)
 have HL0 : Hid (Ls (w.alloc (.cells #[.slice none 0 0] 84)) w.heap.size []) := ⟨.slice none 0 0, Blk.new _ _ _, World.ownsRow_nil _ _ _ _⟩
 have HB0 : Hid (Below w.heap.size w ((w.alloc (.cells #[.slice none 0 0] 84)).alloc (.cells #[.slice ao i.length cp, .string ⟨t.toArray⟩, .iface et ex, .slice ao2 r.length cp2, .bool false, .int .i64 0] 109))) := ((Below.refl _ _).alloc (nlr _) _).alloc (by simp) _
 have HLL := hd (HL0.out.alloc (.cells #[.slice ao i.length cp, .string ⟨t.toArray⟩, .iface et ex, .slice ao2 r.length cp2, .bool false, .int .i64 0] 109))
 have HBL : Hid (Blk ((w.alloc (.cells #[.slice none 0 0] 84)).alloc (.cells #[.slice ao i.length cp, .string ⟨t.toArray⟩, .iface et ex, .slice ao2 r.length cp2, .bool false, .int .i64 0] 109)) (w.heap.size + 1) #[.slice ao i.length cp, .string ⟨t.toArray⟩, .iface et ex, .slice ao2 r.length cp2, .bool false, .int .i64 0] 109) := by
  have := Blk.new (w.alloc (.cells #[.slice none 0 0] 84)) #[.slice ao i.length cp, .string ⟨t.toArray⟩, .iface et ex, .slice ao2 r.length cp2, .bool false, .int .i64 0] 109
  rwa [World.size_alloc] at this
 have HUP := hd (sel_in w.heap.size ((w.alloc (.cells #[.slice none 0 0] 84)).alloc (.cells #[.slice ao i.length cp, .string ⟨t.toArray⟩, .iface et ex, .slice ao2 r.length cp2, .bool false, .int .i64 0] 109)) t i o r et ex hvo ao ao2 cp cp2 (B + 1) HLL.out h1 h2 h3 h4 (oal (oal hu _) _) (fun g hg => (hu.lt g hg).2) (oal (oal hu2 _) _) (fun g hg => (hu2.lt g hg).2) hc hl1 hl2)
 clear hu hu2 hvo h2 h4
 go_enter Tryz.func31, Tryz.ntmps31
 go_wp2_with fail
 refine HUP.out.mono ?_
 rintro x w2 ⟨rfl, hls, hkp⟩
 have HBF := hd (Kp.to HB0.out hkp)
 obtain ⟨nv, hnb, hno⟩ := hls.rows
 obtain ⟨ao9, n9, cp9, rfl⟩ := osl hno
 have HOF := hd hno
 have cc : w2.cell? ⟨w.heap.size, 0, none⟩ = some (.slice ao9 n9 cp9) := hnb.cell 0
 clear hls hkp hnb hno HB0 HLL HBL HL0
 go_wp2_with fail
 go_ret
 refine ⟨HBF.out, _, rfl, ?_⟩
 exact ownBase HOF.out (by omega)
theorem nodes_select_is (w : World) (B : Nat) (t : Lx.Bs) (i : List (Option Px.E)) (o : Option Px.E) (r : List (Px.E × Bool)) (nl : Nat) (ao ao2 : Option Addr) (cp cp2 : Nat) (et : Nat) (ex : Value) (hvo : ev? o = .iface et ex) (hu : lsV B 141 2 itemC i (.slice ao i.length cp) w) (hu2 : lsV B 143 2 orderC r (.slice ao2 r.length cp2) w) (h1 : i.length ≤ cp) (h2 : cp ≤ maxLen) (h3 : r.length ≤ cp2) (h4 : cp2 ≤ maxLen) (hc : (Px.St.select i t o r (some nl)).nodes.length ≤ 80000) (hl1 : i.length ≤ 3000) (hl2 : r.length ≤ 3000) :
   Calls Tryz.prog 31 #[.iface 109 (.agg #[.slice ao i.length cp, .string ⟨t.toArray⟩, .iface et ex, .slice ao2 r.length cp2, .bool true, .int .i64 (nl : Int)])] w (NdOut w (Px.St.select i t o r (some nl)).nodes) := by
 have no0 := st_noCreate 109 (.agg #[.slice ao i.length cp, .string ⟨t.toArray⟩, .iface et ex, .slice ao2 r.length cp2, .bool true, .int .i64 (nl : Int)]) (.inr (.inr (.inr (.inr rfl))))
 have no1 := st_noDrop 109 (.agg #[.slice ao i.length cp, .string ⟨t.toArray⟩, .iface et ex, .slice ao2 r.length cp2, .bool true, .int .i64 (nl : Int)]) (.inr (.inr (.inr rfl)))
 have no2 := st_noInsert 109 (.agg #[.slice ao i.length cp, .string ⟨t.toArray⟩, .iface et ex, .slice ao2 r.length cp2, .bool true, .int .i64 (nl : Int)]) (.inr (.inr rfl))
 have no3 := st_noDelete 109 (.agg #[.slice ao i.length cp, .string ⟨t.toArray⟩, .iface et ex, .slice ao2 r.length cp2, .bool true, .int .i64 (nl : Int)]) (.inr rfl)
 have no4 := st_noUpdate 109 (.agg #[.slice ao i.length cp, .string ⟨t.toArray⟩, .iface et ex, .slice ao2 r.length cp2, .bool true, .int .i64 (nl : Int)]) (rfl)
 have yes := st_isSelect (.slice ao i.length cp) (.string ⟨t.toArray⟩) (.iface et ex) (.slice ao2 r.length cp2) (.bool true) (.int .i64 (nl : Int))
 have HL0 : Hid (Ls (w.alloc (.cells #[.slice none 0 0] 84)) w.heap.size []) := ⟨.slice none 0 0, Blk.new _ _ _, World.ownsRow_nil _ _ _ _⟩
 have HB0 : Hid (Below w.heap.size w ((w.alloc (.cells #[.slice none 0 0] 84)).alloc (.cells #[.slice ao i.length cp, .string ⟨t.toArray⟩, .iface et ex, .slice ao2 r.length cp2, .bool true, .int .i64 (nl : Int)] 109))) := ((Below.refl _ _).alloc (nlr _) _).alloc (by simp) _
 have HLL := hd (HL0.out.alloc (.cells #[.slice ao i.length cp, .string ⟨t.toArray⟩, .iface et ex, .slice ao2 r.length cp2, .bool true, .int .i64 (nl : Int)] 109))
 have HBL : Hid (Blk ((w.alloc (.cells #[.slice none 0 0] 84)).alloc (.cells #[.slice ao i.length cp, .string ⟨t.toArray⟩, .iface et ex, .slice ao2 r.length cp2, .bool true, .int .i64 (nl : Int)] 109)) (w.heap.size + 1) #[.slice ao i.length cp, .string ⟨t.toArray⟩, .iface et ex, .slice ao2 r.length cp2, .bool true, .int .i64 (nl : Int)] 109) := by
  have := Blk.new (w.alloc (.cells #[.slice none 0 0] 84)) #[.slice ao i.length cp, .string ⟨t.toArray⟩, .iface et ex, .slice ao2 r.length cp2, .bool true, .int .i64 (nl : Int)] 109
  rwa [World.size_alloc] at this
 have HUP := hd (sel_is w.heap.size ((w.alloc (.cells #[.slice none 0 0] 84)).alloc (.cells #[.slice ao i.length cp, .string ⟨t.toArray⟩, .iface et ex, .slice ao2 r.length cp2, .bool true, .int .i64 (nl : Int)] 109)) t i o r nl et ex hvo ao ao2 cp cp2 (B + 1) HLL.out h1 h2 h3 h4 (oal (oal hu _) _) (fun g hg => (hu.lt g hg).2) (oal (oal hu2 _) _) (fun g hg => (hu2.lt g hg).2) hc hl1 hl2)
 clear hu hu2 hvo h2 h4
 go_enter Tryz.func31, Tryz.ntmps31
 go_wp2_with fail
 refine HUP.out.mono ?_
 rintro x w2 ⟨rfl, hls, hkp⟩
 have HBF := hd (Kp.to HB0.out hkp)
 obtain ⟨nv, hnb, hno⟩ := hls.rows
 obtain ⟨ao9, n9, cp9, rfl⟩ := osl hno
 have HOF := hd hno
 have cc : w2.cell? ⟨w.heap.size, 0, none⟩ = some (.slice ao9 n9 cp9) := hnb.cell 0
 clear hls hkp hnb hno HB0 HLL HBL HL0
 go_wp2_with fail
 go_ret
 refine ⟨HBF.out, _, rfl, ?_⟩
 exact ownBase HOF.out (by omega)
theorem own_full {w : World} {base : Nat} {e : TypeId} {size : Nat} {v : Value} {n : Nat} {xs : List Value} (h : w.ownsRow base e size v n xs) : ∃ ao cp, v = .slice ao n cp ∧ n ≤ cp ∧ cp ≤ maxLen := by
 rcases h.2 with ⟨rfl, rfl⟩ | ⟨g, cap, cur, rfl, _, _, h1, h2, _⟩
 · exact ⟨_, _, rfl, by omega, by unfold maxLen; omega⟩
 exact ⟨_, _, rfl, h1, h2⟩
theorem y_Nodes_any (w : World) (B : Nat) (st : Px.St) (v : Value) (h : stV B st v w) (hc : st.nodes.length ≤ 80000) (hl : st.lens ≤ 3000) : Calls Tryz.prog 31 #[v] w (NdOut w st.nodes) := by
 cases st with
 | create t c =>
  obtain ⟨u, rfl, hu⟩ := h
  obtain ⟨ao, cp, rfl, _⟩ := own_full hu
  exact nodes_create w B t c ao _ cp hu hl
 | drop t => cases h; exact nodes_drop w t
 | insert t r =>
  obtain ⟨u, rfl, hu⟩ := h
  obtain ⟨ao, m, cp, rfl⟩ : ∃ ao m cp, u = .slice ao m cp := by obtain ⟨vs, h1, _⟩ := hu; exact osl h1
  exact nodes_insert w B t r ao m cp hu hc hl
 | delete t o =>
  cases h
  rcases hv : ev?_one o with h1 | ⟨et, ex, h1⟩
  · rw [h1]; exact nodes_delete_n w t o h1 hc
  rw [h1]; exact nodes_delete_i w t o et ex h1 hc
 | update t s o =>
  obtain ⟨u, rfl, hu⟩ := h
  obtain ⟨ao, m, cp, rfl⟩ := osl hu
  rcases hv : ev?_one o with h1 | ⟨et, ex, h1⟩
  · rw [h1]; exact nodes_update_n w B t s o ao m cp h1 hu hc hl
  rw [h1]; exact nodes_update_i w B t s o ao m cp et ex h1 hu hc hl
 | select i t o r l =>
  obtain ⟨u, u', rfl, hu, hu2⟩ := h
  obtain ⟨ao, cp, rfl, k1, k2⟩ := own_full hu
  obtain ⟨ao2, cp2, rfl, k3, k4⟩ := own_full hu2
  simp only [Px.St.lens] at hl
  cases l with
  | none =>
   rcases hv : ev?_one o with h1 | ⟨et, ex, h1⟩
   · rw [h1]; exact nodes_select_nn w B t i o r ao ao2 cp cp2 h1 hu hu2 k1 k2 k3 k4 hc (by omega) (by omega)
   rw [h1]; exact nodes_select_in w B t i o r ao ao2 cp cp2 et ex h1 hu hu2 k1 k2 k3 k4 hc (by omega) (by omega)
  | some nl =>
   rcases hv : ev?_one o with h1 | ⟨et, ex, h1⟩
   · rw [h1]; exact nodes_select_ns w B t i o r nl ao ao2 cp cp2 h1 hu hu2 k1 k2 k3 k4 hc (by omega) (by omega)
   rw [h1]; exact nodes_select_is w B t i o r nl ao ao2 cp cp2 et ex h1 hu hu2 k1 k2 k3 k4 hc (by omega) (by omega)
theorem parse_catch (b0 b1 : Nat) (x y p c : Int) (older : List PanicEntry) (w : World) (h0 : Blk w b0 #[.int .i64 x] 3) (h1 : Blk w b1 #[.int .i64 y] 29) (hne : b0 ≠ b1) :
   CallsD Tryz.prog 30 #[.pointer (some ⟨b0, 0, none⟩), .pointer (some ⟨b1, 0, none⟩)] (.panicking ({ v := .iface 70 (.agg #[.int .i64 p, .int .i64 c]), recovered := false } :: older)) w fun e u' w' =>
    e = .returned (.tuple #[]) ∧ u' = .panicking ({ v := .iface 70 (.agg #[.int .i64 p, .int .i64 c]), recovered := true } :: older) ∧ ∃ w1, Below w.heap.size w w1 ∧ w' = (w1.setCell ⟨b0, 0, none⟩ (.int .i64 p)).setCell ⟨b1, 0, none⟩ (.int .i64 c) := by
 refine callsD_of_wpS Tryz.func30 rfl fun c₀ cs hu => ?_
 apply wpS_seq
 apply wpS_region
 simp [wpOpsS, go_sem, recoverD, hu, Tryz.ntmps30, Exit.thenS]
 apply wpS_seq
 apply wpS_region
 simp [wpOpsS, go_sem, recoverD, hu, Tryz.ntmps30, Exit.thenS]
 refine wpS_cond (t := true) (by simp [Act.eval, Array.replicate]) ?_
 simp only [if_true]
 refine wpS_of_wp ?_
 simp only [Array.replicate, List.replicate, List.toArray_replicate]
 go_wp2_with fail
 refine (told_any p c w).mono ?_
 rintro e w1 ⟨rfl, hb1⟩
 have k0 := h0.below hb1 h0.lt
 have k1 := h1.below hb1 h1.lt
 have c0 : w1.cell? ⟨b0, 0, none⟩ = some (.int .i64 x) := k0.cell 0
 have c1 : w1.cell? ⟨b1, 0, none⟩ = some (.int .i64 y) := k1.cell 0
 have f0 := k0.free 0
 have f1 := k1.free 0
 have hne' : ¬ b0 = b1 := hne
 have hne'' : ¬ b1 = b0 := fun e => hne e.symm
 go_wp2
 refine ⟨rfl, _, rfl, .tuple #[], by simp [results, Tryz.results30], rfl, rfl, w1, hb1, rfl⟩
theorem parse_idle (p q : Addr) (w : World) :
   CallsD Tryz.prog 30 #[.pointer (some p), .pointer (some q)] .returning w fun e u' w' => e = .returned (.tuple #[]) ∧ u' = .returning ∧ w' = w := by
 refine callsD_of_wpS Tryz.func30 rfl fun c₀ cs hu => ?_
 apply wpS_seq
 apply wpS_region
 simp [wpOpsS, go_sem, recoverD, hu, Tryz.ntmps30, Exit.thenS]
 apply wpS_seq
 apply wpS_region
 simp [wpOpsS, go_sem, recoverD, hu, Tryz.ntmps30, Exit.thenS]
 refine wpS_cond (t := false) (by simp [Act.eval, Array.replicate]) ?_
 simp only [Bool.false_eq_true, if_false]
 refine wpS_of_wp (wp_skip ?_)
 cases c₀
 simp_all [bodyPostS, results, Tryz.results30]
def ParV (r : Except (Nat × Nat) Px.St) (base : Nat) (w : World) (v : Value) (n c : Int) : Prop :=
 match r with
 | .error (p, e) => v = .slice none 0 0 ∧ n = (p : Int) ∧ c = (e : Int)
 | .ok st => w.ownsRow base 43 4 v st.nodes.length (ndsV st.nodes) ∧ n = 0 ∧ c = 0
theorem parse_lens {s : Lx.Bs} {st : Px.St} (h : Px.ParseR s (.ok st)) : st.nodes.length ≤ 80000 ∧ st.lens ≤ 3000 := by
 unfold Px.ParseR at h
 cases hl : Lx.lex s with
 | error e => rw [hl] at h; cases h
 | ok ts =>
  rw [hl] at h
  obtain ⟨q, h1, h2⟩ := h
  obtain ⟨k1, k2, _⟩ := Lx.lex_ok hl
  match q, h1, h2 with
  | .error e, h1, h2 => cases h2
  | .ok (a, u), h1, h2 =>
   simp only at h2
   split at h2
   · split at h2
     · cases h2
     cases h2
     have := Px.stmt_wgt h1
     omega
   cases h2
theorem cParse_any (s : ByteArray) (w : World) (he : EnvP w) (hm : s.size ≤ maxLen) :
   Calls Tryz.prog 11 #[.string s] w fun e w' => ∃ (v : Value) (n c : Int), e = .returned (.tuple #[v, .int .i64 n, .int .i64 c]) ∧ (∃ r, Px.ParseR s.data.toList r ∧ ParV r w.heap.size w' v n c) ∧ Below w.heap.size w w' := by
 have hmf : ∀ (fn : Fn) (first cap : Array Value) (w : World), (Instr.makeFunc fn first cap).run Tryz.prog w = .ok (.func fn first cap) w := fun _ _ _ _ => rfl
 have HE := hd he
 clear he
 have hb0 : Below w.heap.size w ((w.alloc (.cells #[.int .i64 0] 3)).alloc (.cells #[.int .i64 0] 29)) := ((Below.refl _ _).alloc (nlr _) _).alloc (by simp) _
 have HT := hd (c_Statement_any s ((w.alloc (.cells #[.int .i64 0] 3)).alloc (.cells #[.int .i64 0] 29)) (HE.out.below hb0) hm)
 have K0 : Blk ((w.alloc (.cells #[.int .i64 0] 3)).alloc (.cells #[.int .i64 0] 29)) w.heap.size #[.int .i64 0] 3 := (Blk.new w _ _).alloc _
 have K1 : Blk ((w.alloc (.cells #[.int .i64 0] 3)).alloc (.cells #[.int .i64 0] 29)) (w.heap.size + 1) #[.int .i64 0] 29 := (by have h := Blk.new (w.alloc (.cells #[.int .i64 0] 3)) #[.int .i64 0] 29; rwa [World.size_alloc] at h)
 go_enter_defers Tryz.func11, Tryz.ntmps11
 go_wp2_with fail
 refine HT.out.mono ?_
 rintro e w1 ⟨hb1, r, hr, ht⟩
 have K0' := K0.below hb1 (by simp; omega)
 have K1' := K1.below hb1 (by simp)
 have HB1 : Hid (Below w.heap.size w w1) := hb0.trans (hb1.mono (by simp; omega))
 clear hb1 K0 K1 hb0
 match r, hr, ht with
 | .error (p, c), hr, ht =>
  have ht' : e = Flt p c := ht
  subst ht'
  refine leaves_cons (f := 30) (args := #[.pointer (some ⟨w.heap.size, 0, none⟩), .pointer (some ⟨w.heap.size + 1, 0, none⟩)]) (by simp) (by simp [go_sem]) ?_
  refine (parse_catch w.heap.size (w.heap.size + 1) 0 0 (p : Int) (c : Int) [] w1 K0' K1' (by omega)).mono ?_
  rintro e u' w'' ⟨rfl, rfl, w2, hb2, rfl⟩
  have k0 := ((K0'.below hb2 K0'.lt).set 0 (.int .i64 (p : Int))).far ⟨w.heap.size + 1, 0, none⟩ (.int .i64 (c : Int)) (by simp)
  have k1 := ((K1'.below hb2 K1'.lt).far ⟨w.heap.size, 0, none⟩ (.int .i64 (p : Int)) (by simp)).set 0 (.int .i64 (c : Int))
  have d0 := k0.cell 0
  have d1 := k1.cell 0
  simp at d0 d1
  simp [Leaves, settle, results, Tryz.results11, go_sem, d0, d1]
  refine ⟨_, _, _, ⟨rfl, rfl, rfl⟩, ⟨_, hr, rfl, rfl, rfl⟩, ?_⟩
  exact ((HB1.out.trans (hb2.mono HB1.out.size)).setCell (p := ⟨w.heap.size, 0, none⟩) (nlr _) _).setCell (p := ⟨w.heap.size + 1, 0, none⟩) (Nat.le_succ _) _
 | .ok st, hr, ht =>
  obtain ⟨v, B, rfl, hBb, hst⟩ := ht
  obtain ⟨hl1, hl2⟩ := parse_lens hr
  have HN := hd (y_Nodes_any w1 B st v hst hl1 hl2)
  have HR := hd hr
  obtain ⟨tv, xv, rfl⟩ : ∃ t y, v = .iface t y := by
   cases st with
   | create t c => obtain ⟨u, h1, h2⟩ := hst; exact ⟨_, _, h1⟩
   | drop t => exact ⟨_, _, hst⟩
   | insert t r => obtain ⟨u, h1, h2⟩ := hst; exact ⟨_, _, h1⟩
   | delete t o => exact ⟨_, _, hst⟩
   | update t s o => obtain ⟨u, h1, h2⟩ := hst; exact ⟨_, _, h1⟩
   | select i t o r l => obtain ⟨u, u', h1, h2, h3⟩ := hst; exact ⟨_, _, h1⟩
  clear hst hr hl1 hl2
  go_wp2_with fail
  refine HN.out.mono ?_
  rintro e w2 ⟨hb2, u, rfl, hown⟩
  have hsz1 := HB1.out.size
  have hltw : w.heap.size + 1 < w1.heap.size := K1'.lt
  have K0'' := K0'.below hb2 K0'.lt
  have K1'' := K1'.below hb2 K1'.lt
  have HB2 : Hid (Below w.heap.size w w2) := HB1.out.trans (hb2.mono HB1.out.size)
  have c0 : w2.cell? ⟨w.heap.size, 0, none⟩ = some (.int .i64 0) := K0''.cell 0
  have c1 : w2.cell? ⟨w.heap.size + 1, 0, none⟩ = some (.int .i64 0) := K1''.cell 0
  have f0 := K0''.free 0
  have f1 := K1''.free 0
  obtain ⟨ao, m, cp, rfl⟩ := osl hown
  have HO := hd hown
  have HK0 := hd K0''
  have HK1 := hd K1''
  clear hb2 K0' K1' hown K0'' K1''
  go_wp2
  refine leaves_cons (f := 30) (args := #[.pointer (some ⟨w.heap.size, 0, none⟩), .pointer (some ⟨w.heap.size + 1, 0, none⟩)]) (by simp) (by simp [go_sem]) ?_
  refine (parse_idle ⟨w.heap.size, 0, none⟩ ⟨w.heap.size + 1, 0, none⟩ _).mono ?_
  rintro e u' w'' ⟨rfl, rfl, rfl⟩
  have k0 := (HK0.out.set 0 (.int .i64 0)).far ⟨w.heap.size + 1, 0, none⟩ (.int .i64 0) (by simp)
  have k1 := (HK1.out.far ⟨w.heap.size, 0, none⟩ (.int .i64 0) (by simp)).set 0 (.int .i64 0)
  have d0 := k0.cell 0
  have d1 := k1.cell 0
  simp at d0 d1
  simp [Leaves, settle, results, Tryz.results11, go_sem, d0, d1]
  refine ⟨_, _, _, ⟨rfl, rfl, rfl⟩, ⟨_, HR.out, ?_, rfl, rfl⟩, ?_⟩
  · have h0 := ownBase HO.out (base' := w.heap.size + 2) (by omega)
    exact ownBase (ownsRow_setCell_below (ownsRow_setCell_below h0 (by show w.heap.size < _; omega) _) (by show w.heap.size + 1 < _; omega) _) (by omega)
  exact (HB2.out.setCell (p := ⟨w.heap.size, 0, none⟩) (nlr _) _).setCell (p := ⟨w.heap.size + 1, 0, none⟩) (Nat.le_succ _) _
def wColV (c : Lx.Bs × Nat) (v : Value) (_ : World) : Prop := v = .agg #[.string ⟨c.1.toArray⟩, .int .i64 (c.2 : Int)]
theorem rKind_cases (k : Int) (l : List Px.Nd) : (rKind k l = none ∧ (∀ x r, l = x :: r → x.kind ≠ k)) ∨ ∃ xt xn xc r, l = ⟨k, xt, xn, xc⟩ :: r ∧ rKind k l = some (⟨k, xt, xn, xc⟩, r) := by
 match l with
 | [] => exact .inl ⟨rfl, fun x r e => by cases e⟩
 | ⟨xk, xt, xn, xc⟩ :: r =>
  by_cases h : xk = k
  · subst h
    exact .inr ⟨xt, xn, xc, r, rfl, if_pos rfl⟩
  refine .inl ⟨if_neg h, fun x r' e => ?_⟩
  cases e
  exact h
def bareC (n : Int) : Int := if 4 < n then n - 4 else n
theorem rCol_is (xt : Lx.Bs) (xn xc : Int) (r : List Px.Nd) : Px.rCol (⟨2, xt, xn, xc⟩ :: r) = if Px.isName xt = true ∧ xc = 0 ∧ 1 ≤ bareC xn ∧ bareC xn ≤ 3 then some ((xt, xn.toNat), r) else none := by
 unfold Px.rCol bareC
 simp only [true_and]
theorem rCol_none (l : List Px.Nd) (h : ∀ x r, l = x :: r → x.kind ≠ 2) : Px.rCol l = none := by
 cases l with
 | nil => rfl
 | cons x r =>
  have h1 := h x r rfl
  unfold Px.rCol
  simp [h1]
theorem k_column_any (w : World) (B : Nat) (l : List Px.Nd) (h : Wks w B l) (he : EnvP w) (hB : 12 ≤ B) :
   Calls Tryz.prog 130 #[.pointer (some ⟨B, 0, none⟩)] w (WOut w B wColV (Px.rCol l)) := by
 have HW := hd h
 have HE := hd he
 have hBw := h.lt
 clear h he
 go_enter Tryz.func130, Tryz.ntmps130
 go_wp2_with fail
 refine (k_kind_any _ B l 2 (HW.out.below (by go_grown))).mono ?_
 rintro x w1 ho
 have G1 : w.grownBy w1 (some B) := gtr (Below.grownBy (by go_grown)) ho.1
 have HO1 := hd ho.1
 rcases rKind_cases 2 l with ⟨hr, hno⟩ | ⟨xt, xn, xc, r, rfl, hr⟩
 · rw [hr] at ho
   obtain ⟨_, rfl⟩ := ho
   refine ⟨rfl, ?_⟩
   rw [rCol_none l hno]
   exact WOut.none G1
 rw [hr] at ho
 obtain ⟨_, v, rfl, hv, hw⟩ := ho
 have hv : v = ndA ⟨2, xt, xn, xc⟩ := hv
 subst hv
 have HFX := hd (HW.out.fits ⟨2, xt, xn, xc⟩ (by simp))
 have HR := hd (rCol_is xt xn xc r)
 unfold ndA
 simp only
 obtain ⟨t, ht⟩ : ∃ t : ByteArray, t = ⟨xt.toArray⟩ := ⟨_, rfl⟩
 have HTL : Hid (t.data.toList = xt) := by show _ = _; rw [ht]
 have HT := hd ht
 rw [← ht]
 have hs1 := G1.size
 have HK2 := hd (Blk.new w1 #[.int .i64 2, .string t, .int .i64 xn, .int .i64 xc] 43)
 have HW2 := hd (hw.below ((Below.refl _ _).alloc (nlr _) (.cells #[.int .i64 2, .string t, .int .i64 xn, .int .i64 xc] 43)))
 have HR2 := hd ((blk_keep (Blk.new w #[.string ⟨#[]⟩, .int .i64 0] 135) HO1.out (by omega)).alloc (.cells #[.int .i64 2, .string t, .int .i64 xn, .int .i64 xc] 43))
 have HG2 := hd (gba G1 (.cells #[.int .i64 2, .string t, .int .i64 xn, .int .i64 xc] 43))
 have HE2 := hd (HE.out.grown HG2.out hB)
 clear hw G1 hr ht
 go_wp2_with fail
 go_region_held (fun w' => w'.cell? ⟨w1.heap.size, 0, none⟩ = some (.int .i64 2) ∧ w'.cell? ⟨w1.heap.size, 1, none⟩ = some (.string t) ∧ w'.cell? ⟨w1.heap.size, 2, none⟩ = some (.int .i64 xn) ∧ w'.cell? ⟨w1.heap.size, 3, none⟩ = some (.int .i64 xc)) (go_keep)
   (first
    | (go_at_call 74
       refine (k_name_any _ B t (HE2.out.below (by go_grown))).mono ?_
       rintro y w3 ⟨hb3, hy⟩
       have G3 := hd (gtr HG2.out (Below.grownBy (row := some B) ((Below.refl _ _).drew.trans hb3)))
       have W3 := hd (HW2.out.below ((Below.refl _ _).drew.trans hb3))
       have HK3 := hd (HK2.out.below ((Below.refl _ _).drew.trans hb3) HK2.out.lt)
       have HR3 := hd (HR2.out.below ((Below.refl _ _).drew.trans hb3) HR2.out.lt)
       rw [HTL.out] at hy
       rcases Bool.eq_false_or_eq_true (Px.isName xt) with hv | hv
       rotate_left
       · rw [hv] at hy
         have hy : y = Flt 0 7 := hy
         subst hy
         exact ⟨rfl, by rw [HR.out, hv]; exact WOut.none G3.out⟩
       rw [hv] at hy
       have hy : y = .returned (.string t) := hy
       subst hy
       have HV := hd hv
       have q0 := HK3.out.cell 0
       have q1 := HK3.out.cell 1
       have q2 := HK3.out.cell 2
       have q3 := HK3.out.cell 3
       simp at q0 q1 q2 q3
       have hK3 := HK3.out.lt
       clear hb3 hv)
    | (go_at_call 73
       by_cases hf : xc = 0
       rotate_left
       · rw [HT.out]
         refine (k_fields_no _ B _ _ _ _ xt _ _ (fun e => hf e.2.2)).mono ?_
         rintro y w4 ⟨rfl, hb4⟩
         exact ⟨rfl, by rw [HR.out, if_neg (fun e => hf e.2.1)]; exact WOut.none (gtr G3.out (Below.grownBy hb4))⟩
       subst hf
       refine (k_fields_yes _ B _ _ _ _).mono ?_
       rintro y w4 ⟨rfl, hb4⟩
       have HK4 := hd (HK3.out.below hb4 HK3.out.lt)
       have HR4 := hd (HR3.out.below hb4 HR3.out.lt)
       have G4 := hd (gtr G3.out (Below.grownBy hb4))
       have W4 := hd (W3.out.below hb4)
       have q0 := HK4.out.cell 0
       have q1 := HK4.out.cell 1
       have q2 := HK4.out.cell 2
       have q3 := HK4.out.cell 3
       simp at q0 q1 q2 q3
       have hK4 := HK4.out.lt
       clear hb4))
 have s0 := HR4.out.cell 0
 have s1 := HR4.out.cell 1
 simp at s0 s1
 have v0 := HR4.out.free 0
 have v1 := HR4.out.free 1
 have hx1 := HFX.out.1.1
 have hx2 := HFX.out.1.2
 simp only at hx1 hx2
 by_cases h4 : 4 < xn
 · have HBC : Hid (bareC xn = xn - 4) := if_pos h4
   by_cases h7 : xn - 4 ≤ 3
   · have hge : 1 ≤ xn - 4 := by omega
     go_wp2_with fail
     refine (kmt _ B).mono ?_
     rintro y w5 ⟨rfl, h0⟩
     rw [h0]
     clear h0 w5
     go_wp2_with fail
     have KF := (HR4.out.set 0 (.string t)).set 1 (.int .i64 xn)
     have z0 := KF.cell 0
     have z1 := KF.cell 1
     simp at z0 z1
     refine bodyPost_ret (v := .agg #[.string t, .int .i64 xn]) (by simp [results, Tryz.results130, go_sem, z0, z1]) rfl ?_
     rw [HR.out, if_pos ⟨HV.out, (by simp), by rw [HBC.out]; omega, by rw [HBC.out]; omega⟩]
     refine WOut.some (grown_far (grown_far G4.out _ (nlr _) _) _ (nlr _) _) ?_ ((W4.out.far _ hBw _).far _ hBw _)
     show _ = Value.agg _
     rw [HT.out, show ((xn.toNat : Nat) : Int) = xn by omega]
   have hn7 : decide (xn - 4 ≤ 3) = false := decide_eq_false h7
   have hge : 1 ≤ xn - 4 := by omega
   go_wp2_with fail
   refine (kmf _ B).mono ?_
   rintro y w5 ⟨rfl, hb5⟩
   exact ⟨rfl, by rw [HR.out, if_neg (fun e => by have h1 := e.2.2.1; have h2 := e.2.2.2; rw [HBC.out] at h1 h2; omega)]; exact WOut.none (gtr G4.out (Below.grownBy hb5))⟩
 have HBC : Hid (bareC xn = xn) := if_neg h4
 have hn4 : decide (4 < xn) = false := decide_eq_false h4
 by_cases h1 : 1 ≤ xn
 · by_cases h3 : xn ≤ 3
   · go_wp2_with fail
     refine (kmt _ B).mono ?_
     rintro y w5 ⟨rfl, h0⟩
     rw [h0]
     clear h0 w5
     go_wp2_with fail
     have KF := (HR4.out.set 0 (.string t)).set 1 (.int .i64 xn)
     have z0 := KF.cell 0
     have z1 := KF.cell 1
     simp at z0 z1
     refine bodyPost_ret (v := .agg #[.string t, .int .i64 xn]) (by simp [results, Tryz.results130, go_sem, z0, z1]) rfl ?_
     rw [HR.out, if_pos ⟨HV.out, (by simp), by rw [HBC.out]; omega, by rw [HBC.out]; omega⟩]
     refine WOut.some (grown_far (grown_far G4.out _ (nlr _) _) _ (nlr _) _) ?_ ((W4.out.far _ hBw _).far _ hBw _)
     show _ = Value.agg _
     rw [HT.out, show ((xn.toNat : Nat) : Int) = xn by omega]
   have hn3 : decide (xn ≤ 3) = false := decide_eq_false h3
   go_wp2_with fail
   refine (kmf _ B).mono ?_
   rintro y w5 ⟨rfl, hb5⟩
   exact ⟨rfl, by rw [HR.out, if_neg (fun e => by have h1 := e.2.2.1; have h2 := e.2.2.2; rw [HBC.out] at h1 h2; omega)]; exact WOut.none (gtr G4.out (Below.grownBy hb5))⟩
 have hn1 : decide (1 ≤ xn) = false := decide_eq_false h1
 go_wp2_with fail
 refine (kmf _ B).mono ?_
 rintro y w5 ⟨rfl, hb5⟩
 exact ⟨rfl, by rw [HR.out, if_neg (fun e => by have h1 := e.2.2.1; have h2 := e.2.2.2; rw [HBC.out] at h1 h2; omega)]; exact WOut.none (gtr G4.out (Below.grownBy hb5))⟩
def wSetV (c : Lx.Bs × Px.E) (v : Value) (_ : World) : Prop := v = .agg #[.string ⟨c.1.toArray⟩, ev c.2]
theorem rSet_is (xt : Lx.Bs) (xn xc : Int) (r : List Px.Nd) : Px.rSet (⟨8, xt, xn, xc⟩ :: r) = if Px.isName xt = true ∧ xn = 0 ∧ xc = 1 then (Px.rE 40 r).map fun y => ((xt, y.1), y.2) else none := by
 unfold Px.rSet
 simp only [true_and]
theorem rSet_none (l : List Px.Nd) (h : ∀ x r, l = x :: r → x.kind ≠ 8) : Px.rSet l = none := by
 cases l with
 | nil => rfl
 | cons x r =>
  have h1 := h x r rfl
  unfold Px.rSet
  simp [h1]
theorem k_set_any (w : World) (B : Nat) (l : List Px.Nd) (h : Wks w B l) (he : EnvP w) (hB : 12 ≤ B) :
   Calls Tryz.prog 134 #[.pointer (some ⟨B, 0, none⟩)] w (WOut w B wSetV (Px.rSet l)) := by
 have HW := hd h
 have HE := hd he
 have hBw := h.lt
 clear h he
 go_enter Tryz.func134, Tryz.ntmps134
 go_wp2_with fail
 refine (k_kind_any _ B l 8 (HW.out.below (by go_grown))).mono ?_
 rintro x w1 ho
 have G1 : w.grownBy w1 (some B) := gtr (Below.grownBy (by go_grown)) ho.1
 have HO1 := hd ho.1
 rcases rKind_cases 8 l with ⟨hr, hno⟩ | ⟨xt, xn, xc, r, rfl, hr⟩
 · rw [hr] at ho
   obtain ⟨_, rfl⟩ := ho
   refine ⟨rfl, ?_⟩
   rw [rSet_none l hno]
   exact WOut.none G1
 rw [hr] at ho
 obtain ⟨_, v, rfl, hv, hw⟩ := ho
 have hv : v = ndA ⟨8, xt, xn, xc⟩ := hv
 subst hv
 have HFX := hd (HW.out.fits ⟨8, xt, xn, xc⟩ (by simp))
 have HR := hd (rSet_is xt xn xc r)
 unfold ndA
 simp only
 obtain ⟨t, ht⟩ : ∃ t : ByteArray, t = ⟨xt.toArray⟩ := ⟨_, rfl⟩
 have HTL : Hid (t.data.toList = xt) := by show _ = _; rw [ht]
 have HT := hd ht
 rw [← ht]
 have hs1 := G1.size
 have HK2 := hd (Blk.new w1 #[.int .i64 8, .string t, .int .i64 xn, .int .i64 xc] 43)
 have HW2 := hd (hw.below ((Below.refl _ _).alloc (nlr _) (.cells #[.int .i64 8, .string t, .int .i64 xn, .int .i64 xc] 43)))
 have HR2 := hd ((blk_keep (Blk.new w #[.string ⟨#[]⟩, .nilIface] 139) HO1.out (by omega)).alloc (.cells #[.int .i64 8, .string t, .int .i64 xn, .int .i64 xc] 43))
 have HG2 := hd (gba G1 (.cells #[.int .i64 8, .string t, .int .i64 xn, .int .i64 xc] 43))
 have HE2 := hd (HE.out.grown HG2.out hB)
 clear hw G1 hr ht
 go_wp2_with fail
 go_region_held (fun w' => w'.cell? ⟨w1.heap.size, 0, none⟩ = some (.int .i64 8) ∧ w'.cell? ⟨w1.heap.size, 1, none⟩ = some (.string t) ∧ w'.cell? ⟨w1.heap.size, 2, none⟩ = some (.int .i64 xn) ∧ w'.cell? ⟨w1.heap.size, 3, none⟩ = some (.int .i64 xc)) (go_keep)
   (first
    | (go_at_call 74
       refine (k_name_any _ B t (HE2.out.below (by go_grown))).mono ?_
       rintro y w3 ⟨hb3, hy⟩
       have G3 := hd (gtr HG2.out (Below.grownBy (row := some B) ((Below.refl _ _).drew.trans hb3)))
       have W3 := hd (HW2.out.below ((Below.refl _ _).drew.trans hb3))
       have HK3 := hd (HK2.out.below ((Below.refl _ _).drew.trans hb3) HK2.out.lt)
       have HR3 := hd (HR2.out.below ((Below.refl _ _).drew.trans hb3) HR2.out.lt)
       rw [HTL.out] at hy
       rcases Bool.eq_false_or_eq_true (Px.isName xt) with hv | hv
       rotate_left
       · rw [hv] at hy
         have hy : y = Flt 0 7 := hy
         subst hy
         exact ⟨rfl, by rw [HR.out, hv]; exact WOut.none G3.out⟩
       rw [hv] at hy
       have hy : y = .returned (.string t) := hy
       subst hy
       have HV := hd hv
       have q0 := HK3.out.cell 0
       have q1 := HK3.out.cell 1
       have q2 := HK3.out.cell 2
       have q3 := HK3.out.cell 3
       simp at q0 q1 q2 q3
       have hK3 := HK3.out.lt
       clear hb3 hv)
    | (go_at_call 73
       by_cases hf : xn = 0 ∧ xc = 1
       rotate_left
       · rw [HT.out]
         refine (k_fields_no _ B _ _ _ _ xt _ _ (fun e => hf e.2)).mono ?_
         rintro y w4 ⟨rfl, hb4⟩
         exact ⟨rfl, by rw [HR.out, if_neg (fun e => hf e.2)]; exact WOut.none (gtr G3.out (Below.grownBy hb4))⟩
       obtain ⟨rfl, rfl⟩ := hf
       refine (k_fields_yes _ B _ _ _ _).mono ?_
       rintro y w4 ⟨rfl, hb4⟩
       have HK4 := hd (HK3.out.below hb4 HK3.out.lt)
       have HR4 := hd (HR3.out.below hb4 HR3.out.lt)
       have G4 := hd (gtr G3.out (Below.grownBy hb4))
       have W4 := hd (W3.out.below hb4)
       have q0 := HK4.out.cell 0
       have q1 := HK4.out.cell 1
       have q2 := HK4.out.cell 2
       have q3 := HK4.out.cell 3
       simp at q0 q1 q2 q3
       have hK4 := HK4.out.lt
       clear hb4))
 have s0 := HR4.out.cell 0
 have s1 := HR4.out.cell 1
 simp at s0 s1
 have v0 := HR4.out.free 0
 have v1 := HR4.out.free 1
 have E4 := hd (HE.out.grown G4.out hB)
 have HRR : Hid (Px.rSet (⟨8, xt, 0, 1⟩ :: r) = (Px.rE 40 r).map fun y => ((xt, y.1), y.2)) := by show _ = _; rw [rSet_is, if_pos ⟨HV.out, rfl, rfl⟩]
 have hlt1 : w.heap.size < w1.heap.size := by have := HO1.out.size; simp at this; omega
 have hne1 : w1.heap.size ≠ w.heap.size := by omega
 have hne2 : w.heap.size ≠ w1.heap.size := by omega
 have hd4 : Below w4.heap.size w4 w4.drew := (Below.refl _ _).drew
 clear q0 q2 q3
 go_wp2_with fail
 go_region_held (fun w' => w'.cell? ⟨w1.heap.size, 1, none⟩ = some (.string t)) (go_keep)
   (first
    | (go_at_call 184
       refine (k_expr_any _ B r (W4.out.below hd4) (E4.out.below hd4) hB).mono ?_
       rintro x w5 ho
       obtain ⟨g, ⟨p1, rfl⟩ | ⟨a, l5, v, p1, rfl, hv, hw5⟩⟩ := ho.cases
       · exact ⟨rfl, by rw [HRR.out, p1]; exact WOut.none (gtr G4.out (gtr (Below.grownBy hd4) g))⟩
       have HVA : Hid (v = ev a) := hv
       obtain ⟨et, ex, hev⟩ := evi a
       have hv2 : v = .iface et ex := by rw [HVA.out, hev]
       subst hv2
       have G5 := hd (gtr G4.out (gtr (Below.grownBy hd4) g))
       have W5 := hd hw5
       have HP1 := hd p1
       have HK5 := hd (blk_keep (HK4.out.below hd4 HK4.out.lt) g (by omega))
       have HR5 := hd (blk_keep (HR4.out.below hd4 HR4.out.lt) g (by omega))
       have q1 := HK5.out.cell 1
       simp at q1
       have hK5 := HK5.out.lt
       have u0 := HR5.out.cell 0
       have u1 := HR5.out.cell 1
       simp at u0 u1
       have n0 := HR5.out.free 0
       have n1 := HR5.out.free 1
       clear ho g hw5 p1 hv hev))
 go_wp2_with fail
 have KF := (HR5.out.set 0 (.string t)).set 1 (.iface et ex)
 have z0 := KF.cell 0
 have z1 := KF.cell 1
 simp at z0 z1
 refine bodyPost_ret (v := .agg #[.string t, .iface et ex]) (by simp [results, Tryz.results134, go_sem, z0, z1]) rfl ?_
 rw [HRR.out, HP1.out]
 refine WOut.some (a := (xt, a)) (grown_far (grown_far G5.out _ (nlr _) _) _ (nlr _) _) ?_ ((W5.out.far _ hBw _).far _ hBw _)
 show _ = Value.agg _
 rw [HT.out, ← HVA.out]
def wOrderV (c : Px.E × Bool) (v : Value) (_ : World) : Prop := v = .agg #[ev c.1, .bool c.2]
theorem rOrder_is (xk : Int) (xt : Lx.Bs) (xn xc : Int) (r : List Px.Nd) : Px.rOrder (⟨xk, xt, xn, xc⟩ :: r) = if xt = [] ∧ xc = 1 ∧ (xn = 0 ∨ xn = 1) then (Px.rE 40 r).map fun y => ((y.1, decide (xn = 1)), y.2) else none := rfl
def wLimV (n : Nat) (v : Value) (_ : World) : Prop := v = .int .i64 (n : Int)
def rLimit : List Px.Nd → Option (Nat × List Px.Nd)
 | [] => none
 | x :: r => if x.text = [] ∧ x.kids = 0 ∧ 0 ≤ x.num ∧ x.num ≤ 1000000000 then some (x.num.toNat, r) else none
theorem rLimit_is (xk : Int) (xt : Lx.Bs) (xn xc : Int) (r : List Px.Nd) : rLimit (⟨xk, xt, xn, xc⟩ :: r) = if xt = [] ∧ xc = 0 ∧ 0 ≤ xn ∧ xn ≤ 1000000000 then some (xn.toNat, r) else none := rfl
theorem k_order_any (w : World) (B : Nat) (l : List Px.Nd) (h : Wks w B l) (he : EnvP w) (hB : 12 ≤ B) :
   Calls Tryz.prog 138 #[.pointer (some ⟨B, 0, none⟩)] w (WOut w B wOrderV (Px.rOrder l)) := by
 have HW := hd h
 have HE := hd he
 have hBw := h.lt
 clear h he
 go_enter Tryz.func138, Tryz.ntmps138
 go_wp2_with fail
 refine (k_take_any _ B l (HW.out.below (by go_grown))).mono ?_
 rintro x w1 ho
 have G1 : w.grownBy w1 (some B) := gtr (Below.grownBy (by go_grown)) ho.1
 have HO1 := hd ho.1
 match l, ho, HW with
 | [], ho, _ =>
  obtain ⟨_, rfl⟩ := ho
  exact ⟨rfl, WOut.none G1⟩
 | ⟨xk, xt, xn, xc⟩ :: r, ho, HW =>
  obtain ⟨_, v, rfl, hv, hw⟩ := ho
  have hv : v = ndA ⟨xk, xt, xn, xc⟩ := hv
  subst hv
  have HR := hd (rOrder_is xk xt xn xc r)
  unfold ndA
  simp only
  have hs1 := G1.size
  have HK2 := hd (Blk.new w1 #[.int .i64 xk, .string ⟨xt.toArray⟩, .int .i64 xn, .int .i64 xc] 43)
  have HW2 := hd (hw.below ((Below.refl _ _).alloc (nlr _) (.cells #[.int .i64 xk, .string ⟨xt.toArray⟩, .int .i64 xn, .int .i64 xc] 43)))
  have HR2 := hd ((blk_keep (Blk.new w #[.nilIface, .bool false] 143) HO1.out (by omega)).alloc (.cells #[.int .i64 xk, .string ⟨xt.toArray⟩, .int .i64 xn, .int .i64 xc] 43))
  have HG2 := hd (gba G1 (.cells #[.int .i64 xk, .string ⟨xt.toArray⟩, .int .i64 xn, .int .i64 xc] 43))
  have HE2 := hd (HE.out.grown HG2.out hB)
  have hlt1 : w.heap.size < w1.heap.size := by have := HO1.out.size; simp at this; omega
  have hne1 : w1.heap.size ≠ w.heap.size := by omega
  have hne2 : w.heap.size ≠ w1.heap.size := by omega
  clear hw G1
  go_wp2_with fail
  by_cases hf : xt = [] ∧ xc = 1
  rotate_left
  · refine (k_fields_no _ B _ _ _ _ [] _ _ (fun e => hf ⟨e.1, e.2.2⟩)).mono ?_
    rintro y w4 ⟨rfl, hb4⟩
    exact ⟨rfl, by rw [HR.out, if_neg (fun e => hf ⟨e.1, e.2.1⟩)]; exact WOut.none (gtr HG2.out (Below.grownBy hb4))⟩
  obtain ⟨rfl, rfl⟩ := hf
  refine (k_fields_yes _ B _ _ _ _).mono ?_
  rintro y w4 ⟨rfl, hb4⟩
  have HK4 := hd (HK2.out.below hb4 HK2.out.lt)
  have HR4 := hd (HR2.out.below hb4 HR2.out.lt)
  have G4 := hd (gtr HG2.out (Below.grownBy hb4))
  have W4 := hd (HW2.out.below hb4)
  have q0 := HK4.out.cell 0
  have q1 := HK4.out.cell 1
  have q2 := HK4.out.cell 2
  have q3 := HK4.out.cell 3
  simp at q0 q1 q2 q3
  have hK4 := HK4.out.lt
  clear hb4
  clear q0 q1 q3
  go_wp2_with fail
  refine (k_truth_any _ B xn).mono ?_
  rintro y w5 ⟨hb5, hy⟩
  have HK5 := hd (HK4.out.below hb5 HK4.out.lt)
  have HR5 := hd (HR4.out.below hb5 HR4.out.lt)
  have G5 := hd (gtr G4.out (Below.grownBy hb5))
  have W5 := hd (W4.out.below hb5)
  have E5 := hd (HE.out.grown G5.out hB)
  have s0 := HR5.out.cell 0
  have s1 := HR5.out.cell 1
  simp at s0 s1
  have v0 := HR5.out.free 0
  have v1 := HR5.out.free 1
  have hK5 := HK5.out.lt
  clear hb5 q2
  by_cases ht : xn = 0 ∨ xn = 1
  · rw [if_pos ht] at hy
    subst hy
    have HRR : Hid (Px.rOrder (⟨xk, [], xn, 1⟩ :: r) = (Px.rE 40 r).map fun y => ((y.1, decide (xn = 1)), y.2)) := by show _ = _; rw [rOrder_is, if_pos ⟨rfl, rfl, ht⟩]
    clear ht
    generalize hbb : decide (xn = 1) = bb at *
    clear hbb
    go_wp2_with fail
    refine (k_expr_any _ B r W5.out E5.out hB).mono ?_
    rintro x w6 ho
    obtain ⟨g, ⟨p1, rfl⟩ | ⟨a, l6, v, p1, rfl, hv, hw6⟩⟩ := ho.cases
    · exact ⟨rfl, by rw [HRR.out, p1]; exact WOut.none (gtr G5.out g)⟩
    have HVA : Hid (v = ev a) := hv
    obtain ⟨et, ex, hev⟩ := evi a
    have hv2 : v = .iface et ex := by rw [HVA.out, hev]
    subst hv2
    have G6 := hd (gtr G5.out g)
    have W6 := hd hw6
    have HP1 := hd p1
    have HR6 := hd (blk_keep HR5.out g (by omega))
    have u0 := HR6.out.cell 0
    have u1 := HR6.out.cell 1
    simp at u0 u1
    have n0 := HR6.out.free 0
    have n1 := HR6.out.free 1
    clear ho g hw6 p1 hv hev s0 s1 v0 v1
    go_wp2_with fail
    have KF := (HR6.out.set 0 (.iface et ex)).set 1 (.bool bb)
    have z0 := KF.cell 0
    have z1 := KF.cell 1
    simp at z0 z1
    refine bodyPost_ret (v := .agg #[.iface et ex, .bool bb]) (by simp [results, Tryz.results138, go_sem, z0, z1]) rfl ?_
    rw [HRR.out, HP1.out]
    refine WOut.some (a := (a, bb)) (grown_far (grown_far G6.out _ (nlr _) _) _ (nlr _) _) ?_ ((W6.out.far _ hBw _).far _ hBw _)
    show _ = Value.agg _
    rw [← HVA.out]
  rw [if_neg ht] at hy
  subst hy
  exact ⟨rfl, by rw [HR.out, if_neg (fun e => ht e.2.2)]; exact WOut.none G5.out⟩
theorem k_limit_any (w : World) (B : Nat) (l : List Px.Nd) (h : Wks w B l) (he : EnvP w) (hB : 12 ≤ B) :
   Calls Tryz.prog 139 #[.pointer (some ⟨B, 0, none⟩)] w (WOut w B wLimV (rLimit l)) := by
 have HW := hd h
 have HE := hd he
 have hBw := h.lt
 clear h he
 go_enter Tryz.func139, Tryz.ntmps139
 go_wp2_with fail
 refine (k_take_any _ B l (HW.out.below (by go_grown))).mono ?_
 rintro x w1 ho
 have G1 : w.grownBy w1 (some B) := gtr (Below.grownBy (by go_grown)) ho.1
 have HO1 := hd ho.1
 match l, ho, HW with
 | [], ho, _ =>
  obtain ⟨_, rfl⟩ := ho
  exact ⟨rfl, WOut.none G1⟩
 | ⟨xk, xt, xn, xc⟩ :: r, ho, HW =>
  obtain ⟨_, v, rfl, hv, hw⟩ := ho
  have hv : v = ndA ⟨xk, xt, xn, xc⟩ := hv
  subst hv
  have HR := hd (rLimit_is xk xt xn xc r)
  unfold ndA
  simp only
  have hs1 := G1.size
  have HK2 := hd (Blk.new w1 #[.int .i64 xk, .string ⟨xt.toArray⟩, .int .i64 xn, .int .i64 xc] 43)
  have HW2 := hd (hw.below ((Below.refl _ _).alloc (nlr _) (.cells #[.int .i64 xk, .string ⟨xt.toArray⟩, .int .i64 xn, .int .i64 xc] 43)))
  have HG2 := hd (gba G1 (.cells #[.int .i64 xk, .string ⟨xt.toArray⟩, .int .i64 xn, .int .i64 xc] 43))
  have HE2 := hd (HE.out.grown HG2.out hB)
  clear hw G1
  go_wp2_with fail
  by_cases hf : xt = [] ∧ xc = 0
  rotate_left
  · refine (k_fields_no _ B _ _ _ _ [] _ _ (fun e => hf ⟨e.1, e.2.2⟩)).mono ?_
    rintro y w4 ⟨rfl, hb4⟩
    exact ⟨rfl, by rw [HR.out, if_neg (fun e => hf ⟨e.1, e.2.1⟩)]; exact WOut.none (gtr HG2.out (Below.grownBy hb4))⟩
  obtain ⟨rfl, rfl⟩ := hf
  refine (k_fields_yes _ B _ _ _ _).mono ?_
  rintro y w4 ⟨rfl, hb4⟩
  have HK4 := hd (HK2.out.below hb4 HK2.out.lt)
  have G4 := hd (gtr HG2.out (Below.grownBy hb4))
  have W4 := hd (HW2.out.below hb4)
  have q0 := HK4.out.cell 0
  have q1 := HK4.out.cell 1
  have q2 := HK4.out.cell 2
  have q3 := HK4.out.cell 3
  simp at q0 q1 q2 q3
  have hK4 := HK4.out.lt
  clear hb4
  clear q0 q1 q3
  by_cases h0 : 0 ≤ xn
  · by_cases h9 : xn ≤ 1000000000
    · go_wp2_with fail
      refine (kmt _ B).mono ?_
      rintro y w5 ⟨rfl, h0⟩
      rw [h0]
      clear h0 w5
      go_wp2_with fail
      go_ret
      rw [HR.out, if_pos (by simp; omega)]
      refine WOut.some G4.out ?_ W4.out
      show _ = Value.int _ _
      rw [show ((xn.toNat : Nat) : Int) = xn by omega]
      rfl
    have hn : decide (xn ≤ 1000000000) = false := decide_eq_false h9
    go_wp2_with fail
    refine (kmf _ B).mono ?_
    rintro y w5 ⟨rfl, hb5⟩
    exact ⟨rfl, by rw [HR.out, if_neg (fun e => by have := e.2.2.2; omega)]; exact WOut.none (gtr G4.out (Below.grownBy hb5))⟩
  have hn : decide (0 ≤ xn) = false := decide_eq_false h0
  go_wp2_with fail
  refine (kmf _ B).mono ?_
  rintro y w5 ⟨rfl, hb5⟩
  exact ⟨rfl, by rw [HR.out, if_neg (fun e => by have := e.2.2.1; omega)]; exact WOut.none (gtr G4.out (Below.grownBy hb5))⟩
end Go.Proofs.YtkcakbgcfnhgaaaGreatDoor
