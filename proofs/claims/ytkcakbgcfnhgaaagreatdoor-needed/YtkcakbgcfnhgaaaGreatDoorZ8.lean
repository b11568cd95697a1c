/- Parts of the proof: CpZ CqA CqB CqC CqD CqE CqF CqG -/
import Derived.Test.YtkcakbgcfnhgaaaGreatDoorZ7
import Derived.Test.YtkcakbgcfnhgaaaGreatDoorZ5
import Derived.Deep.RegionHeld3
namespace Go.Proofs.YtkcakbgcfnhgaaaGreatDoor
set_option linter.unusedSimpArgs false
set_option linter.unusedVariables false
set_option maxRecDepth 100000
set_option maxHeartbeats 16000000
open Go.RowKit
theorem any_orders : ∀ (l : List (Px.E × Bool)), (l.map (·.1)).any deepE = l.any deepR
 | [] => rfl
 | r :: l => by
  rw [List.map_cons, List.any_cons, List.any_cons, any_orders l]
  rfl
theorem any_items : ∀ (l : List (Option Px.E)), (l.filterMap id).any deepE = l.any deepO
 | [] => rfl
 | none :: l => by
  show (l.filterMap id).any deepE = (false || l.any deepO)
  rw [any_items l]; rfl
 | some e :: l => by
  show (deepE e || (l.filterMap id).any deepE) = (deepE e || l.any deepO)
  rw [any_items l]
theorem deep_select (i : List (Option Px.E)) (t : Lx.Bs) (o : Option Px.E) (r : List (Px.E × Bool)) (l : Option Nat) (dp : Bool) : (deepSt (.select i t o r l) || dp) = (r.any deepR || (deepO o || (i.any deepO || dp))) := by
 simp only [deepSt, Px.St.exprs, List.any_append, any_items, any_orders, any_opt]
 cases i.any deepO <;> cases deepO o <;> cases r.any deepR <;> rfl
theorem lim_of {sz : Nat} {q : List Lx.Tok} {r : Px.Res Nat} (hs : Px.sees Px.kLIMIT q = true) (h : numR sz 1000000000 q.tail r) : Px.limR sz q (Px.mapR some r) := by
 unfold Px.limR
 rw [if_pos hs]
 have hl : Px.limit sz q.tail = some r := by
  unfold numR at h
  cases hq : q.tail with
  | nil => rw [hq] at h; simp only at h; subst h; rfl
  | cons t p =>
   rw [hq] at h
   simp only at h
   subst h
   simp only [Px.limit]
   split
   · rfl
   split <;> rfl
 match r, hl with
 | .error e, hl => exact Px.Rg.err hl
 | .ok (n, p), hl => exact Px.Rg.go hl rfl
theorem lim_no {sz : Nat} {q : List Lx.Tok} (hs : Px.sees Px.kLIMIT q = false) : Px.limR sz q (.ok (none, q)) := by
 unfold Px.limR
 rw [if_neg (by simp [hs])]
theorem c_selection_any (B : Nat) (lv : Value) (ts : List Lx.Tok) (sz : Nat) (dp : Bool) (w : World) (q : List Lx.Tok) (h : Cx w B lv ts sz q dp) :
   Calls Tryz.prog 89 #[.pointer (some ⟨B, 0, none⟩)] w (OutR w B lv ts sz dp (Px.selectR sz) q (partV B 109) deepSt) := by
 have hmf : ∀ (fn : Fn) (first cap : Array Value) (w : World), (Instr.makeFunc fn first cap).run Tryz.prog w = .ok (.func fn first cap) w := fun _ _ _ _ => rfl
 have HX := hd h
 have hlt := h.lt
 have HB0 : Hid (Below w.heap.size w (w.alloc (.cells #[.slice none 0 0, .string ⟨#[]⟩, .nilIface, .slice none 0 0, .bool false, .int .i64 0] 109))) := (Below.refl _ _).alloc (nlr _) _
 have HKR := hd (Blk.new w #[.slice none 0 0, .string ⟨#[]⟩, .nilIface, .slice none 0 0, .bool false, .int .i64 0] 109)
 clear h
 go_enter Tryz.func89, Tryz.ntmps89
 go_wp2_with fail
 refine (c_listItem_any B lv ts sz dp _ q (HX.out.below HB0.out)).mono ?_
 rintro x w1 ho
 obtain ⟨hg, ⟨p, c, hr, rfl⟩ | ⟨its, q1, v, hr, rfl, hv, hx⟩⟩ := ho.cases
 · exact ⟨rfl, OutR.err (gbt (Below.grownBy HB0.out) hg) (Px.Rg.err hr)⟩
 have HR1 := hd hr
 obtain ⟨ao, m, cp, rfl⟩ := osl hv
 have hszw : w.heap.size < w1.heap.size := by have := hg.size; simp only [World.size_alloc] at this; omega
 have HX1 := hd (Cx.below (w' := w1.alloc (.cells #[.slice ao m cp, .string ⟨#[]⟩, .nilIface, .slice none 0 0, .bool false, .int .i64 0] 109)) hx ((Below.refl _ _).alloc (nlr _) _))
 have HG1 := hd (gba (gbt (Below.grownBy HB0.out) hg) (.cells #[.slice ao m cp, .string ⟨#[]⟩, .nilIface, .slice none 0 0, .bool false, .int .i64 0] 109))
 have HK1 := hd ((HKR.out.grown hg (by omega)).alloc (.cells #[.slice ao m cp, .string ⟨#[]⟩, .nilIface, .slice none 0 0, .bool false, .int .i64 0] 109))
 have HL1 := hd (Blk.new w1 #[.slice ao m cp, .string ⟨#[]⟩, .nilIface, .slice none 0 0, .bool false, .int .i64 0] 109)
 have HV1 : Hid (lsV B 141 2 itemC its (.slice ao m cp) (w1.alloc (.cells #[.slice ao m cp, .string ⟨#[]⟩, .nilIface, .slice none 0 0, .bool false, .int .i64 0] 109))) := oal hv _
 have d1 : ¬ w1.heap.size = w.heap.size := by omega
 have d2 : ¬ w.heap.size = w1.heap.size := by omega
 clear hr hx hg ho HB0 HKR hv
 go_wp2_with fail
 refine (c_expect_at ⟨#[70, 82, 79, 77]⟩ (w1.alloc (.cells #[.slice ao m cp, .string ⟨#[]⟩, .nilIface, .slice none 0 0, .bool false, .int .i64 0] 109)) _ (by simp) B lv ts sz q1 _ HX1.out (by simp)).mono ?_
 rintro x w2 ho
 obtain ⟨hg, ⟨p, c, hr, rfl⟩ | ⟨_, q2, v, hr, rfl, hv, hx⟩⟩ := ho.cases
 · exact ⟨rfl, OutR.err (gbt HG1.out hg) (Px.Rg.go HR1.out (Px.Rg.err hr))⟩
 cases hv
 have HR2 := hd hr
 have HX2 : Hid (Cx w2 B lv ts sz q2 (its.any deepO || dp)) := hx
 have HG2 := hd (gbt HG1.out hg)
 have HK2 := hd (HK1.out.grown hg (by omega))
 have HL2 := hd (HL1.out.grown hg (by omega))
 have HV2 := hd (own_far HV1.out hg)
 clear hr hx hg ho HX1 HG1 HK1 HL1 HV1
 go_wp2_with fail
 refine (c_name_any w2 B lv ts sz q2 _ HX2.out).mono ?_
 rintro x w3 ho
 obtain ⟨hg, ⟨p, c, hr, rfl⟩ | ⟨n, q3, v, hr, rfl, hv, hx⟩⟩ := ho.cases
 · exact ⟨rfl, OutR.err (gbt HG2.out hg) (Px.Rg.go HR1.out (Px.Rg.go HR2.out (Px.Rg.err hr)))⟩
 cases hv
 have HR3 := hd hr
 have HL30 := hd (HL2.out.grown hg (by omega))
 have a1 : w3.cell? ⟨w1.heap.size, 1, none⟩ = some (.string ⟨#[]⟩) := HL30.out.cell 1
 have f1 := HL30.out.free 1
 have HX3 := hd (Cx.far (show Cx w3 B lv ts sz q3 (its.any deepO || dp) from hx) HX.out (M := w1.heap.size) (by omega) 1 (.string ⟨n.toArray⟩))
 have HG3 := hd (gaw (gbt HG2.out hg) (M := w1.heap.size) (by omega) 1 (.string ⟨n.toArray⟩))
 have HK3 := hd ((HK2.out.grown hg (by omega)).far ⟨w1.heap.size, 1, none⟩ (.string ⟨n.toArray⟩) d1)
 have HL3 : Hid (Blk (w3.setCell ⟨w1.heap.size, 1, none⟩ (.string ⟨n.toArray⟩)) w1.heap.size #[.slice ao m cp, .string ⟨n.toArray⟩, .nilIface, .slice none 0 0, .bool false, .int .i64 0] 109) := HL30.out.set 1 _
 have HV3 := hd (ls_set (own_far HV2.out hg) 1 (.string ⟨n.toArray⟩) ⟨_, _, HL30.out, by decide⟩)
 clear hr hx hg ho HX2 HG2 HK2 HL2 HV2 HL30
 go_wp2_with fail
 refine (c_where_any B lv ts sz _ _ q3 HX3.out).mono ?_
 rintro x w4 ho
 obtain ⟨hg, ⟨p, c, hr, rfl⟩ | ⟨o, q4, v, hr, rfl, hv, hx⟩⟩ := ho.cases
 · exact ⟨rfl, OutR.err (gbt HG3.out hg) (Px.Rg.go HR1.out (Px.Rg.go HR2.out (Px.Rg.go HR3.out (Px.Rg.err hr))))⟩
 have HR4 := hd hr
 have HE := hd hv
 have hv1 : v = .nilIface ∨ ∃ t x, v = .iface t x := by
  have := ev?_one o
  rwa [← show v = ev? o from hv] at this
 have HL40 := hd (HL3.out.grown hg (by omega))
 have a2 : w4.cell? ⟨w1.heap.size, 2, none⟩ = some .nilIface := HL40.out.cell 2
 have f2 := HL40.out.free 2
 have HX40 := hd hx
 have HG40 := hd (gbt HG3.out hg)
 have HK40 := hd (HK3.out.grown hg (by omega))
 have HV40 := hd (own_far HV3.out hg)
 clear hr hx hg ho hv HX3 HG3 HK3 HL3 HV3 a1 f1
 rcases hv1 with rfl | ⟨et, ex, rfl⟩
 · have HX4 := hd (HX40.out.far HX.out (M := w1.heap.size) (by omega) 2 (.nilIface))
   have HG4 := hd (gaw HG40.out (M := w1.heap.size) (by omega) 2 (.nilIface))
   have HK4 := hd (HK40.out.far ⟨w1.heap.size, 2, none⟩ (.nilIface) d1)
   have HL4 : Hid (Blk (w4.setCell ⟨w1.heap.size, 2, none⟩ (.nilIface)) w1.heap.size #[.slice ao m cp, .string ⟨n.toArray⟩, .nilIface, .slice none 0 0, .bool false, .int .i64 0] 109) := HL40.out.set 2 _
   have HV4 := hd (ls_set HV40.out 2 (.nilIface) ⟨_, _, HL40.out, by decide⟩)
   clear HX40 HG40 HK40 HL40 HV40
   cases hs : Px.sees Px.kORDER q4 with
   | false =>
    have HRO : Hid (Px.ordersR sz q4 (.ok ([], q4))) := by show Px.ordersR _ _ _; unfold Px.ordersR; rw [if_neg (by simp [hs])]
    go_wp2_with fail
    refine (cano ⟨#[79, 82, 68, 69, 82]⟩ _ B lv ts sz q4 _ HX4.out hs (by simp)).mono ?_
    rintro x w5 ⟨rfl, hb5⟩
    have HX5 := hd (HX4.out.below hb5)
    have HG5 := hd (gbt HG4.out (Below.grownBy (row := some B) hb5))
    have HK5 := hd (HK4.out.below hb5 HK4.out.lt)
    have HL5 := hd (HL4.out.below hb5 HL4.out.lt)
    have HV5 : Hid (lsV B 141 2 itemC its (.slice ao m cp) w5) := obw HV4.out hb5
    clear hb5 HX4 HG4 HK4 HL4 HV4
    cases hl : Px.sees Px.kLIMIT q4 with
    | false =>
     go_wp2_with fail
     refine (cano ⟨#[76, 73, 77, 73, 84]⟩ _ B lv ts sz q4 _ HX5.out hl (by simp)).mono ?_
     rintro x w9 ⟨rfl, hb9⟩
     have HX9 := hd (HX5.out.below hb9)
     have HG9 := hd (gbt HG5.out (Below.grownBy (row := some B) hb9))
     have HK9 := hd (HK5.out.below hb9 HK5.out.lt)
     have HL9 := hd (HL5.out.below hb9 HL5.out.lt)
     have HV9 : Hid (lsV B 141 2 itemC its (.slice ao m cp) w9) := obw HV5.out hb9
     have HVO9 : Hid (lsV B 143 2 orderC [] (.slice none 0 0) w9) := World.ownsRow_nil _ _ _ _
     have HXF : Hid (Cx w9 B lv ts sz q4 (deepSt (.select its n o [] none) || dp)) := by
      show Cx _ _ _ _ _ _ _
      rw [deep_select]; exact HX9.out
     clear hb9 HX9
     have m0 : w9.cell? ⟨w.heap.size, 0, none⟩ = some (.slice none 0 0) := HK9.out.cell 0
     have g0 := HK9.out.free 0
     have p0 : w9.cell? ⟨w1.heap.size, 0, none⟩ = some (.slice ao m cp) := HL9.out.cell 0
     have m1 : w9.cell? ⟨w.heap.size, 1, none⟩ = some (.string ⟨#[]⟩) := HK9.out.cell 1
     have g1 := HK9.out.free 1
     have p1 : w9.cell? ⟨w1.heap.size, 1, none⟩ = some (.string ⟨n.toArray⟩) := HL9.out.cell 1
     have m2 : w9.cell? ⟨w.heap.size, 2, none⟩ = some (.nilIface) := HK9.out.cell 2
     have g2 := HK9.out.free 2
     have p2 : w9.cell? ⟨w1.heap.size, 2, none⟩ = some (.nilIface) := HL9.out.cell 2
     have m3 : w9.cell? ⟨w.heap.size, 3, none⟩ = some (.slice none 0 0) := HK9.out.cell 3
     have g3 := HK9.out.free 3
     have p3 : w9.cell? ⟨w1.heap.size, 3, none⟩ = some (.slice none 0 0) := HL9.out.cell 3
     have m4 : w9.cell? ⟨w.heap.size, 4, none⟩ = some (.bool false) := HK9.out.cell 4
     have g4 := HK9.out.free 4
     have p4 : w9.cell? ⟨w1.heap.size, 4, none⟩ = some (.bool false) := HL9.out.cell 4
     have m5 : w9.cell? ⟨w.heap.size, 5, none⟩ = some (.int .i64 0) := HK9.out.cell 5
     have g5 := HK9.out.free 5
     have p5 : w9.cell? ⟨w1.heap.size, 5, none⟩ = some (.int .i64 0) := HL9.out.cell 5
     go_wp2_with fail
     have KF := ((((((HK9.out.set 0 (.slice ao m cp)).set 1 (.string ⟨n.toArray⟩)).set 2 (.nilIface)).set 3 (.slice none 0 0)).set 4 (.bool false)).set 5 (.int .i64 0))
     have e0 := KF.cell 0
     have e1 := KF.cell 1
     have e2 := KF.cell 2
     have e3 := KF.cell 3
     have e4 := KF.cell 4
     have e5 := KF.cell 5
     simp at e0 e1 e2 e3 e4 e5
     refine bodyPost_ret (v := .agg #[.slice ao m cp, .string ⟨n.toArray⟩, .nilIface, .slice none 0 0, .bool false, .int .i64 0]) (by simp [results, Tryz.results89, go_sem, e0, e1, e2, e3, e4, e5]) rfl ?_
     refine OutR.ok (a := Px.St.select its n o [] none) (q' := q4) (gaw (gaw (gaw (gaw (gaw (gaw HG9.out (nlr _) 0 _) (nlr _) 1 _) (nlr _) 2 _) (nlr _) 3 _) (nlr _) 4 _) (nlr _) 5 _) (Px.Rg.go HR1.out (Px.Rg.go HR2.out (Px.Rg.go HR3.out (Px.Rg.go HR4.out (Px.Rg.go HRO.out (Px.Rg.go (lim_no hl) rfl)))))) ⟨.slice ao m cp, .slice none 0 0, by rw [← show (.nilIface : Value) = ev? o from HE.out]; rfl, ?_, ?_⟩ ((((((HXF.out.far HX.out (nlr _) 0 _).far HX.out (nlr _) 1 _).far HX.out (nlr _) 2 _).far HX.out (nlr _) 3 _).far HX.out (nlr _) 4 _).far HX.out (nlr _) 5 _)
     · have s0 := ls_set HV9.out 0 (.slice ao m cp) ⟨_, _, HK9.out, by decide⟩
       have s1 := ls_set s0 1 (.string ⟨n.toArray⟩) ⟨_, _, (HK9.out.set 0 _), by decide⟩
       have s2 := ls_set s1 2 (.nilIface) ⟨_, _, ((HK9.out.set 0 _).set 1 _), by decide⟩
       have s3 := ls_set s2 3 (.slice none 0 0) ⟨_, _, (((HK9.out.set 0 _).set 1 _).set 2 _), by decide⟩
       have s4 := ls_set s3 4 (.bool false) ⟨_, _, ((((HK9.out.set 0 _).set 1 _).set 2 _).set 3 _), by decide⟩
       exact ls_set s4 5 (.int .i64 0) ⟨_, _, (((((HK9.out.set 0 _).set 1 _).set 2 _).set 3 _).set 4 _), by decide⟩
     have s0 := ls_set HVO9.out 0 (.slice ao m cp) ⟨_, _, HK9.out, by decide⟩
     have s1 := ls_set s0 1 (.string ⟨n.toArray⟩) ⟨_, _, (HK9.out.set 0 _), by decide⟩
     have s2 := ls_set s1 2 (.nilIface) ⟨_, _, ((HK9.out.set 0 _).set 1 _), by decide⟩
     have s3 := ls_set s2 3 (.slice none 0 0) ⟨_, _, (((HK9.out.set 0 _).set 1 _).set 2 _), by decide⟩
     have s4 := ls_set s3 4 (.bool false) ⟨_, _, ((((HK9.out.set 0 _).set 1 _).set 2 _).set 3 _), by decide⟩
     exact ls_set s4 5 (.int .i64 0) ⟨_, _, (((((HK9.out.set 0 _).set 1 _).set 2 _).set 3 _).set 4 _), by decide⟩
    | true =>
     go_wp2_with fail
     refine (cay ⟨#[76, 73, 77, 73, 84]⟩ _ B lv ts sz q4 _ HX5.out hl (by simp)).mono ?_
     rintro x w8 ⟨rfl, hx8, hg8⟩
     have HX8 := hd hx8
     have HG8 := hd (gbt HG5.out hg8)
     have HK8 := hd (HK5.out.grown hg8 (by omega))
     have HL8 := hd (HL5.out.grown hg8 (by omega))
     have HV8 := hd (own_far HV5.out hg8)
     have HVO8 : Hid (lsV B 143 2 orderC [] (.slice none 0 0) w8) := World.ownsRow_nil _ _ _ _
     clear hx8 hg8
     go_wp2_with fail
     refine (c_number_any w8 B lv ts sz q4.tail _ HX8.out 1000000000 (by omega)).mono ?_
     rintro x w9 ho
     obtain ⟨hg, ⟨p, c, hr, rfl⟩ | ⟨k, q9, v, hr, rfl, hv, hx⟩⟩ := ho.cases
     · exact ⟨rfl, OutR.err (gbt HG8.out hg) (Px.Rg.go HR1.out (Px.Rg.go HR2.out (Px.Rg.go HR3.out (Px.Rg.go HR4.out (Px.Rg.go HRO.out (Px.Rg.err (lim_of hl hr)))))))⟩
     cases hv
     have HRL := hd (lim_of hl hr)
     have HG9 := hd (gbt HG8.out hg)
     have HK9 := hd (HK8.out.grown hg (by omega))
     have HL9 := hd (HL8.out.grown hg (by omega))
     have HV9 := hd (own_far HV8.out hg)
     have HVO9 := hd (own_far HVO8.out hg)
     have HXF : Hid (Cx w9 B lv ts sz q9 (deepSt (.select its n o [] (some k)) || dp)) := by
      show Cx _ _ _ _ _ _ _
      rw [deep_select]; exact hx
     have f4 := HL9.out.free 4
     have f5 := HL9.out.free 5
     clear hr hx hg ho HX8 HG8 HK8 HL8 HV8 HVO8
     have m0 : w9.cell? ⟨w.heap.size, 0, none⟩ = some (.slice none 0 0) := HK9.out.cell 0
     have g0 := HK9.out.free 0
     have p0 : w9.cell? ⟨w1.heap.size, 0, none⟩ = some (.slice ao m cp) := HL9.out.cell 0
     have m1 : w9.cell? ⟨w.heap.size, 1, none⟩ = some (.string ⟨#[]⟩) := HK9.out.cell 1
     have g1 := HK9.out.free 1
     have p1 : w9.cell? ⟨w1.heap.size, 1, none⟩ = some (.string ⟨n.toArray⟩) := HL9.out.cell 1
     have m2 : w9.cell? ⟨w.heap.size, 2, none⟩ = some (.nilIface) := HK9.out.cell 2
     have g2 := HK9.out.free 2
     have p2 : w9.cell? ⟨w1.heap.size, 2, none⟩ = some (.nilIface) := HL9.out.cell 2
     have m3 : w9.cell? ⟨w.heap.size, 3, none⟩ = some (.slice none 0 0) := HK9.out.cell 3
     have g3 := HK9.out.free 3
     have p3 : w9.cell? ⟨w1.heap.size, 3, none⟩ = some (.slice none 0 0) := HL9.out.cell 3
     have m4 : w9.cell? ⟨w.heap.size, 4, none⟩ = some (.bool false) := HK9.out.cell 4
     have g4 := HK9.out.free 4
     have p4 : w9.cell? ⟨w1.heap.size, 4, none⟩ = some (.bool false) := HL9.out.cell 4
     have m5 : w9.cell? ⟨w.heap.size, 5, none⟩ = some (.int .i64 0) := HK9.out.cell 5
     have g5 := HK9.out.free 5
     have p5 : w9.cell? ⟨w1.heap.size, 5, none⟩ = some (.int .i64 0) := HL9.out.cell 5
     have HK9' := hd ((HK9.out.far ⟨w1.heap.size, 4, none⟩ (.bool true) d1).far ⟨w1.heap.size, 5, none⟩ (.int .i64 (k : Int)) d1)
     have HG9' := hd (gaw (gaw HG9.out (M := w1.heap.size) (by omega) 4 (.bool true)) (M := w1.heap.size) (by omega) 5 (.int .i64 (k : Int)))
     have HXF' := hd ((HXF.out.far HX.out (M := w1.heap.size) (by omega) 4 (.bool true)).far HX.out (M := w1.heap.size) (by omega) 5 (.int .i64 (k : Int)))
     have HV9' := hd (ls_set (ls_set HV9.out 4 (.bool true) ⟨_, _, HL9.out, by decide⟩) 5 (.int .i64 (k : Int)) ⟨_, _, HL9.out.set 4 _, by decide⟩)
     have HVO9' := hd (ls_set (ls_set HVO9.out 4 (.bool true) ⟨_, _, HL9.out, by decide⟩) 5 (.int .i64 (k : Int)) ⟨_, _, HL9.out.set 4 _, by decide⟩)
     clear HK9 HG9 HXF HV9 HVO9
     go_wp2_with fail
     have KF := ((((((HK9'.out.set 0 (.slice ao m cp)).set 1 (.string ⟨n.toArray⟩)).set 2 (.nilIface)).set 3 (.slice none 0 0)).set 4 (.bool true)).set 5 (.int .i64 (k : Int)))
     have e0 := KF.cell 0
     have e1 := KF.cell 1
     have e2 := KF.cell 2
     have e3 := KF.cell 3
     have e4 := KF.cell 4
     have e5 := KF.cell 5
     simp at e0 e1 e2 e3 e4 e5
     refine bodyPost_ret (v := .agg #[.slice ao m cp, .string ⟨n.toArray⟩, .nilIface, .slice none 0 0, .bool true, .int .i64 (k : Int)]) (by simp [results, Tryz.results89, go_sem, e0, e1, e2, e3, e4, e5]) rfl ?_
     refine OutR.ok (a := Px.St.select its n o [] (some k)) (q' := q9) (gaw (gaw (gaw (gaw (gaw (gaw HG9'.out (nlr _) 0 _) (nlr _) 1 _) (nlr _) 2 _) (nlr _) 3 _) (nlr _) 4 _) (nlr _) 5 _) (Px.Rg.go HR1.out (Px.Rg.go HR2.out (Px.Rg.go HR3.out (Px.Rg.go HR4.out (Px.Rg.go HRO.out (Px.Rg.go HRL.out rfl)))))) ⟨.slice ao m cp, .slice none 0 0, by rw [← show (.nilIface : Value) = ev? o from HE.out]; rfl, ?_, ?_⟩ ((((((HXF'.out.far HX.out (nlr _) 0 _).far HX.out (nlr _) 1 _).far HX.out (nlr _) 2 _).far HX.out (nlr _) 3 _).far HX.out (nlr _) 4 _).far HX.out (nlr _) 5 _)
     · have s0 := ls_set HV9'.out 0 (.slice ao m cp) ⟨_, _, HK9'.out, by decide⟩
       have s1 := ls_set s0 1 (.string ⟨n.toArray⟩) ⟨_, _, (HK9'.out.set 0 _), by decide⟩
       have s2 := ls_set s1 2 (.nilIface) ⟨_, _, ((HK9'.out.set 0 _).set 1 _), by decide⟩
       have s3 := ls_set s2 3 (.slice none 0 0) ⟨_, _, (((HK9'.out.set 0 _).set 1 _).set 2 _), by decide⟩
       have s4 := ls_set s3 4 (.bool true) ⟨_, _, ((((HK9'.out.set 0 _).set 1 _).set 2 _).set 3 _), by decide⟩
       exact ls_set s4 5 (.int .i64 (k : Int)) ⟨_, _, (((((HK9'.out.set 0 _).set 1 _).set 2 _).set 3 _).set 4 _), by decide⟩
     have s0 := ls_set HVO9'.out 0 (.slice ao m cp) ⟨_, _, HK9'.out, by decide⟩
     have s1 := ls_set s0 1 (.string ⟨n.toArray⟩) ⟨_, _, (HK9'.out.set 0 _), by decide⟩
     have s2 := ls_set s1 2 (.nilIface) ⟨_, _, ((HK9'.out.set 0 _).set 1 _), by decide⟩
     have s3 := ls_set s2 3 (.slice none 0 0) ⟨_, _, (((HK9'.out.set 0 _).set 1 _).set 2 _), by decide⟩
     have s4 := ls_set s3 4 (.bool true) ⟨_, _, ((((HK9'.out.set 0 _).set 1 _).set 2 _).set 3 _), by decide⟩
     exact ls_set s4 5 (.int .i64 (k : Int)) ⟨_, _, (((((HK9'.out.set 0 _).set 1 _).set 2 _).set 3 _).set 4 _), by decide⟩
   | true =>
    have HRO : Hid (∀ r, Px.Rg.seq (Px.mustR sz Px.kBY) (fun _ => Px.Sep fun _ => Px.orderR sz) q4.tail r → Px.ordersR sz q4 r) := fun r hr => by unfold Px.ordersR; rw [if_pos hs]; exact hr
    go_wp2_with fail
    refine (cay ⟨#[79, 82, 68, 69, 82]⟩ _ B lv ts sz q4 _ HX4.out hs (by simp)).mono ?_
    rintro x w5 ⟨rfl, hx5, hg5⟩
    have HX5 := hd hx5
    have HG5 := hd (gbt HG4.out hg5)
    have HK5 := hd (HK4.out.grown hg5 (by omega))
    have HL5 := hd (HL4.out.grown hg5 (by omega))
    have HV5 := hd (own_far HV4.out hg5)
    clear hx5 hg5 HX4 HG4 HK4 HL4 HV4
    go_wp2_with fail
    refine (c_expect_at ⟨#[66, 89]⟩ w5 _ rfl B lv ts sz q4.tail _ HX5.out (by simp)).mono ?_
    rintro x w6 ho
    obtain ⟨hg, ⟨p, c, hr, rfl⟩ | ⟨_, q6, v, hr, rfl, hv, hx⟩⟩ := ho.cases
    · exact ⟨rfl, OutR.err (gbt HG5.out hg) (Px.Rg.go HR1.out (Px.Rg.go HR2.out (Px.Rg.go HR3.out (Px.Rg.go HR4.out (Px.Rg.err (HRO.out _ (Px.Rg.err hr)))))))⟩
    cases hv
    have HR6 := hd hr
    have HX6 := hd hx
    have HG6 := hd (gbt HG5.out hg)
    have HK6 := hd (HK5.out.grown hg (by omega))
    have HL6 := hd (HL5.out.grown hg (by omega))
    have HV6 := hd (own_far HV5.out hg)
    clear hr hx hg ho HX5 HG5 HK5 HL5 HV5
    go_wp2_with fail
    refine (c_listOrder_any B lv ts sz _ w6 q6 HX6.out).mono ?_
    rintro x w7 ho
    obtain ⟨hg, ⟨p, c, hr, rfl⟩ | ⟨os, q7, v, hr, rfl, hv, hx⟩⟩ := ho.cases
    · exact ⟨rfl, OutR.err (gbt HG6.out hg) (Px.Rg.go HR1.out (Px.Rg.go HR2.out (Px.Rg.go HR3.out (Px.Rg.go HR4.out (Px.Rg.err (HRO.out _ (Px.Rg.go HR6.out hr)))))))⟩
    have HRO7 := hd (HRO.out _ (Px.Rg.go HR6.out hr))
    obtain ⟨bo, bm, bc, rfl⟩ := osl hv
    have HL70 := hd (HL6.out.grown hg (by omega))
    have a3 : w7.cell? ⟨w1.heap.size, 3, none⟩ = some (.slice none 0 0) := HL70.out.cell 3
    have f3 := HL70.out.free 3
    have HX7 := hd (hx.far HX.out (M := w1.heap.size) (by omega) 3 (.slice bo bm bc))
    have HG7 := hd (gaw (gbt HG6.out hg) (M := w1.heap.size) (by omega) 3 (.slice bo bm bc))
    have HK7 := hd ((HK6.out.grown hg (by omega)).far ⟨w1.heap.size, 3, none⟩ (.slice bo bm bc) d1)
    have HL7 : Hid (Blk (w7.setCell ⟨w1.heap.size, 3, none⟩ (.slice bo bm bc)) w1.heap.size #[.slice ao m cp, .string ⟨n.toArray⟩, .nilIface, .slice bo bm bc, .bool false, .int .i64 0] 109) := HL70.out.set 3 _
    have HV7 := hd (ls_set (own_far HV6.out hg) 3 (.slice bo bm bc) ⟨_, _, HL70.out, by decide⟩)
    have HVO7 := hd (ls_set hv 3 (.slice bo bm bc) ⟨_, _, HL70.out, by decide⟩)
    clear hr hx hg ho hv HX6 HG6 HK6 HL6 HV6 HL70 HRO HR6
    cases hl : Px.sees Px.kLIMIT q7 with
    | false =>
     go_wp2_with fail
     refine (cano ⟨#[76, 73, 77, 73, 84]⟩ _ B lv ts sz q7 _ HX7.out hl (by simp)).mono ?_
     rintro x w9 ⟨rfl, hb9⟩
     have HX9 := hd (HX7.out.below hb9)
     have HG9 := hd (gbt HG7.out (Below.grownBy (row := some B) hb9))
     have HK9 := hd (HK7.out.below hb9 HK7.out.lt)
     have HL9 := hd (HL7.out.below hb9 HL7.out.lt)
     have HV9 : Hid (lsV B 141 2 itemC its (.slice ao m cp) w9) := obw HV7.out hb9
     have HVO9 : Hid (lsV B 143 2 orderC os (.slice bo bm bc) w9) := obw HVO7.out hb9
     have HXF : Hid (Cx w9 B lv ts sz q7 (deepSt (.select its n o os none) || dp)) := by
      show Cx _ _ _ _ _ _ _
      rw [deep_select]; exact HX9.out
     clear hb9 HX9
     have m0 : w9.cell? ⟨w.heap.size, 0, none⟩ = some (.slice none 0 0) := HK9.out.cell 0
     have g0 := HK9.out.free 0
     have p0 : w9.cell? ⟨w1.heap.size, 0, none⟩ = some (.slice ao m cp) := HL9.out.cell 0
     have m1 : w9.cell? ⟨w.heap.size, 1, none⟩ = some (.string ⟨#[]⟩) := HK9.out.cell 1
     have g1 := HK9.out.free 1
     have p1 : w9.cell? ⟨w1.heap.size, 1, none⟩ = some (.string ⟨n.toArray⟩) := HL9.out.cell 1
     have m2 : w9.cell? ⟨w.heap.size, 2, none⟩ = some (.nilIface) := HK9.out.cell 2
     have g2 := HK9.out.free 2
     have p2 : w9.cell? ⟨w1.heap.size, 2, none⟩ = some (.nilIface) := HL9.out.cell 2
     have m3 : w9.cell? ⟨w.heap.size, 3, none⟩ = some (.slice none 0 0) := HK9.out.cell 3
     have g3 := HK9.out.free 3
     have p3 : w9.cell? ⟨w1.heap.size, 3, none⟩ = some (.slice bo bm bc) := HL9.out.cell 3
     have m4 : w9.cell? ⟨w.heap.size, 4, none⟩ = some (.bool false) := HK9.out.cell 4
     have g4 := HK9.out.free 4
     have p4 : w9.cell? ⟨w1.heap.size, 4, none⟩ = some (.bool false) := HL9.out.cell 4
     have m5 : w9.cell? ⟨w.heap.size, 5, none⟩ = some (.int .i64 0) := HK9.out.cell 5
     have g5 := HK9.out.free 5
     have p5 : w9.cell? ⟨w1.heap.size, 5, none⟩ = some (.int .i64 0) := HL9.out.cell 5
     go_wp2_with fail
     have KF := ((((((HK9.out.set 0 (.slice ao m cp)).set 1 (.string ⟨n.toArray⟩)).set 2 (.nilIface)).set 3 (.slice bo bm bc)).set 4 (.bool false)).set 5 (.int .i64 0))
     have e0 := KF.cell 0
     have e1 := KF.cell 1
     have e2 := KF.cell 2
     have e3 := KF.cell 3
     have e4 := KF.cell 4
     have e5 := KF.cell 5
     simp at e0 e1 e2 e3 e4 e5
     refine bodyPost_ret (v := .agg #[.slice ao m cp, .string ⟨n.toArray⟩, .nilIface, .slice bo bm bc, .bool false, .int .i64 0]) (by simp [results, Tryz.results89, go_sem, e0, e1, e2, e3, e4, e5]) rfl ?_
     refine OutR.ok (a := Px.St.select its n o os none) (q' := q7) (gaw (gaw (gaw (gaw (gaw (gaw HG9.out (nlr _) 0 _) (nlr _) 1 _) (nlr _) 2 _) (nlr _) 3 _) (nlr _) 4 _) (nlr _) 5 _) (Px.Rg.go HR1.out (Px.Rg.go HR2.out (Px.Rg.go HR3.out (Px.Rg.go HR4.out (Px.Rg.go HRO7.out (Px.Rg.go (lim_no hl) rfl)))))) ⟨.slice ao m cp, .slice bo bm bc, by rw [← show (.nilIface : Value) = ev? o from HE.out]; rfl, ?_, ?_⟩ ((((((HXF.out.far HX.out (nlr _) 0 _).far HX.out (nlr _) 1 _).far HX.out (nlr _) 2 _).far HX.out (nlr _) 3 _).far HX.out (nlr _) 4 _).far HX.out (nlr _) 5 _)
     · have s0 := ls_set HV9.out 0 (.slice ao m cp) ⟨_, _, HK9.out, by decide⟩
       have s1 := ls_set s0 1 (.string ⟨n.toArray⟩) ⟨_, _, (HK9.out.set 0 _), by decide⟩
       have s2 := ls_set s1 2 (.nilIface) ⟨_, _, ((HK9.out.set 0 _).set 1 _), by decide⟩
       have s3 := ls_set s2 3 (.slice bo bm bc) ⟨_, _, (((HK9.out.set 0 _).set 1 _).set 2 _), by decide⟩
       have s4 := ls_set s3 4 (.bool false) ⟨_, _, ((((HK9.out.set 0 _).set 1 _).set 2 _).set 3 _), by decide⟩
       exact ls_set s4 5 (.int .i64 0) ⟨_, _, (((((HK9.out.set 0 _).set 1 _).set 2 _).set 3 _).set 4 _), by decide⟩
     have s0 := ls_set HVO9.out 0 (.slice ao m cp) ⟨_, _, HK9.out, by decide⟩
     have s1 := ls_set s0 1 (.string ⟨n.toArray⟩) ⟨_, _, (HK9.out.set 0 _), by decide⟩
     have s2 := ls_set s1 2 (.nilIface) ⟨_, _, ((HK9.out.set 0 _).set 1 _), by decide⟩
     have s3 := ls_set s2 3 (.slice bo bm bc) ⟨_, _, (((HK9.out.set 0 _).set 1 _).set 2 _), by decide⟩
     have s4 := ls_set s3 4 (.bool false) ⟨_, _, ((((HK9.out.set 0 _).set 1 _).set 2 _).set 3 _), by decide⟩
     exact ls_set s4 5 (.int .i64 0) ⟨_, _, (((((HK9.out.set 0 _).set 1 _).set 2 _).set 3 _).set 4 _), by decide⟩
    | true =>
     go_wp2_with fail
     refine (cay ⟨#[76, 73, 77, 73, 84]⟩ _ B lv ts sz q7 _ HX7.out hl (by simp)).mono ?_
     rintro x w8 ⟨rfl, hx8, hg8⟩
     have HX8 := hd hx8
     have HG8 := hd (gbt HG7.out hg8)
     have HK8 := hd (HK7.out.grown hg8 (by omega))
     have HL8 := hd (HL7.out.grown hg8 (by omega))
     have HV8 := hd (own_far HV7.out hg8)
     have HVO8 : Hid (lsV B 143 2 orderC os (.slice bo bm bc) w8) := own_far HVO7.out hg8
     clear hx8 hg8
     go_wp2_with fail
     refine (c_number_any w8 B lv ts sz q7.tail _ HX8.out 1000000000 (by omega)).mono ?_
     rintro x w9 ho
     obtain ⟨hg, ⟨p, c, hr, rfl⟩ | ⟨k, q9, v, hr, rfl, hv, hx⟩⟩ := ho.cases
     · exact ⟨rfl, OutR.err (gbt HG8.out hg) (Px.Rg.go HR1.out (Px.Rg.go HR2.out (Px.Rg.go HR3.out (Px.Rg.go HR4.out (Px.Rg.go HRO7.out (Px.Rg.err (lim_of hl hr)))))))⟩
     cases hv
     have HRL := hd (lim_of hl hr)
     have HG9 := hd (gbt HG8.out hg)
     have HK9 := hd (HK8.out.grown hg (by omega))
     have HL9 := hd (HL8.out.grown hg (by omega))
     have HV9 := hd (own_far HV8.out hg)
     have HVO9 := hd (own_far HVO8.out hg)
     have HXF : Hid (Cx w9 B lv ts sz q9 (deepSt (.select its n o os (some k)) || dp)) := by
      show Cx _ _ _ _ _ _ _
      rw [deep_select]; exact hx
     have f4 := HL9.out.free 4
     have f5 := HL9.out.free 5
     clear hr hx hg ho HX8 HG8 HK8 HL8 HV8 HVO8
     have m0 : w9.cell? ⟨w.heap.size, 0, none⟩ = some (.slice none 0 0) := HK9.out.cell 0
     have g0 := HK9.out.free 0
     have p0 : w9.cell? ⟨w1.heap.size, 0, none⟩ = some (.slice ao m cp) := HL9.out.cell 0
     have m1 : w9.cell? ⟨w.heap.size, 1, none⟩ = some (.string ⟨#[]⟩) := HK9.out.cell 1
     have g1 := HK9.out.free 1
     have p1 : w9.cell? ⟨w1.heap.size, 1, none⟩ = some (.string ⟨n.toArray⟩) := HL9.out.cell 1
     have m2 : w9.cell? ⟨w.heap.size, 2, none⟩ = some (.nilIface) := HK9.out.cell 2
     have g2 := HK9.out.free 2
     have p2 : w9.cell? ⟨w1.heap.size, 2, none⟩ = some (.nilIface) := HL9.out.cell 2
     have m3 : w9.cell? ⟨w.heap.size, 3, none⟩ = some (.slice none 0 0) := HK9.out.cell 3
     have g3 := HK9.out.free 3
     have p3 : w9.cell? ⟨w1.heap.size, 3, none⟩ = some (.slice bo bm bc) := HL9.out.cell 3
     have m4 : w9.cell? ⟨w.heap.size, 4, none⟩ = some (.bool false) := HK9.out.cell 4
     have g4 := HK9.out.free 4
     have p4 : w9.cell? ⟨w1.heap.size, 4, none⟩ = some (.bool false) := HL9.out.cell 4
     have m5 : w9.cell? ⟨w.heap.size, 5, none⟩ = some (.int .i64 0) := HK9.out.cell 5
     have g5 := HK9.out.free 5
     have p5 : w9.cell? ⟨w1.heap.size, 5, none⟩ = some (.int .i64 0) := HL9.out.cell 5
     have HK9' := hd ((HK9.out.far ⟨w1.heap.size, 4, none⟩ (.bool true) d1).far ⟨w1.heap.size, 5, none⟩ (.int .i64 (k : Int)) d1)
     have HG9' := hd (gaw (gaw HG9.out (M := w1.heap.size) (by omega) 4 (.bool true)) (M := w1.heap.size) (by omega) 5 (.int .i64 (k : Int)))
     have HXF' := hd ((HXF.out.far HX.out (M := w1.heap.size) (by omega) 4 (.bool true)).far HX.out (M := w1.heap.size) (by omega) 5 (.int .i64 (k : Int)))
     have HV9' := hd (ls_set (ls_set HV9.out 4 (.bool true) ⟨_, _, HL9.out, by decide⟩) 5 (.int .i64 (k : Int)) ⟨_, _, HL9.out.set 4 _, by decide⟩)
     have HVO9' := hd (ls_set (ls_set HVO9.out 4 (.bool true) ⟨_, _, HL9.out, by decide⟩) 5 (.int .i64 (k : Int)) ⟨_, _, HL9.out.set 4 _, by decide⟩)
     clear HK9 HG9 HXF HV9 HVO9
     go_wp2_with fail
     have KF := ((((((HK9'.out.set 0 (.slice ao m cp)).set 1 (.string ⟨n.toArray⟩)).set 2 (.nilIface)).set 3 (.slice bo bm bc)).set 4 (.bool true)).set 5 (.int .i64 (k : Int)))
     have e0 := KF.cell 0
     have e1 := KF.cell 1
     have e2 := KF.cell 2
     have e3 := KF.cell 3
     have e4 := KF.cell 4
     have e5 := KF.cell 5
     simp at e0 e1 e2 e3 e4 e5
     refine bodyPost_ret (v := .agg #[.slice ao m cp, .string ⟨n.toArray⟩, .nilIface, .slice bo bm bc, .bool true, .int .i64 (k : Int)]) (by simp [results, Tryz.results89, go_sem, e0, e1, e2, e3, e4, e5]) rfl ?_
     refine OutR.ok (a := Px.St.select its n o os (some k)) (q' := q9) (gaw (gaw (gaw (gaw (gaw (gaw HG9'.out (nlr _) 0 _) (nlr _) 1 _) (nlr _) 2 _) (nlr _) 3 _) (nlr _) 4 _) (nlr _) 5 _) (Px.Rg.go HR1.out (Px.Rg.go HR2.out (Px.Rg.go HR3.out (Px.Rg.go HR4.out (Px.Rg.go HRO7.out (Px.Rg.go HRL.out rfl)))))) ⟨.slice ao m cp, .slice bo bm bc, by rw [← show (.nilIface : Value) = ev? o from HE.out]; rfl, ?_, ?_⟩ ((((((HXF'.out.far HX.out (nlr _) 0 _).far HX.out (nlr _) 1 _).far HX.out (nlr _) 2 _).far HX.out (nlr _) 3 _).far HX.out (nlr _) 4 _).far HX.out (nlr _) 5 _)
     · have s0 := ls_set HV9'.out 0 (.slice ao m cp) ⟨_, _, HK9'.out, by decide⟩
       have s1 := ls_set s0 1 (.string ⟨n.toArray⟩) ⟨_, _, (HK9'.out.set 0 _), by decide⟩
       have s2 := ls_set s1 2 (.nilIface) ⟨_, _, ((HK9'.out.set 0 _).set 1 _), by decide⟩
       have s3 := ls_set s2 3 (.slice bo bm bc) ⟨_, _, (((HK9'.out.set 0 _).set 1 _).set 2 _), by decide⟩
       have s4 := ls_set s3 4 (.bool true) ⟨_, _, ((((HK9'.out.set 0 _).set 1 _).set 2 _).set 3 _), by decide⟩
       exact ls_set s4 5 (.int .i64 (k : Int)) ⟨_, _, (((((HK9'.out.set 0 _).set 1 _).set 2 _).set 3 _).set 4 _), by decide⟩
     have s0 := ls_set HVO9'.out 0 (.slice ao m cp) ⟨_, _, HK9'.out, by decide⟩
     have s1 := ls_set s0 1 (.string ⟨n.toArray⟩) ⟨_, _, (HK9'.out.set 0 _), by decide⟩
     have s2 := ls_set s1 2 (.nilIface) ⟨_, _, ((HK9'.out.set 0 _).set 1 _), by decide⟩
     have s3 := ls_set s2 3 (.slice bo bm bc) ⟨_, _, (((HK9'.out.set 0 _).set 1 _).set 2 _), by decide⟩
     have s4 := ls_set s3 4 (.bool true) ⟨_, _, ((((HK9'.out.set 0 _).set 1 _).set 2 _).set 3 _), by decide⟩
     exact ls_set s4 5 (.int .i64 (k : Int)) ⟨_, _, (((((HK9'.out.set 0 _).set 1 _).set 2 _).set 3 _).set 4 _), by decide⟩
 have HX4 := hd (HX40.out.far HX.out (M := w1.heap.size) (by omega) 2 (.iface et ex))
 have HG4 := hd (gaw HG40.out (M := w1.heap.size) (by omega) 2 (.iface et ex))
 have HK4 := hd (HK40.out.far ⟨w1.heap.size, 2, none⟩ (.iface et ex) d1)
 have HL4 : Hid (Blk (w4.setCell ⟨w1.heap.size, 2, none⟩ (.iface et ex)) w1.heap.size #[.slice ao m cp, .string ⟨n.toArray⟩, .iface et ex, .slice none 0 0, .bool false, .int .i64 0] 109) := HL40.out.set 2 _
 have HV4 := hd (ls_set HV40.out 2 (.iface et ex) ⟨_, _, HL40.out, by decide⟩)
 clear HX40 HG40 HK40 HL40 HV40
 cases hs : Px.sees Px.kORDER q4 with
 | false =>
  have HRO : Hid (Px.ordersR sz q4 (.ok ([], q4))) := by show Px.ordersR _ _ _; unfold Px.ordersR; rw [if_neg (by simp [hs])]
  go_wp2_with fail
  refine (cano ⟨#[79, 82, 68, 69, 82]⟩ _ B lv ts sz q4 _ HX4.out hs (by simp)).mono ?_
  rintro x w5 ⟨rfl, hb5⟩
  have HX5 := hd (HX4.out.below hb5)
  have HG5 := hd (gbt HG4.out (Below.grownBy (row := some B) hb5))
  have HK5 := hd (HK4.out.below hb5 HK4.out.lt)
  have HL5 := hd (HL4.out.below hb5 HL4.out.lt)
  have HV5 : Hid (lsV B 141 2 itemC its (.slice ao m cp) w5) := obw HV4.out hb5
  clear hb5 HX4 HG4 HK4 HL4 HV4
  cases hl : Px.sees Px.kLIMIT q4 with
  | false =>
   go_wp2_with fail
   refine (cano ⟨#[76, 73, 77, 73, 84]⟩ _ B lv ts sz q4 _ HX5.out hl (by simp)).mono ?_
   rintro x w9 ⟨rfl, hb9⟩
   have HX9 := hd (HX5.out.below hb9)
   have HG9 := hd (gbt HG5.out (Below.grownBy (row := some B) hb9))
   have HK9 := hd (HK5.out.below hb9 HK5.out.lt)
   have HL9 := hd (HL5.out.below hb9 HL5.out.lt)
   have HV9 : Hid (lsV B 141 2 itemC its (.slice ao m cp) w9) := obw HV5.out hb9
   have HVO9 : Hid (lsV B 143 2 orderC [] (.slice none 0 0) w9) := World.ownsRow_nil _ _ _ _
   have HXF : Hid (Cx w9 B lv ts sz q4 (deepSt (.select its n o [] none) || dp)) := by
    show Cx _ _ _ _ _ _ _
    rw [deep_select]; exact HX9.out
   clear hb9 HX9
   have m0 : w9.cell? ⟨w.heap.size, 0, none⟩ = some (.slice none 0 0) := HK9.out.cell 0
   have g0 := HK9.out.free 0
   have p0 : w9.cell? ⟨w1.heap.size, 0, none⟩ = some (.slice ao m cp) := HL9.out.cell 0
   have m1 : w9.cell? ⟨w.heap.size, 1, none⟩ = some (.string ⟨#[]⟩) := HK9.out.cell 1
   have g1 := HK9.out.free 1
   have p1 : w9.cell? ⟨w1.heap.size, 1, none⟩ = some (.string ⟨n.toArray⟩) := HL9.out.cell 1
   have m2 : w9.cell? ⟨w.heap.size, 2, none⟩ = some (.nilIface) := HK9.out.cell 2
   have g2 := HK9.out.free 2
   have p2 : w9.cell? ⟨w1.heap.size, 2, none⟩ = some (.iface et ex) := HL9.out.cell 2
   have m3 : w9.cell? ⟨w.heap.size, 3, none⟩ = some (.slice none 0 0) := HK9.out.cell 3
   have g3 := HK9.out.free 3
   have p3 : w9.cell? ⟨w1.heap.size, 3, none⟩ = some (.slice none 0 0) := HL9.out.cell 3
   have m4 : w9.cell? ⟨w.heap.size, 4, none⟩ = some (.bool false) := HK9.out.cell 4
   have g4 := HK9.out.free 4
   have p4 : w9.cell? ⟨w1.heap.size, 4, none⟩ = some (.bool false) := HL9.out.cell 4
   have m5 : w9.cell? ⟨w.heap.size, 5, none⟩ = some (.int .i64 0) := HK9.out.cell 5
   have g5 := HK9.out.free 5
   have p5 : w9.cell? ⟨w1.heap.size, 5, none⟩ = some (.int .i64 0) := HL9.out.cell 5
   go_wp2_with fail
   have KF := ((((((HK9.out.set 0 (.slice ao m cp)).set 1 (.string ⟨n.toArray⟩)).set 2 (.iface et ex)).set 3 (.slice none 0 0)).set 4 (.bool false)).set 5 (.int .i64 0))
   have e0 := KF.cell 0
   have e1 := KF.cell 1
   have e2 := KF.cell 2
   have e3 := KF.cell 3
   have e4 := KF.cell 4
   have e5 := KF.cell 5
   simp at e0 e1 e2 e3 e4 e5
   refine bodyPost_ret (v := .agg #[.slice ao m cp, .string ⟨n.toArray⟩, .iface et ex, .slice none 0 0, .bool false, .int .i64 0]) (by simp [results, Tryz.results89, go_sem, e0, e1, e2, e3, e4, e5]) rfl ?_
   refine OutR.ok (a := Px.St.select its n o [] none) (q' := q4) (gaw (gaw (gaw (gaw (gaw (gaw HG9.out (nlr _) 0 _) (nlr _) 1 _) (nlr _) 2 _) (nlr _) 3 _) (nlr _) 4 _) (nlr _) 5 _) (Px.Rg.go HR1.out (Px.Rg.go HR2.out (Px.Rg.go HR3.out (Px.Rg.go HR4.out (Px.Rg.go HRO.out (Px.Rg.go (lim_no hl) rfl)))))) ⟨.slice ao m cp, .slice none 0 0, by rw [← show (.iface et ex : Value) = ev? o from HE.out]; rfl, ?_, ?_⟩ ((((((HXF.out.far HX.out (nlr _) 0 _).far HX.out (nlr _) 1 _).far HX.out (nlr _) 2 _).far HX.out (nlr _) 3 _).far HX.out (nlr _) 4 _).far HX.out (nlr _) 5 _)
   · have s0 := ls_set HV9.out 0 (.slice ao m cp) ⟨_, _, HK9.out, by decide⟩
     have s1 := ls_set s0 1 (.string ⟨n.toArray⟩) ⟨_, _, (HK9.out.set 0 _), by decide⟩
     have s2 := ls_set s1 2 (.iface et ex) ⟨_, _, ((HK9.out.set 0 _).set 1 _), by decide⟩
     have s3 := ls_set s2 3 (.slice none 0 0) ⟨_, _, (((HK9.out.set 0 _).set 1 _).set 2 _), by decide⟩
     have s4 := ls_set s3 4 (.bool false) ⟨_, _, ((((HK9.out.set 0 _).set 1 _).set 2 _).set 3 _), by decide⟩
     exact ls_set s4 5 (.int .i64 0) ⟨_, _, (((((HK9.out.set 0 _).set 1 _).set 2 _).set 3 _).set 4 _), by decide⟩
   have s0 := ls_set HVO9.out 0 (.slice ao m cp) ⟨_, _, HK9.out, by decide⟩
   have s1 := ls_set s0 1 (.string ⟨n.toArray⟩) ⟨_, _, (HK9.out.set 0 _), by decide⟩
   have s2 := ls_set s1 2 (.iface et ex) ⟨_, _, ((HK9.out.set 0 _).set 1 _), by decide⟩
   have s3 := ls_set s2 3 (.slice none 0 0) ⟨_, _, (((HK9.out.set 0 _).set 1 _).set 2 _), by decide⟩
   have s4 := ls_set s3 4 (.bool false) ⟨_, _, ((((HK9.out.set 0 _).set 1 _).set 2 _).set 3 _), by decide⟩
   exact ls_set s4 5 (.int .i64 0) ⟨_, _, (((((HK9.out.set 0 _).set 1 _).set 2 _).set 3 _).set 4 _), by decide⟩
  | true =>
   go_wp2_with fail
   refine (cay ⟨#[76, 73, 77, 73, 84]⟩ _ B lv ts sz q4 _ HX5.out hl (by simp)).mono ?_
   rintro x w8 ⟨rfl, hx8, hg8⟩
   have HX8 := hd hx8
   have HG8 := hd (gbt HG5.out hg8)
   have HK8 := hd (HK5.out.grown hg8 (by omega))
   have HL8 := hd (HL5.out.grown hg8 (by omega))
   have HV8 := hd (own_far HV5.out hg8)
   have HVO8 : Hid (lsV B 143 2 orderC [] (.slice none 0 0) w8) := World.ownsRow_nil _ _ _ _
   clear hx8 hg8
   go_wp2_with fail
   refine (c_number_any w8 B lv ts sz q4.tail _ HX8.out 1000000000 (by omega)).mono ?_
   rintro x w9 ho
   obtain ⟨hg, ⟨p, c, hr, rfl⟩ | ⟨k, q9, v, hr, rfl, hv, hx⟩⟩ := ho.cases
   · exact ⟨rfl, OutR.err (gbt HG8.out hg) (Px.Rg.go HR1.out (Px.Rg.go HR2.out (Px.Rg.go HR3.out (Px.Rg.go HR4.out (Px.Rg.go HRO.out (Px.Rg.err (lim_of hl hr)))))))⟩
   cases hv
   have HRL := hd (lim_of hl hr)
   have HG9 := hd (gbt HG8.out hg)
   have HK9 := hd (HK8.out.grown hg (by omega))
   have HL9 := hd (HL8.out.grown hg (by omega))
   have HV9 := hd (own_far HV8.out hg)
   have HVO9 := hd (own_far HVO8.out hg)
   have HXF : Hid (Cx w9 B lv ts sz q9 (deepSt (.select its n o [] (some k)) || dp)) := by
    show Cx _ _ _ _ _ _ _
    rw [deep_select]; exact hx
   have f4 := HL9.out.free 4
   have f5 := HL9.out.free 5
   clear hr hx hg ho HX8 HG8 HK8 HL8 HV8 HVO8
   have m0 : w9.cell? ⟨w.heap.size, 0, none⟩ = some (.slice none 0 0) := HK9.out.cell 0
   have g0 := HK9.out.free 0
   have p0 : w9.cell? ⟨w1.heap.size, 0, none⟩ = some (.slice ao m cp) := HL9.out.cell 0
   have m1 : w9.cell? ⟨w.heap.size, 1, none⟩ = some (.string ⟨#[]⟩) := HK9.out.cell 1
   have g1 := HK9.out.free 1
   have p1 : w9.cell? ⟨w1.heap.size, 1, none⟩ = some (.string ⟨n.toArray⟩) := HL9.out.cell 1
   have m2 : w9.cell? ⟨w.heap.size, 2, none⟩ = some (.nilIface) := HK9.out.cell 2
   have g2 := HK9.out.free 2
   have p2 : w9.cell? ⟨w1.heap.size, 2, none⟩ = some (.iface et ex) := HL9.out.cell 2
   have m3 : w9.cell? ⟨w.heap.size, 3, none⟩ = some (.slice none 0 0) := HK9.out.cell 3
   have g3 := HK9.out.free 3
   have p3 : w9.cell? ⟨w1.heap.size, 3, none⟩ = some (.slice none 0 0) := HL9.out.cell 3
   have m4 : w9.cell? ⟨w.heap.size, 4, none⟩ = some (.bool false) := HK9.out.cell 4
   have g4 := HK9.out.free 4
   have p4 : w9.cell? ⟨w1.heap.size, 4, none⟩ = some (.bool false) := HL9.out.cell 4
   have m5 : w9.cell? ⟨w.heap.size, 5, none⟩ = some (.int .i64 0) := HK9.out.cell 5
   have g5 := HK9.out.free 5
   have p5 : w9.cell? ⟨w1.heap.size, 5, none⟩ = some (.int .i64 0) := HL9.out.cell 5
   have HK9' := hd ((HK9.out.far ⟨w1.heap.size, 4, none⟩ (.bool true) d1).far ⟨w1.heap.size, 5, none⟩ (.int .i64 (k : Int)) d1)
   have HG9' := hd (gaw (gaw HG9.out (M := w1.heap.size) (by omega) 4 (.bool true)) (M := w1.heap.size) (by omega) 5 (.int .i64 (k : Int)))
   have HXF' := hd ((HXF.out.far HX.out (M := w1.heap.size) (by omega) 4 (.bool true)).far HX.out (M := w1.heap.size) (by omega) 5 (.int .i64 (k : Int)))
   have HV9' := hd (ls_set (ls_set HV9.out 4 (.bool true) ⟨_, _, HL9.out, by decide⟩) 5 (.int .i64 (k : Int)) ⟨_, _, HL9.out.set 4 _, by decide⟩)
   have HVO9' := hd (ls_set (ls_set HVO9.out 4 (.bool true) ⟨_, _, HL9.out, by decide⟩) 5 (.int .i64 (k : Int)) ⟨_, _, HL9.out.set 4 _, by decide⟩)
   clear HK9 HG9 HXF HV9 HVO9
   go_wp2_with fail
   have KF := ((((((HK9'.out.set 0 (.slice ao m cp)).set 1 (.string ⟨n.toArray⟩)).set 2 (.iface et ex)).set 3 (.slice none 0 0)).set 4 (.bool true)).set 5 (.int .i64 (k : Int)))
   have e0 := KF.cell 0
   have e1 := KF.cell 1
   have e2 := KF.cell 2
   have e3 := KF.cell 3
   have e4 := KF.cell 4
   have e5 := KF.cell 5
   simp at e0 e1 e2 e3 e4 e5
   refine bodyPost_ret (v := .agg #[.slice ao m cp, .string ⟨n.toArray⟩, .iface et ex, .slice none 0 0, .bool true, .int .i64 (k : Int)]) (by simp [results, Tryz.results89, go_sem, e0, e1, e2, e3, e4, e5]) rfl ?_
   refine OutR.ok (a := Px.St.select its n o [] (some k)) (q' := q9) (gaw (gaw (gaw (gaw (gaw (gaw HG9'.out (nlr _) 0 _) (nlr _) 1 _) (nlr _) 2 _) (nlr _) 3 _) (nlr _) 4 _) (nlr _) 5 _) (Px.Rg.go HR1.out (Px.Rg.go HR2.out (Px.Rg.go HR3.out (Px.Rg.go HR4.out (Px.Rg.go HRO.out (Px.Rg.go HRL.out rfl)))))) ⟨.slice ao m cp, .slice none 0 0, by rw [← show (.iface et ex : Value) = ev? o from HE.out]; rfl, ?_, ?_⟩ ((((((HXF'.out.far HX.out (nlr _) 0 _).far HX.out (nlr _) 1 _).far HX.out (nlr _) 2 _).far HX.out (nlr _) 3 _).far HX.out (nlr _) 4 _).far HX.out (nlr _) 5 _)
   · have s0 := ls_set HV9'.out 0 (.slice ao m cp) ⟨_, _, HK9'.out, by decide⟩
     have s1 := ls_set s0 1 (.string ⟨n.toArray⟩) ⟨_, _, (HK9'.out.set 0 _), by decide⟩
     have s2 := ls_set s1 2 (.iface et ex) ⟨_, _, ((HK9'.out.set 0 _).set 1 _), by decide⟩
     have s3 := ls_set s2 3 (.slice none 0 0) ⟨_, _, (((HK9'.out.set 0 _).set 1 _).set 2 _), by decide⟩
     have s4 := ls_set s3 4 (.bool true) ⟨_, _, ((((HK9'.out.set 0 _).set 1 _).set 2 _).set 3 _), by decide⟩
     exact ls_set s4 5 (.int .i64 (k : Int)) ⟨_, _, (((((HK9'.out.set 0 _).set 1 _).set 2 _).set 3 _).set 4 _), by decide⟩
   have s0 := ls_set HVO9'.out 0 (.slice ao m cp) ⟨_, _, HK9'.out, by decide⟩
   have s1 := ls_set s0 1 (.string ⟨n.toArray⟩) ⟨_, _, (HK9'.out.set 0 _), by decide⟩
   have s2 := ls_set s1 2 (.iface et ex) ⟨_, _, ((HK9'.out.set 0 _).set 1 _), by decide⟩
   have s3 := ls_set s2 3 (.slice none 0 0) ⟨_, _, (((HK9'.out.set 0 _).set 1 _).set 2 _), by decide⟩
   have s4 := ls_set s3 4 (.bool true) ⟨_, _, ((((HK9'.out.set 0 _).set 1 _).set 2 _).set 3 _), by decide⟩
   exact ls_set s4 5 (.int .i64 (k : Int)) ⟨_, _, (((((HK9'.out.set 0 _).set 1 _).set 2 _).set 3 _).set 4 _), by decide⟩
 | true =>
  have HRO : Hid (∀ r, Px.Rg.seq (Px.mustR sz Px.kBY) (fun _ => Px.Sep fun _ => Px.orderR sz) q4.tail r → Px.ordersR sz q4 r) := fun r hr => by unfold Px.ordersR; rw [if_pos hs]; exact hr
  go_wp2_with fail
  refine (cay ⟨#[79, 82, 68, 69, 82]⟩ _ B lv ts sz q4 _ HX4.out hs (by simp)).mono ?_
  rintro x w5 ⟨rfl, hx5, hg5⟩
  have HX5 := hd hx5
  have HG5 := hd (gbt HG4.out hg5)
  have HK5 := hd (HK4.out.grown hg5 (by omega))
  have HL5 := hd (HL4.out.grown hg5 (by omega))
  have HV5 := hd (own_far HV4.out hg5)
  clear hx5 hg5 HX4 HG4 HK4 HL4 HV4
  go_wp2_with fail
  refine (c_expect_at ⟨#[66, 89]⟩ w5 _ rfl B lv ts sz q4.tail _ HX5.out (by simp)).mono ?_
  rintro x w6 ho
  obtain ⟨hg, ⟨p, c, hr, rfl⟩ | ⟨_, q6, v, hr, rfl, hv, hx⟩⟩ := ho.cases
  · exact ⟨rfl, OutR.err (gbt HG5.out hg) (Px.Rg.go HR1.out (Px.Rg.go HR2.out (Px.Rg.go HR3.out (Px.Rg.go HR4.out (Px.Rg.err (HRO.out _ (Px.Rg.err hr)))))))⟩
  cases hv
  have HR6 := hd hr
  have HX6 := hd hx
  have HG6 := hd (gbt HG5.out hg)
  have HK6 := hd (HK5.out.grown hg (by omega))
  have HL6 := hd (HL5.out.grown hg (by omega))
  have HV6 := hd (own_far HV5.out hg)
  clear hr hx hg ho HX5 HG5 HK5 HL5 HV5
  go_wp2_with fail
  refine (c_listOrder_any B lv ts sz _ w6 q6 HX6.out).mono ?_
  rintro x w7 ho
  obtain ⟨hg, ⟨p, c, hr, rfl⟩ | ⟨os, q7, v, hr, rfl, hv, hx⟩⟩ := ho.cases
  · exact ⟨rfl, OutR.err (gbt HG6.out hg) (Px.Rg.go HR1.out (Px.Rg.go HR2.out (Px.Rg.go HR3.out (Px.Rg.go HR4.out (Px.Rg.err (HRO.out _ (Px.Rg.go HR6.out hr)))))))⟩
  have HRO7 := hd (HRO.out _ (Px.Rg.go HR6.out hr))
  obtain ⟨bo, bm, bc, rfl⟩ := osl hv
  have HL70 := hd (HL6.out.grown hg (by omega))
  have a3 : w7.cell? ⟨w1.heap.size, 3, none⟩ = some (.slice none 0 0) := HL70.out.cell 3
  have f3 := HL70.out.free 3
  have HX7 := hd (hx.far HX.out (M := w1.heap.size) (by omega) 3 (.slice bo bm bc))
  have HG7 := hd (gaw (gbt HG6.out hg) (M := w1.heap.size) (by omega) 3 (.slice bo bm bc))
  have HK7 := hd ((HK6.out.grown hg (by omega)).far ⟨w1.heap.size, 3, none⟩ (.slice bo bm bc) d1)
  have HL7 : Hid (Blk (w7.setCell ⟨w1.heap.size, 3, none⟩ (.slice bo bm bc)) w1.heap.size #[.slice ao m cp, .string ⟨n.toArray⟩, .iface et ex, .slice bo bm bc, .bool false, .int .i64 0] 109) := HL70.out.set 3 _
  have HV7 := hd (ls_set (own_far HV6.out hg) 3 (.slice bo bm bc) ⟨_, _, HL70.out, by decide⟩)
  have HVO7 := hd (ls_set hv 3 (.slice bo bm bc) ⟨_, _, HL70.out, by decide⟩)
  clear hr hx hg ho hv HX6 HG6 HK6 HL6 HV6 HL70 HRO HR6
  cases hl : Px.sees Px.kLIMIT q7 with
  | false =>
   go_wp2_with fail
   refine (cano ⟨#[76, 73, 77, 73, 84]⟩ _ B lv ts sz q7 _ HX7.out hl (by simp)).mono ?_
   rintro x w9 ⟨rfl, hb9⟩
   have HX9 := hd (HX7.out.below hb9)
   have HG9 := hd (gbt HG7.out (Below.grownBy (row := some B) hb9))
   have HK9 := hd (HK7.out.below hb9 HK7.out.lt)
   have HL9 := hd (HL7.out.below hb9 HL7.out.lt)
   have HV9 : Hid (lsV B 141 2 itemC its (.slice ao m cp) w9) := obw HV7.out hb9
   have HVO9 : Hid (lsV B 143 2 orderC os (.slice bo bm bc) w9) := obw HVO7.out hb9
   have HXF : Hid (Cx w9 B lv ts sz q7 (deepSt (.select its n o os none) || dp)) := by
    show Cx _ _ _ _ _ _ _
    rw [deep_select]; exact HX9.out
   clear hb9 HX9
   have m0 : w9.cell? ⟨w.heap.size, 0, none⟩ = some (.slice none 0 0) := HK9.out.cell 0
   have g0 := HK9.out.free 0
   have p0 : w9.cell? ⟨w1.heap.size, 0, none⟩ = some (.slice ao m cp) := HL9.out.cell 0
   have m1 : w9.cell? ⟨w.heap.size, 1, none⟩ = some (.string ⟨#[]⟩) := HK9.out.cell 1
   have g1 := HK9.out.free 1
   have p1 : w9.cell? ⟨w1.heap.size, 1, none⟩ = some (.string ⟨n.toArray⟩) := HL9.out.cell 1
   have m2 : w9.cell? ⟨w.heap.size, 2, none⟩ = some (.nilIface) := HK9.out.cell 2
   have g2 := HK9.out.free 2
   have p2 : w9.cell? ⟨w1.heap.size, 2, none⟩ = some (.iface et ex) := HL9.out.cell 2
   have m3 : w9.cell? ⟨w.heap.size, 3, none⟩ = some (.slice none 0 0) := HK9.out.cell 3
   have g3 := HK9.out.free 3
   have p3 : w9.cell? ⟨w1.heap.size, 3, none⟩ = some (.slice bo bm bc) := HL9.out.cell 3
   have m4 : w9.cell? ⟨w.heap.size, 4, none⟩ = some (.bool false) := HK9.out.cell 4
   have g4 := HK9.out.free 4
   have p4 : w9.cell? ⟨w1.heap.size, 4, none⟩ = some (.bool false) := HL9.out.cell 4
   have m5 : w9.cell? ⟨w.heap.size, 5, none⟩ = some (.int .i64 0) := HK9.out.cell 5
   have g5 := HK9.out.free 5
   have p5 : w9.cell? ⟨w1.heap.size, 5, none⟩ = some (.int .i64 0) := HL9.out.cell 5
   go_wp2_with fail
   have KF := ((((((HK9.out.set 0 (.slice ao m cp)).set 1 (.string ⟨n.toArray⟩)).set 2 (.iface et ex)).set 3 (.slice bo bm bc)).set 4 (.bool false)).set 5 (.int .i64 0))
   have e0 := KF.cell 0
   have e1 := KF.cell 1
   have e2 := KF.cell 2
   have e3 := KF.cell 3
   have e4 := KF.cell 4
   have e5 := KF.cell 5
   simp at e0 e1 e2 e3 e4 e5
   refine bodyPost_ret (v := .agg #[.slice ao m cp, .string ⟨n.toArray⟩, .iface et ex, .slice bo bm bc, .bool false, .int .i64 0]) (by simp [results, Tryz.results89, go_sem, e0, e1, e2, e3, e4, e5]) rfl ?_
   refine OutR.ok (a := Px.St.select its n o os none) (q' := q7) (gaw (gaw (gaw (gaw (gaw (gaw HG9.out (nlr _) 0 _) (nlr _) 1 _) (nlr _) 2 _) (nlr _) 3 _) (nlr _) 4 _) (nlr _) 5 _) (Px.Rg.go HR1.out (Px.Rg.go HR2.out (Px.Rg.go HR3.out (Px.Rg.go HR4.out (Px.Rg.go HRO7.out (Px.Rg.go (lim_no hl) rfl)))))) ⟨.slice ao m cp, .slice bo bm bc, by rw [← show (.iface et ex : Value) = ev? o from HE.out]; rfl, ?_, ?_⟩ ((((((HXF.out.far HX.out (nlr _) 0 _).far HX.out (nlr _) 1 _).far HX.out (nlr _) 2 _).far HX.out (nlr _) 3 _).far HX.out (nlr _) 4 _).far HX.out (nlr _) 5 _)
   · have s0 := ls_set HV9.out 0 (.slice ao m cp) ⟨_, _, HK9.out, by decide⟩
     have s1 := ls_set s0 1 (.string ⟨n.toArray⟩) ⟨_, _, (HK9.out.set 0 _), by decide⟩
     have s2 := ls_set s1 2 (.iface et ex) ⟨_, _, ((HK9.out.set 0 _).set 1 _), by decide⟩
     have s3 := ls_set s2 3 (.slice bo bm bc) ⟨_, _, (((HK9.out.set 0 _).set 1 _).set 2 _), by decide⟩
     have s4 := ls_set s3 4 (.bool false) ⟨_, _, ((((HK9.out.set 0 _).set 1 _).set 2 _).set 3 _), by decide⟩
     exact ls_set s4 5 (.int .i64 0) ⟨_, _, (((((HK9.out.set 0 _).set 1 _).set 2 _).set 3 _).set 4 _), by decide⟩
   have s0 := ls_set HVO9.out 0 (.slice ao m cp) ⟨_, _, HK9.out, by decide⟩
   have s1 := ls_set s0 1 (.string ⟨n.toArray⟩) ⟨_, _, (HK9.out.set 0 _), by decide⟩
   have s2 := ls_set s1 2 (.iface et ex) ⟨_, _, ((HK9.out.set 0 _).set 1 _), by decide⟩
   have s3 := ls_set s2 3 (.slice bo bm bc) ⟨_, _, (((HK9.out.set 0 _).set 1 _).set 2 _), by decide⟩
   have s4 := ls_set s3 4 (.bool false) ⟨_, _, ((((HK9.out.set 0 _).set 1 _).set 2 _).set 3 _), by decide⟩
   exact ls_set s4 5 (.int .i64 0) ⟨_, _, (((((HK9.out.set 0 _).set 1 _).set 2 _).set 3 _).set 4 _), by decide⟩
  | true =>
   go_wp2_with fail
   refine (cay ⟨#[76, 73, 77, 73, 84]⟩ _ B lv ts sz q7 _ HX7.out hl (by simp)).mono ?_
   rintro x w8 ⟨rfl, hx8, hg8⟩
   have HX8 := hd hx8
   have HG8 := hd (gbt HG7.out hg8)
   have HK8 := hd (HK7.out.grown hg8 (by omega))
   have HL8 := hd (HL7.out.grown hg8 (by omega))
   have HV8 := hd (own_far HV7.out hg8)
   have HVO8 : Hid (lsV B 143 2 orderC os (.slice bo bm bc) w8) := own_far HVO7.out hg8
   clear hx8 hg8
   go_wp2_with fail
   refine (c_number_any w8 B lv ts sz q7.tail _ HX8.out 1000000000 (by omega)).mono ?_
   rintro x w9 ho
   obtain ⟨hg, ⟨p, c, hr, rfl⟩ | ⟨k, q9, v, hr, rfl, hv, hx⟩⟩ := ho.cases
   · exact ⟨rfl, OutR.err (gbt HG8.out hg) (Px.Rg.go HR1.out (Px.Rg.go HR2.out (Px.Rg.go HR3.out (Px.Rg.go HR4.out (Px.Rg.go HRO7.out (Px.Rg.err (lim_of hl hr)))))))⟩
   cases hv
   have HRL := hd (lim_of hl hr)
   have HG9 := hd (gbt HG8.out hg)
   have HK9 := hd (HK8.out.grown hg (by omega))
   have HL9 := hd (HL8.out.grown hg (by omega))
   have HV9 := hd (own_far HV8.out hg)
   have HVO9 := hd (own_far HVO8.out hg)
   have HXF : Hid (Cx w9 B lv ts sz q9 (deepSt (.select its n o os (some k)) || dp)) := by
    show Cx _ _ _ _ _ _ _
    rw [deep_select]; exact hx
   have f4 := HL9.out.free 4
   have f5 := HL9.out.free 5
   clear hr hx hg ho HX8 HG8 HK8 HL8 HV8 HVO8
   have m0 : w9.cell? ⟨w.heap.size, 0, none⟩ = some (.slice none 0 0) := HK9.out.cell 0
   have g0 := HK9.out.free 0
   have p0 : w9.cell? ⟨w1.heap.size, 0, none⟩ = some (.slice ao m cp) := HL9.out.cell 0
   have m1 : w9.cell? ⟨w.heap.size, 1, none⟩ = some (.string ⟨#[]⟩) := HK9.out.cell 1
   have g1 := HK9.out.free 1
   have p1 : w9.cell? ⟨w1.heap.size, 1, none⟩ = some (.string ⟨n.toArray⟩) := HL9.out.cell 1
   have m2 : w9.cell? ⟨w.heap.size, 2, none⟩ = some (.nilIface) := HK9.out.cell 2
   have g2 := HK9.out.free 2
   have p2 : w9.cell? ⟨w1.heap.size, 2, none⟩ = some (.iface et ex) := HL9.out.cell 2
   have m3 : w9.cell? ⟨w.heap.size, 3, none⟩ = some (.slice none 0 0) := HK9.out.cell 3
   have g3 := HK9.out.free 3
   have p3 : w9.cell? ⟨w1.heap.size, 3, none⟩ = some (.slice bo bm bc) := HL9.out.cell 3
   have m4 : w9.cell? ⟨w.heap.size, 4, none⟩ = some (.bool false) := HK9.out.cell 4
   have g4 := HK9.out.free 4
   have p4 : w9.cell? ⟨w1.heap.size, 4, none⟩ = some (.bool false) := HL9.out.cell 4
   have m5 : w9.cell? ⟨w.heap.size, 5, none⟩ = some (.int .i64 0) := HK9.out.cell 5
   have g5 := HK9.out.free 5
   have p5 : w9.cell? ⟨w1.heap.size, 5, none⟩ = some (.int .i64 0) := HL9.out.cell 5
   have HK9' := hd ((HK9.out.far ⟨w1.heap.size, 4, none⟩ (.bool true) d1).far ⟨w1.heap.size, 5, none⟩ (.int .i64 (k : Int)) d1)
   have HG9' := hd (gaw (gaw HG9.out (M := w1.heap.size) (by omega) 4 (.bool true)) (M := w1.heap.size) (by omega) 5 (.int .i64 (k : Int)))
   have HXF' := hd ((HXF.out.far HX.out (M := w1.heap.size) (by omega) 4 (.bool true)).far HX.out (M := w1.heap.size) (by omega) 5 (.int .i64 (k : Int)))
   have HV9' := hd (ls_set (ls_set HV9.out 4 (.bool true) ⟨_, _, HL9.out, by decide⟩) 5 (.int .i64 (k : Int)) ⟨_, _, HL9.out.set 4 _, by decide⟩)
   have HVO9' := hd (ls_set (ls_set HVO9.out 4 (.bool true) ⟨_, _, HL9.out, by decide⟩) 5 (.int .i64 (k : Int)) ⟨_, _, HL9.out.set 4 _, by decide⟩)
   clear HK9 HG9 HXF HV9 HVO9
   go_wp2_with fail
   have KF := ((((((HK9'.out.set 0 (.slice ao m cp)).set 1 (.string ⟨n.toArray⟩)).set 2 (.iface et ex)).set 3 (.slice bo bm bc)).set 4 (.bool true)).set 5 (.int .i64 (k : Int)))
   have e0 := KF.cell 0
   have e1 := KF.cell 1
   have e2 := KF.cell 2
   have e3 := KF.cell 3
   have e4 := KF.cell 4
   have e5 := KF.cell 5
   simp at e0 e1 e2 e3 e4 e5
   refine bodyPost_ret (v := .agg #[.slice ao m cp, .string ⟨n.toArray⟩, .iface et ex, .slice bo bm bc, .bool true, .int .i64 (k : Int)]) (by simp [results, Tryz.results89, go_sem, e0, e1, e2, e3, e4, e5]) rfl ?_
   refine OutR.ok (a := Px.St.select its n o os (some k)) (q' := q9) (gaw (gaw (gaw (gaw (gaw (gaw HG9'.out (nlr _) 0 _) (nlr _) 1 _) (nlr _) 2 _) (nlr _) 3 _) (nlr _) 4 _) (nlr _) 5 _) (Px.Rg.go HR1.out (Px.Rg.go HR2.out (Px.Rg.go HR3.out (Px.Rg.go HR4.out (Px.Rg.go HRO7.out (Px.Rg.go HRL.out rfl)))))) ⟨.slice ao m cp, .slice bo bm bc, by rw [← show (.iface et ex : Value) = ev? o from HE.out]; rfl, ?_, ?_⟩ ((((((HXF'.out.far HX.out (nlr _) 0 _).far HX.out (nlr _) 1 _).far HX.out (nlr _) 2 _).far HX.out (nlr _) 3 _).far HX.out (nlr _) 4 _).far HX.out (nlr _) 5 _)
   · have s0 := ls_set HV9'.out 0 (.slice ao m cp) ⟨_, _, HK9'.out, by decide⟩
     have s1 := ls_set s0 1 (.string ⟨n.toArray⟩) ⟨_, _, (HK9'.out.set 0 _), by decide⟩
     have s2 := ls_set s1 2 (.iface et ex) ⟨_, _, ((HK9'.out.set 0 _).set 1 _), by decide⟩
     have s3 := ls_set s2 3 (.slice bo bm bc) ⟨_, _, (((HK9'.out.set 0 _).set 1 _).set 2 _), by decide⟩
     have s4 := ls_set s3 4 (.bool true) ⟨_, _, ((((HK9'.out.set 0 _).set 1 _).set 2 _).set 3 _), by decide⟩
     exact ls_set s4 5 (.int .i64 (k : Int)) ⟨_, _, (((((HK9'.out.set 0 _).set 1 _).set 2 _).set 3 _).set 4 _), by decide⟩
   have s0 := ls_set HVO9'.out 0 (.slice ao m cp) ⟨_, _, HK9'.out, by decide⟩
   have s1 := ls_set s0 1 (.string ⟨n.toArray⟩) ⟨_, _, (HK9'.out.set 0 _), by decide⟩
   have s2 := ls_set s1 2 (.iface et ex) ⟨_, _, ((HK9'.out.set 0 _).set 1 _), by decide⟩
   have s3 := ls_set s2 3 (.slice bo bm bc) ⟨_, _, (((HK9'.out.set 0 _).set 1 _).set 2 _), by decide⟩
   have s4 := ls_set s3 4 (.bool true) ⟨_, _, ((((HK9'.out.set 0 _).set 1 _).set 2 _).set 3 _), by decide⟩
   exact ls_set s4 5 (.int .i64 (k : Int)) ⟨_, _, (((((HK9'.out.set 0 _).set 1 _).set 2 _).set 3 _).set 4 _), by decide⟩
theorem part_agg {B : Nat} {T : TypeId} {s : Px.St} {v : Value} {w : World} (h : partV B T s v w) : ∃ cs, v = .agg cs := by
 cases s with
 | create t c => obtain ⟨u, h1, h2⟩ := h; simp only [Value.iface.injEq] at h1; exact ⟨_, h1.2⟩
 | drop t => have h1 : Value.iface _ _ = _ := h; simp only [Value.iface.injEq] at h1; exact ⟨_, h1.2⟩
 | insert t r => obtain ⟨u, h1, h2⟩ := h; simp only [Value.iface.injEq] at h1; exact ⟨_, h1.2⟩
 | delete t o => have h1 : Value.iface _ _ = _ := h; simp only [Value.iface.injEq] at h1; exact ⟨_, h1.2⟩
 | update t s o => obtain ⟨u, h1, h2⟩ := h; simp only [Value.iface.injEq] at h1; exact ⟨_, h1.2⟩
 | select i t o r l => obtain ⟨u, u', h1, h2, h3⟩ := h; simp only [Value.iface.injEq] at h1; exact ⟨_, h1.2⟩
theorem stmt_CREATE (B : Nat) (lv : Value) (ts : List Lx.Tok) (sz : Nat) (dp : Bool) (w : World) (q : List Lx.Tok) (h : Cx w B lv ts sz q dp) (h0 : Px.sees Px.kCREATE q = true) :
   Calls Tryz.prog 53 #[.pointer (some ⟨B, 0, none⟩)] w (OutR w B lv ts sz dp (Px.stmtR sz) q (stV B) deepSt) := by
 have HX0 := hd h
 have HG0 := hd (grownBy_refl w (some B))
 clear h
 go_enter Tryz.func53, Tryz.ntmps53
 go_wp2_with fail
 refine (cay ⟨#[67, 82, 69, 65, 84, 69]⟩ _ B lv ts sz q dp HX0.out h0 (by simp)).mono ?_
 rintro x wy ⟨rfl, hxy, hgy⟩
 have HXy := hd hxy
 have HGy := hd (gbt HG0.out hgy)
 clear hxy hgy HX0 HG0
 go_wp2_with fail
 refine (c_create_any B lv ts sz dp _ q.tail HXy.out).mono ?_
 rintro x wz ho
 obtain ⟨hg, ⟨p, c, hr, rfl⟩ | ⟨s, qz, v, hr, rfl, hv, hx⟩⟩ := ho.cases
 · exact ⟨rfl, OutR.err (gbt HGy.out hg) (by unfold Px.stmtR; rw [if_pos h0]; exact hr)⟩
 have HRz := hd hr
 have HXz := hd hx
 have HGz := hd (gbt HGy.out hg)
 obtain ⟨cs, rfl⟩ := part_agg hv
 have HVz := hd hv
 clear hr hx hg ho hv
 go_wp2_with fail
 go_ret
 exact OutR.ok (a := s) (q' := qz) HGz.out (by unfold Px.stmtR; rw [if_pos h0]; exact HRz.out) HVz.out HXz.out
theorem stmt_DROP (B : Nat) (lv : Value) (ts : List Lx.Tok) (sz : Nat) (dp : Bool) (w : World) (q : List Lx.Tok) (h : Cx w B lv ts sz q dp) (h0 : Px.sees Px.kCREATE q = false) (h1 : Px.sees Px.kDROP q = true) :
   Calls Tryz.prog 53 #[.pointer (some ⟨B, 0, none⟩)] w (OutR w B lv ts sz dp (Px.stmtR sz) q (stV B) deepSt) := by
 have HX0 := hd h
 have HG0 := hd (grownBy_refl w (some B))
 clear h
 go_enter Tryz.func53, Tryz.ntmps53
 go_wp2_with fail
 refine (cano ⟨#[67, 82, 69, 65, 84, 69]⟩ _ B lv ts sz q dp HX0.out h0 (by simp)).mono ?_
 rintro x w1 ⟨rfl, hb⟩
 have HX1 := hd (HX0.out.below hb)
 have HG1 := hd (gbt HG0.out (Below.grownBy (row := some B) hb))
 clear hb HX0 HG0
 go_wp2_with fail
 refine (cay ⟨#[68, 82, 79, 80]⟩ _ B lv ts sz q dp HX1.out h1 (by simp)).mono ?_
 rintro x wy ⟨rfl, hxy, hgy⟩
 have HXy := hd hxy
 have HGy := hd (gbt HG1.out hgy)
 clear hxy hgy HX1 HG1
 go_wp2_with fail
 refine (c_expect_at ⟨#[84, 65, 66, 76, 69]⟩ wy _ rfl B lv ts sz q.tail dp HXy.out (by simp)).mono ?_
 rintro x w7 ho
 obtain ⟨hg, ⟨p, c, hr, rfl⟩ | ⟨_, q7, v, hr, rfl, hv, hx⟩⟩ := ho.cases
 · exact ⟨rfl, OutR.err (gbt HGy.out hg) (by unfold Px.stmtR; rw [if_neg (by simp [h0])]; rw [if_pos h1]; exact Px.Rg.err hr)⟩
 cases hv
 have HR7 := hd hr
 have HX7 : Hid (Cx w7 B lv ts sz q7 dp) := hx
 have HG7 := hd (gbt HGy.out hg)
 clear hr hx hg ho
 go_wp2_with fail
 refine (c_name_any w7 B lv ts sz q7 dp HX7.out).mono ?_
 rintro x w8 ho
 obtain ⟨hg, ⟨p, c, hr, rfl⟩ | ⟨n, q8, v, hr, rfl, hv, hx⟩⟩ := ho.cases
 · exact ⟨rfl, OutR.err (gbt HG7.out hg) (by unfold Px.stmtR; rw [if_neg (by simp [h0])]; rw [if_pos h1]; exact Px.Rg.go HR7.out (Px.Rg.err hr))⟩
 cases hv
 have HR8 := hd hr
 have HX8 : Hid (Cx w8 B lv ts sz q8 dp) := hx
 have HG8 := hd (gbt HG7.out hg)
 clear hr hx hg ho
 go_wp2_with fail
 go_ret
 exact OutR.ok (a := Px.St.drop n) (q' := q8) HG8.out (by unfold Px.stmtR; rw [if_neg (by simp [h0])]; rw [if_pos h1]; exact Px.Rg.go HR7.out (Px.Rg.go HR8.out rfl)) rfl HX8.out
theorem stmt_INSERT (B : Nat) (lv : Value) (ts : List Lx.Tok) (sz : Nat) (dp : Bool) (w : World) (q : List Lx.Tok) (h : Cx w B lv ts sz q dp) (h0 : Px.sees Px.kCREATE q = false) (h1 : Px.sees Px.kDROP q = false) (h2 : Px.sees Px.kINSERT q = true) :
   Calls Tryz.prog 53 #[.pointer (some ⟨B, 0, none⟩)] w (OutR w B lv ts sz dp (Px.stmtR sz) q (stV B) deepSt) := by
 have HX0 := hd h
 have HG0 := hd (grownBy_refl w (some B))
 clear h
 go_enter Tryz.func53, Tryz.ntmps53
 go_wp2_with fail
 refine (cano ⟨#[67, 82, 69, 65, 84, 69]⟩ _ B lv ts sz q dp HX0.out h0 (by simp)).mono ?_
 rintro x w1 ⟨rfl, hb⟩
 have HX1 := hd (HX0.out.below hb)
 have HG1 := hd (gbt HG0.out (Below.grownBy (row := some B) hb))
 clear hb HX0 HG0
 go_wp2_with fail
 refine (cano ⟨#[68, 82, 79, 80]⟩ _ B lv ts sz q dp HX1.out h1 (by simp)).mono ?_
 rintro x w2 ⟨rfl, hb⟩
 have HX2 := hd (HX1.out.below hb)
 have HG2 := hd (gbt HG1.out (Below.grownBy (row := some B) hb))
 clear hb HX1 HG1
 go_wp2_with fail
 refine (cay ⟨#[73, 78, 83, 69, 82, 84]⟩ _ B lv ts sz q dp HX2.out h2 (by simp)).mono ?_
 rintro x wy ⟨rfl, hxy, hgy⟩
 have HXy := hd hxy
 have HGy := hd (gbt HG2.out hgy)
 clear hxy hgy HX2 HG2
 go_wp2_with fail
 refine (c_insert_any B lv ts sz dp _ q.tail HXy.out).mono ?_
 rintro x wz ho
 obtain ⟨hg, ⟨p, c, hr, rfl⟩ | ⟨s, qz, v, hr, rfl, hv, hx⟩⟩ := ho.cases
 · exact ⟨rfl, OutR.err (gbt HGy.out hg) (by unfold Px.stmtR; rw [if_neg (by simp [h0])]; rw [if_neg (by simp [h1])]; rw [if_pos h2]; exact hr)⟩
 have HRz := hd hr
 have HXz := hd hx
 have HGz := hd (gbt HGy.out hg)
 obtain ⟨cs, rfl⟩ := part_agg hv
 have HVz := hd hv
 clear hr hx hg ho hv
 go_wp2_with fail
 go_ret
 exact OutR.ok (a := s) (q' := qz) HGz.out (by unfold Px.stmtR; rw [if_neg (by simp [h0])]; rw [if_neg (by simp [h1])]; rw [if_pos h2]; exact HRz.out) HVz.out HXz.out
theorem stmt_DELETE (B : Nat) (lv : Value) (ts : List Lx.Tok) (sz : Nat) (dp : Bool) (w : World) (q : List Lx.Tok) (h : Cx w B lv ts sz q dp) (h0 : Px.sees Px.kCREATE q = false) (h1 : Px.sees Px.kDROP q = false) (h2 : Px.sees Px.kINSERT q = false) (h3 : Px.sees Px.kDELETE q = true) :
   Calls Tryz.prog 53 #[.pointer (some ⟨B, 0, none⟩)] w (OutR w B lv ts sz dp (Px.stmtR sz) q (stV B) deepSt) := by
 have HX0 := hd h
 have HG0 := hd (grownBy_refl w (some B))
 clear h
 go_enter Tryz.func53, Tryz.ntmps53
 go_wp2_with fail
 refine (cano ⟨#[67, 82, 69, 65, 84, 69]⟩ _ B lv ts sz q dp HX0.out h0 (by simp)).mono ?_
 rintro x w1 ⟨rfl, hb⟩
 have HX1 := hd (HX0.out.below hb)
 have HG1 := hd (gbt HG0.out (Below.grownBy (row := some B) hb))
 clear hb HX0 HG0
 go_wp2_with fail
 refine (cano ⟨#[68, 82, 79, 80]⟩ _ B lv ts sz q dp HX1.out h1 (by simp)).mono ?_
 rintro x w2 ⟨rfl, hb⟩
 have HX2 := hd (HX1.out.below hb)
 have HG2 := hd (gbt HG1.out (Below.grownBy (row := some B) hb))
 clear hb HX1 HG1
 go_wp2_with fail
 refine (cano ⟨#[73, 78, 83, 69, 82, 84]⟩ _ B lv ts sz q dp HX2.out h2 (by simp)).mono ?_
 rintro x w3 ⟨rfl, hb⟩
 have HX3 := hd (HX2.out.below hb)
 have HG3 := hd (gbt HG2.out (Below.grownBy (row := some B) hb))
 clear hb HX2 HG2
 go_wp2_with fail
 refine (cay ⟨#[68, 69, 76, 69, 84, 69]⟩ _ B lv ts sz q dp HX3.out h3 (by simp)).mono ?_
 rintro x wy ⟨rfl, hxy, hgy⟩
 have HXy := hd hxy
 have HGy := hd (gbt HG3.out hgy)
 clear hxy hgy HX3 HG3
 go_wp2_with fail
 refine (c_delete_any B lv ts sz dp _ q.tail HXy.out).mono ?_
 rintro x wz ho
 obtain ⟨hg, ⟨p, c, hr, rfl⟩ | ⟨s, qz, v, hr, rfl, hv, hx⟩⟩ := ho.cases
 · exact ⟨rfl, OutR.err (gbt HGy.out hg) (by unfold Px.stmtR; rw [if_neg (by simp [h0])]; rw [if_neg (by simp [h1])]; rw [if_neg (by simp [h2])]; rw [if_pos h3]; exact hr)⟩
 have HRz := hd hr
 have HXz := hd hx
 have HGz := hd (gbt HGy.out hg)
 obtain ⟨cs, rfl⟩ := part_agg hv
 have HVz := hd hv
 clear hr hx hg ho hv
 go_wp2_with fail
 go_ret
 exact OutR.ok (a := s) (q' := qz) HGz.out (by unfold Px.stmtR; rw [if_neg (by simp [h0])]; rw [if_neg (by simp [h1])]; rw [if_neg (by simp [h2])]; rw [if_pos h3]; exact HRz.out) HVz.out HXz.out
theorem stmt_UPDATE (B : Nat) (lv : Value) (ts : List Lx.Tok) (sz : Nat) (dp : Bool) (w : World) (q : List Lx.Tok) (h : Cx w B lv ts sz q dp) (h0 : Px.sees Px.kCREATE q = false) (h1 : Px.sees Px.kDROP q = false) (h2 : Px.sees Px.kINSERT q = false) (h3 : Px.sees Px.kDELETE q = false) (h4 : Px.sees Px.kUPDATE q = true) :
   Calls Tryz.prog 53 #[.pointer (some ⟨B, 0, none⟩)] w (OutR w B lv ts sz dp (Px.stmtR sz) q (stV B) deepSt) := by
 have HX0 := hd h
 have HG0 := hd (grownBy_refl w (some B))
 clear h
 go_enter Tryz.func53, Tryz.ntmps53
 go_wp2_with fail
 refine (cano ⟨#[67, 82, 69, 65, 84, 69]⟩ _ B lv ts sz q dp HX0.out h0 (by simp)).mono ?_
 rintro x w1 ⟨rfl, hb⟩
 have HX1 := hd (HX0.out.below hb)
 have HG1 := hd (gbt HG0.out (Below.grownBy (row := some B) hb))
 clear hb HX0 HG0
 go_wp2_with fail
 refine (cano ⟨#[68, 82, 79, 80]⟩ _ B lv ts sz q dp HX1.out h1 (by simp)).mono ?_
 rintro x w2 ⟨rfl, hb⟩
 have HX2 := hd (HX1.out.below hb)
 have HG2 := hd (gbt HG1.out (Below.grownBy (row := some B) hb))
 clear hb HX1 HG1
 go_wp2_with fail
 refine (cano ⟨#[73, 78, 83, 69, 82, 84]⟩ _ B lv ts sz q dp HX2.out h2 (by simp)).mono ?_
 rintro x w3 ⟨rfl, hb⟩
 have HX3 := hd (HX2.out.below hb)
 have HG3 := hd (gbt HG2.out (Below.grownBy (row := some B) hb))
 clear hb HX2 HG2
 go_wp2_with fail
 refine (cano ⟨#[68, 69, 76, 69, 84, 69]⟩ _ B lv ts sz q dp HX3.out h3 (by simp)).mono ?_
 rintro x w4 ⟨rfl, hb⟩
 have HX4 := hd (HX3.out.below hb)
 have HG4 := hd (gbt HG3.out (Below.grownBy (row := some B) hb))
 clear hb HX3 HG3
 go_wp2_with fail
 refine (cay ⟨#[85, 80, 68, 65, 84, 69]⟩ _ B lv ts sz q dp HX4.out h4 (by simp)).mono ?_
 rintro x wy ⟨rfl, hxy, hgy⟩
 have HXy := hd hxy
 have HGy := hd (gbt HG4.out hgy)
 clear hxy hgy HX4 HG4
 go_wp2_with fail
 refine (c_update_any B lv ts sz dp _ q.tail HXy.out).mono ?_
 rintro x wz ho
 obtain ⟨hg, ⟨p, c, hr, rfl⟩ | ⟨s, qz, v, hr, rfl, hv, hx⟩⟩ := ho.cases
 · exact ⟨rfl, OutR.err (gbt HGy.out hg) (by unfold Px.stmtR; rw [if_neg (by simp [h0])]; rw [if_neg (by simp [h1])]; rw [if_neg (by simp [h2])]; rw [if_neg (by simp [h3])]; rw [if_pos h4]; exact hr)⟩
 have HRz := hd hr
 have HXz := hd hx
 have HGz := hd (gbt HGy.out hg)
 obtain ⟨cs, rfl⟩ := part_agg hv
 have HVz := hd hv
 clear hr hx hg ho hv
 go_wp2_with fail
 go_ret
 exact OutR.ok (a := s) (q' := qz) HGz.out (by unfold Px.stmtR; rw [if_neg (by simp [h0])]; rw [if_neg (by simp [h1])]; rw [if_neg (by simp [h2])]; rw [if_neg (by simp [h3])]; rw [if_pos h4]; exact HRz.out) HVz.out HXz.out
theorem stmt_SELECT (B : Nat) (lv : Value) (ts : List Lx.Tok) (sz : Nat) (dp : Bool) (w : World) (q : List Lx.Tok) (h : Cx w B lv ts sz q dp) (h0 : Px.sees Px.kCREATE q = false) (h1 : Px.sees Px.kDROP q = false) (h2 : Px.sees Px.kINSERT q = false) (h3 : Px.sees Px.kDELETE q = false) (h4 : Px.sees Px.kUPDATE q = false) :
   Calls Tryz.prog 53 #[.pointer (some ⟨B, 0, none⟩)] w (OutR w B lv ts sz dp (Px.stmtR sz) q (stV B) deepSt) := by
 have HX0 := hd h
 have HG0 := hd (grownBy_refl w (some B))
 clear h
 go_enter Tryz.func53, Tryz.ntmps53
 go_wp2_with fail
 refine (cano ⟨#[67, 82, 69, 65, 84, 69]⟩ _ B lv ts sz q dp HX0.out h0 (by simp)).mono ?_
 rintro x w1 ⟨rfl, hb⟩
 have HX1 := hd (HX0.out.below hb)
 have HG1 := hd (gbt HG0.out (Below.grownBy (row := some B) hb))
 clear hb HX0 HG0
 go_wp2_with fail
 refine (cano ⟨#[68, 82, 79, 80]⟩ _ B lv ts sz q dp HX1.out h1 (by simp)).mono ?_
 rintro x w2 ⟨rfl, hb⟩
 have HX2 := hd (HX1.out.below hb)
 have HG2 := hd (gbt HG1.out (Below.grownBy (row := some B) hb))
 clear hb HX1 HG1
 go_wp2_with fail
 refine (cano ⟨#[73, 78, 83, 69, 82, 84]⟩ _ B lv ts sz q dp HX2.out h2 (by simp)).mono ?_
 rintro x w3 ⟨rfl, hb⟩
 have HX3 := hd (HX2.out.below hb)
 have HG3 := hd (gbt HG2.out (Below.grownBy (row := some B) hb))
 clear hb HX2 HG2
 go_wp2_with fail
 refine (cano ⟨#[68, 69, 76, 69, 84, 69]⟩ _ B lv ts sz q dp HX3.out h3 (by simp)).mono ?_
 rintro x w4 ⟨rfl, hb⟩
 have HX4 := hd (HX3.out.below hb)
 have HG4 := hd (gbt HG3.out (Below.grownBy (row := some B) hb))
 clear hb HX3 HG3
 go_wp2_with fail
 refine (cano ⟨#[85, 80, 68, 65, 84, 69]⟩ _ B lv ts sz q dp HX4.out h4 (by simp)).mono ?_
 rintro x w5 ⟨rfl, hb⟩
 have HX5 := hd (HX4.out.below hb)
 have HG5 := hd (gbt HG4.out (Below.grownBy (row := some B) hb))
 clear hb HX4 HG4
 go_wp2_with fail
 refine (c_expect_at ⟨#[83, 69, 76, 69, 67, 84]⟩ w5 _ rfl B lv ts sz q dp HX5.out (by simp)).mono ?_
 rintro x wy ho
 obtain ⟨hg, ⟨p, c, hr, rfl⟩ | ⟨_, qy, v, hr, rfl, hv, hx⟩⟩ := ho.cases
 · exact ⟨rfl, OutR.err (gbt HG5.out hg) (by unfold Px.stmtR; rw [if_neg (by simp [h0])]; rw [if_neg (by simp [h1])]; rw [if_neg (by simp [h2])]; rw [if_neg (by simp [h3])]; rw [if_neg (by simp [h4])]; exact Px.Rg.err hr)⟩
 cases hv
 have HRy := hd hr
 have HXy : Hid (Cx wy B lv ts sz qy dp) := hx
 have HGy := hd (gbt HG5.out hg)
 clear hr hx hg ho
 go_wp2_with fail
 refine (c_selection_any B lv ts sz dp _ qy HXy.out).mono ?_
 rintro x wz ho
 obtain ⟨hg, ⟨p, c, hr, rfl⟩ | ⟨s, qz, v, hr, rfl, hv, hx⟩⟩ := ho.cases
 · exact ⟨rfl, OutR.err (gbt HGy.out hg) (by unfold Px.stmtR; rw [if_neg (by simp [h0])]; rw [if_neg (by simp [h1])]; rw [if_neg (by simp [h2])]; rw [if_neg (by simp [h3])]; rw [if_neg (by simp [h4])]; exact Px.Rg.go HRy.out hr)⟩
 have HRz := hd hr
 have HXz := hd hx
 have HGz := hd (gbt HGy.out hg)
 obtain ⟨cs, rfl⟩ := part_agg hv
 have HVz := hd hv
 clear hr hx hg ho hv
 go_wp2_with fail
 go_ret
 exact OutR.ok (a := s) (q' := qz) HGz.out (by unfold Px.stmtR; rw [if_neg (by simp [h0])]; rw [if_neg (by simp [h1])]; rw [if_neg (by simp [h2])]; rw [if_neg (by simp [h3])]; rw [if_neg (by simp [h4])]; exact Px.Rg.go HRy.out HRz.out) HVz.out HXz.out
theorem c_stmt_any (B : Nat) (lv : Value) (ts : List Lx.Tok) (sz : Nat) (dp : Bool) (w : World) (q : List Lx.Tok) (h : Cx w B lv ts sz q dp) :
   Calls Tryz.prog 53 #[.pointer (some ⟨B, 0, none⟩)] w (OutR w B lv ts sz dp (Px.stmtR sz) q (stV B) deepSt) := by
 cases h0 : Px.sees Px.kCREATE q with
 | true => exact stmt_CREATE B lv ts sz dp w q h h0
 | false =>
  cases h1 : Px.sees Px.kDROP q with
  | true => exact stmt_DROP B lv ts sz dp w q h h0 h1
  | false =>
   cases h2 : Px.sees Px.kINSERT q with
   | true => exact stmt_INSERT B lv ts sz dp w q h h0 h1 h2
   | false =>
    cases h3 : Px.sees Px.kDELETE q with
    | true => exact stmt_DELETE B lv ts sz dp w q h h0 h1 h2 h3
    | false =>
     cases h4 : Px.sees Px.kUPDATE q with
     | true => exact stmt_UPDATE B lv ts sz dp w q h h0 h1 h2 h3 h4
     | false => exact stmt_SELECT B lv ts sz dp w q h h0 h1 h2 h3 h4
theorem any_deep : ∀ l : List Px.E, l.any deepE = decide (40 < Px.deepest l)
 | [] => rfl
 | e :: l => by
  rw [List.any_cons, any_deep l]
  show (decide (40 < e.depth) || decide (40 < Px.deepest l)) = decide (40 < max e.depth (Px.deepest l))
  generalize e.depth = a
  generalize Px.deepest l = d
  rw [Bool.eq_iff_iff]
  simp only [Bool.or_eq_true, decide_eq_true_eq]
  rcases Nat.le_total a d with h | h
  · rw [Nat.max_eq_right h]; omega
  rw [Nat.max_eq_left h]; omega
def StF (base : Nat) (x : Ending) (w' : World) : Except (Nat × Nat) Px.St → Prop
 | .error (p, c) => x = Flt p c
 | .ok st => ∃ v B, x = .returned v ∧ base ≤ B ∧ stV B st v w'
def StOut (w : World) (s : Lx.Bs) (x : Ending) (w' : World) : Prop := Below w.heap.size w w' ∧ ∃ r, Px.ParseR s r ∧ StF w.heap.size x w' r
theorem Cx.end_ {w : World} {B : Nat} {lv : Value} {ts : List Lx.Tok} {sz : Nat} {q : List Lx.Tok} {dp : Bool} (h : Cx w B lv ts sz q dp) : ∃ (k : Nat) (ao : Option Addr) (cap : Nat), lv = .slice ao ts.length cap ∧ k ≤ 2000 ∧ ts.length ≤ 2000 ∧ (q = [] ↔ k = ts.length) ∧ w.cell? ⟨B, 0, none⟩ = some (.slice ao ts.length cap) ∧ w.cell? ⟨B, 1, none⟩ = some (.int .i64 (k : Int)) ∧ w.cell? ⟨B, 3, none⟩ = some (.bool dp) := by
 obtain ⟨k, rfl, h⟩ := h
 obtain ⟨ao, cap, rfl, _⟩ := h.tok
 have := h.le
 have := h.len
 refine ⟨k, ao, cap, rfl, by omega, h.len, ?_, h.cells.1, h.cells.2.1, h.cells.2.2.2⟩
 constructor
 · intro e
   have := congrArg List.length e
   simp at this
   omega
 intro e
 exact List.drop_eq_nil_of_le (by omega)
theorem c_Statement_any (s : ByteArray) (w : World) (he : EnvP w) (hm : s.size ≤ maxLen) : Calls Tryz.prog 32 #[.string s] w (StOut w s.data.toList) := by
 have HT := hd (rdTokens_any s w he.env hm)
 have HE := hd he
 have hroom := he.env.room
 have HSL := hd (Lib.size_eq s).symm
 unfold maxLen at hm
 clear he
 go_enter Tryz.func32, Tryz.ntmps32
 go_wp2_with fail
 refine HT.out.mono ?_
 rintro x w1 ⟨hb1, ht⟩
 rcases hl : Lx.lex s.data.toList with ⟨p, c⟩ | ts
 · rw [hl] at ht
   simp only at ht
   subst ht
   exact ⟨rfl, hb1, .error (p, c), by unfold Px.ParseR; rw [hl], rfl⟩
 rw [hl] at ht
 obtain ⟨v, rfl, hown⟩ := ht
 obtain ⟨hl1, hl2, hl3⟩ := Lx.lex_ok hl
 have hsg := Px.lex_sgn hl
 have hs1 := hb1.size
 have hsz : s.size ≤ 2000 := by rw [← HSL.out]; exact hl1
 obtain ⟨ao, n, cp, rfl⟩ := osl hown
 have HX0 : Hid (Cx (w1.alloc (.cells #[.slice ao n cp, .int .i64 0, .int .i64 (s.size : Int), .bool false] 112)) w1.heap.size (.slice ao n cp) ts s.size ts false) := by
  refine ⟨0, rfl, Blk.new _ _ _, ⟨_, oal hown _⟩, ?_, ?_, by omega, hsz, by omega, (HE.out.below hb1).below ((Below.refl _ _).alloc (nlr _) _), by omega⟩
  · intro e
    have := (hown.lt _ e).2
    omega
  intro t ht
  obtain ⟨h1, h2, h3⟩ := hl3 t ht
  exact ⟨h1, hsg t ht, by omega, by omega⟩
 have HLX := hd hl
 have HB1 := hd hb1
 clear hown hb1 hl3 hsg hl HE HT
 go_wp2_with fail
 refine (c_stmt_any w1.heap.size (.slice ao n cp) ts s.size false _ ts HX0.out).mono ?_
 rintro x w2 ho
 obtain ⟨hg, ⟨p, c, hr, rfl⟩ | ⟨st, q, v, hr, rfl, hv, hx⟩⟩ := ho.cases
 · have hbel : Below w.heap.size w w2 := by
    refine (HB1.out.alloc hs1 (.cells #[.slice ao n cp, .int .i64 0, .int .i64 (s.size : Int), .bool false] 112)).grown hg (by simp; omega) (fun b hb => ?_)
    simp only [Option.some.injEq] at hb
    omega
   refine ⟨rfl, hbel, .error (p, c), ?_, rfl⟩
   unfold Px.ParseR
   rw [HLX.out]
   refine ⟨_, (by rw [HSL.out]; exact hr), rfl⟩
 have hbel : Below w.heap.size w w2 := by
  refine (HB1.out.alloc hs1 (.cells #[.slice ao n cp, .int .i64 0, .int .i64 (s.size : Int), .bool false] 112)).grown hg (by simp; omega) (fun b hb => ?_)
  simp only [Option.some.injEq] at hb
  omega
 have HBF := hd hbel
 have HR := hd hr
 have HV := hd hv
 have HX2 := hd hx
 obtain ⟨k, ao', cap', hlv, hk1, hk2, hend, c0, c1, c3⟩ := hx.end_
 obtain ⟨t, y, rfl⟩ : ∃ t y, v = .iface t y := by
  cases st with
  | create t c => obtain ⟨u, h1, h2⟩ := hv; exact ⟨_, _, h1⟩
  | drop t => exact ⟨_, _, hv⟩
  | insert t r => obtain ⟨u, h1, h2⟩ := hv; exact ⟨_, _, h1⟩
  | delete t o => exact ⟨_, _, hv⟩
  | update t s o => obtain ⟨u, h1, h2⟩ := hv; exact ⟨_, _, h1⟩
  | select i t o r l => obtain ⟨u, u', h1, h2, h3⟩ := hv; exact ⟨_, _, h1⟩
 have HEND := hd hend
 clear hr hv hx hg ho hbel HX0 hend hlv
 by_cases hq : q = []
 · have hkt := HEND.out.1 hq
   have hkb : ((k : Int) == (ts.length : Int)) = true := by simp [hkt]
   go_wp2_with fail
   refine (c_must_yes _ _).mono ?_
   rintro x w3 ⟨rfl, rfl⟩
   cases hdp : deepSt st with
   | true =>
    simp only [hdp, Bool.true_or] at c3
    go_wp2_with fail
    refine ⟨rfl, HBF.out, .error (0, 6), ?_, rfl⟩
    unfold Px.ParseR
    rw [HLX.out]
    refine ⟨_, (by rw [HSL.out]; exact HR.out), ?_⟩
    simp only [if_pos hq]
    rw [if_pos (by have := any_deep st.exprs; rw [show st.exprs.any deepE = true from hdp] at this; exact of_decide_eq_true this.symm)]
   | false =>
    simp only [hdp, Bool.false_or] at c3
    go_wp2_with fail
    go_ret
    refine ⟨HBF.out, .ok st, ?_, _, w1.heap.size, rfl, hs1, HV.out⟩
    unfold Px.ParseR
    rw [HLX.out]
    refine ⟨_, (by rw [HSL.out]; exact HR.out), ?_⟩
    simp only [if_pos hq]
    rw [if_neg (by have := any_deep st.exprs; rw [show st.exprs.any deepE = false from hdp] at this; exact of_decide_eq_false this.symm)]
 have hkt : ¬ k = ts.length := fun e => hq (HEND.out.2 e)
 have hkb : ((k : Int) == (ts.length : Int)) = false := by rw [beq_eq_false_iff_ne]; omega
 go_wp2_with fail
 refine (c_must_no w2 w1.heap.size (.slice ao n cp) ts s.size q _ HX2.out).mono ?_
 rintro x w3 ⟨rfl, hb3⟩
 refine ⟨rfl, HBF.out.trans (hb3.mono HBF.out.size), .error (Px.plc s.size q, 4), ?_, rfl⟩
 unfold Px.ParseR
 rw [HLX.out]
 refine ⟨_, (by rw [HSL.out]; exact HR.out), ?_⟩
 simp only [if_neg hq]
 rw [HSL.out]
structure Kp (w w' : World) (b : Nat) : Prop where
 os : w'.os = w.os
 tape : w'.tape = w.tape
 output : w'.output = w.output
 size : w.heap.size ≤ w'.heap.size
 block : ∀ k o, w.heap[k]? = some o → (k < b ∨ (k ≠ b ∧ ∀ cs fr, o ≠ .cells cs 43 fr)) → w'.heap[k]? = some o
theorem Kp.refl (w : World) (b : Nat) : Kp w w b := ⟨rfl, rfl, rfl, nlr _, fun _ _ h _ => h⟩
theorem Kp.trans {w w1 w2 : World} {b : Nat} (h : Kp w w1 b) (k : Kp w1 w2 b) : Kp w w2 b :=
 ⟨k.os.trans h.os, k.tape.trans h.tape, k.output.trans h.output, Nat.le_trans h.size k.size, fun i o hi hc => k.block i o (h.block i o hi hc) hc⟩
theorem Kp.below {w w' : World} {b : Nat} (h : Below w.heap.size w w') : Kp w w' b :=
 ⟨h.os, h.tape, h.output, h.size, fun k o hk _ => by rw [h.block k (Array.getElem?_eq_some_iff.1 hk).1]; exact hk⟩
theorem Kp.alloc {w w1 : World} {b : Nat} (h : Kp w w1 b) (o : Obj) : Kp w (w1.alloc o) b := h.trans (Kp.below ((Below.refl _ _).alloc (nlr _) o))
theorem Kp.blk {w w' : World} {b i : Nat} {cs : Array Value} {t : TypeId} (h : Kp w w' b) (hB : Blk w i cs t) (hi : i ≠ b) (ht : t ≠ 43) : Blk w' i cs t :=
 h.block i _ hB (.inr ⟨hi, fun cs' fr e => ht (by simp only [Obj.cells.injEq] at e; exact e.2.1)⟩)
theorem Kp.own {w w' : World} {b base : Nat} {e : TypeId} {size : Nat} {v : Value} {n : Nat} {xs : List Value} (h : Kp w w' b) (ho : w.ownsRow base e size v n xs) (he : e ≠ 43) (hlt : ∀ g, v.ownBlock = some g → g ≠ b) : w'.ownsRow base e size v n xs := by
 refine ⟨ho.1, ?_⟩
 rcases ho.2 with hn | ⟨g, cap, cur, rfl, hb, hh, r⟩
 · exact .inl hn
 exact .inr ⟨g, cap, cur, rfl, hb, h.blk (t := e) hh (hlt g rfl) he, r⟩
structure Ls (w : World) (b : Nat) (l : List Px.Nd) : Prop where
 rows : ∃ nv, Blk w b #[nv] 84 ∧ w.ownsRow (b + 1) 43 4 nv l.length (ndsV l)
theorem Ls.below {w w' : World} {b : Nat} {l : List Px.Nd} (h : Ls w b l) (hb : Below w.heap.size w w') : Ls w' b l := by
 obtain ⟨nv, h1, h2⟩ := h.rows
 exact ⟨nv, h1.below hb h1.lt, obw h2 hb⟩
theorem Ls.alloc {w : World} {b : Nat} {l : List Px.Nd} (h : Ls w b l) (o : Obj) : Ls (w.alloc o) b l := h.below ((Below.refl _ _).alloc (nlr _) o)
theorem Ls.lt {w : World} {b : Nat} {l : List Px.Nd} (h : Ls w b l) : b < w.heap.size := by
 obtain ⟨nv, h1, h2⟩ := h.rows
 exact h1.lt
theorem node_news (w : World) (a b c d : Value) (t : TypeId) : ∀ j u, ([a, b, c, d] : List Value)[j]? = some u → (w.alloc (.cells #[a, b, c, d] t)).cell? ((⟨w.heap.size, 0, none⟩ : Addr).add j) = some u := by
 intro j u hu
 rw [Addr.add_lit, Nat.zero_add, (Blk.new w #[a, b, c, d] t).cell]
 simpa using hu
theorem yaa (w : World) (b : Nat) (l : List Px.Nd) (h : Ls w b l) (hl : l.length ≤ 100000) (kd : Int) (tx : ByteArray) (nu ks : Int) :
   Calls Tryz.prog 47 #[.pointer (some ⟨b, 0, none⟩), .int .i64 kd, .string tx, .int .i64 nu, .int .i64 ks] w fun x w' => x = .returned (.tuple #[]) ∧ Ls w' b (l ++ [⟨kd, tx.data.toList, nu, ks⟩]) ∧ Kp w w' b := by
 obtain ⟨i0, hi, hz0, hz1, hz2⟩ := info_parts Tryz.info43
 obtain ⟨nv, hblk, hown⟩ := h.rows
 have hlt := hblk.lt
 obtain ⟨ao, n, cp, rfl⟩ := osl hown
 have c0 : w.cell? ⟨b, 0, none⟩ = some (.slice ao n cp) := hblk.cell 0
 have f0 := hblk.free 0
 have HB := hd hblk
 have HO := hd hown
 clear h hblk hown
 go_enter Tryz.func47, Tryz.ntmps47
 go_wp2_with (first
  | (at_builtin; refine wpList_append_own _ rfl _ _ 22 rfl (b + 1) 43 i0 (.agg #[.int .i64 0, .string ⟨#[]⟩, .int .i64 0, .int .i64 0]) 4 40 Tryz.underlying22 hi hz0 hz1 hz2 rfl (by decide) _ _ _ rfl (HO.out.alloc _) ⟨w.heap.size, 0, none⟩ 1 1 [.int .i64 kd, .string tx, .int .i64 nu, .int .i64 ks] rfl rfl ?c1 ?c2 ?c3 ?c4 ?c5 ?_)
  | fail)
 case c1 => exact node_news w (.int .i64 kd) (.string tx) (.int .i64 nu) (.int .i64 ks) 43
 case c2 => intro u hu; simp at hu; rcases hu with rfl | rfl | rfl | rfl <;> rfl
 case c3 => unfold maxLen; omega
 case c4 => omega
 case c5 => simp; omega
 intro v' w3 hown' hgrow _
 have hne : some b ≠ Value.ownBlock (.slice ao n cp) := by
  intro e
  have := (HO.out.lt b e.symm).1
  omega
 have KB : Blk w3 b #[.slice ao n cp] 84 := by
  have := HB.out.alloc (.cells #[.int .i64 kd, .string tx, .int .i64 nu, .int .i64 ks] 43)
  unfold Blk at this ⊢
  rw [hgrow.block b (Array.getElem?_eq_some_iff.1 this).1 (fun e => hne e)]
  exact this
 have c3' : w3.cell? ⟨b, 0, none⟩ = some (.slice ao n cp) := KB.cell 0
 have f3 := KB.free 0
 obtain ⟨ao', n', cp', rfl⟩ := osl hown'
 have HKB := hd KB
 have HO3 := hd hown'
 have HG3 := hd hgrow
 clear KB hown' hgrow
 go_wp2_with fail
 go_end0
 refine ⟨rfl, ⟨.slice ao' n' cp', HKB.out.set 0 _, ?_⟩, ?_⟩
 · rw [List.length_append, List.length_singleton, ndsV_append, ndsV_one]
   have := HO3.out.kept (gbs w3 b 0 (.slice ao' n' cp')) (by
    cases hv : Value.ownBlock (.slice ao' n' cp') with
    | none => exact .inl rfl
    | some g => right; have := (HO3.out.lt g hv).1; simp; omega)
   simpa [ndV] using this
 refine ⟨HG3.out.os, HG3.out.tape, HG3.out.output, ?_, fun k o hk hc => ?_⟩
 · have := HG3.out.size
   simp only [World.size_alloc] at this
   simp only [World.setCell]
   simp
   omega
 have hkl := (Array.getElem?_eq_some_iff.1 hk).1
 have hkb : k ≠ b := by
  rcases hc with h | h
  · omega
  exact h.1
 rw [Below.heap_setCell _ _ _ _ (by show k ≠ b; exact hkb)]
 rw [HG3.out.block k (by simp; omega) (by
  intro e
  obtain ⟨cur, hcur⟩ := own_type HO.out k e.symm
  have := (HO.out.lt k e.symm).1
  rcases hc with h | h
  · omega
  rw [hk] at hcur
  simp only [Option.some.injEq] at hcur
  exact h.2 _ _ hcur)]
 rw [heap_alloc_old w _ hkl]
 exact hk
theorem y_one_any (v : Bool) (w : World) : Calls Tryz.prog 81 #[.bool v] w fun x w' => x = .returned (.int .i64 (if v = true then 1 else 0)) ∧ w' = w := by
 cases v
 all_goals
  go_enter Tryz.func81, Tryz.ntmps81
  go_wp2
  go_ret
  exact ⟨rfl, rfl⟩
theorem is_null (w : World) : (Instr.typeAssert (.iface 190 (.agg #[])) 97 190 true).run Tryz.prog w = .ok (.tuple #[.agg #[], .bool true]) w := by kernel_rfl
theorem is_bool (a : Value) (w : World) : (Instr.typeAssert (.iface 192 (.agg #[a])) 97 192 true).run Tryz.prog w = .ok (.tuple #[.agg #[a], .bool true]) w := by kernel_rfl
theorem is_str (a : Value) (w : World) : (Instr.typeAssert (.iface 196 (.agg #[a])) 97 196 true).run Tryz.prog w = .ok (.tuple #[.agg #[a], .bool true]) w := by kernel_rfl
theorem is_nm (a : Value) (w : World) : (Instr.typeAssert (.iface 198 (.agg #[a])) 97 198 true).run Tryz.prog w = .ok (.tuple #[.agg #[a], .bool true]) w := by kernel_rfl
theorem no_null (t : Nat) (v : Value) (ht : t = 192 ∨ t = 194 ∨ t = 196 ∨ t = 198 ∨ t = 200 ∨ t = 202) (w : World) : (Instr.typeAssert (.iface t v) 97 190 true).run Tryz.prog w = .ok (.tuple #[.agg #[], .bool false]) w := by
 rcases ht with rfl | rfl | rfl | rfl | rfl | rfl
 all_goals (show Sem.run _ _ _ = _; kernel_rfl)
theorem no_bool (t : Nat) (v : Value) (ht : t = 194 ∨ t = 196 ∨ t = 198 ∨ t = 200 ∨ t = 202) (w : World) : (Instr.typeAssert (.iface t v) 97 192 true).run Tryz.prog w = .ok (.tuple #[.agg #[.bool false], .bool false]) w := by
 rcases ht with rfl | rfl | rfl | rfl | rfl
 all_goals (show Sem.run _ _ _ = _; kernel_rfl)
theorem no_num (t : Nat) (v : Value) (ht : t = 196 ∨ t = 198 ∨ t = 200 ∨ t = 202) (w : World) : (Instr.typeAssert (.iface t v) 97 194 true).run Tryz.prog w = .ok (.tuple #[.agg #[.int .i64 0], .bool false]) w := by
 rcases ht with rfl | rfl | rfl | rfl
 all_goals (show Sem.run _ _ _ = _; kernel_rfl)
theorem no_str (t : Nat) (v : Value) (ht : t = 198 ∨ t = 200 ∨ t = 202) (w : World) : (Instr.typeAssert (.iface t v) 97 196 true).run Tryz.prog w = .ok (.tuple #[.agg #[.string ⟨#[]⟩], .bool false]) w := by
 rcases ht with rfl | rfl | rfl
 all_goals (show Sem.run _ _ _ = _; kernel_rfl)
theorem no_nm (t : Nat) (v : Value) (ht : t = 200 ∨ t = 202) (w : World) : (Instr.typeAssert (.iface t v) 97 198 true).run Tryz.prog w = .ok (.tuple #[.agg #[.string ⟨#[]⟩], .bool false]) w := by
 rcases ht with rfl | rfl
 all_goals (show Sem.run _ _ _ = _; kernel_rfl)
def LsOut (w : World) (b : Nat) (l : List Px.Nd) (x : Ending) (w' : World) : Prop := x = .returned (.tuple #[]) ∧ Ls w' b l ∧ Kp w w' b
theorem expr_null (w : World) (b : Nat) (l : List Px.Nd) (h : Ls w b l) (hl : l.length ≤ 90000) :
   Calls Tryz.prog 80 #[.pointer (some ⟨b, 0, none⟩), .iface 190 (.agg #[])] w (LsOut w b (l ++ [⟨14, [], 0, 0⟩])) := by
 have yes := is_null
 have HX := hd h
 clear h
 go_enter Tryz.func80, Tryz.ntmps80
 go_wp2_with fail
 refine (yaa _ b l (HX.out.alloc _) (by omega) 14 ⟨#[]⟩ 0 0).mono ?_
 rintro x w1 ⟨rfl, hls, hkp⟩
 have HL1 := hd hls
 have HK1 := hd ((Kp.below ((Below.refl _ _).alloc (nlr _) _)).trans hkp)
 clear hls hkp
 go_wp2_with fail
 go_end0
 exact ⟨rfl, HL1.out, HK1.out⟩
theorem expr_bool (w : World) (b : Nat) (l : List Px.Nd) (h : Ls w b l) (hl : l.length ≤ 90000) (v : Bool) (n : Int) (hn : (if v = true then (1 : Int) else 0) = n) :
   Calls Tryz.prog 80 #[.pointer (some ⟨b, 0, none⟩), .iface 192 (.agg #[.bool v])] w (LsOut w b (l ++ [⟨15, [], n, 0⟩])) := by
 have HN := hd hn
 clear hn
 have no0 := no_null 192 (.agg #[.bool v]) (.inl rfl)
 have yes := is_bool (.bool v)
 have HX := hd h
 clear h
 go_enter Tryz.func80, Tryz.ntmps80
 go_wp2_with fail
 refine (y_one_any v _).mono ?_
 rintro x w0 ⟨rfl, rfl⟩
 rw [HN.out]
 go_wp2_with fail
 refine (yaa _ b l (HX.out.alloc _) (by omega) 15 ⟨#[]⟩ n 0).mono ?_
 rintro x w1 ⟨rfl, hls, hkp⟩
 have HL1 := hd hls
 have HK1 := hd ((Kp.below ((Below.refl _ _).alloc (nlr _) _)).trans hkp)
 clear hls hkp
 go_wp2_with fail
 go_end0
 exact ⟨rfl, HL1.out, HK1.out⟩
theorem expr_num (w : World) (b : Nat) (l : List Px.Nd) (h : Ls w b l) (hl : l.length ≤ 90000) (z : Int) :
   Calls Tryz.prog 80 #[.pointer (some ⟨b, 0, none⟩), .iface 194 (.agg #[.int .i64 z])] w (LsOut w b (l ++ [⟨16, [], z, 0⟩])) := by
 have no0 := no_null 194 (.agg #[.int .i64 z]) (.inr (.inl rfl))
 have no1 := no_bool 194 (.agg #[.int .i64 z]) (.inl rfl)
 have yes := is_num (.int .i64 z)
 have HX := hd h
 clear h
 go_enter Tryz.func80, Tryz.ntmps80
 go_wp2_with fail
 refine (yaa _ b l (HX.out.alloc _) (by omega) 16 ⟨#[]⟩ z 0).mono ?_
 rintro x w1 ⟨rfl, hls, hkp⟩
 have HL1 := hd hls
 have HK1 := hd ((Kp.below ((Below.refl _ _).alloc (nlr _) _)).trans hkp)
 clear hls hkp
 go_wp2_with fail
 go_end0
 exact ⟨rfl, HL1.out, HK1.out⟩
theorem expr_str (w : World) (b : Nat) (l : List Px.Nd) (h : Ls w b l) (hl : l.length ≤ 90000) (s : ByteArray) :
   Calls Tryz.prog 80 #[.pointer (some ⟨b, 0, none⟩), .iface 196 (.agg #[.string s])] w (LsOut w b (l ++ [⟨17, s.data.toList, 0, 0⟩])) := by
 have no0 := no_null 196 (.agg #[.string s]) (.inr (.inr (.inl rfl)))
 have no1 := no_bool 196 (.agg #[.string s]) (.inr (.inl rfl))
 have no2 := no_num 196 (.agg #[.string s]) (.inl rfl)
 have yes := is_str (.string s)
 have HX := hd h
 clear h
 go_enter Tryz.func80, Tryz.ntmps80
 go_wp2_with fail
 refine (yaa _ b l (HX.out.alloc _) (by omega) 17 s 0 0).mono ?_
 rintro x w1 ⟨rfl, hls, hkp⟩
 have HL1 := hd hls
 have HK1 := hd ((Kp.below ((Below.refl _ _).alloc (nlr _) _)).trans hkp)
 clear hls hkp
 go_wp2_with fail
 go_end0
 exact ⟨rfl, HL1.out, HK1.out⟩
theorem expr_nm (w : World) (b : Nat) (l : List Px.Nd) (h : Ls w b l) (hl : l.length ≤ 90000) (s : ByteArray) :
   Calls Tryz.prog 80 #[.pointer (some ⟨b, 0, none⟩), .iface 198 (.agg #[.string s])] w (LsOut w b (l ++ [⟨18, s.data.toList, 0, 0⟩])) := by
 have no0 := no_null 198 (.agg #[.string s]) (.inr (.inr (.inr (.inl rfl))))
 have no1 := no_bool 198 (.agg #[.string s]) (.inr (.inr (.inl rfl)))
 have no2 := no_num 198 (.agg #[.string s]) (.inr (.inl rfl))
 have no3 := no_str 198 (.agg #[.string s]) (.inl rfl)
 have yes := is_nm (.string s)
 have HX := hd h
 clear h
 go_enter Tryz.func80, Tryz.ntmps80
 go_wp2_with fail
 refine (yaa _ b l (HX.out.alloc _) (by omega) 18 s 0 0).mono ?_
 rintro x w1 ⟨rfl, hls, hkp⟩
 have HL1 := hd hls
 have HK1 := hd ((Kp.below ((Below.refl _ _).alloc (nlr _) _)).trans hkp)
 clear hls hkp
 go_wp2_with fail
 go_end0
 exact ⟨rfl, HL1.out, HK1.out⟩
theorem expr_un (w : World) (b : Nat) (l : List Px.Nd) (h : Ls w b l) (hl : l.length ≤ 90000) (k : Nat) (tv : Nat) (xv : Value) (r : List Px.Nd)
   (ih : ∀ (w : World) (l' : List Px.Nd), Ls w b l' → l'.length ≤ l.length + 1 → Calls Tryz.prog 80 #[.pointer (some ⟨b, 0, none⟩), .iface tv xv] w (LsOut w b (l' ++ r))) :
   Calls Tryz.prog 80 #[.pointer (some ⟨b, 0, none⟩), .iface 200 (.agg #[.int .i64 (k : Int), .iface tv xv])] w (LsOut w b (l ++ (⟨(k : Int), [], 0, 1⟩ :: r))) := by
 have no0 := no_null 200 (.agg #[.int .i64 (k : Int), .iface tv xv]) (.inr (.inr (.inr (.inr (.inl rfl)))))
 have no1 := no_bool 200 (.agg #[.int .i64 (k : Int), .iface tv xv]) (.inr (.inr (.inr (.inl rfl))))
 have no2 := no_num 200 (.agg #[.int .i64 (k : Int), .iface tv xv]) (.inr (.inr (.inl rfl)))
 have no3 := no_str 200 (.agg #[.int .i64 (k : Int), .iface tv xv]) (.inr (.inl rfl))
 have no4 := no_nm 200 (.agg #[.int .i64 (k : Int), .iface tv xv]) (.inl rfl)
 have yes := is_un (.int .i64 (k : Int)) (.iface tv xv)
 have HX := hd h
 have hlt := h.lt
 have HI := hd ih
 clear h ih
 go_enter Tryz.func80, Tryz.ntmps80
 go_wp2_with fail
 have HL := hd (Blk.new w #[.int .i64 (k : Int), .iface tv xv] 200)
 refine (yaa _ b l (HX.out.alloc _) (by omega) (k : Int) ⟨#[]⟩ 0 1).mono ?_
 rintro x w1 ⟨rfl, hls, hkp⟩
 have HL1 := hd hls
 have HB1 := hd (hkp.blk HL.out (by omega) (by decide))
 have HK1 := hd ((Kp.below ((Below.refl _ _).alloc (nlr _) _)).trans hkp)
 have c1 : w1.cell? ⟨w.heap.size, 1, none⟩ = some (.iface tv xv) := HB1.out.cell 1
 clear hls hkp HL
 go_wp2_with fail
 refine (HI.out w1 _ HL1.out (by simp)).mono ?_
 rintro x w2 ⟨rfl, hls, hkp⟩
 have HL2 := hd hls
 have HK2 := hd (HK1.out.trans hkp)
 clear hls hkp
 go_wp2_with fail
 go_end0
 refine ⟨rfl, ?_, HK2.out⟩
 have := HL2.out
 rwa [laa] at this
theorem expr_bin (w : World) (b : Nat) (l : List Px.Nd) (h : Ls w b l) (k : Nat) (tu : Nat) (xu : Value) (tv : Nat) (xv : Value) (r r2 : List Px.Nd) (hl : l.length ≤ 90000)
   (iha : ∀ (w : World) (l' : List Px.Nd), Ls w b l' → l'.length ≤ l.length + 1 → Calls Tryz.prog 80 #[.pointer (some ⟨b, 0, none⟩), .iface tu xu] w (LsOut w b (l' ++ r)))
   (ihb : ∀ (w : World) (l' : List Px.Nd), Ls w b l' → l'.length ≤ l.length + 1 + r.length → Calls Tryz.prog 80 #[.pointer (some ⟨b, 0, none⟩), .iface tv xv] w (LsOut w b (l' ++ r2))) :
   Calls Tryz.prog 80 #[.pointer (some ⟨b, 0, none⟩), .iface 202 (.agg #[.int .i64 (k : Int), .iface tu xu, .iface tv xv])] w (LsOut w b (l ++ (⟨(k : Int), [], 0, 2⟩ :: (r ++ r2)))) := by
 have no0 := no_null 202 (.agg #[.int .i64 (k : Int), .iface tu xu, .iface tv xv]) (.inr (.inr (.inr (.inr (.inr rfl)))))
 have no1 := no_bool 202 (.agg #[.int .i64 (k : Int), .iface tu xu, .iface tv xv]) (.inr (.inr (.inr (.inr rfl))))
 have no2 := no_num 202 (.agg #[.int .i64 (k : Int), .iface tu xu, .iface tv xv]) (.inr (.inr (.inr rfl)))
 have no3 := no_str 202 (.agg #[.int .i64 (k : Int), .iface tu xu, .iface tv xv]) (.inr (.inr rfl))
 have no4 := no_nm 202 (.agg #[.int .i64 (k : Int), .iface tu xu, .iface tv xv]) (.inr rfl)
 have no5 := bin_un (.int .i64 (k : Int)) (.iface tu xu) (.iface tv xv)
 have yes := is_bin (.int .i64 (k : Int)) (.iface tu xu) (.iface tv xv)
 have HX := hd h
 have hlt := h.lt
 have HI := hd iha
 have HJ := hd ihb
 clear h iha ihb
 go_enter Tryz.func80, Tryz.ntmps80
 go_wp2_with fail
 have HL := hd (Blk.new w #[.int .i64 (k : Int), .iface tu xu, .iface tv xv] 202)
 refine (yaa _ b l (HX.out.alloc _) (by omega) (k : Int) ⟨#[]⟩ 0 2).mono ?_
 rintro x w1 ⟨rfl, hls, hkp⟩
 have HL1 := hd hls
 have HB1 := hd (hkp.blk HL.out (by omega) (by decide))
 have HK1 := hd ((Kp.below ((Below.refl _ _).alloc (nlr _) _)).trans hkp)
 have c1 : w1.cell? ⟨w.heap.size, 1, none⟩ = some (.iface tu xu) := HB1.out.cell 1
 clear hls hkp HL
 go_wp2_with fail
 refine (HI.out w1 _ HL1.out (by simp)).mono ?_
 rintro x w2 ⟨rfl, hls, hkp⟩
 have HL2 := hd hls
 have HB2 := hd (hkp.blk HB1.out (by omega) (by decide))
 have HK2 := hd (HK1.out.trans hkp)
 have c2 : w2.cell? ⟨w.heap.size, 2, none⟩ = some (.iface tv xv) := HB2.out.cell 2
 clear hls hkp c1
 go_wp2_with fail
 refine (HJ.out w2 _ HL2.out (by simp; omega)).mono ?_
 rintro x w3 ⟨rfl, hls, hkp⟩
 have HL3 := hd hls
 have HK3 := hd (HK2.out.trans hkp)
 clear hls hkp
 go_wp2_with fail
 go_end0
 refine ⟨rfl, ?_, HK3.out⟩
 have := HL3.out
 rwa [laa, laa] at this
theorem y_expr_any (b : Nat) (e : Px.E) : ∀ (w : World) (l : List Px.Nd), Ls w b l → l.length + e.size ≤ 90000 → Calls Tryz.prog 80 #[.pointer (some ⟨b, 0, none⟩), ev e] w (LsOut w b (l ++ e.nodes)) := by
 induction e with
 | null => intro w l h hl; exact expr_null w b l h (by omega)
 | bool v => intro w l h hl; exact expr_bool w b l h (by omega) v _ rfl
 | num z => intro w l h hl; exact expr_num w b l h (by omega) z
 | str s => intro w l h hl; have := expr_str w b l h (by omega) ⟨s.toArray⟩; exact this
 | nm s => intro w l h hl; have := expr_nm w b l h (by omega) ⟨s.toArray⟩; exact this
 | un k e ih =>
  intro w l h hl
  simp only [Px.E.size] at hl
  obtain ⟨t, y, hy⟩ := evi e
  have := expr_un w b l h (by omega) k t y e.nodes (fun w' l' h' hl' => by
   have := ih w' l' h' (by omega)
   rwa [hy] at this)
  unfold ev
  rw [hy]
  exact this
 | bin k a c iha ihb =>
  intro w l h hl
  simp only [Px.E.size] at hl
  obtain ⟨t, y, hy⟩ := evi a
  obtain ⟨t2, y2, hy2⟩ := evi c
  have := expr_bin w b l h k t y t2 y2 a.nodes c.nodes (by omega) (fun w' l' h' hl' => by
   have := iha w' l' h' (by omega)
   rwa [hy] at this) (fun w' l' h' hl' => by
   rw [a.nodes_length] at hl'
   have := ihb w' l' h' (by omega)
   rwa [hy2] at this)
  unfold ev
  rw [hy, hy2]
  exact this
theorem y_where_any (b : Nat) (o : Option Px.E) (w : World) (l : List Px.Nd) (h : Ls w b l) (hl : l.length + (Px.whereN o).length ≤ 90000) : Calls Tryz.prog 50 #[.pointer (some ⟨b, 0, none⟩), ev? o] w (LsOut w b (l ++ Px.whereN o)) := by
 cases o with
 | none =>
  unfold ev?
  go_enter Tryz.func50, Tryz.ntmps50
  go_wp2_with fail
  go_end0
  exact ⟨rfl, by simpa [Px.whereN] using h, Kp.refl _ _⟩
 | some e =>
  have HX := hd h
  simp only [Px.whereN, Px.over1, List.length_cons, Px.E.nodes_length] at hl
  have HI := hd (y_expr_any b e)
  obtain ⟨t, y, hy⟩ := evi e
  simp only [ev?]
  rw [hy] at HI ⊢
  clear h hy
  go_enter Tryz.func50, Tryz.ntmps50
  go_wp2_with fail
  refine (yaa _ b l HX.out (by omega) 11 ⟨#[]⟩ 0 1).mono ?_
  rintro x w1 ⟨rfl, hls, hkp⟩
  have HL1 := hd hls
  have HK1 := hd hkp
  clear hls hkp
  go_wp2_with fail
  refine (HI.out w1 _ HL1.out (by simp; omega)).mono ?_
  rintro x w2 ⟨rfl, hls, hkp⟩
  have HL2 := hd hls
  have HK2 := hd (HK1.out.trans hkp)
  clear hls hkp
  go_wp2_with fail
  go_end0
  refine ⟨rfl, ?_, HK2.out⟩
  have := HL2.out
  rw [laa] at this
  exact this
theorem y_count_any (o : Option Px.E) (w : World) : Calls Tryz.prog 49 #[ev? o] w fun x w' => x = .returned (.int .i64 ((Px.one? o : Nat) : Int)) ∧ w' = w := by
 cases o with
 | none =>
  unfold ev?
  go_enter Tryz.func49, Tryz.ntmps49
  go_wp2_with (go_at_call 81; refine (y_one_any _ _).mono ?_; rintro x w' ⟨rfl, rfl⟩)
  go_ret
  exact ⟨rfl, rfl⟩
 | some e =>
  obtain ⟨t, y, hy⟩ := evi e
  simp only [ev?]
  rw [hy]
  go_enter Tryz.func49, Tryz.ntmps49
  go_wp2_with (go_at_call 81; refine (y_one_any _ _).mono ?_; rintro x w' ⟨rfl, rfl⟩)
  go_ret
  exact ⟨rfl, rfl⟩
theorem flat_at {α : Type} (cl : α → List Value) (m : Nat) (hm : ∀ a, (cl a).length = m) : ∀ (l : List α) (k : Nat) (h : k < l.length) (j : Nat), j < m → (l.flatMap cl)[k * m + j]? = (cl l[k])[j]?
 | a :: l, 0, _, j, hj => by
  rw [List.flatMap_cons, Nat.zero_mul, Nat.zero_add, List.getElem?_append_left (by rw [hm]; exact hj)]
  rfl
 | a :: l, k + 1, h, j, hj => by
  have ih := flat_at cl m hm l k (by simpa using h) j hj
  rw [List.flatMap_cons, List.getElem?_append_right (by rw [hm, Nat.succ_mul]; omega), hm, show (k + 1) * m + j - m = k * m + j by rw [Nat.succ_mul]; omega, ih]
  rfl
theorem ls_cells {α : Type} {w : World} {base : Nat} {T : TypeId} {m : Nat} {cl : α → List Value} {l : List α} {u : Value} (hm : ∀ a, (cl a).length = m) (h : w.ownsRow base T m u l.length (l.flatMap cl)) : ∃ ao cap, u = .slice ao l.length cap ∧ l.length ≤ cap ∧ cap ≤ maxLen ∧
   ∀ k, (hk : k < l.length) → ∃ g, ao = some ⟨g, 0, none⟩ ∧ g < w.heap.size ∧ ∀ j, (hj : j < m) → w.cell? ⟨g, k * m + j, none⟩ = (cl l[k])[j]? := by
 have h2 := h.2
 rcases h2 with ⟨rfl, hn⟩ | ⟨g, cap, cur, rfl, hb, hg, h1, h2, h3, h4⟩
 · exact ⟨none, 0, by rw [hn], by omega, by unfold maxLen; omega, fun k hk => by omega⟩
 refine ⟨some ⟨g, 0, none⟩, cap, rfl, h1, h2, fun k hk => ⟨g, rfl, (Array.getElem?_eq_some_iff.1 hg).1, fun j hj => ?_⟩⟩
 have hc := h.cells (g := g) rfl
 have hf := flat_at cl m hm l k hk j hj
 have hs : ∃ x, (cl l[k])[j]? = some x := ⟨_, List.getElem?_eq_getElem (by rw [hm]; exact hj)⟩
 obtain ⟨x, hx⟩ := hs
 have := hc _ x (by rw [hf]; exact hx)
 simp only [Addr.add_lit, Nat.zero_add] at this
 rw [this, hx]
theorem y_create_any (b : Nat) (w : World) (t : Lx.Bs) (c : List (Lx.Bs × Nat)) (u : Value) (base : Nat) (h : Ls w b []) (hu : w.ownsRow base 135 2 u c.length (c.flatMap colC)) (hub : ∀ g, u.ownBlock = some g → g < b) (hc : c.length ≤ 3000) :
   Calls Tryz.prog 46 #[.pointer (some ⟨b, 0, none⟩), .agg #[.string ⟨t.toArray⟩, u]] w (LsOut w b (Px.St.create t c).nodes) := by
 have hlt := h.lt
 have HO := hd hu
 have hsl := osl hu
 obtain ⟨ao, cap, rfl, hcap1, hcap2, _⟩ := ls_cells (cl := colC) (m := 2) (fun a => rfl) hu
 have HX := hd h
 unfold maxLen at hcap2
 clear h hu hsl
 have HBX := hd (Blk.new w #[.string ⟨t.toArray⟩, .slice ao c.length cap] 87)
 have HO' := hd (oal HO.out (.cells #[.string ⟨t.toArray⟩, .slice ao c.length cap] 87))
 have HUB := hd hub
 clear hub
 go_enter Tryz.func46, Tryz.ntmps46
 go_wp2_with fail
 refine (yaa _ b [] (HX.out.alloc _) (by simp) 1 ⟨t.toArray⟩ 0 (c.length : Int)).mono ?_
 rintro x w1 ⟨rfl, hls, hkp⟩
 have HL1 := hd hls
 have HK1 := hd ((Kp.below (b := b) ((Below.refl w.heap.size w).alloc (nlr _) (.cells #[.string ⟨t.toArray⟩, .slice ao c.length cap] 87))).trans hkp)
 have HB1 := hd (hkp.blk HBX.out (by omega) (by decide))
 have x1 : w1.cell? ⟨w.heap.size, 1, none⟩ = some (.slice ao c.length cap) := HB1.out.cell 1
 clear hls hkp HBX HO'
 go_wp2_with fail
 go_loopw [16] (fun i wr => ∃ k : Nat, k ≤ c.length ∧ i = .int .i64 k ∧ Hid (Ls wr b (⟨1, t, 0, c.length⟩ :: (c.take k).map Px.colN)) ∧ Hid (Kp w wr b)) (fun i _ => c.length - (intOf i).toNat)
 case atStart => exact ⟨0, by omega, rfl, (by show Ls _ _ _; have := HL1.out; simpa using this), HK1⟩
 case round =>
  clear HL1 HK1 HB1 x1
  obtain ⟨k, hk, rfl, HL, HK⟩ := hrel
  by_cases hlt2 : k < c.length
  · have hown := HK.out.own HO.out (by decide) (fun g hg => by have := HUB.out g hg; omega)
    obtain ⟨ao2, cap2, hsl, _, _, hcells⟩ := ls_cells (cl := colC) (m := 2) (fun a => rfl) hown
    simp only [Value.slice.injEq, true_and] at hsl
    obtain ⟨rfl, rfl⟩ := hsl
    obtain ⟨g, rfl, hg, hj⟩ := hcells k hlt2
    have p0 := hj 0 (by omega)
    have p1 := hj 1 (by omega)
    have HT := hd (List.take_succ_eq_append_getElem hlt2)
    have hws := HL.out.lt
    simp only [colC, Nat.add_zero, List.getElem?_cons_zero, List.getElem?_cons_succ] at p0 p1
    generalize c[k] = cc at *
    obtain ⟨n, ty⟩ := cc
    simp only at p0 p1
    have z1 : (0 : Int) ≤ (k : Int) := by omega
    clear hown hcells hj
    go_wp2_with fail
    refine (yaa _ b _ (HL.out.alloc _) (by simp; omega) 2 ⟨n.toArray⟩ (ty : Int) 0).mono ?_
    rintro x w3 ⟨rfl, hls, hkp⟩
    have HL3 := hd hls
    have HK3 := hd (HK.out.trans ((Kp.below (b := b) ((Below.refl wr.heap.size wr).alloc (nlr _) (.cells #[.string ⟨n.toArray⟩, .int .i64 (ty : Int)] 135))).trans hkp))
    clear hls hkp HL HK
    go_wp2_with fail
    go_roundw
    case rel => exact ⟨k + 1, by omega, by go_num, (by have := HL3.out; show Ls _ _ _; rw [HT.out]; simpa [Px.colN] using this), HK3⟩
    case measure => simp [intOf]; omega
  have hkc : k = c.length := by omega
  go_wp2_with fail
  go_end0
  refine ⟨rfl, ?_, HK.out⟩
  have := HL.out
  rw [hkc, List.take_length] at this
  exact this
theorem Ls.drew {w : World} {b : Nat} {l : List Px.Nd} (h : Ls w b l) : Ls w.drew b l := h.below ((Below.refl _ _).drew)
theorem Kp.drew (w : World) (b : Nat) : Kp w w.drew b := Kp.below ((Below.refl _ _).drew)
theorem flat_take_le {α β : Type} (f : α → List β) (l : List α) (n : Nat) : ((l.take n).flatMap f).length ≤ (l.flatMap f).length := by
 conv => rhs; rw [← List.take_append_drop n l]
 rw [List.flatMap_append, List.length_append]
 omega
theorem flat_take_succ {α β : Type} (f : α → List β) (l : List α) (n : Nat) (h : n < l.length) : (l.take (n + 1)).flatMap f = (l.take n).flatMap f ++ f l[n] := by
 rw [List.take_succ_eq_append_getElem h, List.flatMap_append]
 simp
theorem y_update_any (b : Nat) (w : World) (t : Lx.Bs) (s : List (Lx.Bs × Px.E)) (o : Option Px.E) (u : Value) (base : Nat) (h : Ls w b []) (hu : w.ownsRow base 139 2 u s.length (s.flatMap setC)) (hub : ∀ g, u.ownBlock = some g → g < b) (hc : (Px.St.update t s o).nodes.length ≤ 80000) (hsl : s.length ≤ 3000) :
   Calls Tryz.prog 51 #[.pointer (some ⟨b, 0, none⟩), .agg #[.string ⟨t.toArray⟩, u, ev? o]] w (LsOut w b (Px.St.update t s o).nodes) := by
 have hlt := h.lt
 have HO := hd hu
 obtain ⟨ao, cap, rfl, hcap1, hcap2, _⟩ := ls_cells (cl := setC) (m := 2) (fun a => rfl) hu
 have HX := hd h
 have HUB := hd hub
 have HCN := hd (y_count_any o)
 have HWH := hd (y_where_any b o)
 have ho1 : Px.one? o ≤ 1 := by cases o <;> simp [Px.one?]
 have hwr : IntKind.i64.wrap ((s.length : Int) + ((Px.one? o : Nat) : Int)) = (s.length : Int) + ((Px.one? o : Nat) : Int) := wrap_small _ (by omega) (by omega)
 have hv1 := ev?_one o
 unfold maxLen at hcap2
 clear h hu hub
 generalize hvo : ev? o = vo at *
 have HVO := hd hvo
 clear hvo
 generalize hon : Px.one? o = on at *
 have HON := hd hon
 clear hon
 rcases hv1 with rfl | ⟨et, ex, rfl⟩
 · have HBX := hd (Blk.new w #[.string ⟨t.toArray⟩, .slice ao s.length cap, .nilIface] 104)
   go_enter Tryz.func51, Tryz.ntmps51
   go_wp2_with fail
   go_region_held3 (fun w' => w'.cell? ⟨w.heap.size, 0, none⟩ = some (.string ⟨t.toArray⟩) ∧ w'.cell? ⟨w.heap.size, 1, none⟩ = some (.slice ao s.length cap) ∧ w'.cell? ⟨w.heap.size, 2, none⟩ = some (.nilIface)) (go_keep)
     (first
      | (go_at_call 49; refine (HCN.out _).mono ?_; rintro x w' ⟨rfl, rfl⟩)
      | (go_at_call 47
         refine (yaa _ b [] (HX.out.alloc _).drew (by simp) 7 ⟨t.toArray⟩ 0 _).mono ?_
         rintro x w1 ⟨rfl, hls, hkp⟩
         have HB1 := hd (hkp.blk HBX.out.drew (by omega) (by decide))
         have q0 := HB1.out.cell 0
         have q1 := HB1.out.cell 1
         have q2 := HB1.out.cell 2
         simp at q0 q1 q2))
   have HL1 := hd hls
   have HK1 := hd (((Kp.below (b := b) ((Below.refl w.heap.size w).alloc (nlr _) (.cells #[.string ⟨t.toArray⟩, .slice ao s.length cap, .nilIface] 104))).trans (Kp.drew _ b)).trans hkp)
   clear hls hkp HBX q0 q2
   go_wp2_with fail
   go_loopw [20] (fun i wr => ∃ k : Nat, k ≤ s.length ∧ i = .int .i64 k ∧ Hid (Ls wr b (⟨7, t, 0, s.length + on⟩ :: (s.take k).flatMap Px.setN)) ∧ Hid (Kp w wr b) ∧ Hid (Blk wr w.heap.size #[.string ⟨t.toArray⟩, .slice ao s.length cap, .nilIface] 104)) (fun i _ => s.length - (intOf i).toNat)
   case atStart => exact ⟨0, by omega, rfl, (by show Ls _ _ _; have := HL1.out; simpa using this), HK1, HB1⟩
   case round =>
    clear HL1 HK1 HB1 q1
    obtain ⟨k, hk, rfl, HL, HK, HB⟩ := hrel
    by_cases hlt2 : k < s.length
    · have hown := HK.out.own HO.out (by decide) (fun g hg => by have := HUB.out g hg; omega)
      obtain ⟨ao2, cap2, hsl2, _, _, hcells⟩ := ls_cells (cl := setC) (m := 2) (fun a => rfl) hown
      simp only [Value.slice.injEq, true_and] at hsl2
      obtain ⟨rfl, rfl⟩ := hsl2
      obtain ⟨g, rfl, hg, hj⟩ := hcells k hlt2
      have p0 := hj 0 (by omega)
      have p1 := hj 1 (by omega)
      have HT := hd (flat_take_succ Px.setN s k hlt2)
      have hlen := flat_take_le Px.setN s (k + 1)
      rw [HT.out] at hlen
      have hws := HL.out.lt
      simp only [setC, Nat.add_zero, List.getElem?_cons_zero, List.getElem?_cons_succ] at p0 p1
      simp only [Px.St.nodes, List.length_cons, List.length_append] at hc hlen
      generalize s[k] = cc at *
      obtain ⟨n, e⟩ := cc
      simp only [Px.setN, List.length_cons, Px.E.nodes_length] at p0 p1 hlen
      have HEX := hd (y_expr_any b e)
      obtain ⟨t2, y2, hy2⟩ := evi e
      rw [hy2] at HEX p1
      have z1 : (0 : Int) ≤ (k : Int) := by omega
      clear hown hcells hj hy2
      have HBL := hd (Blk.new wr #[.string ⟨n.toArray⟩, .iface t2 y2] 139)
      go_wp2_with fail
      refine (yaa _ b _ (HL.out.alloc _) (by simp only [List.length_cons]; omega) 8 ⟨n.toArray⟩ 0 1).mono ?_
      rintro x w3 ⟨rfl, hls, hkp⟩
      have HL3 := hd hls
      have HK3' := hd ((Kp.below (b := b) ((Below.refl wr.heap.size wr).alloc (nlr _) (.cells #[.string ⟨n.toArray⟩, .iface t2 y2] 139))).trans hkp)
      have HB3 := hd (hkp.blk HBL.out (by omega) (by decide))
      have r1 : w3.cell? ⟨wr.heap.size, 1, none⟩ = some (.iface t2 y2) := HB3.out.cell 1
      clear hls hkp HBL
      go_wp2_with fail
      refine (HEX.out w3 _ HL3.out (by simp only [List.length_cons, List.length_append, List.length_nil]; omega)).mono ?_
      rintro x w4 ⟨rfl, hls, hkp⟩
      have HL4 := hd hls
      have HKW := hd (HK3'.out.trans hkp)
      have HK4 := hd (HK.out.trans HKW.out)
      have HB4 := hd (HKW.out.blk HB.out (by omega) (by decide))
      clear hls hkp HL HK HB HL3 HK3' HKW
      go_wp2_with fail
      go_roundw
      case rel => exact ⟨k + 1, by omega, by go_num, (by have := HL4.out; show Ls _ _ _; rw [HT.out]; simpa [Px.setN] using this), HK4, HB4⟩
      case measure => simp [intOf]; omega
    have hkc : k = s.length := by omega
    have v2 : wr.cell? ⟨w.heap.size, 2, none⟩ = some (.nilIface) := HB.out.cell 2
    have HLF : Hid (Ls wr b (⟨7, t, 0, s.length + on⟩ :: s.flatMap Px.setN)) := by
     have := HL.out
     rw [hkc, List.take_length] at this
     exact this
    clear HL
    simp only [Px.St.nodes, List.length_cons, List.length_append] at hc
    go_wp2_with fail
    refine (HWH.out wr _ HLF.out (by simp only [List.length_cons, List.length_append, List.length_nil]; omega)).mono ?_
    rintro x w5 ⟨rfl, hls, hkp⟩
    have HL5 := hd hls
    have HK5 := hd (HK.out.trans hkp)
    clear hls hkp
    go_wp2_with fail
    go_end0
    refine ⟨rfl, ?_, HK5.out⟩
    have := HL5.out
    simp only [Px.St.nodes]
    rw [HON.out]
    simpa using this
 have HBX := hd (Blk.new w #[.string ⟨t.toArray⟩, .slice ao s.length cap, .iface et ex] 104)
 go_enter Tryz.func51, Tryz.ntmps51
 go_wp2_with fail
 go_region_held3 (fun w' => w'.cell? ⟨w.heap.size, 0, none⟩ = some (.string ⟨t.toArray⟩) ∧ w'.cell? ⟨w.heap.size, 1, none⟩ = some (.slice ao s.length cap) ∧ w'.cell? ⟨w.heap.size, 2, none⟩ = some (.iface et ex)) (go_keep)
   (first
    | (go_at_call 49; refine (HCN.out _).mono ?_; rintro x w' ⟨rfl, rfl⟩)
    | (go_at_call 47
       refine (yaa _ b [] (HX.out.alloc _).drew (by simp) 7 ⟨t.toArray⟩ 0 _).mono ?_
       rintro x w1 ⟨rfl, hls, hkp⟩
       have HB1 := hd (hkp.blk HBX.out.drew (by omega) (by decide))
       have q0 := HB1.out.cell 0
       have q1 := HB1.out.cell 1
       have q2 := HB1.out.cell 2
       simp at q0 q1 q2))
 have HL1 := hd hls
 have HK1 := hd (((Kp.below (b := b) ((Below.refl w.heap.size w).alloc (nlr _) (.cells #[.string ⟨t.toArray⟩, .slice ao s.length cap, .iface et ex] 104))).trans (Kp.drew _ b)).trans hkp)
 clear hls hkp HBX q0 q2
 go_wp2_with fail
 go_loopw [20] (fun i wr => ∃ k : Nat, k ≤ s.length ∧ i = .int .i64 k ∧ Hid (Ls wr b (⟨7, t, 0, s.length + on⟩ :: (s.take k).flatMap Px.setN)) ∧ Hid (Kp w wr b) ∧ Hid (Blk wr w.heap.size #[.string ⟨t.toArray⟩, .slice ao s.length cap, .iface et ex] 104)) (fun i _ => s.length - (intOf i).toNat)
 case atStart => exact ⟨0, by omega, rfl, (by show Ls _ _ _; have := HL1.out; simpa using this), HK1, HB1⟩
 case round =>
  clear HL1 HK1 HB1 q1
  obtain ⟨k, hk, rfl, HL, HK, HB⟩ := hrel
  by_cases hlt2 : k < s.length
  · have hown := HK.out.own HO.out (by decide) (fun g hg => by have := HUB.out g hg; omega)
    obtain ⟨ao2, cap2, hsl2, _, _, hcells⟩ := ls_cells (cl := setC) (m := 2) (fun a => rfl) hown
    simp only [Value.slice.injEq, true_and] at hsl2
    obtain ⟨rfl, rfl⟩ := hsl2
    obtain ⟨g, rfl, hg, hj⟩ := hcells k hlt2
    have p0 := hj 0 (by omega)
    have p1 := hj 1 (by omega)
    have HT := hd (flat_take_succ Px.setN s k hlt2)
    have hlen := flat_take_le Px.setN s (k + 1)
    rw [HT.out] at hlen
    have hws := HL.out.lt
    simp only [setC, Nat.add_zero, List.getElem?_cons_zero, List.getElem?_cons_succ] at p0 p1
    simp only [Px.St.nodes, List.length_cons, List.length_append] at hc hlen
    generalize s[k] = cc at *
    obtain ⟨n, e⟩ := cc
    simp only [Px.setN, List.length_cons, Px.E.nodes_length] at p0 p1 hlen
    have HEX := hd (y_expr_any b e)
    obtain ⟨t2, y2, hy2⟩ := evi e
    rw [hy2] at HEX p1
    have z1 : (0 : Int) ≤ (k : Int) := by omega
    clear hown hcells hj hy2
    have HBL := hd (Blk.new wr #[.string ⟨n.toArray⟩, .iface t2 y2] 139)
    go_wp2_with fail
    refine (yaa _ b _ (HL.out.alloc _) (by simp only [List.length_cons]; omega) 8 ⟨n.toArray⟩ 0 1).mono ?_
    rintro x w3 ⟨rfl, hls, hkp⟩
    have HL3 := hd hls
    have HK3' := hd ((Kp.below (b := b) ((Below.refl wr.heap.size wr).alloc (nlr _) (.cells #[.string ⟨n.toArray⟩, .iface t2 y2] 139))).trans hkp)
    have HB3 := hd (hkp.blk HBL.out (by omega) (by decide))
    have r1 : w3.cell? ⟨wr.heap.size, 1, none⟩ = some (.iface t2 y2) := HB3.out.cell 1
    clear hls hkp HBL
    go_wp2_with fail
    refine (HEX.out w3 _ HL3.out (by simp only [List.length_cons, List.length_append, List.length_nil]; omega)).mono ?_
    rintro x w4 ⟨rfl, hls, hkp⟩
    have HL4 := hd hls
    have HKW := hd (HK3'.out.trans hkp)
    have HK4 := hd (HK.out.trans HKW.out)
    have HB4 := hd (HKW.out.blk HB.out (by omega) (by decide))
    clear hls hkp HL HK HB HL3 HK3' HKW
    go_wp2_with fail
    go_roundw
    case rel => exact ⟨k + 1, by omega, by go_num, (by have := HL4.out; show Ls _ _ _; rw [HT.out]; simpa [Px.setN] using this), HK4, HB4⟩
    case measure => simp [intOf]; omega
  have hkc : k = s.length := by omega
  have v2 : wr.cell? ⟨w.heap.size, 2, none⟩ = some (.iface et ex) := HB.out.cell 2
  have HLF : Hid (Ls wr b (⟨7, t, 0, s.length + on⟩ :: s.flatMap Px.setN)) := by
   have := HL.out
   rw [hkc, List.take_length] at this
   exact this
  clear HL
  simp only [Px.St.nodes, List.length_cons, List.length_append] at hc
  go_wp2_with fail
  refine (HWH.out wr _ HLF.out (by simp only [List.length_cons, List.length_append, List.length_nil]; omega)).mono ?_
  rintro x w5 ⟨rfl, hls, hkp⟩
  have HL5 := hd hls
  have HK5 := hd (HK.out.trans hkp)
  clear hls hkp
  go_wp2_with fail
  go_end0
  refine ⟨rfl, ?_, HK5.out⟩
  have := HL5.out
  simp only [Px.St.nodes]
  rw [HON.out]
  simpa using this
theorem RowsIs.at {w : World} {base : Nat} : ∀ {l : List (List Px.E)} {vs : List Value}, RowsIs w base l vs → ∀ (k : Nat) (h : k < l.length), ∃ v, vs[k]? = some v ∧ w.ownsRow base 97 1 v l[k].length (l[k].flatMap exC)
 | r :: l, v :: vs, h, 0, _ => ⟨v, rfl, h.1⟩
 | r :: l, v :: vs, h, k + 1, hk => by
  obtain ⟨v', h1, h2⟩ := RowsIs.at h.2 k (by simpa using hk)
  exact ⟨v', by simpa using h1, h2⟩
 | [], [], _, k, hk => by simp at hk
 | [], _ :: _, h, _, _ => h.elim
 | _ :: _, [], h, _, _ => h.elim
theorem RowsIs.length {w : World} {base : Nat} : ∀ {l : List (List Px.E)} {vs : List Value}, RowsIs w base l vs → vs.length = l.length
 | [], [], _ => rfl
 | _ :: _, _ :: _, h => by simp [RowsIs.length h.2]
 | [], _ :: _, h => h.elim
 | _ :: _, [], h => h.elim
theorem y_insert_any (b : Nat) (w : World) (t : Lx.Bs) (r : List (List Px.E)) (u : Value) (vs : List Value) (base : Nat) (h : Ls w b []) (hu : w.ownsRow base 136 1 u r.length vs) (hr : RowsIs w base r vs) (hub : ∀ g, u.ownBlock = some g → g < b) (hvb : ∀ v ∈ vs, ∀ g, v.ownBlock = some g → g < b) (hc : (Px.St.insert t r).nodes.length ≤ 80000) (hsl : r.length ≤ 3000) :
   Calls Tryz.prog 48 #[.pointer (some ⟨b, 0, none⟩), .agg #[.string ⟨t.toArray⟩, u]] w (LsOut w b (Px.St.insert t r).nodes) := by
 have hlt := h.lt
 have hvl := hr.length
 have HU := hd hu
 have HR := hd hr
 obtain ⟨ao, n0, cap, rfl⟩ := osl hu
 have hn0 : n0 = r.length ∧ n0 ≤ cap ∧ cap ≤ maxLen := by
  rcases hu.2 with ⟨h1, h2⟩ | ⟨g, cap', cur, h1, _, _, h3, h4, _⟩
  · simp only [Value.slice.injEq] at h1; unfold maxLen; omega
  simp only [Value.slice.injEq] at h1; omega
 obtain ⟨rfl, hcap1, hcap2⟩ := hn0
 have HX := hd h
 have HUB := hd hub
 have HVB := hd hvb
 unfold maxLen at hcap2
 have HBX := hd (Blk.new w #[.string ⟨t.toArray⟩, .slice ao r.length cap] 94)
 clear h hu hub hvb hr
 go_enter Tryz.func48, Tryz.ntmps48
 go_wp2_with fail
 refine (yaa _ b [] (HX.out.alloc _) (by simp) 4 ⟨t.toArray⟩ 0 (r.length : Int)).mono ?_
 rintro x w1 ⟨rfl, hls, hkp⟩
 have HL1 := hd hls
 have HK1 := hd ((Kp.below (b := b) ((Below.refl w.heap.size w).alloc (nlr _) (.cells #[.string ⟨t.toArray⟩, .slice ao r.length cap] 94))).trans hkp)
 have HB1 := hd (hkp.blk HBX.out (by omega) (by decide))
 have x1 : w1.cell? ⟨w.heap.size, 1, none⟩ = some (.slice ao r.length cap) := HB1.out.cell 1
 clear hls hkp HBX
 go_wp2_with fail
 go_loopw [18] (fun i wr => ∃ k : Nat, k ≤ r.length ∧ i = .int .i64 k ∧ Hid (Ls wr b (⟨4, t, 0, r.length⟩ :: (r.take k).flatMap Px.rowN)) ∧ Hid (Kp w wr b)) (fun i _ => r.length - (intOf i).toNat)
 case atStart => exact ⟨0, by omega, rfl, (by show Ls _ _ _; have := HL1.out; simpa using this), HK1⟩
 case round =>
  clear HL1 HK1 HB1 x1
  obtain ⟨k, hk, rfl, HL, HK⟩ := hrel
  by_cases hlt2 : k < r.length
  · have hown := HK.out.own HU.out (by decide) (fun g hg => by have := HUB.out g hg; omega)
    obtain ⟨vk, hvk, hrk⟩ := HR.out.at k hlt2
    have hvlt := HVB.out vk (List.mem_of_getElem? hvk)
    have hrow := HK.out.own hrk (by decide) (fun g hg => by have := hvlt g hg; omega)
    have hgo : ∃ g, ao = some ⟨g, 0, none⟩ ∧ wr.cell? ⟨g, k, none⟩ = some vk := by
     rcases hown.2 with ⟨h1, h2⟩ | ⟨g, cap', cur, h1, _, hg, _⟩
     · omega
     simp only [Value.slice.injEq] at h1
     refine ⟨g, h1.1, ?_⟩
     rw [h1.1] at hown
     have := hown.cells (g := g) rfl k vk hvk
     simpa only [Addr.add_lit, Nat.zero_add] using this
    obtain ⟨g, rfl, p0⟩ := hgo
    obtain ⟨ao2, cap2, rfl, hcap3, hcap4, _⟩ := ls_cells (cl := exC) (m := 1) (fun a => rfl) hrk
    have HT := hd (flat_take_succ Px.rowN r k hlt2)
    have hlen := flat_take_le Px.rowN r (k + 1)
    rw [HT.out] at hlen
    simp only [Px.St.nodes, List.length_cons, List.length_append] at hc hlen
    have HROW := hd hrk
    generalize r[k] = row at *
    simp only [Px.rowN, List.length_cons] at hlen
    have z1 : (0 : Int) ≤ (k : Int) := by omega
    have hrl : row.length ≤ 80000 := by
     have : ∀ q : List Px.E, q.length ≤ (q.flatMap Px.E.nodes).length := by
      intro q
      induction q with
      | nil => simp
      | cons e q ih =>
       rw [List.flatMap_cons, List.length_append, List.length_cons, Px.E.nodes_length]
       have := e.size_pos
       omega
     have := this row
     omega
    have HVL := hd hvlt
    clear hown hrow hrk hvlt
    unfold maxLen at hcap4
    go_wp2_with fail
    refine (yaa _ b _ HL.out (by simp only [List.length_cons]; omega) 5 ⟨#[]⟩ 0 (row.length : Int)).mono ?_
    rintro x w3 ⟨rfl, hls, hkp⟩
    have HL3 := hd hls
    have HK3 := hd (HK.out.trans hkp)
    clear hls hkp HL HK p0
    go_wp2_with fail
    go_loopw [28] (fun i wr => ∃ j : Nat, j ≤ row.length ∧ i = .int .i64 j ∧ Hid (Ls wr b (⟨4, t, 0, r.length⟩ :: ((r.take k).flatMap Px.rowN ++ (⟨5, [], 0, row.length⟩ :: (row.take j).flatMap Px.E.nodes)))) ∧ Hid (Kp w wr b)) (fun i _ => row.length - (intOf i).toNat)
    case atStart => exact ⟨0, by omega, rfl, (by show Ls _ _ _; have := HL3.out; simpa using this), HK3⟩
    case round =>
     clear HL3 HK3
     obtain ⟨j, hj, rfl, HL, HK⟩ := hrel
     by_cases hlt3 : j < row.length
     · have hrow := HK.out.own HROW.out (by decide) (fun g hg => by have := HVL.out g hg; omega)
       obtain ⟨ao3, cap3, hs3, _, _, hcells⟩ := ls_cells (cl := exC) (m := 1) (fun a => rfl) hrow
       simp only [Value.slice.injEq, true_and] at hs3
       obtain ⟨rfl, rfl⟩ := hs3
       obtain ⟨g2, rfl, hg2, hjj⟩ := hcells j hlt3
       have p1 := hjj 0 (by omega)
       have HT2 := hd (flat_take_succ Px.E.nodes row j hlt3)
       have hlen2 := flat_take_le Px.E.nodes row (j + 1)
       rw [HT2.out] at hlen2
       simp only [exC, Nat.add_zero, Nat.mul_one, List.getElem?_cons_zero] at p1
       simp only [List.length_append] at hlen2
       generalize row[j] = e at *
       have HEX := hd (y_expr_any b e)
       have hes := e.nodes_length
       obtain ⟨t2, y2, hy2⟩ := evi e
       rw [hy2] at HEX p1
       have z2 : (0 : Int) ≤ (j : Int) := by omega
       clear hrow hcells hjj hy2
       go_wp2_with fail
       refine (HEX.out wr _ HL.out (by simp only [List.length_cons, List.length_append]; omega)).mono ?_
       rintro x w5 ⟨rfl, hls, hkp⟩
       have HL5 := hd hls
       have HK5 := hd (HK.out.trans hkp)
       clear hls hkp HL HK
       go_wp2_with fail
       go_roundw
       case rel => exact ⟨j + 1, by omega, by go_num, (by have := HL5.out; show Ls _ _ _; rw [HT2.out]; simpa using this), HK5⟩
       case measure => simp [intOf]; omega
     have hjc : j = row.length := by omega
     go_wp2_with fail
     go_roundw
     case rel => exact ⟨k + 1, by omega, by go_num, (by have := HL.out; show Ls _ _ _; rw [HT.out]; rw [hjc, List.take_length] at this; simpa [Px.rowN] using this), HK⟩
     case measure => simp [intOf]; omega
  have hkc : k = r.length := by omega
  go_wp2_with fail
  go_end0
  refine ⟨rfl, ?_, HK.out⟩
  have := HL.out
  rw [hkc, List.take_length] at this
  exact this
end Go.Proofs.YtkcakbgcfnhgaaaGreatDoor
