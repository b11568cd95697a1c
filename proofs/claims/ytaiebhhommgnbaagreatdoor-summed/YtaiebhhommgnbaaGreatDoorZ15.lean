/- Parts of the proof: CpZ CqA -/
import Derived.Test.YtaiebhhommgnbaaGreatDoorZ14
namespace Go.Proofs.YtaiebhhommgnbaaGreatDoor
set_option linter.unusedSimpArgs false
set_option linter.unusedVariables false
set_option maxRecDepth 100000
set_option maxHeartbeats 16000000
open Go.RowKit
theorem any_orders : ∀ (l : List (Px.E × Bool)), (l.map (·.1)).any deepE = l.any deepR
 | [] => rfl
 | r :: l => by
  rw [List.map_cons, List.any_cons, List.any_cons, any_orders l]
  rfl
theorem any_items : ∀ (l : List (Option Px.E)), (l.filterMap id).any deepE = l.any deepO
 | [] => rfl
 | none :: l => by
  show (l.filterMap id).any deepE = (false || l.any deepO)
  rw [any_items l]; rfl
 | some e :: l => by
  show (deepE e || (l.filterMap id).any deepE) = (deepE e || l.any deepO)
  rw [any_items l]
theorem deep_select (i : List (Option Px.E)) (t : Lx.Bs) (o : Option Px.E) (r : List (Px.E × Bool)) (l : Option Nat) (dp : Bool) : (deepSt (.select i t o r l) || dp) = (r.any deepR || (deepO o || (i.any deepO || dp))) := by
 simp only [deepSt, Px.St.exprs, List.any_append, any_items, any_orders, any_opt]
 cases i.any deepO <;> cases deepO o <;> cases r.any deepR <;> rfl
theorem lim_of {sz : Nat} {q : List Lx.Tok} {r : Px.Res Nat} (hs : Px.sees Px.kLIMIT q = true) (h : numR sz 1000000000 q.tail r) : Px.limR sz q (Px.mapR some r) := by
 unfold Px.limR
 rw [if_pos hs]
 have hl : Px.limit sz q.tail = some r := by
  unfold numR at h
  cases hq : q.tail with
  | nil => rw [hq] at h; simp only at h; subst h; rfl
  | cons t p =>
   rw [hq] at h
   simp only at h
   subst h
   simp only [Px.limit]
   split
   · rfl
   · split <;> rfl
 match r, hl with
 | .error e, hl => exact Px.Rg.err hl
 | .ok (n, p), hl => exact Px.Rg.go hl rfl
theorem lim_no {sz : Nat} {q : List Lx.Tok} (hs : Px.sees Px.kLIMIT q = false) : Px.limR sz q (.ok (none, q)) := by
 unfold Px.limR
 rw [if_neg (by simp [hs])]
theorem c_selection_any (B : Nat) (lv : Value) (ts : List Lx.Tok) (sz : Nat) (dp : Bool) (w : World) (q : List Lx.Tok) (h : Cx w B lv ts sz q dp) :
   Calls Tryz.prog 43 #[.pointer (some ⟨B, 0, none⟩)] w (OutR w B lv ts sz dp (Px.selectR sz) q (partV B 96) deepSt) := by
 have hmf : ∀ (fn : Fn) (first cap : Array Value) (w : World), (Instr.makeFunc fn first cap).run Tryz.prog w = .ok (.func fn first cap) w := fun _ _ _ _ => rfl
 have HX := hd h
 have hlt := h.lt
 have HB0 : Hid (Below w.heap.size w (w.alloc (.cells #[.slice none 0 0, .string ⟨#[]⟩, .nilIface, .slice none 0 0, .bool false, .int .i64 0] 96))) := (Below.refl _ _).alloc (Nat.le_refl _) _
 have HKR := hd (Blk.new w #[.slice none 0 0, .string ⟨#[]⟩, .nilIface, .slice none 0 0, .bool false, .int .i64 0] 96)
 clear h
 go_enter Tryz.func43, Tryz.ntmps43
 go_wp2_with fail
 refine (c_listItem_any B lv ts sz dp _ q (HX.out.below HB0.out)).mono ?_
 rintro x w1 ho
 obtain ⟨hg, ⟨p, c, hr, rfl⟩ | ⟨its, q1, v, hr, rfl, hv, hx⟩⟩ := ho.cases
 · exact ⟨rfl, OutR.err (grownBy_trans (Below.grownBy HB0.out) hg) (Px.Rg.err hr)⟩
 · have HR1 := hd hr
   obtain ⟨ao, m, cp, rfl⟩ := own_slice hv
   have hszw : w.heap.size < w1.heap.size := by have := hg.size; simp only [World.size_alloc] at this; omega
   have HX1 := hd (Cx.below (w' := w1.alloc (.cells #[.slice ao m cp, .string ⟨#[]⟩, .nilIface, .slice none 0 0, .bool false, .int .i64 0] 96)) hx ((Below.refl _ _).alloc (Nat.le_refl _) _))
   have HG1 := hd (grownBy_alloc (grownBy_trans (Below.grownBy HB0.out) hg) (.cells #[.slice ao m cp, .string ⟨#[]⟩, .nilIface, .slice none 0 0, .bool false, .int .i64 0] 96))
   have HK1 := hd ((HKR.out.grown hg (by omega)).alloc (.cells #[.slice ao m cp, .string ⟨#[]⟩, .nilIface, .slice none 0 0, .bool false, .int .i64 0] 96))
   have HL1 := hd (Blk.new w1 #[.slice ao m cp, .string ⟨#[]⟩, .nilIface, .slice none 0 0, .bool false, .int .i64 0] 96)
   have HV1 : Hid (lsV B 206 2 itemC its (.slice ao m cp) (w1.alloc (.cells #[.slice ao m cp, .string ⟨#[]⟩, .nilIface, .slice none 0 0, .bool false, .int .i64 0] 96))) := own_alloc hv _
   have d1 : ¬ w1.heap.size = w.heap.size := by omega
   have d2 : ¬ w.heap.size = w1.heap.size := by omega
   clear hr hx hg ho HB0 HKR hv
   go_wp2_with fail
   refine (c_expect_at ⟨#[70, 82, 79, 77]⟩ (w1.alloc (.cells #[.slice ao m cp, .string ⟨#[]⟩, .nilIface, .slice none 0 0, .bool false, .int .i64 0] 96)) _ (by simp) B lv ts sz q1 _ HX1.out (by simp)).mono ?_
   rintro x w2 ho
   obtain ⟨hg, ⟨p, c, hr, rfl⟩ | ⟨_, q2, v, hr, rfl, hv, hx⟩⟩ := ho.cases
   · exact ⟨rfl, OutR.err (grownBy_trans HG1.out hg) (Px.Rg.go HR1.out (Px.Rg.err hr))⟩
   · cases hv
     have HR2 := hd hr
     have HX2 : Hid (Cx w2 B lv ts sz q2 (its.any deepO || dp)) := hx
     have HG2 := hd (grownBy_trans HG1.out hg)
     have HK2 := hd (HK1.out.grown hg (by omega))
     have HL2 := hd (HL1.out.grown hg (by omega))
     have HV2 := hd (own_far HV1.out hg)
     clear hr hx hg ho HX1 HG1 HK1 HL1 HV1
     go_wp2_with fail
     refine (c_name_any w2 B lv ts sz q2 _ HX2.out).mono ?_
     rintro x w3 ho
     obtain ⟨hg, ⟨p, c, hr, rfl⟩ | ⟨n, q3, v, hr, rfl, hv, hx⟩⟩ := ho.cases
     · exact ⟨rfl, OutR.err (grownBy_trans HG2.out hg) (Px.Rg.go HR1.out (Px.Rg.go HR2.out (Px.Rg.err hr)))⟩
     · cases hv
       have HR3 := hd hr
       have HL30 := hd (HL2.out.grown hg (by omega))
       have a1 : w3.cell? ⟨w1.heap.size, 1, none⟩ = some (.string ⟨#[]⟩) := HL30.out.cell 1
       have f1 := HL30.out.free 1
       have HX3 := hd (Cx.far (show Cx w3 B lv ts sz q3 (its.any deepO || dp) from hx) HX.out (M := w1.heap.size) (by omega) 1 (.string ⟨n.toArray⟩))
       have HG3 := hd (grown_away (grownBy_trans HG2.out hg) (M := w1.heap.size) (by omega) 1 (.string ⟨n.toArray⟩))
       have HK3 := hd ((HK2.out.grown hg (by omega)).far ⟨w1.heap.size, 1, none⟩ (.string ⟨n.toArray⟩) d1)
       have HL3 : Hid (Blk (w3.setCell ⟨w1.heap.size, 1, none⟩ (.string ⟨n.toArray⟩)) w1.heap.size #[.slice ao m cp, .string ⟨n.toArray⟩, .nilIface, .slice none 0 0, .bool false, .int .i64 0] 96) := HL30.out.set 1 _
       have HV3 := hd (ls_set (own_far HV2.out hg) 1 (.string ⟨n.toArray⟩) ⟨_, _, HL30.out, by decide⟩)
       clear hr hx hg ho HX2 HG2 HK2 HL2 HV2 HL30
       go_wp2_with fail
       refine (c_where_any B lv ts sz _ _ q3 HX3.out).mono ?_
       rintro x w4 ho
       obtain ⟨hg, ⟨p, c, hr, rfl⟩ | ⟨o, q4, v, hr, rfl, hv, hx⟩⟩ := ho.cases
       · exact ⟨rfl, OutR.err (grownBy_trans HG3.out hg) (Px.Rg.go HR1.out (Px.Rg.go HR2.out (Px.Rg.go HR3.out (Px.Rg.err hr))))⟩
       · have HR4 := hd hr
         have HE := hd hv
         have hv1 : v = .nilIface ∨ ∃ t x, v = .iface t x := by
          have := ev?_one o
          rwa [← show v = ev? o from hv] at this
         have HL40 := hd (HL3.out.grown hg (by omega))
         have a2 : w4.cell? ⟨w1.heap.size, 2, none⟩ = some .nilIface := HL40.out.cell 2
         have f2 := HL40.out.free 2
         have HX40 := hd hx
         have HG40 := hd (grownBy_trans HG3.out hg)
         have HK40 := hd (HK3.out.grown hg (by omega))
         have HV40 := hd (own_far HV3.out hg)
         clear hr hx hg ho hv HX3 HG3 HK3 HL3 HV3 a1 f1
         rcases hv1 with rfl | ⟨et, ex, rfl⟩
         · have HX4 := hd (HX40.out.far HX.out (M := w1.heap.size) (by omega) 2 (.nilIface))
           have HG4 := hd (grown_away HG40.out (M := w1.heap.size) (by omega) 2 (.nilIface))
           have HK4 := hd (HK40.out.far ⟨w1.heap.size, 2, none⟩ (.nilIface) d1)
           have HL4 : Hid (Blk (w4.setCell ⟨w1.heap.size, 2, none⟩ (.nilIface)) w1.heap.size #[.slice ao m cp, .string ⟨n.toArray⟩, .nilIface, .slice none 0 0, .bool false, .int .i64 0] 96) := HL40.out.set 2 _
           have HV4 := hd (ls_set HV40.out 2 (.nilIface) ⟨_, _, HL40.out, by decide⟩)
           clear HX40 HG40 HK40 HL40 HV40
           cases hs : Px.sees Px.kORDER q4 with
           | false =>
            have HRO : Hid (Px.ordersR sz q4 (.ok ([], q4))) := by show Px.ordersR _ _ _; unfold Px.ordersR; rw [if_neg (by simp [hs])]
            go_wp2_with fail
            refine (c_accept_no ⟨#[79, 82, 68, 69, 82]⟩ _ B lv ts sz q4 _ HX4.out hs (by simp)).mono ?_
            rintro x w5 ⟨rfl, hb5⟩
            have HX5 := hd (HX4.out.below hb5)
            have HG5 := hd (grownBy_trans HG4.out (Below.grownBy (row := some B) hb5))
            have HK5 := hd (HK4.out.below hb5 HK4.out.lt)
            have HL5 := hd (HL4.out.below hb5 HL4.out.lt)
            have HV5 : Hid (lsV B 206 2 itemC its (.slice ao m cp) w5) := owns_below HV4.out hb5
            clear hb5 HX4 HG4 HK4 HL4 HV4
            cases hl : Px.sees Px.kLIMIT q4 with
            | false =>
             go_wp2_with fail
             refine (c_accept_no ⟨#[76, 73, 77, 73, 84]⟩ _ B lv ts sz q4 _ HX5.out hl (by simp)).mono ?_
             rintro x w9 ⟨rfl, hb9⟩
             have HX9 := hd (HX5.out.below hb9)
             have HG9 := hd (grownBy_trans HG5.out (Below.grownBy (row := some B) hb9))
             have HK9 := hd (HK5.out.below hb9 HK5.out.lt)
             have HL9 := hd (HL5.out.below hb9 HL5.out.lt)
             have HV9 : Hid (lsV B 206 2 itemC its (.slice ao m cp) w9) := owns_below HV5.out hb9
             have HVO9 : Hid (lsV B 210 2 orderC [] (.slice none 0 0) w9) := World.ownsRow_nil _ _ _ _
             have HXF : Hid (Cx w9 B lv ts sz q4 (deepSt (.select its n o [] none) || dp)) := by
              show Cx _ _ _ _ _ _ _
              rw [deep_select]; exact HX9.out
             clear hb9 HX9
             have m0 : w9.cell? ⟨w.heap.size, 0, none⟩ = some (.slice none 0 0) := HK9.out.cell 0
             have g0 := HK9.out.free 0
             have p0 : w9.cell? ⟨w1.heap.size, 0, none⟩ = some (.slice ao m cp) := HL9.out.cell 0
             have m1 : w9.cell? ⟨w.heap.size, 1, none⟩ = some (.string ⟨#[]⟩) := HK9.out.cell 1
             have g1 := HK9.out.free 1
             have p1 : w9.cell? ⟨w1.heap.size, 1, none⟩ = some (.string ⟨n.toArray⟩) := HL9.out.cell 1
             have m2 : w9.cell? ⟨w.heap.size, 2, none⟩ = some (.nilIface) := HK9.out.cell 2
             have g2 := HK9.out.free 2
             have p2 : w9.cell? ⟨w1.heap.size, 2, none⟩ = some (.nilIface) := HL9.out.cell 2
             have m3 : w9.cell? ⟨w.heap.size, 3, none⟩ = some (.slice none 0 0) := HK9.out.cell 3
             have g3 := HK9.out.free 3
             have p3 : w9.cell? ⟨w1.heap.size, 3, none⟩ = some (.slice none 0 0) := HL9.out.cell 3
             have m4 : w9.cell? ⟨w.heap.size, 4, none⟩ = some (.bool false) := HK9.out.cell 4
             have g4 := HK9.out.free 4
             have p4 : w9.cell? ⟨w1.heap.size, 4, none⟩ = some (.bool false) := HL9.out.cell 4
             have m5 : w9.cell? ⟨w.heap.size, 5, none⟩ = some (.int .i64 0) := HK9.out.cell 5
             have g5 := HK9.out.free 5
             have p5 : w9.cell? ⟨w1.heap.size, 5, none⟩ = some (.int .i64 0) := HL9.out.cell 5
             go_wp2_with fail
             have KF := ((((((HK9.out.set 0 (.slice ao m cp)).set 1 (.string ⟨n.toArray⟩)).set 2 (.nilIface)).set 3 (.slice none 0 0)).set 4 (.bool false)).set 5 (.int .i64 0))
             have e0 := KF.cell 0
             have e1 := KF.cell 1
             have e2 := KF.cell 2
             have e3 := KF.cell 3
             have e4 := KF.cell 4
             have e5 := KF.cell 5
             simp at e0 e1 e2 e3 e4 e5
             refine bodyPost_ret (v := .agg #[.slice ao m cp, .string ⟨n.toArray⟩, .nilIface, .slice none 0 0, .bool false, .int .i64 0]) (by simp [results, Tryz.results43, go_sem, e0, e1, e2, e3, e4, e5]) rfl ?_
             refine OutR.ok (a := Px.St.select its n o [] none) (q' := q4) (grown_away (grown_away (grown_away (grown_away (grown_away (grown_away HG9.out (Nat.le_refl _) 0 _) (Nat.le_refl _) 1 _) (Nat.le_refl _) 2 _) (Nat.le_refl _) 3 _) (Nat.le_refl _) 4 _) (Nat.le_refl _) 5 _) (Px.Rg.go HR1.out (Px.Rg.go HR2.out (Px.Rg.go HR3.out (Px.Rg.go HR4.out (Px.Rg.go HRO.out (Px.Rg.go (lim_no hl) rfl)))))) ⟨.slice ao m cp, .slice none 0 0, by rw [← show (.nilIface : Value) = ev? o from HE.out]; rfl, ?_, ?_⟩ ((((((HXF.out.far HX.out (Nat.le_refl _) 0 _).far HX.out (Nat.le_refl _) 1 _).far HX.out (Nat.le_refl _) 2 _).far HX.out (Nat.le_refl _) 3 _).far HX.out (Nat.le_refl _) 4 _).far HX.out (Nat.le_refl _) 5 _)
             · have s0 := ls_set HV9.out 0 (.slice ao m cp) ⟨_, _, HK9.out, by decide⟩
               have s1 := ls_set s0 1 (.string ⟨n.toArray⟩) ⟨_, _, (HK9.out.set 0 _), by decide⟩
               have s2 := ls_set s1 2 (.nilIface) ⟨_, _, ((HK9.out.set 0 _).set 1 _), by decide⟩
               have s3 := ls_set s2 3 (.slice none 0 0) ⟨_, _, (((HK9.out.set 0 _).set 1 _).set 2 _), by decide⟩
               have s4 := ls_set s3 4 (.bool false) ⟨_, _, ((((HK9.out.set 0 _).set 1 _).set 2 _).set 3 _), by decide⟩
               exact ls_set s4 5 (.int .i64 0) ⟨_, _, (((((HK9.out.set 0 _).set 1 _).set 2 _).set 3 _).set 4 _), by decide⟩
             · have s0 := ls_set HVO9.out 0 (.slice ao m cp) ⟨_, _, HK9.out, by decide⟩
               have s1 := ls_set s0 1 (.string ⟨n.toArray⟩) ⟨_, _, (HK9.out.set 0 _), by decide⟩
               have s2 := ls_set s1 2 (.nilIface) ⟨_, _, ((HK9.out.set 0 _).set 1 _), by decide⟩
               have s3 := ls_set s2 3 (.slice none 0 0) ⟨_, _, (((HK9.out.set 0 _).set 1 _).set 2 _), by decide⟩
               have s4 := ls_set s3 4 (.bool false) ⟨_, _, ((((HK9.out.set 0 _).set 1 _).set 2 _).set 3 _), by decide⟩
               exact ls_set s4 5 (.int .i64 0) ⟨_, _, (((((HK9.out.set 0 _).set 1 _).set 2 _).set 3 _).set 4 _), by decide⟩
            | true =>
             go_wp2_with fail
             refine (c_accept_yes ⟨#[76, 73, 77, 73, 84]⟩ _ B lv ts sz q4 _ HX5.out hl (by simp)).mono ?_
             rintro x w8 ⟨rfl, hx8, hg8⟩
             have HX8 := hd hx8
             have HG8 := hd (grownBy_trans HG5.out hg8)
             have HK8 := hd (HK5.out.grown hg8 (by omega))
             have HL8 := hd (HL5.out.grown hg8 (by omega))
             have HV8 := hd (own_far HV5.out hg8)
             have HVO8 : Hid (lsV B 210 2 orderC [] (.slice none 0 0) w8) := World.ownsRow_nil _ _ _ _
             clear hx8 hg8
             go_wp2_with fail
             refine (c_number_any w8 B lv ts sz q4.tail _ HX8.out 1000000000 (by omega)).mono ?_
             rintro x w9 ho
             obtain ⟨hg, ⟨p, c, hr, rfl⟩ | ⟨k, q9, v, hr, rfl, hv, hx⟩⟩ := ho.cases
             · exact ⟨rfl, OutR.err (grownBy_trans HG8.out hg) (Px.Rg.go HR1.out (Px.Rg.go HR2.out (Px.Rg.go HR3.out (Px.Rg.go HR4.out (Px.Rg.go HRO.out (Px.Rg.err (lim_of hl hr)))))))⟩
             · cases hv
               have HRL := hd (lim_of hl hr)
               have HG9 := hd (grownBy_trans HG8.out hg)
               have HK9 := hd (HK8.out.grown hg (by omega))
               have HL9 := hd (HL8.out.grown hg (by omega))
               have HV9 := hd (own_far HV8.out hg)
               have HVO9 := hd (own_far HVO8.out hg)
               have HXF : Hid (Cx w9 B lv ts sz q9 (deepSt (.select its n o [] (some k)) || dp)) := by
                show Cx _ _ _ _ _ _ _
                rw [deep_select]; exact hx
               have f4 := HL9.out.free 4
               have f5 := HL9.out.free 5
               clear hr hx hg ho HX8 HG8 HK8 HL8 HV8 HVO8
               have m0 : w9.cell? ⟨w.heap.size, 0, none⟩ = some (.slice none 0 0) := HK9.out.cell 0
               have g0 := HK9.out.free 0
               have p0 : w9.cell? ⟨w1.heap.size, 0, none⟩ = some (.slice ao m cp) := HL9.out.cell 0
               have m1 : w9.cell? ⟨w.heap.size, 1, none⟩ = some (.string ⟨#[]⟩) := HK9.out.cell 1
               have g1 := HK9.out.free 1
               have p1 : w9.cell? ⟨w1.heap.size, 1, none⟩ = some (.string ⟨n.toArray⟩) := HL9.out.cell 1
               have m2 : w9.cell? ⟨w.heap.size, 2, none⟩ = some (.nilIface) := HK9.out.cell 2
               have g2 := HK9.out.free 2
               have p2 : w9.cell? ⟨w1.heap.size, 2, none⟩ = some (.nilIface) := HL9.out.cell 2
               have m3 : w9.cell? ⟨w.heap.size, 3, none⟩ = some (.slice none 0 0) := HK9.out.cell 3
               have g3 := HK9.out.free 3
               have p3 : w9.cell? ⟨w1.heap.size, 3, none⟩ = some (.slice none 0 0) := HL9.out.cell 3
               have m4 : w9.cell? ⟨w.heap.size, 4, none⟩ = some (.bool false) := HK9.out.cell 4
               have g4 := HK9.out.free 4
               have p4 : w9.cell? ⟨w1.heap.size, 4, none⟩ = some (.bool false) := HL9.out.cell 4
               have m5 : w9.cell? ⟨w.heap.size, 5, none⟩ = some (.int .i64 0) := HK9.out.cell 5
               have g5 := HK9.out.free 5
               have p5 : w9.cell? ⟨w1.heap.size, 5, none⟩ = some (.int .i64 0) := HL9.out.cell 5
               have HK9' := hd ((HK9.out.far ⟨w1.heap.size, 4, none⟩ (.bool true) d1).far ⟨w1.heap.size, 5, none⟩ (.int .i64 (k : Int)) d1)
               have HG9' := hd (grown_away (grown_away HG9.out (M := w1.heap.size) (by omega) 4 (.bool true)) (M := w1.heap.size) (by omega) 5 (.int .i64 (k : Int)))
               have HXF' := hd ((HXF.out.far HX.out (M := w1.heap.size) (by omega) 4 (.bool true)).far HX.out (M := w1.heap.size) (by omega) 5 (.int .i64 (k : Int)))
               have HV9' := hd (ls_set (ls_set HV9.out 4 (.bool true) ⟨_, _, HL9.out, by decide⟩) 5 (.int .i64 (k : Int)) ⟨_, _, HL9.out.set 4 _, by decide⟩)
               have HVO9' := hd (ls_set (ls_set HVO9.out 4 (.bool true) ⟨_, _, HL9.out, by decide⟩) 5 (.int .i64 (k : Int)) ⟨_, _, HL9.out.set 4 _, by decide⟩)
               clear HK9 HG9 HXF HV9 HVO9
               go_wp2_with fail
               have KF := ((((((HK9'.out.set 0 (.slice ao m cp)).set 1 (.string ⟨n.toArray⟩)).set 2 (.nilIface)).set 3 (.slice none 0 0)).set 4 (.bool true)).set 5 (.int .i64 (k : Int)))
               have e0 := KF.cell 0
               have e1 := KF.cell 1
               have e2 := KF.cell 2
               have e3 := KF.cell 3
               have e4 := KF.cell 4
               have e5 := KF.cell 5
               simp at e0 e1 e2 e3 e4 e5
               refine bodyPost_ret (v := .agg #[.slice ao m cp, .string ⟨n.toArray⟩, .nilIface, .slice none 0 0, .bool true, .int .i64 (k : Int)]) (by simp [results, Tryz.results43, go_sem, e0, e1, e2, e3, e4, e5]) rfl ?_
               refine OutR.ok (a := Px.St.select its n o [] (some k)) (q' := q9) (grown_away (grown_away (grown_away (grown_away (grown_away (grown_away HG9'.out (Nat.le_refl _) 0 _) (Nat.le_refl _) 1 _) (Nat.le_refl _) 2 _) (Nat.le_refl _) 3 _) (Nat.le_refl _) 4 _) (Nat.le_refl _) 5 _) (Px.Rg.go HR1.out (Px.Rg.go HR2.out (Px.Rg.go HR3.out (Px.Rg.go HR4.out (Px.Rg.go HRO.out (Px.Rg.go HRL.out rfl)))))) ⟨.slice ao m cp, .slice none 0 0, by rw [← show (.nilIface : Value) = ev? o from HE.out]; rfl, ?_, ?_⟩ ((((((HXF'.out.far HX.out (Nat.le_refl _) 0 _).far HX.out (Nat.le_refl _) 1 _).far HX.out (Nat.le_refl _) 2 _).far HX.out (Nat.le_refl _) 3 _).far HX.out (Nat.le_refl _) 4 _).far HX.out (Nat.le_refl _) 5 _)
               · have s0 := ls_set HV9'.out 0 (.slice ao m cp) ⟨_, _, HK9'.out, by decide⟩
                 have s1 := ls_set s0 1 (.string ⟨n.toArray⟩) ⟨_, _, (HK9'.out.set 0 _), by decide⟩
                 have s2 := ls_set s1 2 (.nilIface) ⟨_, _, ((HK9'.out.set 0 _).set 1 _), by decide⟩
                 have s3 := ls_set s2 3 (.slice none 0 0) ⟨_, _, (((HK9'.out.set 0 _).set 1 _).set 2 _), by decide⟩
                 have s4 := ls_set s3 4 (.bool true) ⟨_, _, ((((HK9'.out.set 0 _).set 1 _).set 2 _).set 3 _), by decide⟩
                 exact ls_set s4 5 (.int .i64 (k : Int)) ⟨_, _, (((((HK9'.out.set 0 _).set 1 _).set 2 _).set 3 _).set 4 _), by decide⟩
               · have s0 := ls_set HVO9'.out 0 (.slice ao m cp) ⟨_, _, HK9'.out, by decide⟩
                 have s1 := ls_set s0 1 (.string ⟨n.toArray⟩) ⟨_, _, (HK9'.out.set 0 _), by decide⟩
                 have s2 := ls_set s1 2 (.nilIface) ⟨_, _, ((HK9'.out.set 0 _).set 1 _), by decide⟩
                 have s3 := ls_set s2 3 (.slice none 0 0) ⟨_, _, (((HK9'.out.set 0 _).set 1 _).set 2 _), by decide⟩
                 have s4 := ls_set s3 4 (.bool true) ⟨_, _, ((((HK9'.out.set 0 _).set 1 _).set 2 _).set 3 _), by decide⟩
                 exact ls_set s4 5 (.int .i64 (k : Int)) ⟨_, _, (((((HK9'.out.set 0 _).set 1 _).set 2 _).set 3 _).set 4 _), by decide⟩
           | true =>
            have HRO : Hid (∀ r, Px.Rg.seq (Px.mustR sz Px.kBY) (fun _ => Px.Sep fun _ => Px.orderR sz) q4.tail r → Px.ordersR sz q4 r) := fun r hr => by unfold Px.ordersR; rw [if_pos hs]; exact hr
            go_wp2_with fail
            refine (c_accept_yes ⟨#[79, 82, 68, 69, 82]⟩ _ B lv ts sz q4 _ HX4.out hs (by simp)).mono ?_
            rintro x w5 ⟨rfl, hx5, hg5⟩
            have HX5 := hd hx5
            have HG5 := hd (grownBy_trans HG4.out hg5)
            have HK5 := hd (HK4.out.grown hg5 (by omega))
            have HL5 := hd (HL4.out.grown hg5 (by omega))
            have HV5 := hd (own_far HV4.out hg5)
            clear hx5 hg5 HX4 HG4 HK4 HL4 HV4
            go_wp2_with fail
            refine (c_expect_at ⟨#[66, 89]⟩ w5 _ rfl B lv ts sz q4.tail _ HX5.out (by simp)).mono ?_
            rintro x w6 ho
            obtain ⟨hg, ⟨p, c, hr, rfl⟩ | ⟨_, q6, v, hr, rfl, hv, hx⟩⟩ := ho.cases
            · exact ⟨rfl, OutR.err (grownBy_trans HG5.out hg) (Px.Rg.go HR1.out (Px.Rg.go HR2.out (Px.Rg.go HR3.out (Px.Rg.go HR4.out (Px.Rg.err (HRO.out _ (Px.Rg.err hr)))))))⟩
            · cases hv
              have HR6 := hd hr
              have HX6 := hd hx
              have HG6 := hd (grownBy_trans HG5.out hg)
              have HK6 := hd (HK5.out.grown hg (by omega))
              have HL6 := hd (HL5.out.grown hg (by omega))
              have HV6 := hd (own_far HV5.out hg)
              clear hr hx hg ho HX5 HG5 HK5 HL5 HV5
              go_wp2_with fail
              refine (c_listOrder_any B lv ts sz _ w6 q6 HX6.out).mono ?_
              rintro x w7 ho
              obtain ⟨hg, ⟨p, c, hr, rfl⟩ | ⟨os, q7, v, hr, rfl, hv, hx⟩⟩ := ho.cases
              · exact ⟨rfl, OutR.err (grownBy_trans HG6.out hg) (Px.Rg.go HR1.out (Px.Rg.go HR2.out (Px.Rg.go HR3.out (Px.Rg.go HR4.out (Px.Rg.err (HRO.out _ (Px.Rg.go HR6.out hr)))))))⟩
              · have HRO7 := hd (HRO.out _ (Px.Rg.go HR6.out hr))
                obtain ⟨bo, bm, bc, rfl⟩ := own_slice hv
                have HL70 := hd (HL6.out.grown hg (by omega))
                have a3 : w7.cell? ⟨w1.heap.size, 3, none⟩ = some (.slice none 0 0) := HL70.out.cell 3
                have f3 := HL70.out.free 3
                have HX7 := hd (hx.far HX.out (M := w1.heap.size) (by omega) 3 (.slice bo bm bc))
                have HG7 := hd (grown_away (grownBy_trans HG6.out hg) (M := w1.heap.size) (by omega) 3 (.slice bo bm bc))
                have HK7 := hd ((HK6.out.grown hg (by omega)).far ⟨w1.heap.size, 3, none⟩ (.slice bo bm bc) d1)
                have HL7 : Hid (Blk (w7.setCell ⟨w1.heap.size, 3, none⟩ (.slice bo bm bc)) w1.heap.size #[.slice ao m cp, .string ⟨n.toArray⟩, .nilIface, .slice bo bm bc, .bool false, .int .i64 0] 96) := HL70.out.set 3 _
                have HV7 := hd (ls_set (own_far HV6.out hg) 3 (.slice bo bm bc) ⟨_, _, HL70.out, by decide⟩)
                have HVO7 := hd (ls_set hv 3 (.slice bo bm bc) ⟨_, _, HL70.out, by decide⟩)
                clear hr hx hg ho hv HX6 HG6 HK6 HL6 HV6 HL70 HRO HR6
                cases hl : Px.sees Px.kLIMIT q7 with
                | false =>
                 go_wp2_with fail
                 refine (c_accept_no ⟨#[76, 73, 77, 73, 84]⟩ _ B lv ts sz q7 _ HX7.out hl (by simp)).mono ?_
                 rintro x w9 ⟨rfl, hb9⟩
                 have HX9 := hd (HX7.out.below hb9)
                 have HG9 := hd (grownBy_trans HG7.out (Below.grownBy (row := some B) hb9))
                 have HK9 := hd (HK7.out.below hb9 HK7.out.lt)
                 have HL9 := hd (HL7.out.below hb9 HL7.out.lt)
                 have HV9 : Hid (lsV B 206 2 itemC its (.slice ao m cp) w9) := owns_below HV7.out hb9
                 have HVO9 : Hid (lsV B 210 2 orderC os (.slice bo bm bc) w9) := owns_below HVO7.out hb9
                 have HXF : Hid (Cx w9 B lv ts sz q7 (deepSt (.select its n o os none) || dp)) := by
                  show Cx _ _ _ _ _ _ _
                  rw [deep_select]; exact HX9.out
                 clear hb9 HX9
                 have m0 : w9.cell? ⟨w.heap.size, 0, none⟩ = some (.slice none 0 0) := HK9.out.cell 0
                 have g0 := HK9.out.free 0
                 have p0 : w9.cell? ⟨w1.heap.size, 0, none⟩ = some (.slice ao m cp) := HL9.out.cell 0
                 have m1 : w9.cell? ⟨w.heap.size, 1, none⟩ = some (.string ⟨#[]⟩) := HK9.out.cell 1
                 have g1 := HK9.out.free 1
                 have p1 : w9.cell? ⟨w1.heap.size, 1, none⟩ = some (.string ⟨n.toArray⟩) := HL9.out.cell 1
                 have m2 : w9.cell? ⟨w.heap.size, 2, none⟩ = some (.nilIface) := HK9.out.cell 2
                 have g2 := HK9.out.free 2
                 have p2 : w9.cell? ⟨w1.heap.size, 2, none⟩ = some (.nilIface) := HL9.out.cell 2
                 have m3 : w9.cell? ⟨w.heap.size, 3, none⟩ = some (.slice none 0 0) := HK9.out.cell 3
                 have g3 := HK9.out.free 3
                 have p3 : w9.cell? ⟨w1.heap.size, 3, none⟩ = some (.slice bo bm bc) := HL9.out.cell 3
                 have m4 : w9.cell? ⟨w.heap.size, 4, none⟩ = some (.bool false) := HK9.out.cell 4
                 have g4 := HK9.out.free 4
                 have p4 : w9.cell? ⟨w1.heap.size, 4, none⟩ = some (.bool false) := HL9.out.cell 4
                 have m5 : w9.cell? ⟨w.heap.size, 5, none⟩ = some (.int .i64 0) := HK9.out.cell 5
                 have g5 := HK9.out.free 5
                 have p5 : w9.cell? ⟨w1.heap.size, 5, none⟩ = some (.int .i64 0) := HL9.out.cell 5
                 go_wp2_with fail
                 have KF := ((((((HK9.out.set 0 (.slice ao m cp)).set 1 (.string ⟨n.toArray⟩)).set 2 (.nilIface)).set 3 (.slice bo bm bc)).set 4 (.bool false)).set 5 (.int .i64 0))
                 have e0 := KF.cell 0
                 have e1 := KF.cell 1
                 have e2 := KF.cell 2
                 have e3 := KF.cell 3
                 have e4 := KF.cell 4
                 have e5 := KF.cell 5
                 simp at e0 e1 e2 e3 e4 e5
                 refine bodyPost_ret (v := .agg #[.slice ao m cp, .string ⟨n.toArray⟩, .nilIface, .slice bo bm bc, .bool false, .int .i64 0]) (by simp [results, Tryz.results43, go_sem, e0, e1, e2, e3, e4, e5]) rfl ?_
                 refine OutR.ok (a := Px.St.select its n o os none) (q' := q7) (grown_away (grown_away (grown_away (grown_away (grown_away (grown_away HG9.out (Nat.le_refl _) 0 _) (Nat.le_refl _) 1 _) (Nat.le_refl _) 2 _) (Nat.le_refl _) 3 _) (Nat.le_refl _) 4 _) (Nat.le_refl _) 5 _) (Px.Rg.go HR1.out (Px.Rg.go HR2.out (Px.Rg.go HR3.out (Px.Rg.go HR4.out (Px.Rg.go HRO7.out (Px.Rg.go (lim_no hl) rfl)))))) ⟨.slice ao m cp, .slice bo bm bc, by rw [← show (.nilIface : Value) = ev? o from HE.out]; rfl, ?_, ?_⟩ ((((((HXF.out.far HX.out (Nat.le_refl _) 0 _).far HX.out (Nat.le_refl _) 1 _).far HX.out (Nat.le_refl _) 2 _).far HX.out (Nat.le_refl _) 3 _).far HX.out (Nat.le_refl _) 4 _).far HX.out (Nat.le_refl _) 5 _)
                 · have s0 := ls_set HV9.out 0 (.slice ao m cp) ⟨_, _, HK9.out, by decide⟩
                   have s1 := ls_set s0 1 (.string ⟨n.toArray⟩) ⟨_, _, (HK9.out.set 0 _), by decide⟩
                   have s2 := ls_set s1 2 (.nilIface) ⟨_, _, ((HK9.out.set 0 _).set 1 _), by decide⟩
                   have s3 := ls_set s2 3 (.slice bo bm bc) ⟨_, _, (((HK9.out.set 0 _).set 1 _).set 2 _), by decide⟩
                   have s4 := ls_set s3 4 (.bool false) ⟨_, _, ((((HK9.out.set 0 _).set 1 _).set 2 _).set 3 _), by decide⟩
                   exact ls_set s4 5 (.int .i64 0) ⟨_, _, (((((HK9.out.set 0 _).set 1 _).set 2 _).set 3 _).set 4 _), by decide⟩
                 · have s0 := ls_set HVO9.out 0 (.slice ao m cp) ⟨_, _, HK9.out, by decide⟩
                   have s1 := ls_set s0 1 (.string ⟨n.toArray⟩) ⟨_, _, (HK9.out.set 0 _), by decide⟩
                   have s2 := ls_set s1 2 (.nilIface) ⟨_, _, ((HK9.out.set 0 _).set 1 _), by decide⟩
                   have s3 := ls_set s2 3 (.slice bo bm bc) ⟨_, _, (((HK9.out.set 0 _).set 1 _).set 2 _), by decide⟩
                   have s4 := ls_set s3 4 (.bool false) ⟨_, _, ((((HK9.out.set 0 _).set 1 _).set 2 _).set 3 _), by decide⟩
                   exact ls_set s4 5 (.int .i64 0) ⟨_, _, (((((HK9.out.set 0 _).set 1 _).set 2 _).set 3 _).set 4 _), by decide⟩
                | true =>
                 go_wp2_with fail
                 refine (c_accept_yes ⟨#[76, 73, 77, 73, 84]⟩ _ B lv ts sz q7 _ HX7.out hl (by simp)).mono ?_
                 rintro x w8 ⟨rfl, hx8, hg8⟩
                 have HX8 := hd hx8
                 have HG8 := hd (grownBy_trans HG7.out hg8)
                 have HK8 := hd (HK7.out.grown hg8 (by omega))
                 have HL8 := hd (HL7.out.grown hg8 (by omega))
                 have HV8 := hd (own_far HV7.out hg8)
                 have HVO8 : Hid (lsV B 210 2 orderC os (.slice bo bm bc) w8) := own_far HVO7.out hg8
                 clear hx8 hg8
                 go_wp2_with fail
                 refine (c_number_any w8 B lv ts sz q7.tail _ HX8.out 1000000000 (by omega)).mono ?_
                 rintro x w9 ho
                 obtain ⟨hg, ⟨p, c, hr, rfl⟩ | ⟨k, q9, v, hr, rfl, hv, hx⟩⟩ := ho.cases
                 · exact ⟨rfl, OutR.err (grownBy_trans HG8.out hg) (Px.Rg.go HR1.out (Px.Rg.go HR2.out (Px.Rg.go HR3.out (Px.Rg.go HR4.out (Px.Rg.go HRO7.out (Px.Rg.err (lim_of hl hr)))))))⟩
                 · cases hv
                   have HRL := hd (lim_of hl hr)
                   have HG9 := hd (grownBy_trans HG8.out hg)
                   have HK9 := hd (HK8.out.grown hg (by omega))
                   have HL9 := hd (HL8.out.grown hg (by omega))
                   have HV9 := hd (own_far HV8.out hg)
                   have HVO9 := hd (own_far HVO8.out hg)
                   have HXF : Hid (Cx w9 B lv ts sz q9 (deepSt (.select its n o os (some k)) || dp)) := by
                    show Cx _ _ _ _ _ _ _
                    rw [deep_select]; exact hx
                   have f4 := HL9.out.free 4
                   have f5 := HL9.out.free 5
                   clear hr hx hg ho HX8 HG8 HK8 HL8 HV8 HVO8
                   have m0 : w9.cell? ⟨w.heap.size, 0, none⟩ = some (.slice none 0 0) := HK9.out.cell 0
                   have g0 := HK9.out.free 0
                   have p0 : w9.cell? ⟨w1.heap.size, 0, none⟩ = some (.slice ao m cp) := HL9.out.cell 0
                   have m1 : w9.cell? ⟨w.heap.size, 1, none⟩ = some (.string ⟨#[]⟩) := HK9.out.cell 1
                   have g1 := HK9.out.free 1
                   have p1 : w9.cell? ⟨w1.heap.size, 1, none⟩ = some (.string ⟨n.toArray⟩) := HL9.out.cell 1
                   have m2 : w9.cell? ⟨w.heap.size, 2, none⟩ = some (.nilIface) := HK9.out.cell 2
                   have g2 := HK9.out.free 2
                   have p2 : w9.cell? ⟨w1.heap.size, 2, none⟩ = some (.nilIface) := HL9.out.cell 2
                   have m3 : w9.cell? ⟨w.heap.size, 3, none⟩ = some (.slice none 0 0) := HK9.out.cell 3
                   have g3 := HK9.out.free 3
                   have p3 : w9.cell? ⟨w1.heap.size, 3, none⟩ = some (.slice bo bm bc) := HL9.out.cell 3
                   have m4 : w9.cell? ⟨w.heap.size, 4, none⟩ = some (.bool false) := HK9.out.cell 4
                   have g4 := HK9.out.free 4
                   have p4 : w9.cell? ⟨w1.heap.size, 4, none⟩ = some (.bool false) := HL9.out.cell 4
                   have m5 : w9.cell? ⟨w.heap.size, 5, none⟩ = some (.int .i64 0) := HK9.out.cell 5
                   have g5 := HK9.out.free 5
                   have p5 : w9.cell? ⟨w1.heap.size, 5, none⟩ = some (.int .i64 0) := HL9.out.cell 5
                   have HK9' := hd ((HK9.out.far ⟨w1.heap.size, 4, none⟩ (.bool true) d1).far ⟨w1.heap.size, 5, none⟩ (.int .i64 (k : Int)) d1)
                   have HG9' := hd (grown_away (grown_away HG9.out (M := w1.heap.size) (by omega) 4 (.bool true)) (M := w1.heap.size) (by omega) 5 (.int .i64 (k : Int)))
                   have HXF' := hd ((HXF.out.far HX.out (M := w1.heap.size) (by omega) 4 (.bool true)).far HX.out (M := w1.heap.size) (by omega) 5 (.int .i64 (k : Int)))
                   have HV9' := hd (ls_set (ls_set HV9.out 4 (.bool true) ⟨_, _, HL9.out, by decide⟩) 5 (.int .i64 (k : Int)) ⟨_, _, HL9.out.set 4 _, by decide⟩)
                   have HVO9' := hd (ls_set (ls_set HVO9.out 4 (.bool true) ⟨_, _, HL9.out, by decide⟩) 5 (.int .i64 (k : Int)) ⟨_, _, HL9.out.set 4 _, by decide⟩)
                   clear HK9 HG9 HXF HV9 HVO9
                   go_wp2_with fail
                   have KF := ((((((HK9'.out.set 0 (.slice ao m cp)).set 1 (.string ⟨n.toArray⟩)).set 2 (.nilIface)).set 3 (.slice bo bm bc)).set 4 (.bool true)).set 5 (.int .i64 (k : Int)))
                   have e0 := KF.cell 0
                   have e1 := KF.cell 1
                   have e2 := KF.cell 2
                   have e3 := KF.cell 3
                   have e4 := KF.cell 4
                   have e5 := KF.cell 5
                   simp at e0 e1 e2 e3 e4 e5
                   refine bodyPost_ret (v := .agg #[.slice ao m cp, .string ⟨n.toArray⟩, .nilIface, .slice bo bm bc, .bool true, .int .i64 (k : Int)]) (by simp [results, Tryz.results43, go_sem, e0, e1, e2, e3, e4, e5]) rfl ?_
                   refine OutR.ok (a := Px.St.select its n o os (some k)) (q' := q9) (grown_away (grown_away (grown_away (grown_away (grown_away (grown_away HG9'.out (Nat.le_refl _) 0 _) (Nat.le_refl _) 1 _) (Nat.le_refl _) 2 _) (Nat.le_refl _) 3 _) (Nat.le_refl _) 4 _) (Nat.le_refl _) 5 _) (Px.Rg.go HR1.out (Px.Rg.go HR2.out (Px.Rg.go HR3.out (Px.Rg.go HR4.out (Px.Rg.go HRO7.out (Px.Rg.go HRL.out rfl)))))) ⟨.slice ao m cp, .slice bo bm bc, by rw [← show (.nilIface : Value) = ev? o from HE.out]; rfl, ?_, ?_⟩ ((((((HXF'.out.far HX.out (Nat.le_refl _) 0 _).far HX.out (Nat.le_refl _) 1 _).far HX.out (Nat.le_refl _) 2 _).far HX.out (Nat.le_refl _) 3 _).far HX.out (Nat.le_refl _) 4 _).far HX.out (Nat.le_refl _) 5 _)
                   · have s0 := ls_set HV9'.out 0 (.slice ao m cp) ⟨_, _, HK9'.out, by decide⟩
                     have s1 := ls_set s0 1 (.string ⟨n.toArray⟩) ⟨_, _, (HK9'.out.set 0 _), by decide⟩
                     have s2 := ls_set s1 2 (.nilIface) ⟨_, _, ((HK9'.out.set 0 _).set 1 _), by decide⟩
                     have s3 := ls_set s2 3 (.slice bo bm bc) ⟨_, _, (((HK9'.out.set 0 _).set 1 _).set 2 _), by decide⟩
                     have s4 := ls_set s3 4 (.bool true) ⟨_, _, ((((HK9'.out.set 0 _).set 1 _).set 2 _).set 3 _), by decide⟩
                     exact ls_set s4 5 (.int .i64 (k : Int)) ⟨_, _, (((((HK9'.out.set 0 _).set 1 _).set 2 _).set 3 _).set 4 _), by decide⟩
                   · have s0 := ls_set HVO9'.out 0 (.slice ao m cp) ⟨_, _, HK9'.out, by decide⟩
                     have s1 := ls_set s0 1 (.string ⟨n.toArray⟩) ⟨_, _, (HK9'.out.set 0 _), by decide⟩
                     have s2 := ls_set s1 2 (.nilIface) ⟨_, _, ((HK9'.out.set 0 _).set 1 _), by decide⟩
                     have s3 := ls_set s2 3 (.slice bo bm bc) ⟨_, _, (((HK9'.out.set 0 _).set 1 _).set 2 _), by decide⟩
                     have s4 := ls_set s3 4 (.bool true) ⟨_, _, ((((HK9'.out.set 0 _).set 1 _).set 2 _).set 3 _), by decide⟩
                     exact ls_set s4 5 (.int .i64 (k : Int)) ⟨_, _, (((((HK9'.out.set 0 _).set 1 _).set 2 _).set 3 _).set 4 _), by decide⟩
         · have HX4 := hd (HX40.out.far HX.out (M := w1.heap.size) (by omega) 2 (.iface et ex))
           have HG4 := hd (grown_away HG40.out (M := w1.heap.size) (by omega) 2 (.iface et ex))
           have HK4 := hd (HK40.out.far ⟨w1.heap.size, 2, none⟩ (.iface et ex) d1)
           have HL4 : Hid (Blk (w4.setCell ⟨w1.heap.size, 2, none⟩ (.iface et ex)) w1.heap.size #[.slice ao m cp, .string ⟨n.toArray⟩, .iface et ex, .slice none 0 0, .bool false, .int .i64 0] 96) := HL40.out.set 2 _
           have HV4 := hd (ls_set HV40.out 2 (.iface et ex) ⟨_, _, HL40.out, by decide⟩)
           clear HX40 HG40 HK40 HL40 HV40
           cases hs : Px.sees Px.kORDER q4 with
           | false =>
            have HRO : Hid (Px.ordersR sz q4 (.ok ([], q4))) := by show Px.ordersR _ _ _; unfold Px.ordersR; rw [if_neg (by simp [hs])]
            go_wp2_with fail
            refine (c_accept_no ⟨#[79, 82, 68, 69, 82]⟩ _ B lv ts sz q4 _ HX4.out hs (by simp)).mono ?_
            rintro x w5 ⟨rfl, hb5⟩
            have HX5 := hd (HX4.out.below hb5)
            have HG5 := hd (grownBy_trans HG4.out (Below.grownBy (row := some B) hb5))
            have HK5 := hd (HK4.out.below hb5 HK4.out.lt)
            have HL5 := hd (HL4.out.below hb5 HL4.out.lt)
            have HV5 : Hid (lsV B 206 2 itemC its (.slice ao m cp) w5) := owns_below HV4.out hb5
            clear hb5 HX4 HG4 HK4 HL4 HV4
            cases hl : Px.sees Px.kLIMIT q4 with
            | false =>
             go_wp2_with fail
             refine (c_accept_no ⟨#[76, 73, 77, 73, 84]⟩ _ B lv ts sz q4 _ HX5.out hl (by simp)).mono ?_
             rintro x w9 ⟨rfl, hb9⟩
             have HX9 := hd (HX5.out.below hb9)
             have HG9 := hd (grownBy_trans HG5.out (Below.grownBy (row := some B) hb9))
             have HK9 := hd (HK5.out.below hb9 HK5.out.lt)
             have HL9 := hd (HL5.out.below hb9 HL5.out.lt)
             have HV9 : Hid (lsV B 206 2 itemC its (.slice ao m cp) w9) := owns_below HV5.out hb9
             have HVO9 : Hid (lsV B 210 2 orderC [] (.slice none 0 0) w9) := World.ownsRow_nil _ _ _ _
             have HXF : Hid (Cx w9 B lv ts sz q4 (deepSt (.select its n o [] none) || dp)) := by
              show Cx _ _ _ _ _ _ _
              rw [deep_select]; exact HX9.out
             clear hb9 HX9
             have m0 : w9.cell? ⟨w.heap.size, 0, none⟩ = some (.slice none 0 0) := HK9.out.cell 0
             have g0 := HK9.out.free 0
             have p0 : w9.cell? ⟨w1.heap.size, 0, none⟩ = some (.slice ao m cp) := HL9.out.cell 0
             have m1 : w9.cell? ⟨w.heap.size, 1, none⟩ = some (.string ⟨#[]⟩) := HK9.out.cell 1
             have g1 := HK9.out.free 1
             have p1 : w9.cell? ⟨w1.heap.size, 1, none⟩ = some (.string ⟨n.toArray⟩) := HL9.out.cell 1
             have m2 : w9.cell? ⟨w.heap.size, 2, none⟩ = some (.nilIface) := HK9.out.cell 2
             have g2 := HK9.out.free 2
             have p2 : w9.cell? ⟨w1.heap.size, 2, none⟩ = some (.iface et ex) := HL9.out.cell 2
             have m3 : w9.cell? ⟨w.heap.size, 3, none⟩ = some (.slice none 0 0) := HK9.out.cell 3
             have g3 := HK9.out.free 3
             have p3 : w9.cell? ⟨w1.heap.size, 3, none⟩ = some (.slice none 0 0) := HL9.out.cell 3
             have m4 : w9.cell? ⟨w.heap.size, 4, none⟩ = some (.bool false) := HK9.out.cell 4
             have g4 := HK9.out.free 4
             have p4 : w9.cell? ⟨w1.heap.size, 4, none⟩ = some (.bool false) := HL9.out.cell 4
             have m5 : w9.cell? ⟨w.heap.size, 5, none⟩ = some (.int .i64 0) := HK9.out.cell 5
             have g5 := HK9.out.free 5
             have p5 : w9.cell? ⟨w1.heap.size, 5, none⟩ = some (.int .i64 0) := HL9.out.cell 5
             go_wp2_with fail
             have KF := ((((((HK9.out.set 0 (.slice ao m cp)).set 1 (.string ⟨n.toArray⟩)).set 2 (.iface et ex)).set 3 (.slice none 0 0)).set 4 (.bool false)).set 5 (.int .i64 0))
             have e0 := KF.cell 0
             have e1 := KF.cell 1
             have e2 := KF.cell 2
             have e3 := KF.cell 3
             have e4 := KF.cell 4
             have e5 := KF.cell 5
             simp at e0 e1 e2 e3 e4 e5
             refine bodyPost_ret (v := .agg #[.slice ao m cp, .string ⟨n.toArray⟩, .iface et ex, .slice none 0 0, .bool false, .int .i64 0]) (by simp [results, Tryz.results43, go_sem, e0, e1, e2, e3, e4, e5]) rfl ?_
             refine OutR.ok (a := Px.St.select its n o [] none) (q' := q4) (grown_away (grown_away (grown_away (grown_away (grown_away (grown_away HG9.out (Nat.le_refl _) 0 _) (Nat.le_refl _) 1 _) (Nat.le_refl _) 2 _) (Nat.le_refl _) 3 _) (Nat.le_refl _) 4 _) (Nat.le_refl _) 5 _) (Px.Rg.go HR1.out (Px.Rg.go HR2.out (Px.Rg.go HR3.out (Px.Rg.go HR4.out (Px.Rg.go HRO.out (Px.Rg.go (lim_no hl) rfl)))))) ⟨.slice ao m cp, .slice none 0 0, by rw [← show (.iface et ex : Value) = ev? o from HE.out]; rfl, ?_, ?_⟩ ((((((HXF.out.far HX.out (Nat.le_refl _) 0 _).far HX.out (Nat.le_refl _) 1 _).far HX.out (Nat.le_refl _) 2 _).far HX.out (Nat.le_refl _) 3 _).far HX.out (Nat.le_refl _) 4 _).far HX.out (Nat.le_refl _) 5 _)
             · have s0 := ls_set HV9.out 0 (.slice ao m cp) ⟨_, _, HK9.out, by decide⟩
               have s1 := ls_set s0 1 (.string ⟨n.toArray⟩) ⟨_, _, (HK9.out.set 0 _), by decide⟩
               have s2 := ls_set s1 2 (.iface et ex) ⟨_, _, ((HK9.out.set 0 _).set 1 _), by decide⟩
               have s3 := ls_set s2 3 (.slice none 0 0) ⟨_, _, (((HK9.out.set 0 _).set 1 _).set 2 _), by decide⟩
               have s4 := ls_set s3 4 (.bool false) ⟨_, _, ((((HK9.out.set 0 _).set 1 _).set 2 _).set 3 _), by decide⟩
               exact ls_set s4 5 (.int .i64 0) ⟨_, _, (((((HK9.out.set 0 _).set 1 _).set 2 _).set 3 _).set 4 _), by decide⟩
             · have s0 := ls_set HVO9.out 0 (.slice ao m cp) ⟨_, _, HK9.out, by decide⟩
               have s1 := ls_set s0 1 (.string ⟨n.toArray⟩) ⟨_, _, (HK9.out.set 0 _), by decide⟩
               have s2 := ls_set s1 2 (.iface et ex) ⟨_, _, ((HK9.out.set 0 _).set 1 _), by decide⟩
               have s3 := ls_set s2 3 (.slice none 0 0) ⟨_, _, (((HK9.out.set 0 _).set 1 _).set 2 _), by decide⟩
               have s4 := ls_set s3 4 (.bool false) ⟨_, _, ((((HK9.out.set 0 _).set 1 _).set 2 _).set 3 _), by decide⟩
               exact ls_set s4 5 (.int .i64 0) ⟨_, _, (((((HK9.out.set 0 _).set 1 _).set 2 _).set 3 _).set 4 _), by decide⟩
            | true =>
             go_wp2_with fail
             refine (c_accept_yes ⟨#[76, 73, 77, 73, 84]⟩ _ B lv ts sz q4 _ HX5.out hl (by simp)).mono ?_
             rintro x w8 ⟨rfl, hx8, hg8⟩
             have HX8 := hd hx8
             have HG8 := hd (grownBy_trans HG5.out hg8)
             have HK8 := hd (HK5.out.grown hg8 (by omega))
             have HL8 := hd (HL5.out.grown hg8 (by omega))
             have HV8 := hd (own_far HV5.out hg8)
             have HVO8 : Hid (lsV B 210 2 orderC [] (.slice none 0 0) w8) := World.ownsRow_nil _ _ _ _
             clear hx8 hg8
             go_wp2_with fail
             refine (c_number_any w8 B lv ts sz q4.tail _ HX8.out 1000000000 (by omega)).mono ?_
             rintro x w9 ho
             obtain ⟨hg, ⟨p, c, hr, rfl⟩ | ⟨k, q9, v, hr, rfl, hv, hx⟩⟩ := ho.cases
             · exact ⟨rfl, OutR.err (grownBy_trans HG8.out hg) (Px.Rg.go HR1.out (Px.Rg.go HR2.out (Px.Rg.go HR3.out (Px.Rg.go HR4.out (Px.Rg.go HRO.out (Px.Rg.err (lim_of hl hr)))))))⟩
             · cases hv
               have HRL := hd (lim_of hl hr)
               have HG9 := hd (grownBy_trans HG8.out hg)
               have HK9 := hd (HK8.out.grown hg (by omega))
               have HL9 := hd (HL8.out.grown hg (by omega))
               have HV9 := hd (own_far HV8.out hg)
               have HVO9 := hd (own_far HVO8.out hg)
               have HXF : Hid (Cx w9 B lv ts sz q9 (deepSt (.select its n o [] (some k)) || dp)) := by
                show Cx _ _ _ _ _ _ _
                rw [deep_select]; exact hx
               have f4 := HL9.out.free 4
               have f5 := HL9.out.free 5
               clear hr hx hg ho HX8 HG8 HK8 HL8 HV8 HVO8
               have m0 : w9.cell? ⟨w.heap.size, 0, none⟩ = some (.slice none 0 0) := HK9.out.cell 0
               have g0 := HK9.out.free 0
               have p0 : w9.cell? ⟨w1.heap.size, 0, none⟩ = some (.slice ao m cp) := HL9.out.cell 0
               have m1 : w9.cell? ⟨w.heap.size, 1, none⟩ = some (.string ⟨#[]⟩) := HK9.out.cell 1
               have g1 := HK9.out.free 1
               have p1 : w9.cell? ⟨w1.heap.size, 1, none⟩ = some (.string ⟨n.toArray⟩) := HL9.out.cell 1
               have m2 : w9.cell? ⟨w.heap.size, 2, none⟩ = some (.nilIface) := HK9.out.cell 2
               have g2 := HK9.out.free 2
               have p2 : w9.cell? ⟨w1.heap.size, 2, none⟩ = some (.iface et ex) := HL9.out.cell 2
               have m3 : w9.cell? ⟨w.heap.size, 3, none⟩ = some (.slice none 0 0) := HK9.out.cell 3
               have g3 := HK9.out.free 3
               have p3 : w9.cell? ⟨w1.heap.size, 3, none⟩ = some (.slice none 0 0) := HL9.out.cell 3
               have m4 : w9.cell? ⟨w.heap.size, 4, none⟩ = some (.bool false) := HK9.out.cell 4
               have g4 := HK9.out.free 4
               have p4 : w9.cell? ⟨w1.heap.size, 4, none⟩ = some (.bool false) := HL9.out.cell 4
               have m5 : w9.cell? ⟨w.heap.size, 5, none⟩ = some (.int .i64 0) := HK9.out.cell 5
               have g5 := HK9.out.free 5
               have p5 : w9.cell? ⟨w1.heap.size, 5, none⟩ = some (.int .i64 0) := HL9.out.cell 5
               have HK9' := hd ((HK9.out.far ⟨w1.heap.size, 4, none⟩ (.bool true) d1).far ⟨w1.heap.size, 5, none⟩ (.int .i64 (k : Int)) d1)
               have HG9' := hd (grown_away (grown_away HG9.out (M := w1.heap.size) (by omega) 4 (.bool true)) (M := w1.heap.size) (by omega) 5 (.int .i64 (k : Int)))
               have HXF' := hd ((HXF.out.far HX.out (M := w1.heap.size) (by omega) 4 (.bool true)).far HX.out (M := w1.heap.size) (by omega) 5 (.int .i64 (k : Int)))
               have HV9' := hd (ls_set (ls_set HV9.out 4 (.bool true) ⟨_, _, HL9.out, by decide⟩) 5 (.int .i64 (k : Int)) ⟨_, _, HL9.out.set 4 _, by decide⟩)
               have HVO9' := hd (ls_set (ls_set HVO9.out 4 (.bool true) ⟨_, _, HL9.out, by decide⟩) 5 (.int .i64 (k : Int)) ⟨_, _, HL9.out.set 4 _, by decide⟩)
               clear HK9 HG9 HXF HV9 HVO9
               go_wp2_with fail
               have KF := ((((((HK9'.out.set 0 (.slice ao m cp)).set 1 (.string ⟨n.toArray⟩)).set 2 (.iface et ex)).set 3 (.slice none 0 0)).set 4 (.bool true)).set 5 (.int .i64 (k : Int)))
               have e0 := KF.cell 0
               have e1 := KF.cell 1
               have e2 := KF.cell 2
               have e3 := KF.cell 3
               have e4 := KF.cell 4
               have e5 := KF.cell 5
               simp at e0 e1 e2 e3 e4 e5
               refine bodyPost_ret (v := .agg #[.slice ao m cp, .string ⟨n.toArray⟩, .iface et ex, .slice none 0 0, .bool true, .int .i64 (k : Int)]) (by simp [results, Tryz.results43, go_sem, e0, e1, e2, e3, e4, e5]) rfl ?_
               refine OutR.ok (a := Px.St.select its n o [] (some k)) (q' := q9) (grown_away (grown_away (grown_away (grown_away (grown_away (grown_away HG9'.out (Nat.le_refl _) 0 _) (Nat.le_refl _) 1 _) (Nat.le_refl _) 2 _) (Nat.le_refl _) 3 _) (Nat.le_refl _) 4 _) (Nat.le_refl _) 5 _) (Px.Rg.go HR1.out (Px.Rg.go HR2.out (Px.Rg.go HR3.out (Px.Rg.go HR4.out (Px.Rg.go HRO.out (Px.Rg.go HRL.out rfl)))))) ⟨.slice ao m cp, .slice none 0 0, by rw [← show (.iface et ex : Value) = ev? o from HE.out]; rfl, ?_, ?_⟩ ((((((HXF'.out.far HX.out (Nat.le_refl _) 0 _).far HX.out (Nat.le_refl _) 1 _).far HX.out (Nat.le_refl _) 2 _).far HX.out (Nat.le_refl _) 3 _).far HX.out (Nat.le_refl _) 4 _).far HX.out (Nat.le_refl _) 5 _)
               · have s0 := ls_set HV9'.out 0 (.slice ao m cp) ⟨_, _, HK9'.out, by decide⟩
                 have s1 := ls_set s0 1 (.string ⟨n.toArray⟩) ⟨_, _, (HK9'.out.set 0 _), by decide⟩
                 have s2 := ls_set s1 2 (.iface et ex) ⟨_, _, ((HK9'.out.set 0 _).set 1 _), by decide⟩
                 have s3 := ls_set s2 3 (.slice none 0 0) ⟨_, _, (((HK9'.out.set 0 _).set 1 _).set 2 _), by decide⟩
                 have s4 := ls_set s3 4 (.bool true) ⟨_, _, ((((HK9'.out.set 0 _).set 1 _).set 2 _).set 3 _), by decide⟩
                 exact ls_set s4 5 (.int .i64 (k : Int)) ⟨_, _, (((((HK9'.out.set 0 _).set 1 _).set 2 _).set 3 _).set 4 _), by decide⟩
               · have s0 := ls_set HVO9'.out 0 (.slice ao m cp) ⟨_, _, HK9'.out, by decide⟩
                 have s1 := ls_set s0 1 (.string ⟨n.toArray⟩) ⟨_, _, (HK9'.out.set 0 _), by decide⟩
                 have s2 := ls_set s1 2 (.iface et ex) ⟨_, _, ((HK9'.out.set 0 _).set 1 _), by decide⟩
                 have s3 := ls_set s2 3 (.slice none 0 0) ⟨_, _, (((HK9'.out.set 0 _).set 1 _).set 2 _), by decide⟩
                 have s4 := ls_set s3 4 (.bool true) ⟨_, _, ((((HK9'.out.set 0 _).set 1 _).set 2 _).set 3 _), by decide⟩
                 exact ls_set s4 5 (.int .i64 (k : Int)) ⟨_, _, (((((HK9'.out.set 0 _).set 1 _).set 2 _).set 3 _).set 4 _), by decide⟩
           | true =>
            have HRO : Hid (∀ r, Px.Rg.seq (Px.mustR sz Px.kBY) (fun _ => Px.Sep fun _ => Px.orderR sz) q4.tail r → Px.ordersR sz q4 r) := fun r hr => by unfold Px.ordersR; rw [if_pos hs]; exact hr
            go_wp2_with fail
            refine (c_accept_yes ⟨#[79, 82, 68, 69, 82]⟩ _ B lv ts sz q4 _ HX4.out hs (by simp)).mono ?_
            rintro x w5 ⟨rfl, hx5, hg5⟩
            have HX5 := hd hx5
            have HG5 := hd (grownBy_trans HG4.out hg5)
            have HK5 := hd (HK4.out.grown hg5 (by omega))
            have HL5 := hd (HL4.out.grown hg5 (by omega))
            have HV5 := hd (own_far HV4.out hg5)
            clear hx5 hg5 HX4 HG4 HK4 HL4 HV4
            go_wp2_with fail
            refine (c_expect_at ⟨#[66, 89]⟩ w5 _ rfl B lv ts sz q4.tail _ HX5.out (by simp)).mono ?_
            rintro x w6 ho
            obtain ⟨hg, ⟨p, c, hr, rfl⟩ | ⟨_, q6, v, hr, rfl, hv, hx⟩⟩ := ho.cases
            · exact ⟨rfl, OutR.err (grownBy_trans HG5.out hg) (Px.Rg.go HR1.out (Px.Rg.go HR2.out (Px.Rg.go HR3.out (Px.Rg.go HR4.out (Px.Rg.err (HRO.out _ (Px.Rg.err hr)))))))⟩
            · cases hv
              have HR6 := hd hr
              have HX6 := hd hx
              have HG6 := hd (grownBy_trans HG5.out hg)
              have HK6 := hd (HK5.out.grown hg (by omega))
              have HL6 := hd (HL5.out.grown hg (by omega))
              have HV6 := hd (own_far HV5.out hg)
              clear hr hx hg ho HX5 HG5 HK5 HL5 HV5
              go_wp2_with fail
              refine (c_listOrder_any B lv ts sz _ w6 q6 HX6.out).mono ?_
              rintro x w7 ho
              obtain ⟨hg, ⟨p, c, hr, rfl⟩ | ⟨os, q7, v, hr, rfl, hv, hx⟩⟩ := ho.cases
              · exact ⟨rfl, OutR.err (grownBy_trans HG6.out hg) (Px.Rg.go HR1.out (Px.Rg.go HR2.out (Px.Rg.go HR3.out (Px.Rg.go HR4.out (Px.Rg.err (HRO.out _ (Px.Rg.go HR6.out hr)))))))⟩
              · have HRO7 := hd (HRO.out _ (Px.Rg.go HR6.out hr))
                obtain ⟨bo, bm, bc, rfl⟩ := own_slice hv
                have HL70 := hd (HL6.out.grown hg (by omega))
                have a3 : w7.cell? ⟨w1.heap.size, 3, none⟩ = some (.slice none 0 0) := HL70.out.cell 3
                have f3 := HL70.out.free 3
                have HX7 := hd (hx.far HX.out (M := w1.heap.size) (by omega) 3 (.slice bo bm bc))
                have HG7 := hd (grown_away (grownBy_trans HG6.out hg) (M := w1.heap.size) (by omega) 3 (.slice bo bm bc))
                have HK7 := hd ((HK6.out.grown hg (by omega)).far ⟨w1.heap.size, 3, none⟩ (.slice bo bm bc) d1)
                have HL7 : Hid (Blk (w7.setCell ⟨w1.heap.size, 3, none⟩ (.slice bo bm bc)) w1.heap.size #[.slice ao m cp, .string ⟨n.toArray⟩, .iface et ex, .slice bo bm bc, .bool false, .int .i64 0] 96) := HL70.out.set 3 _
                have HV7 := hd (ls_set (own_far HV6.out hg) 3 (.slice bo bm bc) ⟨_, _, HL70.out, by decide⟩)
                have HVO7 := hd (ls_set hv 3 (.slice bo bm bc) ⟨_, _, HL70.out, by decide⟩)
                clear hr hx hg ho hv HX6 HG6 HK6 HL6 HV6 HL70 HRO HR6
                cases hl : Px.sees Px.kLIMIT q7 with
                | false =>
                 go_wp2_with fail
                 refine (c_accept_no ⟨#[76, 73, 77, 73, 84]⟩ _ B lv ts sz q7 _ HX7.out hl (by simp)).mono ?_
                 rintro x w9 ⟨rfl, hb9⟩
                 have HX9 := hd (HX7.out.below hb9)
                 have HG9 := hd (grownBy_trans HG7.out (Below.grownBy (row := some B) hb9))
                 have HK9 := hd (HK7.out.below hb9 HK7.out.lt)
                 have HL9 := hd (HL7.out.below hb9 HL7.out.lt)
                 have HV9 : Hid (lsV B 206 2 itemC its (.slice ao m cp) w9) := owns_below HV7.out hb9
                 have HVO9 : Hid (lsV B 210 2 orderC os (.slice bo bm bc) w9) := owns_below HVO7.out hb9
                 have HXF : Hid (Cx w9 B lv ts sz q7 (deepSt (.select its n o os none) || dp)) := by
                  show Cx _ _ _ _ _ _ _
                  rw [deep_select]; exact HX9.out
                 clear hb9 HX9
                 have m0 : w9.cell? ⟨w.heap.size, 0, none⟩ = some (.slice none 0 0) := HK9.out.cell 0
                 have g0 := HK9.out.free 0
                 have p0 : w9.cell? ⟨w1.heap.size, 0, none⟩ = some (.slice ao m cp) := HL9.out.cell 0
                 have m1 : w9.cell? ⟨w.heap.size, 1, none⟩ = some (.string ⟨#[]⟩) := HK9.out.cell 1
                 have g1 := HK9.out.free 1
                 have p1 : w9.cell? ⟨w1.heap.size, 1, none⟩ = some (.string ⟨n.toArray⟩) := HL9.out.cell 1
                 have m2 : w9.cell? ⟨w.heap.size, 2, none⟩ = some (.nilIface) := HK9.out.cell 2
                 have g2 := HK9.out.free 2
                 have p2 : w9.cell? ⟨w1.heap.size, 2, none⟩ = some (.iface et ex) := HL9.out.cell 2
                 have m3 : w9.cell? ⟨w.heap.size, 3, none⟩ = some (.slice none 0 0) := HK9.out.cell 3
                 have g3 := HK9.out.free 3
                 have p3 : w9.cell? ⟨w1.heap.size, 3, none⟩ = some (.slice bo bm bc) := HL9.out.cell 3
                 have m4 : w9.cell? ⟨w.heap.size, 4, none⟩ = some (.bool false) := HK9.out.cell 4
                 have g4 := HK9.out.free 4
                 have p4 : w9.cell? ⟨w1.heap.size, 4, none⟩ = some (.bool false) := HL9.out.cell 4
                 have m5 : w9.cell? ⟨w.heap.size, 5, none⟩ = some (.int .i64 0) := HK9.out.cell 5
                 have g5 := HK9.out.free 5
                 have p5 : w9.cell? ⟨w1.heap.size, 5, none⟩ = some (.int .i64 0) := HL9.out.cell 5
                 go_wp2_with fail
                 have KF := ((((((HK9.out.set 0 (.slice ao m cp)).set 1 (.string ⟨n.toArray⟩)).set 2 (.iface et ex)).set 3 (.slice bo bm bc)).set 4 (.bool false)).set 5 (.int .i64 0))
                 have e0 := KF.cell 0
                 have e1 := KF.cell 1
                 have e2 := KF.cell 2
                 have e3 := KF.cell 3
                 have e4 := KF.cell 4
                 have e5 := KF.cell 5
                 simp at e0 e1 e2 e3 e4 e5
                 refine bodyPost_ret (v := .agg #[.slice ao m cp, .string ⟨n.toArray⟩, .iface et ex, .slice bo bm bc, .bool false, .int .i64 0]) (by simp [results, Tryz.results43, go_sem, e0, e1, e2, e3, e4, e5]) rfl ?_
                 refine OutR.ok (a := Px.St.select its n o os none) (q' := q7) (grown_away (grown_away (grown_away (grown_away (grown_away (grown_away HG9.out (Nat.le_refl _) 0 _) (Nat.le_refl _) 1 _) (Nat.le_refl _) 2 _) (Nat.le_refl _) 3 _) (Nat.le_refl _) 4 _) (Nat.le_refl _) 5 _) (Px.Rg.go HR1.out (Px.Rg.go HR2.out (Px.Rg.go HR3.out (Px.Rg.go HR4.out (Px.Rg.go HRO7.out (Px.Rg.go (lim_no hl) rfl)))))) ⟨.slice ao m cp, .slice bo bm bc, by rw [← show (.iface et ex : Value) = ev? o from HE.out]; rfl, ?_, ?_⟩ ((((((HXF.out.far HX.out (Nat.le_refl _) 0 _).far HX.out (Nat.le_refl _) 1 _).far HX.out (Nat.le_refl _) 2 _).far HX.out (Nat.le_refl _) 3 _).far HX.out (Nat.le_refl _) 4 _).far HX.out (Nat.le_refl _) 5 _)
                 · have s0 := ls_set HV9.out 0 (.slice ao m cp) ⟨_, _, HK9.out, by decide⟩
                   have s1 := ls_set s0 1 (.string ⟨n.toArray⟩) ⟨_, _, (HK9.out.set 0 _), by decide⟩
                   have s2 := ls_set s1 2 (.iface et ex) ⟨_, _, ((HK9.out.set 0 _).set 1 _), by decide⟩
                   have s3 := ls_set s2 3 (.slice bo bm bc) ⟨_, _, (((HK9.out.set 0 _).set 1 _).set 2 _), by decide⟩
                   have s4 := ls_set s3 4 (.bool false) ⟨_, _, ((((HK9.out.set 0 _).set 1 _).set 2 _).set 3 _), by decide⟩
                   exact ls_set s4 5 (.int .i64 0) ⟨_, _, (((((HK9.out.set 0 _).set 1 _).set 2 _).set 3 _).set 4 _), by decide⟩
                 · have s0 := ls_set HVO9.out 0 (.slice ao m cp) ⟨_, _, HK9.out, by decide⟩
                   have s1 := ls_set s0 1 (.string ⟨n.toArray⟩) ⟨_, _, (HK9.out.set 0 _), by decide⟩
                   have s2 := ls_set s1 2 (.iface et ex) ⟨_, _, ((HK9.out.set 0 _).set 1 _), by decide⟩
                   have s3 := ls_set s2 3 (.slice bo bm bc) ⟨_, _, (((HK9.out.set 0 _).set 1 _).set 2 _), by decide⟩
                   have s4 := ls_set s3 4 (.bool false) ⟨_, _, ((((HK9.out.set 0 _).set 1 _).set 2 _).set 3 _), by decide⟩
                   exact ls_set s4 5 (.int .i64 0) ⟨_, _, (((((HK9.out.set 0 _).set 1 _).set 2 _).set 3 _).set 4 _), by decide⟩
                | true =>
                 go_wp2_with fail
                 refine (c_accept_yes ⟨#[76, 73, 77, 73, 84]⟩ _ B lv ts sz q7 _ HX7.out hl (by simp)).mono ?_
                 rintro x w8 ⟨rfl, hx8, hg8⟩
                 have HX8 := hd hx8
                 have HG8 := hd (grownBy_trans HG7.out hg8)
                 have HK8 := hd (HK7.out.grown hg8 (by omega))
                 have HL8 := hd (HL7.out.grown hg8 (by omega))
                 have HV8 := hd (own_far HV7.out hg8)
                 have HVO8 : Hid (lsV B 210 2 orderC os (.slice bo bm bc) w8) := own_far HVO7.out hg8
                 clear hx8 hg8
                 go_wp2_with fail
                 refine (c_number_any w8 B lv ts sz q7.tail _ HX8.out 1000000000 (by omega)).mono ?_
                 rintro x w9 ho
                 obtain ⟨hg, ⟨p, c, hr, rfl⟩ | ⟨k, q9, v, hr, rfl, hv, hx⟩⟩ := ho.cases
                 · exact ⟨rfl, OutR.err (grownBy_trans HG8.out hg) (Px.Rg.go HR1.out (Px.Rg.go HR2.out (Px.Rg.go HR3.out (Px.Rg.go HR4.out (Px.Rg.go HRO7.out (Px.Rg.err (lim_of hl hr)))))))⟩
                 · cases hv
                   have HRL := hd (lim_of hl hr)
                   have HG9 := hd (grownBy_trans HG8.out hg)
                   have HK9 := hd (HK8.out.grown hg (by omega))
                   have HL9 := hd (HL8.out.grown hg (by omega))
                   have HV9 := hd (own_far HV8.out hg)
                   have HVO9 := hd (own_far HVO8.out hg)
                   have HXF : Hid (Cx w9 B lv ts sz q9 (deepSt (.select its n o os (some k)) || dp)) := by
                    show Cx _ _ _ _ _ _ _
                    rw [deep_select]; exact hx
                   have f4 := HL9.out.free 4
                   have f5 := HL9.out.free 5
                   clear hr hx hg ho HX8 HG8 HK8 HL8 HV8 HVO8
                   have m0 : w9.cell? ⟨w.heap.size, 0, none⟩ = some (.slice none 0 0) := HK9.out.cell 0
                   have g0 := HK9.out.free 0
                   have p0 : w9.cell? ⟨w1.heap.size, 0, none⟩ = some (.slice ao m cp) := HL9.out.cell 0
                   have m1 : w9.cell? ⟨w.heap.size, 1, none⟩ = some (.string ⟨#[]⟩) := HK9.out.cell 1
                   have g1 := HK9.out.free 1
                   have p1 : w9.cell? ⟨w1.heap.size, 1, none⟩ = some (.string ⟨n.toArray⟩) := HL9.out.cell 1
                   have m2 : w9.cell? ⟨w.heap.size, 2, none⟩ = some (.nilIface) := HK9.out.cell 2
                   have g2 := HK9.out.free 2
                   have p2 : w9.cell? ⟨w1.heap.size, 2, none⟩ = some (.iface et ex) := HL9.out.cell 2
                   have m3 : w9.cell? ⟨w.heap.size, 3, none⟩ = some (.slice none 0 0) := HK9.out.cell 3
                   have g3 := HK9.out.free 3
                   have p3 : w9.cell? ⟨w1.heap.size, 3, none⟩ = some (.slice bo bm bc) := HL9.out.cell 3
                   have m4 : w9.cell? ⟨w.heap.size, 4, none⟩ = some (.bool false) := HK9.out.cell 4
                   have g4 := HK9.out.free 4
                   have p4 : w9.cell? ⟨w1.heap.size, 4, none⟩ = some (.bool false) := HL9.out.cell 4
                   have m5 : w9.cell? ⟨w.heap.size, 5, none⟩ = some (.int .i64 0) := HK9.out.cell 5
                   have g5 := HK9.out.free 5
                   have p5 : w9.cell? ⟨w1.heap.size, 5, none⟩ = some (.int .i64 0) := HL9.out.cell 5
                   have HK9' := hd ((HK9.out.far ⟨w1.heap.size, 4, none⟩ (.bool true) d1).far ⟨w1.heap.size, 5, none⟩ (.int .i64 (k : Int)) d1)
                   have HG9' := hd (grown_away (grown_away HG9.out (M := w1.heap.size) (by omega) 4 (.bool true)) (M := w1.heap.size) (by omega) 5 (.int .i64 (k : Int)))
                   have HXF' := hd ((HXF.out.far HX.out (M := w1.heap.size) (by omega) 4 (.bool true)).far HX.out (M := w1.heap.size) (by omega) 5 (.int .i64 (k : Int)))
                   have HV9' := hd (ls_set (ls_set HV9.out 4 (.bool true) ⟨_, _, HL9.out, by decide⟩) 5 (.int .i64 (k : Int)) ⟨_, _, HL9.out.set 4 _, by decide⟩)
                   have HVO9' := hd (ls_set (ls_set HVO9.out 4 (.bool true) ⟨_, _, HL9.out, by decide⟩) 5 (.int .i64 (k : Int)) ⟨_, _, HL9.out.set 4 _, by decide⟩)
                   clear HK9 HG9 HXF HV9 HVO9
                   go_wp2_with fail
                   have KF := ((((((HK9'.out.set 0 (.slice ao m cp)).set 1 (.string ⟨n.toArray⟩)).set 2 (.iface et ex)).set 3 (.slice bo bm bc)).set 4 (.bool true)).set 5 (.int .i64 (k : Int)))
                   have e0 := KF.cell 0
                   have e1 := KF.cell 1
                   have e2 := KF.cell 2
                   have e3 := KF.cell 3
                   have e4 := KF.cell 4
                   have e5 := KF.cell 5
                   simp at e0 e1 e2 e3 e4 e5
                   refine bodyPost_ret (v := .agg #[.slice ao m cp, .string ⟨n.toArray⟩, .iface et ex, .slice bo bm bc, .bool true, .int .i64 (k : Int)]) (by simp [results, Tryz.results43, go_sem, e0, e1, e2, e3, e4, e5]) rfl ?_
                   refine OutR.ok (a := Px.St.select its n o os (some k)) (q' := q9) (grown_away (grown_away (grown_away (grown_away (grown_away (grown_away HG9'.out (Nat.le_refl _) 0 _) (Nat.le_refl _) 1 _) (Nat.le_refl _) 2 _) (Nat.le_refl _) 3 _) (Nat.le_refl _) 4 _) (Nat.le_refl _) 5 _) (Px.Rg.go HR1.out (Px.Rg.go HR2.out (Px.Rg.go HR3.out (Px.Rg.go HR4.out (Px.Rg.go HRO7.out (Px.Rg.go HRL.out rfl)))))) ⟨.slice ao m cp, .slice bo bm bc, by rw [← show (.iface et ex : Value) = ev? o from HE.out]; rfl, ?_, ?_⟩ ((((((HXF'.out.far HX.out (Nat.le_refl _) 0 _).far HX.out (Nat.le_refl _) 1 _).far HX.out (Nat.le_refl _) 2 _).far HX.out (Nat.le_refl _) 3 _).far HX.out (Nat.le_refl _) 4 _).far HX.out (Nat.le_refl _) 5 _)
                   · have s0 := ls_set HV9'.out 0 (.slice ao m cp) ⟨_, _, HK9'.out, by decide⟩
                     have s1 := ls_set s0 1 (.string ⟨n.toArray⟩) ⟨_, _, (HK9'.out.set 0 _), by decide⟩
                     have s2 := ls_set s1 2 (.iface et ex) ⟨_, _, ((HK9'.out.set 0 _).set 1 _), by decide⟩
                     have s3 := ls_set s2 3 (.slice bo bm bc) ⟨_, _, (((HK9'.out.set 0 _).set 1 _).set 2 _), by decide⟩
                     have s4 := ls_set s3 4 (.bool true) ⟨_, _, ((((HK9'.out.set 0 _).set 1 _).set 2 _).set 3 _), by decide⟩
                     exact ls_set s4 5 (.int .i64 (k : Int)) ⟨_, _, (((((HK9'.out.set 0 _).set 1 _).set 2 _).set 3 _).set 4 _), by decide⟩
                   · have s0 := ls_set HVO9'.out 0 (.slice ao m cp) ⟨_, _, HK9'.out, by decide⟩
                     have s1 := ls_set s0 1 (.string ⟨n.toArray⟩) ⟨_, _, (HK9'.out.set 0 _), by decide⟩
                     have s2 := ls_set s1 2 (.iface et ex) ⟨_, _, ((HK9'.out.set 0 _).set 1 _), by decide⟩
                     have s3 := ls_set s2 3 (.slice bo bm bc) ⟨_, _, (((HK9'.out.set 0 _).set 1 _).set 2 _), by decide⟩
                     have s4 := ls_set s3 4 (.bool true) ⟨_, _, ((((HK9'.out.set 0 _).set 1 _).set 2 _).set 3 _), by decide⟩
                     exact ls_set s4 5 (.int .i64 (k : Int)) ⟨_, _, (((((HK9'.out.set 0 _).set 1 _).set 2 _).set 3 _).set 4 _), by decide⟩
theorem part_agg {B : Nat} {T : TypeId} {s : Px.St} {v : Value} {w : World} (h : partV B T s v w) : ∃ cs, v = .agg cs := by
 cases s with
 | create t c => obtain ⟨u, h1, h2⟩ := h; simp only [Value.iface.injEq] at h1; exact ⟨_, h1.2⟩
 | drop t => have h1 : Value.iface _ _ = _ := h; simp only [Value.iface.injEq] at h1; exact ⟨_, h1.2⟩
 | insert t r => obtain ⟨u, h1, h2⟩ := h; simp only [Value.iface.injEq] at h1; exact ⟨_, h1.2⟩
 | delete t o => have h1 : Value.iface _ _ = _ := h; simp only [Value.iface.injEq] at h1; exact ⟨_, h1.2⟩
 | update t s o => obtain ⟨u, h1, h2⟩ := h; simp only [Value.iface.injEq] at h1; exact ⟨_, h1.2⟩
 | select i t o r l => obtain ⟨u, u', h1, h2, h3⟩ := h; simp only [Value.iface.injEq] at h1; exact ⟨_, h1.2⟩
theorem stmt_CREATE (B : Nat) (lv : Value) (ts : List Lx.Tok) (sz : Nat) (dp : Bool) (w : World) (q : List Lx.Tok) (h : Cx w B lv ts sz q dp) (h0 : Px.sees Px.kCREATE q = true) :
   Calls Tryz.prog 19 #[.pointer (some ⟨B, 0, none⟩)] w (OutR w B lv ts sz dp (Px.stmtR sz) q (stV B) deepSt) := by
 have HX0 := hd h
 have HG0 := hd (grownBy_refl w (some B))
 clear h
 go_enter Tryz.func19, Tryz.ntmps19
 go_wp2_with fail
 refine (c_accept_yes ⟨#[67, 82, 69, 65, 84, 69]⟩ _ B lv ts sz q dp HX0.out h0 (by simp)).mono ?_
 rintro x wy ⟨rfl, hxy, hgy⟩
 have HXy := hd hxy
 have HGy := hd (grownBy_trans HG0.out hgy)
 clear hxy hgy HX0 HG0
 go_wp2_with fail
 refine (c_create_any B lv ts sz dp _ q.tail HXy.out).mono ?_
 rintro x wz ho
 obtain ⟨hg, ⟨p, c, hr, rfl⟩ | ⟨s, qz, v, hr, rfl, hv, hx⟩⟩ := ho.cases
 · exact ⟨rfl, OutR.err (grownBy_trans HGy.out hg) (by unfold Px.stmtR; rw [if_pos h0]; exact hr)⟩
 · have HRz := hd hr
   have HXz := hd hx
   have HGz := hd (grownBy_trans HGy.out hg)
   obtain ⟨cs, rfl⟩ := part_agg hv
   have HVz := hd hv
   clear hr hx hg ho hv
   go_wp2_with fail
   go_ret
   exact OutR.ok (a := s) (q' := qz) HGz.out (by unfold Px.stmtR; rw [if_pos h0]; exact HRz.out) HVz.out HXz.out
theorem stmt_DROP (B : Nat) (lv : Value) (ts : List Lx.Tok) (sz : Nat) (dp : Bool) (w : World) (q : List Lx.Tok) (h : Cx w B lv ts sz q dp) (h0 : Px.sees Px.kCREATE q = false) (h1 : Px.sees Px.kDROP q = true) :
   Calls Tryz.prog 19 #[.pointer (some ⟨B, 0, none⟩)] w (OutR w B lv ts sz dp (Px.stmtR sz) q (stV B) deepSt) := by
 have HX0 := hd h
 have HG0 := hd (grownBy_refl w (some B))
 clear h
 go_enter Tryz.func19, Tryz.ntmps19
 go_wp2_with fail
 refine (c_accept_no ⟨#[67, 82, 69, 65, 84, 69]⟩ _ B lv ts sz q dp HX0.out h0 (by simp)).mono ?_
 rintro x w1 ⟨rfl, hb⟩
 have HX1 := hd (HX0.out.below hb)
 have HG1 := hd (grownBy_trans HG0.out (Below.grownBy (row := some B) hb))
 clear hb HX0 HG0
 go_wp2_with fail
 refine (c_accept_yes ⟨#[68, 82, 79, 80]⟩ _ B lv ts sz q dp HX1.out h1 (by simp)).mono ?_
 rintro x wy ⟨rfl, hxy, hgy⟩
 have HXy := hd hxy
 have HGy := hd (grownBy_trans HG1.out hgy)
 clear hxy hgy HX1 HG1
 go_wp2_with fail
 refine (c_expect_at ⟨#[84, 65, 66, 76, 69]⟩ wy _ rfl B lv ts sz q.tail dp HXy.out (by simp)).mono ?_
 rintro x w7 ho
 obtain ⟨hg, ⟨p, c, hr, rfl⟩ | ⟨_, q7, v, hr, rfl, hv, hx⟩⟩ := ho.cases
 · exact ⟨rfl, OutR.err (grownBy_trans HGy.out hg) (by unfold Px.stmtR; rw [if_neg (by simp [h0])]; rw [if_pos h1]; exact Px.Rg.err hr)⟩
 · cases hv
   have HR7 := hd hr
   have HX7 : Hid (Cx w7 B lv ts sz q7 dp) := hx
   have HG7 := hd (grownBy_trans HGy.out hg)
   clear hr hx hg ho
   go_wp2_with fail
   refine (c_name_any w7 B lv ts sz q7 dp HX7.out).mono ?_
   rintro x w8 ho
   obtain ⟨hg, ⟨p, c, hr, rfl⟩ | ⟨n, q8, v, hr, rfl, hv, hx⟩⟩ := ho.cases
   · exact ⟨rfl, OutR.err (grownBy_trans HG7.out hg) (by unfold Px.stmtR; rw [if_neg (by simp [h0])]; rw [if_pos h1]; exact Px.Rg.go HR7.out (Px.Rg.err hr))⟩
   · cases hv
     have HR8 := hd hr
     have HX8 : Hid (Cx w8 B lv ts sz q8 dp) := hx
     have HG8 := hd (grownBy_trans HG7.out hg)
     clear hr hx hg ho
     go_wp2_with fail
     go_ret
     exact OutR.ok (a := Px.St.drop n) (q' := q8) HG8.out (by unfold Px.stmtR; rw [if_neg (by simp [h0])]; rw [if_pos h1]; exact Px.Rg.go HR7.out (Px.Rg.go HR8.out rfl)) rfl HX8.out
theorem stmt_INSERT (B : Nat) (lv : Value) (ts : List Lx.Tok) (sz : Nat) (dp : Bool) (w : World) (q : List Lx.Tok) (h : Cx w B lv ts sz q dp) (h0 : Px.sees Px.kCREATE q = false) (h1 : Px.sees Px.kDROP q = false) (h2 : Px.sees Px.kINSERT q = true) :
   Calls Tryz.prog 19 #[.pointer (some ⟨B, 0, none⟩)] w (OutR w B lv ts sz dp (Px.stmtR sz) q (stV B) deepSt) := by
 have HX0 := hd h
 have HG0 := hd (grownBy_refl w (some B))
 clear h
 go_enter Tryz.func19, Tryz.ntmps19
 go_wp2_with fail
 refine (c_accept_no ⟨#[67, 82, 69, 65, 84, 69]⟩ _ B lv ts sz q dp HX0.out h0 (by simp)).mono ?_
 rintro x w1 ⟨rfl, hb⟩
 have HX1 := hd (HX0.out.below hb)
 have HG1 := hd (grownBy_trans HG0.out (Below.grownBy (row := some B) hb))
 clear hb HX0 HG0
 go_wp2_with fail
 refine (c_accept_no ⟨#[68, 82, 79, 80]⟩ _ B lv ts sz q dp HX1.out h1 (by simp)).mono ?_
 rintro x w2 ⟨rfl, hb⟩
 have HX2 := hd (HX1.out.below hb)
 have HG2 := hd (grownBy_trans HG1.out (Below.grownBy (row := some B) hb))
 clear hb HX1 HG1
 go_wp2_with fail
 refine (c_accept_yes ⟨#[73, 78, 83, 69, 82, 84]⟩ _ B lv ts sz q dp HX2.out h2 (by simp)).mono ?_
 rintro x wy ⟨rfl, hxy, hgy⟩
 have HXy := hd hxy
 have HGy := hd (grownBy_trans HG2.out hgy)
 clear hxy hgy HX2 HG2
 go_wp2_with fail
 refine (c_insert_any B lv ts sz dp _ q.tail HXy.out).mono ?_
 rintro x wz ho
 obtain ⟨hg, ⟨p, c, hr, rfl⟩ | ⟨s, qz, v, hr, rfl, hv, hx⟩⟩ := ho.cases
 · exact ⟨rfl, OutR.err (grownBy_trans HGy.out hg) (by unfold Px.stmtR; rw [if_neg (by simp [h0])]; rw [if_neg (by simp [h1])]; rw [if_pos h2]; exact hr)⟩
 · have HRz := hd hr
   have HXz := hd hx
   have HGz := hd (grownBy_trans HGy.out hg)
   obtain ⟨cs, rfl⟩ := part_agg hv
   have HVz := hd hv
   clear hr hx hg ho hv
   go_wp2_with fail
   go_ret
   exact OutR.ok (a := s) (q' := qz) HGz.out (by unfold Px.stmtR; rw [if_neg (by simp [h0])]; rw [if_neg (by simp [h1])]; rw [if_pos h2]; exact HRz.out) HVz.out HXz.out
theorem stmt_DELETE (B : Nat) (lv : Value) (ts : List Lx.Tok) (sz : Nat) (dp : Bool) (w : World) (q : List Lx.Tok) (h : Cx w B lv ts sz q dp) (h0 : Px.sees Px.kCREATE q = false) (h1 : Px.sees Px.kDROP q = false) (h2 : Px.sees Px.kINSERT q = false) (h3 : Px.sees Px.kDELETE q = true) :
   Calls Tryz.prog 19 #[.pointer (some ⟨B, 0, none⟩)] w (OutR w B lv ts sz dp (Px.stmtR sz) q (stV B) deepSt) := by
 have HX0 := hd h
 have HG0 := hd (grownBy_refl w (some B))
 clear h
 go_enter Tryz.func19, Tryz.ntmps19
 go_wp2_with fail
 refine (c_accept_no ⟨#[67, 82, 69, 65, 84, 69]⟩ _ B lv ts sz q dp HX0.out h0 (by simp)).mono ?_
 rintro x w1 ⟨rfl, hb⟩
 have HX1 := hd (HX0.out.below hb)
 have HG1 := hd (grownBy_trans HG0.out (Below.grownBy (row := some B) hb))
 clear hb HX0 HG0
 go_wp2_with fail
 refine (c_accept_no ⟨#[68, 82, 79, 80]⟩ _ B lv ts sz q dp HX1.out h1 (by simp)).mono ?_
 rintro x w2 ⟨rfl, hb⟩
 have HX2 := hd (HX1.out.below hb)
 have HG2 := hd (grownBy_trans HG1.out (Below.grownBy (row := some B) hb))
 clear hb HX1 HG1
 go_wp2_with fail
 refine (c_accept_no ⟨#[73, 78, 83, 69, 82, 84]⟩ _ B lv ts sz q dp HX2.out h2 (by simp)).mono ?_
 rintro x w3 ⟨rfl, hb⟩
 have HX3 := hd (HX2.out.below hb)
 have HG3 := hd (grownBy_trans HG2.out (Below.grownBy (row := some B) hb))
 clear hb HX2 HG2
 go_wp2_with fail
 refine (c_accept_yes ⟨#[68, 69, 76, 69, 84, 69]⟩ _ B lv ts sz q dp HX3.out h3 (by simp)).mono ?_
 rintro x wy ⟨rfl, hxy, hgy⟩
 have HXy := hd hxy
 have HGy := hd (grownBy_trans HG3.out hgy)
 clear hxy hgy HX3 HG3
 go_wp2_with fail
 refine (c_delete_any B lv ts sz dp _ q.tail HXy.out).mono ?_
 rintro x wz ho
 obtain ⟨hg, ⟨p, c, hr, rfl⟩ | ⟨s, qz, v, hr, rfl, hv, hx⟩⟩ := ho.cases
 · exact ⟨rfl, OutR.err (grownBy_trans HGy.out hg) (by unfold Px.stmtR; rw [if_neg (by simp [h0])]; rw [if_neg (by simp [h1])]; rw [if_neg (by simp [h2])]; rw [if_pos h3]; exact hr)⟩
 · have HRz := hd hr
   have HXz := hd hx
   have HGz := hd (grownBy_trans HGy.out hg)
   obtain ⟨cs, rfl⟩ := part_agg hv
   have HVz := hd hv
   clear hr hx hg ho hv
   go_wp2_with fail
   go_ret
   exact OutR.ok (a := s) (q' := qz) HGz.out (by unfold Px.stmtR; rw [if_neg (by simp [h0])]; rw [if_neg (by simp [h1])]; rw [if_neg (by simp [h2])]; rw [if_pos h3]; exact HRz.out) HVz.out HXz.out
theorem stmt_UPDATE (B : Nat) (lv : Value) (ts : List Lx.Tok) (sz : Nat) (dp : Bool) (w : World) (q : List Lx.Tok) (h : Cx w B lv ts sz q dp) (h0 : Px.sees Px.kCREATE q = false) (h1 : Px.sees Px.kDROP q = false) (h2 : Px.sees Px.kINSERT q = false) (h3 : Px.sees Px.kDELETE q = false) (h4 : Px.sees Px.kUPDATE q = true) :
   Calls Tryz.prog 19 #[.pointer (some ⟨B, 0, none⟩)] w (OutR w B lv ts sz dp (Px.stmtR sz) q (stV B) deepSt) := by
 have HX0 := hd h
 have HG0 := hd (grownBy_refl w (some B))
 clear h
 go_enter Tryz.func19, Tryz.ntmps19
 go_wp2_with fail
 refine (c_accept_no ⟨#[67, 82, 69, 65, 84, 69]⟩ _ B lv ts sz q dp HX0.out h0 (by simp)).mono ?_
 rintro x w1 ⟨rfl, hb⟩
 have HX1 := hd (HX0.out.below hb)
 have HG1 := hd (grownBy_trans HG0.out (Below.grownBy (row := some B) hb))
 clear hb HX0 HG0
 go_wp2_with fail
 refine (c_accept_no ⟨#[68, 82, 79, 80]⟩ _ B lv ts sz q dp HX1.out h1 (by simp)).mono ?_
 rintro x w2 ⟨rfl, hb⟩
 have HX2 := hd (HX1.out.below hb)
 have HG2 := hd (grownBy_trans HG1.out (Below.grownBy (row := some B) hb))
 clear hb HX1 HG1
 go_wp2_with fail
 refine (c_accept_no ⟨#[73, 78, 83, 69, 82, 84]⟩ _ B lv ts sz q dp HX2.out h2 (by simp)).mono ?_
 rintro x w3 ⟨rfl, hb⟩
 have HX3 := hd (HX2.out.below hb)
 have HG3 := hd (grownBy_trans HG2.out (Below.grownBy (row := some B) hb))
 clear hb HX2 HG2
 go_wp2_with fail
 refine (c_accept_no ⟨#[68, 69, 76, 69, 84, 69]⟩ _ B lv ts sz q dp HX3.out h3 (by simp)).mono ?_
 rintro x w4 ⟨rfl, hb⟩
 have HX4 := hd (HX3.out.below hb)
 have HG4 := hd (grownBy_trans HG3.out (Below.grownBy (row := some B) hb))
 clear hb HX3 HG3
 go_wp2_with fail
 refine (c_accept_yes ⟨#[85, 80, 68, 65, 84, 69]⟩ _ B lv ts sz q dp HX4.out h4 (by simp)).mono ?_
 rintro x wy ⟨rfl, hxy, hgy⟩
 have HXy := hd hxy
 have HGy := hd (grownBy_trans HG4.out hgy)
 clear hxy hgy HX4 HG4
 go_wp2_with fail
 refine (c_update_any B lv ts sz dp _ q.tail HXy.out).mono ?_
 rintro x wz ho
 obtain ⟨hg, ⟨p, c, hr, rfl⟩ | ⟨s, qz, v, hr, rfl, hv, hx⟩⟩ := ho.cases
 · exact ⟨rfl, OutR.err (grownBy_trans HGy.out hg) (by unfold Px.stmtR; rw [if_neg (by simp [h0])]; rw [if_neg (by simp [h1])]; rw [if_neg (by simp [h2])]; rw [if_neg (by simp [h3])]; rw [if_pos h4]; exact hr)⟩
 · have HRz := hd hr
   have HXz := hd hx
   have HGz := hd (grownBy_trans HGy.out hg)
   obtain ⟨cs, rfl⟩ := part_agg hv
   have HVz := hd hv
   clear hr hx hg ho hv
   go_wp2_with fail
   go_ret
   exact OutR.ok (a := s) (q' := qz) HGz.out (by unfold Px.stmtR; rw [if_neg (by simp [h0])]; rw [if_neg (by simp [h1])]; rw [if_neg (by simp [h2])]; rw [if_neg (by simp [h3])]; rw [if_pos h4]; exact HRz.out) HVz.out HXz.out
theorem stmt_SELECT (B : Nat) (lv : Value) (ts : List Lx.Tok) (sz : Nat) (dp : Bool) (w : World) (q : List Lx.Tok) (h : Cx w B lv ts sz q dp) (h0 : Px.sees Px.kCREATE q = false) (h1 : Px.sees Px.kDROP q = false) (h2 : Px.sees Px.kINSERT q = false) (h3 : Px.sees Px.kDELETE q = false) (h4 : Px.sees Px.kUPDATE q = false) :
   Calls Tryz.prog 19 #[.pointer (some ⟨B, 0, none⟩)] w (OutR w B lv ts sz dp (Px.stmtR sz) q (stV B) deepSt) := by
 have HX0 := hd h
 have HG0 := hd (grownBy_refl w (some B))
 clear h
 go_enter Tryz.func19, Tryz.ntmps19
 go_wp2_with fail
 refine (c_accept_no ⟨#[67, 82, 69, 65, 84, 69]⟩ _ B lv ts sz q dp HX0.out h0 (by simp)).mono ?_
 rintro x w1 ⟨rfl, hb⟩
 have HX1 := hd (HX0.out.below hb)
 have HG1 := hd (grownBy_trans HG0.out (Below.grownBy (row := some B) hb))
 clear hb HX0 HG0
 go_wp2_with fail
 refine (c_accept_no ⟨#[68, 82, 79, 80]⟩ _ B lv ts sz q dp HX1.out h1 (by simp)).mono ?_
 rintro x w2 ⟨rfl, hb⟩
 have HX2 := hd (HX1.out.below hb)
 have HG2 := hd (grownBy_trans HG1.out (Below.grownBy (row := some B) hb))
 clear hb HX1 HG1
 go_wp2_with fail
 refine (c_accept_no ⟨#[73, 78, 83, 69, 82, 84]⟩ _ B lv ts sz q dp HX2.out h2 (by simp)).mono ?_
 rintro x w3 ⟨rfl, hb⟩
 have HX3 := hd (HX2.out.below hb)
 have HG3 := hd (grownBy_trans HG2.out (Below.grownBy (row := some B) hb))
 clear hb HX2 HG2
 go_wp2_with fail
 refine (c_accept_no ⟨#[68, 69, 76, 69, 84, 69]⟩ _ B lv ts sz q dp HX3.out h3 (by simp)).mono ?_
 rintro x w4 ⟨rfl, hb⟩
 have HX4 := hd (HX3.out.below hb)
 have HG4 := hd (grownBy_trans HG3.out (Below.grownBy (row := some B) hb))
 clear hb HX3 HG3
 go_wp2_with fail
 refine (c_accept_no ⟨#[85, 80, 68, 65, 84, 69]⟩ _ B lv ts sz q dp HX4.out h4 (by simp)).mono ?_
 rintro x w5 ⟨rfl, hb⟩
 have HX5 := hd (HX4.out.below hb)
 have HG5 := hd (grownBy_trans HG4.out (Below.grownBy (row := some B) hb))
 clear hb HX4 HG4
 go_wp2_with fail
 refine (c_expect_at ⟨#[83, 69, 76, 69, 67, 84]⟩ w5 _ rfl B lv ts sz q dp HX5.out (by simp)).mono ?_
 rintro x wy ho
 obtain ⟨hg, ⟨p, c, hr, rfl⟩ | ⟨_, qy, v, hr, rfl, hv, hx⟩⟩ := ho.cases
 · exact ⟨rfl, OutR.err (grownBy_trans HG5.out hg) (by unfold Px.stmtR; rw [if_neg (by simp [h0])]; rw [if_neg (by simp [h1])]; rw [if_neg (by simp [h2])]; rw [if_neg (by simp [h3])]; rw [if_neg (by simp [h4])]; exact Px.Rg.err hr)⟩
 · cases hv
   have HRy := hd hr
   have HXy : Hid (Cx wy B lv ts sz qy dp) := hx
   have HGy := hd (grownBy_trans HG5.out hg)
   clear hr hx hg ho
   go_wp2_with fail
   refine (c_selection_any B lv ts sz dp _ qy HXy.out).mono ?_
   rintro x wz ho
   obtain ⟨hg, ⟨p, c, hr, rfl⟩ | ⟨s, qz, v, hr, rfl, hv, hx⟩⟩ := ho.cases
   · exact ⟨rfl, OutR.err (grownBy_trans HGy.out hg) (by unfold Px.stmtR; rw [if_neg (by simp [h0])]; rw [if_neg (by simp [h1])]; rw [if_neg (by simp [h2])]; rw [if_neg (by simp [h3])]; rw [if_neg (by simp [h4])]; exact Px.Rg.go HRy.out hr)⟩
   · have HRz := hd hr
     have HXz := hd hx
     have HGz := hd (grownBy_trans HGy.out hg)
     obtain ⟨cs, rfl⟩ := part_agg hv
     have HVz := hd hv
     clear hr hx hg ho hv
     go_wp2_with fail
     go_ret
     exact OutR.ok (a := s) (q' := qz) HGz.out (by unfold Px.stmtR; rw [if_neg (by simp [h0])]; rw [if_neg (by simp [h1])]; rw [if_neg (by simp [h2])]; rw [if_neg (by simp [h3])]; rw [if_neg (by simp [h4])]; exact Px.Rg.go HRy.out HRz.out) HVz.out HXz.out
theorem c_stmt_any (B : Nat) (lv : Value) (ts : List Lx.Tok) (sz : Nat) (dp : Bool) (w : World) (q : List Lx.Tok) (h : Cx w B lv ts sz q dp) :
   Calls Tryz.prog 19 #[.pointer (some ⟨B, 0, none⟩)] w (OutR w B lv ts sz dp (Px.stmtR sz) q (stV B) deepSt) := by
 cases h0 : Px.sees Px.kCREATE q with
 | true => exact stmt_CREATE B lv ts sz dp w q h h0
 | false =>
  cases h1 : Px.sees Px.kDROP q with
  | true => exact stmt_DROP B lv ts sz dp w q h h0 h1
  | false =>
   cases h2 : Px.sees Px.kINSERT q with
   | true => exact stmt_INSERT B lv ts sz dp w q h h0 h1 h2
   | false =>
    cases h3 : Px.sees Px.kDELETE q with
    | true => exact stmt_DELETE B lv ts sz dp w q h h0 h1 h2 h3
    | false =>
     cases h4 : Px.sees Px.kUPDATE q with
     | true => exact stmt_UPDATE B lv ts sz dp w q h h0 h1 h2 h3 h4
     | false => exact stmt_SELECT B lv ts sz dp w q h h0 h1 h2 h3 h4
end Go.Proofs.YtaiebhhommgnbaaGreatDoor
