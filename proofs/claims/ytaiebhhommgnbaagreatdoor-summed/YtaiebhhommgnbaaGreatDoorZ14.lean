/- Parts of the proof: CpX CpY -/
import Derived.Test.YtaiebhhommgnbaaGreatDoorZ13
namespace Go.Proofs.YtaiebhhommgnbaaGreatDoor
set_option linter.unusedSimpArgs false
set_option linter.unusedVariables false
set_option maxRecDepth 100000
set_option maxHeartbeats 16000000
open Go.RowKit
theorem any_flatten : ∀ l : List (List Px.E), l.flatten.any deepE = l.any deepL
 | [] => rfl
 | r :: l => by
  rw [List.flatten_cons, List.any_append, List.any_cons, any_flatten l]
  rfl
theorem rows_set {w : World} {B M : Nat} {l : List (List Px.E)} {v : Value} (h : rowsV B l v w) (i : Nat) (x : Value) (hM : ∃ cs t, w.heap[M]? = some (.cells cs t (0, 0)) ∧ t ≠ 148 ∧ t ≠ 85) : rowsV B l v (w.setCell ⟨M, i, none⟩ x) := by
 obtain ⟨vs, h1, h2⟩ := h
 obtain ⟨cs, t, hh, ht1, ht2⟩ := hM
 have key : ∀ {e : TypeId} {size : Nat} {v : Value} {n : Nat} {xs : List Value}, e ≠ t → w.ownsRow (B + 1) e size v n xs → (w.setCell ⟨M, i, none⟩ x).ownsRow (B + 1) e size v n xs := by
  intro e size v n xs hne ho
  refine ho.kept (grownBy_set w M i x) ?_
  cases hv : v.ownBlock with
  | none => exact .inl rfl
  | some g =>
   right
   intro e1
   simp only [Option.some.injEq] at e1
   subst e1
   obtain ⟨c1, k1⟩ := own_type ho _ hv
   rw [k1] at hh
   simp only [Option.some.injEq, Obj.cells.injEq] at hh
   exact hne hh.2.1
 exact ⟨vs, key (fun e => ht1 e.symm) h1, h2.map fun r v hr => key (fun e => ht2 e.symm) hr⟩
theorem ls_set {α : Type} {w : World} {B M : Nat} {T : TypeId} {size : Nat} {cl : α → List Value} {l : List α} {v : Value} (h : lsV B T size cl l v w) (i : Nat) (x : Value) (hM : ∃ cs t, w.heap[M]? = some (.cells cs t (0, 0)) ∧ t ≠ T) : lsV B T size cl l v (w.setCell ⟨M, i, none⟩ x) := by
 obtain ⟨cs, t, hh, ht1⟩ := hM
 refine World.ownsRow.kept h (grownBy_set w M i x) ?_
 cases hv : v.ownBlock with
 | none => exact .inl rfl
 | some g =>
  right
  intro e1
  simp only [Option.some.injEq] at e1
  subst e1
  obtain ⟨c1, k1⟩ := own_type h _ hv
  rw [k1] at hh
  simp only [Option.some.injEq, Obj.cells.injEq] at hh
  exact ht1 hh.2.1.symm
theorem c_insert_any (B : Nat) (lv : Value) (ts : List Lx.Tok) (sz : Nat) (dp : Bool) (w : World) (q : List Lx.Tok) (h : Cx w B lv ts sz q dp) :
   Calls Tryz.prog 40 #[.pointer (some ⟨B, 0, none⟩)] w (OutR w B lv ts sz dp (Px.insertR sz) q (partV B 80) deepSt) := by
 have hmf : ∀ (fn : Fn) (first cap : Array Value) (w : World), (Instr.makeFunc fn first cap).run Tryz.prog w = .ok (.func fn first cap) w := fun _ _ _ _ => rfl
 have HX := hd h
 have hlt := h.lt
 have HB0 : Hid (Below w.heap.size w (w.alloc (.cells #[.string ⟨#[]⟩, .slice none 0 0] 80))) := (Below.refl _ _).alloc (Nat.le_refl _) _
 have HKR := hd (Blk.new w #[.string ⟨#[]⟩, .slice none 0 0] 80)
 clear h
 go_enter Tryz.func40, Tryz.ntmps40
 go_wp2_with fail
 refine (c_expect_at ⟨#[73, 78, 84, 79]⟩ (w.alloc (.cells #[.string ⟨#[]⟩, .slice none 0 0] 80)) _ (by simp) B lv ts sz q dp (HX.out.below HB0.out) (by simp)).mono ?_
 rintro x w1 ho
 obtain ⟨hg, ⟨p, c, hr, rfl⟩ | ⟨_, q1, v, hr, rfl, hv, hx⟩⟩ := ho.cases
 · exact ⟨rfl, OutR.err (grownBy_trans (Below.grownBy HB0.out) hg) (Px.Rg.err hr)⟩
 · cases hv
   have HR1 := hd hr
   have HX1 : Hid (Cx w1 B lv ts sz q1 dp) := hx
   have HG1 := hd (grownBy_trans (Below.grownBy HB0.out) hg)
   have HK1 := hd (HKR.out.grown hg (by omega))
   clear hr hx hg ho HB0 HKR
   go_wp2_with fail
   refine (c_name_any w1 B lv ts sz q1 dp HX1.out).mono ?_
   rintro x w2 ho
   obtain ⟨hg, ⟨p, c, hr, rfl⟩ | ⟨n, q2, v, hr, rfl, hv, hx⟩⟩ := ho.cases
   · exact ⟨rfl, OutR.err (grownBy_trans HG1.out hg) (Px.Rg.go HR1.out (Px.Rg.err hr))⟩
   · cases hv
     have HR2 := hd hr
     have hs2 := (grownBy_trans HG1.out hg).size
     have hszw : w.heap.size < w2.heap.size := by have := HK1.out.lt; have := hg.size; omega
     have HX2 := hd (Cx.below (w' := w2.alloc (.cells #[.string ⟨n.toArray⟩, .slice none 0 0] 80)) (show Cx w2 B lv ts sz q2 dp from hx) ((Below.refl _ _).alloc (Nat.le_refl _) _))
     have HG2 := hd (grownBy_alloc (grownBy_trans HG1.out hg) (.cells #[.string ⟨n.toArray⟩, .slice none 0 0] 80))
     have HK2 := hd ((HK1.out.grown hg (by omega)).alloc (.cells #[.string ⟨n.toArray⟩, .slice none 0 0] 80))
     have HL2 := hd (Blk.new w2 #[.string ⟨n.toArray⟩, .slice none 0 0] 80)
     have d1 : ¬ w2.heap.size = w.heap.size := by omega
     have d2 : ¬ w.heap.size = w2.heap.size := by omega
     clear hr hx hg ho HG1 HK1 HX1
     go_wp2_with fail
     refine (c_expect_at ⟨#[86, 65, 76, 85, 69, 83]⟩ (w2.alloc (.cells #[.string ⟨n.toArray⟩, .slice none 0 0] 80)) _ (by simp) B lv ts sz q2 dp HX2.out (by simp)).mono ?_
     rintro x w3 ho
     obtain ⟨hg, ⟨p, c, hr, rfl⟩ | ⟨_, q3, v, hr, rfl, hv, hx⟩⟩ := ho.cases
     · exact ⟨rfl, OutR.err (grownBy_trans HG2.out hg) (Px.Rg.go HR1.out (Px.Rg.go HR2.out (Px.Rg.err hr)))⟩
     · cases hv
       have HR3 := hd hr
       have HX3 : Hid (Cx w3 B lv ts sz q3 dp) := hx
       have HG3 := hd (grownBy_trans HG2.out hg)
       have HK3 := hd (HK2.out.grown hg (by omega))
       have HL3 := hd (HL2.out.grown hg (by omega))
       clear hr hx hg ho HG2 HK2 HL2 HX2
       go_wp2_with fail
       refine (c_listRow_any B lv ts sz dp w3 q3 HX3.out).mono ?_
       rintro x w4 ho
       obtain ⟨hg, ⟨p, c, hr, rfl⟩ | ⟨l, q4, v, hr, rfl, hv, hx⟩⟩ := ho.cases
       · exact ⟨rfl, OutR.err (grownBy_trans HG3.out hg) (Px.Rg.go HR1.out (Px.Rg.go HR2.out (Px.Rg.go HR3.out (Px.Rg.err hr))))⟩
       · have HR4 := hd hr
         have HX4 : Hid (Cx w4 B lv ts sz q4 (deepSt (.insert n l) || dp)) := by
          show Cx _ _ _ _ _ _ _
          have : deepSt (.insert n l) = l.any deepL := any_flatten l
          rw [this]; exact hx
         have HG4 := hd (grownBy_trans HG3.out hg)
         have HK4 := hd (HK3.out.grown hg (by omega))
         have HL4 := hd (HL3.out.grown hg (by omega))
         have HV := hd hv
         obtain ⟨ao, m, cp, rfl⟩ : ∃ ao m cp, v = .slice ao m cp := by obtain ⟨vs, h1, _⟩ := hv; exact own_slice h1
         have m0 : w4.cell? ⟨w.heap.size, 0, none⟩ = some (.string ⟨#[]⟩) := HK4.out.cell 0
         have m1 : w4.cell? ⟨w.heap.size, 1, none⟩ = some (.slice none 0 0) := HK4.out.cell 1
         have g0 := HK4.out.free 0
         have g1 := HK4.out.free 1
         have n0 : w4.cell? ⟨w2.heap.size, 0, none⟩ = some (.string ⟨n.toArray⟩) := HL4.out.cell 0
         have n1 : w4.cell? ⟨w2.heap.size, 1, none⟩ = some (.slice none 0 0) := HL4.out.cell 1
         have f1 := HL4.out.free 1
         clear hr hx hg ho HG3 HK3 HL3 hv
         go_wp2_with fail
         have KF := ((HK4.out.far ⟨w2.heap.size, 1, none⟩ (.slice ao m cp) d1).set 0 (.string ⟨n.toArray⟩)).set 1 (.slice ao m cp)
         have e0 := KF.cell 0
         have e1 := KF.cell 1
         simp at e0 e1
         refine bodyPost_ret (v := .agg #[.string ⟨n.toArray⟩, .slice ao m cp]) (by simp [results, Tryz.results40, go_sem, e0, e1]) rfl ?_
         refine OutR.ok (a := Px.St.insert n l) (q' := q4) (grown_away (grown_away (grown_away HG4.out (by omega) 1 _) (Nat.le_refl _) 0 _) (Nat.le_refl _) 1 _) (Px.Rg.go HR1.out (Px.Rg.go HR2.out (Px.Rg.go HR3.out (Px.Rg.go HR4.out rfl)))) ⟨_, rfl, ?_⟩ (((HX4.out.far HX.out (by omega) 1 _).far HX.out (Nat.le_refl _) 0 _).far HX.out (Nat.le_refl _) 1 _)
         have s1 := rows_set HV.out 1 (.slice ao m cp) ⟨_, _, HL4.out, by decide, by decide⟩
         have s2 := rows_set s1 0 (.string ⟨n.toArray⟩) ⟨_, _, HK4.out.far ⟨w2.heap.size, 1, none⟩ (.slice ao m cp) d1, by decide, by decide⟩
         exact rows_set s2 1 (.slice ao m cp) ⟨_, _, (HK4.out.far ⟨w2.heap.size, 1, none⟩ (.slice ao m cp) d1).set 0 _, by decide, by decide⟩
theorem any_sets : ∀ (l : List (Lx.Bs × Px.E)), (l.map (·.2)).any deepE = l.any deepS
 | [] => rfl
 | r :: l => by
  rw [List.map_cons, List.any_cons, List.any_cons, any_sets l]
  rfl
theorem any_opt (o : Option Px.E) : o.toList.any deepE = deepO o := by cases o <;> simp [deepO]
theorem c_update_any (B : Nat) (lv : Value) (ts : List Lx.Tok) (sz : Nat) (dp : Bool) (w : World) (q : List Lx.Tok) (h : Cx w B lv ts sz q dp) :
   Calls Tryz.prog 42 #[.pointer (some ⟨B, 0, none⟩)] w (OutR w B lv ts sz dp (Px.updateR sz) q (partV B 91) deepSt) := by
 have hmf : ∀ (fn : Fn) (first cap : Array Value) (w : World), (Instr.makeFunc fn first cap).run Tryz.prog w = .ok (.func fn first cap) w := fun _ _ _ _ => rfl
 have HX := hd h
 have hlt := h.lt
 have HB0 : Hid (Below w.heap.size w (w.alloc (.cells #[.string ⟨#[]⟩, .slice none 0 0, .nilIface] 91))) := (Below.refl _ _).alloc (Nat.le_refl _) _
 have HKR := hd (Blk.new w #[.string ⟨#[]⟩, .slice none 0 0, .nilIface] 91)
 clear h
 go_enter Tryz.func42, Tryz.ntmps42
 go_wp2_with fail
 refine (c_name_any _ B lv ts sz q dp (HX.out.below HB0.out)).mono ?_
 rintro x w2 ho
 obtain ⟨hg, ⟨p, c, hr, rfl⟩ | ⟨n, q2, v, hr, rfl, hv, hx⟩⟩ := ho.cases
 · exact ⟨rfl, OutR.err (grownBy_trans (Below.grownBy HB0.out) hg) (Px.Rg.err hr)⟩
 · cases hv
   have HR2 := hd hr
   have hszw : w.heap.size < w2.heap.size := by have := hg.size; simp only [World.size_alloc] at this; omega
   have HX2 := hd (Cx.below (w' := w2.alloc (.cells #[.string ⟨n.toArray⟩, .slice none 0 0, .nilIface] 91)) (show Cx w2 B lv ts sz q2 dp from hx) ((Below.refl _ _).alloc (Nat.le_refl _) _))
   have HG2 := hd (grownBy_alloc (grownBy_trans (Below.grownBy HB0.out) hg) (.cells #[.string ⟨n.toArray⟩, .slice none 0 0, .nilIface] 91))
   have HK2 := hd ((HKR.out.grown hg (by omega)).alloc (.cells #[.string ⟨n.toArray⟩, .slice none 0 0, .nilIface] 91))
   have HL2 := hd (Blk.new w2 #[.string ⟨n.toArray⟩, .slice none 0 0, .nilIface] 91)
   have d1 : ¬ w2.heap.size = w.heap.size := by omega
   have d2 : ¬ w.heap.size = w2.heap.size := by omega
   clear hr hx hg ho HB0 HKR
   go_wp2_with fail
   refine (c_expect_at ⟨#[83, 69, 84]⟩ (w2.alloc (.cells #[.string ⟨n.toArray⟩, .slice none 0 0, .nilIface] 91)) _ (by simp) B lv ts sz q2 dp HX2.out (by simp)).mono ?_
   rintro x w3 ho
   obtain ⟨hg, ⟨p, c, hr, rfl⟩ | ⟨_, q3, v, hr, rfl, hv, hx⟩⟩ := ho.cases
   · exact ⟨rfl, OutR.err (grownBy_trans HG2.out hg) (Px.Rg.go HR2.out (Px.Rg.err hr))⟩
   · cases hv
     have HR3 := hd hr
     have HX3 : Hid (Cx w3 B lv ts sz q3 dp) := hx
     have HG3 := hd (grownBy_trans HG2.out hg)
     have HK3 := hd (HK2.out.grown hg (by omega))
     have HL3 := hd (HL2.out.grown hg (by omega))
     clear hr hx hg ho HG2 HK2 HL2 HX2
     go_wp2_with fail
     refine (c_listSet_any B lv ts sz dp w3 q3 HX3.out).mono ?_
     rintro x w4 ho
     obtain ⟨hg, ⟨p, c, hr, rfl⟩ | ⟨l, q4, v, hr, rfl, hv, hx⟩⟩ := ho.cases
     · exact ⟨rfl, OutR.err (grownBy_trans HG3.out hg) (Px.Rg.go HR2.out (Px.Rg.go HR3.out (Px.Rg.err hr)))⟩
     · have HR4 := hd hr
       have HG4 := hd (grownBy_trans HG3.out hg)
       have HK4 := hd (HK3.out.grown hg (by omega))
       have HL4 := hd (HL3.out.grown hg (by omega))
       obtain ⟨ao, m, cp, rfl⟩ := own_slice hv
       have n1 : w4.cell? ⟨w2.heap.size, 1, none⟩ = some (.slice none 0 0) := HL4.out.cell 1
       have f1 := HL4.out.free 1
       have HX5 := hd (hx.far HX.out (M := w2.heap.size) (by omega) 1 (.slice ao m cp))
       have HG5 := hd (grown_away HG4.out (M := w2.heap.size) (by omega) 1 (.slice ao m cp))
       have HK5 := hd (HK4.out.far ⟨w2.heap.size, 1, none⟩ (.slice ao m cp) d1)
       have HL5 : Hid (Blk (w4.setCell ⟨w2.heap.size, 1, none⟩ (.slice ao m cp)) w2.heap.size #[.string ⟨n.toArray⟩, .slice ao m cp, .nilIface] 91) := HL4.out.set 1 (.slice ao m cp)
       have HV5 := hd (ls_set hv 1 (.slice ao m cp) ⟨_, _, HL4.out, by decide⟩)
       clear hr hx hg ho HG3 HK3 HL3 hv HG4 HK4 HL4
       go_wp2_with fail
       refine (c_where_any B lv ts sz _ _ q4 HX5.out).mono ?_
       rintro x w6 ho
       obtain ⟨hg, ⟨p, c, hr, rfl⟩ | ⟨o, q6, v, hr, rfl, hv, hx⟩⟩ := ho.cases
       · exact ⟨rfl, OutR.err (grownBy_trans HG5.out hg) (Px.Rg.go HR2.out (Px.Rg.go HR3.out (Px.Rg.go HR4.out (Px.Rg.err hr))))⟩
       · have HR6 := hd hr
         have HX6 : Hid (Cx w6 B lv ts sz q6 (deepSt (.update n l o) || dp)) := by
          show Cx _ _ _ _ _ _ _
          have : (deepSt (.update n l o) || dp) = (deepO o || (l.any deepS || dp)) := by
           simp only [deepSt, Px.St.exprs, List.any_append, any_sets, any_opt]
           cases l.any deepS <;> cases deepO o <;> rfl
          rw [this]; exact hx
         have HG6 := hd (grownBy_trans HG5.out hg)
         have HK6 := hd (HK5.out.grown hg (by omega))
         have HL6 := hd (HL5.out.grown hg (by omega))
         have HV6 := hd (own_far HV5.out hg)
         have HE := hd hv
         have hv1 : v = .nilIface ∨ ∃ t x, v = .iface t x := by
          have := ev?_one o
          rwa [← show v = ev? o from hv] at this
         have m0 : w6.cell? ⟨w.heap.size, 0, none⟩ = some (.string ⟨#[]⟩) := HK6.out.cell 0
         have m1 : w6.cell? ⟨w.heap.size, 1, none⟩ = some (.slice none 0 0) := HK6.out.cell 1
         have m2 : w6.cell? ⟨w.heap.size, 2, none⟩ = some .nilIface := HK6.out.cell 2
         have g0 := HK6.out.free 0
         have g1 := HK6.out.free 1
         have g2 := HK6.out.free 2
         have p0 : w6.cell? ⟨w2.heap.size, 0, none⟩ = some (.string ⟨n.toArray⟩) := HL6.out.cell 0
         have p1 : w6.cell? ⟨w2.heap.size, 1, none⟩ = some (.slice ao m cp) := HL6.out.cell 1
         have p2 : w6.cell? ⟨w2.heap.size, 2, none⟩ = some .nilIface := HL6.out.cell 2
         have r2 := HL6.out.free 2
         clear hr hx hg ho HG5 HK5 HL5 HV5 hv HX5 n1 f1
         rcases hv1 with rfl | ⟨et, ex, rfl⟩
         all_goals go_wp2_with fail
         · have KF := (((HK6.out.far ⟨w2.heap.size, 2, none⟩ .nilIface d1).set 0 (.string ⟨n.toArray⟩)).set 1 (.slice ao m cp)).set 2 .nilIface
           have e0 := KF.cell 0
           have e1 := KF.cell 1
           have e2 := KF.cell 2
           simp at e0 e1 e2
           refine bodyPost_ret (v := .agg #[.string ⟨n.toArray⟩, .slice ao m cp, .nilIface]) (by simp [results, Tryz.results42, go_sem, e0, e1, e2]) rfl ?_
           refine OutR.ok (a := Px.St.update n l o) (q' := q6) (grown_away (grown_away (grown_away (grown_away HG6.out (by omega) 2 _) (Nat.le_refl _) 0 _) (Nat.le_refl _) 1 _) (Nat.le_refl _) 2 _) (Px.Rg.go HR2.out (Px.Rg.go HR3.out (Px.Rg.go HR4.out (Px.Rg.go HR6.out rfl)))) ⟨.slice ao m cp, by rw [← show (Value.nilIface) = ev? o from HE.out], ?_⟩ ((((HX6.out.far HX.out (by omega) 2 _).far HX.out (Nat.le_refl _) 0 _).far HX.out (Nat.le_refl _) 1 _).far HX.out (Nat.le_refl _) 2 _)
           have s1 := ls_set HV6.out 2 .nilIface ⟨_, _, HL6.out, by decide⟩
           have t1 := HK6.out.far ⟨w2.heap.size, 2, none⟩ .nilIface d1
           have s2 := ls_set s1 0 (.string ⟨n.toArray⟩) ⟨_, _, t1, by decide⟩
           have s3 := ls_set s2 1 (.slice ao m cp) ⟨_, _, t1.set 0 _, by decide⟩
           exact ls_set s3 2 .nilIface ⟨_, _, (t1.set 0 _).set 1 _, by decide⟩
         · have KF := (((HK6.out.far ⟨w2.heap.size, 2, none⟩ (.iface et ex) d1).set 0 (.string ⟨n.toArray⟩)).set 1 (.slice ao m cp)).set 2 (.iface et ex)
           have e0 := KF.cell 0
           have e1 := KF.cell 1
           have e2 := KF.cell 2
           simp at e0 e1 e2
           refine bodyPost_ret (v := .agg #[.string ⟨n.toArray⟩, .slice ao m cp, .iface et ex]) (by simp [results, Tryz.results42, go_sem, e0, e1, e2]) rfl ?_
           refine OutR.ok (a := Px.St.update n l o) (q' := q6) (grown_away (grown_away (grown_away (grown_away HG6.out (by omega) 2 _) (Nat.le_refl _) 0 _) (Nat.le_refl _) 1 _) (Nat.le_refl _) 2 _) (Px.Rg.go HR2.out (Px.Rg.go HR3.out (Px.Rg.go HR4.out (Px.Rg.go HR6.out rfl)))) ⟨.slice ao m cp, by rw [← show (Value.iface et ex) = ev? o from HE.out], ?_⟩ ((((HX6.out.far HX.out (by omega) 2 _).far HX.out (Nat.le_refl _) 0 _).far HX.out (Nat.le_refl _) 1 _).far HX.out (Nat.le_refl _) 2 _)
           have s1 := ls_set HV6.out 2 (.iface et ex) ⟨_, _, HL6.out, by decide⟩
           have t1 := HK6.out.far ⟨w2.heap.size, 2, none⟩ (.iface et ex) d1
           have s2 := ls_set s1 0 (.string ⟨n.toArray⟩) ⟨_, _, t1, by decide⟩
           have s3 := ls_set s2 1 (.slice ao m cp) ⟨_, _, t1.set 0 _, by decide⟩
           exact ls_set s3 2 (.iface et ex) ⟨_, _, (t1.set 0 _).set 1 _, by decide⟩
theorem Grow2.grown {w w1 w2 : World} {B C : Nat} (h : w.grownBy w1 (some B)) (k : Grow2 w1 w2 B C) (hC : w.heap.size ≤ C) : w.grownBy w2 (some B) :=
 ⟨k.os.trans h.os, k.tape.trans h.tape, k.output.trans h.output, Nat.le_trans h.size k.size, fun i hi hne => (k.block i (Nat.lt_of_lt_of_le hi h.size) (by simpa using hne) (by omega)).trans (h.block i hi hne)⟩
theorem c_create_any (B : Nat) (lv : Value) (ts : List Lx.Tok) (sz : Nat) (dp : Bool) (w : World) (q : List Lx.Tok) (h : Cx w B lv ts sz q dp) :
   Calls Tryz.prog 37 #[.pointer (some ⟨B, 0, none⟩)] w (OutR w B lv ts sz dp (Px.createR sz) q (partV B 73) deepSt) := by
 have hmf : ∀ (fn : Fn) (first cap : Array Value) (w : World), (Instr.makeFunc fn first cap).run Tryz.prog w = .ok (.func fn first cap) w := fun _ _ _ _ => rfl
 have HX := hd h
 have hlt := h.lt
 have HB0 : Hid (Below w.heap.size w ((w.alloc (.cells #[.pointer (some ⟨B, 0, none⟩)] 111)).alloc (.cells #[.string ⟨#[]⟩, .slice none 0 0] 73))) := ((Below.refl _ _).alloc (Nat.le_refl _) _).alloc (by simp) _
 have HKD := hd ((Blk.new w #[.pointer (some ⟨B, 0, none⟩)] 111).alloc (.cells #[.string ⟨#[]⟩, .slice none 0 0] 73))
 have HKR : Hid (Blk ((w.alloc (.cells #[.pointer (some ⟨B, 0, none⟩)] 111)).alloc (.cells #[.string ⟨#[]⟩, .slice none 0 0] 73)) (w.heap.size + 1) #[.string ⟨#[]⟩, .slice none 0 0] 73) := by
  have := Blk.new (w.alloc (.cells #[.pointer (some ⟨B, 0, none⟩)] 111)) #[.string ⟨#[]⟩, .slice none 0 0] 73
  rwa [World.size_alloc] at this
 clear h
 go_enter Tryz.func37, Tryz.ntmps37
 go_wp2_with fail
 refine (c_expect_at ⟨#[84, 65, 66, 76, 69]⟩ ((w.alloc (.cells #[.pointer (some ⟨B, 0, none⟩)] 111)).alloc (.cells #[.string ⟨#[]⟩, .slice none 0 0] 73)) _ (by simp) B lv ts sz q dp (HX.out.below HB0.out) (by simp)).mono ?_
 rintro x w1 ho
 obtain ⟨hg, ⟨p, c, hr, rfl⟩ | ⟨_, q1, v, hr, rfl, hv, hx⟩⟩ := ho.cases
 · exact ⟨rfl, OutR.err (grownBy_trans (Below.grownBy HB0.out) hg) (Px.Rg.err hr)⟩
 · cases hv
   have HR1 := hd hr
   have HX1 : Hid (Cx w1 B lv ts sz q1 dp) := hx
   have HG1 := hd (grownBy_trans (Below.grownBy HB0.out) hg)
   have HK1 := hd (HKR.out.grown hg (by omega))
   have HD1 := hd (HKD.out.grown hg (by omega))
   have b1 : w1.cell? ⟨w.heap.size, 0, none⟩ = some (.pointer (some ⟨B, 0, none⟩)) := HD1.out.cell 0
   clear hr hx hg ho HB0 HKR HKD
   go_wp2_with fail
   refine (c_name_any w1 B lv ts sz q1 dp HX1.out).mono ?_
   rintro x w2 ho
   obtain ⟨hg, ⟨p, c, hr, rfl⟩ | ⟨n, q2, v, hr, rfl, hv, hx⟩⟩ := ho.cases
   · exact ⟨rfl, OutR.err (grownBy_trans HG1.out hg) (Px.Rg.go HR1.out (Px.Rg.err hr))⟩
   · cases hv
     have HR2 := hd hr
     have hszw : w.heap.size + 1 < w2.heap.size := by have := HK1.out.lt; have := hg.size; omega
     have HX2 := hd (Cx.below (w' := w2.alloc (.cells #[.string ⟨n.toArray⟩, .slice none 0 0] 73)) (show Cx w2 B lv ts sz q2 dp from hx) ((Below.refl _ _).alloc (Nat.le_refl _) _))
     have HG2 := hd (grownBy_alloc (grownBy_trans HG1.out hg) (.cells #[.string ⟨n.toArray⟩, .slice none 0 0] 73))
     have HK2 := hd ((HK1.out.grown hg (by omega)).alloc (.cells #[.string ⟨n.toArray⟩, .slice none 0 0] 73))
     have HD20 := hd (HD1.out.grown hg (by omega))
     have HD2 := hd (HD20.out.alloc (.cells #[.string ⟨n.toArray⟩, .slice none 0 0] 73))
     have HL2 := hd (Blk.new w2 #[.string ⟨n.toArray⟩, .slice none 0 0] 73)
     have b2 : w2.cell? ⟨w.heap.size, 0, none⟩ = some (.pointer (some ⟨B, 0, none⟩)) := HD20.out.cell 0
     have d1 : ¬ w2.heap.size = w.heap.size + 1 := by omega
     have d2 : ¬ w.heap.size + 1 = w2.heap.size := by omega
     have d3 : ¬ w2.heap.size = w.heap.size := by omega
     have d4 : ¬ w.heap.size = w2.heap.size := by omega
     have lt4 : w.heap.size < w2.heap.size := by omega
     clear hr hx hg ho HG1 HK1 HX1 HD1 b1 HD20
     go_wp2_with fail
     refine (c_expect_at ⟨#[40]⟩ (w2.alloc (.cells #[.string ⟨n.toArray⟩, .slice none 0 0] 73)) _ (by simp) B lv ts sz q2 dp HX2.out (by simp)).mono ?_
     rintro x w3 ho
     obtain ⟨hg, ⟨p, c, hr, rfl⟩ | ⟨_, q3, v, hr, rfl, hv, hx⟩⟩ := ho.cases
     · exact ⟨rfl, OutR.err (grownBy_trans HG2.out hg) (Px.Rg.go HR1.out (Px.Rg.go HR2.out (Px.Rg.err hr)))⟩
     · cases hv
       have HR3 := hd hr
       have hszw3 : w2.heap.size < w3.heap.size := by have := hg.size; simp only [World.size_alloc] at this; omega
       have HX3 := hd (Cx.below (w' := w3.alloc (.cells #[.int .i64 0] 3)) (show Cx w3 B lv ts sz q3 dp from hx) ((Below.refl _ _).alloc (Nat.le_refl _) _))
       have HG3 := hd (grownBy_alloc (grownBy_trans HG2.out hg) (.cells #[.int .i64 0] 3))
       have HK3 := hd ((HK2.out.grown hg (by omega)).alloc (.cells #[.int .i64 0] 3))
       have HL3 := hd ((HL2.out.grown hg (by omega)).alloc (.cells #[.int .i64 0] 3))
       have HD30 := hd (HD2.out.grown hg (by omega))
       have HD3 := hd (HD30.out.alloc (.cells #[.int .i64 0] 3))
       have HC3 := hd (Blk.new w3 #[.int .i64 0] 3)
       have b3 : w3.cell? ⟨w.heap.size, 0, none⟩ = some (.pointer (some ⟨B, 0, none⟩)) := HD30.out.cell 0
       have d5 : ¬ w.heap.size = w3.heap.size := by omega
       have d6 : ¬ w3.heap.size = w.heap.size := by omega
       have lt6 : w.heap.size < w3.heap.size := by omega
       clear hr hx hg ho HG2 HK2 HL2 HX2 HD2 b2 HD30
       go_wp2_with fail
       refine (c_listColumn_any B w3.heap.size w.heap.size lv ts sz dp dp w (w3.alloc (.cells #[.int .i64 0] 3)) q q3 HX.out (by omega) (Nat.le_refl _) (by omega) HX3.out HC3.out HD3.out).mono ?_
       rintro x w4 ⟨hg, ⟨p, c, hr, rfl⟩ | ⟨l, q4, v, hr, rfl, hv, hx⟩⟩
       · exact ⟨rfl, OutR.err (Grow2.grown HG3.out hg (by omega)) (Px.Rg.go HR1.out (Px.Rg.go HR2.out (Px.Rg.go HR3.out (Px.Rg.err hr))))⟩
       · have HR4 := hd hr
         have HG4 := hd (Grow2.grown HG3.out hg (by omega))
         have HK4 := hd (hg.blk HK3.out (by omega) (by omega))
         have HL4 := hd (hg.blk HL3.out (by omega) (by omega))
         have HD4 := hd (hg.blk HD3.out (by omega) (by omega))
         have HV4 : Hid (lsV B 192 2 colC l v w4) := ownBase hv (by simp; omega)
         have hszw4 : w3.heap.size < w4.heap.size := by have := hg.size; simp only [World.size_alloc] at this; omega
         obtain ⟨ao, m, cp, rfl⟩ := own_slice hv
         have n1 : w4.cell? ⟨w2.heap.size, 1, none⟩ = some (.slice none 0 0) := HL4.out.cell 1
         have f1 := HL4.out.free 1
         have b4 : w4.cell? ⟨w.heap.size, 0, none⟩ = some (.pointer (some ⟨B, 0, none⟩)) := HD4.out.cell 0
         have HX5 := hd (hx.far HX.out (M := w2.heap.size) (by omega) 1 (.slice ao m cp))
         have HG5 := hd (grown_away HG4.out (M := w2.heap.size) (by omega) 1 (.slice ao m cp))
         have HK5 := hd (HK4.out.far ⟨w2.heap.size, 1, none⟩ (.slice ao m cp) d1)
         have HL5 : Hid (Blk (w4.setCell ⟨w2.heap.size, 1, none⟩ (.slice ao m cp)) w2.heap.size #[.string ⟨n.toArray⟩, .slice ao m cp] 73) := HL4.out.set 1 (.slice ao m cp)
         have HV5 := hd (ls_set HV4.out 1 (.slice ao m cp) ⟨_, _, HL4.out, by decide⟩)
         clear hr hx hg HG3 HK3 HL3 hv HG4 HK4 HL4 HV4 HD3 HD4 HC3 HX3 b3
         go_wp2_with fail
         refine (c_expect_at ⟨#[41]⟩ (w4.setCell ⟨w2.heap.size, 1, none⟩ (.slice ao m cp)) _ (by simp [World.setCell]) B lv ts sz q4 dp HX5.out (by simp)).mono ?_
         rintro x w6 ho
         obtain ⟨hg, ⟨p, c, hr, rfl⟩ | ⟨_, q6, v, hr, rfl, hv, hx⟩⟩ := ho.cases
         · exact ⟨rfl, OutR.err (grownBy_trans HG5.out hg) (Px.Rg.go HR1.out (Px.Rg.go HR2.out (Px.Rg.go HR3.out (Px.Rg.go HR4.out (Px.Rg.err hr)))))⟩
         · cases hv
           have HR6 := hd hr
           have HX6 : Hid (Cx w6 B lv ts sz q6 dp) := hx
           have HG6 := hd (grownBy_trans HG5.out hg)
           have HK6 := hd (HK5.out.grown hg (by omega))
           have HL6 := hd (HL5.out.grown hg (by omega))
           have HV6 := hd (own_far HV5.out hg)
           have m0 : w6.cell? ⟨w.heap.size + 1, 0, none⟩ = some (.string ⟨#[]⟩) := HK6.out.cell 0
           have m1 : w6.cell? ⟨w.heap.size + 1, 1, none⟩ = some (.slice none 0 0) := HK6.out.cell 1
           have g0 := HK6.out.free 0
           have g1 := HK6.out.free 1
           have p0 : w6.cell? ⟨w2.heap.size, 0, none⟩ = some (.string ⟨n.toArray⟩) := HL6.out.cell 0
           have p1 : w6.cell? ⟨w2.heap.size, 1, none⟩ = some (.slice ao m cp) := HL6.out.cell 1
           clear hr hx hg ho HG5 HK5 HL5 HV5 HX5 n1 f1 b4
           go_wp2_with fail
           have KF := (HK6.out.set 0 (.string ⟨n.toArray⟩)).set 1 (.slice ao m cp)
           have e0 := KF.cell 0
           have e1 := KF.cell 1
           simp at e0 e1
           refine bodyPost_ret (v := .agg #[.string ⟨n.toArray⟩, .slice ao m cp]) (by simp [results, Tryz.results37, go_sem, e0, e1]) rfl ?_
           refine OutR.ok (a := Px.St.create n l) (q' := q6) (grown_away (grown_away HG6.out (by omega) 0 _) (by omega) 1 _) (Px.Rg.go HR1.out (Px.Rg.go HR2.out (Px.Rg.go HR3.out (Px.Rg.go HR4.out (Px.Rg.go HR6.out rfl))))) ⟨.slice ao m cp, rfl, ?_⟩ ((HX6.out.far HX.out (by omega) 0 _).far HX.out (by omega) 1 _)
           have s1 := ls_set HV6.out 0 (.string ⟨n.toArray⟩) ⟨_, _, HK6.out, by decide⟩
           exact ls_set s1 1 (.slice ao m cp) ⟨_, _, HK6.out.set 0 _, by decide⟩
end Go.Proofs.YtaiebhhommgnbaaGreatDoor
