/- Parts of the proof: Wu Ya Yb Yc Yd Ye Yf Yg Yh Yi Yj -/
import Derived.Test.YtkcakbgcfnhgaaaGreatDoorZ11
import Derived.Test.YtkcakbgcfnhgaaaGreatDoorZ4
import Derived.Test.YtkcakbgcfnhgaaaGreatDoorZ7
import Derived.Test.YtkcakbgcfnhgaaaGreatDoorZ2
import Derived.Test.YtkcakbgcfnhgaaaGreatDoorZShelfC
import Derived.Lib.OthersKept
import Derived.Lib.BufferKept
import Derived.Lib.AppendIntMem
import Derived.Test.YtkcakbgcfnhgaaaGreatDoorZ5
import Derived.Laws.RangeAny
namespace Go.Proofs.YtkcakbgcfnhgaaaGreatDoor
set_option linter.unusedSimpArgs false
set_option linter.unusedVariables false
set_option maxRecDepth 100000
set_option maxHeartbeats 16000000
open Go.RowKit
theorem rSt_is (xk : Int) (xt : Lx.Bs) (xn xc : Int) (r : List Px.Nd) : Px.rSt (⟨xk, xt, xn, xc⟩ :: r) = if xn = 0 ∧ Px.isName xt = true then
   if xk = 1 then createR xt xc r else if xk = 3 then (if xc = 0 then some (.drop xt, r) else none) else if xk = 4 then insertR xt xc r else if xk = 6 then (if xc < 0 then none else (Px.rWhere xc.toNat r).bind fun y => if y.2.1 = 0 then some (.delete xt y.1, y.2.2) else none) else if xk = 7 then updateR xt xc r else if xk = 9 then selectR xt xc r else none else none := rfl
theorem delete_is (t : Lx.Bs) (xc : Int) (r : List Px.Nd) : (if xc < 0 then none else (Px.rWhere xc.toNat r).bind fun y => if y.2.1 = 0 then some (Px.St.delete t y.1, y.2.2) else none) = deleteR t xc r := by
 unfold deleteR
 by_cases h : xc < 0
 · rw [if_pos h, rWh_neg xc r h]
   simp only [Option.bind_some]
   rw [if_neg (by omega)]
 rw [if_neg h]
 obtain ⟨m, rfl⟩ : ∃ m : Nat, xc = (m : Int) := ⟨xc.toNat, by omega⟩
 rw [Int.toNat_natCast, rWh_nat m r]
 cases hr : rWh (m : Int) r with
 | none => rfl
 | some z =>
  obtain ⟨o, k', l'⟩ := z
  have := rWh_pos m r o k' l' hr
  simp only [Option.map_some, Option.bind_some]
  by_cases hc : k' = 0
  · subst hc; simp
  rw [if_neg (by omega), if_neg hc]
theorem createR_form {B : Nat} {t : Lx.Bs} {xc : Int} {r l6 : List Px.Nd} {a : Px.St} {v : Value} {w : World} (p1 : createR t xc r = some (a, l6)) (hv : partV B 87 a v w) : ∃ u, v = .agg #[.string ⟨t.toArray⟩, u] := by
 unfold createR at p1
 split at p1
 · simp only [Option.map_eq_some_iff] at p1
   obtain ⟨z, _, p2⟩ := p1
   cases p2
   obtain ⟨u, hu, _⟩ := hv
   cases hu
   exact ⟨u, rfl⟩
 cases p1
theorem insertR_form {B : Nat} {t : Lx.Bs} {xc : Int} {r l6 : List Px.Nd} {a : Px.St} {v : Value} {w : World} (p1 : insertR t xc r = some (a, l6)) (hv : partV B 94 a v w) : ∃ u, v = .agg #[.string ⟨t.toArray⟩, u] := by
 unfold insertR at p1
 split at p1
 · simp only [Option.map_eq_some_iff] at p1
   obtain ⟨z, _, p2⟩ := p1
   cases p2
   obtain ⟨u, hu, _⟩ := hv
   cases hu
   exact ⟨u, rfl⟩
 cases p1
theorem deleteR_form {B : Nat} {t : Lx.Bs} {xc : Int} {r l6 : List Px.Nd} {a : Px.St} {v : Value} {w : World} (p1 : deleteR t xc r = some (a, l6)) (hv : partV B 99 a v w) : ∃ u, v = .agg #[.string ⟨t.toArray⟩, u] := by
 unfold deleteR at p1
 simp only [Option.bind_eq_some_iff] at p1
 obtain ⟨z, _, p2⟩ := p1
 split at p2
 · cases p2
   have hv : Value.iface _ v = _ := hv
   cases hv
   exact ⟨_, rfl⟩
 cases p2
theorem updateR_form {B : Nat} {t : Lx.Bs} {xc : Int} {r l6 : List Px.Nd} {a : Px.St} {v : Value} {w : World} (p1 : updateR t xc r = some (a, l6)) (hv : partV B 104 a v w) : ∃ u u2, v = .agg #[.string ⟨t.toArray⟩, u, u2] := by
 unfold updateR at p1
 split at p1
 · cases p1
 simp only [Option.bind_eq_some_iff] at p1
 obtain ⟨z, _, y, _, p2⟩ := p1
 split at p2
 · cases p2
   obtain ⟨u, hu, _⟩ := hv
   cases hu
   exact ⟨_, _, rfl⟩
 cases p2
theorem selectR_form {B : Nat} {t : Lx.Bs} {xc : Int} {r l6 : List Px.Nd} {a : Px.St} {v : Value} {w : World} (p1 : selectR t xc r = some (a, l6)) (hv : partV B 109 a v w) : ∃ u u2 u3 u4 u5, v = .agg #[u, .string ⟨t.toArray⟩, u2, u3, .bool u4, u5] := by
 unfold selectR at p1
 split at p1
 · cases p1
 simp only [Option.bind_eq_some_iff] at p1
 obtain ⟨z, _, y, _, o, _, q, _, p2⟩ := p1
 split at p2
 · cases p2
   obtain ⟨u, u', hu, _⟩ := hv
   cases hu
   exact ⟨_, _, _, _, _, rfl⟩
 cases p2
theorem k_statement_any (w : World) (B : Nat) (l : List Px.Nd) (h : Wks w B l) (he : EnvP w) (hB : 12 ≤ B) (hl : l.length ≤ 16777216) :
   Calls Tryz.prog 44 #[.pointer (some ⟨B, 0, none⟩)] w (WOut w B (stV B) (Px.rSt l)) := by
 have HW := hd h
 have HE := hd he
 have hBw := h.lt
 clear h he
 go_enter Tryz.func44, Tryz.ntmps44
 go_wp2_with fail
 refine (k_take_any _ B l (HW.out.below (by go_grown))).mono ?_
 rintro x w1 ho
 have G1 : w.grownBy w1 (some B) := gtr (Below.grownBy (by go_grown)) ho.1
 match l, ho, HW, hl with
 | [], ho, _, _ =>
  obtain ⟨_, rfl⟩ := ho
  exact ⟨rfl, WOut.none G1⟩
 | ⟨xk, xt, xn, xc⟩ :: r, ho, HW, hl =>
  obtain ⟨_, v, rfl, hv, hw⟩ := ho
  have hv : v = ndA ⟨xk, xt, xn, xc⟩ := hv
  subst hv
  have HFX := hd (HW.out.fits ⟨xk, xt, xn, xc⟩ (by simp))
  have HR := hd (rSt_is xk xt xn xc r)
  unfold ndA
  simp only
  have hs1 := G1.size
  have HK2 := hd (Blk.new w1 #[.int .i64 xk, .string ⟨xt.toArray⟩, .int .i64 xn, .int .i64 xc] 43)
  have HW2 := hd (hw.below ((Below.refl _ _).alloc (nlr _) (.cells #[.int .i64 xk, .string ⟨xt.toArray⟩, .int .i64 xn, .int .i64 xc] 43)))
  have HG2 := hd (gba G1 (.cells #[.int .i64 xk, .string ⟨xt.toArray⟩, .int .i64 xn, .int .i64 xc] 43))
  have hlr : r.length ≤ 16777216 := by simp only [List.length_cons] at hl; omega
  clear hw G1 hl
  go_wp2_with fail
  by_cases hf : xn = 0
  rotate_left
  · refine (k_fields_no _ B _ _ _ _ xt _ _ (fun e => hf e.2.1)).mono ?_
    rintro y w4 ⟨rfl, hb4⟩
    exact ⟨rfl, by rw [HR.out, if_neg (fun e => hf e.1)]; exact WOut.none (gtr HG2.out (Below.grownBy hb4))⟩
  subst hf
  refine (k_fields_yes _ B _ _ _ _).mono ?_
  rintro y w4 ⟨rfl, hb4⟩
  have HK4 := hd (HK2.out.below hb4 HK2.out.lt)
  have G4 := hd (gtr HG2.out (Below.grownBy hb4))
  have W4 := hd (HW2.out.below hb4)
  have E4 := hd (HE.out.grown G4.out hB)
  have q1 := HK4.out.cell 1
  simp at q1
  have hK4 := HK4.out.lt
  clear hb4
  go_wp2_with fail
  refine (k_name_any w4 B ⟨xt.toArray⟩ E4.out).mono ?_
  rintro y w5 ⟨hb5, hy⟩
  rw [show ((⟨xt.toArray⟩ : ByteArray).data.toList) = xt by simp] at hy
  have HK5 := hd (HK4.out.below hb5 HK4.out.lt)
  have G5 := hd (gtr G4.out (Below.grownBy hb5))
  have W5 := hd (W4.out.below hb5)
  have E5 := hd (HE.out.grown G5.out hB)
  have q0 := HK5.out.cell 0
  have q1' := HK5.out.cell 1
  have q2 := HK5.out.cell 2
  have q3 := HK5.out.cell 3
  simp at q0 q1' q2 q3
  have hK5 := HK5.out.lt
  clear hb5 q1
  cases hv : Px.isName xt with
  | false =>
   rw [hv] at hy
   have hy : y = Flt 0 7 := hy
   subst hy
   exact ⟨rfl, by rw [HR.out, if_neg (fun e => by rw [hv] at e; exact absurd e.2 (by decide))]; exact WOut.none G5.out⟩
  | true =>
   rw [hv] at hy
   have hy : y = .returned (.string ⟨xt.toArray⟩) := hy
   subst hy
   have HR : Hid (Px.rSt (⟨xk, xt, 0, xc⟩ :: r) = if xk = 1 then createR xt xc r else if xk = 3 then (if xc = 0 then some (.drop xt, r) else none) else if xk = 4 then insertR xt xc r else if xk = 6 then deleteR xt xc r else if xk = 7 then updateR xt xc r else if xk = 9 then selectR xt xc r else none) := by show _ = _; rw [rSt_is, if_pos ⟨rfl, hv⟩, delete_is]
   have hx2 : xc ≤ 9223372036854775807 := HFX.out.2.2.1.2
   clear hv
   by_cases h1 : xk = 1
   · subst h1
     have HR1 : Hid (Px.rSt (⟨1, xt, 0, xc⟩ :: r) = createR xt xc r) := by show _ = _; rw [HR.out]; simp
     go_wp2_with fail
     refine (k_create_any _ B xt xc r W5.out E5.out hB).mono ?_
     rintro x w6 ho
     obtain ⟨g, ⟨p1, rfl⟩ | ⟨a, l6, v, p1, rfl, hv, hw6⟩⟩ := ho.cases
     · exact ⟨rfl, by rw [HR1.out, p1]; exact WOut.none (gtr G5.out g)⟩
     have HV := hd hv
     have hform := createR_form p1 hv
     obtain ⟨u, rfl⟩ := hform
     have G6 := hd (gtr G5.out g)
     have W6 := hd hw6
     have HP1 := hd p1
     clear ho g hw6 p1 hv
     go_wp2_with fail
     go_ret
     rw [HR1.out, HP1.out]
     exact WOut.some G6.out HV.out W6.out
   by_cases h3 : xk = 3
   · subst h3
     have HR1 : Hid (Px.rSt (⟨3, xt, 0, xc⟩ :: r) = if xc = 0 then some (.drop xt, r) else none) := by show _ = _; rw [HR.out]; simp
     by_cases hc : xc = 0
     · subst hc
       go_wp2_with fail
       refine (kmt _ B).mono ?_
       rintro y w6 ⟨rfl, h0⟩
       rw [h0]
       clear h0 w6
       go_wp2_with fail
       go_ret
       rw [HR1.out, if_pos (by trivial)]
       exact WOut.some G5.out rfl W5.out
     have hc' : (xc == 0) = false := beq_eq_false_iff_ne.2 hc
     go_wp2_with fail
     refine (kmf _ B).mono ?_
     rintro y w6 ⟨rfl, hb6⟩
     exact ⟨rfl, by rw [HR1.out, if_neg hc]; exact WOut.none (gtr G5.out (Below.grownBy hb6))⟩
   by_cases h4 : xk = 4
   · subst h4
     have HR1 : Hid (Px.rSt (⟨4, xt, 0, xc⟩ :: r) = insertR xt xc r) := by show _ = _; rw [HR.out]; simp
     go_wp2_with fail
     refine (k_insert_any _ B xt xc r W5.out E5.out hB hlr hx2).mono ?_
     rintro x w6 ho
     obtain ⟨g, ⟨p1, rfl⟩ | ⟨a, l6, v, p1, rfl, hv, hw6⟩⟩ := ho.cases
     · exact ⟨rfl, by rw [HR1.out, p1]; exact WOut.none (gtr G5.out g)⟩
     have HV := hd hv
     have hform := insertR_form p1 hv
     obtain ⟨u, rfl⟩ := hform
     have G6 := hd (gtr G5.out g)
     have W6 := hd hw6
     have HP1 := hd p1
     clear ho g hw6 p1 hv
     go_wp2_with fail
     go_ret
     rw [HR1.out, HP1.out]
     exact WOut.some G6.out HV.out W6.out
   by_cases h6 : xk = 6
   · subst h6
     have HR1 : Hid (Px.rSt (⟨6, xt, 0, xc⟩ :: r) = deleteR xt xc r) := by show _ = _; rw [HR.out]; simp
     go_wp2_with fail
     refine (k_delete_any _ B xt xc r W5.out E5.out hB hx2).mono ?_
     rintro x w6 ho
     obtain ⟨g, ⟨p1, rfl⟩ | ⟨a, l6, v, p1, rfl, hv, hw6⟩⟩ := ho.cases
     · exact ⟨rfl, by rw [HR1.out, p1]; exact WOut.none (gtr G5.out g)⟩
     have HV := hd hv
     have hform := deleteR_form p1 hv
     obtain ⟨u, rfl⟩ := hform
     have G6 := hd (gtr G5.out g)
     have W6 := hd hw6
     have HP1 := hd p1
     clear ho g hw6 p1 hv
     go_wp2_with fail
     go_ret
     rw [HR1.out, HP1.out]
     exact WOut.some G6.out HV.out W6.out
   by_cases h7 : xk = 7
   · subst h7
     have HR1 : Hid (Px.rSt (⟨7, xt, 0, xc⟩ :: r) = updateR xt xc r) := by show _ = _; rw [HR.out]; simp
     go_wp2_with fail
     refine (k_update_any _ B xt xc r W5.out E5.out hB hx2 hlr).mono ?_
     rintro x w6 ho
     obtain ⟨g, ⟨p1, rfl⟩ | ⟨a, l6, v, p1, rfl, hv, hw6⟩⟩ := ho.cases
     · exact ⟨rfl, by rw [HR1.out, p1]; exact WOut.none (gtr G5.out g)⟩
     have HV := hd hv
     have hform := updateR_form p1 hv
     obtain ⟨u, u2, rfl⟩ := hform
     have G6 := hd (gtr G5.out g)
     have W6 := hd hw6
     have HP1 := hd p1
     clear ho g hw6 p1 hv
     go_wp2_with fail
     go_ret
     rw [HR1.out, HP1.out]
     exact WOut.some G6.out HV.out W6.out
   by_cases h9 : xk = 9
   · subst h9
     have HR1 : Hid (Px.rSt (⟨9, xt, 0, xc⟩ :: r) = selectR xt xc r) := by show _ = _; rw [HR.out]; simp
     go_wp2_with fail
     refine (k_selection_any _ B xt xc r W5.out E5.out hB hx2 hlr).mono ?_
     rintro x w6 ho
     obtain ⟨g, ⟨p1, rfl⟩ | ⟨a, l6, v, p1, rfl, hv, hw6⟩⟩ := ho.cases
     · exact ⟨rfl, by rw [HR1.out, p1]; exact WOut.none (gtr G5.out g)⟩
     have HV := hd hv
     have hform := selectR_form p1 hv
     obtain ⟨u, u2, u3, u4, u5, rfl⟩ := hform
     have G6 := hd (gtr G5.out g)
     have W6 := hd hw6
     have HP1 := hd p1
     clear ho g hw6 p1 hv
     go_wp2_with fail
     go_ret
     rw [HR1.out, HP1.out]
     exact WOut.some G6.out HV.out W6.out
   have HR1 : Hid (Px.rSt (⟨xk, xt, 0, xc⟩ :: r) = none) := by show _ = _; rw [HR.out, if_neg h1, if_neg h3, if_neg h4, if_neg h6, if_neg h7, if_neg h9]
   have e1 : (xk == 1) = false := beq_eq_false_iff_ne.2 h1
   have e3 : (xk == 3) = false := beq_eq_false_iff_ne.2 h3
   have e4 : (xk == 4) = false := beq_eq_false_iff_ne.2 h4
   have e6 : (xk == 6) = false := beq_eq_false_iff_ne.2 h6
   have e7 : (xk == 7) = false := beq_eq_false_iff_ne.2 h7
   have e9 : (xk == 9) = false := beq_eq_false_iff_ne.2 h9
   go_wp2_with fail
   refine (kmf _ B).mono ?_
   rintro y w6 ⟨rfl, hb6⟩
   exact ⟨rfl, by rw [HR1.out]; exact WOut.none (gtr G5.out (Below.grownBy hb6))⟩
def ROut (w : World) (o : Option Px.St) (x : Ending) (w' : World) : Prop := Below w.heap.size w w' ∧ match o with
 | none => x = Flt 0 7
 | some s => ∃ u, x = .returned u ∧ stV w.heap.size s u w'
theorem below_of_grown {w w1 : World} {o : Obj} (h : (w.alloc o).grownBy w1 (some w.heap.size)) : Below w.heap.size w w1 :=
 ⟨h.os, h.tape, h.output, by have := h.size; simp at this; omega, fun k hk => by rw [h.block k (by simp; omega) (by simp; omega)]; exact Below.heap_alloc w o k hk⟩
theorem y_Read_any (w : World) (l : List Px.Nd) (v : Value) (hv : ∃ ao cap, v = .slice ao l.length cap ∧ l.length ≤ cap ∧ cap ≤ maxLen ∧ (∀ x ∈ l, NdFit x) ∧ (l ≠ [] → ∃ g off, ao = some ⟨g, off, none⟩ ∧ g < w.heap.size ∧ TreeIn w g off l)) (he : EnvP w) (hl : l.length ≤ 16777216) :
   Calls Tryz.prog 29 #[v] w (ROut w (Px.rS l)) := by
 obtain ⟨ao, cap, rfl, h1, h2, h3, h4⟩ := hv
 have HW : Hid (Wks (w.alloc (.cells #[.slice ao l.length cap] 80)) w.heap.size l) := by
  refine ⟨ao, cap, Blk.new w _ _, h1, h2, h3, fun hne => ?_⟩
  obtain ⟨g, off, e, hg, ht⟩ := h4 hne
  exact ⟨g, off, e, hg, ht.keep (Below.heap_alloc w _ g hg)⟩
 have HE : Hid (EnvP (w.alloc (.cells #[.slice ao l.length cap] 80))) := he.below ((Below.refl _ _).alloc (nlr _) _)
 have hB : 12 ≤ w.heap.size := he.env.room
 clear h1 h2 h3 h4 he
 go_enter Tryz.func29, Tryz.ntmps29
 go_wp2_with fail
 refine (k_statement_any _ w.heap.size l HW.out HE.out hB hl).mono ?_
 rintro x w1 ho
 obtain ⟨g, ⟨p1, rfl⟩ | ⟨a, l1, v, p1, rfl, hv, hw1⟩⟩ := ho.cases
 · exact ⟨rfl, below_of_grown g, by rw [show Px.rS l = none by unfold Px.rS; rw [p1]; rfl]; rfl⟩
 have HB := hd (below_of_grown g)
 have HV := hd hv
 have HR : Hid (Px.rS l = if l1 = [] then some a else none) := by show _ = _; unfold Px.rS; rw [p1]; rfl
 obtain ⟨ao1, cap1, hb1, hc1, hm1, _, _⟩ := hw1
 have c0 := hb1.cell 0
 simp at c0
 have hlt := hb1.lt
 clear ho g p1 hv hb1
 by_cases hl1 : l1 = []
 · have HRR : Hid (Px.rS l = some a) := by show _ = _; rw [HR.out, if_pos hl1]
   subst hl1
   simp only [List.length_nil] at c0
   go_wp2_with fail
   refine (kmt _ w.heap.size).mono ?_
   rintro y w2 ⟨rfl, h0⟩
   rw [h0]
   clear h0 w2
   go_wp2_with fail
   go_ret
   refine ⟨HB.out, ?_⟩
   rw [HRR.out]
   exact ⟨v, rfl, HV.out⟩
 have HRR : Hid (Px.rS l = none) := by show _ = _; rw [HR.out, if_neg hl1]
 have hn : ¬ l1.length = 0 := fun e => hl1 (List.length_eq_zero_iff.1 e)
 have hn' : ((l1.length : Int) == 0) = false := by rw [beq_eq_false_iff_ne]; omega
 clear hl1
 go_wp2_with fail
 refine (kmf _ w.heap.size).mono ?_
 rintro y w2 ⟨rfl, hb2⟩
 exact ⟨rfl, bm0 HB.out hb2 HB.out.size, by rw [HRR.out]; rfl⟩
structure EnvQ (w : World) : Prop where
 envp : EnvP w
 mx : ∃ m, w.cell? ⟨7, 0, none⟩ = some (.int .i64 m)
 pow : ∃ t fr, w.heap[6]? = some (.cells (Lib.pow10Tab.map fun z => Value.int .u64 z).toArray t fr)
theorem EnvQ.keep {w w' : World} (h : EnvQ w) (hs : w.heap.size ≤ w'.heap.size) (hb : ∀ k, k < 12 → w'.heap[k]? = w.heap[k]?) : EnvQ w' := by
 refine ⟨h.envp.keep hs hb, ?_, ?_⟩
 · rw [World.cell?_of_block (w := w) (hb _ (by simp))]; exact h.mx
 rw [hb _ (by simp)]; exact h.pow
theorem EnvQ.low {w w' : World} {B : Nat} (h : EnvQ w) (hb : Below B w w') (hB : 12 ≤ B) : EnvQ w' := h.keep hb.size fun k hk => hb.block k (by omega)
theorem EnvQ.below {w w' : World} (h : EnvQ w) (hb : Below w.heap.size w w') : EnvQ w' := h.low hb h.envp.env.room
theorem EnvQ.tab {w : World} (h : EnvQ w) : Lib.TabIs Tryz.prog w "internal/strconv.uint64pow10" .u64 Lib.pow10Tab := by
 obtain ⟨t, fr, hp⟩ := h.pow
 have hg : Tryz.prog.globalNamed "internal/strconv.uint64pow10" = some 6 := by kernel_rfl
 unfold Lib.TabIs World.var?
 rw [hg]
 simp only [Option.bind_some, hp]
def Kq (B : Nat) (w w' : World) : Prop := Below B w w' ∧ Lib.OthersKept 5 (some B) w w'
theorem Kq.refl (B : Nat) (w : World) : Kq B w w := ⟨Below.refl _ _, Lib.OthersKept.refl _ _ _⟩
theorem Kq.trans {B : Nat} {a b c : World} (h : Kq B a b) (k : Kq B b c) : Kq B a c := ⟨h.1.trans k.1, h.2.trans k.2⟩
theorem Kq.below {B : Nat} {w w' : World} (h : Below w.heap.size w w') (hB : B ≤ w.heap.size) : Kq B w w' := ⟨h.mono hB, (Lib.OthersKept.refl _ _ _).below h⟩
theorem Kq.more {B : Nat} {w w1 w' : World} (h : Kq B w w1) (hb : Below w1.heap.size w1 w') (hB : B ≤ w1.heap.size) : Kq B w w' := h.trans (Kq.below hb hB)
theorem Kq.set {B : Nat} {w w1 : World} (h : Kq B w w1) (i : Nat) (v : Value) : Kq B w (w1.setCell ⟨B, i, none⟩ v) := ⟨h.1.setCell (p := ⟨B, i, none⟩) (nlr _) v, h.2.setCell ⟨B, i, none⟩ rfl v⟩
theorem Kq.blk {B N : Nat} {w w' : World} (h : Kq B w w') {a : Array Value} {T : TypeId} (hb : Blk w N a T) (hN : N ≠ B) (hT : T ≠ 5) : Blk w' N a T := by
 unfold Blk at *
 refine h.2 N _ hb (by simpa using hN) ?_
 intro c fz e
 injection e with e1 e2 e3
 exact hT e2
def Bld (w : World) (B : Nat) (bs la : Lx.Bs) (ah : Bool) : Prop :=
 ∃ p v, (p = .pointer none ∨ p = .pointer (some ⟨B, 0, none⟩)) ∧ Blk w B #[p, v, .string ⟨la.toArray⟩, .bool ah] 77 ∧ w.ownsRow (B + 1) 5 1 v bs.length (Lib.byteCells bs)
def BldU (w : World) (B : Nat) (bs la : Lx.Bs) (ah : Bool) : Prop :=
 ∃ v, Blk w B #[.pointer (some ⟨B, 0, none⟩), v, .string ⟨la.toArray⟩, .bool ah] 77 ∧ w.ownsRow (B + 1) 5 1 v bs.length (Lib.byteCells bs)
theorem BldU.is {w : World} {B : Nat} {bs la : Lx.Bs} {ah : Bool} (h : BldU w B bs la ah) : Bld w B bs la ah := by
 obtain ⟨v, h1, h2⟩ := h
 exact ⟨_, v, .inr rfl, h1, h2⟩
theorem Bld.lt {w : World} {B : Nat} {bs la : Lx.Bs} {ah : Bool} (h : Bld w B bs la ah) : B < w.heap.size := by
 obtain ⟨p, v, _, h1, h2⟩ := h
 exact h1.lt
theorem Bld.below {w w' : World} {B : Nat} {bs la : Lx.Bs} {ah : Bool} (h : Bld w B bs la ah) (hb : Below w.heap.size w w') : Bld w' B bs la ah := by
 obtain ⟨p, v, hp, h1, h2⟩ := h
 exact ⟨p, v, hp, h1.below hb h1.lt, obw h2 hb⟩
theorem own_ne {w : World} {B : Nat} {e : TypeId} {size : Nat} {v : Value} {n : Nat} {xs : List Value} (h : w.ownsRow (B + 1) e size v n xs) : v.ownBlock = none ∨ v.ownBlock ≠ some B := by
 cases hv : v.ownBlock with
 | none => exact .inl rfl
 | some g => right; have := (h.lt g hv).1; simp; omega
theorem own_setP {w : World} {B i : Nat} {e : TypeId} {size : Nat} {v u : Value} {n : Nat} {xs : List Value} (h : w.ownsRow (B + 1) e size v n xs) : (w.setCell ⟨B, i, none⟩ u).ownsRow (B + 1) e size v n xs :=
 h.kept (gbs w B i u) (own_ne h)
theorem lies_printer : liesAt Tryz.prog Tryz.prog.depth 77 (4 / Tryz.prog.cellsOf 77) 0 75 1 = true := by kernel_rfl
theorem size_builder : (Tryz.prog.info? 75).map (·.size) = some 2 := by kernel_rfl
theorem info_uint8 : (Tryz.prog.info? 5).map (fun i => (i.zero, i.size, i.bytes)) = some (some (.int .u8 0), 1, 1) := by kernel_rfl
theorem b_copy_used (B : Nat) (w : World) (h0 : w.cell? ⟨B, 0, none⟩ = some (.pointer (some ⟨B, 0, none⟩))) :
   Calls Tryz.prog 170 #[.pointer (some ⟨B, 0, none⟩)] w fun e w' => e = .returned (.tuple #[]) ∧ w' = w := by
 obtain ⟨j, hj, _⟩ := Option.map_eq_some_iff.1 size_builder
 go_enter Tryz.func170, Tryz.ntmps170
 go_wp2
 rw [Lib.run_neq_ptr_same w _ Tryz.underlying72 hj]
 go_wp2
 go_end0
 exact ⟨rfl, rfl⟩
theorem b_copy_fresh (B : Nat) (w : World) (h0 : w.cell? ⟨B, 0, none⟩ = some (.pointer none)) (hsh : w.shape? B = some (77, 4)) (hfz : w.frozen? ⟨B, 0, none⟩ = false) :
   Calls Tryz.prog 170 #[.pointer (some ⟨B, 0, none⟩)] w fun e w' => e = .returned (.tuple #[]) ∧ w' = w.setCell ⟨B, 0, none⟩ (.pointer (some ⟨B, 0, none⟩)) := by
 obtain ⟨j, hj, hjs⟩ := Option.map_eq_some_iff.1 size_builder
 go_enter Tryz.func170, Tryz.ntmps170
 go_wp2
 rw [Lib.run_to_unsafe w ⟨B, 0, none⟩ Tryz.underlying72 Tryz.underlying232 hj (by rw [hjs]; decide) hsh (Nat.zero_lt_succ 3)]
 simp only [Result.andThen]
 rw [Oper.upon_value]
 go_wp2
 rw [run_callFunc_extern Tryz.func197 (by kernel_rfl) (by kernel_rfl) (by kernel_rfl) (e := Extern.AbiNoEscape.same) (by kernel_rfl)]
 rw [Lib.run_noEscape]
 simp only [Result.andThen]
 rw [Oper.upon_value]
 go_wp2
 rw [Lib.run_from_unsafe w ⟨B, 0, none⟩ Tryz.underlying232 Tryz.underlying72 hj hsh lies_printer]
 simp only [Result.andThen]
 rw [Oper.upon_value]
 go_wp2
 go_end0
 exact ⟨rfl, rfl⟩
theorem b_copy_any (B : Nat) (w : World) (bs la : Lx.Bs) (ah : Bool) (h : Bld w B bs la ah) :
   Calls Tryz.prog 170 #[.pointer (some ⟨B, 0, none⟩)] w fun e w' => e = .returned (.tuple #[]) ∧ BldU w' B bs la ah ∧ Kq B w w' := by
 obtain ⟨p, v, hp, h1, h2⟩ := h
 rcases hp with rfl | rfl
 · refine (b_copy_fresh B w (by have := h1.cell 0; simpa using this) (by unfold Blk at h1; simp [World.shape?, h1]) (h1.free 0)).mono ?_
   rintro e w' ⟨rfl, rfl⟩
   exact ⟨rfl, ⟨v, h1.set 0 _, own_setP h2⟩, (Kq.refl B w).set 0 _⟩
 refine (b_copy_used B w (by have := h1.cell 0; simpa using this)).mono ?_
 rintro e w' ⟨rfl, rfl⟩
 exact ⟨rfl, ⟨v, h1, h2⟩, Kq.refl B _⟩
theorem b_Len_any (B : Nat) (w : World) (bs la : Lx.Bs) (ah : Bool) (h : Bld w B bs la ah) :
   Calls Tryz.prog 116 #[.pointer (some ⟨B, 0, none⟩)] w fun e w' => e = .returned (.int .i64 (bs.length : Int)) ∧ w' = w := by
 obtain ⟨p, v, hp, h1, h2⟩ := h
 obtain ⟨ao, cap, rfl⟩ : ∃ ao cap, v = .slice ao bs.length cap := by
  rcases h2.2 with ⟨hv, h0⟩ | ⟨g, cap, cur, hv, _⟩
  · exact ⟨none, 0, by rw [hv, h0]⟩
  exact ⟨_, _, hv⟩
 have c1 := h1.cell 1
 simp at c1
 clear h1 h2 hp
 go_enter Tryz.func116, Tryz.ntmps116
 go_wp2
 go_ret
 exact ⟨rfl, rfl⟩
theorem blk_rowP {w w' : World} {N : Nat} {a : Array Value} {T : TypeId} {row : Option Nat} (h : Blk w N a T) (hg : w.grownBy w' row) (hr : ∀ o, row = some o → N ≠ o) : Blk w' N a T := by
 have hl := h.lt
 unfold Blk at *
 rw [hg.block N hl (fun e => hr N e.symm rfl)]
 exact h
theorem Kq.grown {B : Nat} {w w1 w2 : World} {v : Value} {n : Nat} {xs : List Value} (h : Kq B w w1) (hB : B < w1.heap.size) (ho : w1.ownsRow (B + 1) 5 1 v n xs) (hg : w1.grownBy w2 v.ownBlock) : Kq B w w2 := by
 refine ⟨h.1.grown hg (by omega) (fun k hk => by have := (ho.lt k hk).1; omega), h.2.grown hg (fun k hk => ?_)⟩
 obtain ⟨cur, hc⟩ := own_type ho k hk
 exact ⟨cur, _, hc⟩
theorem b_WriteByte_any (B : Nat) (w : World) (bs la : Lx.Bs) (ah : Bool) (c : UInt8) (h : Bld w B bs la ah) (hl : bs.length ≤ 1000000) :
   Calls Tryz.prog 114 #[.pointer (some ⟨B, 0, none⟩), .int .u8 (c.toNat : Int)] w fun e w' => e = .returned .nilIface ∧ BldU w' B (bs ++ [c]) la ah ∧ Kq B w w' := by
 obtain ⟨i0, hi, hz0, hz1, hz2⟩ := info_parts info_uint8
 have HB := hd h
 clear h
 go_enter Tryz.func114, Tryz.ntmps114
 go_wp2_with fail
 refine (b_copy_any B w bs la ah HB.out).mono ?_
 rintro e w1 ⟨rfl, ⟨v, h1, h2⟩, k1⟩
 have c1 := h1.cell 1
 simp at c1
 have hlt := h1.lt
 go_wp2_with (at_builtin; refine wpList_append_own _ rfl _ _ 73 rfl (B + 1) 5 i0 (.int .u8 0) 1 1 Tryz.underlying73 hi hz0 hz1 hz2 rfl (by decide) _ _ _ rfl (h2.alloc _) ⟨w1.heap.size, 0, none⟩ 1 1 [.int .u8 (c.toNat : Int)] rfl rfl ?c1 ?c2 ?c3 ?c4 ?c5 ?_)
 case c1 => exact one_news w1 (.int .u8 (c.toNat : Int)) 5
 case c2 => intro u hu; simp at hu; subst hu; rfl
 case c3 => unfold maxLen; omega
 case c4 => omega
 case c5 => simp; omega
 intro v' w2 hown' hgrow _
 have K2 := blk_rowP (h1.alloc _) hgrow (fun o ho => by have := (h2.lt o ho).1; omega)
 have d1 := K2.cell 1
 simp at d1
 have f1 := K2.free 1
 have HK2 := hd K2
 have HO2 := hd hown'
 have HKq := hd (Kq.grown (k1.more ((Below.refl _ _).alloc (nlr _) _) (by omega)) (by simp; omega) (h2.alloc _) hgrow)
 obtain ⟨ao', n', cap', rfl⟩ := osl hown'
 clear hown' hgrow K2 h1 h2 k1 c1
 go_wp2_with fail
 go_ret
 refine ⟨rfl, ⟨_, HK2.out.set 1 _, own_setP ?_⟩, HKq.out.set 1 _⟩
 have := HO2.out
 rw [List.length_append, Lib.byteCells_append]
 exact this
theorem b_WriteString_any (B : Nat) (w : World) (bs la : Lx.Bs) (ah : Bool) (s : Lx.Bs) (h : Bld w B bs la ah) (hl : bs.length + s.length ≤ 140737488355328) :
   Calls Tryz.prog 115 #[.pointer (some ⟨B, 0, none⟩), .string ⟨s.toArray⟩] w fun e w' => (∃ x, e = .returned x) ∧ BldU w' B (bs ++ s) la ah ∧ Kq B w w' := by
 obtain ⟨i0, hi, hz0, hz1, hz2⟩ := info_parts info_uint8
 have HB := hd h
 clear h
 have hsz : (⟨s.toArray⟩ : ByteArray).size = s.length := by simp [ByteArray.size]
 obtain ⟨sb, hsb⟩ : ∃ sb : ByteArray, sb = ⟨s.toArray⟩ := ⟨_, rfl⟩
 rw [← hsb] at hsz ⊢
 have HSB := hd hsb
 clear hsb
 go_enter Tryz.func115, Tryz.ntmps115
 go_wp2_with fail
 refine (b_copy_any B w bs la ah HB.out).mono ?_
 rintro e w1 ⟨rfl, ⟨v, h1, h2⟩, k1⟩
 have c1 := h1.cell 1
 simp at c1
 have hlt := h1.lt
 go_wp2_with (at_builtin; refine Lib.wpList_append_own_string _ rfl _ _ 73 9 rfl (B + 1) 5 i0 Tryz.underlying73 Tryz.underlying9 hi hz0 hz1 hz2 _ _ _ rfl h2 sb rfl ?c3 ?c4 ?c5 ?_)
 case c3 => unfold maxLen; omega
 case c4 => omega
 case c5 => omega
 intro v' w2 hown' hgrow _
 have K2 := blk_rowP h1 hgrow (fun o ho => by have := (h2.lt o ho).1; omega)
 have d1 := K2.cell 1
 simp at d1
 have f1 := K2.free 1
 have HK2 := hd K2
 have HO2 := hd hown'
 have HKq := hd (Kq.grown k1 (by omega) h2 hgrow)
 obtain ⟨ao', n', cap', rfl⟩ := osl hown'
 clear hown' hgrow K2 h1 h2 k1 c1
 go_wp2_with fail
 go_ret2
 refine ⟨⟨_, rfl⟩, ⟨_, HK2.out.set 1 _, own_setP ?_⟩, HKq.out.set 1 _⟩
 have := HO2.out
 rw [List.length_append, Lib.byteCells_append]
 rw [Lib.strCells_eq, HSB.out] at this
 exact this
theorem b_String_any (B : Nat) (w : World) (bs la : Lx.Bs) (ah : Bool) (h : Bld w B bs la ah) (h0 : bs ≠ []) :
   Calls Tryz.prog 43 #[.pointer (some ⟨B, 0, none⟩)] w fun e w' => e = .returned (.string ⟨bs.toArray⟩) ∧ Kq B w w' := by
 obtain ⟨p, v, hp, hbk, hown⟩ := h
 have hl0 : bs.length ≠ 0 := by simpa using h0
 obtain ⟨g, cap, cur, rfl, hbg, hg, hnc, hcm, hcs, htake⟩ : ∃ g cap cur, v = .slice (some ⟨g, 0, none⟩) bs.length cap ∧ B + 1 ≤ g ∧ w.heap[g]? = some (.cells cur 5 (0, 0)) ∧ bs.length ≤ cap ∧ cap ≤ maxLen ∧ cur.size = cap * 1 ∧ cur.toList.take (bs.length * 1) = Lib.byteCells bs := by
  rcases hown.2 with ⟨_, hz⟩ | ⟨g, cap, cur, hv, r⟩
  · exact absurd hz hl0
  exact ⟨g, cap, cur, hv, r⟩
 have c1 : w.drew.cell? ⟨B, 1, none⟩ = some (.slice (some ⟨g, 0, none⟩) bs.length cap) := by have := hbk.cell 1; simpa using this
 have hSD : (Builtin.unsafeSliceData_ #[73] 124 #[.slice (some ⟨g, 0, none⟩) bs.length cap]).run Tryz.prog w.drew = .ok (.pointer (some ⟨g, 0, none⟩)) w.drew :=
  Lib.run_unsafeSliceData_row _ _ _ _ _ _ (by omega)
 have hUS : (Builtin.unsafeString_ #[124, 3] 9 #[.pointer (some ⟨g, 0, none⟩), .int .i64 bs.length]).run Tryz.prog w.drew = .ok (.string ⟨bs.toArray⟩) (w.drew.freeze ⟨g, 0, none⟩ bs.length) := by
  refine Lib.run_unsafeString_row w.drew 124 3 9 5 Tryz.underlying124 (by kernel_rfl) g cur.size (by have hg' : w.drew.heap[g]? = some (.cells cur 5 (0, 0)) := hg; simp [World.shape?, hg']) bs h0 (by omega) (by unfold maxLen at hcm; omega) ?_
  intro j x hx
  have := hown.cells (g := g) rfl j (.int .u8 x.toNat) (by simp [Lib.byteCells, hx])
  exact this
 have HKq : Hid (Kq B w (w.drew.freeze ⟨g, 0, none⟩ bs.length)) :=
  ⟨Lib.below_freeze (Below.drew (Below.refl B w)) (p := ⟨g, 0, none⟩) (show B ≤ g by omega) _, ((Lib.OthersKept.refl _ _ w).drew).freeze ⟨g, 0, none⟩ _ ⟨cur, _, hg⟩⟩
 clear hbk hown hg htake hp
 go_enter Tryz.func43, Tryz.ntmps43
 go_wp2
 go_region
 all_goals (go_wp2; go_ret; exact ⟨rfl, HKq.out⟩)
def apartO (la : Lx.Bs) (ah : Bool) (o : Lx.Bs) : Bool := if la = [] ∨ la = [40] ∨ o = [41] ∨ o = [44] then false else if ah = true then decide (o.head? = some 45) else true
theorem apartO_L (l : List Px.PT) (o : Lx.Bs) : apartO (Px.lastOut l) (Px.lastPre l) o = Px.apartL l o := rfl
theorem ba_nel (a : ByteArray) (b : Lx.Bs) (h : a.data.toList ≠ b) : (a.toList == b) = false := by
 rw [beq_eq_false_iff_ne, Lib.toList_data]
 exact h
theorem hasPrefix_minus (o : Lx.Bs) : Lib.hasPrefix o [45] = decide (o.head? = some 45) := by
 cases o with
 | nil => rfl
 | cons c r =>
  by_cases h : c = 45
  · subst h; simp [Lib.hasPrefix, List.isPrefixOf]
  have : (45 == c) = false := beq_eq_false_iff_ne.2 (fun e => h e.symm)
  simp [Lib.hasPrefix, List.isPrefixOf, h, this]
theorem d_isApart_any (B : Nat) (w : World) (bs la : Lx.Bs) (ah : Bool) (o : Lx.Bs) (h : Bld w B bs la ah) :
   Calls Tryz.prog 113 #[.pointer (some ⟨B, 0, none⟩), .string ⟨o.toArray⟩] w fun e w' => e = .returned (.bool (apartO la ah o)) ∧ Below w.heap.size w w' := by
 obtain ⟨p, v, hp, h1, h2⟩ := h
 have c2 := h1.cell 2
 have c3 := h1.cell 3
 simp at c2 c3
 have hlt := h1.lt
 clear h1 h2 hp
 obtain ⟨lb, hlb⟩ : ∃ lb : ByteArray, lb = ⟨la.toArray⟩ := ⟨_, rfl⟩
 obtain ⟨ob, hob⟩ : ∃ ob : ByteArray, ob = ⟨o.toArray⟩ := ⟨_, rfl⟩
 have HL : Hid (lb.data.toList = la) := by show _ = _; rw [hlb]
 have HO : Hid (ob.data.toList = o) := by show _ = _; rw [hob]
 rw [← hlb] at c2
 rw [← hob]
 have HLB := hd hlb
 have HOB := hd hob
 clear hlb hob
 by_cases h1 : la = []
 · have HR : Hid (apartO la ah o = false) := if_pos (.inl h1)
   have e1 : (lb.toList == []) = true := by rw [beq_iff_eq, Lib.toList_data, HL.out, h1]
   clear h1
   go_enter Tryz.func113, Tryz.ntmps113
   go_wp2_with fail
   go_ret
   rw [HR.out]
   exact ⟨rfl, Below.refl _ _⟩
 have e1 : (lb.toList == []) = false := ba_nel _ _ (by rw [HL.out]; exact h1)
 by_cases h2 : la = [40]
 · have HR : Hid (apartO la ah o = false) := if_pos (.inr (.inl h2))
   have e2 : (lb.toList == [40]) = true := by rw [beq_iff_eq, Lib.toList_data, HL.out, h2]
   clear h1 h2
   go_enter Tryz.func113, Tryz.ntmps113
   go_wp2_with fail
   go_ret
   rw [HR.out]
   exact ⟨rfl, Below.refl _ _⟩
 have e2 : (lb.toList == [40]) = false := ba_nel _ _ (by rw [HL.out]; exact h2)
 by_cases h3 : o = [41]
 · have HR : Hid (apartO la ah o = false) := if_pos (.inr (.inr (.inl h3)))
   have e3 : (ob.toList == [41]) = true := by rw [beq_iff_eq, Lib.toList_data, HO.out, h3]
   clear h1 h2 h3
   go_enter Tryz.func113, Tryz.ntmps113
   go_wp2_with fail
   go_ret
   rw [HR.out]
   exact ⟨rfl, Below.refl _ _⟩
 have e3 : (ob.toList == [41]) = false := ba_nel _ _ (by rw [HO.out]; exact h3)
 by_cases h4 : o = [44]
 · have HR : Hid (apartO la ah o = false) := if_pos (.inr (.inr (.inr h4)))
   have e4 : (ob.toList == [44]) = true := by rw [beq_iff_eq, Lib.toList_data, HO.out, h4]
   clear h1 h2 h3 h4
   go_enter Tryz.func113, Tryz.ntmps113
   go_wp2_with fail
   go_ret
   rw [HR.out]
   exact ⟨rfl, Below.refl _ _⟩
 have e4 : (ob.toList == [44]) = false := ba_nel _ _ (by rw [HO.out]; exact h4)
 have HR0 : Hid (apartO la ah o = if ah = true then decide (o.head? = some 45) else true) := if_neg (fun e => by rcases e with e | e | e | e; exact h1 e; exact h2 e; exact h3 e; exact h4 e)
 clear h1 h2 h3 h4
 cases ah with
 | false =>
  have HR : Hid (apartO la false o = true) := HR0.out
  go_enter Tryz.func113, Tryz.ntmps113
  go_wp2_with fail
  go_ret
  rw [HR.out]
  exact ⟨rfl, Below.refl _ _⟩
 | true =>
  have HR : Hid (apartO la true o = decide (o.head? = some 45)) := HR0.out
  go_enter Tryz.func113, Tryz.ntmps113
  go_wp2_with fail
  refine (Tryz.strings_HasPrefix _ _ _).mono ?_
  rintro e w1 ⟨rfl, h0⟩
  rw [h0, HO.out, show ((⟨#[45]⟩ : ByteArray).data.toList) = [45] from rfl, hasPrefix_minus]
  clear h0 w1
  generalize hdd : decide (o.head? = some 45) = dd
  rw [hdd] at HR
  go_wp2_with fail
  go_ret
  rw [HR.out]
  exact ⟨rfl, Below.refl _ _⟩
def Prs (w : World) (B : Nat) (l : List Px.PT) : Prop := Bld w B (Px.render l) (Px.lastOut l) (Px.lastPre l) ∧ (∀ t ∈ l, t.out ≠ []) ∧ (Px.render l).length ≤ 2000
theorem Prs.lt {w : World} {B : Nat} {l : List Px.PT} (h : Prs w B l) : B < w.heap.size := h.1.lt
theorem Prs.below {w w' : World} {B : Nat} {l : List Px.PT} (h : Prs w B l) (hb : Below w.heap.size w w') : Prs w' B l := ⟨h.1.below hb, h.2⟩
def POut (w : World) (B : Nat) (l : List Px.PT) (x : Ending) (w' : World) : Prop :=
 Kq B w w' ∧ ((x = .returned (.tuple #[]) ∧ Prs w' B l) ∨ (x = Flt 0 1 ∧ 2000 < (Px.render l).length))
structure PT0 (t : Px.PT) : Prop where
 ne : t.out ≠ []
 pre : t.pre = false
 small : t.out.length ≤ 70368744177664
theorem Bld.setLast {w : World} {B : Nat} {bs la : Lx.Bs} {ah : Bool} (h : Bld w B bs la ah) (la' : Lx.Bs) : Bld (w.setCell ⟨B, 2, none⟩ (.string ⟨la'.toArray⟩)) B bs la' ah := by
 obtain ⟨p, v, hp, h1, h2⟩ := h
 exact ⟨p, v, hp, h1.set 2 _, own_setP h2⟩
theorem Bld.setAhead {w : World} {B : Nat} {bs la : Lx.Bs} {ah : Bool} (h : Bld w B bs la ah) (ah' : Bool) : Bld (w.setCell ⟨B, 3, none⟩ (.bool ah')) B bs la ah' := by
 obtain ⟨p, v, hp, h1, h2⟩ := h
 exact ⟨p, v, hp, h1.set 3 _, own_setP h2⟩
theorem Bld.cells {w : World} {B : Nat} {bs la : Lx.Bs} {ah : Bool} (h : Bld w B bs la ah) : w.cell? ⟨B, 2, none⟩ = some (.string ⟨la.toArray⟩) ∧ w.cell? ⟨B, 3, none⟩ = some (.bool ah) ∧ w.frozen? ⟨B, 2, none⟩ = false ∧ w.frozen? ⟨B, 3, none⟩ = false := by
 obtain ⟨p, v, hp, h1, h2⟩ := h
 have c2 := h1.cell 2
 have c3 := h1.cell 3
 simp at c2 c3
 exact ⟨c2, c3, h1.free 2, h1.free 3⟩
def toksA (l : List Px.PT) : Array Value := (l.map fun t => Value.string ⟨t.out.toArray⟩).toArray
theorem d_put_any (B S : Nat) (w : World) (l ts : List Px.PT) (h : Prs w B l) (hS : Blk w S (toksA ts) 9) (hBS : S ≠ B) (hts : ∀ t ∈ ts, PT0 t) (hn : ts.length ≤ 3) :
   Calls Tryz.prog 66 #[.pointer (some ⟨B, 0, none⟩), .slice (some ⟨S, 0, none⟩) ts.length ts.length] w (POut w B (l ++ ts)) := by
 have HP := hd h
 have HS := hd hS
 have HTS := hd hts
 have hlt := h.lt
 clear h hS hts
 go_enter Tryz.func66, Tryz.ntmps66
 go_wp2_with fail
 go_loopw [8] (fun i wr => ∃ k : Nat, k ≤ ts.length ∧ i = .int .i64 k ∧ Hid (Prs wr B (l ++ ts.take k)) ∧ Hid (Kq B w wr)) (fun i _ => ts.length - (intOf i).toNat)
 case atStart => exact ⟨0, by omega, rfl, (by show Prs _ _ _; simpa using HP.out), Kq.refl _ _⟩
 case round =>
  obtain ⟨k, hk, rfl, HPk, HKk⟩ := hrel
  by_cases hlt2 : k < ts.length
  · obtain ⟨t, ht⟩ : ∃ t, ts[k]? = some t := ⟨_, List.getElem?_eq_getElem hlt2⟩
    have htm : t ∈ ts := List.mem_of_getElem? ht
    have HT := hd (HTS.out t htm)
    have cS : wr.cell? ⟨S, k, none⟩ = some (.string ⟨t.out.toArray⟩) := by
     have := (HKk.out.blk HS.out hBS (by decide)).cell k
     rw [this]
     simp [toksA, ht]
    have HTK : Hid (ts.take (k + 1) = ts.take k ++ [t]) := by show _ = _; rw [List.take_add_one, ht]; rfl
    have HRN : Hid (Px.render (l ++ ts.take (k + 1)) = Px.render (l ++ ts.take k) ++ Px.gapL (l ++ ts.take k) t ++ t.out) := by show _ = _; rw [HTK.out, ← laa, Px.render_snoc]
    have HGP := hd (Px.gapL_is (l ++ ts.take k) t HPk.out.2.1)
    have hBl := HPk.out.lt
    have hln := HPk.out.2.2
    have hts := HT.out.small
    generalize hLk : l ++ ts.take k = Lk at *
    clear ht htm
    go_wp2_with fail
    refine (d_isApart_any B wr _ _ _ t.out HPk.out.1).mono ?_
    rintro x w1 ⟨rfl, hb1⟩
    rw [apartO_L]
    have hB1 := HPk.out.1.below hb1
    have HK1 := hd (HKk.out.more hb1 (by omega))
    have hs1 := hb1.size
    clear hb1
    rcases Bool.eq_false_or_eq_true (Px.apartL Lk t.out) with hap | hap
    case' inl =>
     rw [hap]
     have HGW : Hid (Px.gapL Lk t = [32]) := by show _ = _; rw [HGP.out, hap]; rfl
     have HB1 := hd hB1
     clear hap hB1
     go_wp2_with fail
     refine (b_WriteByte_any B w1 _ _ _ 32 HB1.out (by omega)).mono ?_
     rintro x w2 ⟨rfl, hU, k2⟩
     have HB2 : Hid (Bld w2 B (Px.render Lk ++ Px.gapL Lk t) (Px.lastOut Lk) (Px.lastPre Lk)) := by show Bld _ _ _ _ _; rw [HGW.out]; exact hU.is
     have HK2 := hd (HK1.out.trans k2)
     have hgl : (Px.gapL Lk t).length ≤ 1 := by rw [HGW.out]; simp
     clear hU k2 HGW HB1
    case' inr =>
     rw [hap]
     have HB2 : Hid (Bld w1 B (Px.render Lk ++ Px.gapL Lk t) (Px.lastOut Lk) (Px.lastPre Lk)) := by show Bld _ _ _ _ _; rw [HGP.out, hap]; simpa using hB1
     have HK2 := HK1
     have hgl : (Px.gapL Lk t).length ≤ 1 := by rw [HGP.out, hap]; simp
     clear hap hB1
    all_goals
     go_wp2_with fail
     refine (b_WriteString_any B _ _ _ _ t.out HB2.out (by rw [List.length_append]; omega)).mono ?_
     rintro x w3 ⟨⟨xv, rfl⟩, hU, k3⟩
     have HB3 : Hid (Bld w3 B (Px.render (l ++ ts.take (k + 1))) (Px.lastOut Lk) (Px.lastPre Lk)) := by show Bld _ _ _ _ _; rw [HRN.out]; exact hU.is
     have HK3 := hd (HK2.out.trans k3)
     obtain ⟨c2, c3, f2, f3⟩ := HB3.out.cells
     have hB3l := HB3.out.lt
     have HB4 := hd ((HB3.out.setLast t.out).setAhead false)
     have HK4 := hd ((HK3.out.set 2 (.string ⟨t.out.toArray⟩)).set 3 (.bool false))
     clear hU k3 HB2 HK2 HK1
     go_wp2_with fail
     refine (b_Len_any B _ _ _ _ HB4.out).mono ?_
     rintro x w5 ⟨rfl, h0⟩
     rw [h0]
     clear h0 w5
     have HLL : Hid (Px.render (l ++ ts) = Px.render (l ++ ts.take (k + 1) ++ ts.drop (k + 1))) := by show _ = _; rw [laa, List.take_append_drop]
     have HMO := hd (Px.render_mono (l ++ ts.take (k + 1)) (ts.drop (k + 1)))
     by_cases hbig : 2000 < (Px.render (l ++ ts.take (k + 1))).length
     · have hbig' : (2000 : Int) < ((Px.render (l ++ ts.take (k + 1))).length : Int) := by omega
       have HBG : Hid (2000 < (Px.render (l ++ ts)).length) := by show _ < _; rw [HLL.out]; have := HMO.out; omega
       generalize (Px.render (l ++ ts.take (k + 1))).length = nn at *
       go_wp2_with fail
       exact ⟨rfl, HK4.out, .inr ⟨rfl, HBG.out⟩⟩
     have hbig' : ¬ (2000 : Int) < ((Px.render (l ++ ts.take (k + 1))).length : Int) := by omega
     have HPN : Hid (Prs ((w3.setCell ⟨B, 2, none⟩ (.string ⟨t.out.toArray⟩)).setCell ⟨B, 3, none⟩ (.bool false)) B (l ++ ts.take (k + 1))) := by
      refine ⟨?_, ?_, by omega⟩
      · have := HB4.out
        rw [HTK.out, ← laa, Px.lastOut_snoc, Px.lastPre_snoc, HT.out.pre, laa, ← HTK.out]
        exact this
      intro x hx
      rw [HTK.out, ← laa, hLk] at hx
      rcases List.mem_append.1 hx with hx | hx
      · exact HPk.out.2.1 x hx
      simp at hx; subst hx; exact HT.out.ne
     generalize (Px.render (l ++ ts.take (k + 1))).length = nn at *
     go_wp2_with fail
     go_roundw
     case rel => exact ⟨k + 1, by omega, by go_num, HPN, HK4⟩
     case measure => simp [intOf]; omega
  have hke : k = ts.length := by omega
  subst hke
  go_wp2_with fail
  go_end0
  refine ⟨HKk.out, .inl ⟨rfl, ?_⟩⟩
  have := HPk.out
  rwa [List.take_length] at this
theorem POut.mono {w0 w w' : World} {B : Nat} {l : List Px.PT} {x : Ending} (h : POut w B l x w') (k : Kq B w0 w) : POut w0 B l x w' := ⟨k.trans h.1, h.2⟩
theorem POut.cases {w w' : World} {B : Nat} {l : List Px.PT} {x : Ending} (h : POut w B l x w') : Kq B w w' ∧ ((x = Flt 0 1 ∧ 2000 < (Px.render l).length) ∨ (x = .returned (.tuple #[]) ∧ Prs w' B l)) := ⟨h.1, h.2.symm⟩
theorem POut.err {w w' : World} {B : Nat} {l : List Px.PT} {m : List Px.PT} (k : Kq B w w') (h : 2000 < (Px.render l).length) : POut w B (l ++ m) (Flt 0 1) w' := ⟨k, .inr ⟨rfl, Nat.lt_of_lt_of_le h (Px.render_mono l m)⟩⟩
theorem POut.ok {w w' : World} {B : Nat} {l : List Px.PT} (k : Kq B w w') (h : Prs w' B l) : POut w B l (.returned (.tuple #[])) w' := ⟨k, .inl ⟨rfl, h⟩⟩
theorem Kq.alloc {B : Nat} {w : World} (o : Obj) (hB : B < w.heap.size) : Kq B w (w.alloc o) := Kq.below ((Below.refl _ _).alloc (nlr _) _) (by omega)
theorem d_put1 (B : Nat) (w : World) (l : List Px.PT) (t : Px.PT) (h : Prs w B l) (ht : PT0 t) :
   Calls Tryz.prog 66 #[.pointer (some ⟨B, 0, none⟩), .slice (some ⟨w.heap.size, 0, none⟩) 1 1] (w.alloc (.cells #[.string ⟨t.out.toArray⟩] 9)) (POut w B (l ++ [t])) := by
 have hlt := h.lt
 refine (d_put_any B w.heap.size _ l [t] (h.below ((Below.refl _ _).alloc (nlr _) _)) (Blk.new w _ _) (by omega) (by intro x hx; simp at hx; subst hx; exact ht) (by simp)).mono ?_
 rintro x w' ho
 exact ho.mono (Kq.alloc _ hlt)
theorem d_put2 (B : Nat) (w : World) (l : List Px.PT) (t u : Px.PT) (h : Prs w B l) (ht : PT0 t) (hu : PT0 u) :
   Calls Tryz.prog 66 #[.pointer (some ⟨B, 0, none⟩), .slice (some ⟨w.heap.size, 0, none⟩) 2 2] (w.alloc (.cells #[.string ⟨t.out.toArray⟩, .string ⟨u.out.toArray⟩] 9)) (POut w B (l ++ [t, u])) := by
 have hlt := h.lt
 refine (d_put_any B w.heap.size _ l [t, u] (h.below ((Below.refl _ _).alloc (nlr _) _)) (Blk.new w _ _) (by omega) (by intro x hx; simp at hx; rcases hx with rfl | rfl; exact ht; exact hu) (by simp)).mono ?_
 rintro x w' ho
 exact ho.mono (Kq.alloc _ hlt)
theorem d_put3 (B : Nat) (w : World) (l : List Px.PT) (t u v : Px.PT) (h : Prs w B l) (ht : PT0 t) (hu : PT0 u) (hv : PT0 v) :
   Calls Tryz.prog 66 #[.pointer (some ⟨B, 0, none⟩), .slice (some ⟨w.heap.size, 0, none⟩) 3 3] (w.alloc (.cells #[.string ⟨t.out.toArray⟩, .string ⟨u.out.toArray⟩, .string ⟨v.out.toArray⟩] 9)) (POut w B (l ++ [t, u, v])) := by
 have hlt := h.lt
 refine (d_put_any B w.heap.size _ l [t, u, v] (h.below ((Below.refl _ _).alloc (nlr _) _)) (Blk.new w _ _) (by omega) (by intro x hx; simp at hx; rcases hx with rfl | rfl | rfl; exact ht; exact hu; exact hv) (by simp)).mono ?_
 rintro x w' ho
 exact ho.mono (Kq.alloc _ hlt)
theorem pt0_kw (s : Lx.Bs) (h : s ≠ []) (hl : s.length ≤ 100) : PT0 (Px.kwT s) := ⟨h, rfl, by show s.length ≤ _; omega⟩
theorem pt0_sg (s : Lx.Bs) (h : s ≠ []) (hl : s.length ≤ 100) : PT0 (Px.sgT s) := ⟨h, rfl, by show s.length ≤ _; omega⟩
theorem Prs.ahead {w : World} {B : Nat} {l : List Px.PT} (h : Prs w B (l ++ [Px.sgT [45]])) : Prs (w.setCell ⟨B, 3, none⟩ (.bool true)) B (l ++ [Px.mnT]) := by
 refine ⟨?_, ?_, ?_⟩
 · have := h.1.setAhead true
   rw [Px.lastOut_snoc] at this
   rw [Px.lastOut_snoc, Px.lastPre_snoc, Px.render_last l Px.mnT (Px.sgT [45]) rfl]
   exact this
 · intro x hx
   rcases List.mem_append.1 hx with hx | hx
   · exact h.2.1 x (by simp [hx])
   simp at hx; subst hx; simp [Px.mnT]
 rw [Px.render_last l Px.mnT (Px.sgT [45]) rfl]
 exact h.2.2
theorem d_putMinus_any (B : Nat) (w : World) (l : List Px.PT) (h : Prs w B l) :
   Calls Tryz.prog 203 #[.pointer (some ⟨B, 0, none⟩)] w (POut w B (l ++ [Px.mnT])) := by
 have HP := hd h
 have hlt := h.lt
 clear h
 go_enter Tryz.func203, Tryz.ntmps203
 go_wp2_with fail
 refine (d_put1 B w l (Px.sgT [45]) HP.out (pt0_sg _ (by simp) (by simp))).mono ?_
 rintro x w1 ho
 obtain ⟨k1, ⟨rfl, hb⟩ | ⟨rfl, hp⟩⟩ := ho.cases
 · refine ⟨rfl, k1, .inr ⟨rfl, ?_⟩⟩
   rw [Px.render_last l Px.mnT (Px.sgT [45]) rfl]
   exact hb
 obtain ⟨c2, c3, f2, f3⟩ := hp.1.cells
 have HP1 := hd hp.ahead
 have HK1 := hd (k1.set 3 (.bool true))
 have hlt1 := hp.lt
 clear hp k1 ho c2 f2
 go_wp2_with fail
 go_end0
 exact POut.ok HK1.out HP1.out
theorem d_truth_any (B : Nat) (w : World) (l : List Px.PT) (b : Bool) (h : Prs w B l) :
   Calls Tryz.prog 176 #[.pointer (some ⟨B, 0, none⟩), .bool b] w (POut w B (l ++ [Px.kwT (if b = true then Px.kTRUE else Px.kFALSE)])) := by
 have HP := hd h
 clear h
 cases b with
 | true =>
  go_enter Tryz.func176, Tryz.ntmps176
  go_wp2_with fail
  refine (d_put1 B w l (Px.kwT Px.kTRUE) HP.out (pt0_kw _ (by decide) (by decide))).mono ?_
  rintro x w1 ho
  obtain ⟨k1, ⟨rfl, hb⟩ | ⟨rfl, hp⟩⟩ := ho.cases
  · exact ⟨rfl, k1, .inr ⟨rfl, hb⟩⟩
  have HP1 := hd hp
  have HK1 := hd k1
  clear hp k1 ho
  go_wp2_with fail
  go_end0
  exact POut.ok HK1.out HP1.out
 | false =>
  go_enter Tryz.func176, Tryz.ntmps176
  go_wp2_with fail
  refine (d_put1 B w l (Px.kwT Px.kFALSE) HP.out (pt0_kw _ (by decide) (by decide))).mono ?_
  rintro x w1 ho
  obtain ⟨k1, ⟨rfl, hb⟩ | ⟨rfl, hp⟩⟩ := ho.cases
  · exact ⟨rfl, k1, .inr ⟨rfl, hb⟩⟩
  have HP1 := hd hp
  have HK1 := hd k1
  clear hp k1 ho
  go_wp2_with fail
  go_end0
  exact POut.ok HK1.out HP1.out
theorem dgT_small (n : Nat) (h : n ≤ 9223372036854775808) : PT0 (Px.dgT n) := by
 refine ⟨decF_ne n, rfl, ?_⟩
 have : ∀ f n, (Px.decF f n).length ≤ f := by
  intro f
  induction f with
  | zero => intro n; simp [Px.decF]
  | succ f ih =>
   intro n
   rw [Px.decF]
   split
   · simp
   have := ih (n / 10)
   simp only [List.length_append, List.length_singleton]
   omega
 have := this 20 n
 show (Px.decF 20 n).length ≤ _
 omega
theorem d_number_any (B : Nat) (w : World) (l : List Px.PT) (z : Int) (h : Prs w B l) (he : EnvQ w) (h1 : -9223372036854775808 ≤ z) (h2 : z ≤ 9223372036854775807) :
   Calls Tryz.prog 177 #[.pointer (some ⟨B, 0, none⟩), .int .i64 z] w (POut w B (l ++ (Px.E.num z).pt)) := by
 have HP := hd h
 have HE := hd he
 have hlt := h.lt
 clear h he
 go_enter Tryz.func177, Tryz.ntmps177
 go_wp2_with fail
 refine (Tryz.strconv_Itoa z h1 h2 w HE.out.tab).mono ?_
 rintro x w1 ⟨rfl, kk, os, hw⟩
 have hb1 : Below w.heap.size w w1 := by rw [hw]; exact Lib.below_grow _ w (nlr _) kk os
 have HP1 := hd (HP.out.below hb1)
 have HK1 := hd (Kq.below (B := B) hb1 (by omega))
 have hlt1 := HP1.out.lt
 clear hw hb1
 by_cases hz : z < 0
 · obtain ⟨n, rfl⟩ : ∃ n : Nat, z = -(n : Int) := ⟨z.natAbs, by omega⟩
   have hI : Lib.itoa (-(n : Int)) = 45 :: Px.decF 20 n := itoa_min n (by omega) (by omega)
   have HPT : Hid ((Px.E.num (-(n : Int))).pt = [Px.mnT] ++ [Px.dgT n]) := by
    show _ = _
    simp only [Px.E.pt]
    rw [if_pos hz, show (-(n : Int)).natAbs = n by omega]
    rfl
   rw [hI]
   have HDG := hd (dgT_small n (by omega))
   have HD : Hid (Px.decF 20 n = (Px.dgT n).out) := rfl
   have hlen : (Px.decF 20 n).length ≤ 70368744177664 := HDG.out.small
   obtain ⟨db, hdb⟩ : ∃ db : ByteArray, db = ⟨(45 :: Px.decF 20 n).toArray⟩ := ⟨_, rfl⟩
   have hds : db.size = (Px.decF 20 n).length + 1 := by rw [hdb]; simp [ByteArray.size]
   have HX : Hid (db.extract 1 ((Px.decF 20 n).length + 1) = ⟨(Px.decF 20 n).toArray⟩) := by
    show _ = _
    apply ByteArray.ext
    rw [hdb]
    simp
   rw [← hdb]
   clear hdb hI
   go_wp2_with fail
   refine (d_putMinus_any B w1 l HP1.out).mono ?_
   rintro x w2 ho
   obtain ⟨k2, ⟨rfl, hb⟩ | ⟨rfl, hp⟩⟩ := ho.cases
   · exact ⟨rfl, by rw [HPT.out, ← laa]; exact POut.err (HK1.out.trans k2) hb⟩
   have HP2 := hd hp
   have HK2 := hd (HK1.out.trans k2)
   clear hp k2 ho
   go_wp2_with fail
   rw [HX.out]
   refine (d_put1 B w2 (l ++ [Px.mnT]) (Px.dgT n) HP2.out HDG.out).mono ?_
   rintro x w3 ho
   obtain ⟨k3, ⟨rfl, hb⟩ | ⟨rfl, hp⟩⟩ := ho.cases
   · exact ⟨rfl, by rw [HPT.out]; exact ⟨HK2.out.trans k3, .inr ⟨rfl, by simpa using hb⟩⟩⟩
   have HP3 := hd hp
   have HK3 := hd (HK2.out.trans k3)
   clear hp k3 ho
   go_wp2_with fail
   go_end0
   rw [HPT.out]
   exact POut.ok HK3.out (by simpa using HP3.out)
 obtain ⟨n, rfl⟩ : ∃ n : Nat, z = (n : Int) := ⟨z.natAbs, by omega⟩
 have hI : Lib.itoa (n : Int) = Px.decF 20 n := itoa_pos n (by omega)
 have HPT : Hid ((Px.E.num (n : Int)).pt = [Px.dgT n]) := by
  show _ = _
  simp only [Px.E.pt]
  rw [if_neg hz]
  rfl
 rw [hI]
 have HDG := hd (dgT_small n (by omega))
 have hz' : decide ((n : Int) < 0) = false := decide_eq_false hz
 obtain ⟨db, hdb⟩ : ∃ db : ByteArray, db = ⟨(Px.decF 20 n).toArray⟩ := ⟨_, rfl⟩
 have HDB := hd hdb
 rw [← hdb]
 clear hI hdb
 go_wp2_with fail
 rw [HDB.out]
 refine (d_put1 B w1 l (Px.dgT n) HP1.out HDG.out).mono ?_
 rintro x w3 ho
 obtain ⟨k3, ⟨rfl, hb⟩ | ⟨rfl, hp⟩⟩ := ho.cases
 · exact ⟨rfl, by rw [HPT.out]; exact ⟨HK1.out.trans k3, .inr ⟨rfl, by simpa using hb⟩⟩⟩
 have HP3 := hd hp
 have HK3 := hd (HK1.out.trans k3)
 clear hp k3 ho
 go_wp2_with fail
 go_end0
 rw [HPT.out]
 exact POut.ok HK3.out (by simpa using HP3.out)
theorem dbl_len2 (m : UInt8) (s : Lx.Bs) : (dblIn m s).length ≤ 2 * s.length := by
 have := Px.flat_le m s
 exact this
theorem d_quoted_any (w : World) (s : Lx.Bs) (m : UInt8) (he : EnvQ w) (hl : s.length ≤ 1000000000) :
   Calls Tryz.prog 118 #[.string ⟨s.toArray⟩, .string ⟨#[m]⟩] w fun e w' => e = .returned (.string ⟨(Px.dbl m s).toArray⟩) ∧ Below w.heap.size w w' := by
 obtain ⟨mm, hmm⟩ := he.mx
 have HMM := hd hmm
 clear hmm he
 obtain ⟨sb, hsb⟩ : ∃ sb : ByteArray, sb = ⟨s.toArray⟩ := ⟨_, rfl⟩
 have HSL : Hid (sb.data.toList = s) := by show _ = _; rw [hsb]
 have hss : sb.size = s.length := by rw [hsb]; simp [ByteArray.size]
 have hc : Lib.countB sb ⟨#[m]⟩ ≤ s.length := by
  show Lib.count sb.data.toList [m] ≤ _
  rw [HSL.out]
  exact count_le m s
 have HC := hd hc
 rw [← hsb]
 clear hsb hc
 go_enter Tryz.func118, Tryz.ntmps118
 go_wp2_with fail
 have h2s : ((⟨#[m]⟩ : ByteArray) ++ ⟨#[m]⟩).size = 2 := by simp [ByteArray.size]
 have h2d : ((⟨#[m]⟩ : ByteArray) ++ ⟨#[m]⟩).data.toList = [m, m] := by simp
 refine (Tryz.strings_ReplaceAll sb ⟨#[m]⟩ _ mm w (by omega) HMM.out (by simp [ByteArray.size]) (by rw [h2s]; have := HC.out; omega)).mono ?_
 rintro x w1 ⟨rfl, hb1⟩
 rw [HSL.out, h2d, show ((⟨#[m]⟩ : ByteArray).data.toList) = [m] from rfl, replaceAll_dbl]
 have HB1 := hd hb1
 have HD : Hid ((⟨#[m]⟩ : ByteArray) ++ ⟨(dblIn m s).toArray⟩ ++ ⟨#[m]⟩ = ⟨(Px.dbl m s).toArray⟩) := by
  show _ = _
  rw [dbl_in]
  apply ByteArray.ext
  simp
 have hdl := dbl_len2 m s
 have hds : (⟨(dblIn m s).toArray⟩ : ByteArray).size = (dblIn m s).length := by simp [ByteArray.size]
 obtain ⟨db, hdb⟩ : ∃ db : ByteArray, db = ⟨(dblIn m s).toArray⟩ := ⟨_, rfl⟩
 rw [← hdb] at hds HD ⊢
 clear hdb hb1 h2s h2d
 go_wp2_with fail
 go_ret
 refine ⟨?_, HB1.out⟩
 rw [← HD.out]
 rfl
theorem pt0_nm (s : Lx.Bs) (h : s ≠ []) (hl : s.length ≤ 1000000000) : PT0 (Px.nmT s) := by
 refine ⟨?_, rfl, ?_⟩
 · show Px.nameT s ≠ []
   unfold Px.nameT
   split
   · exact h
   simp [Px.dbl]
 show (Px.nameT s).length ≤ _
 unfold Px.nameT
 split
 · omega
 rw [Px.dbl_len]
 have := Px.flat_le 34 s
 omega
theorem pt0_st (s : Lx.Bs) (hl : s.length ≤ 1000000000) : PT0 (Px.stT s) := by
 refine ⟨by show Px.dbl 39 s ≠ []; simp [Px.dbl], rfl, ?_⟩
 show (Px.dbl 39 s).length ≤ _
 rw [Px.dbl_len]
 have := Px.flat_le 39 s
 omega
theorem rWd_byte (b : UInt8) : rWd (b.toNat : Int) = Lx.isWd b := by
 rw [Bool.eq_iff_iff]
 simp [rWd, Lx.isWd, Lx.isDig, Lx.isLet]
 omega
theorem rDig_byte (b : UInt8) : rDig (b.toNat : Int) = Lx.isDig b := by
 rw [Bool.eq_iff_iff]
 simp [rDig, Lx.isDig]
 omega
theorem low_bad (s : Lx.Bs) (j : Nat) (b : UInt8) (h : s[j]? = some b) (hb : Lx.isWd b = false) : Px.lowWord s = false := by
 unfold Px.lowWord
 by_cases hc : Lx.cnt Lx.isWd s = s.length
 · have hm : b ∈ s := List.mem_of_getElem? h
   have := Lx.cnt_all Lx.isWd s b
   rw [hc, List.take_length] at this
   rw [this hm] at hb
   cases hb
 simp [hc]
theorem low_dig (b : UInt8) (r : Lx.Bs) (h : Lx.isDig b = true) : Px.lowWord (b :: r) = false := by
 unfold Px.lowWord
 simp [Px.dig_not_let h]
theorem cnt_full (p : UInt8 → Bool) : ∀ l : Lx.Bs, (∀ b ∈ l, p b = true) → Lx.cnt p l = l.length
 | [], _ => rfl
 | b :: l, h => by
  simp only [Lx.cnt, List.length_cons]
  rw [if_pos (h b (by simp)), cnt_full p l (fun x hx => h x (by simp [hx]))]
theorem low_good (s : Lx.Bs) (h : ∀ b ∈ s, Lx.isWd b = true) (h0 : ∀ b r, s = b :: r → Lx.isDig b = false) (hne : s ≠ []) : Px.lowWord s = (!Lx.hasB Lx.keys (s.map Lx.upB) && s.map Lx.lowB == s) := by
 unfold Px.lowWord
 rw [cnt_full Lx.isWd s h]
 cases s with
 | nil => exact absurd rfl hne
 | cons b r =>
  have h1 := h b (by simp)
  have h2 := h0 b r rfl
  have : Lx.isLet b = true := by unfold Lx.isWd at h1; rw [h2] at h1; simpa using h1
  simp [this]
theorem dec_far (s : ByteArray) (i : Nat) (h : i < s.size) (hb : 128 ≤ s[i].toNat) : 128 ≤ (Utf8.decode s i).1 := by
 by_cases hc : Lx.charN (s.data.toList.drop i) = 0
 · rw [(dec_bad s i h hc).1]; decide
 obtain ⟨_, _, h3⟩ := dec_good s i h hc
 rcases h3 with ⟨_, _, h4⟩ | ⟨_, h4, _⟩
 · omega
 exact h4
theorem wd_ascii {b : UInt8} (h : Lx.isWd b = true) : b.toNat < 128 := by
 simp only [Lx.isWd, Lx.isDig, Lx.isLet, Bool.or_eq_true, decide_eq_true_eq] at h
 omega
theorem IsBare_any (w : World) (t : ByteArray) (he : Env w) (hl : t.size ≤ 30) (hne : t.data.toList ≠ []) :
   Calls Tryz.prog 117 #[.string t] w fun e w' => e = .returned (.bool (Px.lowWord t.data.toList)) ∧ Below w.heap.size w w' := by
 have HE := hd he
 have HNE := hd hne
 have hlen : t.data.toList.length = t.size := by simp
 have HLEN := hd hlen
 clear he hne hlen
 go_enter Tryz.func117, Tryz.ntmps117
 go_wp2_with fail
 go_loopw [8] (fun _ wr => ∃ pos : Nat, pos ≤ t.size ∧ wr = w.iter t pos ∧ Hid (∀ j b, j < pos → t.data.toList[j]? = some b → Lx.isWd b = true) ∧ Hid (0 < pos → ∀ b r, t.data.toList = b :: r → Lx.isDig b = false)) (fun _ wr => t.size - wr.iterPos w.heap.size)
 case atStart => exact ⟨0, by omega, rfl, fun j b hj => by omega, fun h => by omega⟩
 case round =>
  obtain ⟨pos, hpos, rfl, HA, HD⟩ := hrel
  by_cases hlt : pos < t.size
  · have hg : t.data.toList[pos]? = some t[pos] := by
     rw [List.getElem?_eq_getElem (by simp; exact hlt)]
     simp
     rfl
    have HG := hd hg
    by_cases ha : t[pos].toNat < 128
    · have hnx := fun ty => run_next_ascii (P := Tryz.prog) w t pos ty hlt ha
      have HW := hd (rWd_byte t[pos])
      have HDg := hd (rDig_byte t[pos])
      generalize t[pos] = c at *
      go_wp2_with fail
      refine (inWord_any _ _).mono ?_
      rintro e w1 ⟨rfl, h0⟩
      rw [h0, HW.out]
      clear h0 w1
      cases hw : Lx.isWd c with
      | false =>
       have HR := hd (low_bad _ pos c HG.out hw)
       go_wp2_with fail
       go_ret
       rw [HR.out]
       exact ⟨rfl, (Below.refl _ _).alloc (nlr _) _⟩
      | true =>
       by_cases hp0 : pos = 0
       · subst hp0
         go_wp2_with fail
         refine (isDigit_any _ _).mono ?_
         rintro e w1 ⟨rfl, h0⟩
         rw [h0, HDg.out]
         clear h0 w1
         cases hdg : Lx.isDig c with
         | true =>
          have HR : Hid (Px.lowWord t.data.toList = false) := by
           show _ = _
           cases hh : t.data.toList with
           | nil => exact absurd hh HNE.out
           | cons b r =>
            have := HG.out
            rw [hh] at this
            simp at this
            subst this
            exact low_dig b r hdg
          go_wp2_with fail
          go_ret
          rw [HR.out]
          exact ⟨rfl, (Below.refl _ _).alloc (nlr _) _⟩
         | false =>
          have HW2 := hd hw
          have HD2 := hd hdg
          clear hw hdg
          go_wp2_with fail
          go_roundw
          case rel =>
           refine ⟨1, by omega, rfl, ?_, ?_⟩
           · intro j b hj hjb
             have : j = 0 := by omega
             subst this
             rw [HG.out] at hjb
             cases hjb
             exact HW2.out
           intro _ b r hbr
           have := HG.out
           rw [hbr] at this
           simp at this
           subst this
           exact HD2.out
          case measure => rw [World.iterPos_iter, World.iterPos_iter]; omega
       have hp' : ((pos : Int) == 0) = false := by rw [beq_eq_false_iff_ne]; omega
       have HW2 := hd hw
       clear hw
       go_wp2_with fail
       go_roundw
       case rel =>
        refine ⟨pos + 1, by omega, rfl, ?_, fun _ => HD.out (by omega)⟩
        intro j b hj hjb
        by_cases hj2 : j < pos
        · exact HA.out j b hj2 hjb
        have : j = pos := by omega
        subst this
        rw [HG.out] at hjb
        cases hjb
        exact HW2.out
       case measure => rw [World.iterPos_iter, World.iterPos_iter]; omega
    have hnx := fun ty => run_next_any (P := Tryz.prog) w t pos ty hlt
    have hfar := dec_far t pos hlt (by omega)
    have HR : Hid (Px.lowWord t.data.toList = false) := low_bad _ pos t[pos] HG.out (by
     cases hh : Lx.isWd t[pos] with
     | false => rfl
     | true => have := wd_ascii hh; omega)
    have HWF : Hid (rWd ((Utf8.decode t pos).1 : Int) = false) := by show _ = _; simp [rWd]; omega
    generalize (Utf8.decode t pos).1 = rr at *
    generalize (Utf8.decode t pos).2 = rw' at *
    go_wp2_with fail
    refine (inWord_any _ _).mono ?_
    rintro e w1 ⟨rfl, h0⟩
    rw [h0, HWF.out]
    clear h0 w1
    go_wp2_with fail
    go_ret
    rw [HR.out]
    exact ⟨rfl, (Below.refl _ _).alloc (nlr _) _⟩
  have hpe : pos = t.size := by omega
  subst hpe
  have hnx := fun ty => run_next_end (P := Tryz.prog) w t t.size ty (by omega)
  have HAll : Hid (∀ b ∈ t.data.toList, Lx.isWd b = true) := by
   intro b hb
   obtain ⟨j, hj⟩ := List.mem_iff_getElem?.1 hb
   refine HA.out j b ?_ hj
   have := (List.getElem?_eq_some_iff.1 hj).1
   rw [HLEN.out] at this
   exact this
  have HLW : Hid (Px.lowWord t.data.toList = (!Lx.hasB Lx.keys (t.data.toList.map Lx.upB) && t.data.toList.map Lx.lowB == t.data.toList)) := by
   refine low_good _ HAll.out ?_ HNE.out
   refine HD.out ?_
   have := List.length_pos_iff.2 HNE.out
   rw [HLEN.out] at this
   exact this
  have HAs : Hid (∀ (j : Nat) (b : UInt8), t.data.toList[j]? = some b → b.toNat < 128) := fun j b hj => wd_ascii (HAll.out b (List.mem_of_getElem? hj))
  have h1 : (t.toList == []) = false := by rw [Lib.toList_data]; exact beq_eq_false_iff_ne.2 HNE.out
  have HEI : Hid (Env (w.iter t t.size)) := HE.out.below ((Below.refl _ _).alloc (nlr _) _)
  have HBI : Hid (Below w.heap.size w (w.iter t t.size)) := (Below.refl _ _).alloc (nlr _) _
  go_wp2_with fail
  refine (Tryz.strings_ToLower_ascii t _ (by omega) HAs.out).mono ?_
  rintro e w1 ⟨rfl, hb1⟩
  rw [lowerA_eq]
  have HB1 := hd (bm0 HBI.out hb1 HBI.out.size)
  have HE1 := hd (HEI.out.below hb1)
  obtain ⟨lw, hlw⟩ : ∃ lw : ByteArray, lw = ⟨(t.data.toList.map Lx.lowB).toArray⟩ := ⟨_, rfl⟩
  have HLL : Hid (lw.data.toList = t.data.toList.map Lx.lowB) := by show _ = _; rw [hlw]
  rw [← hlw]
  clear hlw hb1 hnx
  by_cases heq : t.data.toList.map Lx.lowB = t.data.toList
  · have heq' : (t.toList == lw.toList) = true := by rw [beq_iff_eq, Lib.toList_data, Lib.toList_data, HLL.out, heq]
    have HR : Hid (Px.lowWord t.data.toList = !Lx.hasB Lx.keys (t.data.toList.map Lx.upB)) := by show _ = _; rw [HLW.out, heq]; simp
    clear heq
    go_wp2_with fail
    refine (Tryz.strings_ToUpper_ascii t _ (by omega) HAs.out).mono ?_
    rintro e w2 ⟨rfl, hb2⟩
    rw [upperA_eq]
    have HB2 := hd (bm0 HB1.out hb2 HB1.out.size)
    have HE2 := hd (HE1.out.below hb2)
    obtain ⟨up, hup⟩ : ∃ up : ByteArray, up = ⟨(t.data.toList.map Lx.upB).toArray⟩ := ⟨_, rfl⟩
    have HUP : Hid (up.data.toList = t.data.toList.map Lx.upB) := by show _ = _; rw [hup]
    rw [← hup]
    clear hup hb2
    go_wp2_with fail
    refine (isKeyword_any up _ HE2.out).mono ?_
    rintro e w3 ⟨rfl, h0⟩
    rw [h0, HUP.out]
    clear h0 w3
    generalize hkk : Lx.hasB Lx.keys (t.data.toList.map Lx.upB) = kk at *
    have HR2 : Hid (Px.lowWord t.data.toList = !kk) := by show _ = _; rw [HR.out]
    go_wp2_with fail
    go_ret
    rw [HR2.out]
    exact ⟨rfl, HB2.out⟩
  have heq' : (t.toList == lw.toList) = false := by rw [beq_eq_false_iff_ne, Lib.toList_data, Lib.toList_data, HLL.out]; exact fun e => heq e.symm
  have HR : Hid (Px.lowWord t.data.toList = false) := by show _ = _; rw [HLW.out]; simp [heq]
  clear heq
  go_wp2_with fail
  go_ret
  rw [HR.out]
  exact ⟨rfl, HB1.out⟩
theorem name_parts {s : Lx.Bs} (h : Px.isName s = true) : s ≠ [] ∧ s.length ≤ 30 := by
 unfold Px.isName at h
 simp only [Bool.and_eq_true, decide_eq_true_eq, Bool.not_eq_true'] at h
 refine ⟨?_, h.2⟩
 intro e
 rw [e] at h
 exact absurd h.1.2 (by decide)
theorem dpn (B : Nat) (w : World) (l : List Px.PT) (s : Lx.Bs) (h : Prs w B l) (he : EnvQ w) (hs : Px.isName s = true) :
   Calls Tryz.prog 67 #[.pointer (some ⟨B, 0, none⟩), .string ⟨s.toArray⟩] w (POut w B (l ++ [Px.nmT s])) := by
 have HP := hd h
 have HE := hd he
 obtain ⟨hne, hl⟩ := name_parts hs
 have HPT := hd (pt0_nm s hne (by omega))
 have hlt := h.lt
 clear h he hs
 go_enter Tryz.func67, Tryz.ntmps67
 go_wp2_with fail
 refine (IsBare_any w ⟨s.toArray⟩ HE.out.envp.env (by simpa [ByteArray.size] using hl) (by rw [show ((⟨s.toArray⟩ : ByteArray).data.toList) = s by simp]; exact hne)).mono ?_
 rintro x w1 ⟨rfl, hb1⟩
 rw [show ((⟨s.toArray⟩ : ByteArray).data.toList) = s by simp]
 have HP1 := hd (HP.out.below hb1)
 have HE1 := hd (HE.out.below hb1)
 have HK1 := hd (Kq.below (B := B) hb1 (by omega))
 clear hb1
 cases hb : Px.lowWord s with
 | true =>
  have hout : (Px.nmT s).out = s := by show Px.nameT s = s; unfold Px.nameT; rw [if_pos hb]
  have HOUT := hd hout
  clear hb hout
  go_wp2_with fail
  have hc := d_put1 B w1 l (Px.nmT s) HP1.out HPT.out
  rw [HOUT.out] at hc
  refine hc.mono ?_
  rintro x w2 ho
  obtain ⟨k2, ⟨rfl, hb⟩ | ⟨rfl, hp⟩⟩ := ho.cases
  · exact ⟨rfl, HK1.out.trans k2, .inr ⟨rfl, hb⟩⟩
  have HP2 := hd hp
  have HK2 := hd (HK1.out.trans k2)
  clear hp k2 ho hc
  go_wp2_with fail
  go_end0
  exact POut.ok HK2.out HP2.out
 | false =>
  have hout : (Px.nmT s).out = Px.dbl 34 s := by show Px.nameT s = _; unfold Px.nameT; rw [if_neg (by rw [hb]; decide)]
  have HOUT := hd hout
  clear hb hout
  go_wp2_with fail
  refine (d_quoted_any w1 s 34 HE1.out (by omega)).mono ?_
  rintro x w2 ⟨rfl, hb2⟩
  have HP2 := hd (HP1.out.below hb2)
  have HK2 := hd (HK1.out.more hb2 (by have := HP1.out.lt; omega))
  rw [← HOUT.out]
  clear hb2
  go_wp2_with fail
  refine (d_put1 B w2 l (Px.nmT s) HP2.out HPT.out).mono ?_
  rintro x w3 ho
  obtain ⟨k3, ⟨rfl, hb⟩ | ⟨rfl, hp⟩⟩ := ho.cases
  · exact ⟨rfl, HK2.out.trans k3, .inr ⟨rfl, hb⟩⟩
  have HP3 := hd hp
  have HK3 := hd (HK2.out.trans k3)
  clear hp k3 ho
  go_wp2_with fail
  go_end0
  exact POut.ok HK3.out HP3.out
theorem taNullNull (w : World) : (Instr.typeAssert (.iface 190 (.agg #[])) 97 190 true).run Tryz.prog w = .ok (.tuple #[.agg #[], .bool true]) w := by kernel_rfl
theorem taNullNumber (w : World) : (Instr.typeAssert (.iface 190 (.agg #[])) 97 194 true).run Tryz.prog w = .ok (.tuple #[.agg #[.int .i64 0], .bool false]) w := by kernel_rfl
theorem taNullUnary (w : World) : (Instr.typeAssert (.iface 190 (.agg #[])) 97 200 true).run Tryz.prog w = .ok (.tuple #[.agg #[.int .i64 0, .nilIface], .bool false]) w := by kernel_rfl
theorem taNullBinary (w : World) : (Instr.typeAssert (.iface 190 (.agg #[])) 97 202 true).run Tryz.prog w = .ok (.tuple #[.agg #[.int .i64 0, .nilIface, .nilIface], .bool false]) w := by kernel_rfl
theorem taBoolNull (a : Value) (w : World) : (Instr.typeAssert (.iface 192 (.agg #[a])) 97 190 true).run Tryz.prog w = .ok (.tuple #[.agg #[], .bool false]) w := by kernel_rfl
theorem taBoolBool (a : Value) (w : World) : (Instr.typeAssert (.iface 192 (.agg #[a])) 97 192 true).run Tryz.prog w = .ok (.tuple #[.agg #[a], .bool true]) w := by kernel_rfl
theorem taBoolNumber (a : Value) (w : World) : (Instr.typeAssert (.iface 192 (.agg #[a])) 97 194 true).run Tryz.prog w = .ok (.tuple #[.agg #[.int .i64 0], .bool false]) w := by kernel_rfl
theorem taBoolUnary (a : Value) (w : World) : (Instr.typeAssert (.iface 192 (.agg #[a])) 97 200 true).run Tryz.prog w = .ok (.tuple #[.agg #[.int .i64 0, .nilIface], .bool false]) w := by kernel_rfl
theorem taBoolBinary (a : Value) (w : World) : (Instr.typeAssert (.iface 192 (.agg #[a])) 97 202 true).run Tryz.prog w = .ok (.tuple #[.agg #[.int .i64 0, .nilIface, .nilIface], .bool false]) w := by kernel_rfl
theorem taNumberNull (a : Value) (w : World) : (Instr.typeAssert (.iface 194 (.agg #[a])) 97 190 true).run Tryz.prog w = .ok (.tuple #[.agg #[], .bool false]) w := by kernel_rfl
theorem taNumberBool (a : Value) (w : World) : (Instr.typeAssert (.iface 194 (.agg #[a])) 97 192 true).run Tryz.prog w = .ok (.tuple #[.agg #[.bool false], .bool false]) w := by kernel_rfl
theorem taNumberNumber (a : Value) (w : World) : (Instr.typeAssert (.iface 194 (.agg #[a])) 97 194 true).run Tryz.prog w = .ok (.tuple #[.agg #[a], .bool true]) w := by kernel_rfl
theorem taNumberUnary (a : Value) (w : World) : (Instr.typeAssert (.iface 194 (.agg #[a])) 97 200 true).run Tryz.prog w = .ok (.tuple #[.agg #[.int .i64 0, .nilIface], .bool false]) w := by kernel_rfl
theorem taNumberBinary (a : Value) (w : World) : (Instr.typeAssert (.iface 194 (.agg #[a])) 97 202 true).run Tryz.prog w = .ok (.tuple #[.agg #[.int .i64 0, .nilIface, .nilIface], .bool false]) w := by kernel_rfl
theorem taStringNull (a : Value) (w : World) : (Instr.typeAssert (.iface 196 (.agg #[a])) 97 190 true).run Tryz.prog w = .ok (.tuple #[.agg #[], .bool false]) w := by kernel_rfl
theorem taStringBool (a : Value) (w : World) : (Instr.typeAssert (.iface 196 (.agg #[a])) 97 192 true).run Tryz.prog w = .ok (.tuple #[.agg #[.bool false], .bool false]) w := by kernel_rfl
theorem taStringNumber (a : Value) (w : World) : (Instr.typeAssert (.iface 196 (.agg #[a])) 97 194 true).run Tryz.prog w = .ok (.tuple #[.agg #[.int .i64 0], .bool false]) w := by kernel_rfl
theorem taStringString (a : Value) (w : World) : (Instr.typeAssert (.iface 196 (.agg #[a])) 97 196 true).run Tryz.prog w = .ok (.tuple #[.agg #[a], .bool true]) w := by kernel_rfl
theorem taStringUnary (a : Value) (w : World) : (Instr.typeAssert (.iface 196 (.agg #[a])) 97 200 true).run Tryz.prog w = .ok (.tuple #[.agg #[.int .i64 0, .nilIface], .bool false]) w := by kernel_rfl
theorem taStringBinary (a : Value) (w : World) : (Instr.typeAssert (.iface 196 (.agg #[a])) 97 202 true).run Tryz.prog w = .ok (.tuple #[.agg #[.int .i64 0, .nilIface, .nilIface], .bool false]) w := by kernel_rfl
theorem taNameNull (a : Value) (w : World) : (Instr.typeAssert (.iface 198 (.agg #[a])) 97 190 true).run Tryz.prog w = .ok (.tuple #[.agg #[], .bool false]) w := by kernel_rfl
theorem taNameBool (a : Value) (w : World) : (Instr.typeAssert (.iface 198 (.agg #[a])) 97 192 true).run Tryz.prog w = .ok (.tuple #[.agg #[.bool false], .bool false]) w := by kernel_rfl
theorem taNameNumber (a : Value) (w : World) : (Instr.typeAssert (.iface 198 (.agg #[a])) 97 194 true).run Tryz.prog w = .ok (.tuple #[.agg #[.int .i64 0], .bool false]) w := by kernel_rfl
theorem taNameString (a : Value) (w : World) : (Instr.typeAssert (.iface 198 (.agg #[a])) 97 196 true).run Tryz.prog w = .ok (.tuple #[.agg #[.string ⟨#[]⟩], .bool false]) w := by kernel_rfl
theorem taNameName (a : Value) (w : World) : (Instr.typeAssert (.iface 198 (.agg #[a])) 97 198 true).run Tryz.prog w = .ok (.tuple #[.agg #[a], .bool true]) w := by kernel_rfl
theorem taNameUnary (a : Value) (w : World) : (Instr.typeAssert (.iface 198 (.agg #[a])) 97 200 true).run Tryz.prog w = .ok (.tuple #[.agg #[.int .i64 0, .nilIface], .bool false]) w := by kernel_rfl
theorem taNameBinary (a : Value) (w : World) : (Instr.typeAssert (.iface 198 (.agg #[a])) 97 202 true).run Tryz.prog w = .ok (.tuple #[.agg #[.int .i64 0, .nilIface, .nilIface], .bool false]) w := by kernel_rfl
theorem taUnaryNull (a b : Value) (w : World) : (Instr.typeAssert (.iface 200 (.agg #[a, b])) 97 190 true).run Tryz.prog w = .ok (.tuple #[.agg #[], .bool false]) w := by kernel_rfl
theorem taUnaryBool (a b : Value) (w : World) : (Instr.typeAssert (.iface 200 (.agg #[a, b])) 97 192 true).run Tryz.prog w = .ok (.tuple #[.agg #[.bool false], .bool false]) w := by kernel_rfl
theorem taUnaryNumber (a b : Value) (w : World) : (Instr.typeAssert (.iface 200 (.agg #[a, b])) 97 194 true).run Tryz.prog w = .ok (.tuple #[.agg #[.int .i64 0], .bool false]) w := by kernel_rfl
theorem taUnaryString (a b : Value) (w : World) : (Instr.typeAssert (.iface 200 (.agg #[a, b])) 97 196 true).run Tryz.prog w = .ok (.tuple #[.agg #[.string ⟨#[]⟩], .bool false]) w := by kernel_rfl
theorem taUnaryName (a b : Value) (w : World) : (Instr.typeAssert (.iface 200 (.agg #[a, b])) 97 198 true).run Tryz.prog w = .ok (.tuple #[.agg #[.string ⟨#[]⟩], .bool false]) w := by kernel_rfl
theorem taUnaryUnary (a b : Value) (w : World) : (Instr.typeAssert (.iface 200 (.agg #[a, b])) 97 200 true).run Tryz.prog w = .ok (.tuple #[.agg #[a, b], .bool true]) w := by kernel_rfl
theorem taBinaryNull (a b c : Value) (w : World) : (Instr.typeAssert (.iface 202 (.agg #[a, b, c])) 97 190 true).run Tryz.prog w = .ok (.tuple #[.agg #[], .bool false]) w := by kernel_rfl
theorem taBinaryBool (a b c : Value) (w : World) : (Instr.typeAssert (.iface 202 (.agg #[a, b, c])) 97 192 true).run Tryz.prog w = .ok (.tuple #[.agg #[.bool false], .bool false]) w := by kernel_rfl
theorem taBinaryNumber (a b c : Value) (w : World) : (Instr.typeAssert (.iface 202 (.agg #[a, b, c])) 97 194 true).run Tryz.prog w = .ok (.tuple #[.agg #[.int .i64 0], .bool false]) w := by kernel_rfl
theorem taBinaryString (a b c : Value) (w : World) : (Instr.typeAssert (.iface 202 (.agg #[a, b, c])) 97 196 true).run Tryz.prog w = .ok (.tuple #[.agg #[.string ⟨#[]⟩], .bool false]) w := by kernel_rfl
theorem taBinaryName (a b c : Value) (w : World) : (Instr.typeAssert (.iface 202 (.agg #[a, b, c])) 97 198 true).run Tryz.prog w = .ok (.tuple #[.agg #[.string ⟨#[]⟩], .bool false]) w := by kernel_rfl
theorem taBinaryUnary (a b c : Value) (w : World) : (Instr.typeAssert (.iface 202 (.agg #[a, b, c])) 97 200 true).run Tryz.prog w = .ok (.tuple #[.agg #[.int .i64 0, .nilIface], .bool false]) w := by kernel_rfl
theorem taBinaryBinary (a b c : Value) (w : World) : (Instr.typeAssert (.iface 202 (.agg #[a, b, c])) 97 202 true).run Tryz.prog w = .ok (.tuple #[.agg #[a, b, c], .bool true]) w := by kernel_rfl
theorem y_levelOfUnary_any (k : Nat) (w : World) : Calls Tryz.prog 228 #[.int .i64 (k : Int)] w fun x w' => x = .returned (.int .i64 (((if k = 20 then 3 else if k = 19 then 8 else 4 : Nat)) : Int)) ∧ w' = w := by
 by_cases h1 : k = 20
 · subst h1
   go_enter Tryz.func228, Tryz.ntmps228
   go_wp2
   go_ret
   exact ⟨rfl, rfl⟩
 by_cases h2 : k = 19
 · subst h2
   go_enter Tryz.func228, Tryz.ntmps228
   go_wp2
   go_ret
   exact ⟨rfl, rfl⟩
 have e1 : ((k : Int) == 20) = false := beq_eq_false_iff_ne.2 (by omega)
 have e2 : ((k : Int) == 19) = false := beq_eq_false_iff_ne.2 (by omega)
 rw [if_neg h1, if_neg h2]
 clear h1 h2
 go_enter Tryz.func228, Tryz.ntmps228
 go_wp2
 go_ret
 exact ⟨rfl, rfl⟩
def PE : Px.E → Prop
 | .num z => -9223372036854775808 ≤ z ∧ z ≤ 9223372036854775807
 | .str s => s.length ≤ 1000000000
 | .nm s => Px.isName s = true
 | .un k e => (19 ≤ k ∧ k ≤ 22) ∧ PE e
 | .bin k a b => (23 ≤ k ∧ k ≤ 36) ∧ PE a ∧ PE b
 | _ => True
theorem y_Level_any (e : Px.E) (w : World) (he : EnvP w) (hp : PE e) :
   Calls Tryz.prog 205 #[ev e] w fun x w' => x = .returned (.int .i64 (e.lvl : Int)) ∧ Below w.heap.size w w' := by
 have HE := hd he
 clear he
 cases e with
 | null =>
  have a1 := taNullNumber
  have a2 := taNullUnary
  have a3 := taNullBinary
  unfold ev
  go_enter Tryz.func205, Tryz.ntmps205
  go_wp2_with fail
  go_ret
  exact ⟨rfl, by go_grown⟩
 | bool b =>
  have a1 := taBoolNumber (.bool b)
  have a2 := taBoolUnary (.bool b)
  have a3 := taBoolBinary (.bool b)
  unfold ev
  go_enter Tryz.func205, Tryz.ntmps205
  go_wp2_with fail
  go_ret
  exact ⟨rfl, by go_grown⟩
 | num z =>
  have a1 := taNumberNumber (.int .i64 z)
  have a2 := taNumberUnary (.int .i64 z)
  have a3 := taNumberBinary (.int .i64 z)
  unfold ev
  by_cases hz : z < 0
  · have HL : Hid ((Px.E.num z).lvl = 8) := if_pos hz
    go_enter Tryz.func205, Tryz.ntmps205
    go_wp2_with fail
    go_ret
    rw [HL.out]
    exact ⟨rfl, by go_grown⟩
  have HL : Hid ((Px.E.num z).lvl = 9) := if_neg hz
  have hz' : decide (z < 0) = false := decide_eq_false hz
  go_enter Tryz.func205, Tryz.ntmps205
  go_wp2_with fail
  go_ret
  rw [HL.out]
  exact ⟨rfl, by go_grown⟩
 | str s =>
  have a1 := taStringNumber (.string ⟨s.toArray⟩)
  have a2 := taStringUnary (.string ⟨s.toArray⟩)
  have a3 := taStringBinary (.string ⟨s.toArray⟩)
  unfold ev
  go_enter Tryz.func205, Tryz.ntmps205
  go_wp2_with fail
  go_ret
  exact ⟨rfl, by go_grown⟩
 | nm s =>
  have a1 := taNameNumber (.string ⟨s.toArray⟩)
  have a2 := taNameUnary (.string ⟨s.toArray⟩)
  have a3 := taNameBinary (.string ⟨s.toArray⟩)
  unfold ev
  go_enter Tryz.func205, Tryz.ntmps205
  go_wp2_with fail
  go_ret
  exact ⟨rfl, by go_grown⟩
 | un k e =>
  obtain ⟨et, ex, hev⟩ := evi e
  have a1 := taUnaryNumber (.int .i64 (k : Int)) (.iface et ex)
  have a2 := taUnaryUnary (.int .i64 (k : Int)) (.iface et ex)
  have HL : Hid ((Px.E.un k e).lvl = if k = 20 then 3 else if k = 19 then 8 else 4) := rfl
  have hevE : ev (.un k e) = .iface 200 (.agg #[.int .i64 (k : Int), .iface et ex]) := by rw [← hev]; rfl
  rw [hevE]
  clear hevE hev hp
  go_enter Tryz.func205, Tryz.ntmps205
  go_wp2_with fail
  refine (y_levelOfUnary_any k _).mono ?_
  rintro x w1 ⟨rfl, h0⟩
  obtain ⟨lv, hlv⟩ : ∃ lv, lv = (Px.E.un k e).lvl := ⟨_, rfl⟩
  have HLV := hd hlv
  rw [h0, ← HL.out, ← hlv]
  clear h0 w1 hlv
  go_wp2_with fail
  go_ret
  rw [← HLV.out]
  exact ⟨rfl, by go_grown⟩
 | bin k a b =>
  obtain ⟨et, ex, hev⟩ := evi a
  obtain ⟨ft, fx, hfv⟩ := evi b
  have a1 := taBinaryNumber (.int .i64 (k : Int)) (.iface et ex) (.iface ft fx)
  have a2 := taBinaryUnary (.int .i64 (k : Int)) (.iface et ex) (.iface ft fx)
  have a3 := taBinaryBinary (.int .i64 (k : Int)) (.iface et ex) (.iface ft fx)
  have HL : Hid ((Px.E.bin k a b).lvl = (Px.sgnT k).2) := rfl
  have HO := hd (opOf_some k hp.1.1 hp.1.2)
  have hevE : ev (.bin k a b) = .iface 202 (.agg #[.int .i64 (k : Int), .iface et ex, .iface ft fx]) := by rw [← hev, ← hfv]; rfl
  rw [hevE]
  clear hevE hev hfv hp
  go_enter Tryz.func205, Tryz.ntmps205
  go_wp2_with fail
  refine (y_operatorOf_any (k : Int) _ (HE.out.below (by go_grown))).mono ?_
  rintro x w1 ⟨rfl, hb1⟩
  rw [HO.out]
  have HB1 := hd (bm0 (B := w.heap.size) (w := w) (by go_grown) hb1 (by simp))
  unfold opAgg
  simp only
  have of2 := ofld2 (.int .i64 (k : Int)) (.string ⟨(Px.sgnT k).1.toArray⟩) (.int .i64 ((Px.sgnT k).2 : Int))
  clear hb1
  generalize (Px.sgnT k).1 = ss at *
  generalize (Px.sgnT k).2 = sl at *
  go_wp2_with fail
  go_ret
  rw [HL.out]
  exact ⟨rfl, HB1.out⟩
theorem y_Sign_any (k : Nat) (w : World) (he : EnvP w) (h1 : 23 ≤ k) (h2 : k ≤ 36) :
   Calls Tryz.prog 206 #[.int .i64 (k : Int)] w fun x w' => x = .returned (.string ⟨(Px.opT k).out.toArray⟩) ∧ Below w.heap.size w w' := by
 have HO := hd (opOf_some k h1 h2)
 have HS : Hid ((Px.opT k).out = (Px.sgnT k).1) := by show _ = _; unfold Px.opT; split <;> rfl
 have HE := hd he
 clear he h1 h2
 go_enter Tryz.func206, Tryz.ntmps206
 go_wp2_with fail
 refine (y_operatorOf_any (k : Int) _ HE.out).mono ?_
 rintro x w1 ⟨rfl, hb1⟩
 rw [HO.out]
 have HB1 := hd hb1
 unfold opAgg
 simp only
 have of1 := ofld1 (.int .i64 (k : Int)) (.string ⟨(Px.sgnT k).1.toArray⟩) (.int .i64 ((Px.sgnT k).2 : Int))
 clear hb1
 generalize (Px.sgnT k).1 = ss at *
 generalize (Px.sgnT k).2 = sl at *
 go_wp2_with fail
 go_ret
 rw [HS.out]
 exact ⟨rfl, HB1.out⟩
def WholeAt (B : Nat) (e : Px.E) : Prop := ∀ (w : World) (l : List Px.PT), Prs w B l → EnvQ w → Calls Tryz.prog 121 #[.pointer (some ⟨B, 0, none⟩), ev e] w (POut w B (l ++ e.pt))
def OperAt (B : Nat) (e : Px.E) : Prop := ∀ (w : World) (l : List Px.PT) (m : Nat), m ≤ 10 → Prs w B l → EnvQ w → Calls Tryz.prog 204 #[.pointer (some ⟨B, 0, none⟩), ev e, .int .i64 (m : Int)] w (POut w B (l ++ Px.brkT e.lvl m e.pt))
theorem d_operand_any (B : Nat) (hB : 12 ≤ B) (e : Px.E) (hp : PE e) (H : WholeAt B e) : OperAt B e := by
 intro w l m hm h he
 have HP := hd h
 have HE := hd he
 have HH := hd H
 have HPE := hd hp
 have hlt := h.lt
 obtain ⟨et, ex, hev⟩ := evi e
 have HEV := hd hev
 rw [hev]
 clear h he H hp hev
 go_enter Tryz.func204, Tryz.ntmps204
 go_wp2_with fail
 rw [← HEV.out]
 refine (y_Level_any e w HE.out.envp HPE.out).mono ?_
 rintro x w1 ⟨rfl, hb1⟩
 have HP1 := hd (HP.out.below hb1)
 have HE1 := hd (HE.out.below hb1)
 have HK1 := hd (Kq.below (B := B) hb1 (by omega))
 have hlt1 := HP1.out.lt
 clear hb1
 by_cases hc : e.lvl < m
 · have HBK : Hid (Px.brkT e.lvl m e.pt = [Px.sgT [40]] ++ (e.pt ++ [Px.sgT [41]])) := if_pos hc
   have hc' : decide ((m : Int) ≤ (e.lvl : Int)) = false := decide_eq_false (by omega)
   generalize e.lvl = lv at *
   rw [HEV.out]
   go_wp2_with fail
   refine (d_put1 B w1 l (Px.sgT [40]) HP1.out (pt0_sg _ (by simp) (by simp))).mono ?_
   rintro x w2 ho
   obtain ⟨k2, ⟨rfl, hb⟩ | ⟨rfl, hp2⟩⟩ := ho.cases
   · exact ⟨rfl, by rw [HBK.out, ← laa]; exact POut.err (HK1.out.trans k2) hb⟩
   have HP2 := hd hp2
   have HK2 := hd (HK1.out.trans k2)
   have HE2 := hd (HE1.out.low k2.1 hB)
   clear hp2 k2 ho
   go_wp2_with fail
   rw [← HEV.out]
   refine (HH.out w2 _ HP2.out HE2.out).mono ?_
   rintro x w3 ho
   obtain ⟨k3, ⟨rfl, hb⟩ | ⟨rfl, hp3⟩⟩ := ho.cases
   · exact ⟨rfl, by rw [HBK.out, ← laa, ← laa]; exact POut.err (HK2.out.trans k3) hb⟩
   have HP3 := hd hp3
   have HK3 := hd (HK2.out.trans k3)
   clear hp3 k3 ho
   rw [HEV.out]
   go_wp2_with fail
   refine (d_put1 B w3 _ (Px.sgT [41]) HP3.out (pt0_sg _ (by simp) (by simp))).mono ?_
   rintro x w4 ho
   obtain ⟨k4, ⟨rfl, hb⟩ | ⟨rfl, hp4⟩⟩ := ho.cases
   · exact ⟨rfl, by rw [HBK.out]; exact ⟨HK3.out.trans k4, .inr ⟨rfl, by simpa [laa] using hb⟩⟩⟩
   have HP4 := hd hp4
   have HK4 := hd (HK3.out.trans k4)
   clear hp4 k4 ho
   go_wp2_with fail
   go_end0
   rw [HBK.out]
   exact POut.ok HK4.out (by simpa [laa] using HP4.out)
 have HBK : Hid (Px.brkT e.lvl m e.pt = e.pt) := if_neg hc
 have hc' : ((m : Int) ≤ (e.lvl : Int)) := by omega
 generalize e.lvl = lv at *
 rw [HEV.out]
 go_wp2_with fail
 rw [← HEV.out]
 refine (HH.out w1 _ HP1.out HE1.out).mono ?_
 rintro x w3 ho
 obtain ⟨k3, ⟨rfl, hb⟩ | ⟨rfl, hp3⟩⟩ := ho.cases
 · exact ⟨rfl, by rw [HBK.out]; exact ⟨HK1.out.trans k3, .inr ⟨rfl, hb⟩⟩⟩
 have HP3 := hd hp3
 have HK3 := hd (HK1.out.trans k3)
 clear hp3 k3 ho
 rw [HEV.out]
 go_wp2_with fail
 go_end0
 rw [HBK.out]
 exact POut.ok HK3.out HP3.out
theorem err2 {w w' : World} {B : Nat} {l a b : List Px.PT} (k : Kq B w w') (h : 2000 < (Px.render (l ++ a)).length) : POut w B (l ++ (a ++ b)) (Flt 0 1) w' := by
 rw [← laa]
 exact POut.err k h
theorem d_put1g (B g : Nat) (w : World) (l : List Px.PT) (t : Px.PT) (hg : g = w.heap.size) (h : Prs w B l) (ht : PT0 t) :
   Calls Tryz.prog 66 #[.pointer (some ⟨B, 0, none⟩), .slice (some ⟨g, 0, none⟩) 1 1] (w.alloc (.cells #[.string ⟨t.out.toArray⟩] 9)) (POut w B (l ++ [t])) := by
 subst hg
 exact d_put1 B w l t h ht
theorem pt_un19 (e : Px.E) : (Px.E.un 19 e).pt = [Px.mnT] ++ Px.brkT e.lvl 8 e.pt := rfl
theorem pt_un20 (e : Px.E) : (Px.E.un 20 e).pt = [Px.kwT Px.kNOT] ++ Px.brkT e.lvl 3 e.pt := rfl
theorem pt_un21 (e : Px.E) : (Px.E.un 21 e).pt = Px.brkT e.lvl 5 e.pt ++ [Px.kwT Px.kIS, Px.kwT Px.kNULL] := rfl
theorem pt_un22 (e : Px.E) : (Px.E.un 22 e).pt = Px.brkT e.lvl 5 e.pt ++ [Px.kwT Px.kIS, Px.kwT Px.kNOT, Px.kwT Px.kNULL] := rfl
theorem d_unary_any (B : Nat) (hB : 12 ≤ B) (k : Nat) (e : Px.E) (hk : 19 ≤ k ∧ k ≤ 22) (H : OperAt B e) (w : World) (l : List Px.PT) (h : Prs w B l) (he : EnvQ w) :
   Calls Tryz.prog 178 #[.pointer (some ⟨B, 0, none⟩), .agg #[.int .i64 (k : Int), ev e]] w (POut w B (l ++ (Px.E.un k e).pt)) := by
 have HP := hd h
 have HE := hd he
 have HH := hd H
 have hlt := h.lt
 obtain ⟨et, ex, hev⟩ := evi e
 have HEV := hd hev
 rw [hev]
 clear h he H hev
 have hk4 : k = 19 ∨ k = 20 ∨ k = 21 ∨ k = 22 := by omega
 clear hk
 have hbx : ∀ k : Nat, Below w.heap.size w (w.alloc (.cells #[.int .i64 (k : Int), .iface et ex] 200)) := fun k => (Below.refl _ _).alloc (nlr _) _
 have HBX := hd hbx
 have HBN : Hid (∀ k : Nat, Blk (w.alloc (.cells #[.int .i64 (k : Int), .iface et ex] 200)) w.heap.size #[.int .i64 (k : Int), .iface et ex] 200) := fun k => Blk.new w _ _
 clear hbx
 rcases hk4 with rfl | rfl | rfl | rfl
 · rw [pt_un19]
   have HP0 := hd (HP.out.below (HBX.out 19))
   have HE0 := hd (HE.out.below (HBX.out 19))
   have HK0 := hd (Kq.below (B := B) (HBX.out 19) (by omega))
   go_enter Tryz.func178, Tryz.ntmps178
   go_wp2_with fail
   refine (d_putMinus_any B _ l HP0.out).mono ?_
   rintro x w2 ho
   obtain ⟨k2, ⟨rfl, hb⟩ | ⟨rfl, hp2⟩⟩ := ho.cases
   · exact ⟨rfl, err2 (HK0.out.trans k2) hb⟩
   have HP2 := hd hp2
   have HK2 := hd (HK0.out.trans k2)
   have HE2 := hd (HE0.out.low k2.1 hB)
   have HB2 := hd (k2.blk (HBN.out 19) (by omega) (by decide))
   have c1 := HB2.out.cell 1
   simp at c1
   clear hp2 k2 ho
   go_wp2_with fail
   rw [← HEV.out]
   refine (HH.out w2 _ 8 (by omega) HP2.out HE2.out).mono ?_
   rintro x w3 ho
   obtain ⟨k3, ⟨rfl, hb⟩ | ⟨rfl, hp3⟩⟩ := ho.cases
   · exact ⟨rfl, HK2.out.trans k3, .inr ⟨rfl, by simpa [laa] using hb⟩⟩
   have HP3 := hd hp3
   have HK3 := hd (HK2.out.trans k3)
   clear hp3 k3 ho
   rw [HEV.out]
   go_wp2_with fail
   go_end0
   exact POut.ok HK3.out (by simpa [laa] using HP3.out)
 · rw [pt_un20]
   have HP0 := hd (HP.out.below (HBX.out 20))
   have HE0 := hd (HE.out.below (HBX.out 20))
   have HK0 := hd (Kq.below (B := B) (HBX.out 20) (by omega))
   go_enter Tryz.func178, Tryz.ntmps178
   go_wp2_with fail
   refine (d_put1g B _ _ l (Px.kwT Px.kNOT) (by simp) HP0.out (pt0_kw _ (by decide) (by decide))).mono ?_
   rintro x w2 ho
   obtain ⟨k2, ⟨rfl, hb⟩ | ⟨rfl, hp2⟩⟩ := ho.cases
   · exact ⟨rfl, err2 (HK0.out.trans k2) hb⟩
   have HP2 := hd hp2
   have HK2 := hd (HK0.out.trans k2)
   have HE2 := hd (HE0.out.low k2.1 hB)
   have HB2 := hd (k2.blk (HBN.out 20) (by omega) (by decide))
   have c1 := HB2.out.cell 1
   simp at c1
   clear hp2 k2 ho
   go_wp2_with fail
   rw [← HEV.out]
   refine (HH.out w2 _ 3 (by omega) HP2.out HE2.out).mono ?_
   rintro x w3 ho
   obtain ⟨k3, ⟨rfl, hb⟩ | ⟨rfl, hp3⟩⟩ := ho.cases
   · exact ⟨rfl, HK2.out.trans k3, .inr ⟨rfl, by simpa [laa] using hb⟩⟩
   have HP3 := hd hp3
   have HK3 := hd (HK2.out.trans k3)
   clear hp3 k3 ho
   rw [HEV.out]
   go_wp2_with fail
   go_end0
   exact POut.ok HK3.out (by simpa [laa] using HP3.out)
 · rw [pt_un21]
   have HP0 := hd (HP.out.below (HBX.out 21))
   have HE0 := hd (HE.out.below (HBX.out 21))
   have HK0 := hd (Kq.below (B := B) (HBX.out 21) (by omega))
   go_enter Tryz.func178, Tryz.ntmps178
   go_wp2_with fail
   rw [← HEV.out] at HP0 HE0 HK0 ⊢
   refine (HH.out _ _ 5 (by omega) HP0.out HE0.out).mono ?_
   rintro x w2 ho
   obtain ⟨k2, ⟨rfl, hb⟩ | ⟨rfl, hp2⟩⟩ := ho.cases
   · exact ⟨rfl, err2 (HK0.out.trans k2) hb⟩
   have HP2 := hd hp2
   have HK2 := hd (HK0.out.trans k2)
   clear hp2 k2 ho
   rw [HEV.out]
   go_wp2_with fail
   refine (d_put2 B w2 _ (Px.kwT Px.kIS) (Px.kwT Px.kNULL) HP2.out (pt0_kw _ (by decide) (by decide)) (pt0_kw _ (by decide) (by decide))).mono ?_
   rintro x w3 ho
   obtain ⟨k3, ⟨rfl, hb⟩ | ⟨rfl, hp3⟩⟩ := ho.cases
   · exact ⟨rfl, HK2.out.trans k3, .inr ⟨rfl, by simpa [laa] using hb⟩⟩
   have HP3 := hd hp3
   have HK3 := hd (HK2.out.trans k3)
   clear hp3 k3 ho
   go_wp2_with fail
   go_end0
   exact POut.ok HK3.out (by simpa [laa] using HP3.out)
 rw [pt_un22]
 have HP0 := hd (HP.out.below (HBX.out 22))
 have HE0 := hd (HE.out.below (HBX.out 22))
 have HK0 := hd (Kq.below (B := B) (HBX.out 22) (by omega))
 go_enter Tryz.func178, Tryz.ntmps178
 go_wp2_with fail
 rw [← HEV.out] at HP0 HE0 HK0 ⊢
 refine (HH.out _ _ 5 (by omega) HP0.out HE0.out).mono ?_
 rintro x w2 ho
 obtain ⟨k2, ⟨rfl, hb⟩ | ⟨rfl, hp2⟩⟩ := ho.cases
 · exact ⟨rfl, err2 (HK0.out.trans k2) hb⟩
 have HP2 := hd hp2
 have HK2 := hd (HK0.out.trans k2)
 clear hp2 k2 ho
 rw [HEV.out]
 go_wp2_with fail
 refine (d_put3 B w2 _ (Px.kwT Px.kIS) (Px.kwT Px.kNOT) (Px.kwT Px.kNULL) HP2.out (pt0_kw _ (by decide) (by decide)) (pt0_kw _ (by decide) (by decide)) (pt0_kw _ (by decide) (by decide))).mono ?_
 rintro x w3 ho
 obtain ⟨k3, ⟨rfl, hb⟩ | ⟨rfl, hp3⟩⟩ := ho.cases
 · exact ⟨rfl, HK2.out.trans k3, .inr ⟨rfl, by simpa [laa] using hb⟩⟩
 have HP3 := hd hp3
 have HK3 := hd (HK2.out.trans k3)
 clear hp3 k3 ho
 go_wp2_with fail
 go_end0
 exact POut.ok HK3.out (by simpa [laa] using HP3.out)
theorem pt0_op (k : Nat) (h1 : 23 ≤ k) (h2 : k ≤ 36) : PT0 (Px.opT k) := by
 rcases Px.sgn_cases h1 h2 with rfl | rfl | rfl | rfl | rfl | rfl | rfl | rfl | rfl | rfl | rfl | rfl | rfl | rfl <;> exact ⟨by decide, by decide, by decide⟩
theorem pt_bin (k : Nat) (a b : Px.E) : (Px.E.bin k a b).pt = Px.brkT a.lvl (Px.leftOf k) a.pt ++ ([Px.opT k] ++ Px.brkT b.lvl ((Px.sgnT k).2 + 1) b.pt) := rfl
theorem d_binary_any (B : Nat) (hB : 12 ≤ B) (k : Nat) (a b : Px.E) (hp : PE (.bin k a b)) (HA : OperAt B a) (HB : OperAt B b) (w : World) (l : List Px.PT) (h : Prs w B l) (he : EnvQ w) :
   Calls Tryz.prog 179 #[.pointer (some ⟨B, 0, none⟩), .agg #[.int .i64 (k : Int), ev a, ev b]] w (POut w B (l ++ (Px.E.bin k a b).pt)) := by
 have HP := hd h
 have HE := hd he
 have HHA := hd HA
 have HHB := hd HB
 have hlt := h.lt
 have HPE := hd hp
 have hk1 := hp.1.1
 have hk2 := hp.1.2
 obtain ⟨et, ex, hev⟩ := evi a
 obtain ⟨ft, fx, hfv⟩ := evi b
 have HEV := hd hev
 have HFV := hd hfv
 rw [hev, hfv]
 have HEB : Hid (ev (.bin k a b) = .iface 202 (.agg #[.int .i64 (k : Int), .iface et ex, .iface ft fx])) := by show _ = _; rw [← hev, ← hfv]; rfl
 have hbx : Below w.heap.size w (w.alloc (.cells #[.int .i64 (k : Int), .iface et ex, .iface ft fx] 202)) := (Below.refl _ _).alloc (nlr _) _
 have HP0 := hd (HP.out.below hbx)
 have HE0 := hd (HE.out.below hbx)
 have HK0 := hd (Kq.below (B := B) hbx (by omega))
 have HBN := hd (Blk.new w #[.int .i64 (k : Int), .iface et ex, .iface ft fx] 202)
 rw [pt_bin]
 clear h he HA HB hev hfv hbx hp
 go_enter Tryz.func179, Tryz.ntmps179
 go_wp2_with fail
 rw [← HEB.out]
 refine (y_Level_any (.bin k a b) _ HE0.out.envp HPE.out).mono ?_
 rintro x w1 ⟨rfl, hb1⟩
 have hLv : (Px.E.bin k a b).lvl = (Px.sgnT k).2 := rfl
 rw [hLv, HEB.out]
 have HP1 := hd (HP0.out.below hb1)
 have HE1 := hd (HE0.out.below hb1)
 have HK1 := hd (HK0.out.more hb1 (by have := HP0.out.lt; omega))
 have HB1 := hd (HBN.out.below hb1 HBN.out.lt)
 have HSG := hd (Px.sgn_lvl hk1 hk2)
 have HLO : Hid (Px.leftOf k = if (Px.sgnT k).2 = 4 then 5 else (Px.sgnT k).2) := rfl
 have c0 := HB1.out.cell 0
 have c1 := HB1.out.cell 1
 have c2 := HB1.out.cell 2
 simp at c0 c1 c2
 have hl1 := HB1.out.lt
 clear hb1 hLv
 obtain ⟨lv, hlv⟩ : ∃ lv, lv = (Px.sgnT k).2 := ⟨_, rfl⟩
 have HLV := hd hlv
 rw [← hlv] at HSG HLO ⊢
 clear hlv
 have hlv10 : lv ≤ 7 := by have := HSG.out; omega
 by_cases h4 : lv = 4
 · subst h4
   have HLE : Hid (Px.leftOf k = 5) := HLO.out
   go_wp2_with fail
   rw [← HEV.out]
   refine (HHA.out w1 l 5 (by omega) HP1.out HE1.out).mono ?_
   rintro x w2 ho
   obtain ⟨k2, ⟨rfl, hb⟩ | ⟨rfl, hp2⟩⟩ := ho.cases
   · exact ⟨rfl, by rw [HLE.out]; exact err2 (HK1.out.trans k2) hb⟩
   have HP2 := hd hp2
   have HK2 := hd (HK1.out.trans k2)
   have HE2 := hd (HE1.out.low k2.1 hB)
   have HB2 := hd (k2.blk HB1.out (by omega) (by decide))
   have c0 := HB2.out.cell 0
   have c2 := HB2.out.cell 2
   simp at c0 c2
   have hl2 := HB2.out.lt
   clear hp2 k2 ho
   rw [HEV.out]
   go_wp2_with fail
   refine (y_Sign_any k w2 HE2.out.envp hk1 hk2).mono ?_
   rintro x w3 ⟨rfl, hb3⟩
   have HP3 := hd (HP2.out.below hb3)
   have HK3 := hd (HK2.out.more hb3 (by have := HP2.out.lt; omega))
   have HE3 := hd (HE2.out.below hb3)
   have HB3 := hd (HB2.out.below hb3 HB2.out.lt)
   clear hb3
   go_wp2_with fail
   refine (d_put1 B w3 _ (Px.opT k) HP3.out (pt0_op k hk1 hk2)).mono ?_
   rintro x w4 ho
   obtain ⟨k4, ⟨rfl, hb⟩ | ⟨rfl, hp4⟩⟩ := ho.cases
   · refine ⟨rfl, ?_⟩
     rw [HLE.out, ← laa, List.append_cons]
     exact POut.err (HK3.out.trans k4) hb
   have HP4 := hd hp4
   have HK4 := hd (HK3.out.trans k4)
   have HE4 := hd (HE3.out.low k4.1 hB)
   have HB4 := hd (k4.blk HB3.out (by omega) (by decide))
   have c2' := HB4.out.cell 2
   simp at c2'
   clear hp4 k4 ho
   go_wp2_with fail
   rw [← HFV.out]
   refine (HHB.out w4 _ (4 + 1) (by omega) HP4.out HE4.out).mono ?_
   rintro x w5 ho
   obtain ⟨k5, ⟨rfl, hb⟩ | ⟨rfl, hp5⟩⟩ := ho.cases
   · refine ⟨rfl, HK4.out.trans k5, .inr ⟨rfl, ?_⟩⟩
     rw [HLE.out, ← HLV.out]
     simpa [laa] using hb
   have HP5 := hd hp5
   have HK5 := hd (HK4.out.trans k5)
   clear hp5 k5 ho
   rw [HFV.out]
   go_wp2_with fail
   go_end0
   refine POut.ok HK5.out ?_
   rw [HLE.out, ← HLV.out]
   simpa [laa] using HP5.out
 have HLE : Hid (Px.leftOf k = lv) := by show _ = _; rw [HLO.out, if_neg h4]
 have h4' : ((lv : Int) == 4) = false := beq_eq_false_iff_ne.2 (by omega)
 clear h4
 go_wp2_with fail
 rw [← HEV.out]
 refine (HHA.out w1 l lv (by omega) HP1.out HE1.out).mono ?_
 rintro x w2 ho
 obtain ⟨k2, ⟨rfl, hb⟩ | ⟨rfl, hp2⟩⟩ := ho.cases
 · exact ⟨rfl, by rw [HLE.out]; exact err2 (HK1.out.trans k2) hb⟩
 have HP2 := hd hp2
 have HK2 := hd (HK1.out.trans k2)
 have HE2 := hd (HE1.out.low k2.1 hB)
 have HB2 := hd (k2.blk HB1.out (by omega) (by decide))
 have c0 := HB2.out.cell 0
 have c2 := HB2.out.cell 2
 simp at c0 c2
 have hl2 := HB2.out.lt
 clear hp2 k2 ho
 rw [HEV.out]
 go_wp2_with fail
 refine (y_Sign_any k w2 HE2.out.envp hk1 hk2).mono ?_
 rintro x w3 ⟨rfl, hb3⟩
 have HP3 := hd (HP2.out.below hb3)
 have HK3 := hd (HK2.out.more hb3 (by have := HP2.out.lt; omega))
 have HE3 := hd (HE2.out.below hb3)
 have HB3 := hd (HB2.out.below hb3 HB2.out.lt)
 clear hb3
 go_wp2_with fail
 refine (d_put1 B w3 _ (Px.opT k) HP3.out (pt0_op k hk1 hk2)).mono ?_
 rintro x w4 ho
 obtain ⟨k4, ⟨rfl, hb⟩ | ⟨rfl, hp4⟩⟩ := ho.cases
 · refine ⟨rfl, ?_⟩
   rw [HLE.out, ← laa, List.append_cons]
   exact POut.err (HK3.out.trans k4) hb
 have HP4 := hd hp4
 have HK4 := hd (HK3.out.trans k4)
 have HE4 := hd (HE3.out.low k4.1 hB)
 have HB4 := hd (k4.blk HB3.out (by omega) (by decide))
 have c2' := HB4.out.cell 2
 simp at c2'
 clear hp4 k4 ho
 go_wp2_with fail
 rw [← HFV.out]
 refine (HHB.out w4 _ (lv + 1) (by omega) HP4.out HE4.out).mono ?_
 rintro x w5 ho
 obtain ⟨k5, ⟨rfl, hb⟩ | ⟨rfl, hp5⟩⟩ := ho.cases
 · refine ⟨rfl, HK4.out.trans k5, .inr ⟨rfl, ?_⟩⟩
   rw [HLE.out, ← HLV.out]
   simpa [laa] using hb
 have HP5 := hd hp5
 have HK5 := hd (HK4.out.trans k5)
 clear hp5 k5 ho
 rw [HFV.out]
 go_wp2_with fail
 go_end0
 refine POut.ok HK5.out ?_
 rw [HLE.out, ← HLV.out]
 simpa [laa] using HP5.out
theorem d_whole_null (B : Nat) (hB : 12 ≤ B) (w : World) (l : List Px.PT) (h : Prs w B l) (he : EnvQ w) :
   Calls Tryz.prog 121 #[.pointer (some ⟨B, 0, none⟩), .iface 190 (.agg #[])] w (POut w B (l ++ (Px.E.null).pt)) := by
 have hlt := h.lt
 have hbx : Below w.heap.size w (w.alloc (.cells #[] 190)) := (Below.refl _ _).alloc (nlr _) _
 have HP0 := hd (h.below hbx)
 have HE0 := hd (he.below hbx)
 have HK0 := hd (Kq.below (B := B) hbx (by omega))
 clear h he hbx
 have a0 := taNullNull
 go_enter Tryz.func121, Tryz.ntmps121
 go_wp2_with fail
 refine (d_put1g B _ _ l (Px.kwT Px.kNULL) (by simp) HP0.out (pt0_kw _ (by decide) (by decide))).mono ?_
 rintro x w2 ho
 obtain ⟨k2, ⟨rfl, hb⟩ | ⟨rfl, hp2⟩⟩ := ho.cases
 · exact ⟨rfl, HK0.out.trans k2, .inr ⟨rfl, hb⟩⟩
 have HP2 := hd hp2
 have HK2 := hd (HK0.out.trans k2)
 clear hp2 k2 ho
 go_wp2_with fail
 go_end0
 exact POut.ok HK2.out HP2.out
theorem d_whole_bool (B : Nat) (hB : 12 ≤ B) (b : Bool) (w : World) (l : List Px.PT) (h : Prs w B l) (he : EnvQ w) :
   Calls Tryz.prog 121 #[.pointer (some ⟨B, 0, none⟩), .iface 192 (.agg #[.bool b])] w (POut w B (l ++ (Px.E.bool b).pt)) := by
 have hlt := h.lt
 have hbx : Below w.heap.size w (w.alloc (.cells #[.bool b] 192)) := (Below.refl _ _).alloc (nlr _) _
 have HP0 := hd (h.below hbx)
 have HE0 := hd (he.below hbx)
 have HK0 := hd (Kq.below (B := B) hbx (by omega))
 clear h he hbx
 have a0 := taBoolNull (.bool b)
 have a1 := taBoolBool (.bool b)
 go_enter Tryz.func121, Tryz.ntmps121
 go_wp2_with fail
 refine (d_truth_any B _ l b HP0.out).mono ?_
 rintro x w2 ho
 obtain ⟨k2, ⟨rfl, hb⟩ | ⟨rfl, hp2⟩⟩ := ho.cases
 · exact ⟨rfl, HK0.out.trans k2, .inr ⟨rfl, hb⟩⟩
 have HP2 := hd hp2
 have HK2 := hd (HK0.out.trans k2)
 clear hp2 k2 ho
 go_wp2_with fail
 go_end0
 exact POut.ok HK2.out HP2.out
theorem d_whole_num (B : Nat) (hB : 12 ≤ B) (z : Int) (w : World) (l : List Px.PT) (h : Prs w B l) (he : EnvQ w) (h1 : -9223372036854775808 ≤ z) (h2 : z ≤ 9223372036854775807) :
   Calls Tryz.prog 121 #[.pointer (some ⟨B, 0, none⟩), .iface 194 (.agg #[.int .i64 z])] w (POut w B (l ++ (Px.E.num z).pt)) := by
 have hlt := h.lt
 have hbx : Below w.heap.size w (w.alloc (.cells #[.int .i64 z] 194)) := (Below.refl _ _).alloc (nlr _) _
 have HP0 := hd (h.below hbx)
 have HE0 := hd (he.below hbx)
 have HK0 := hd (Kq.below (B := B) hbx (by omega))
 clear h he hbx
 have a0 := taNumberNull (.int .i64 z)
 have a1 := taNumberBool (.int .i64 z)
 have a2 := taNumberNumber (.int .i64 z)
 go_enter Tryz.func121, Tryz.ntmps121
 go_wp2_with fail
 refine (d_number_any B _ l z HP0.out HE0.out h1 h2).mono ?_
 rintro x w2 ho
 obtain ⟨k2, ⟨rfl, hb⟩ | ⟨rfl, hp2⟩⟩ := ho.cases
 · exact ⟨rfl, HK0.out.trans k2, .inr ⟨rfl, hb⟩⟩
 have HP2 := hd hp2
 have HK2 := hd (HK0.out.trans k2)
 clear hp2 k2 ho
 go_wp2_with fail
 go_end0
 exact POut.ok HK2.out HP2.out
theorem d_whole_str (B : Nat) (hB : 12 ≤ B) (s : Lx.Bs) (w : World) (l : List Px.PT) (h : Prs w B l) (he : EnvQ w) (hs : s.length ≤ 1000000000) :
   Calls Tryz.prog 121 #[.pointer (some ⟨B, 0, none⟩), .iface 196 (.agg #[.string ⟨s.toArray⟩])] w (POut w B (l ++ (Px.E.str s).pt)) := by
 have hlt := h.lt
 have hbx : Below w.heap.size w (w.alloc (.cells #[.string ⟨s.toArray⟩] 196)) := (Below.refl _ _).alloc (nlr _) _
 have HP0 := hd (h.below hbx)
 have HE0 := hd (he.below hbx)
 have HK0 := hd (Kq.below (B := B) hbx (by omega))
 clear h he hbx
 have a0 := taStringNull (.string ⟨s.toArray⟩)
 have a1 := taStringBool (.string ⟨s.toArray⟩)
 have a2 := taStringNumber (.string ⟨s.toArray⟩)
 have a3 := taStringString (.string ⟨s.toArray⟩)
 go_enter Tryz.func121, Tryz.ntmps121
 go_wp2_with fail
 refine (d_quoted_any _ s 39 HE0.out (by omega)).mono ?_
 rintro x w1 ⟨rfl, hb1⟩
 have HP1 := hd (HP0.out.below hb1)
 have HK1 := hd (HK0.out.more hb1 (by have := HP0.out.lt; omega))
 clear hb1 HK0
 have HK0 := HK1
 go_wp2_with fail
 refine (d_put1 B w1 l (Px.stT s) HP1.out (pt0_st s hs)).mono ?_
 rintro x w2 ho
 obtain ⟨k2, ⟨rfl, hb⟩ | ⟨rfl, hp2⟩⟩ := ho.cases
 · exact ⟨rfl, HK0.out.trans k2, .inr ⟨rfl, hb⟩⟩
 have HP2 := hd hp2
 have HK2 := hd (HK0.out.trans k2)
 clear hp2 k2 ho
 go_wp2_with fail
 go_end0
 exact POut.ok HK2.out HP2.out
theorem d_whole_nm (B : Nat) (hB : 12 ≤ B) (s : Lx.Bs) (w : World) (l : List Px.PT) (h : Prs w B l) (he : EnvQ w) (hs : Px.isName s = true) :
   Calls Tryz.prog 121 #[.pointer (some ⟨B, 0, none⟩), .iface 198 (.agg #[.string ⟨s.toArray⟩])] w (POut w B (l ++ (Px.E.nm s).pt)) := by
 have hlt := h.lt
 have hbx : Below w.heap.size w (w.alloc (.cells #[.string ⟨s.toArray⟩] 198)) := (Below.refl _ _).alloc (nlr _) _
 have HP0 := hd (h.below hbx)
 have HE0 := hd (he.below hbx)
 have HK0 := hd (Kq.below (B := B) hbx (by omega))
 clear h he hbx
 have a0 := taNameNull (.string ⟨s.toArray⟩)
 have a1 := taNameBool (.string ⟨s.toArray⟩)
 have a2 := taNameNumber (.string ⟨s.toArray⟩)
 have a3 := taNameString (.string ⟨s.toArray⟩)
 have a4 := taNameName (.string ⟨s.toArray⟩)
 go_enter Tryz.func121, Tryz.ntmps121
 go_wp2_with fail
 refine (dpn B _ l s HP0.out HE0.out hs).mono ?_
 rintro x w2 ho
 obtain ⟨k2, ⟨rfl, hb⟩ | ⟨rfl, hp2⟩⟩ := ho.cases
 · exact ⟨rfl, HK0.out.trans k2, .inr ⟨rfl, hb⟩⟩
 have HP2 := hd hp2
 have HK2 := hd (HK0.out.trans k2)
 clear hp2 k2 ho
 go_wp2_with fail
 go_end0
 exact POut.ok HK2.out HP2.out
theorem d_whole_un (B : Nat) (hB : 12 ≤ B) (k : Nat) (e : Px.E) (hk : 19 ≤ k ∧ k ≤ 22) (H : OperAt B e) (w : World) (l : List Px.PT) (h : Prs w B l) (he : EnvQ w) :
   Calls Tryz.prog 121 #[.pointer (some ⟨B, 0, none⟩), ev (Px.E.un k e)] w (POut w B (l ++ (Px.E.un k e).pt)) := by
 have hlt := h.lt
 have HH := hd H
 have HK := hd hk
 obtain ⟨et, ex, hev⟩ := evi e
 have HEV := hd hev
 have hevE : ev (.un k e) = .iface 200 (.agg #[.int .i64 (k : Int), .iface et ex]) := by rw [← hev]; rfl
 rw [hevE]
 clear H hk hev hevE
 have hbx : Below w.heap.size w (w.alloc (.cells #[.int .i64 (k : Int), .iface et ex] 200)) := (Below.refl _ _).alloc (nlr _) _
 have HP0 := hd (h.below hbx)
 have HE0 := hd (he.below hbx)
 have HK0 := hd (Kq.below (B := B) hbx (by omega))
 clear h he hbx
 have a0 := taUnaryNull (.int .i64 (k : Int)) (.iface et ex)
 have a1 := taUnaryBool (.int .i64 (k : Int)) (.iface et ex)
 have a2 := taUnaryNumber (.int .i64 (k : Int)) (.iface et ex)
 have a3 := taUnaryString (.int .i64 (k : Int)) (.iface et ex)
 have a4 := taUnaryName (.int .i64 (k : Int)) (.iface et ex)
 have a5 := taUnaryUnary (.int .i64 (k : Int)) (.iface et ex)
 go_enter Tryz.func121, Tryz.ntmps121
 go_wp2_with fail
 have hcc := d_unary_any B hB k e HK.out HH.out _ l HP0.out HE0.out
 rw [HEV.out] at hcc
 refine hcc.mono ?_
 clear hcc
 rintro x w2 ho
 obtain ⟨k2, ⟨rfl, hb⟩ | ⟨rfl, hp2⟩⟩ := ho.cases
 · exact ⟨rfl, HK0.out.trans k2, .inr ⟨rfl, hb⟩⟩
 have HP2 := hd hp2
 have HK2 := hd (HK0.out.trans k2)
 clear hp2 k2 ho
 go_wp2_with fail
 go_end0
 exact POut.ok HK2.out HP2.out
theorem d_whole_bin (B : Nat) (hB : 12 ≤ B) (k : Nat) (a b : Px.E) (hp : PE (.bin k a b)) (HA : OperAt B a) (HB : OperAt B b) (w : World) (l : List Px.PT) (h : Prs w B l) (he : EnvQ w) :
   Calls Tryz.prog 121 #[.pointer (some ⟨B, 0, none⟩), ev (Px.E.bin k a b)] w (POut w B (l ++ (Px.E.bin k a b).pt)) := by
 have hlt := h.lt
 have HHA := hd HA
 have HHB := hd HB
 have HPE := hd hp
 obtain ⟨et, ex, hev⟩ := evi a
 obtain ⟨ft, fx, hfv⟩ := evi b
 have HEV := hd hev
 have HFV := hd hfv
 have hevE : ev (.bin k a b) = .iface 202 (.agg #[.int .i64 (k : Int), .iface et ex, .iface ft fx]) := by rw [← hev, ← hfv]; rfl
 rw [hevE]
 clear HA HB hp hev hfv hevE
 have hbx : Below w.heap.size w (w.alloc (.cells #[.int .i64 (k : Int), .iface et ex, .iface ft fx] 202)) := (Below.refl _ _).alloc (nlr _) _
 have HP0 := hd (h.below hbx)
 have HE0 := hd (he.below hbx)
 have HK0 := hd (Kq.below (B := B) hbx (by omega))
 clear h he hbx
 have a0 := taBinaryNull (.int .i64 (k : Int)) (.iface et ex) (.iface ft fx)
 have a1 := taBinaryBool (.int .i64 (k : Int)) (.iface et ex) (.iface ft fx)
 have a2 := taBinaryNumber (.int .i64 (k : Int)) (.iface et ex) (.iface ft fx)
 have a3 := taBinaryString (.int .i64 (k : Int)) (.iface et ex) (.iface ft fx)
 have a4 := taBinaryName (.int .i64 (k : Int)) (.iface et ex) (.iface ft fx)
 have a5 := taBinaryUnary (.int .i64 (k : Int)) (.iface et ex) (.iface ft fx)
 have a6 := taBinaryBinary (.int .i64 (k : Int)) (.iface et ex) (.iface ft fx)
 go_enter Tryz.func121, Tryz.ntmps121
 go_wp2_with fail
 have hcc := d_binary_any B hB k a b HPE.out HHA.out HHB.out _ l HP0.out HE0.out
 rw [HEV.out, HFV.out] at hcc
 refine hcc.mono ?_
 clear hcc
 rintro x w2 ho
 obtain ⟨k2, ⟨rfl, hb⟩ | ⟨rfl, hp2⟩⟩ := ho.cases
 · exact ⟨rfl, HK0.out.trans k2, .inr ⟨rfl, hb⟩⟩
 have HP2 := hd hp2
 have HK2 := hd (HK0.out.trans k2)
 clear hp2 k2 ho
 go_wp2_with fail
 go_end0
 exact POut.ok HK2.out HP2.out
theorem d_whole_any (B : Nat) (hB : 12 ≤ B) : ∀ (e : Px.E), PE e → WholeAt B e
 | .null, _ => fun w l h he => d_whole_null B hB w l h he
 | .bool b, _ => fun w l h he => d_whole_bool B hB b w l h he
 | .num z, hp => fun w l h he => d_whole_num B hB z w l h he hp.1 hp.2
 | .str s, hp => fun w l h he => d_whole_str B hB s w l h he hp
 | .nm s, hp => fun w l h he => d_whole_nm B hB s w l h he hp
 | .un k e, hp => fun w l h he => d_whole_un B hB k e hp.1 (d_operand_any B hB e hp.2 (d_whole_any B hB e hp.2)) w l h he
 | .bin k a b, hp => fun w l h he => d_whole_bin B hB k a b hp (d_operand_any B hB a hp.2.1 (d_whole_any B hB a hp.2.1)) (d_operand_any B hB b hp.2.2 (d_whole_any B hB b hp.2.2)) w l h he
end Go.Proofs.YtkcakbgcfnhgaaaGreatDoor
