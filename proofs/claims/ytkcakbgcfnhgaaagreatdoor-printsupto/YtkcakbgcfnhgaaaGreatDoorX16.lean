/- Parts of the proof: Wu Yb Yc Yd Ye CodeC CodeD Yf Yg -/
import Derived.Test.YtkcakbgcfnhgaaaGreatDoorX15
import Derived.Test.YtkcakbgcfnhgaaaGreatDoorX6
import Derived.Lib.AppendIntMem
import Derived.Test.YtkcakbgcfnhgaaaGreatDoorX2
import Derived.Laws.RangeAny
namespace Go.Proofs.YtkcakbgcfnhgaaaGreatDoor
set_option linter.unusedSimpArgs false
set_option linter.unusedVariables false
set_option maxRecDepth 100000
set_option maxHeartbeats 16000000
open Go.RowKit
theorem rSt_is (xk : Int) (xt : Lx.Bs) (xn xc : Int) (r : List Px.Nd) : Px.rSt (⟨xk, xt, xn, xc⟩ :: r) = if xn = 0 ∧ Px.isName xt = true then
   if xk = 1 then createR xt xc r else if xk = 3 then (if xc = 0 then some (.drop xt, r) else none) else if xk = 4 then insertR xt xc r else if xk = 6 then (if xc < 0 then none else (Px.rWhere xc.toNat r).bind fun y => if y.2.1 = 0 then some (.delete xt y.1, y.2.2) else none) else if xk = 7 then updateR xt xc r else if xk = 9 then selectR xt xc r else none else none := rfl
theorem delete_is (t : Lx.Bs) (xc : Int) (r : List Px.Nd) : (if xc < 0 then none else (Px.rWhere xc.toNat r).bind fun y => if y.2.1 = 0 then some (Px.St.delete t y.1, y.2.2) else none) = deleteR t xc r := by
 unfold deleteR
 by_cases h : xc < 0
 · rw [if_pos h, rWh_neg xc r h]
   simp only [Option.bind_some]
   rw [if_neg (by omega)]
 · rw [if_neg h]
   obtain ⟨m, rfl⟩ : ∃ m : Nat, xc = (m : Int) := ⟨xc.toNat, by omega⟩
   rw [Int.toNat_natCast, rWh_nat m r]
   cases hr : rWh (m : Int) r with
   | none => rfl
   | some z =>
    obtain ⟨o, k', l'⟩ := z
    have := rWh_pos m r o k' l' hr
    simp only [Option.map_some, Option.bind_some]
    by_cases hc : k' = 0
    · subst hc; simp
    · rw [if_neg (by omega), if_neg hc]
theorem createR_form {B : Nat} {t : Lx.Bs} {xc : Int} {r l6 : List Px.Nd} {a : Px.St} {v : Value} {w : World} (p1 : createR t xc r = some (a, l6)) (hv : partV B 87 a v w) : ∃ u, v = .agg #[.string ⟨t.toArray⟩, u] := by
 unfold createR at p1
 split at p1
 · simp only [Option.map_eq_some_iff] at p1
   obtain ⟨z, _, p2⟩ := p1
   cases p2
   obtain ⟨u, hu, _⟩ := hv
   cases hu
   exact ⟨u, rfl⟩
 · cases p1
theorem insertR_form {B : Nat} {t : Lx.Bs} {xc : Int} {r l6 : List Px.Nd} {a : Px.St} {v : Value} {w : World} (p1 : insertR t xc r = some (a, l6)) (hv : partV B 94 a v w) : ∃ u, v = .agg #[.string ⟨t.toArray⟩, u] := by
 unfold insertR at p1
 split at p1
 · simp only [Option.map_eq_some_iff] at p1
   obtain ⟨z, _, p2⟩ := p1
   cases p2
   obtain ⟨u, hu, _⟩ := hv
   cases hu
   exact ⟨u, rfl⟩
 · cases p1
theorem deleteR_form {B : Nat} {t : Lx.Bs} {xc : Int} {r l6 : List Px.Nd} {a : Px.St} {v : Value} {w : World} (p1 : deleteR t xc r = some (a, l6)) (hv : partV B 99 a v w) : ∃ u, v = .agg #[.string ⟨t.toArray⟩, u] := by
 unfold deleteR at p1
 simp only [Option.bind_eq_some_iff] at p1
 obtain ⟨z, _, p2⟩ := p1
 split at p2
 · cases p2
   have hv : Value.iface _ v = _ := hv
   cases hv
   exact ⟨_, rfl⟩
 · cases p2
theorem updateR_form {B : Nat} {t : Lx.Bs} {xc : Int} {r l6 : List Px.Nd} {a : Px.St} {v : Value} {w : World} (p1 : updateR t xc r = some (a, l6)) (hv : partV B 104 a v w) : ∃ u u2, v = .agg #[.string ⟨t.toArray⟩, u, u2] := by
 unfold updateR at p1
 split at p1
 · cases p1
 · simp only [Option.bind_eq_some_iff] at p1
   obtain ⟨z, _, y, _, p2⟩ := p1
   split at p2
   · cases p2
     obtain ⟨u, hu, _⟩ := hv
     cases hu
     exact ⟨_, _, rfl⟩
   · cases p2
theorem selectR_form {B : Nat} {t : Lx.Bs} {xc : Int} {r l6 : List Px.Nd} {a : Px.St} {v : Value} {w : World} (p1 : selectR t xc r = some (a, l6)) (hv : partV B 109 a v w) : ∃ u u2 u3 u4 u5, v = .agg #[u, .string ⟨t.toArray⟩, u2, u3, .bool u4, u5] := by
 unfold selectR at p1
 split at p1
 · cases p1
 · simp only [Option.bind_eq_some_iff] at p1
   obtain ⟨z, _, y, _, o, _, q, _, p2⟩ := p1
   split at p2
   · cases p2
     obtain ⟨u, u', hu, _⟩ := hv
     cases hu
     exact ⟨_, _, _, _, _, rfl⟩
   · cases p2
theorem k_statement_any (w : World) (B : Nat) (l : List Px.Nd) (h : Wks w B l) (he : EnvW w) (hB : 12 ≤ B) (hl : l.length ≤ 16777216) :
   Calls Tryz.prog 44 #[.pointer (some ⟨B, 0, none⟩)] w (WOut w B (stV B) (Px.rSt l)) := by
 have HW := hd h
 have HE := hd he
 have hBw := h.lt
 clear h he
 go_enter Tryz.func44, Tryz.ntmps44
 go_wp2_with fail
 refine (k_take_any _ B l (HW.out.below (by go_grown))).mono ?_
 rintro x w1 ho
 have G1 : w.grownBy w1 (some B) := grown_tr (Below.grownBy (by go_grown)) ho.1
 match l, ho, HW, hl with
 | [], ho, _, _ =>
  obtain ⟨_, rfl⟩ := ho
  exact ⟨rfl, WOut.none G1⟩
 | ⟨xk, xt, xn, xc⟩ :: r, ho, HW, hl =>
  obtain ⟨_, v, rfl, hv, hw⟩ := ho
  have hv : v = ndA ⟨xk, xt, xn, xc⟩ := hv
  subst hv
  have HFX := hd (HW.out.fits ⟨xk, xt, xn, xc⟩ (by simp))
  have HR := hd (rSt_is xk xt xn xc r)
  unfold ndA
  simp only
  have hs1 := G1.size
  have HK2 := hd (Blk.new w1 #[.int .i64 xk, .string ⟨xt.toArray⟩, .int .i64 xn, .int .i64 xc] 43)
  have HW2 := hd (hw.below ((Below.refl _ _).alloc (Nat.le_refl _) (.cells #[.int .i64 xk, .string ⟨xt.toArray⟩, .int .i64 xn, .int .i64 xc] 43)))
  have HG2 := hd (grownBy_alloc G1 (.cells #[.int .i64 xk, .string ⟨xt.toArray⟩, .int .i64 xn, .int .i64 xc] 43))
  have hlr : r.length ≤ 16777216 := by simp only [List.length_cons] at hl; omega
  clear hw G1 hl
  go_wp2_with fail
  by_cases hf : xn = 0
  rotate_left
  · refine (k_fields_no _ B _ _ _ _ xt _ _ (fun e => hf e.2.1)).mono ?_
    rintro y w4 ⟨rfl, hb4⟩
    exact ⟨rfl, by rw [HR.out, if_neg (fun e => hf e.1)]; exact WOut.none (grown_tr HG2.out (Below.grownBy hb4))⟩
  subst hf
  refine (k_fields_yes _ B _ _ _ _).mono ?_
  rintro y w4 ⟨rfl, hb4⟩
  have HK4 := hd (HK2.out.below hb4 HK2.out.lt)
  have G4 := hd (grown_tr HG2.out (Below.grownBy hb4))
  have W4 := hd (HW2.out.below hb4)
  have E4 := hd (HE.out.grown G4.out hB)
  have q1 := HK4.out.cell 1
  simp at q1
  have hK4 := HK4.out.lt
  clear hb4
  go_wp2_with fail
  refine (k_name_any w4 B ⟨xt.toArray⟩ E4.out).mono ?_
  rintro y w5 ⟨hb5, hy⟩
  rw [show ((⟨xt.toArray⟩ : ByteArray).data.toList) = xt by simp] at hy
  have HK5 := hd (HK4.out.below hb5 HK4.out.lt)
  have G5 := hd (grown_tr G4.out (Below.grownBy hb5))
  have W5 := hd (W4.out.below hb5)
  have E5 := hd (HE.out.grown G5.out hB)
  have q0 := HK5.out.cell 0
  have q1' := HK5.out.cell 1
  have q2 := HK5.out.cell 2
  have q3 := HK5.out.cell 3
  simp at q0 q1' q2 q3
  have hK5 := HK5.out.lt
  clear hb5 q1
  cases hv : Px.isName xt with
  | false =>
   rw [hv] at hy
   have hy : y = Flt 0 7 := hy
   subst hy
   exact ⟨rfl, by rw [HR.out, if_neg (fun e => by rw [hv] at e; exact absurd e.2 (by decide))]; exact WOut.none G5.out⟩
  | true =>
   rw [hv] at hy
   have hy : y = .returned (.string ⟨xt.toArray⟩) := hy
   subst hy
   have HR : Hid (Px.rSt (⟨xk, xt, 0, xc⟩ :: r) = if xk = 1 then createR xt xc r else if xk = 3 then (if xc = 0 then some (.drop xt, r) else none) else if xk = 4 then insertR xt xc r else if xk = 6 then deleteR xt xc r else if xk = 7 then updateR xt xc r else if xk = 9 then selectR xt xc r else none) := by show _ = _; rw [rSt_is, if_pos ⟨rfl, hv⟩, delete_is]
   have hx2 : xc ≤ 9223372036854775807 := HFX.out.2.2.1.2
   clear hv
   by_cases h1 : xk = 1
   · subst h1
     have HR1 : Hid (Px.rSt (⟨1, xt, 0, xc⟩ :: r) = createR xt xc r) := by show _ = _; rw [HR.out]; simp
     go_wp2_with fail
     refine (k_create_any _ B xt xc r W5.out E5.out hB).mono ?_
     rintro x w6 ho
     obtain ⟨g, ⟨p1, rfl⟩ | ⟨a, l6, v, p1, rfl, hv, hw6⟩⟩ := ho.cases
     · exact ⟨rfl, by rw [HR1.out, p1]; exact WOut.none (grown_tr G5.out g)⟩
     have HV := hd hv
     have hform := createR_form p1 hv
     obtain ⟨u, rfl⟩ := hform
     have G6 := hd (grown_tr G5.out g)
     have W6 := hd hw6
     have HP1 := hd p1
     clear ho g hw6 p1 hv
     go_wp2_with fail
     go_ret
     rw [HR1.out, HP1.out]
     exact WOut.some G6.out HV.out W6.out
   by_cases h3 : xk = 3
   · subst h3
     have HR1 : Hid (Px.rSt (⟨3, xt, 0, xc⟩ :: r) = if xc = 0 then some (.drop xt, r) else none) := by show _ = _; rw [HR.out]; simp
     by_cases hc : xc = 0
     · subst hc
       go_wp2_with fail
       refine (k_must_true _ B).mono ?_
       rintro y w6 ⟨rfl, h0⟩
       rw [h0]
       clear h0 w6
       go_wp2_with fail
       go_ret
       rw [HR1.out, if_pos (by trivial)]
       exact WOut.some G5.out rfl W5.out
     · have hc' : (xc == 0) = false := beq_eq_false_iff_ne.2 hc
       go_wp2_with fail
       refine (k_must_false _ B).mono ?_
       rintro y w6 ⟨rfl, hb6⟩
       exact ⟨rfl, by rw [HR1.out, if_neg hc]; exact WOut.none (grown_tr G5.out (Below.grownBy hb6))⟩
   by_cases h4 : xk = 4
   · subst h4
     have HR1 : Hid (Px.rSt (⟨4, xt, 0, xc⟩ :: r) = insertR xt xc r) := by show _ = _; rw [HR.out]; simp
     go_wp2_with fail
     refine (k_insert_any _ B xt xc r W5.out E5.out hB hlr hx2).mono ?_
     rintro x w6 ho
     obtain ⟨g, ⟨p1, rfl⟩ | ⟨a, l6, v, p1, rfl, hv, hw6⟩⟩ := ho.cases
     · exact ⟨rfl, by rw [HR1.out, p1]; exact WOut.none (grown_tr G5.out g)⟩
     have HV := hd hv
     have hform := insertR_form p1 hv
     obtain ⟨u, rfl⟩ := hform
     have G6 := hd (grown_tr G5.out g)
     have W6 := hd hw6
     have HP1 := hd p1
     clear ho g hw6 p1 hv
     go_wp2_with fail
     go_ret
     rw [HR1.out, HP1.out]
     exact WOut.some G6.out HV.out W6.out
   by_cases h6 : xk = 6
   · subst h6
     have HR1 : Hid (Px.rSt (⟨6, xt, 0, xc⟩ :: r) = deleteR xt xc r) := by show _ = _; rw [HR.out]; simp
     go_wp2_with fail
     refine (k_delete_any _ B xt xc r W5.out E5.out hB hx2).mono ?_
     rintro x w6 ho
     obtain ⟨g, ⟨p1, rfl⟩ | ⟨a, l6, v, p1, rfl, hv, hw6⟩⟩ := ho.cases
     · exact ⟨rfl, by rw [HR1.out, p1]; exact WOut.none (grown_tr G5.out g)⟩
     have HV := hd hv
     have hform := deleteR_form p1 hv
     obtain ⟨u, rfl⟩ := hform
     have G6 := hd (grown_tr G5.out g)
     have W6 := hd hw6
     have HP1 := hd p1
     clear ho g hw6 p1 hv
     go_wp2_with fail
     go_ret
     rw [HR1.out, HP1.out]
     exact WOut.some G6.out HV.out W6.out
   by_cases h7 : xk = 7
   · subst h7
     have HR1 : Hid (Px.rSt (⟨7, xt, 0, xc⟩ :: r) = updateR xt xc r) := by show _ = _; rw [HR.out]; simp
     go_wp2_with fail
     refine (k_update_any _ B xt xc r W5.out E5.out hB hx2 hlr).mono ?_
     rintro x w6 ho
     obtain ⟨g, ⟨p1, rfl⟩ | ⟨a, l6, v, p1, rfl, hv, hw6⟩⟩ := ho.cases
     · exact ⟨rfl, by rw [HR1.out, p1]; exact WOut.none (grown_tr G5.out g)⟩
     have HV := hd hv
     have hform := updateR_form p1 hv
     obtain ⟨u, u2, rfl⟩ := hform
     have G6 := hd (grown_tr G5.out g)
     have W6 := hd hw6
     have HP1 := hd p1
     clear ho g hw6 p1 hv
     go_wp2_with fail
     go_ret
     rw [HR1.out, HP1.out]
     exact WOut.some G6.out HV.out W6.out
   by_cases h9 : xk = 9
   · subst h9
     have HR1 : Hid (Px.rSt (⟨9, xt, 0, xc⟩ :: r) = selectR xt xc r) := by show _ = _; rw [HR.out]; simp
     go_wp2_with fail
     refine (k_selection_any _ B xt xc r W5.out E5.out hB hx2 hlr).mono ?_
     rintro x w6 ho
     obtain ⟨g, ⟨p1, rfl⟩ | ⟨a, l6, v, p1, rfl, hv, hw6⟩⟩ := ho.cases
     · exact ⟨rfl, by rw [HR1.out, p1]; exact WOut.none (grown_tr G5.out g)⟩
     have HV := hd hv
     have hform := selectR_form p1 hv
     obtain ⟨u, u2, u3, u4, u5, rfl⟩ := hform
     have G6 := hd (grown_tr G5.out g)
     have W6 := hd hw6
     have HP1 := hd p1
     clear ho g hw6 p1 hv
     go_wp2_with fail
     go_ret
     rw [HR1.out, HP1.out]
     exact WOut.some G6.out HV.out W6.out
   have HR1 : Hid (Px.rSt (⟨xk, xt, 0, xc⟩ :: r) = none) := by show _ = _; rw [HR.out, if_neg h1, if_neg h3, if_neg h4, if_neg h6, if_neg h7, if_neg h9]
   have e1 : (xk == 1) = false := beq_eq_false_iff_ne.2 h1
   have e3 : (xk == 3) = false := beq_eq_false_iff_ne.2 h3
   have e4 : (xk == 4) = false := beq_eq_false_iff_ne.2 h4
   have e6 : (xk == 6) = false := beq_eq_false_iff_ne.2 h6
   have e7 : (xk == 7) = false := beq_eq_false_iff_ne.2 h7
   have e9 : (xk == 9) = false := beq_eq_false_iff_ne.2 h9
   go_wp2_with fail
   refine (k_must_false _ B).mono ?_
   rintro y w6 ⟨rfl, hb6⟩
   exact ⟨rfl, by rw [HR1.out]; exact WOut.none (grown_tr G5.out (Below.grownBy hb6))⟩
def ROut (w : World) (o : Option Px.St) (x : Ending) (w' : World) : Prop := Below w.heap.size w w' ∧ match o with
 | none => x = Flt 0 7
 | some s => ∃ u, x = .returned u ∧ stV w.heap.size s u w'
theorem below_of_grown {w w1 : World} {o : Obj} (h : (w.alloc o).grownBy w1 (some w.heap.size)) : Below w.heap.size w w1 :=
 ⟨h.os, h.tape, h.output, by have := h.size; simp at this; omega, fun k hk => by rw [h.block k (by simp; omega) (by simp; omega)]; exact Below.heap_alloc w o k hk⟩
theorem y_Read_any (w : World) (l : List Px.Nd) (v : Value) (hv : ∃ ao cap, v = .slice ao l.length cap ∧ l.length ≤ cap ∧ cap ≤ maxLen ∧ (∀ x ∈ l, NdFit x) ∧ (l ≠ [] → ∃ g off, ao = some ⟨g, off, none⟩ ∧ g < w.heap.size ∧ TreeIn w g off l)) (he : EnvW w) (hl : l.length ≤ 16777216) :
   Calls Tryz.prog 29 #[v] w (ROut w (Px.rS l)) := by
 obtain ⟨ao, cap, rfl, h1, h2, h3, h4⟩ := hv
 have HW : Hid (Wks (w.alloc (.cells #[.slice ao l.length cap] 80)) w.heap.size l) := by
  refine ⟨ao, cap, Blk.new w _ _, h1, h2, h3, fun hne => ?_⟩
  obtain ⟨g, off, e, hg, ht⟩ := h4 hne
  exact ⟨g, off, e, hg, ht.keep (Below.heap_alloc w _ g hg)⟩
 have HE : Hid (EnvW (w.alloc (.cells #[.slice ao l.length cap] 80))) := he.below ((Below.refl _ _).alloc (Nat.le_refl _) _)
 have hB : 12 ≤ w.heap.size := he.env.room
 clear h1 h2 h3 h4 he
 go_enter Tryz.func29, Tryz.ntmps29
 go_wp2_with fail
 refine (k_statement_any _ w.heap.size l HW.out HE.out hB hl).mono ?_
 rintro x w1 ho
 obtain ⟨g, ⟨p1, rfl⟩ | ⟨a, l1, v, p1, rfl, hv, hw1⟩⟩ := ho.cases
 · exact ⟨rfl, below_of_grown g, by rw [show Px.rS l = none by unfold Px.rS; rw [p1]; rfl]; rfl⟩
 have HB := hd (below_of_grown g)
 have HV := hd hv
 have HR : Hid (Px.rS l = if l1 = [] then some a else none) := by show _ = _; unfold Px.rS; rw [p1]; rfl
 obtain ⟨ao1, cap1, hb1, hc1, hm1, _, _⟩ := hw1
 have c0 := hb1.cell 0
 simp at c0
 have hlt := hb1.lt
 clear ho g p1 hv hb1
 by_cases hl1 : l1 = []
 · have HRR : Hid (Px.rS l = some a) := by show _ = _; rw [HR.out, if_pos hl1]
   subst hl1
   simp only [List.length_nil] at c0
   go_wp2_with fail
   refine (k_must_true _ w.heap.size).mono ?_
   rintro y w2 ⟨rfl, h0⟩
   rw [h0]
   clear h0 w2
   go_wp2_with fail
   go_ret
   refine ⟨HB.out, ?_⟩
   rw [HRR.out]
   exact ⟨v, rfl, HV.out⟩
 · have HRR : Hid (Px.rS l = none) := by show _ = _; rw [HR.out, if_neg hl1]
   have hn : ¬ l1.length = 0 := fun e => hl1 (List.length_eq_zero_iff.1 e)
   have hn' : ((l1.length : Int) == 0) = false := by rw [beq_eq_false_iff_ne]; omega
   clear hl1
   go_wp2_with fail
   refine (k_must_false _ w.heap.size).mono ?_
   rintro y w2 ⟨rfl, hb2⟩
   exact ⟨rfl, below_more0 HB.out hb2 HB.out.size, by rw [HRR.out]; rfl⟩
def apartO (la : Lx.Bs) (ah : Bool) (o : Lx.Bs) : Bool := if la = [] ∨ la = [40] ∨ o = [41] ∨ o = [44] then false else if ah = true then decide (o.head? = some 45) else true
theorem apartO_L (l : List Px.PT) (o : Lx.Bs) : apartO (Px.lastOut l) (Px.lastPre l) o = Px.apartL l o := rfl
theorem ba_nel (a : ByteArray) (b : Lx.Bs) (h : a.data.toList ≠ b) : (a.toList == b) = false := by
 rw [beq_eq_false_iff_ne, Lib.toList_data]
 exact h
theorem hasPrefix_minus (o : Lx.Bs) : Lib.hasPrefix o [45] = decide (o.head? = some 45) := by
 cases o with
 | nil => rfl
 | cons c r =>
  by_cases h : c = 45
  · subst h; simp [Lib.hasPrefix, List.isPrefixOf]
  · have : (45 == c) = false := beq_eq_false_iff_ne.2 (fun e => h e.symm)
    simp [Lib.hasPrefix, List.isPrefixOf, h, this]
theorem d_isApart_any (B : Nat) (w : World) (bs la : Lx.Bs) (ah : Bool) (o : Lx.Bs) (h : Bld w B bs la ah) :
   Calls Tryz.prog 113 #[.pointer (some ⟨B, 0, none⟩), .string ⟨o.toArray⟩] w fun e w' => e = .returned (.bool (apartO la ah o)) ∧ Below w.heap.size w w' := by
 obtain ⟨p, v, hp, h1, h2⟩ := h
 have c2 := h1.cell 2
 have c3 := h1.cell 3
 simp at c2 c3
 have hlt := h1.lt
 clear h1 h2 hp
 obtain ⟨lb, hlb⟩ : ∃ lb : ByteArray, lb = ⟨la.toArray⟩ := ⟨_, rfl⟩
 obtain ⟨ob, hob⟩ : ∃ ob : ByteArray, ob = ⟨o.toArray⟩ := ⟨_, rfl⟩
 have HL : Hid (lb.data.toList = la) := by show _ = _; rw [hlb]
 have HO : Hid (ob.data.toList = o) := by show _ = _; rw [hob]
 rw [← hlb] at c2
 rw [← hob]
 have HLB := hd hlb
 have HOB := hd hob
 clear hlb hob
 by_cases h1 : la = []
 · have HR : Hid (apartO la ah o = false) := if_pos (.inl h1)
   have e1 : (lb.toList == []) = true := by rw [beq_iff_eq, Lib.toList_data, HL.out, h1]
   clear h1
   go_enter Tryz.func113, Tryz.ntmps113
   go_wp2_with fail
   go_ret
   rw [HR.out]
   exact ⟨rfl, Below.refl _ _⟩
 have e1 : (lb.toList == []) = false := ba_nel _ _ (by rw [HL.out]; exact h1)
 by_cases h2 : la = [40]
 · have HR : Hid (apartO la ah o = false) := if_pos (.inr (.inl h2))
   have e2 : (lb.toList == [40]) = true := by rw [beq_iff_eq, Lib.toList_data, HL.out, h2]
   clear h1 h2
   go_enter Tryz.func113, Tryz.ntmps113
   go_wp2_with fail
   go_ret
   rw [HR.out]
   exact ⟨rfl, Below.refl _ _⟩
 have e2 : (lb.toList == [40]) = false := ba_nel _ _ (by rw [HL.out]; exact h2)
 by_cases h3 : o = [41]
 · have HR : Hid (apartO la ah o = false) := if_pos (.inr (.inr (.inl h3)))
   have e3 : (ob.toList == [41]) = true := by rw [beq_iff_eq, Lib.toList_data, HO.out, h3]
   clear h1 h2 h3
   go_enter Tryz.func113, Tryz.ntmps113
   go_wp2_with fail
   go_ret
   rw [HR.out]
   exact ⟨rfl, Below.refl _ _⟩
 have e3 : (ob.toList == [41]) = false := ba_nel _ _ (by rw [HO.out]; exact h3)
 by_cases h4 : o = [44]
 · have HR : Hid (apartO la ah o = false) := if_pos (.inr (.inr (.inr h4)))
   have e4 : (ob.toList == [44]) = true := by rw [beq_iff_eq, Lib.toList_data, HO.out, h4]
   clear h1 h2 h3 h4
   go_enter Tryz.func113, Tryz.ntmps113
   go_wp2_with fail
   go_ret
   rw [HR.out]
   exact ⟨rfl, Below.refl _ _⟩
 have e4 : (ob.toList == [44]) = false := ba_nel _ _ (by rw [HO.out]; exact h4)
 have HR0 : Hid (apartO la ah o = if ah = true then decide (o.head? = some 45) else true) := if_neg (fun e => by rcases e with e | e | e | e; exact h1 e; exact h2 e; exact h3 e; exact h4 e)
 clear h1 h2 h3 h4
 cases ah with
 | false =>
  have HR : Hid (apartO la false o = true) := HR0.out
  go_enter Tryz.func113, Tryz.ntmps113
  go_wp2_with fail
  go_ret
  rw [HR.out]
  exact ⟨rfl, Below.refl _ _⟩
 | true =>
  have HR : Hid (apartO la true o = decide (o.head? = some 45)) := HR0.out
  go_enter Tryz.func113, Tryz.ntmps113
  go_wp2_with fail
  refine (Tryz.strings_HasPrefix _ _ _).mono ?_
  rintro e w1 ⟨rfl, h0⟩
  rw [h0, HO.out, show ((⟨#[45]⟩ : ByteArray).data.toList) = [45] from rfl, hasPrefix_minus]
  clear h0 w1
  generalize hdd : decide (o.head? = some 45) = dd
  rw [hdd] at HR
  go_wp2_with fail
  go_ret
  rw [HR.out]
  exact ⟨rfl, Below.refl _ _⟩
def Prs (w : World) (B : Nat) (l : List Px.PT) : Prop := Bld w B (Px.render l) (Px.lastOut l) (Px.lastPre l) ∧ (∀ t ∈ l, t.out ≠ []) ∧ (Px.render l).length ≤ 2000
theorem Prs.lt {w : World} {B : Nat} {l : List Px.PT} (h : Prs w B l) : B < w.heap.size := h.1.lt
theorem Prs.below {w w' : World} {B : Nat} {l : List Px.PT} (h : Prs w B l) (hb : Below w.heap.size w w') : Prs w' B l := ⟨h.1.below hb, h.2⟩
def POut (w : World) (B : Nat) (l : List Px.PT) (x : Ending) (w' : World) : Prop :=
 Kq B w w' ∧ ((x = .returned (.tuple #[]) ∧ Prs w' B l) ∨ (x = Flt 0 1 ∧ 2000 < (Px.render l).length))
structure PT0 (t : Px.PT) : Prop where
 ne : t.out ≠ []
 pre : t.pre = false
 small : t.out.length ≤ 70368744177664
theorem Bld.setLast {w : World} {B : Nat} {bs la : Lx.Bs} {ah : Bool} (h : Bld w B bs la ah) (la' : Lx.Bs) : Bld (w.setCell ⟨B, 2, none⟩ (.string ⟨la'.toArray⟩)) B bs la' ah := by
 obtain ⟨p, v, hp, h1, h2⟩ := h
 exact ⟨p, v, hp, h1.set 2 _, own_setP h2⟩
theorem Bld.setAhead {w : World} {B : Nat} {bs la : Lx.Bs} {ah : Bool} (h : Bld w B bs la ah) (ah' : Bool) : Bld (w.setCell ⟨B, 3, none⟩ (.bool ah')) B bs la ah' := by
 obtain ⟨p, v, hp, h1, h2⟩ := h
 exact ⟨p, v, hp, h1.set 3 _, own_setP h2⟩
theorem Bld.cells {w : World} {B : Nat} {bs la : Lx.Bs} {ah : Bool} (h : Bld w B bs la ah) : w.cell? ⟨B, 2, none⟩ = some (.string ⟨la.toArray⟩) ∧ w.cell? ⟨B, 3, none⟩ = some (.bool ah) ∧ w.frozen? ⟨B, 2, none⟩ = false ∧ w.frozen? ⟨B, 3, none⟩ = false := by
 obtain ⟨p, v, hp, h1, h2⟩ := h
 have c2 := h1.cell 2
 have c3 := h1.cell 3
 simp at c2 c3
 exact ⟨c2, c3, h1.free 2, h1.free 3⟩
def toksA (l : List Px.PT) : Array Value := (l.map fun t => Value.string ⟨t.out.toArray⟩).toArray
theorem d_put_any (B S : Nat) (w : World) (l ts : List Px.PT) (h : Prs w B l) (hS : Blk w S (toksA ts) 9) (hBS : S ≠ B) (hts : ∀ t ∈ ts, PT0 t) (hn : ts.length ≤ 3) :
   Calls Tryz.prog 66 #[.pointer (some ⟨B, 0, none⟩), .slice (some ⟨S, 0, none⟩) ts.length ts.length] w (POut w B (l ++ ts)) := by
 have HP := hd h
 have HS := hd hS
 have HTS := hd hts
 have hlt := h.lt
 clear h hS hts
 go_enter Tryz.func66, Tryz.ntmps66
 go_wp2_with fail
 go_loopw [8] (fun i wr => ∃ k : Nat, k ≤ ts.length ∧ i = .int .i64 k ∧ Hid (Prs wr B (l ++ ts.take k)) ∧ Hid (Kq B w wr)) (fun i _ => ts.length - (intOf i).toNat)
 case atStart => exact ⟨0, by omega, rfl, (by show Prs _ _ _; simpa using HP.out), Kq.refl _ _⟩
 case round =>
  obtain ⟨k, hk, rfl, HPk, HKk⟩ := hrel
  by_cases hlt2 : k < ts.length
  · obtain ⟨t, ht⟩ : ∃ t, ts[k]? = some t := ⟨_, List.getElem?_eq_getElem hlt2⟩
    have htm : t ∈ ts := List.mem_of_getElem? ht
    have HT := hd (HTS.out t htm)
    have cS : wr.cell? ⟨S, k, none⟩ = some (.string ⟨t.out.toArray⟩) := by
     have := (HKk.out.blk HS.out hBS (by decide)).cell k
     rw [this]
     simp [toksA, ht]
    have HTK : Hid (ts.take (k + 1) = ts.take k ++ [t]) := by show _ = _; rw [List.take_add_one, ht]; rfl
    have HRN : Hid (Px.render (l ++ ts.take (k + 1)) = Px.render (l ++ ts.take k) ++ Px.gapL (l ++ ts.take k) t ++ t.out) := by show _ = _; rw [HTK.out, ← List.append_assoc, Px.render_snoc]
    have HGP := hd (Px.gapL_is (l ++ ts.take k) t HPk.out.2.1)
    have hBl := HPk.out.lt
    have hln := HPk.out.2.2
    have hts := HT.out.small
    generalize hLk : l ++ ts.take k = Lk at *
    clear ht htm
    go_wp2_with fail
    refine (d_isApart_any B wr _ _ _ t.out HPk.out.1).mono ?_
    rintro x w1 ⟨rfl, hb1⟩
    rw [apartO_L]
    have hB1 := HPk.out.1.below hb1
    have HK1 := hd (HKk.out.more hb1 (by omega))
    have hs1 := hb1.size
    clear hb1
    rcases Bool.eq_false_or_eq_true (Px.apartL Lk t.out) with hap | hap
    case' inl =>
     rw [hap]
     have HGW : Hid (Px.gapL Lk t = [32]) := by show _ = _; rw [HGP.out, hap]; rfl
     have HB1 := hd hB1
     clear hap hB1
     go_wp2_with fail
     refine (b_WriteByte_any B w1 _ _ _ 32 HB1.out (by omega)).mono ?_
     rintro x w2 ⟨rfl, hU, k2⟩
     have HB2 : Hid (Bld w2 B (Px.render Lk ++ Px.gapL Lk t) (Px.lastOut Lk) (Px.lastPre Lk)) := by show Bld _ _ _ _ _; rw [HGW.out]; exact hU.is
     have HK2 := hd (HK1.out.trans k2)
     have hgl : (Px.gapL Lk t).length ≤ 1 := by rw [HGW.out]; simp
     clear hU k2 HGW HB1
    case' inr =>
     rw [hap]
     have HB2 : Hid (Bld w1 B (Px.render Lk ++ Px.gapL Lk t) (Px.lastOut Lk) (Px.lastPre Lk)) := by show Bld _ _ _ _ _; rw [HGP.out, hap]; simpa using hB1
     have HK2 := HK1
     have hgl : (Px.gapL Lk t).length ≤ 1 := by rw [HGP.out, hap]; simp
     clear hap hB1
    all_goals
     go_wp2_with fail
     refine (b_WriteString_any B _ _ _ _ t.out HB2.out (by rw [List.length_append]; omega)).mono ?_
     rintro x w3 ⟨⟨xv, rfl⟩, hU, k3⟩
     have HB3 : Hid (Bld w3 B (Px.render (l ++ ts.take (k + 1))) (Px.lastOut Lk) (Px.lastPre Lk)) := by show Bld _ _ _ _ _; rw [HRN.out]; exact hU.is
     have HK3 := hd (HK2.out.trans k3)
     obtain ⟨c2, c3, f2, f3⟩ := HB3.out.cells
     have hB3l := HB3.out.lt
     have HB4 := hd ((HB3.out.setLast t.out).setAhead false)
     have HK4 := hd ((HK3.out.set 2 (.string ⟨t.out.toArray⟩)).set 3 (.bool false))
     clear hU k3 HB2 HK2 HK1
     go_wp2_with fail
     refine (b_Len_any B _ _ _ _ HB4.out).mono ?_
     rintro x w5 ⟨rfl, h0⟩
     rw [h0]
     clear h0 w5
     have HLL : Hid (Px.render (l ++ ts) = Px.render (l ++ ts.take (k + 1) ++ ts.drop (k + 1))) := by show _ = _; rw [List.append_assoc, List.take_append_drop]
     have HMO := hd (Px.render_mono (l ++ ts.take (k + 1)) (ts.drop (k + 1)))
     by_cases hbig : 2000 < (Px.render (l ++ ts.take (k + 1))).length
     · have hbig' : (2000 : Int) < ((Px.render (l ++ ts.take (k + 1))).length : Int) := by omega
       have HBG : Hid (2000 < (Px.render (l ++ ts)).length) := by show _ < _; rw [HLL.out]; have := HMO.out; omega
       generalize (Px.render (l ++ ts.take (k + 1))).length = nn at *
       go_wp2_with fail
       exact ⟨rfl, HK4.out, .inr ⟨rfl, HBG.out⟩⟩
     · have hbig' : ¬ (2000 : Int) < ((Px.render (l ++ ts.take (k + 1))).length : Int) := by omega
       have HPN : Hid (Prs ((w3.setCell ⟨B, 2, none⟩ (.string ⟨t.out.toArray⟩)).setCell ⟨B, 3, none⟩ (.bool false)) B (l ++ ts.take (k + 1))) := by
        refine ⟨?_, ?_, by omega⟩
        · have := HB4.out
          rw [HTK.out, ← List.append_assoc, Px.lastOut_snoc, Px.lastPre_snoc, HT.out.pre, List.append_assoc, ← HTK.out]
          exact this
        · intro x hx
          rw [HTK.out, ← List.append_assoc, hLk] at hx
          rcases List.mem_append.1 hx with hx | hx
          · exact HPk.out.2.1 x hx
          · simp at hx; subst hx; exact HT.out.ne
       generalize (Px.render (l ++ ts.take (k + 1))).length = nn at *
       go_wp2_with fail
       go_roundw
       case rel => exact ⟨k + 1, by omega, by go_num, HPN, HK4⟩
       case measure => simp [intOf]; omega
  · have hke : k = ts.length := by omega
    subst hke
    go_wp2_with fail
    go_end0
    refine ⟨HKk.out, .inl ⟨rfl, ?_⟩⟩
    have := HPk.out
    rwa [List.take_length] at this
theorem POut.mono {w0 w w' : World} {B : Nat} {l : List Px.PT} {x : Ending} (h : POut w B l x w') (k : Kq B w0 w) : POut w0 B l x w' := ⟨k.trans h.1, h.2⟩
theorem POut.cases {w w' : World} {B : Nat} {l : List Px.PT} {x : Ending} (h : POut w B l x w') : Kq B w w' ∧ ((x = Flt 0 1 ∧ 2000 < (Px.render l).length) ∨ (x = .returned (.tuple #[]) ∧ Prs w' B l)) := ⟨h.1, h.2.symm⟩
theorem POut.err {w w' : World} {B : Nat} {l : List Px.PT} {m : List Px.PT} (k : Kq B w w') (h : 2000 < (Px.render l).length) : POut w B (l ++ m) (Flt 0 1) w' := ⟨k, .inr ⟨rfl, Nat.lt_of_lt_of_le h (Px.render_mono l m)⟩⟩
theorem POut.ok {w w' : World} {B : Nat} {l : List Px.PT} (k : Kq B w w') (h : Prs w' B l) : POut w B l (.returned (.tuple #[])) w' := ⟨k, .inl ⟨rfl, h⟩⟩
theorem Kq.alloc {B : Nat} {w : World} (o : Obj) (hB : B < w.heap.size) : Kq B w (w.alloc o) := Kq.below ((Below.refl _ _).alloc (Nat.le_refl _) _) (by omega)
theorem d_put1 (B : Nat) (w : World) (l : List Px.PT) (t : Px.PT) (h : Prs w B l) (ht : PT0 t) :
   Calls Tryz.prog 66 #[.pointer (some ⟨B, 0, none⟩), .slice (some ⟨w.heap.size, 0, none⟩) 1 1] (w.alloc (.cells #[.string ⟨t.out.toArray⟩] 9)) (POut w B (l ++ [t])) := by
 have hlt := h.lt
 refine (d_put_any B w.heap.size _ l [t] (h.below ((Below.refl _ _).alloc (Nat.le_refl _) _)) (Blk.new w _ _) (by omega) (by intro x hx; simp at hx; subst hx; exact ht) (by simp)).mono ?_
 rintro x w' ho
 exact ho.mono (Kq.alloc _ hlt)
theorem d_put2 (B : Nat) (w : World) (l : List Px.PT) (t u : Px.PT) (h : Prs w B l) (ht : PT0 t) (hu : PT0 u) :
   Calls Tryz.prog 66 #[.pointer (some ⟨B, 0, none⟩), .slice (some ⟨w.heap.size, 0, none⟩) 2 2] (w.alloc (.cells #[.string ⟨t.out.toArray⟩, .string ⟨u.out.toArray⟩] 9)) (POut w B (l ++ [t, u])) := by
 have hlt := h.lt
 refine (d_put_any B w.heap.size _ l [t, u] (h.below ((Below.refl _ _).alloc (Nat.le_refl _) _)) (Blk.new w _ _) (by omega) (by intro x hx; simp at hx; rcases hx with rfl | rfl; exact ht; exact hu) (by simp)).mono ?_
 rintro x w' ho
 exact ho.mono (Kq.alloc _ hlt)
theorem d_put3 (B : Nat) (w : World) (l : List Px.PT) (t u v : Px.PT) (h : Prs w B l) (ht : PT0 t) (hu : PT0 u) (hv : PT0 v) :
   Calls Tryz.prog 66 #[.pointer (some ⟨B, 0, none⟩), .slice (some ⟨w.heap.size, 0, none⟩) 3 3] (w.alloc (.cells #[.string ⟨t.out.toArray⟩, .string ⟨u.out.toArray⟩, .string ⟨v.out.toArray⟩] 9)) (POut w B (l ++ [t, u, v])) := by
 have hlt := h.lt
 refine (d_put_any B w.heap.size _ l [t, u, v] (h.below ((Below.refl _ _).alloc (Nat.le_refl _) _)) (Blk.new w _ _) (by omega) (by intro x hx; simp at hx; rcases hx with rfl | rfl | rfl; exact ht; exact hu; exact hv) (by simp)).mono ?_
 rintro x w' ho
 exact ho.mono (Kq.alloc _ hlt)
theorem pt0_kw (s : Lx.Bs) (h : s ≠ []) (hl : s.length ≤ 100) : PT0 (Px.kwT s) := ⟨h, rfl, by show s.length ≤ _; omega⟩
theorem pt0_sg (s : Lx.Bs) (h : s ≠ []) (hl : s.length ≤ 100) : PT0 (Px.sgT s) := ⟨h, rfl, by show s.length ≤ _; omega⟩
theorem Prs.ahead {w : World} {B : Nat} {l : List Px.PT} (h : Prs w B (l ++ [Px.sgT [45]])) : Prs (w.setCell ⟨B, 3, none⟩ (.bool true)) B (l ++ [Px.mnT]) := by
 refine ⟨?_, ?_, ?_⟩
 · have := h.1.setAhead true
   rw [Px.lastOut_snoc] at this
   rw [Px.lastOut_snoc, Px.lastPre_snoc, Px.render_last l Px.mnT (Px.sgT [45]) rfl]
   exact this
 · intro x hx
   rcases List.mem_append.1 hx with hx | hx
   · exact h.2.1 x (by simp [hx])
   · simp at hx; subst hx; simp [Px.mnT]
 · rw [Px.render_last l Px.mnT (Px.sgT [45]) rfl]
   exact h.2.2
theorem d_putMinus_any (B : Nat) (w : World) (l : List Px.PT) (h : Prs w B l) :
   Calls Tryz.prog 203 #[.pointer (some ⟨B, 0, none⟩)] w (POut w B (l ++ [Px.mnT])) := by
 have HP := hd h
 have hlt := h.lt
 clear h
 go_enter Tryz.func203, Tryz.ntmps203
 go_wp2_with fail
 refine (d_put1 B w l (Px.sgT [45]) HP.out (pt0_sg _ (by simp) (by simp))).mono ?_
 rintro x w1 ho
 obtain ⟨k1, ⟨rfl, hb⟩ | ⟨rfl, hp⟩⟩ := ho.cases
 · refine ⟨rfl, k1, .inr ⟨rfl, ?_⟩⟩
   rw [Px.render_last l Px.mnT (Px.sgT [45]) rfl]
   exact hb
 · obtain ⟨c2, c3, f2, f3⟩ := hp.1.cells
   have HP1 := hd hp.ahead
   have HK1 := hd (k1.set 3 (.bool true))
   have hlt1 := hp.lt
   clear hp k1 ho c2 f2
   go_wp2_with fail
   go_end0
   exact POut.ok HK1.out HP1.out
theorem d_truth_any (B : Nat) (w : World) (l : List Px.PT) (b : Bool) (h : Prs w B l) :
   Calls Tryz.prog 176 #[.pointer (some ⟨B, 0, none⟩), .bool b] w (POut w B (l ++ [Px.kwT (if b = true then Px.kTRUE else Px.kFALSE)])) := by
 have HP := hd h
 clear h
 cases b with
 | true =>
  go_enter Tryz.func176, Tryz.ntmps176
  go_wp2_with fail
  refine (d_put1 B w l (Px.kwT Px.kTRUE) HP.out (pt0_kw _ (by decide) (by decide))).mono ?_
  rintro x w1 ho
  obtain ⟨k1, ⟨rfl, hb⟩ | ⟨rfl, hp⟩⟩ := ho.cases
  · exact ⟨rfl, k1, .inr ⟨rfl, hb⟩⟩
  · have HP1 := hd hp
    have HK1 := hd k1
    clear hp k1 ho
    go_wp2_with fail
    go_end0
    exact POut.ok HK1.out HP1.out
 | false =>
  go_enter Tryz.func176, Tryz.ntmps176
  go_wp2_with fail
  refine (d_put1 B w l (Px.kwT Px.kFALSE) HP.out (pt0_kw _ (by decide) (by decide))).mono ?_
  rintro x w1 ho
  obtain ⟨k1, ⟨rfl, hb⟩ | ⟨rfl, hp⟩⟩ := ho.cases
  · exact ⟨rfl, k1, .inr ⟨rfl, hb⟩⟩
  · have HP1 := hd hp
    have HK1 := hd k1
    clear hp k1 ho
    go_wp2_with fail
    go_end0
    exact POut.ok HK1.out HP1.out
theorem dgT_small (n : Nat) (h : n ≤ 9223372036854775808) : PT0 (Px.dgT n) := by
 refine ⟨decF_ne n, rfl, ?_⟩
 have : ∀ f n, (Px.decF f n).length ≤ f := by
  intro f
  induction f with
  | zero => intro n; simp [Px.decF]
  | succ f ih =>
   intro n
   rw [Px.decF]
   split
   · simp
   · have := ih (n / 10)
     simp only [List.length_append, List.length_singleton]
     omega
 have := this 20 n
 show (Px.decF 20 n).length ≤ _
 omega
theorem d_number_any (B : Nat) (w : World) (l : List Px.PT) (z : Int) (h : Prs w B l) (he : EnvV w) (h1 : -9223372036854775808 ≤ z) (h2 : z ≤ 9223372036854775807) :
   Calls Tryz.prog 177 #[.pointer (some ⟨B, 0, none⟩), .int .i64 z] w (POut w B (l ++ (Px.E.num z).pt)) := by
 have HP := hd h
 have HE := hd he
 have hlt := h.lt
 clear h he
 go_enter Tryz.func177, Tryz.ntmps177
 go_wp2_with fail
 refine (Tryz.strconv_Itoa z h1 h2 w HE.out.tab).mono ?_
 rintro x w1 ⟨rfl, kk, os, hw⟩
 have hb1 : Below w.heap.size w w1 := by rw [hw]; exact Lib.below_grow _ w (Nat.le_refl _) kk os
 have HP1 := hd (HP.out.below hb1)
 have HK1 := hd (Kq.below (B := B) hb1 (by omega))
 have hlt1 := HP1.out.lt
 clear hw hb1
 by_cases hz : z < 0
 · obtain ⟨n, rfl⟩ : ∃ n : Nat, z = -(n : Int) := ⟨z.natAbs, by omega⟩
   have hI : Lib.itoa (-(n : Int)) = 45 :: Px.decF 20 n := itoa_min n (by omega) (by omega)
   have HPT : Hid ((Px.E.num (-(n : Int))).pt = [Px.mnT] ++ [Px.dgT n]) := by
    show _ = _
    simp only [Px.E.pt]
    rw [if_pos hz, show (-(n : Int)).natAbs = n by omega]
    rfl
   rw [hI]
   have HDG := hd (dgT_small n (by omega))
   have HD : Hid (Px.decF 20 n = (Px.dgT n).out) := rfl
   have hlen : (Px.decF 20 n).length ≤ 70368744177664 := HDG.out.small
   obtain ⟨db, hdb⟩ : ∃ db : ByteArray, db = ⟨(45 :: Px.decF 20 n).toArray⟩ := ⟨_, rfl⟩
   have hds : db.size = (Px.decF 20 n).length + 1 := by rw [hdb]; simp [ByteArray.size]
   have HX : Hid (db.extract 1 ((Px.decF 20 n).length + 1) = ⟨(Px.decF 20 n).toArray⟩) := by
    show _ = _
    apply ByteArray.ext
    rw [hdb]
    simp
   rw [← hdb]
   clear hdb hI
   go_wp2_with fail
   refine (d_putMinus_any B w1 l HP1.out).mono ?_
   rintro x w2 ho
   obtain ⟨k2, ⟨rfl, hb⟩ | ⟨rfl, hp⟩⟩ := ho.cases
   · exact ⟨rfl, by rw [HPT.out, ← List.append_assoc]; exact POut.err (HK1.out.trans k2) hb⟩
   have HP2 := hd hp
   have HK2 := hd (HK1.out.trans k2)
   clear hp k2 ho
   go_wp2_with fail
   rw [HX.out]
   refine (d_put1 B w2 (l ++ [Px.mnT]) (Px.dgT n) HP2.out HDG.out).mono ?_
   rintro x w3 ho
   obtain ⟨k3, ⟨rfl, hb⟩ | ⟨rfl, hp⟩⟩ := ho.cases
   · exact ⟨rfl, by rw [HPT.out]; exact ⟨HK2.out.trans k3, .inr ⟨rfl, by simpa using hb⟩⟩⟩
   have HP3 := hd hp
   have HK3 := hd (HK2.out.trans k3)
   clear hp k3 ho
   go_wp2_with fail
   go_end0
   rw [HPT.out]
   exact POut.ok HK3.out (by simpa using HP3.out)
 · obtain ⟨n, rfl⟩ : ∃ n : Nat, z = (n : Int) := ⟨z.natAbs, by omega⟩
   have hI : Lib.itoa (n : Int) = Px.decF 20 n := itoa_pos n (by omega)
   have HPT : Hid ((Px.E.num (n : Int)).pt = [Px.dgT n]) := by
    show _ = _
    simp only [Px.E.pt]
    rw [if_neg hz]
    rfl
   rw [hI]
   have HDG := hd (dgT_small n (by omega))
   have hz' : decide ((n : Int) < 0) = false := decide_eq_false hz
   obtain ⟨db, hdb⟩ : ∃ db : ByteArray, db = ⟨(Px.decF 20 n).toArray⟩ := ⟨_, rfl⟩
   have HDB := hd hdb
   rw [← hdb]
   clear hI hdb
   go_wp2_with fail
   rw [HDB.out]
   refine (d_put1 B w1 l (Px.dgT n) HP1.out HDG.out).mono ?_
   rintro x w3 ho
   obtain ⟨k3, ⟨rfl, hb⟩ | ⟨rfl, hp⟩⟩ := ho.cases
   · exact ⟨rfl, by rw [HPT.out]; exact ⟨HK1.out.trans k3, .inr ⟨rfl, by simpa using hb⟩⟩⟩
   have HP3 := hd hp
   have HK3 := hd (HK1.out.trans k3)
   clear hp k3 ho
   go_wp2_with fail
   go_end0
   rw [HPT.out]
   exact POut.ok HK3.out (by simpa using HP3.out)
theorem dbl_len2 (m : UInt8) (s : Lx.Bs) : (dblIn m s).length ≤ 2 * s.length := by
 have := Px.flat_le m s
 exact this
theorem d_quoted_any (w : World) (s : Lx.Bs) (m : UInt8) (he : EnvV w) (hl : s.length ≤ 1000000000) :
   Calls Tryz.prog 118 #[.string ⟨s.toArray⟩, .string ⟨#[m]⟩] w fun e w' => e = .returned (.string ⟨(Px.dbl m s).toArray⟩) ∧ Below w.heap.size w w' := by
 obtain ⟨mm, hmm⟩ := he.mx
 have HMM := hd hmm
 clear hmm he
 obtain ⟨sb, hsb⟩ : ∃ sb : ByteArray, sb = ⟨s.toArray⟩ := ⟨_, rfl⟩
 have HSL : Hid (sb.data.toList = s) := by show _ = _; rw [hsb]
 have hss : sb.size = s.length := by rw [hsb]; simp [ByteArray.size]
 have hc : Lib.countB sb ⟨#[m]⟩ ≤ s.length := by
  show Lib.count sb.data.toList [m] ≤ _
  rw [HSL.out]
  exact count_le m s
 have HC := hd hc
 rw [← hsb]
 clear hsb hc
 go_enter Tryz.func118, Tryz.ntmps118
 go_wp2_with fail
 have h2s : ((⟨#[m]⟩ : ByteArray) ++ ⟨#[m]⟩).size = 2 := by simp [ByteArray.size]
 have h2d : ((⟨#[m]⟩ : ByteArray) ++ ⟨#[m]⟩).data.toList = [m, m] := by simp
 refine (Tryz.strings_ReplaceAll sb ⟨#[m]⟩ _ mm w (by omega) HMM.out (by simp [ByteArray.size]) (by rw [h2s]; have := HC.out; omega)).mono ?_
 rintro x w1 ⟨rfl, hb1⟩
 rw [HSL.out, h2d, show ((⟨#[m]⟩ : ByteArray).data.toList) = [m] from rfl, replaceAll_dbl]
 have HB1 := hd hb1
 have HD : Hid ((⟨#[m]⟩ : ByteArray) ++ ⟨(dblIn m s).toArray⟩ ++ ⟨#[m]⟩ = ⟨(Px.dbl m s).toArray⟩) := by
  show _ = _
  rw [dbl_in]
  apply ByteArray.ext
  simp
 have hdl := dbl_len2 m s
 have hds : (⟨(dblIn m s).toArray⟩ : ByteArray).size = (dblIn m s).length := by simp [ByteArray.size]
 obtain ⟨db, hdb⟩ : ∃ db : ByteArray, db = ⟨(dblIn m s).toArray⟩ := ⟨_, rfl⟩
 rw [← hdb] at hds HD ⊢
 clear hdb hb1 h2s h2d
 go_wp2_with fail
 go_ret
 refine ⟨?_, HB1.out⟩
 rw [← HD.out]
 rfl
theorem pt0_nm (s : Lx.Bs) (h : s ≠ []) (hl : s.length ≤ 1000000000) : PT0 (Px.nmT s) := by
 refine ⟨?_, rfl, ?_⟩
 · show Px.nameT s ≠ []
   unfold Px.nameT
   split
   · exact h
   · simp [Px.dbl]
 · show (Px.nameT s).length ≤ _
   unfold Px.nameT
   split
   · omega
   · rw [Px.dbl_len]
     have := Px.flat_le 34 s
     omega
theorem pt0_st (s : Lx.Bs) (hl : s.length ≤ 1000000000) : PT0 (Px.stT s) := by
 refine ⟨by show Px.dbl 39 s ≠ []; simp [Px.dbl], rfl, ?_⟩
 show (Px.dbl 39 s).length ≤ _
 rw [Px.dbl_len]
 have := Px.flat_le 39 s
 omega

theorem index_key (k : Nat) (h : k < 27) (w : World) : (Instr.index 236 (.agg (strRow Lx.keys)) (.int .i64 (k : Int))).run Tryz.prog w = .ok (.string ⟨(Lx.keys.getD k []).toArray⟩) w := by
 have hk : Lx.keys[k]? = some (Lx.keys.getD k []) := by
  rw [List.getD_eq_getElem?_getD, List.getElem?_eq_getElem (show k < Lx.keys.length from h)]; rfl
 have hc : (strRow Lx.keys)[k]? = some (.string ⟨(Lx.keys.getD k []).toArray⟩) := by
  unfold strRow
  simp only [List.getElem?_toArray, List.getElem?_map, hk, Option.map_some]
 generalize strRow Lx.keys = cs at *
 simp [Instr.index, run_underlying Tryz.underlying236, asIntOf, part, Tryz.isAgg9, Tryz.sizeOf9, go_sem, h, hc]
theorem isKeyword_any (t : ByteArray) (w : World) (he : Env0 w) : Calls Tryz.prog 172 #[.string t] w fun e w' => e = .returned (.bool (Lx.hasB Lx.keys t.data.toList)) ∧ w' = w := by
 obtain ⟨ty, fr, hg⟩ := he.kws
 have HG := hd hg
 clear hg
 go_enter Tryz.func172, Tryz.ntmps172
 go_wp2_with (refine wpList_load_row rfl 236 _ rfl 1 rfl ty _ fr _ HG.out Tryz.underlying236 rfl (by kernel_rfl) ?_)
 go_loop [6] (fun i => ∃ k : Nat, k ≤ 27 ∧ i = .int .i64 k ∧ Hid (Lx.hasB Lx.keys t.data.toList = Lx.hasB (Lx.keys.drop k) t.data.toList)) (fun i => 27 - (intOf i).toNat)
 case atStart => exact ⟨0, by omega, rfl, rfl⟩
 case round =>
  obtain ⟨k, hk, rfl, HK⟩ := hrel
  by_cases hlt : k < 27
  · have hix := index_key k hlt
    have HS := hd (contains_at Lx.keys t.data.toList k hlt)
    obtain ⟨u, hu⟩ : ∃ u : ByteArray, u = ⟨(Lx.keys.getD k []).toArray⟩ := ⟨_, rfl⟩
    have HU : Hid (u.data.toList = Lx.keys.getD k []) := by rw [hu]; show _ = _; simp
    rw [← hu] at hix
    clear hu
    go_wp2
    · go_ret
      have q : (u.toList == t.toList) = true := by assumption
      exact ⟨ret_bool (by rw [HK.out, HS.out, ← HU.out, ← Lib.toList_data, ← Lib.toList_data, q]; simp), rfl⟩
    · go_round
      case rel =>
       have q : (u.toList == t.toList) = false := by assumption
       exact ⟨k + 1, by omega, by go_num, by show _ = _; rw [HK.out, HS.out, ← HU.out]; rw [Lib.toList_data, Lib.toList_data] at q; rw [q]; simp⟩
      case measure => simp [intOf]; omega
  · go_wp2
    go_ret
    exact ⟨ret_bool (by rw [HK.out, List.drop_eq_nil_of_le (by show 27 ≤ k; omega)]; rfl), rfl⟩
theorem upperA_eq (l : Lx.Bs) : Lib.toUpperA l = l.map Lx.upB := by
 unfold Lib.toUpperA
 congr 1
 funext b
 unfold Lib.upperB Lx.upB Lib.isLowerB
 by_cases h : 97 ≤ b.toNat ∧ b.toNat ≤ 122
 · rw [if_pos h, if_pos]; simp [UInt8.le_iff_toNat_le]; exact h
 · rw [if_neg h, if_neg]; simp [UInt8.le_iff_toNat_le]; omega
theorem lowerA_eq (l : Lx.Bs) : Lib.toLowerA l = l.map Lx.lowB := by
 unfold Lib.toLowerA
 congr 1
 funext b
 unfold Lib.lowerB Lx.lowB Lib.isUpperB
 by_cases h : 65 ≤ b.toNat ∧ b.toNat ≤ 90
 · rw [if_pos h, if_pos]; simp [UInt8.le_iff_toNat_le]; exact h
 · rw [if_neg h, if_neg]; simp [UInt8.le_iff_toNat_le]; omega
theorem rWd_byte (b : UInt8) : rWd (b.toNat : Int) = Lx.isWd b := by
 rw [Bool.eq_iff_iff]
 simp [rWd, Lx.isWd, Lx.isDig, Lx.isLet]
 omega
theorem rDig_byte (b : UInt8) : rDig (b.toNat : Int) = Lx.isDig b := by
 rw [Bool.eq_iff_iff]
 simp [rDig, Lx.isDig]
 omega
theorem low_bad (s : Lx.Bs) (j : Nat) (b : UInt8) (h : s[j]? = some b) (hb : Lx.isWd b = false) : Px.lowWord s = false := by
 unfold Px.lowWord
 by_cases hc : Lx.cnt Lx.isWd s = s.length
 · have hm : b ∈ s := List.mem_of_getElem? h
   have := Lx.cnt_all Lx.isWd s b
   rw [hc, List.take_length] at this
   rw [this hm] at hb
   cases hb
 · simp [hc]
theorem low_dig (b : UInt8) (r : Lx.Bs) (h : Lx.isDig b = true) : Px.lowWord (b :: r) = false := by
 unfold Px.lowWord
 simp [Px.dig_not_let h]
theorem cnt_full (p : UInt8 → Bool) : ∀ l : Lx.Bs, (∀ b ∈ l, p b = true) → Lx.cnt p l = l.length
 | [], _ => rfl
 | b :: l, h => by
  simp only [Lx.cnt, List.length_cons]
  rw [if_pos (h b (by simp)), cnt_full p l (fun x hx => h x (by simp [hx]))]
theorem low_good (s : Lx.Bs) (h : ∀ b ∈ s, Lx.isWd b = true) (h0 : ∀ b r, s = b :: r → Lx.isDig b = false) (hne : s ≠ []) : Px.lowWord s = (!Lx.hasB Lx.keys (s.map Lx.upB) && s.map Lx.lowB == s) := by
 unfold Px.lowWord
 rw [cnt_full Lx.isWd s h]
 cases s with
 | nil => exact absurd rfl hne
 | cons b r =>
  have h1 := h b (by simp)
  have h2 := h0 b r rfl
  have : Lx.isLet b = true := by unfold Lx.isWd at h1; rw [h2] at h1; simpa using h1
  simp [this]
theorem dec_far (s : ByteArray) (i : Nat) (h : i < s.size) (hb : 128 ≤ s[i].toNat) : 128 ≤ (Utf8.decode s i).1 := by
 by_cases hc : Lx.charN (s.data.toList.drop i) = 0
 · rw [(dec_bad s i h hc).1]; decide
 · obtain ⟨_, _, h3⟩ := dec_good s i h hc
   rcases h3 with ⟨_, _, h4⟩ | ⟨_, h4, _⟩
   · omega
   · exact h4
theorem wd_ascii {b : UInt8} (h : Lx.isWd b = true) : b.toNat < 128 := by
 simp only [Lx.isWd, Lx.isDig, Lx.isLet, Bool.or_eq_true, decide_eq_true_eq] at h
 omega
theorem IsBare_any (w : World) (t : ByteArray) (he : Env0 w) (hl : t.size ≤ 30) (hne : t.data.toList ≠ []) :
   Calls Tryz.prog 117 #[.string t] w fun e w' => e = .returned (.bool (Px.lowWord t.data.toList)) ∧ Below w.heap.size w w' := by
 have HE := hd he
 have HNE := hd hne
 have hlen : t.data.toList.length = t.size := by simp
 have HLEN := hd hlen
 clear he hne hlen
 go_enter Tryz.func117, Tryz.ntmps117
 go_wp2_with fail
 go_loopw [8] (fun _ wr => ∃ pos : Nat, pos ≤ t.size ∧ wr = w.iter t pos ∧ Hid (∀ j b, j < pos → t.data.toList[j]? = some b → Lx.isWd b = true) ∧ Hid (0 < pos → ∀ b r, t.data.toList = b :: r → Lx.isDig b = false)) (fun _ wr => t.size - wr.iterPos w.heap.size)
 case atStart => exact ⟨0, by omega, rfl, fun j b hj => by omega, fun h => by omega⟩
 case round =>
  obtain ⟨pos, hpos, rfl, HA, HD⟩ := hrel
  by_cases hlt : pos < t.size
  · have hg : t.data.toList[pos]? = some t[pos] := by
     rw [List.getElem?_eq_getElem (by simp; exact hlt)]
     simp
     rfl
    have HG := hd hg
    by_cases ha : t[pos].toNat < 128
    · have hnx := fun ty => run_next_ascii (P := Tryz.prog) w t pos ty hlt ha
      have HW := hd (rWd_byte t[pos])
      have HDg := hd (rDig_byte t[pos])
      generalize t[pos] = c at *
      go_wp2_with fail
      refine (inWord_any _ _).mono ?_
      rintro e w1 ⟨rfl, h0⟩
      rw [h0, HW.out]
      clear h0 w1
      cases hw : Lx.isWd c with
      | false =>
       have HR := hd (low_bad _ pos c HG.out hw)
       go_wp2_with fail
       go_ret
       rw [HR.out]
       exact ⟨rfl, (Below.refl _ _).alloc (Nat.le_refl _) _⟩
      | true =>
       by_cases hp0 : pos = 0
       · subst hp0
         go_wp2_with fail
         refine (isDigit_any _ _).mono ?_
         rintro e w1 ⟨rfl, h0⟩
         rw [h0, HDg.out]
         clear h0 w1
         cases hdg : Lx.isDig c with
         | true =>
          have HR : Hid (Px.lowWord t.data.toList = false) := by
           show _ = _
           cases hh : t.data.toList with
           | nil => exact absurd hh HNE.out
           | cons b r =>
            have := HG.out
            rw [hh] at this
            simp at this
            subst this
            exact low_dig b r hdg
          go_wp2_with fail
          go_ret
          rw [HR.out]
          exact ⟨rfl, (Below.refl _ _).alloc (Nat.le_refl _) _⟩
         | false =>
          have HW2 := hd hw
          have HD2 := hd hdg
          clear hw hdg
          go_wp2_with fail
          go_roundw
          case rel =>
           refine ⟨1, by omega, rfl, ?_, ?_⟩
           · intro j b hj hjb
             have : j = 0 := by omega
             subst this
             rw [HG.out] at hjb
             cases hjb
             exact HW2.out
           · intro _ b r hbr
             have := HG.out
             rw [hbr] at this
             simp at this
             subst this
             exact HD2.out
          case measure => rw [World.iterPos_iter, World.iterPos_iter]; omega
       · have hp' : ((pos : Int) == 0) = false := by rw [beq_eq_false_iff_ne]; omega
         have HW2 := hd hw
         clear hw
         go_wp2_with fail
         go_roundw
         case rel =>
          refine ⟨pos + 1, by omega, rfl, ?_, fun _ => HD.out (by omega)⟩
          intro j b hj hjb
          by_cases hj2 : j < pos
          · exact HA.out j b hj2 hjb
          · have : j = pos := by omega
            subst this
            rw [HG.out] at hjb
            cases hjb
            exact HW2.out
         case measure => rw [World.iterPos_iter, World.iterPos_iter]; omega
    · have hnx := fun ty => run_next_any (P := Tryz.prog) w t pos ty hlt
      have hfar := dec_far t pos hlt (by omega)
      have HR : Hid (Px.lowWord t.data.toList = false) := low_bad _ pos t[pos] HG.out (by
       cases hh : Lx.isWd t[pos] with
       | false => rfl
       | true => have := wd_ascii hh; omega)
      have HWF : Hid (rWd ((Utf8.decode t pos).1 : Int) = false) := by show _ = _; simp [rWd]; omega
      generalize (Utf8.decode t pos).1 = rr at *
      generalize (Utf8.decode t pos).2 = rw' at *
      go_wp2_with fail
      refine (inWord_any _ _).mono ?_
      rintro e w1 ⟨rfl, h0⟩
      rw [h0, HWF.out]
      clear h0 w1
      go_wp2_with fail
      go_ret
      rw [HR.out]
      exact ⟨rfl, (Below.refl _ _).alloc (Nat.le_refl _) _⟩
  · have hpe : pos = t.size := by omega
    subst hpe
    have hnx := fun ty => run_next_end (P := Tryz.prog) w t t.size ty (by omega)
    have HAll : Hid (∀ b ∈ t.data.toList, Lx.isWd b = true) := by
     intro b hb
     obtain ⟨j, hj⟩ := List.mem_iff_getElem?.1 hb
     refine HA.out j b ?_ hj
     have := (List.getElem?_eq_some_iff.1 hj).1
     rw [HLEN.out] at this
     exact this
    have HLW : Hid (Px.lowWord t.data.toList = (!Lx.hasB Lx.keys (t.data.toList.map Lx.upB) && t.data.toList.map Lx.lowB == t.data.toList)) := by
     refine low_good _ HAll.out ?_ HNE.out
     refine HD.out ?_
     have := List.length_pos_iff.2 HNE.out
     rw [HLEN.out] at this
     exact this
    have HAs : Hid (∀ (j : Nat) (b : UInt8), t.data.toList[j]? = some b → b.toNat < 128) := fun j b hj => wd_ascii (HAll.out b (List.mem_of_getElem? hj))
    have h1 : (t.toList == []) = false := by rw [Lib.toList_data]; exact beq_eq_false_iff_ne.2 HNE.out
    have HEI : Hid (Env0 (w.iter t t.size)) := HE.out.below ((Below.refl _ _).alloc (Nat.le_refl _) _)
    have HBI : Hid (Below w.heap.size w (w.iter t t.size)) := (Below.refl _ _).alloc (Nat.le_refl _) _
    go_wp2_with fail
    refine (Tryz.strings_ToLower_ascii t _ (by omega) HAs.out).mono ?_
    rintro e w1 ⟨rfl, hb1⟩
    rw [lowerA_eq]
    have HB1 := hd (below_more0 HBI.out hb1 HBI.out.size)
    have HE1 := hd (HEI.out.below hb1)
    obtain ⟨lw, hlw⟩ : ∃ lw : ByteArray, lw = ⟨(t.data.toList.map Lx.lowB).toArray⟩ := ⟨_, rfl⟩
    have HLL : Hid (lw.data.toList = t.data.toList.map Lx.lowB) := by show _ = _; rw [hlw]
    rw [← hlw]
    clear hlw hb1 hnx
    by_cases heq : t.data.toList.map Lx.lowB = t.data.toList
    · have heq' : (t.toList == lw.toList) = true := by rw [beq_iff_eq, Lib.toList_data, Lib.toList_data, HLL.out, heq]
      have HR : Hid (Px.lowWord t.data.toList = !Lx.hasB Lx.keys (t.data.toList.map Lx.upB)) := by show _ = _; rw [HLW.out, heq]; simp
      clear heq
      go_wp2_with fail
      refine (Tryz.strings_ToUpper_ascii t _ (by omega) HAs.out).mono ?_
      rintro e w2 ⟨rfl, hb2⟩
      rw [upperA_eq]
      have HB2 := hd (below_more0 HB1.out hb2 HB1.out.size)
      have HE2 := hd (HE1.out.below hb2)
      obtain ⟨up, hup⟩ : ∃ up : ByteArray, up = ⟨(t.data.toList.map Lx.upB).toArray⟩ := ⟨_, rfl⟩
      have HUP : Hid (up.data.toList = t.data.toList.map Lx.upB) := by show _ = _; rw [hup]
      rw [← hup]
      clear hup hb2
      go_wp2_with fail
      refine (isKeyword_any up _ HE2.out).mono ?_
      rintro e w3 ⟨rfl, h0⟩
      rw [h0, HUP.out]
      clear h0 w3
      generalize hkk : Lx.hasB Lx.keys (t.data.toList.map Lx.upB) = kk at *
      have HR2 : Hid (Px.lowWord t.data.toList = !kk) := by show _ = _; rw [HR.out]
      go_wp2_with fail
      go_ret
      rw [HR2.out]
      exact ⟨rfl, HB2.out⟩
    · have heq' : (t.toList == lw.toList) = false := by rw [beq_eq_false_iff_ne, Lib.toList_data, Lib.toList_data, HLL.out]; exact fun e => heq e.symm
      have HR : Hid (Px.lowWord t.data.toList = false) := by show _ = _; rw [HLW.out]; simp [heq]
      clear heq
      go_wp2_with fail
      go_ret
      rw [HR.out]
      exact ⟨rfl, HB1.out⟩
theorem name_parts {s : Lx.Bs} (h : Px.isName s = true) : s ≠ [] ∧ s.length ≤ 30 := by
 unfold Px.isName at h
 simp only [Bool.and_eq_true, decide_eq_true_eq, Bool.not_eq_true'] at h
 refine ⟨?_, h.2⟩
 intro e
 rw [e] at h
 exact absurd h.1.2 (by decide)
theorem d_putName_any (B : Nat) (w : World) (l : List Px.PT) (s : Lx.Bs) (h : Prs w B l) (he : EnvV w) (hs : Px.isName s = true) :
   Calls Tryz.prog 67 #[.pointer (some ⟨B, 0, none⟩), .string ⟨s.toArray⟩] w (POut w B (l ++ [Px.nmT s])) := by
 have HP := hd h
 have HE := hd he
 obtain ⟨hne, hl⟩ := name_parts hs
 have HPT := hd (pt0_nm s hne (by omega))
 have hlt := h.lt
 clear h he hs
 go_enter Tryz.func67, Tryz.ntmps67
 go_wp2_with fail
 refine (IsBare_any w ⟨s.toArray⟩ HE.out.envw.env (by simpa [ByteArray.size] using hl) (by rw [show ((⟨s.toArray⟩ : ByteArray).data.toList) = s by simp]; exact hne)).mono ?_
 rintro x w1 ⟨rfl, hb1⟩
 rw [show ((⟨s.toArray⟩ : ByteArray).data.toList) = s by simp]
 have HP1 := hd (HP.out.below hb1)
 have HE1 := hd (HE.out.below hb1)
 have HK1 := hd (Kq.below (B := B) hb1 (by omega))
 clear hb1
 cases hb : Px.lowWord s with
 | true =>
  have hout : (Px.nmT s).out = s := by show Px.nameT s = s; unfold Px.nameT; rw [if_pos hb]
  have HOUT := hd hout
  clear hb hout
  go_wp2_with fail
  have hc := d_put1 B w1 l (Px.nmT s) HP1.out HPT.out
  rw [HOUT.out] at hc
  refine hc.mono ?_
  rintro x w2 ho
  obtain ⟨k2, ⟨rfl, hb⟩ | ⟨rfl, hp⟩⟩ := ho.cases
  · exact ⟨rfl, HK1.out.trans k2, .inr ⟨rfl, hb⟩⟩
  have HP2 := hd hp
  have HK2 := hd (HK1.out.trans k2)
  clear hp k2 ho hc
  go_wp2_with fail
  go_end0
  exact POut.ok HK2.out HP2.out
 | false =>
  have hout : (Px.nmT s).out = Px.dbl 34 s := by show Px.nameT s = _; unfold Px.nameT; rw [if_neg (by rw [hb]; decide)]
  have HOUT := hd hout
  clear hb hout
  go_wp2_with fail
  refine (d_quoted_any w1 s 34 HE1.out (by omega)).mono ?_
  rintro x w2 ⟨rfl, hb2⟩
  have HP2 := hd (HP1.out.below hb2)
  have HK2 := hd (HK1.out.more hb2 (by have := HP1.out.lt; omega))
  rw [← HOUT.out]
  clear hb2
  go_wp2_with fail
  refine (d_put1 B w2 l (Px.nmT s) HP2.out HPT.out).mono ?_
  rintro x w3 ho
  obtain ⟨k3, ⟨rfl, hb⟩ | ⟨rfl, hp⟩⟩ := ho.cases
  · exact ⟨rfl, HK2.out.trans k3, .inr ⟨rfl, hb⟩⟩
  have HP3 := hd hp
  have HK3 := hd (HK2.out.trans k3)
  clear hp k3 ho
  go_wp2_with fail
  go_end0
  exact POut.ok HK3.out HP3.out
theorem taNullNull (w : World) : (Instr.typeAssert (.iface 190 (.agg #[])) 97 190 true).run Tryz.prog w = .ok (.tuple #[.agg #[], .bool true]) w := by kernel_rfl
theorem taNullNumber (w : World) : (Instr.typeAssert (.iface 190 (.agg #[])) 97 194 true).run Tryz.prog w = .ok (.tuple #[.agg #[.int .i64 0], .bool false]) w := by kernel_rfl
theorem taNullUnary (w : World) : (Instr.typeAssert (.iface 190 (.agg #[])) 97 200 true).run Tryz.prog w = .ok (.tuple #[.agg #[.int .i64 0, .nilIface], .bool false]) w := by kernel_rfl
theorem taNullBinary (w : World) : (Instr.typeAssert (.iface 190 (.agg #[])) 97 202 true).run Tryz.prog w = .ok (.tuple #[.agg #[.int .i64 0, .nilIface, .nilIface], .bool false]) w := by kernel_rfl
theorem taBoolNull (a : Value) (w : World) : (Instr.typeAssert (.iface 192 (.agg #[a])) 97 190 true).run Tryz.prog w = .ok (.tuple #[.agg #[], .bool false]) w := by kernel_rfl
theorem taBoolBool (a : Value) (w : World) : (Instr.typeAssert (.iface 192 (.agg #[a])) 97 192 true).run Tryz.prog w = .ok (.tuple #[.agg #[a], .bool true]) w := by kernel_rfl
theorem taBoolNumber (a : Value) (w : World) : (Instr.typeAssert (.iface 192 (.agg #[a])) 97 194 true).run Tryz.prog w = .ok (.tuple #[.agg #[.int .i64 0], .bool false]) w := by kernel_rfl
theorem taBoolUnary (a : Value) (w : World) : (Instr.typeAssert (.iface 192 (.agg #[a])) 97 200 true).run Tryz.prog w = .ok (.tuple #[.agg #[.int .i64 0, .nilIface], .bool false]) w := by kernel_rfl
theorem taBoolBinary (a : Value) (w : World) : (Instr.typeAssert (.iface 192 (.agg #[a])) 97 202 true).run Tryz.prog w = .ok (.tuple #[.agg #[.int .i64 0, .nilIface, .nilIface], .bool false]) w := by kernel_rfl
theorem taNumberNull (a : Value) (w : World) : (Instr.typeAssert (.iface 194 (.agg #[a])) 97 190 true).run Tryz.prog w = .ok (.tuple #[.agg #[], .bool false]) w := by kernel_rfl
theorem taNumberBool (a : Value) (w : World) : (Instr.typeAssert (.iface 194 (.agg #[a])) 97 192 true).run Tryz.prog w = .ok (.tuple #[.agg #[.bool false], .bool false]) w := by kernel_rfl
theorem taNumberNumber (a : Value) (w : World) : (Instr.typeAssert (.iface 194 (.agg #[a])) 97 194 true).run Tryz.prog w = .ok (.tuple #[.agg #[a], .bool true]) w := by kernel_rfl
theorem taNumberUnary (a : Value) (w : World) : (Instr.typeAssert (.iface 194 (.agg #[a])) 97 200 true).run Tryz.prog w = .ok (.tuple #[.agg #[.int .i64 0, .nilIface], .bool false]) w := by kernel_rfl
theorem taNumberBinary (a : Value) (w : World) : (Instr.typeAssert (.iface 194 (.agg #[a])) 97 202 true).run Tryz.prog w = .ok (.tuple #[.agg #[.int .i64 0, .nilIface, .nilIface], .bool false]) w := by kernel_rfl
theorem taStringNull (a : Value) (w : World) : (Instr.typeAssert (.iface 196 (.agg #[a])) 97 190 true).run Tryz.prog w = .ok (.tuple #[.agg #[], .bool false]) w := by kernel_rfl
theorem taStringBool (a : Value) (w : World) : (Instr.typeAssert (.iface 196 (.agg #[a])) 97 192 true).run Tryz.prog w = .ok (.tuple #[.agg #[.bool false], .bool false]) w := by kernel_rfl
theorem taStringNumber (a : Value) (w : World) : (Instr.typeAssert (.iface 196 (.agg #[a])) 97 194 true).run Tryz.prog w = .ok (.tuple #[.agg #[.int .i64 0], .bool false]) w := by kernel_rfl
theorem taStringString (a : Value) (w : World) : (Instr.typeAssert (.iface 196 (.agg #[a])) 97 196 true).run Tryz.prog w = .ok (.tuple #[.agg #[a], .bool true]) w := by kernel_rfl
theorem taStringUnary (a : Value) (w : World) : (Instr.typeAssert (.iface 196 (.agg #[a])) 97 200 true).run Tryz.prog w = .ok (.tuple #[.agg #[.int .i64 0, .nilIface], .bool false]) w := by kernel_rfl
theorem taStringBinary (a : Value) (w : World) : (Instr.typeAssert (.iface 196 (.agg #[a])) 97 202 true).run Tryz.prog w = .ok (.tuple #[.agg #[.int .i64 0, .nilIface, .nilIface], .bool false]) w := by kernel_rfl
theorem taNameNull (a : Value) (w : World) : (Instr.typeAssert (.iface 198 (.agg #[a])) 97 190 true).run Tryz.prog w = .ok (.tuple #[.agg #[], .bool false]) w := by kernel_rfl
theorem taNameBool (a : Value) (w : World) : (Instr.typeAssert (.iface 198 (.agg #[a])) 97 192 true).run Tryz.prog w = .ok (.tuple #[.agg #[.bool false], .bool false]) w := by kernel_rfl
theorem taNameNumber (a : Value) (w : World) : (Instr.typeAssert (.iface 198 (.agg #[a])) 97 194 true).run Tryz.prog w = .ok (.tuple #[.agg #[.int .i64 0], .bool false]) w := by kernel_rfl
theorem taNameString (a : Value) (w : World) : (Instr.typeAssert (.iface 198 (.agg #[a])) 97 196 true).run Tryz.prog w = .ok (.tuple #[.agg #[.string ⟨#[]⟩], .bool false]) w := by kernel_rfl
theorem taNameName (a : Value) (w : World) : (Instr.typeAssert (.iface 198 (.agg #[a])) 97 198 true).run Tryz.prog w = .ok (.tuple #[.agg #[a], .bool true]) w := by kernel_rfl
theorem taNameUnary (a : Value) (w : World) : (Instr.typeAssert (.iface 198 (.agg #[a])) 97 200 true).run Tryz.prog w = .ok (.tuple #[.agg #[.int .i64 0, .nilIface], .bool false]) w := by kernel_rfl
theorem taNameBinary (a : Value) (w : World) : (Instr.typeAssert (.iface 198 (.agg #[a])) 97 202 true).run Tryz.prog w = .ok (.tuple #[.agg #[.int .i64 0, .nilIface, .nilIface], .bool false]) w := by kernel_rfl
theorem taUnaryNull (a b : Value) (w : World) : (Instr.typeAssert (.iface 200 (.agg #[a, b])) 97 190 true).run Tryz.prog w = .ok (.tuple #[.agg #[], .bool false]) w := by kernel_rfl
theorem taUnaryBool (a b : Value) (w : World) : (Instr.typeAssert (.iface 200 (.agg #[a, b])) 97 192 true).run Tryz.prog w = .ok (.tuple #[.agg #[.bool false], .bool false]) w := by kernel_rfl
theorem taUnaryNumber (a b : Value) (w : World) : (Instr.typeAssert (.iface 200 (.agg #[a, b])) 97 194 true).run Tryz.prog w = .ok (.tuple #[.agg #[.int .i64 0], .bool false]) w := by kernel_rfl
theorem taUnaryString (a b : Value) (w : World) : (Instr.typeAssert (.iface 200 (.agg #[a, b])) 97 196 true).run Tryz.prog w = .ok (.tuple #[.agg #[.string ⟨#[]⟩], .bool false]) w := by kernel_rfl
theorem taUnaryName (a b : Value) (w : World) : (Instr.typeAssert (.iface 200 (.agg #[a, b])) 97 198 true).run Tryz.prog w = .ok (.tuple #[.agg #[.string ⟨#[]⟩], .bool false]) w := by kernel_rfl
theorem taUnaryUnary (a b : Value) (w : World) : (Instr.typeAssert (.iface 200 (.agg #[a, b])) 97 200 true).run Tryz.prog w = .ok (.tuple #[.agg #[a, b], .bool true]) w := by kernel_rfl
theorem taBinaryNull (a b c : Value) (w : World) : (Instr.typeAssert (.iface 202 (.agg #[a, b, c])) 97 190 true).run Tryz.prog w = .ok (.tuple #[.agg #[], .bool false]) w := by kernel_rfl
theorem taBinaryBool (a b c : Value) (w : World) : (Instr.typeAssert (.iface 202 (.agg #[a, b, c])) 97 192 true).run Tryz.prog w = .ok (.tuple #[.agg #[.bool false], .bool false]) w := by kernel_rfl
theorem taBinaryNumber (a b c : Value) (w : World) : (Instr.typeAssert (.iface 202 (.agg #[a, b, c])) 97 194 true).run Tryz.prog w = .ok (.tuple #[.agg #[.int .i64 0], .bool false]) w := by kernel_rfl
theorem taBinaryString (a b c : Value) (w : World) : (Instr.typeAssert (.iface 202 (.agg #[a, b, c])) 97 196 true).run Tryz.prog w = .ok (.tuple #[.agg #[.string ⟨#[]⟩], .bool false]) w := by kernel_rfl
theorem taBinaryName (a b c : Value) (w : World) : (Instr.typeAssert (.iface 202 (.agg #[a, b, c])) 97 198 true).run Tryz.prog w = .ok (.tuple #[.agg #[.string ⟨#[]⟩], .bool false]) w := by kernel_rfl
theorem taBinaryUnary (a b c : Value) (w : World) : (Instr.typeAssert (.iface 202 (.agg #[a, b, c])) 97 200 true).run Tryz.prog w = .ok (.tuple #[.agg #[.int .i64 0, .nilIface], .bool false]) w := by kernel_rfl
theorem taBinaryBinary (a b c : Value) (w : World) : (Instr.typeAssert (.iface 202 (.agg #[a, b, c])) 97 202 true).run Tryz.prog w = .ok (.tuple #[.agg #[a, b, c], .bool true]) w := by kernel_rfl
theorem y_levelOfUnary_any (k : Nat) (w : World) : Calls Tryz.prog 228 #[.int .i64 (k : Int)] w fun x w' => x = .returned (.int .i64 (((if k = 20 then 3 else if k = 19 then 8 else 4 : Nat)) : Int)) ∧ w' = w := by
 by_cases h1 : k = 20
 · subst h1
   go_enter Tryz.func228, Tryz.ntmps228
   go_wp2
   go_ret
   exact ⟨rfl, rfl⟩
 · by_cases h2 : k = 19
   · subst h2
     go_enter Tryz.func228, Tryz.ntmps228
     go_wp2
     go_ret
     exact ⟨rfl, rfl⟩
   · have e1 : ((k : Int) == 20) = false := beq_eq_false_iff_ne.2 (by omega)
     have e2 : ((k : Int) == 19) = false := beq_eq_false_iff_ne.2 (by omega)
     rw [if_neg h1, if_neg h2]
     clear h1 h2
     go_enter Tryz.func228, Tryz.ntmps228
     go_wp2
     go_ret
     exact ⟨rfl, rfl⟩
def PE : Px.E → Prop
 | .num z => -9223372036854775808 ≤ z ∧ z ≤ 9223372036854775807
 | .str s => s.length ≤ 1000000000
 | .nm s => Px.isName s = true
 | .un k e => (19 ≤ k ∧ k ≤ 22) ∧ PE e
 | .bin k a b => (23 ≤ k ∧ k ≤ 36) ∧ PE a ∧ PE b
 | _ => True
end Go.Proofs.YtkcakbgcfnhgaaaGreatDoor
