/- Parts of the proof: Wc Wd CpE We Wf Kee CpF CpG -/
import Derived.Test.YtkcakbgcfnhgaaaGreatDoorX3
import Derived.Test.YtkcakbgcfnhgaaaGreatDoorXShelfC
namespace Go.Proofs.YtkcakbgcfnhgaaaGreatDoor
set_option linter.unusedSimpArgs false
set_option linter.unusedVariables false
set_option maxRecDepth 100000
set_option maxHeartbeats 16000000
open Go.RowKit
theorem k_text_any (w : World) (B : Nat) (t : ByteArray) (he : EnvW w) (hs : t.size ≤ 140737488355328) :
   Calls Tryz.prog 129 #[.pointer (some ⟨B, 0, none⟩), .string t] w fun x w' => Below w.heap.size w w' ∧ if Lx.validN t.data.toList = true then x = .returned (.string t) else x = Flt 0 7 := by
 have HV := hd (valid_lib t.data.toList)
 have HE := hd he
 have HS := hd hs
 clear he hs
 go_enter Tryz.func129, Tryz.ntmps129
 go_wp2_with fail
 refine (Tryz.utf8_ValidString t _ (by have := HS.out; omega) HE.out.env.tabs).mono ?_
 rintro x w1 ⟨rfl, hb1⟩
 have HB1 := hd hb1
 clear hb1
 cases hv : Lib.validD t.data.toList with
 | false =>
  have HF : Hid (Lx.validN t.data.toList = false) := by show _ = _; rw [HV.out, hv]; rfl
  clear hv
  go_wp2_with fail
  refine (k_must_false _ B).mono ?_
  rintro y w2 ⟨rfl, hb2⟩
  refine ⟨rfl, below_more0 HB1.out hb2 HB1.out.size, ?_⟩
  rw [HF.out]
  rfl
 | true =>
  have HT : Hid (Lx.validN t.data.toList = !decide (0 ≤ Lib.indexByte t.data.toList 0)) := by show _ = _; rw [HV.out, hv]; rfl
  clear hv
  go_wp2_with fail
  refine (Tryz.strings_Contains_one t 0 _).mono ?_
  rintro x w2 ⟨rfl, rfl⟩
  cases hz : decide (0 ≤ Lib.indexByte t.data.toList 0) with
  | true =>
   have HF : Hid (Lx.validN t.data.toList = false) := by show _ = _; rw [HT.out, hz]; rfl
   clear hz
   go_wp2_with fail
   refine (k_must_false _ B).mono ?_
   rintro y w2 ⟨rfl, hb2⟩
   refine ⟨rfl, below_more0 HB1.out hb2 HB1.out.size, ?_⟩
   rw [HF.out]
   rfl
  | false =>
   have HF : Hid (Lx.validN t.data.toList = true) := by show _ = _; rw [HT.out, hz]; rfl
   clear hz
   go_wp2_with fail
   refine (k_must_true _ B).mono ?_
   rintro y w2 ⟨rfl, rfl⟩
   go_wp2
   go_ret
   refine ⟨HB1.out, ?_⟩
   first | rfl | (rw [HF.out]; rfl)
theorem k_name_any (w : World) (B : Nat) (t : ByteArray) (he : EnvW w) :
   Calls Tryz.prog 74 #[.pointer (some ⟨B, 0, none⟩), .string t] w fun x w' => Below w.heap.size w w' ∧ if Px.isName t.data.toList = true then x = .returned (.string t) else x = Flt 0 7 := by
 have HE := hd he
 clear he
 have hlen : t.data.toList.length = t.size := by simp
 by_cases h0 : t.data.toList = []
 · have HF : Hid (Px.isName t.data.toList = false) := by show _ = _; rw [h0]; rfl
   have h1 : (t.toList == []) = true := by rw [Lib.toList_data, h0]; rfl
   have h2 : t.size = 0 := by rw [← hlen, h0]; rfl
   clear h0 hlen
   go_enter Tryz.func74, Tryz.ntmps74
   go_wp2_with fail
   refine (k_must_false _ B).mono ?_
   rintro y w2 ⟨rfl, hb2⟩
   refine ⟨rfl, below_more0 (by go_grown) hb2 (by simp), ?_⟩
   rw [HF.out]
   rfl
 · have h1 : (t.toList == []) = false := by rw [Lib.toList_data]; exact beq_eq_false_iff_ne.2 h0
   by_cases hl : t.size ≤ 30
   · have HF : Hid (Px.isName t.data.toList = Lx.validN t.data.toList) := by
      show _ = _
      have : t.data.toList.isEmpty = false := by cases hh : t.data.toList with
       | nil => exact absurd hh h0
       | cons a b => rfl
      unfold Px.isName
      rw [this, hlen]
      simp [hl]
     clear h0 hlen
     go_enter Tryz.func74, Tryz.ntmps74
     go_wp2_with fail
     rw [show decide ((t.size : Int) ≤ 30) = true from decide_eq_true (by omega)]
     refine (k_must_true _ B).mono ?_
     rintro y w2 ⟨rfl, rfl⟩
     go_wp2_with fail
     refine (k_text_any _ B t (HE.out.below (by go_grown)) (by omega)).mono ?_
     rintro y w3 ⟨hb3, hy⟩
     have G := hd hb3
     clear hb3
     cases hv : Lx.validN t.data.toList with
     | true =>
      rw [hv] at hy
      have hy : y = .returned (.string t) := hy
      subst hy
      have HFV : Hid (Px.isName t.data.toList = true) := by show _ = _; rw [HF.out, hv]
      clear hv
      go_wp2
      go_ret
      refine ⟨G.out, ?_⟩
      first | rfl | (rw [HFV.out]; rfl)
     | false =>
      rw [hv] at hy
      have hy : y = Flt 0 7 := hy
      subst hy
      refine ⟨rfl, G.out, ?_⟩
      rw [HF.out, hv]
      rfl
   · have HF : Hid (Px.isName t.data.toList = false) := by
      show _ = _
      unfold Px.isName
      rw [hlen]
      simp [hl]
     clear h0 hlen
     go_enter Tryz.func74, Tryz.ntmps74
     go_wp2_with fail
     rw [show decide ((t.size : Int) ≤ 30) = false from decide_eq_false (by omega)]
     refine (k_must_false _ B).mono ?_
     rintro y w2 ⟨rfl, hb2⟩
     refine ⟨rfl, below_more0 (by go_grown) hb2 (by simp), ?_⟩
     rw [HF.out]
     rfl
def opFrom (k : Int) : List (Nat × Lx.Bs × Nat) → Nat × Lx.Bs × Nat
 | [] => (0, [], 0)
 | o :: r => if (o.2.2 : Int) = k then o else opFrom k r
theorem opFrom_step (j : Nat) (k : Int) (h : j < 14) : opFrom k (Px.opTab.drop j) = if ((opK j).2.2 : Int) = k then opK j else opFrom k (Px.opTab.drop (j + 1)) := by
 rw [List.drop_eq_getElem_cons (show j < Px.opTab.length from h)]
 have : Px.opTab[j]'(show j < Px.opTab.length from h) = opK j := by
  unfold opK
  rw [List.getD_eq_getElem?_getD, List.getElem?_eq_getElem (show j < Px.opTab.length from h)]; rfl
 rw [this]
 rfl
def opOf (k : Int) : Nat × Lx.Bs × Nat := opFrom k Px.opTab
theorem opOf_none (k : Int) (h : ¬ (23 ≤ k ∧ k ≤ 36)) : opOf k = (0, [], 0) := by
 unfold opOf Px.opTab
 simp only [opFrom]
 repeat rw [if_neg (by omega)]
theorem opOf_some (k : Nat) (h1 : 23 ≤ k) (h2 : k ≤ 36) : opOf (k : Int) = ((Px.sgnT k).2, (Px.sgnT k).1, k) := by
 rcases Px.sgn_cases h1 h2 with rfl | rfl | rfl | rfl | rfl | rfl | rfl | rfl | rfl | rfl | rfl | rfl | rfl | rfl <;> decide
theorem y_operatorOf_any (k : Int) (w : World) (he : EnvW w) :
   Calls Tryz.prog 211 #[.int .i64 k] w fun e w' => e = .returned (opAgg (opOf k)) ∧ Below w.heap.size w w' := by
 have HG : Hid (∃ ty fr, (w.alloc (.cells #[.int .i64 0, .string ⟨#[]⟩, .int .i64 0] 249)).heap[4]? = some (.cells (opsRow Px.opTab).toArray ty fr)) := by
  obtain ⟨ty, fr, hg⟩ := he.ops
  refine ⟨ty, fr, ?_⟩
  rw [Below.heap_alloc _ _ _ (by have := he.env.room; omega)]
  exact hg
 clear he
 go_enter Tryz.func211, Tryz.ntmps211
 obtain ⟨ty, fr, hg⟩ := HG
 have HG := hd hg
 clear hg
 go_wp2_with (refine wpList_load_row rfl 269 _ rfl 4 rfl ty _ fr _ HG.out Tryz.underlying269 rfl (by kernel_rfl) ?_)
 go_loopw [6] (fun i wr => ∃ j : Nat, j ≤ 14 ∧ i = .int .i64 j ∧ Hid (opOf k = opFrom k (Px.opTab.drop j)) ∧ Hid (Below w.heap.size w wr) ∧ Hid (Blk wr w.heap.size #[.int .i64 0, .string ⟨#[]⟩, .int .i64 0] 249)) (fun i _ => 14 - (intOf i).toNat)
 case atStart => exact ⟨0, by omega, rfl, rfl, (Below.refl _ _).alloc (Nat.le_refl _) _, Blk.new w _ _⟩
 case round =>
  obtain ⟨j, hj, rfl, HK, HW, HBl⟩ := hrel
  have c0 := HBl.out.cell 0
  have c1 := HBl.out.cell 1
  have c2 := HBl.out.cell 2
  simp at c0 c1 c2
  have f0 := HBl.out.free 0
  have f1 := HBl.out.free 1
  have f2 := HBl.out.free 2
  have hwl := HBl.out.lt
  by_cases hlt : j < 14
  · have hix := index_op j hlt
    have HS := hd (opFrom_step j k hlt)
    have hws := HW.out.size
    generalize opK j = o at *
    obtain ⟨ol, os, ok⟩ := o
    unfold opAgg at hix
    dsimp only at hix HS
    by_cases hk : (ok : Int) = k
    · have HF : Hid (opOf k = (ol, os, ok)) := by show _ = _; rw [HK.out, HS.out, if_pos hk]
      have hk' : ((ok : Int) == k) = true := by simp [hk]
      go_wp2_with fail
      have KK := (((HBl.out.set 0 (.int .i64 k)).set 1 (.string ⟨os.toArray⟩)).set 2 (.int .i64 (ol : Int))).alloc (.cells #[.int .i64 k, .string ⟨os.toArray⟩, .int .i64 (ol : Int)] 249)
      have r0 := KK.cell 0
      have r1 := KK.cell 1
      have r2 := KK.cell 2
      simp at r0 r1 r2
      refine bodyPost_ret (v := .agg #[.int .i64 k, .string ⟨os.toArray⟩, .int .i64 (ol : Int)]) (by simp [results, Tryz.results211, go_sem, r0, r1, r2]) rfl ?_
      refine ⟨?_, (((HW.out.setCell (p := ⟨_, _, _⟩) (Nat.le_refl _) _).setCell (p := ⟨_, _, _⟩) (Nat.le_refl _) _).setCell (p := ⟨_, _, _⟩) (Nat.le_refl _) _).alloc (by simpa [World.setCell] using hws) _⟩
      rw [HF.out, ← hk]
      rfl
    · have HF : Hid (opOf k = opFrom k (Px.opTab.drop (j + 1))) := by show _ = _; rw [HK.out, HS.out, if_neg hk]
      have hk' : ((ok : Int) == k) = false := by rw [beq_eq_false_iff_ne]; exact hk
      go_wp2
      go_roundw
      case rel => exact ⟨j + 1, by omega, by go_num, HF, HW.out.alloc hws _, HBl.out.alloc _⟩
      case measure => simp [intOf]; omega
  · have HF : Hid (opOf k = (0, [], 0)) := by show _ = _; rw [HK.out, List.drop_eq_nil_of_le (by show 14 ≤ j; omega)]; rfl
    go_wp2_with fail
    have KK := ((HBl.out.set 0 (.int .i64 0)).set 1 (.string ⟨#[]⟩)).set 2 (.int .i64 0)
    have r0 := KK.cell 0
    have r1 := KK.cell 1
    have r2 := KK.cell 2
    simp at r0 r1 r2
    refine bodyPost_ret (v := .agg #[.int .i64 0, .string ⟨#[]⟩, .int .i64 0]) (by simp [results, Tryz.results211, go_sem, r0, r1, r2]) rfl ?_
    refine ⟨?_, ((HW.out.setCell (p := ⟨_, _, _⟩) (Nat.le_refl _) _).setCell (p := ⟨_, _, _⟩) (Nat.le_refl _) _).setCell (p := ⟨_, _, _⟩) (Nat.le_refl _) _⟩
    rw [HF.out]
    rfl
theorem bare_iff (xk : Int) (xt : Lx.Bs) (xn xc c : Int) : Px.bareN ⟨xk, xt, xn, xc⟩ c = true ↔ (xt = [] ∧ xn = 0 ∧ xc = c) := by
 simp [Px.bareN, and_assoc]
def SOut (w : World) (o : Option Px.E) (y : Ending) (w' : World) : Prop := Below w.heap.size w w' ∧ match o with
 | some e => y = .returned (ev e)
 | none => y = Flt 0 7
theorem k_single_null (w : World) (B : Nat) (xt : Lx.Bs) (xn xc : Int) :
   Calls Tryz.prog 212 #[.pointer (some ⟨B, 0, none⟩), ndA ⟨14, xt, xn, xc⟩] w (SOut w (Px.rA ⟨14, xt, xn, xc⟩)) := by
 unfold ndA
 simp only
 by_cases hf : xt = [] ∧ xn = 0 ∧ xc = 0
 · have HR : Hid (Px.rA ⟨14, xt, xn, xc⟩ = some .null) := by show _ = _; simp [Px.rA, bare_iff, hf]
   obtain ⟨rfl, rfl, rfl⟩ := hf
   go_enter Tryz.func212, Tryz.ntmps212
   go_wp2_with fail
   refine (k_fields_yes _ B _ _ _ _).mono ?_
   rintro y w1 ⟨rfl, hb1⟩
   have G := hd (below_more0 (B := w.heap.size) (w := w) (by go_grown) hb1 (by simp))
   clear hb1
   go_wp2
   go_ret
   refine ⟨G.out, ?_⟩
   rw [HR.out]
   rfl
 · have HR : Hid (Px.rA ⟨14, xt, xn, xc⟩ = none) := by show _ = _; simp [Px.rA, bare_iff, hf]
   have HF := hd hf
   clear hf
   go_enter Tryz.func212, Tryz.ntmps212
   go_wp2_with fail
   refine (k_fields_no _ B _ _ _ _ [] _ _ HF.out).mono ?_
   rintro y w1 ⟨rfl, hb1⟩
   refine ⟨rfl, below_more0 (by go_grown) hb1 (by simp), ?_⟩
   rw [HR.out]
   rfl
theorem k_single_bool (w : World) (B : Nat) (xt : Lx.Bs) (xn xc : Int) :
   Calls Tryz.prog 212 #[.pointer (some ⟨B, 0, none⟩), ndA ⟨15, xt, xn, xc⟩] w (SOut w (Px.rA ⟨15, xt, xn, xc⟩)) := by
 unfold ndA
 simp only
 by_cases hf : xt = [] ∧ xc = 0
 · obtain ⟨rfl, rfl⟩ := hf
   have HR : Hid (Px.rA ⟨15, [], xn, 0⟩ = if xn = 0 ∨ xn = 1 then some (.bool (decide (xn = 1))) else none) := by show _ = _; simp [Px.rA]
   go_enter Tryz.func212, Tryz.ntmps212
   go_wp2_with fail
   refine (k_fields_yes _ B _ _ _ _).mono ?_
   rintro y w1 ⟨rfl, hb1⟩
   have G := hd (below_more0 (B := w.heap.size) (w := w) (by go_grown) hb1 (by simp))
   have K : Blk w1 w.heap.size #[.int .i64 15, .string ⟨#[]⟩, .int .i64 xn, .int .i64 0] 43 := (Blk.new w _ _).below hb1 (by simp)
   have e2 := K.cell 2
   simp at e2
   have hK := K.lt
   clear hb1 K
   go_wp2_with fail
   refine (k_truth_any _ B xn).mono ?_
   rintro y w2 ⟨hb2, hy⟩
   have G2 := hd (below_more0 G.out hb2 G.out.size)
   clear hb2
   by_cases ht : xn = 0 ∨ xn = 1
   · rw [if_pos ht] at hy
     have HR2 : Hid (Px.rA ⟨15, [], xn, 0⟩ = some (.bool (decide (xn = 1)))) := by show _ = _; rw [HR.out, if_pos ht]
     clear ht
     subst hy
     generalize decide (xn = 1) = bb at *
     go_wp2
     go_ret
     refine ⟨G2.out, ?_⟩
     rw [HR2.out]
     rfl
   · rw [if_neg ht] at hy
     subst hy
     refine ⟨rfl, G2.out, ?_⟩
     rw [HR.out, if_neg ht]
     rfl
 · have HR : Hid (Px.rA ⟨15, xt, xn, xc⟩ = none) := by show _ = _; simp [Px.rA]; intro h1 h2; exact absurd ⟨h1, h2⟩ hf
   have HF := hd hf
   clear hf
   go_enter Tryz.func212, Tryz.ntmps212
   go_wp2_with fail
   refine (k_fields_no _ B _ _ _ _ [] _ _ (fun e => HF.out ⟨e.1, e.2.2⟩)).mono ?_
   rintro y w1 ⟨rfl, hb1⟩
   refine ⟨rfl, below_more0 (by go_grown) hb1 (by simp), ?_⟩
   rw [HR.out]
   rfl
theorem k_single_num (w : World) (B : Nat) (xt : Lx.Bs) (xn xc : Int) :
   Calls Tryz.prog 212 #[.pointer (some ⟨B, 0, none⟩), ndA ⟨16, xt, xn, xc⟩] w (SOut w (Px.rA ⟨16, xt, xn, xc⟩)) := by
 unfold ndA
 simp only
 by_cases hf : xt = [] ∧ xc = 0
 · obtain ⟨rfl, rfl⟩ := hf
   have HR : Hid (Px.rA ⟨16, [], xn, 0⟩ = some (.num xn)) := by show _ = _; simp [Px.rA]
   go_enter Tryz.func212, Tryz.ntmps212
   go_wp2_with fail
   refine (k_fields_yes _ B _ _ _ _).mono ?_
   rintro y w1 ⟨rfl, hb1⟩
   have G := hd (below_more0 (B := w.heap.size) (w := w) (by go_grown) hb1 (by simp))
   have K : Blk w1 w.heap.size #[.int .i64 16, .string ⟨#[]⟩, .int .i64 xn, .int .i64 0] 43 := (Blk.new w _ _).below hb1 (by simp)
   have e2 := K.cell 2
   simp at e2
   have hK := K.lt
   clear hb1 K
   go_wp2_with fail
   go_ret
   refine ⟨G.out, ?_⟩
   rw [HR.out]
   rfl
 · have HR : Hid (Px.rA ⟨16, xt, xn, xc⟩ = none) := by show _ = _; simp [Px.rA]; intro h1 h2; exact absurd ⟨h1, h2⟩ hf
   have HF := hd hf
   clear hf
   go_enter Tryz.func212, Tryz.ntmps212
   go_wp2_with fail
   refine (k_fields_no _ B _ _ _ _ [] _ _ (fun e => HF.out ⟨e.1, e.2.2⟩)).mono ?_
   rintro y w1 ⟨rfl, hb1⟩
   refine ⟨rfl, below_more0 (by go_grown) hb1 (by simp), ?_⟩
   rw [HR.out]
   rfl
theorem k_single_str (w : World) (B : Nat) (xt : Lx.Bs) (xn xc : Int) (he : EnvW w) (hl : xt.length ≤ 140737488355328) :
   Calls Tryz.prog 212 #[.pointer (some ⟨B, 0, none⟩), ndA ⟨17, xt, xn, xc⟩] w (SOut w (Px.rA ⟨17, xt, xn, xc⟩)) := by
 unfold ndA
 simp only
 obtain ⟨t, ht⟩ : ∃ t : ByteArray, t = ⟨xt.toArray⟩ := ⟨_, rfl⟩
 have HTL : Hid (t.data.toList = xt) := by show _ = _; rw [ht]
 have HL : Hid (t.size ≤ 140737488355328) := by show _ ≤ _; rw [ht]; simpa [ByteArray.size] using hl
 have HE := hd he
 have HT := hd ht
 clear he hl
 rw [← ht]
 clear ht
 go_enter Tryz.func212, Tryz.ntmps212
 go_wp2_with fail
 go_region_with (first
  | (go_at_call 129
     refine (k_text_any _ B t (HE.out.below (by go_grown)) HL.out).mono ?_
     rintro y w1 ⟨hb1, hy⟩
     have G := hd (below_more0 (B := w.heap.size) (w := w) (by go_grown) hb1 (by simp))
     rw [HTL.out] at hy
     rcases Bool.eq_false_or_eq_true (Lx.validN xt) with hv | hv
     rotate_left
     · rw [hv] at hy
       have hy : y = Flt 0 7 := hy
       subst hy
       exact ⟨rfl, G.out, by rw [show Px.rA ⟨17, xt, xn, xc⟩ = none by simp [Px.rA, hv]]; rfl⟩
     rw [hv] at hy
     have hy : y = .returned (.string t) := hy
     subst hy
     have HV := hd hv
     have K : Blk w1 w.heap.size #[.int .i64 17, .string t, .int .i64 xn, .int .i64 xc] 43 := (Blk.new w.drew _ _).below hb1 (by simp)
     have e0 := K.cell 0
     have e1 := K.cell 1
     have e2 := K.cell 2
     have e3 := K.cell 3
     simp at e0 e1 e2 e3
     have hK := K.lt
     have HK := hd K
     clear hb1 hv K)
  | (go_at_call 73
     by_cases hf : xn = 0 ∧ xc = 0
     rotate_left
     · rw [HT.out]
       refine (k_fields_no _ B _ _ _ _ xt _ _ (fun e => hf e.2)).mono ?_
       rintro y w2 ⟨rfl, hb2⟩
       exact ⟨rfl, below_more0 G.out hb2 G.out.size, by rw [show Px.rA ⟨17, xt, xn, xc⟩ = none by simp [Px.rA]; intro _ h1 h2; exact absurd ⟨h1, h2⟩ hf]; rfl⟩
     obtain ⟨rfl, rfl⟩ := hf
     refine (k_fields_yes _ B _ _ _ _).mono ?_
     rintro y w2 ⟨rfl, hb2⟩
     have K2 := HK.out.below hb2 (by omega)
     have f1 := K2.cell 1
     simp at f1
     have hK2 := K2.lt
     have G2 := hd (below_more0 G.out hb2 (Nat.le_trans (Nat.le_refl _) G.out.size))
     clear hb2 K2))
 all_goals
  go_wp2_with fail
  go_ret
  refine ⟨G2.out, ?_⟩
  rw [show Px.rA ⟨17, xt, 0, 0⟩ = some (.str xt) from by have := HV.out; simp [Px.rA, this], HT.out]
  rfl
theorem k_single_name (w : World) (B : Nat) (xt : Lx.Bs) (xn xc : Int) (he : EnvW w) (hl : xt.length ≤ 140737488355328) :
   Calls Tryz.prog 212 #[.pointer (some ⟨B, 0, none⟩), ndA ⟨18, xt, xn, xc⟩] w (SOut w (Px.rA ⟨18, xt, xn, xc⟩)) := by
 unfold ndA
 simp only
 obtain ⟨t, ht⟩ : ∃ t : ByteArray, t = ⟨xt.toArray⟩ := ⟨_, rfl⟩
 have HTL : Hid (t.data.toList = xt) := by show _ = _; rw [ht]
 have HL : Hid (t.size ≤ 140737488355328) := by show _ ≤ _; rw [ht]; simpa [ByteArray.size] using hl
 have HE := hd he
 have HT := hd ht
 clear he hl
 rw [← ht]
 clear ht
 go_enter Tryz.func212, Tryz.ntmps212
 go_wp2_with fail
 go_region_with (first
  | (go_at_call 74
     refine (k_name_any _ B t (HE.out.below (by go_grown))).mono ?_
     rintro y w1 ⟨hb1, hy⟩
     have G := hd (below_more0 (B := w.heap.size) (w := w) (by go_grown) hb1 (by simp))
     rw [HTL.out] at hy
     rcases Bool.eq_false_or_eq_true (Px.isName xt) with hv | hv
     rotate_left
     · rw [hv] at hy
       have hy : y = Flt 0 7 := hy
       subst hy
       exact ⟨rfl, G.out, by rw [show Px.rA ⟨18, xt, xn, xc⟩ = none by simp [Px.rA, hv]]; rfl⟩
     rw [hv] at hy
     have hy : y = .returned (.string t) := hy
     subst hy
     have HV := hd hv
     have K : Blk w1 w.heap.size #[.int .i64 18, .string t, .int .i64 xn, .int .i64 xc] 43 := (Blk.new w.drew _ _).below hb1 (by simp)
     have e0 := K.cell 0
     have e1 := K.cell 1
     have e2 := K.cell 2
     have e3 := K.cell 3
     simp at e0 e1 e2 e3
     have hK := K.lt
     have HK := hd K
     clear hb1 hv K)
  | (go_at_call 73
     by_cases hf : xn = 0 ∧ xc = 0
     rotate_left
     · rw [HT.out]
       refine (k_fields_no _ B _ _ _ _ xt _ _ (fun e => hf e.2)).mono ?_
       rintro y w2 ⟨rfl, hb2⟩
       exact ⟨rfl, below_more0 G.out hb2 G.out.size, by rw [show Px.rA ⟨18, xt, xn, xc⟩ = none by simp [Px.rA]; intro _ h1 h2; exact absurd ⟨h1, h2⟩ hf]; rfl⟩
     obtain ⟨rfl, rfl⟩ := hf
     refine (k_fields_yes _ B _ _ _ _).mono ?_
     rintro y w2 ⟨rfl, hb2⟩
     have K2 := HK.out.below hb2 (by omega)
     have f1 := K2.cell 1
     simp at f1
     have hK2 := K2.lt
     have G2 := hd (below_more0 G.out hb2 (Nat.le_trans (Nat.le_refl _) G.out.size))
     clear hb2 K2))
 all_goals
  go_wp2_with fail
  go_ret
  refine ⟨G2.out, ?_⟩
  rw [show Px.rA ⟨18, xt, 0, 0⟩ = some (.nm xt) from by have := HV.out; simp [Px.rA, this], HT.out]
  rfl
theorem k_single_else (w : World) (B : Nat) (xk : Int) (xt : Lx.Bs) (xn xc : Int) (h : ¬ (14 ≤ xk ∧ xk ≤ 18)) :
   Calls Tryz.prog 212 #[.pointer (some ⟨B, 0, none⟩), ndA ⟨xk, xt, xn, xc⟩] w (SOut w (Px.rA ⟨xk, xt, xn, xc⟩)) := by
 unfold ndA
 simp only
 have HR : Hid (Px.rA ⟨xk, xt, xn, xc⟩ = none) := by
  show _ = _
  unfold Px.rA
  simp only
  rw [if_neg (by omega), if_neg (by omega), if_neg (by omega), if_neg (by omega), if_neg (by omega)]
 have e14 : (xk == 14) = false := beq_eq_false_iff_ne.2 (by omega)
 have e15 : (xk == 15) = false := beq_eq_false_iff_ne.2 (by omega)
 have e16 : (xk == 16) = false := beq_eq_false_iff_ne.2 (by omega)
 have e17 : (xk == 17) = false := beq_eq_false_iff_ne.2 (by omega)
 have e18 : (xk == 18) = false := beq_eq_false_iff_ne.2 (by omega)
 clear h
 go_enter Tryz.func212, Tryz.ntmps212
 go_wp2_with fail
 refine (k_must_false _ B).mono ?_
 rintro y w1 ⟨rfl, hb1⟩
 refine ⟨rfl, below_more0 (by go_grown) hb1 (by simp), ?_⟩
 rw [HR.out]
 rfl
theorem k_single_any (w : World) (B : Nat) (x : Px.Nd) (hx : NdFit x) (he : EnvW w) :
   Calls Tryz.prog 212 #[.pointer (some ⟨B, 0, none⟩), ndA x] w (SOut w (Px.rA x)) := by
 obtain ⟨xk, xt, xn, xc⟩ := x
 have hl : xt.length ≤ 140737488355328 := hx.2.2.2
 by_cases h14 : xk = 14
 · subst h14; exact k_single_null w B xt xn xc
 by_cases h15 : xk = 15
 · subst h15; exact k_single_bool w B xt xn xc
 by_cases h16 : xk = 16
 · subst h16; exact k_single_num w B xt xn xc
 by_cases h17 : xk = 17
 · subst h17; exact k_single_str w B xt xn xc he hl
 by_cases h18 : xk = 18
 · subst h18; exact k_single_name w B xt xn xc he hl
 exact k_single_else w B xk xt xn xc (by omega)
def exV (e : Px.E) (v : Value) (_ : World) : Prop := v = ev e
theorem ev_iface (e : Px.E) : ∃ t x, ev e = .iface t x := by cases e <;> exact ⟨_, _, rfl⟩
def ExprAt (f : Nat) : Prop := ∀ (d : Nat) (w : World) (B : Nat) (l : List Px.Nd), d + f = 41 → Wks w B l → EnvW w → 12 ≤ B →
 Calls Tryz.prog 184 #[.pointer (some ⟨B, 0, none⟩), .int .i64 (d : Int)] w (WOut w B exV (Px.rE f l))
def rU (f : Nat) (k : Int) (r : List Px.Nd) : Option (Px.E × List Px.Nd) := if k = 19 ∧ Px.pkN r = 16 then none else (Px.rE f r).map fun y => (.un k.toNat y.1, y.2)
theorem WOut.none {α : Type} {w : World} {B : Nat} {V : α → Value → World → Prop} {w' : World} (hg : w.grownBy w' (some B)) : WOut w B V none (Flt 0 7) w' := ⟨hg, rfl⟩
theorem WOut.some {α : Type} {w : World} {B : Nat} {V : α → Value → World → Prop} {a : α} {l : List Px.Nd} {v : Value} {w' : World} (hg : w.grownBy w' (some B)) (hv : V a v w') (hw : Wks w' B l) : WOut w B V (some (a, l)) (.returned v) w' := ⟨hg, v, rfl, hv, hw⟩
theorem WOut.cases {α : Type} {w : World} {B : Nat} {V : α → Value → World → Prop} {o : Option (α × List Px.Nd)} {x : Ending} {w' : World} (h : WOut w B V o x w') :
   w.grownBy w' (Option.some B) ∧ ((o = Option.none ∧ x = Flt 0 7) ∨ ∃ a l v, o = Option.some (a, l) ∧ x = .returned v ∧ V a v w' ∧ Wks w' B l) := by
 obtain ⟨hg, h⟩ := h
 refine ⟨hg, ?_⟩
 match o, h with
 | Option.none, h => exact .inl ⟨rfl, h⟩
 | Option.some (a, l), h => obtain ⟨v, h1, h2, h3⟩ := h; exact .inr ⟨a, l, v, rfl, h1, h2, h3⟩
theorem Wks.fits {w : World} {B : Nat} {l : List Px.Nd} (h : Wks w B l) : ∀ x ∈ l, NdFit x := by
 obtain ⟨ao, cap, h1, h2, h3, h4, h5⟩ := h
 exact h4
theorem k_unary_rest (f : Nat) (H : ExprAt f) (d : Nat) (hdf : d + 1 + f = 41) (w0 w : World) (B : Nat) (l : List Px.Nd) (k : Nat) (o : Option (Px.E × List Px.Nd)) (ho : o = (Px.rE f l).map fun y => (.un k y.1, y.2)) (hg : w0.grownBy w (some B)) (h : Wks w B l) (he : EnvW w) (hB : 12 ≤ B) :
   Calls Tryz.prog 184 #[.pointer (some ⟨B, 0, none⟩), .int .i64 ((d : Int) + 1)] w fun x w' => w0.grownBy w' (some B) ∧ ((o = none ∧ x = Flt 0 7) ∨ ∃ e r, o = some (.un k e, r) ∧ x = .returned (ev e) ∧ Wks w' B r) := by
 have := H (d + 1) w B l hdf h he hB
 rw [show (((d + 1 : Nat)) : Int) = (d : Int) + 1 by omega] at this
 refine this.mono ?_
 rintro x w' hx
 obtain ⟨g, ⟨e1, rfl⟩ | ⟨a, r, v, e1, rfl, hv, hw⟩⟩ := hx.cases
 · exact ⟨grown_tr hg g, .inl ⟨by rw [ho, e1]; rfl, rfl⟩⟩
 · refine ⟨grown_tr hg g, .inr ⟨a, r, by rw [ho, e1]; rfl, ?_, hw⟩⟩
   have : v = ev a := hv
   rw [this]
theorem k_unary_any (f : Nat) (H : ExprAt f) (d : Nat) (hdf : d + 1 + f = 41) (w : World) (B : Nat) (l : List Px.Nd) (k : Int) (hk : k = 19 ∨ k = 20 ∨ k = 21 ∨ k = 22) (h : Wks w B l) (he : EnvW w) (hB : 12 ≤ B) :
   Calls Tryz.prog 210 #[.pointer (some ⟨B, 0, none⟩), .int .i64 k, .int .i64 (d : Int)] w (WOut w B exV (rU f k l)) := by
 have HW := hd h
 have HE := hd he
 have hBw := h.lt
 obtain ⟨kn, rfl⟩ : ∃ kn : Nat, k = (kn : Int) := ⟨k.toNat, by omega⟩
 clear h he
 by_cases h19 : kn = 19
 · subst h19
   clear hk
   go_enter Tryz.func210, Tryz.ntmps210
   go_wp2_with fail
   refine (k_peek_any _ B l (HW.out.below (by go_grown))).mono ?_
   rintro x w1 ⟨rfl, hb1⟩
   have HB1 := hd (below_more0 (B := w.heap.size) (w := w) (by go_grown) hb1 (by simp))
   clear hb1
   by_cases h16 : Px.pkN l = 16
   · have HR : Hid (rU f 19 l = none) := by show _ = _; unfold rU; rw [if_pos ⟨rfl, h16⟩]
     rw [h16]
     clear h16
     go_wp2_with fail
     refine (k_must_false _ B).mono ?_
     rintro y w2 ⟨rfl, hb2⟩
     refine ⟨rfl, ?_⟩
     rw [HR.out]
     exact WOut.none (Below.grownBy (below_more0 HB1.out hb2 HB1.out.size))
   · have HR : Hid (rU f 19 l = (Px.rE f l).map fun y => (.un 19 y.1, y.2)) := by show _ = _; unfold rU; rw [if_neg (fun e => h16 e.2)]; rfl
     have h16' : (Px.pkN l != 16) = true := bne_iff_ne.2 h16
     clear h16
     go_wp2_with fail
     refine (k_must_true _ B).mono ?_
     rintro y w2 ⟨rfl, rfl⟩
     go_wp2_with fail
     refine (k_unary_rest f H d hdf w _ B l 19 _ HR.out (Below.grownBy HB1.out) (HW.out.below HB1.out) (HE.out.below HB1.out) hB).mono ?_
     rintro x w3 ⟨g, ⟨e1, rfl⟩ | ⟨e, r, e1, rfl, hw⟩⟩
     · refine ⟨rfl, ?_⟩
       rw [e1]
       exact WOut.none g
     · obtain ⟨et, ex, hev⟩ := ev_iface e
       have hE : ev (.un 19 e) = .iface 200 (.agg #[.int .i64 19, .iface et ex]) := by rw [← hev]; rfl
       have HEE := hd hE
       rw [hev]
       have HG := hd g
       have HW3 := hd hw
       have HE1 := hd e1
       clear hev hE g hw e1
       go_wp2_with fail
       go_ret
       rw [show rU f ((19 : Nat) : Int) l = _ from HE1.out]
       refine WOut.some (grown_tr HG.out (Below.grownBy (by go_grown))) ?_ (HW3.out.below (by go_grown))
       exact HEE.out.symm
 · have HR : Hid (rU f (kn : Int) l = (Px.rE f l).map fun y => (.un kn y.1, y.2)) := by show _ = _; unfold rU; rw [if_neg (fun e => h19 (by omega))]; rfl
   have h19' : ((kn : Int) != 19) = true := bne_iff_ne.2 (by omega)
   clear h19 hk
   go_enter Tryz.func210, Tryz.ntmps210
   go_wp2_with fail
   refine (k_must_true _ B).mono ?_
   rintro y w2 ⟨rfl, rfl⟩
   go_wp2_with fail
   refine (k_unary_rest f H d hdf w2 _ B l kn _ HR.out (Below.grownBy (by go_grown)) (HW.out.below (by go_grown)) (HE.out.below (by go_grown)) hB).mono ?_
   rintro x w3 ⟨g, ⟨e1, rfl⟩ | ⟨e, r, e1, rfl, hw⟩⟩
   · refine ⟨rfl, ?_⟩
     rw [e1]
     exact WOut.none g
   · obtain ⟨et, ex, hev⟩ := ev_iface e
     have hE : ev (.un kn e) = .iface 200 (.agg #[.int .i64 (kn : Int), .iface et ex]) := by rw [← hev]; rfl
     have HEE := hd hE
     rw [hev]
     have HG := hd g
     have HW3 := hd hw
     have HE1 := hd e1
     clear hev hE g hw e1
     go_wp2_with fail
     go_ret
     rw [HE1.out]
     refine WOut.some (grown_tr HG.out (Below.grownBy (by go_grown))) ?_ (HW3.out.below (by go_grown))
     exact HEE.out.symm
theorem blk_keep {w w' : World} {N B : Nat} {a : Array Value} {T : TypeId} (h : Blk w N a T) (hg : w.grownBy w' (some B)) (hN : N ≠ B) : Blk w' N a T := by
 have hl := h.lt
 unfold Blk at *
 rw [hg.block N hl (by simpa using hN)]
 exact h
theorem ofld0 (a b c : Value) (w : World) : (Instr.field 249 (.agg #[a, b, c]) 0).run Tryz.prog w = .ok a w := by kernel_rfl
theorem ofld1 (a b c : Value) (w : World) : (Instr.field 249 (.agg #[a, b, c]) 1).run Tryz.prog w = .ok b w := by kernel_rfl
theorem ofld2 (a b c : Value) (w : World) : (Instr.field 249 (.agg #[a, b, c]) 2).run Tryz.prog w = .ok c w := by kernel_rfl
theorem rE_un (f : Nat) (x : Px.Nd) (r : List Px.Nd) (hk : x.kind = 19 ∨ x.kind = 20 ∨ x.kind = 21 ∨ x.kind = 22) (hb : Px.bareN x 1 = true) : Px.rE (f + 1) (x :: r) = rU f x.kind r := by
 unfold Px.rE rU
 rw [if_pos hk]
 by_cases h : x.kind = 19 ∧ Px.pkN r = 16
 · rw [if_neg (fun e => e.2 h), if_pos h]
 · rw [if_pos ⟨hb, h⟩, if_neg h]
theorem rE_un_no (f : Nat) (x : Px.Nd) (r : List Px.Nd) (hk : x.kind = 19 ∨ x.kind = 20 ∨ x.kind = 21 ∨ x.kind = 22) (hb : ¬ Px.bareN x 1 = true) : Px.rE (f + 1) (x :: r) = none := by
 unfold Px.rE
 rw [if_pos hk, if_neg (fun e => hb e.1)]
theorem rE_bin (f : Nat) (x : Px.Nd) (r : List Px.Nd) (hk : 23 ≤ x.kind ∧ x.kind ≤ 36) (hb : Px.bareN x 2 = true) : Px.rE (f + 1) (x :: r) = (Px.rE f r).bind fun y => (Px.rE f y.2).map fun z => (.bin x.kind.toNat y.1 z.1, z.2) := by
 conv => lhs; unfold Px.rE
 rw [if_neg (by omega), if_pos hk, if_pos hb]
theorem rE_bin_no (f : Nat) (x : Px.Nd) (r : List Px.Nd) (hk : 23 ≤ x.kind ∧ x.kind ≤ 36) (hb : ¬ Px.bareN x 2 = true) : Px.rE (f + 1) (x :: r) = none := by
 unfold Px.rE
 rw [if_neg (by omega), if_pos hk, if_neg hb]
theorem rE_leaf (f : Nat) (x : Px.Nd) (r : List Px.Nd) (hk : ¬ (19 ≤ x.kind ∧ x.kind ≤ 36)) : Px.rE (f + 1) (x :: r) = (Px.rA x).map fun e => (e, r) := by
 unfold Px.rE
 rw [if_neg (by omega), if_neg (by omega)]
theorem k_expr_zero : ExprAt 0 := by
 intro d w B l hdf h he hB
 have : d = 41 := by omega
 subst this
 clear h he hdf
 go_enter Tryz.func184, Tryz.ntmps184
 go_wp2_with fail
 refine (k_must_false _ B).mono ?_
 rintro y w2 ⟨rfl, hb2⟩
 exact ⟨rfl, WOut.none (Below.grownBy (below_more0 (by go_grown) hb2 (by simp)))⟩
theorem k_expr_none (f : Nat) (d : Nat) (w : World) (B : Nat) (hdf : d + (f + 1) = 41) (h : Wks w B []) :
   Calls Tryz.prog 184 #[.pointer (some ⟨B, 0, none⟩), .int .i64 (d : Int)] w (WOut w B exV (Px.rE (f + 1) [])) := by
 have HW := hd h
 have hd2 : d ≤ 40 := by omega
 clear h hdf
 go_enter Tryz.func184, Tryz.ntmps184
 go_wp2_with fail
 rw [show decide ((d : Int) ≤ 40) = true from decide_eq_true (by omega)]
 refine (k_must_true _ B).mono ?_
 rintro y w0 ⟨rfl, h0⟩
 rw [h0]
 clear h0 w0
 go_wp2_with fail
 refine (k_take_any _ B _ (HW.out.below (by go_grown))).mono ?_
 rintro x w1 ⟨hg, rfl⟩
 exact ⟨rfl, WOut.none hg⟩
theorem k_expr_un (f : Nat) (H : ExprAt f) (hf : f ≤ 39) (d : Nat) (w : World) (B : Nat) (xk : Int) (xt : Lx.Bs) (xn xc : Int) (r : List Px.Nd) (hk : xk = 19 ∨ xk = 20 ∨ xk = 21 ∨ xk = 22) (hdf : d + (f + 1) = 41) (h : Wks w B (⟨xk, xt, xn, xc⟩ :: r)) (he : EnvW w) (hB : 12 ≤ B) :
   Calls Tryz.prog 184 #[.pointer (some ⟨B, 0, none⟩), .int .i64 (d : Int)] w (WOut w B exV (Px.rE (f + 1) (⟨xk, xt, xn, xc⟩ :: r))) := by
 have HW := hd h
 have HE := hd he
 have HH := hd H
 have hBw := h.lt
 have hd1 : 1 ≤ d := by omega
 have hd2 : d ≤ 40 := by omega
 have HD := hd hdf
 have HK := hd hk
 have HFX := hd (h.fits ⟨xk, xt, xn, xc⟩ (by simp))
 clear h he H hdf hk hf
 go_enter Tryz.func184, Tryz.ntmps184
 go_wp2_with fail
 rw [show decide ((d : Int) ≤ 40) = true from decide_eq_true (by omega)]
 refine (k_must_true _ B).mono ?_
 rintro y w0 ⟨rfl, h0⟩
 rw [h0]
 clear h0 w0
 go_wp2_with fail
 refine (k_take_any _ B _ (HW.out.below (by go_grown))).mono ?_
 rintro y w1 ⟨hg, v, rfl, hv, hw⟩
 have G1 : w.grownBy w1 (some B) := grown_tr (Below.grownBy (by go_grown)) hg
 have hv' : v = ndA ⟨xk, xt, xn, xc⟩ := hv
 subst hv'
 unfold ndA
 simp only
 have hs1 := G1.size
 have HK2 := hd (Blk.new w1 #[.int .i64 xk, .string ⟨xt.toArray⟩, .int .i64 xn, .int .i64 xc] 43)
 have HW2 := hd (hw.below ((Below.refl _ _).alloc (Nat.le_refl _) (.cells #[.int .i64 xk, .string ⟨xt.toArray⟩, .int .i64 xn, .int .i64 xc] 43)))
 have HG2 := hd (grownBy_alloc G1 (.cells #[.int .i64 xk, .string ⟨xt.toArray⟩, .int .i64 xn, .int .i64 xc] 43))
 clear hv hg hw G1
 have HN : Hid (Px.bareN ⟨xk, xt, xn, xc⟩ 1 = true ↔ (xt = [] ∧ xn = 0 ∧ xc = 1)) := bare_iff _ _ _ _ _
 rcases HK.out with rfl | rfl | rfl | rfl
 all_goals
  go_wp2_with fail
  by_cases hf : xt = [] ∧ xn = 0 ∧ xc = 1
  · have HR := hd (rE_un f ⟨_, xt, xn, xc⟩ r (by simp) (HN.out.2 hf))
    obtain ⟨rfl, rfl, rfl⟩ := hf
    refine (k_fields_yes _ B _ _ _ _).mono ?_
    rintro y w2 ⟨rfl, hb2⟩
    have K3 := HK2.out.below hb2 HK2.out.lt
    have c0 := K3.cell 0
    simp at c0
    have hK3 := K3.lt
    have W3 := hd (HW2.out.below hb2)
    have G3 := hd (grown_tr HG2.out (Below.grownBy hb2))
    have E3 := hd (HE.out.grown G3.out hB)
    clear hb2 K3
    go_wp2_with fail
    refine (k_unary_any f HH.out d (by have := HD.out; omega) w2 B r _ (by simp) W3.out E3.out hB).mono ?_
    rintro x w4 ho
    obtain ⟨g, ⟨e1, rfl⟩ | ⟨a, l', v, e1, rfl, hv, hw4⟩⟩ := ho.cases
    · refine ⟨rfl, ?_⟩
      rw [HR.out, e1]
      exact WOut.none (grown_tr G3.out g)
    · have HV : Hid (v = ev a) := hv
      obtain ⟨et, ex, hev⟩ := ev_iface a
      have hv2 : v = .iface et ex := by rw [HV.out, hev]
      subst hv2
      have HG4 := hd (grown_tr G3.out g)
      have HW4 := hd hw4
      have HE1 := hd e1
      clear ho g hw4 e1 hv hev
      go_wp2_with fail
      go_ret
      rw [HR.out, HE1.out]
      exact WOut.some HG4.out HV.out HW4.out
  · have HR := hd (rE_un_no f ⟨_, xt, xn, xc⟩ r (by simp) (fun e => hf (HN.out.1 e)))
    refine (k_fields_no _ B _ _ _ _ [] _ _ hf).mono ?_
    rintro y w2 ⟨rfl, hb2⟩
    refine ⟨rfl, ?_⟩
    rw [HR.out]
    exact WOut.none (grown_tr HG2.out (Below.grownBy hb2))
theorem k_expr_leaf (f : Nat) (H : ExprAt f) (hf : f ≤ 39) (d : Nat) (w : World) (B : Nat) (xk : Int) (xt : Lx.Bs) (xn xc : Int) (r : List Px.Nd) (hk : ¬ (19 ≤ xk ∧ xk ≤ 36)) (hdf : d + (f + 1) = 41) (h : Wks w B (⟨xk, xt, xn, xc⟩ :: r)) (he : EnvW w) (hB : 12 ≤ B) :
   Calls Tryz.prog 184 #[.pointer (some ⟨B, 0, none⟩), .int .i64 (d : Int)] w (WOut w B exV (Px.rE (f + 1) (⟨xk, xt, xn, xc⟩ :: r))) := by
 have HW := hd h
 have HE := hd he
 have HH := hd H
 have hBw := h.lt
 have hd1 : 1 ≤ d := by omega
 have hd2 : d ≤ 40 := by omega
 have HD := hd hdf
 have HK := hd hk
 have HFX := hd (h.fits ⟨xk, xt, xn, xc⟩ (by simp))
 clear h he H hdf hk hf
 go_enter Tryz.func184, Tryz.ntmps184
 go_wp2_with fail
 rw [show decide ((d : Int) ≤ 40) = true from decide_eq_true (by omega)]
 refine (k_must_true _ B).mono ?_
 rintro y w0 ⟨rfl, h0⟩
 rw [h0]
 clear h0 w0
 go_wp2_with fail
 refine (k_take_any _ B _ (HW.out.below (by go_grown))).mono ?_
 rintro y w1 ⟨hg, v, rfl, hv, hw⟩
 have G1 : w.grownBy w1 (some B) := grown_tr (Below.grownBy (by go_grown)) hg
 have hv' : v = ndA ⟨xk, xt, xn, xc⟩ := hv
 subst hv'
 unfold ndA
 simp only
 have hs1 := G1.size
 have HK2 := hd (Blk.new w1 #[.int .i64 xk, .string ⟨xt.toArray⟩, .int .i64 xn, .int .i64 xc] 43)
 have HW2 := hd (hw.below ((Below.refl _ _).alloc (Nat.le_refl _) (.cells #[.int .i64 xk, .string ⟨xt.toArray⟩, .int .i64 xn, .int .i64 xc] 43)))
 have HG2 := hd (grownBy_alloc G1 (.cells #[.int .i64 xk, .string ⟨xt.toArray⟩, .int .i64 xn, .int .i64 xc] 43))
 clear hv hg hw G1
 have e19 : (xk == 19) = false := beq_eq_false_iff_ne.2 (by have := HK.out; omega)
 have e20 : (xk == 20) = false := beq_eq_false_iff_ne.2 (by have := HK.out; omega)
 have e21 : (xk == 21) = false := beq_eq_false_iff_ne.2 (by have := HK.out; omega)
 have e22 : (xk == 22) = false := beq_eq_false_iff_ne.2 (by have := HK.out; omega)
 have HO := hd (opOf_none xk (by have := HK.out; omega))
 have HR := hd (rE_leaf f ⟨xk, xt, xn, xc⟩ r HK.out)
 go_wp2_with fail
 refine (y_operatorOf_any xk _ (HE.out.grown HG2.out hB)).mono ?_
 rintro y w2 ⟨rfl, hb2⟩
 rw [HO.out]
 have K3 := HK2.out.below hb2 HK2.out.lt
 have c0 := K3.cell 0
 have c1 := K3.cell 1
 have c2 := K3.cell 2
 have c3 := K3.cell 3
 simp at c0 c1 c2 c3
 have hK3 := K3.lt
 have W3 := hd (HW2.out.below hb2)
 have G3 := hd (grown_tr HG2.out (Below.grownBy hb2))
 have E3 := hd (HE.out.grown G3.out hB)
 clear hb2 K3
 unfold opAgg
 simp only
 have of0 := ofld0 (.int .i64 0) (.string ⟨#[]⟩) (.int .i64 0)
 go_wp2_with fail
 refine (k_single_any w2 B ⟨xk, xt, xn, xc⟩ HFX.out E3.out).mono ?_
 rintro x w4 ⟨hb4, ho⟩
 have HG4 := hd (grown_tr G3.out (Below.grownBy hb4))
 have HW4 := hd (W3.out.below hb4)
 clear hb4
 cases hra : Px.rA ⟨xk, xt, xn, xc⟩ with
 | none =>
  rw [hra] at ho
  have ho : x = Flt 0 7 := ho
  subst ho
  refine ⟨rfl, ?_⟩
  rw [HR.out, hra]
  exact WOut.none HG4.out
 | some a =>
  rw [hra] at ho
  have ho : x = .returned (ev a) := ho
  have HRA := hd hra
  subst ho
  obtain ⟨et, ex, hev⟩ := ev_iface a
  have HEV := hd hev
  rw [hev]
  clear hev hra
  go_wp2_with fail
  go_ret
  rw [HR.out, HRA.out]
  exact WOut.some HG4.out HEV.out.symm HW4.out
theorem k_expr_bin (f : Nat) (H : ExprAt f) (hf : f ≤ 39) (d : Nat) (w : World) (B : Nat) (xk : Int) (xt : Lx.Bs) (xn xc : Int) (r : List Px.Nd) (hk : 23 ≤ xk ∧ xk ≤ 36) (hdf : d + (f + 1) = 41) (h : Wks w B (⟨xk, xt, xn, xc⟩ :: r)) (he : EnvW w) (hB : 12 ≤ B) :
   Calls Tryz.prog 184 #[.pointer (some ⟨B, 0, none⟩), .int .i64 (d : Int)] w (WOut w B exV (Px.rE (f + 1) (⟨xk, xt, xn, xc⟩ :: r))) := by
 have HW := hd h
 have HE := hd he
 have HH := hd H
 have hBw := h.lt
 have hd1 : 1 ≤ d := by omega
 have hd2 : d ≤ 40 := by omega
 have HD := hd hdf
 have HK := hd hk
 have HFX := hd (h.fits ⟨xk, xt, xn, xc⟩ (by simp))
 clear h he H hdf hk hf
 go_enter Tryz.func184, Tryz.ntmps184
 go_wp2_with fail
 rw [show decide ((d : Int) ≤ 40) = true from decide_eq_true (by omega)]
 refine (k_must_true _ B).mono ?_
 rintro y w0 ⟨rfl, h0⟩
 rw [h0]
 clear h0 w0
 go_wp2_with fail
 refine (k_take_any _ B _ (HW.out.below (by go_grown))).mono ?_
 rintro y w1 ⟨hg, v, rfl, hv, hw⟩
 have G1 : w.grownBy w1 (some B) := grown_tr (Below.grownBy (by go_grown)) hg
 have hv' : v = ndA ⟨xk, xt, xn, xc⟩ := hv
 subst hv'
 unfold ndA
 simp only
 have hs1 := G1.size
 have HK2 := hd (Blk.new w1 #[.int .i64 xk, .string ⟨xt.toArray⟩, .int .i64 xn, .int .i64 xc] 43)
 have HW2 := hd (hw.below ((Below.refl _ _).alloc (Nat.le_refl _) (.cells #[.int .i64 xk, .string ⟨xt.toArray⟩, .int .i64 xn, .int .i64 xc] 43)))
 have HG2 := hd (grownBy_alloc G1 (.cells #[.int .i64 xk, .string ⟨xt.toArray⟩, .int .i64 xn, .int .i64 xc] 43))
 clear hv hg hw G1
 obtain ⟨kn, hkn⟩ : ∃ kn : Nat, xk = (kn : Int) := ⟨xk.toNat, by have := HK.out; omega⟩
 subst hkn
 have HKN : Hid (23 ≤ kn ∧ kn ≤ 36) := by have := HK.out; show _ ∧ _; omega
 have e19 : ((kn : Int) == 19) = false := beq_eq_false_iff_ne.2 (by have := HKN.out; omega)
 have e20 : ((kn : Int) == 20) = false := beq_eq_false_iff_ne.2 (by have := HKN.out; omega)
 have e21 : ((kn : Int) == 21) = false := beq_eq_false_iff_ne.2 (by have := HKN.out; omega)
 have e22 : ((kn : Int) == 22) = false := beq_eq_false_iff_ne.2 (by have := HKN.out; omega)
 have e00 : ((kn : Int) != 0) = true := bne_iff_ne.2 (by have := HKN.out; omega)
 have HO := hd (opOf_some kn HKN.out.1 HKN.out.2)
 have HN : Hid (Px.bareN ⟨(kn : Int), xt, xn, xc⟩ 2 = true ↔ (xt = [] ∧ xn = 0 ∧ xc = 2)) := bare_iff _ _ _ _ _
 go_wp2_with fail
 refine (y_operatorOf_any (kn : Int) _ (HE.out.grown HG2.out hB)).mono ?_
 rintro y w2 ⟨rfl, hb2⟩
 rw [HO.out]
 have K3 := HK2.out.below hb2 HK2.out.lt
 have c0 := K3.cell 0
 have c1 := K3.cell 1
 have c2 := K3.cell 2
 have c3 := K3.cell 3
 simp at c0 c1 c2 c3
 have hK3 := K3.lt
 have HK3 := hd K3
 have W3 := hd (HW2.out.below hb2)
 have G3 := hd (grown_tr HG2.out (Below.grownBy hb2))
 have E3 := hd (HE.out.grown G3.out hB)
 clear hb2 K3
 unfold opAgg
 simp only
 generalize (Px.sgnT kn).2 = sl
 generalize (Px.sgnT kn).1 = ss
 have of0 := ofld0 (.int .i64 (kn : Int)) (.string ⟨ss.toArray⟩) (.int .i64 (sl : Int))
 go_wp2_with fail
 by_cases hf : xt = [] ∧ xn = 0 ∧ xc = 2
 · have HR : Hid (Px.rE (f + 1) (⟨(kn : Int), xt, xn, xc⟩ :: r) = (Px.rE f r).bind fun y => (Px.rE f y.2).map fun z => (Px.E.bin kn y.1 z.1, z.2)) := rE_bin f ⟨(kn : Int), xt, xn, xc⟩ r HK.out (HN.out.2 hf)
   obtain ⟨rfl, rfl, rfl⟩ := hf
   refine (k_fields_yes _ B _ _ _ _).mono ?_
   rintro y w4 ⟨rfl, hb4⟩
   have K4 := HK3.out.below hb4 HK3.out.lt
   have hK4 := K4.lt
   have HK4 := hd K4
   have W4 := hd (W3.out.below hb4)
   have G4 := hd (grown_tr G3.out (Below.grownBy hb4))
   have E4 := hd (HE.out.grown G4.out hB)
   clear hb4 K4 c0 c1 c2 c3
   go_wp2_with fail
   have hcall := HH.out (d + 1) w4 B r (by have := HD.out; omega) W4.out E4.out hB
   rw [show (((d + 1 : Nat)) : Int) = (d : Int) + 1 by omega] at hcall
   refine hcall.mono ?_
   clear hcall
   rintro x w5 ho
   obtain ⟨g, ⟨q1, rfl⟩ | ⟨a, l5, v, q1, rfl, hv, hw5⟩⟩ := ho.cases
   · refine ⟨rfl, ?_⟩
     rw [HR.out, q1]
     exact WOut.none (grown_tr G4.out g)
   · have HVA : Hid (v = ev a) := hv
     obtain ⟨et, ex, hev⟩ := ev_iface a
     have hv2 : v = .iface et ex := by rw [HVA.out, hev]
     subst hv2
     have G5 := hd (grown_tr G4.out g)
     have W5 := hd hw5
     have E5 := hd (HE.out.grown G5.out hB)
     have HQ1 := hd q1
     have HK5 := hd (blk_keep HK4.out g (by omega))
     have k0 := HK5.out.cell 0
     simp at k0
     have hK5 := HK5.out.lt
     clear ho g hw5 q1 hv hev
     go_wp2_with fail
     have HC : Hid (∀ w', Below w5.heap.size w5 w' → Calls Tryz.prog 184 #[.pointer (some ⟨B, 0, none⟩), .int .i64 ((d : Int) + 1)] w' (WOut w' B exV (Px.rE f l5))) := by
      intro w' hb
      have := HH.out (d + 1) w' B l5 (by have := HD.out; omega) (W5.out.below hb) (E5.out.below hb) hB
      rwa [show (((d + 1 : Nat)) : Int) = (d : Int) + 1 by omega] at this
     have hwr : IntKind.i64.wrap ((d : Int) + 1) = (d : Int) + 1 := by rw [IntKind.wrap_i64]; omega
     have hd5 : Below w5.heap.size w5 w5.drew := (Below.refl _ _).drew
     go_region_with (
       go_at_call 184
       refine (HC.out _ hd5).mono ?_
       rintro x w6 ho
       obtain ⟨g, ⟨q2, rfl⟩ | ⟨b, l6, v, q2, rfl, hv, hw6⟩⟩ := ho.cases
       · exact ⟨rfl, by rw [HR.out, HQ1.out, show ((some (a, l5)).bind fun y => (Px.rE f y.2).map fun z => (Px.E.bin kn y.1 z.1, z.2)) = none by simp [q2]]; exact WOut.none (grown_tr G5.out (grown_tr (Below.grownBy hd5) g))⟩
       have HVB : Hid (v = ev b) := hv
       obtain ⟨bt, bx, hev⟩ := ev_iface b
       have hv2 : v = .iface bt bx := by rw [HVB.out, hev]
       subst hv2
       have G6 := hd (grown_tr G5.out (grown_tr (Below.grownBy hd5) g))
       have W6 := hd hw6
       have HQ2 := hd q2
       have HK6 := hd (blk_keep (blk_keep HK5.out (Below.grownBy (row := some B) hd5) (by omega)) g (by omega))
       have k0 := HK6.out.cell 0
       simp at k0
       have hK6 := HK6.out.lt
       clear ho g hw6 q2 hv hev)
     all_goals
      go_wp2_with fail
      go_ret
      rw [HR.out, HQ1.out]
      rw [show ((some (a, l5)).bind fun y => (Px.rE f y.2).map fun z => (Px.E.bin kn y.1 z.1, z.2)) = some (.bin kn a b, l6) by simp [HQ2.out]]
      refine WOut.some G6.out ?_ W6.out
      show _ = ev (.bin _ _ _)
      simp only [ev]
      rw [← HVA.out, ← HVB.out]
      rfl
 · have HR := hd (rE_bin_no f ⟨(kn : Int), xt, xn, xc⟩ r HK.out (fun e => hf (HN.out.1 e)))
   refine (k_fields_no _ B _ _ _ _ [] _ _ hf).mono ?_
   rintro y w4 ⟨rfl, hb4⟩
   refine ⟨rfl, ?_⟩
   rw [HR.out]
   exact WOut.none (grown_tr G3.out (Below.grownBy hb4))
theorem k_expr_all : ∀ f, f ≤ 40 → ExprAt f
 | 0, _ => k_expr_zero
 | f + 1, hf => by
  have H := k_expr_all f (by omega)
  intro d w B l hdf h he hB
  match l, h with
  | [], h => exact k_expr_none f d w B hdf h
  | ⟨xk, xt, xn, xc⟩ :: r, h =>
   by_cases h1 : xk = 19 ∨ xk = 20 ∨ xk = 21 ∨ xk = 22
   · exact k_expr_un f H (by omega) d w B xk xt xn xc r h1 hdf h he hB
   · by_cases h2 : 23 ≤ xk ∧ xk ≤ 36
     · exact k_expr_bin f H (by omega) d w B xk xt xn xc r h2 hdf h he hB
     · exact k_expr_leaf f H (by omega) d w B xk xt xn xc r (by omega) hdf h he hB
theorem k_expr_any (w : World) (B : Nat) (l : List Px.Nd) (h : Wks w B l) (he : EnvW w) (hB : 12 ≤ B) :
   Calls Tryz.prog 184 #[.pointer (some ⟨B, 0, none⟩), .int .i64 1] w (WOut w B exV (Px.rE 40 l)) :=
 k_expr_all 40 (Nat.le_refl _) 1 w B l rfl h he hB
structure Gr2 (w w' : World) (B L : Nat) : Prop where
 os : w'.os = w.os
 tape : w'.tape = w.tape
 output : w'.output = w.output
 size : w.heap.size ≤ w'.heap.size
 block : ∀ i, i < w.heap.size → i ≠ B → i ≠ L → w'.heap[i]? = w.heap[i]?
theorem Gr2.fst {w w' : World} {B L : Nat} (h : w.grownBy w' (some B)) : Gr2 w w' B L := ⟨h.os, h.tape, h.output, h.size, fun i hi h1 _ => h.block i hi (by simpa using h1)⟩
theorem Gr2.snd {w w' : World} {B L : Nat} (h : w.grownBy w' (some L)) : Gr2 w w' B L := ⟨h.os, h.tape, h.output, h.size, fun i hi _ h2 => h.block i hi (by simpa using h2)⟩
theorem Gr2.trans {a b c : World} {B L : Nat} (h : Gr2 a b B L) (k : Gr2 b c B L) : Gr2 a c B L :=
 ⟨k.os.trans h.os, k.tape.trans h.tape, k.output.trans h.output, Nat.le_trans h.size k.size, fun i hi h1 h2 => (k.block i (Nat.lt_of_lt_of_le hi h.size) h1 h2).trans (h.block i hi h1 h2)⟩
theorem Gr2.below {w w' : World} {B L : Nat} (h : Below w.heap.size w w') : Gr2 w w' B L := ⟨h.os, h.tape, h.output, h.size, fun i hi _ _ => h.block i hi⟩
theorem Gr2.blk {w w' : World} {B L N : Nat} {a : Array Value} {T : TypeId} (h : Gr2 w w' B L) (hb : Blk w N a T) (h1 : N ≠ B) (h2 : N ≠ L) : Blk w' N a T := by
 have hl := hb.lt
 unfold Blk at *
 rw [h.block N hl h1 h2]
 exact hb
theorem Gr2.env {w w' : World} {B L : Nat} (h : Gr2 w w' B L) (he : EnvW w) (hB : 12 ≤ B) (hL : 12 ≤ L) : EnvW w' :=
 he.keep h.size fun k hk => h.block k (by have := he.env.room; omega) (by omega) (by omega)
theorem Gr2.own {w w' : World} {B L base : Nat} {e : TypeId} {size : Nat} {v : Value} {n : Nat} {xs : List Value} (h : Gr2 w w' B L) (ho : w.ownsRow base e size v n xs) (h1 : ∀ g, v.ownBlock = some g → g ≠ B ∧ g ≠ L) : w'.ownsRow base e size v n xs := by
 refine ⟨ho.1, ?_⟩
 rcases ho.2 with hn | ⟨g, cap, cur, rfl, hb, hg, rest⟩
 · exact .inl hn
 · obtain ⟨q1, q2⟩ := h1 g rfl
   refine .inr ⟨g, cap, cur, rfl, hb, ?_, rest⟩
   rw [h.block g (Array.getElem?_eq_some_iff.1 hg).1 q1 q2]
   exact hg
theorem Gr2.more {w0 w w' : World} {B L : Nat} (h0 : w0.grownBy w (some B)) (h : Gr2 w w' B L) (hL : w0.heap.size ≤ L) : w0.grownBy w' (some B) :=
 ⟨h.os.trans h0.os, h.tape.trans h0.tape, h.output.trans h0.output, Nat.le_trans h0.size h.size, fun i hi hne => (h.block i (Nat.lt_of_lt_of_le hi h0.size) (by simpa using hne) (by omega)).trans (h0.block i hi hne)⟩
section
section
variable (B : Nat) (lv : Value) (ts : List Lx.Tok) (sz : Nat) (dp : Bool)
end
end

end Go.Proofs.YtkcakbgcfnhgaaaGreatDoor
