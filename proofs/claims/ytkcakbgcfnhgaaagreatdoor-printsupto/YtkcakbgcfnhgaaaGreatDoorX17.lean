/- Parts of the proof: Yh Yi Yj Yk CqC CqD CqE CqF Yl -/
import Derived.Test.YtkcakbgcfnhgaaaGreatDoorX16
import Derived.Test.YtkcakbgcfnhgaaaGreatDoorX14
import Derived.Deep.RegionHeld3
namespace Go.Proofs.YtkcakbgcfnhgaaaGreatDoor
set_option linter.unusedSimpArgs false
set_option linter.unusedVariables false
set_option maxRecDepth 100000
set_option maxHeartbeats 16000000
open Go.RowKit
theorem y_Level_any (e : Px.E) (w : World) (he : EnvW w) (hp : PE e) :
   Calls Tryz.prog 205 #[ev e] w fun x w' => x = .returned (.int .i64 (e.lvl : Int)) ∧ Below w.heap.size w w' := by
 have HE := hd he
 clear he
 cases e with
 | null =>
  have a1 := taNullNumber
  have a2 := taNullUnary
  have a3 := taNullBinary
  unfold ev
  go_enter Tryz.func205, Tryz.ntmps205
  go_wp2_with fail
  go_ret
  exact ⟨rfl, by go_grown⟩
 | bool b =>
  have a1 := taBoolNumber (.bool b)
  have a2 := taBoolUnary (.bool b)
  have a3 := taBoolBinary (.bool b)
  unfold ev
  go_enter Tryz.func205, Tryz.ntmps205
  go_wp2_with fail
  go_ret
  exact ⟨rfl, by go_grown⟩
 | num z =>
  have a1 := taNumberNumber (.int .i64 z)
  have a2 := taNumberUnary (.int .i64 z)
  have a3 := taNumberBinary (.int .i64 z)
  unfold ev
  by_cases hz : z < 0
  · have HL : Hid ((Px.E.num z).lvl = 8) := if_pos hz
    go_enter Tryz.func205, Tryz.ntmps205
    go_wp2_with fail
    go_ret
    rw [HL.out]
    exact ⟨rfl, by go_grown⟩
  · have HL : Hid ((Px.E.num z).lvl = 9) := if_neg hz
    have hz' : decide (z < 0) = false := decide_eq_false hz
    go_enter Tryz.func205, Tryz.ntmps205
    go_wp2_with fail
    go_ret
    rw [HL.out]
    exact ⟨rfl, by go_grown⟩
 | str s =>
  have a1 := taStringNumber (.string ⟨s.toArray⟩)
  have a2 := taStringUnary (.string ⟨s.toArray⟩)
  have a3 := taStringBinary (.string ⟨s.toArray⟩)
  unfold ev
  go_enter Tryz.func205, Tryz.ntmps205
  go_wp2_with fail
  go_ret
  exact ⟨rfl, by go_grown⟩
 | nm s =>
  have a1 := taNameNumber (.string ⟨s.toArray⟩)
  have a2 := taNameUnary (.string ⟨s.toArray⟩)
  have a3 := taNameBinary (.string ⟨s.toArray⟩)
  unfold ev
  go_enter Tryz.func205, Tryz.ntmps205
  go_wp2_with fail
  go_ret
  exact ⟨rfl, by go_grown⟩
 | un k e =>
  obtain ⟨et, ex, hev⟩ := ev_iface e
  have a1 := taUnaryNumber (.int .i64 (k : Int)) (.iface et ex)
  have a2 := taUnaryUnary (.int .i64 (k : Int)) (.iface et ex)
  have HL : Hid ((Px.E.un k e).lvl = if k = 20 then 3 else if k = 19 then 8 else 4) := rfl
  have hevE : ev (.un k e) = .iface 200 (.agg #[.int .i64 (k : Int), .iface et ex]) := by rw [← hev]; rfl
  rw [hevE]
  clear hevE hev hp
  go_enter Tryz.func205, Tryz.ntmps205
  go_wp2_with fail
  refine (y_levelOfUnary_any k _).mono ?_
  rintro x w1 ⟨rfl, h0⟩
  obtain ⟨lv, hlv⟩ : ∃ lv, lv = (Px.E.un k e).lvl := ⟨_, rfl⟩
  have HLV := hd hlv
  rw [h0, ← HL.out, ← hlv]
  clear h0 w1 hlv
  go_wp2_with fail
  go_ret
  rw [← HLV.out]
  exact ⟨rfl, by go_grown⟩
 | bin k a b =>
  obtain ⟨et, ex, hev⟩ := ev_iface a
  obtain ⟨ft, fx, hfv⟩ := ev_iface b
  have a1 := taBinaryNumber (.int .i64 (k : Int)) (.iface et ex) (.iface ft fx)
  have a2 := taBinaryUnary (.int .i64 (k : Int)) (.iface et ex) (.iface ft fx)
  have a3 := taBinaryBinary (.int .i64 (k : Int)) (.iface et ex) (.iface ft fx)
  have HL : Hid ((Px.E.bin k a b).lvl = (Px.sgnT k).2) := rfl
  have HO := hd (opOf_some k hp.1.1 hp.1.2)
  have hevE : ev (.bin k a b) = .iface 202 (.agg #[.int .i64 (k : Int), .iface et ex, .iface ft fx]) := by rw [← hev, ← hfv]; rfl
  rw [hevE]
  clear hevE hev hfv hp
  go_enter Tryz.func205, Tryz.ntmps205
  go_wp2_with fail
  refine (y_operatorOf_any (k : Int) _ (HE.out.below (by go_grown))).mono ?_
  rintro x w1 ⟨rfl, hb1⟩
  rw [HO.out]
  have HB1 := hd (below_more0 (B := w.heap.size) (w := w) (by go_grown) hb1 (by simp))
  unfold opAgg
  simp only
  have of2 := ofld2 (.int .i64 (k : Int)) (.string ⟨(Px.sgnT k).1.toArray⟩) (.int .i64 ((Px.sgnT k).2 : Int))
  clear hb1
  generalize (Px.sgnT k).1 = ss at *
  generalize (Px.sgnT k).2 = sl at *
  go_wp2_with fail
  go_ret
  rw [HL.out]
  exact ⟨rfl, HB1.out⟩
theorem y_Sign_any (k : Nat) (w : World) (he : EnvW w) (h1 : 23 ≤ k) (h2 : k ≤ 36) :
   Calls Tryz.prog 206 #[.int .i64 (k : Int)] w fun x w' => x = .returned (.string ⟨(Px.opT k).out.toArray⟩) ∧ Below w.heap.size w w' := by
 have HO := hd (opOf_some k h1 h2)
 have HS : Hid ((Px.opT k).out = (Px.sgnT k).1) := by show _ = _; unfold Px.opT; split <;> rfl
 have HE := hd he
 clear he h1 h2
 go_enter Tryz.func206, Tryz.ntmps206
 go_wp2_with fail
 refine (y_operatorOf_any (k : Int) _ HE.out).mono ?_
 rintro x w1 ⟨rfl, hb1⟩
 rw [HO.out]
 have HB1 := hd hb1
 unfold opAgg
 simp only
 have of1 := ofld1 (.int .i64 (k : Int)) (.string ⟨(Px.sgnT k).1.toArray⟩) (.int .i64 ((Px.sgnT k).2 : Int))
 clear hb1
 generalize (Px.sgnT k).1 = ss at *
 generalize (Px.sgnT k).2 = sl at *
 go_wp2_with fail
 go_ret
 rw [HS.out]
 exact ⟨rfl, HB1.out⟩
def WholeAt (B : Nat) (e : Px.E) : Prop := ∀ (w : World) (l : List Px.PT), Prs w B l → EnvV w → Calls Tryz.prog 121 #[.pointer (some ⟨B, 0, none⟩), ev e] w (POut w B (l ++ e.pt))
def OperAt (B : Nat) (e : Px.E) : Prop := ∀ (w : World) (l : List Px.PT) (m : Nat), m ≤ 10 → Prs w B l → EnvV w → Calls Tryz.prog 204 #[.pointer (some ⟨B, 0, none⟩), ev e, .int .i64 (m : Int)] w (POut w B (l ++ Px.brkT e.lvl m e.pt))
theorem d_operand_any (B : Nat) (hB : 12 ≤ B) (e : Px.E) (hp : PE e) (H : WholeAt B e) : OperAt B e := by
 intro w l m hm h he
 have HP := hd h
 have HE := hd he
 have HH := hd H
 have HPE := hd hp
 have hlt := h.lt
 obtain ⟨et, ex, hev⟩ := ev_iface e
 have HEV := hd hev
 rw [hev]
 clear h he H hp hev
 go_enter Tryz.func204, Tryz.ntmps204
 go_wp2_with fail
 rw [← HEV.out]
 refine (y_Level_any e w HE.out.envw HPE.out).mono ?_
 rintro x w1 ⟨rfl, hb1⟩
 have HP1 := hd (HP.out.below hb1)
 have HE1 := hd (HE.out.below hb1)
 have HK1 := hd (Kq.below (B := B) hb1 (by omega))
 have hlt1 := HP1.out.lt
 clear hb1
 by_cases hc : e.lvl < m
 · have HBK : Hid (Px.brkT e.lvl m e.pt = [Px.sgT [40]] ++ (e.pt ++ [Px.sgT [41]])) := if_pos hc
   have hc' : decide ((m : Int) ≤ (e.lvl : Int)) = false := decide_eq_false (by omega)
   generalize e.lvl = lv at *
   rw [HEV.out]
   go_wp2_with fail
   refine (d_put1 B w1 l (Px.sgT [40]) HP1.out (pt0_sg _ (by simp) (by simp))).mono ?_
   rintro x w2 ho
   obtain ⟨k2, ⟨rfl, hb⟩ | ⟨rfl, hp2⟩⟩ := ho.cases
   · exact ⟨rfl, by rw [HBK.out, ← List.append_assoc]; exact POut.err (HK1.out.trans k2) hb⟩
   have HP2 := hd hp2
   have HK2 := hd (HK1.out.trans k2)
   have HE2 := hd (HE1.out.low k2.1 hB)
   clear hp2 k2 ho
   go_wp2_with fail
   rw [← HEV.out]
   refine (HH.out w2 _ HP2.out HE2.out).mono ?_
   rintro x w3 ho
   obtain ⟨k3, ⟨rfl, hb⟩ | ⟨rfl, hp3⟩⟩ := ho.cases
   · exact ⟨rfl, by rw [HBK.out, ← List.append_assoc, ← List.append_assoc]; exact POut.err (HK2.out.trans k3) hb⟩
   have HP3 := hd hp3
   have HK3 := hd (HK2.out.trans k3)
   clear hp3 k3 ho
   rw [HEV.out]
   go_wp2_with fail
   refine (d_put1 B w3 _ (Px.sgT [41]) HP3.out (pt0_sg _ (by simp) (by simp))).mono ?_
   rintro x w4 ho
   obtain ⟨k4, ⟨rfl, hb⟩ | ⟨rfl, hp4⟩⟩ := ho.cases
   · exact ⟨rfl, by rw [HBK.out]; exact ⟨HK3.out.trans k4, .inr ⟨rfl, by simpa [List.append_assoc] using hb⟩⟩⟩
   have HP4 := hd hp4
   have HK4 := hd (HK3.out.trans k4)
   clear hp4 k4 ho
   go_wp2_with fail
   go_end0
   rw [HBK.out]
   exact POut.ok HK4.out (by simpa [List.append_assoc] using HP4.out)
 · have HBK : Hid (Px.brkT e.lvl m e.pt = e.pt) := if_neg hc
   have hc' : ((m : Int) ≤ (e.lvl : Int)) := by omega
   generalize e.lvl = lv at *
   rw [HEV.out]
   go_wp2_with fail
   rw [← HEV.out]
   refine (HH.out w1 _ HP1.out HE1.out).mono ?_
   rintro x w3 ho
   obtain ⟨k3, ⟨rfl, hb⟩ | ⟨rfl, hp3⟩⟩ := ho.cases
   · exact ⟨rfl, by rw [HBK.out]; exact ⟨HK1.out.trans k3, .inr ⟨rfl, hb⟩⟩⟩
   have HP3 := hd hp3
   have HK3 := hd (HK1.out.trans k3)
   clear hp3 k3 ho
   rw [HEV.out]
   go_wp2_with fail
   go_end0
   rw [HBK.out]
   exact POut.ok HK3.out HP3.out
theorem err2 {w w' : World} {B : Nat} {l a b : List Px.PT} (k : Kq B w w') (h : 2000 < (Px.render (l ++ a)).length) : POut w B (l ++ (a ++ b)) (Flt 0 1) w' := by
 rw [← List.append_assoc]
 exact POut.err k h
theorem d_put1g (B g : Nat) (w : World) (l : List Px.PT) (t : Px.PT) (hg : g = w.heap.size) (h : Prs w B l) (ht : PT0 t) :
   Calls Tryz.prog 66 #[.pointer (some ⟨B, 0, none⟩), .slice (some ⟨g, 0, none⟩) 1 1] (w.alloc (.cells #[.string ⟨t.out.toArray⟩] 9)) (POut w B (l ++ [t])) := by
 subst hg
 exact d_put1 B w l t h ht
theorem pt_un19 (e : Px.E) : (Px.E.un 19 e).pt = [Px.mnT] ++ Px.brkT e.lvl 8 e.pt := rfl
theorem pt_un20 (e : Px.E) : (Px.E.un 20 e).pt = [Px.kwT Px.kNOT] ++ Px.brkT e.lvl 3 e.pt := rfl
theorem pt_un21 (e : Px.E) : (Px.E.un 21 e).pt = Px.brkT e.lvl 5 e.pt ++ [Px.kwT Px.kIS, Px.kwT Px.kNULL] := rfl
theorem pt_un22 (e : Px.E) : (Px.E.un 22 e).pt = Px.brkT e.lvl 5 e.pt ++ [Px.kwT Px.kIS, Px.kwT Px.kNOT, Px.kwT Px.kNULL] := rfl
theorem d_unary_any (B : Nat) (hB : 12 ≤ B) (k : Nat) (e : Px.E) (hk : 19 ≤ k ∧ k ≤ 22) (H : OperAt B e) (w : World) (l : List Px.PT) (h : Prs w B l) (he : EnvV w) :
   Calls Tryz.prog 178 #[.pointer (some ⟨B, 0, none⟩), .agg #[.int .i64 (k : Int), ev e]] w (POut w B (l ++ (Px.E.un k e).pt)) := by
 have HP := hd h
 have HE := hd he
 have HH := hd H
 have hlt := h.lt
 obtain ⟨et, ex, hev⟩ := ev_iface e
 have HEV := hd hev
 rw [hev]
 clear h he H hev
 have hk4 : k = 19 ∨ k = 20 ∨ k = 21 ∨ k = 22 := by omega
 clear hk
 have hbx : ∀ k : Nat, Below w.heap.size w (w.alloc (.cells #[.int .i64 (k : Int), .iface et ex] 200)) := fun k => (Below.refl _ _).alloc (Nat.le_refl _) _
 have HBX := hd hbx
 have HBN : Hid (∀ k : Nat, Blk (w.alloc (.cells #[.int .i64 (k : Int), .iface et ex] 200)) w.heap.size #[.int .i64 (k : Int), .iface et ex] 200) := fun k => Blk.new w _ _
 clear hbx
 rcases hk4 with rfl | rfl | rfl | rfl
 · rw [pt_un19]
   have HP0 := hd (HP.out.below (HBX.out 19))
   have HE0 := hd (HE.out.below (HBX.out 19))
   have HK0 := hd (Kq.below (B := B) (HBX.out 19) (by omega))
   go_enter Tryz.func178, Tryz.ntmps178
   go_wp2_with fail
   refine (d_putMinus_any B _ l HP0.out).mono ?_
   rintro x w2 ho
   obtain ⟨k2, ⟨rfl, hb⟩ | ⟨rfl, hp2⟩⟩ := ho.cases
   · exact ⟨rfl, err2 (HK0.out.trans k2) hb⟩
   have HP2 := hd hp2
   have HK2 := hd (HK0.out.trans k2)
   have HE2 := hd (HE0.out.low k2.1 hB)
   have HB2 := hd (k2.blk (HBN.out 19) (by omega) (by decide))
   have c1 := HB2.out.cell 1
   simp at c1
   clear hp2 k2 ho
   go_wp2_with fail
   rw [← HEV.out]
   refine (HH.out w2 _ 8 (by omega) HP2.out HE2.out).mono ?_
   rintro x w3 ho
   obtain ⟨k3, ⟨rfl, hb⟩ | ⟨rfl, hp3⟩⟩ := ho.cases
   · exact ⟨rfl, HK2.out.trans k3, .inr ⟨rfl, by simpa [List.append_assoc] using hb⟩⟩
   have HP3 := hd hp3
   have HK3 := hd (HK2.out.trans k3)
   clear hp3 k3 ho
   rw [HEV.out]
   go_wp2_with fail
   go_end0
   exact POut.ok HK3.out (by simpa [List.append_assoc] using HP3.out)
 · rw [pt_un20]
   have HP0 := hd (HP.out.below (HBX.out 20))
   have HE0 := hd (HE.out.below (HBX.out 20))
   have HK0 := hd (Kq.below (B := B) (HBX.out 20) (by omega))
   go_enter Tryz.func178, Tryz.ntmps178
   go_wp2_with fail
   refine (d_put1g B _ _ l (Px.kwT Px.kNOT) (by simp) HP0.out (pt0_kw _ (by decide) (by decide))).mono ?_
   rintro x w2 ho
   obtain ⟨k2, ⟨rfl, hb⟩ | ⟨rfl, hp2⟩⟩ := ho.cases
   · exact ⟨rfl, err2 (HK0.out.trans k2) hb⟩
   have HP2 := hd hp2
   have HK2 := hd (HK0.out.trans k2)
   have HE2 := hd (HE0.out.low k2.1 hB)
   have HB2 := hd (k2.blk (HBN.out 20) (by omega) (by decide))
   have c1 := HB2.out.cell 1
   simp at c1
   clear hp2 k2 ho
   go_wp2_with fail
   rw [← HEV.out]
   refine (HH.out w2 _ 3 (by omega) HP2.out HE2.out).mono ?_
   rintro x w3 ho
   obtain ⟨k3, ⟨rfl, hb⟩ | ⟨rfl, hp3⟩⟩ := ho.cases
   · exact ⟨rfl, HK2.out.trans k3, .inr ⟨rfl, by simpa [List.append_assoc] using hb⟩⟩
   have HP3 := hd hp3
   have HK3 := hd (HK2.out.trans k3)
   clear hp3 k3 ho
   rw [HEV.out]
   go_wp2_with fail
   go_end0
   exact POut.ok HK3.out (by simpa [List.append_assoc] using HP3.out)
 · rw [pt_un21]
   have HP0 := hd (HP.out.below (HBX.out 21))
   have HE0 := hd (HE.out.below (HBX.out 21))
   have HK0 := hd (Kq.below (B := B) (HBX.out 21) (by omega))
   go_enter Tryz.func178, Tryz.ntmps178
   go_wp2_with fail
   rw [← HEV.out] at HP0 HE0 HK0 ⊢
   refine (HH.out _ _ 5 (by omega) HP0.out HE0.out).mono ?_
   rintro x w2 ho
   obtain ⟨k2, ⟨rfl, hb⟩ | ⟨rfl, hp2⟩⟩ := ho.cases
   · exact ⟨rfl, err2 (HK0.out.trans k2) hb⟩
   have HP2 := hd hp2
   have HK2 := hd (HK0.out.trans k2)
   clear hp2 k2 ho
   rw [HEV.out]
   go_wp2_with fail
   refine (d_put2 B w2 _ (Px.kwT Px.kIS) (Px.kwT Px.kNULL) HP2.out (pt0_kw _ (by decide) (by decide)) (pt0_kw _ (by decide) (by decide))).mono ?_
   rintro x w3 ho
   obtain ⟨k3, ⟨rfl, hb⟩ | ⟨rfl, hp3⟩⟩ := ho.cases
   · exact ⟨rfl, HK2.out.trans k3, .inr ⟨rfl, by simpa [List.append_assoc] using hb⟩⟩
   have HP3 := hd hp3
   have HK3 := hd (HK2.out.trans k3)
   clear hp3 k3 ho
   go_wp2_with fail
   go_end0
   exact POut.ok HK3.out (by simpa [List.append_assoc] using HP3.out)
 · rw [pt_un22]
   have HP0 := hd (HP.out.below (HBX.out 22))
   have HE0 := hd (HE.out.below (HBX.out 22))
   have HK0 := hd (Kq.below (B := B) (HBX.out 22) (by omega))
   go_enter Tryz.func178, Tryz.ntmps178
   go_wp2_with fail
   rw [← HEV.out] at HP0 HE0 HK0 ⊢
   refine (HH.out _ _ 5 (by omega) HP0.out HE0.out).mono ?_
   rintro x w2 ho
   obtain ⟨k2, ⟨rfl, hb⟩ | ⟨rfl, hp2⟩⟩ := ho.cases
   · exact ⟨rfl, err2 (HK0.out.trans k2) hb⟩
   have HP2 := hd hp2
   have HK2 := hd (HK0.out.trans k2)
   clear hp2 k2 ho
   rw [HEV.out]
   go_wp2_with fail
   refine (d_put3 B w2 _ (Px.kwT Px.kIS) (Px.kwT Px.kNOT) (Px.kwT Px.kNULL) HP2.out (pt0_kw _ (by decide) (by decide)) (pt0_kw _ (by decide) (by decide)) (pt0_kw _ (by decide) (by decide))).mono ?_
   rintro x w3 ho
   obtain ⟨k3, ⟨rfl, hb⟩ | ⟨rfl, hp3⟩⟩ := ho.cases
   · exact ⟨rfl, HK2.out.trans k3, .inr ⟨rfl, by simpa [List.append_assoc] using hb⟩⟩
   have HP3 := hd hp3
   have HK3 := hd (HK2.out.trans k3)
   clear hp3 k3 ho
   go_wp2_with fail
   go_end0
   exact POut.ok HK3.out (by simpa [List.append_assoc] using HP3.out)
theorem pt0_op (k : Nat) (h1 : 23 ≤ k) (h2 : k ≤ 36) : PT0 (Px.opT k) := by
 rcases Px.sgn_cases h1 h2 with rfl | rfl | rfl | rfl | rfl | rfl | rfl | rfl | rfl | rfl | rfl | rfl | rfl | rfl <;> exact ⟨by decide, by decide, by decide⟩
theorem pt_bin (k : Nat) (a b : Px.E) : (Px.E.bin k a b).pt = Px.brkT a.lvl (Px.leftOf k) a.pt ++ ([Px.opT k] ++ Px.brkT b.lvl ((Px.sgnT k).2 + 1) b.pt) := rfl
theorem d_binary_any (B : Nat) (hB : 12 ≤ B) (k : Nat) (a b : Px.E) (hp : PE (.bin k a b)) (HA : OperAt B a) (HB : OperAt B b) (w : World) (l : List Px.PT) (h : Prs w B l) (he : EnvV w) :
   Calls Tryz.prog 179 #[.pointer (some ⟨B, 0, none⟩), .agg #[.int .i64 (k : Int), ev a, ev b]] w (POut w B (l ++ (Px.E.bin k a b).pt)) := by
 have HP := hd h
 have HE := hd he
 have HHA := hd HA
 have HHB := hd HB
 have hlt := h.lt
 have HPE := hd hp
 have hk1 := hp.1.1
 have hk2 := hp.1.2
 obtain ⟨et, ex, hev⟩ := ev_iface a
 obtain ⟨ft, fx, hfv⟩ := ev_iface b
 have HEV := hd hev
 have HFV := hd hfv
 rw [hev, hfv]
 have HEB : Hid (ev (.bin k a b) = .iface 202 (.agg #[.int .i64 (k : Int), .iface et ex, .iface ft fx])) := by show _ = _; rw [← hev, ← hfv]; rfl
 have hbx : Below w.heap.size w (w.alloc (.cells #[.int .i64 (k : Int), .iface et ex, .iface ft fx] 202)) := (Below.refl _ _).alloc (Nat.le_refl _) _
 have HP0 := hd (HP.out.below hbx)
 have HE0 := hd (HE.out.below hbx)
 have HK0 := hd (Kq.below (B := B) hbx (by omega))
 have HBN := hd (Blk.new w #[.int .i64 (k : Int), .iface et ex, .iface ft fx] 202)
 rw [pt_bin]
 clear h he HA HB hev hfv hbx hp
 go_enter Tryz.func179, Tryz.ntmps179
 go_wp2_with fail
 rw [← HEB.out]
 refine (y_Level_any (.bin k a b) _ HE0.out.envw HPE.out).mono ?_
 rintro x w1 ⟨rfl, hb1⟩
 have hLv : (Px.E.bin k a b).lvl = (Px.sgnT k).2 := rfl
 rw [hLv, HEB.out]
 have HP1 := hd (HP0.out.below hb1)
 have HE1 := hd (HE0.out.below hb1)
 have HK1 := hd (HK0.out.more hb1 (by have := HP0.out.lt; omega))
 have HB1 := hd (HBN.out.below hb1 HBN.out.lt)
 have HSG := hd (Px.sgn_lvl hk1 hk2)
 have HLO : Hid (Px.leftOf k = if (Px.sgnT k).2 = 4 then 5 else (Px.sgnT k).2) := rfl
 have c0 := HB1.out.cell 0
 have c1 := HB1.out.cell 1
 have c2 := HB1.out.cell 2
 simp at c0 c1 c2
 have hl1 := HB1.out.lt
 clear hb1 hLv
 obtain ⟨lv, hlv⟩ : ∃ lv, lv = (Px.sgnT k).2 := ⟨_, rfl⟩
 have HLV := hd hlv
 rw [← hlv] at HSG HLO ⊢
 clear hlv
 have hlv10 : lv ≤ 7 := by have := HSG.out; omega
 by_cases h4 : lv = 4
 · subst h4
   have HLE : Hid (Px.leftOf k = 5) := HLO.out
   go_wp2_with fail
   rw [← HEV.out]
   refine (HHA.out w1 l 5 (by omega) HP1.out HE1.out).mono ?_
   rintro x w2 ho
   obtain ⟨k2, ⟨rfl, hb⟩ | ⟨rfl, hp2⟩⟩ := ho.cases
   · exact ⟨rfl, by rw [HLE.out]; exact err2 (HK1.out.trans k2) hb⟩
   have HP2 := hd hp2
   have HK2 := hd (HK1.out.trans k2)
   have HE2 := hd (HE1.out.low k2.1 hB)
   have HB2 := hd (k2.blk HB1.out (by omega) (by decide))
   have c0 := HB2.out.cell 0
   have c2 := HB2.out.cell 2
   simp at c0 c2
   have hl2 := HB2.out.lt
   clear hp2 k2 ho
   rw [HEV.out]
   go_wp2_with fail
   refine (y_Sign_any k w2 HE2.out.envw hk1 hk2).mono ?_
   rintro x w3 ⟨rfl, hb3⟩
   have HP3 := hd (HP2.out.below hb3)
   have HK3 := hd (HK2.out.more hb3 (by have := HP2.out.lt; omega))
   have HE3 := hd (HE2.out.below hb3)
   have HB3 := hd (HB2.out.below hb3 HB2.out.lt)
   clear hb3
   go_wp2_with fail
   refine (d_put1 B w3 _ (Px.opT k) HP3.out (pt0_op k hk1 hk2)).mono ?_
   rintro x w4 ho
   obtain ⟨k4, ⟨rfl, hb⟩ | ⟨rfl, hp4⟩⟩ := ho.cases
   · refine ⟨rfl, ?_⟩
     rw [HLE.out, ← List.append_assoc, List.append_cons]
     exact POut.err (HK3.out.trans k4) hb
   have HP4 := hd hp4
   have HK4 := hd (HK3.out.trans k4)
   have HE4 := hd (HE3.out.low k4.1 hB)
   have HB4 := hd (k4.blk HB3.out (by omega) (by decide))
   have c2' := HB4.out.cell 2
   simp at c2'
   clear hp4 k4 ho
   go_wp2_with fail
   rw [← HFV.out]
   refine (HHB.out w4 _ (4 + 1) (by omega) HP4.out HE4.out).mono ?_
   rintro x w5 ho
   obtain ⟨k5, ⟨rfl, hb⟩ | ⟨rfl, hp5⟩⟩ := ho.cases
   · refine ⟨rfl, HK4.out.trans k5, .inr ⟨rfl, ?_⟩⟩
     rw [HLE.out, ← HLV.out]
     simpa [List.append_assoc] using hb
   have HP5 := hd hp5
   have HK5 := hd (HK4.out.trans k5)
   clear hp5 k5 ho
   rw [HFV.out]
   go_wp2_with fail
   go_end0
   refine POut.ok HK5.out ?_
   rw [HLE.out, ← HLV.out]
   simpa [List.append_assoc] using HP5.out
 · have HLE : Hid (Px.leftOf k = lv) := by show _ = _; rw [HLO.out, if_neg h4]
   have h4' : ((lv : Int) == 4) = false := beq_eq_false_iff_ne.2 (by omega)
   clear h4
   go_wp2_with fail
   rw [← HEV.out]
   refine (HHA.out w1 l lv (by omega) HP1.out HE1.out).mono ?_
   rintro x w2 ho
   obtain ⟨k2, ⟨rfl, hb⟩ | ⟨rfl, hp2⟩⟩ := ho.cases
   · exact ⟨rfl, by rw [HLE.out]; exact err2 (HK1.out.trans k2) hb⟩
   have HP2 := hd hp2
   have HK2 := hd (HK1.out.trans k2)
   have HE2 := hd (HE1.out.low k2.1 hB)
   have HB2 := hd (k2.blk HB1.out (by omega) (by decide))
   have c0 := HB2.out.cell 0
   have c2 := HB2.out.cell 2
   simp at c0 c2
   have hl2 := HB2.out.lt
   clear hp2 k2 ho
   rw [HEV.out]
   go_wp2_with fail
   refine (y_Sign_any k w2 HE2.out.envw hk1 hk2).mono ?_
   rintro x w3 ⟨rfl, hb3⟩
   have HP3 := hd (HP2.out.below hb3)
   have HK3 := hd (HK2.out.more hb3 (by have := HP2.out.lt; omega))
   have HE3 := hd (HE2.out.below hb3)
   have HB3 := hd (HB2.out.below hb3 HB2.out.lt)
   clear hb3
   go_wp2_with fail
   refine (d_put1 B w3 _ (Px.opT k) HP3.out (pt0_op k hk1 hk2)).mono ?_
   rintro x w4 ho
   obtain ⟨k4, ⟨rfl, hb⟩ | ⟨rfl, hp4⟩⟩ := ho.cases
   · refine ⟨rfl, ?_⟩
     rw [HLE.out, ← List.append_assoc, List.append_cons]
     exact POut.err (HK3.out.trans k4) hb
   have HP4 := hd hp4
   have HK4 := hd (HK3.out.trans k4)
   have HE4 := hd (HE3.out.low k4.1 hB)
   have HB4 := hd (k4.blk HB3.out (by omega) (by decide))
   have c2' := HB4.out.cell 2
   simp at c2'
   clear hp4 k4 ho
   go_wp2_with fail
   rw [← HFV.out]
   refine (HHB.out w4 _ (lv + 1) (by omega) HP4.out HE4.out).mono ?_
   rintro x w5 ho
   obtain ⟨k5, ⟨rfl, hb⟩ | ⟨rfl, hp5⟩⟩ := ho.cases
   · refine ⟨rfl, HK4.out.trans k5, .inr ⟨rfl, ?_⟩⟩
     rw [HLE.out, ← HLV.out]
     simpa [List.append_assoc] using hb
   have HP5 := hd hp5
   have HK5 := hd (HK4.out.trans k5)
   clear hp5 k5 ho
   rw [HFV.out]
   go_wp2_with fail
   go_end0
   refine POut.ok HK5.out ?_
   rw [HLE.out, ← HLV.out]
   simpa [List.append_assoc] using HP5.out
theorem d_whole_null (B : Nat) (hB : 12 ≤ B) (w : World) (l : List Px.PT) (h : Prs w B l) (he : EnvV w) :
   Calls Tryz.prog 121 #[.pointer (some ⟨B, 0, none⟩), .iface 190 (.agg #[])] w (POut w B (l ++ (Px.E.null).pt)) := by
 have hlt := h.lt
 have hbx : Below w.heap.size w (w.alloc (.cells #[] 190)) := (Below.refl _ _).alloc (Nat.le_refl _) _
 have HP0 := hd (h.below hbx)
 have HE0 := hd (he.below hbx)
 have HK0 := hd (Kq.below (B := B) hbx (by omega))
 clear h he hbx
 have a0 := taNullNull
 go_enter Tryz.func121, Tryz.ntmps121
 go_wp2_with fail
 refine (d_put1g B _ _ l (Px.kwT Px.kNULL) (by simp) HP0.out (pt0_kw _ (by decide) (by decide))).mono ?_
 rintro x w2 ho
 obtain ⟨k2, ⟨rfl, hb⟩ | ⟨rfl, hp2⟩⟩ := ho.cases
 · exact ⟨rfl, HK0.out.trans k2, .inr ⟨rfl, hb⟩⟩
 have HP2 := hd hp2
 have HK2 := hd (HK0.out.trans k2)
 clear hp2 k2 ho
 go_wp2_with fail
 go_end0
 exact POut.ok HK2.out HP2.out
theorem d_whole_bool (B : Nat) (hB : 12 ≤ B) (b : Bool) (w : World) (l : List Px.PT) (h : Prs w B l) (he : EnvV w) :
   Calls Tryz.prog 121 #[.pointer (some ⟨B, 0, none⟩), .iface 192 (.agg #[.bool b])] w (POut w B (l ++ (Px.E.bool b).pt)) := by
 have hlt := h.lt
 have hbx : Below w.heap.size w (w.alloc (.cells #[.bool b] 192)) := (Below.refl _ _).alloc (Nat.le_refl _) _
 have HP0 := hd (h.below hbx)
 have HE0 := hd (he.below hbx)
 have HK0 := hd (Kq.below (B := B) hbx (by omega))
 clear h he hbx
 have a0 := taBoolNull (.bool b)
 have a1 := taBoolBool (.bool b)
 go_enter Tryz.func121, Tryz.ntmps121
 go_wp2_with fail
 refine (d_truth_any B _ l b HP0.out).mono ?_
 rintro x w2 ho
 obtain ⟨k2, ⟨rfl, hb⟩ | ⟨rfl, hp2⟩⟩ := ho.cases
 · exact ⟨rfl, HK0.out.trans k2, .inr ⟨rfl, hb⟩⟩
 have HP2 := hd hp2
 have HK2 := hd (HK0.out.trans k2)
 clear hp2 k2 ho
 go_wp2_with fail
 go_end0
 exact POut.ok HK2.out HP2.out
theorem d_whole_num (B : Nat) (hB : 12 ≤ B) (z : Int) (w : World) (l : List Px.PT) (h : Prs w B l) (he : EnvV w) (h1 : -9223372036854775808 ≤ z) (h2 : z ≤ 9223372036854775807) :
   Calls Tryz.prog 121 #[.pointer (some ⟨B, 0, none⟩), .iface 194 (.agg #[.int .i64 z])] w (POut w B (l ++ (Px.E.num z).pt)) := by
 have hlt := h.lt
 have hbx : Below w.heap.size w (w.alloc (.cells #[.int .i64 z] 194)) := (Below.refl _ _).alloc (Nat.le_refl _) _
 have HP0 := hd (h.below hbx)
 have HE0 := hd (he.below hbx)
 have HK0 := hd (Kq.below (B := B) hbx (by omega))
 clear h he hbx
 have a0 := taNumberNull (.int .i64 z)
 have a1 := taNumberBool (.int .i64 z)
 have a2 := taNumberNumber (.int .i64 z)
 go_enter Tryz.func121, Tryz.ntmps121
 go_wp2_with fail
 refine (d_number_any B _ l z HP0.out HE0.out h1 h2).mono ?_
 rintro x w2 ho
 obtain ⟨k2, ⟨rfl, hb⟩ | ⟨rfl, hp2⟩⟩ := ho.cases
 · exact ⟨rfl, HK0.out.trans k2, .inr ⟨rfl, hb⟩⟩
 have HP2 := hd hp2
 have HK2 := hd (HK0.out.trans k2)
 clear hp2 k2 ho
 go_wp2_with fail
 go_end0
 exact POut.ok HK2.out HP2.out
theorem d_whole_str (B : Nat) (hB : 12 ≤ B) (s : Lx.Bs) (w : World) (l : List Px.PT) (h : Prs w B l) (he : EnvV w) (hs : s.length ≤ 1000000000) :
   Calls Tryz.prog 121 #[.pointer (some ⟨B, 0, none⟩), .iface 196 (.agg #[.string ⟨s.toArray⟩])] w (POut w B (l ++ (Px.E.str s).pt)) := by
 have hlt := h.lt
 have hbx : Below w.heap.size w (w.alloc (.cells #[.string ⟨s.toArray⟩] 196)) := (Below.refl _ _).alloc (Nat.le_refl _) _
 have HP0 := hd (h.below hbx)
 have HE0 := hd (he.below hbx)
 have HK0 := hd (Kq.below (B := B) hbx (by omega))
 clear h he hbx
 have a0 := taStringNull (.string ⟨s.toArray⟩)
 have a1 := taStringBool (.string ⟨s.toArray⟩)
 have a2 := taStringNumber (.string ⟨s.toArray⟩)
 have a3 := taStringString (.string ⟨s.toArray⟩)
 go_enter Tryz.func121, Tryz.ntmps121
 go_wp2_with fail
 refine (d_quoted_any _ s 39 HE0.out (by omega)).mono ?_
 rintro x w1 ⟨rfl, hb1⟩
 have HP1 := hd (HP0.out.below hb1)
 have HK1 := hd (HK0.out.more hb1 (by have := HP0.out.lt; omega))
 clear hb1 HK0
 have HK0 := HK1
 go_wp2_with fail
 refine (d_put1 B w1 l (Px.stT s) HP1.out (pt0_st s hs)).mono ?_
 rintro x w2 ho
 obtain ⟨k2, ⟨rfl, hb⟩ | ⟨rfl, hp2⟩⟩ := ho.cases
 · exact ⟨rfl, HK0.out.trans k2, .inr ⟨rfl, hb⟩⟩
 have HP2 := hd hp2
 have HK2 := hd (HK0.out.trans k2)
 clear hp2 k2 ho
 go_wp2_with fail
 go_end0
 exact POut.ok HK2.out HP2.out
theorem d_whole_nm (B : Nat) (hB : 12 ≤ B) (s : Lx.Bs) (w : World) (l : List Px.PT) (h : Prs w B l) (he : EnvV w) (hs : Px.isName s = true) :
   Calls Tryz.prog 121 #[.pointer (some ⟨B, 0, none⟩), .iface 198 (.agg #[.string ⟨s.toArray⟩])] w (POut w B (l ++ (Px.E.nm s).pt)) := by
 have hlt := h.lt
 have hbx : Below w.heap.size w (w.alloc (.cells #[.string ⟨s.toArray⟩] 198)) := (Below.refl _ _).alloc (Nat.le_refl _) _
 have HP0 := hd (h.below hbx)
 have HE0 := hd (he.below hbx)
 have HK0 := hd (Kq.below (B := B) hbx (by omega))
 clear h he hbx
 have a0 := taNameNull (.string ⟨s.toArray⟩)
 have a1 := taNameBool (.string ⟨s.toArray⟩)
 have a2 := taNameNumber (.string ⟨s.toArray⟩)
 have a3 := taNameString (.string ⟨s.toArray⟩)
 have a4 := taNameName (.string ⟨s.toArray⟩)
 go_enter Tryz.func121, Tryz.ntmps121
 go_wp2_with fail
 refine (d_putName_any B _ l s HP0.out HE0.out hs).mono ?_
 rintro x w2 ho
 obtain ⟨k2, ⟨rfl, hb⟩ | ⟨rfl, hp2⟩⟩ := ho.cases
 · exact ⟨rfl, HK0.out.trans k2, .inr ⟨rfl, hb⟩⟩
 have HP2 := hd hp2
 have HK2 := hd (HK0.out.trans k2)
 clear hp2 k2 ho
 go_wp2_with fail
 go_end0
 exact POut.ok HK2.out HP2.out
theorem d_whole_un (B : Nat) (hB : 12 ≤ B) (k : Nat) (e : Px.E) (hk : 19 ≤ k ∧ k ≤ 22) (H : OperAt B e) (w : World) (l : List Px.PT) (h : Prs w B l) (he : EnvV w) :
   Calls Tryz.prog 121 #[.pointer (some ⟨B, 0, none⟩), ev (Px.E.un k e)] w (POut w B (l ++ (Px.E.un k e).pt)) := by
 have hlt := h.lt
 have HH := hd H
 have HK := hd hk
 obtain ⟨et, ex, hev⟩ := ev_iface e
 have HEV := hd hev
 have hevE : ev (.un k e) = .iface 200 (.agg #[.int .i64 (k : Int), .iface et ex]) := by rw [← hev]; rfl
 rw [hevE]
 clear H hk hev hevE
 have hbx : Below w.heap.size w (w.alloc (.cells #[.int .i64 (k : Int), .iface et ex] 200)) := (Below.refl _ _).alloc (Nat.le_refl _) _
 have HP0 := hd (h.below hbx)
 have HE0 := hd (he.below hbx)
 have HK0 := hd (Kq.below (B := B) hbx (by omega))
 clear h he hbx
 have a0 := taUnaryNull (.int .i64 (k : Int)) (.iface et ex)
 have a1 := taUnaryBool (.int .i64 (k : Int)) (.iface et ex)
 have a2 := taUnaryNumber (.int .i64 (k : Int)) (.iface et ex)
 have a3 := taUnaryString (.int .i64 (k : Int)) (.iface et ex)
 have a4 := taUnaryName (.int .i64 (k : Int)) (.iface et ex)
 have a5 := taUnaryUnary (.int .i64 (k : Int)) (.iface et ex)
 go_enter Tryz.func121, Tryz.ntmps121
 go_wp2_with fail
 have hcc := d_unary_any B hB k e HK.out HH.out _ l HP0.out HE0.out
 rw [HEV.out] at hcc
 refine hcc.mono ?_
 clear hcc
 rintro x w2 ho
 obtain ⟨k2, ⟨rfl, hb⟩ | ⟨rfl, hp2⟩⟩ := ho.cases
 · exact ⟨rfl, HK0.out.trans k2, .inr ⟨rfl, hb⟩⟩
 have HP2 := hd hp2
 have HK2 := hd (HK0.out.trans k2)
 clear hp2 k2 ho
 go_wp2_with fail
 go_end0
 exact POut.ok HK2.out HP2.out
theorem d_whole_bin (B : Nat) (hB : 12 ≤ B) (k : Nat) (a b : Px.E) (hp : PE (.bin k a b)) (HA : OperAt B a) (HB : OperAt B b) (w : World) (l : List Px.PT) (h : Prs w B l) (he : EnvV w) :
   Calls Tryz.prog 121 #[.pointer (some ⟨B, 0, none⟩), ev (Px.E.bin k a b)] w (POut w B (l ++ (Px.E.bin k a b).pt)) := by
 have hlt := h.lt
 have HHA := hd HA
 have HHB := hd HB
 have HPE := hd hp
 obtain ⟨et, ex, hev⟩ := ev_iface a
 obtain ⟨ft, fx, hfv⟩ := ev_iface b
 have HEV := hd hev
 have HFV := hd hfv
 have hevE : ev (.bin k a b) = .iface 202 (.agg #[.int .i64 (k : Int), .iface et ex, .iface ft fx]) := by rw [← hev, ← hfv]; rfl
 rw [hevE]
 clear HA HB hp hev hfv hevE
 have hbx : Below w.heap.size w (w.alloc (.cells #[.int .i64 (k : Int), .iface et ex, .iface ft fx] 202)) := (Below.refl _ _).alloc (Nat.le_refl _) _
 have HP0 := hd (h.below hbx)
 have HE0 := hd (he.below hbx)
 have HK0 := hd (Kq.below (B := B) hbx (by omega))
 clear h he hbx
 have a0 := taBinaryNull (.int .i64 (k : Int)) (.iface et ex) (.iface ft fx)
 have a1 := taBinaryBool (.int .i64 (k : Int)) (.iface et ex) (.iface ft fx)
 have a2 := taBinaryNumber (.int .i64 (k : Int)) (.iface et ex) (.iface ft fx)
 have a3 := taBinaryString (.int .i64 (k : Int)) (.iface et ex) (.iface ft fx)
 have a4 := taBinaryName (.int .i64 (k : Int)) (.iface et ex) (.iface ft fx)
 have a5 := taBinaryUnary (.int .i64 (k : Int)) (.iface et ex) (.iface ft fx)
 have a6 := taBinaryBinary (.int .i64 (k : Int)) (.iface et ex) (.iface ft fx)
 go_enter Tryz.func121, Tryz.ntmps121
 go_wp2_with fail
 have hcc := d_binary_any B hB k a b HPE.out HHA.out HHB.out _ l HP0.out HE0.out
 rw [HEV.out, HFV.out] at hcc
 refine hcc.mono ?_
 clear hcc
 rintro x w2 ho
 obtain ⟨k2, ⟨rfl, hb⟩ | ⟨rfl, hp2⟩⟩ := ho.cases
 · exact ⟨rfl, HK0.out.trans k2, .inr ⟨rfl, hb⟩⟩
 have HP2 := hd hp2
 have HK2 := hd (HK0.out.trans k2)
 clear hp2 k2 ho
 go_wp2_with fail
 go_end0
 exact POut.ok HK2.out HP2.out
theorem d_whole_any (B : Nat) (hB : 12 ≤ B) : ∀ (e : Px.E), PE e → WholeAt B e
 | .null, _ => fun w l h he => d_whole_null B hB w l h he
 | .bool b, _ => fun w l h he => d_whole_bool B hB b w l h he
 | .num z, hp => fun w l h he => d_whole_num B hB z w l h he hp.1 hp.2
 | .str s, hp => fun w l h he => d_whole_str B hB s w l h he hp
 | .nm s, hp => fun w l h he => d_whole_nm B hB s w l h he hp
 | .un k e, hp => fun w l h he => d_whole_un B hB k e hp.1 (d_operand_any B hB e hp.2 (d_whole_any B hB e hp.2)) w l h he
 | .bin k a b, hp => fun w l h he => d_whole_bin B hB k a b hp (d_operand_any B hB a hp.2.1 (d_whole_any B hB a hp.2.1)) (d_operand_any B hB b hp.2.2 (d_whole_any B hB b hp.2.2)) w l h he
theorem tooLong {w w' : World} {B : Nat} {l l' m : List Px.PT} (k : Kq B w w') (h : 2000 < (Px.render l).length) (e : l' = l ++ m) : POut w B l' (Flt 0 1) w' := by
 subst e
 exact POut.err k h
theorem d_set_any (B : Nat) (hB : 12 ≤ B) (n : Lx.Bs) (e : Px.E) (hn : Px.isName n = true) (hp : PE e) (w : World) (l : List Px.PT) (h : Prs w B l) (he : EnvV w) :
   Calls Tryz.prog 123 #[.pointer (some ⟨B, 0, none⟩), .agg #[.string ⟨n.toArray⟩, ev e]] w (POut w B (l ++ Px.setT (n, e))) := by
 have hlt := h.lt
 have HW := hd (d_whole_any B hB e hp)
 obtain ⟨et, ex, hev⟩ := ev_iface e
 have HEV := hd hev
 have HF : Hid (Px.setT (n, e) = Px.nmT n :: Px.sgT [61] :: e.pt) := rfl
 rw [hev]
 clear hev hp
 have hbx : Below w.heap.size w (w.alloc (.cells #[.string ⟨n.toArray⟩, .iface et ex] 139)) := (Below.refl _ _).alloc (Nat.le_refl _) _
 have HP0 := hd (h.below hbx)
 have HE0 := hd (he.below hbx)
 have HK0 := hd (Kq.below (B := B) hbx (by omega))
 have HB0 := hd (Blk.new w #[.string ⟨n.toArray⟩, .iface et ex] 139)
 clear h he hbx
 go_enter Tryz.func123, Tryz.ntmps123
 go_wp2_with fail
 refine (d_putName_any B _ l n HP0.out HE0.out hn).mono ?_
 rintro x w1 ho
 obtain ⟨k1, ⟨rfl, hb⟩ | ⟨rfl, hp1⟩⟩ := ho.cases
 · exact ⟨rfl, tooLong (HK0.out.trans k1) hb (by simp [List.append_assoc, HF.out] <;> rfl)⟩
 have HP1 := hd hp1
 have HK1 := hd (HK0.out.trans k1)
 have HE1 := hd (HE0.out.low k1.1 hB)
 have HB1 := hd (k1.blk HB0.out (by omega) (by decide))
 have c1_1 := HB1.out.cell 1
 simp at c1_1
 have hl1 := HB1.out.lt
 clear hp1 k1 ho
 go_wp2_with fail
 refine (d_put1 B w1 _ (Px.sgT [61]) HP1.out (pt0_sg _ (by simp) (by simp))).mono ?_
 rintro x w2 ho
 obtain ⟨k2, ⟨rfl, hb⟩ | ⟨rfl, hp2⟩⟩ := ho.cases
 · exact ⟨rfl, tooLong (HK1.out.trans k2) hb (by simp [List.append_assoc, HF.out] <;> rfl)⟩
 have HP2 := hd hp2
 have HK2 := hd (HK1.out.trans k2)
 have HE2 := hd (HE1.out.low k2.1 hB)
 have HB2 := hd (k2.blk HB1.out (by omega) (by decide))
 have c1_2 := HB2.out.cell 1
 simp at c1_2
 have hl2 := HB2.out.lt
 clear hp2 k2 ho
 go_wp2_with fail
 rw [← HEV.out]
 refine (HW.out w2 _ HP2.out HE2.out).mono ?_
 rintro x w3 ho
 obtain ⟨k3, ⟨rfl, hb⟩ | ⟨rfl, hp3⟩⟩ := ho.cases
 · exact ⟨rfl, tooLong (HK2.out.trans k3) hb (by simp [List.append_assoc, HF.out] <;> rfl)⟩
 have HP3 := hd hp3
 have HK3 := hd (HK2.out.trans k3)
 have HE3 := hd (HE2.out.low k3.1 hB)
 clear hp3 k3 ho
 rw [HEV.out]
 go_wp2_with fail
 go_end0
 exact POut.ok HK3.out (by have := HP3.out; simpa [List.append_assoc, HF.out] using this)
theorem d_item_any (B : Nat) (hB : 12 ≤ B) (i : Option Px.E) (hp : ∀ e ∈ i.toList, PE e) (w : World) (l : List Px.PT) (h : Prs w B l) (he : EnvV w) :
   Calls Tryz.prog 125 #[.pointer (some ⟨B, 0, none⟩), .agg #[.bool i.isNone, ev? i]] w (POut w B (l ++ Px.itemT i)) := by
 have hlt := h.lt
 cases i with
 | none =>
  have HF : Hid (Px.itemT none = [Px.sgT [42]]) := rfl
  show Calls _ _ #[_, .agg #[.bool true, .nilIface]] _ _
  have hbx : Below w.heap.size w (w.alloc (.cells #[.bool true, .nilIface] 141)) := (Below.refl _ _).alloc (Nat.le_refl _) _
  have HP0 := hd (h.below hbx)
  have HE0 := hd (he.below hbx)
  have HK0 := hd (Kq.below (B := B) hbx (by omega))
  have HB0 := hd (Blk.new w #[.bool true, .nilIface] 141)
  clear h he hbx
  go_enter Tryz.func125, Tryz.ntmps125
  go_wp2_with fail
  refine (d_put1g B _ _ l (Px.sgT [42]) (by simp) HP0.out (pt0_sg _ (by simp) (by simp))).mono ?_
  rintro x w1 ho
  obtain ⟨k1, ⟨rfl, hb⟩ | ⟨rfl, hp1⟩⟩ := ho.cases
  · exact ⟨rfl, tooLong (HK0.out.trans k1) hb (by simp [List.append_assoc, HF.out] <;> rfl)⟩
  have HP1 := hd hp1
  have HK1 := hd (HK0.out.trans k1)
  have HE1 := hd (HE0.out.low k1.1 hB)
  clear hp1 k1 ho
  go_wp2_with fail
  go_end0
  exact POut.ok HK1.out (by have := HP1.out; simpa [List.append_assoc, HF.out] using this)
 | some e =>
  have HW := hd (d_whole_any B hB e (hp e (by simp)))
  obtain ⟨et, ex, hev⟩ := ev_iface e
  have HEV := hd hev
  have hW0 : ∀ w l, Prs w B l → EnvV w → Calls Tryz.prog 121 #[.pointer (some ⟨B, 0, none⟩), .iface et ex] w (POut w B (l ++ e.pt)) := by rw [← hev]; exact HW.out
  have HW0 := hd hW0
  have HF : Hid (Px.itemT (some e) = e.pt) := rfl
  show Calls _ _ #[_, .agg #[.bool false, ev e]] _ _
  rw [hev]
  clear hev hp hW0
  have hbx : Below w.heap.size w (w.alloc (.cells #[.bool false, .iface et ex] 141)) := (Below.refl _ _).alloc (Nat.le_refl _) _
  have HP0 := hd (h.below hbx)
  have HE0 := hd (he.below hbx)
  have HK0 := hd (Kq.below (B := B) hbx (by omega))
  have HB0 := hd (Blk.new w #[.bool false, .iface et ex] 141)
  clear h he hbx
  go_enter Tryz.func125, Tryz.ntmps125
  go_wp2_with fail
  refine (HW0.out _ l HP0.out HE0.out).mono ?_
  rintro x w1 ho
  obtain ⟨k1, ⟨rfl, hb⟩ | ⟨rfl, hp1⟩⟩ := ho.cases
  · exact ⟨rfl, tooLong (HK0.out.trans k1) hb (by simp [List.append_assoc, HF.out] <;> rfl)⟩
  have HP1 := hd hp1
  have HK1 := hd (HK0.out.trans k1)
  have HE1 := hd (HE0.out.low k1.1 hB)
  clear hp1 k1 ho
  go_wp2_with fail
  go_end0
  exact POut.ok HK1.out (by have := HP1.out; simpa [List.append_assoc, HF.out] using this)
theorem d_order_any (B : Nat) (hB : 12 ≤ B) (e : Px.E) (b : Bool) (hp : PE e) (w : World) (l : List Px.PT) (h : Prs w B l) (he : EnvV w) :
   Calls Tryz.prog 127 #[.pointer (some ⟨B, 0, none⟩), .agg #[ev e, .bool b]] w (POut w B (l ++ Px.orderT (e, b))) := by
 have hlt := h.lt
 have HW := hd (d_whole_any B hB e hp)
 obtain ⟨et, ex, hev⟩ := ev_iface e
 have HEV := hd hev
 have HF : Hid (Px.orderT (e, b) = e.pt ++ (if b = true then [Px.kwT Px.kDESC] else [])) := rfl
 have hW0 : ∀ w l, Prs w B l → EnvV w → Calls Tryz.prog 121 #[.pointer (some ⟨B, 0, none⟩), .iface et ex] w (POut w B (l ++ e.pt)) := by rw [← hev]; exact HW.out
 have HW0 := hd hW0
 rw [hev]
 clear hev hp hW0
 have hbx : Below w.heap.size w (w.alloc (.cells #[.iface et ex, .bool b] 143)) := (Below.refl _ _).alloc (Nat.le_refl _) _
 have HP0 := hd (h.below hbx)
 have HE0 := hd (he.below hbx)
 have HK0 := hd (Kq.below (B := B) hbx (by omega))
 have HB0 := hd (Blk.new w #[.iface et ex, .bool b] 143)
 clear h he hbx
 go_enter Tryz.func127, Tryz.ntmps127
 go_wp2_with fail
 refine (HW0.out _ l HP0.out HE0.out).mono ?_
 rintro x w1 ho
 obtain ⟨k1, ⟨rfl, hb⟩ | ⟨rfl, hp1⟩⟩ := ho.cases
 · exact ⟨rfl, tooLong (HK0.out.trans k1) hb (by simp [List.append_assoc, HF.out] <;> rfl)⟩
 have HP1 := hd hp1
 have HK1 := hd (HK0.out.trans k1)
 have HE1 := hd (HE0.out.low k1.1 hB)
 have HB1 := hd (k1.blk HB0.out (by omega) (by decide))
 have c1_1 := HB1.out.cell 1
 simp at c1_1
 have hl1 := HB1.out.lt
 clear hp1 k1 ho
 cases b with
 | true =>
  go_wp2_with fail
  refine (d_put1 B w1 _ (Px.kwT Px.kDESC) HP1.out (pt0_kw _ (by decide) (by decide))).mono ?_
  rintro x w2 ho
  obtain ⟨k2, ⟨rfl, hb⟩ | ⟨rfl, hp2⟩⟩ := ho.cases
  · exact ⟨rfl, tooLong (HK1.out.trans k2) hb (by simp [List.append_assoc, HF.out] <;> rfl)⟩
  have HP2 := hd hp2
  have HK2 := hd (HK1.out.trans k2)
  have HE2 := hd (HE1.out.low k2.1 hB)
  clear hp2 k2 ho
  go_wp2_with fail
  go_end0
  exact POut.ok HK2.out (by have := HP2.out; simpa [List.append_assoc, HF.out] using this)
 | false =>
  go_wp2_with fail
  go_end0
  exact POut.ok HK1.out (by have := HP1.out; simpa [List.append_assoc, HF.out] using this)
theorem d_where_any (B : Nat) (hB : 12 ≤ B) (o : Option Px.E) (hp : ∀ e ∈ o.toList, PE e) (w : World) (l : List Px.PT) (h : Prs w B l) (he : EnvV w) :
   Calls Tryz.prog 69 #[.pointer (some ⟨B, 0, none⟩), ev? o] w (POut w B (l ++ Px.whereT o)) := by
 have hlt := h.lt
 have HP0 := hd h
 have HE0 := hd he
 have HK0 := hd (Kq.refl B w)
 clear h he
 cases o with
 | none =>
  have HF : Hid (Px.whereT none = []) := rfl
  show Calls _ _ #[_, .nilIface] _ _
  go_enter Tryz.func69, Tryz.ntmps69
  go_wp2_with fail
  go_end0
  exact POut.ok HK0.out (by have := HP0.out; simpa [List.append_assoc, HF.out] using this)
 | some e =>
  have HW := hd (d_whole_any B hB e (hp e (by simp)))
  obtain ⟨et, ex, hev⟩ := ev_iface e
  have HEV := hd hev
  have hW0 : ∀ w l, Prs w B l → EnvV w → Calls Tryz.prog 121 #[.pointer (some ⟨B, 0, none⟩), .iface et ex] w (POut w B (l ++ e.pt)) := by rw [← hev]; exact HW.out
  have HW0 := hd hW0
  have HF : Hid (Px.whereT (some e) = Px.kwT Px.kWHERE :: e.pt) := rfl
  show Calls _ _ #[_, ev e] _ _
  rw [hev]
  clear hev hp hW0
  go_enter Tryz.func69, Tryz.ntmps69
  go_wp2_with fail
  refine (d_put1 B w l (Px.kwT Px.kWHERE) HP0.out (pt0_kw _ (by decide) (by decide))).mono ?_
  rintro x w1 ho
  obtain ⟨k1, ⟨rfl, hb⟩ | ⟨rfl, hp1⟩⟩ := ho.cases
  · exact ⟨rfl, tooLong (HK0.out.trans k1) hb (by simp [List.append_assoc, HF.out] <;> rfl)⟩
  have HP1 := hd hp1
  have HK1 := hd (HK0.out.trans k1)
  have HE1 := hd (HE0.out.low k1.1 hB)
  clear hp1 k1 ho
  go_wp2_with fail
  refine (HW0.out w1 _ HP1.out HE1.out).mono ?_
  rintro x w2 ho
  obtain ⟨k2, ⟨rfl, hb⟩ | ⟨rfl, hp2⟩⟩ := ho.cases
  · exact ⟨rfl, tooLong (HK1.out.trans k2) hb (by simp [List.append_assoc, HF.out] <;> rfl)⟩
  have HP2 := hd hp2
  have HK2 := hd (HK1.out.trans k2)
  have HE2 := hd (HE1.out.low k2.1 hB)
  clear hp2 k2 ho
  go_wp2_with fail
  go_end0
  exact POut.ok HK2.out (by have := HP2.out; simpa [List.append_assoc, HF.out] using this)
theorem d_column_any (B : Nat) (hB : 12 ≤ B) (n : Lx.Bs) (k : Nat) (hn : Px.isName n = true) (h1 : 1 ≤ k) (h2 : k ≤ 7) (h3 : k ≠ 4) (w : World) (l : List Px.PT) (h : Prs w B l) (he : EnvV w) :
   Calls Tryz.prog 112 #[.pointer (some ⟨B, 0, none⟩), .agg #[.string ⟨n.toArray⟩, .int .i64 (k : Int)]] w (POut w B (l ++ Px.colT (n, k))) := by
 have hlt := h.lt
 have hk : k = 1 ∨ k = 2 ∨ k = 3 ∨ k = 5 ∨ k = 6 ∨ k = 7 := by omega
 clear h1 h2 h3
 rcases hk with rfl | rfl | rfl | rfl | rfl | rfl
 · have HF : Hid (Px.colT (n, 1) = Px.nmT n :: Px.kwT Px.kINTEGER :: []) := by show _ = _; simp [Px.colT, Px.typeT]
   have hbx : Below w.heap.size w (w.alloc (.cells #[.string ⟨n.toArray⟩, .int .i64 ((1 : Nat) : Int)] 135)) := (Below.refl _ _).alloc (Nat.le_refl _) _
   have HP0 := hd (h.below hbx)
   have HE0 := hd (he.below hbx)
   have HK0 := hd (Kq.below (B := B) hbx (by omega))
   have HB0 := hd (Blk.new w #[.string ⟨n.toArray⟩, .int .i64 ((1 : Nat) : Int)] 135)
   clear h he hbx
   go_enter Tryz.func112, Tryz.ntmps112
   go_wp2_with fail
   refine (d_putName_any B _ l n HP0.out HE0.out hn).mono ?_
   rintro x w1 ho
   obtain ⟨k1, ⟨rfl, hb⟩ | ⟨rfl, hp1⟩⟩ := ho.cases
   · exact ⟨rfl, tooLong (HK0.out.trans k1) hb (by simp [List.append_assoc, HF.out] <;> rfl)⟩
   have HP1 := hd hp1
   have HK1 := hd (HK0.out.trans k1)
   have HE1 := hd (HE0.out.low k1.1 hB)
   have HB1 := hd (k1.blk HB0.out (by omega) (by decide))
   have c1_1 := HB1.out.cell 1
   simp at c1_1
   have hl1 := HB1.out.lt
   clear hp1 k1 ho
   go_wp2_with fail
   refine (d_put1 B w1 _ (Px.kwT Px.kINTEGER) HP1.out (pt0_kw _ (by decide) (by decide))).mono ?_
   rintro x w2 ho
   obtain ⟨k2, ⟨rfl, hb⟩ | ⟨rfl, hp2⟩⟩ := ho.cases
   · exact ⟨rfl, tooLong (HK1.out.trans k2) hb (by simp [List.append_assoc, HF.out] <;> rfl)⟩
   have HP2 := hd hp2
   have HK2 := hd (HK1.out.trans k2)
   have HE2 := hd (HE1.out.low k2.1 hB)
   have HB2 := hd (k2.blk HB1.out (by omega) (by decide))
   have c1_2 := HB2.out.cell 1
   simp at c1_2
   have hl2 := HB2.out.lt
   clear hp2 k2 ho
   go_wp2_with fail
   go_end0
   exact POut.ok HK2.out (by have := HP2.out; simpa [List.append_assoc, HF.out] using this)
 · have HF : Hid (Px.colT (n, 2) = Px.nmT n :: Px.kwT Px.kTEXT :: []) := by show _ = _; simp [Px.colT, Px.typeT]
   have hbx : Below w.heap.size w (w.alloc (.cells #[.string ⟨n.toArray⟩, .int .i64 ((2 : Nat) : Int)] 135)) := (Below.refl _ _).alloc (Nat.le_refl _) _
   have HP0 := hd (h.below hbx)
   have HE0 := hd (he.below hbx)
   have HK0 := hd (Kq.below (B := B) hbx (by omega))
   have HB0 := hd (Blk.new w #[.string ⟨n.toArray⟩, .int .i64 ((2 : Nat) : Int)] 135)
   clear h he hbx
   go_enter Tryz.func112, Tryz.ntmps112
   go_wp2_with fail
   refine (d_putName_any B _ l n HP0.out HE0.out hn).mono ?_
   rintro x w1 ho
   obtain ⟨k1, ⟨rfl, hb⟩ | ⟨rfl, hp1⟩⟩ := ho.cases
   · exact ⟨rfl, tooLong (HK0.out.trans k1) hb (by simp [List.append_assoc, HF.out] <;> rfl)⟩
   have HP1 := hd hp1
   have HK1 := hd (HK0.out.trans k1)
   have HE1 := hd (HE0.out.low k1.1 hB)
   have HB1 := hd (k1.blk HB0.out (by omega) (by decide))
   have c1_1 := HB1.out.cell 1
   simp at c1_1
   have hl1 := HB1.out.lt
   clear hp1 k1 ho
   go_wp2_with fail
   refine (d_put1 B w1 _ (Px.kwT Px.kTEXT) HP1.out (pt0_kw _ (by decide) (by decide))).mono ?_
   rintro x w2 ho
   obtain ⟨k2, ⟨rfl, hb⟩ | ⟨rfl, hp2⟩⟩ := ho.cases
   · exact ⟨rfl, tooLong (HK1.out.trans k2) hb (by simp [List.append_assoc, HF.out] <;> rfl)⟩
   have HP2 := hd hp2
   have HK2 := hd (HK1.out.trans k2)
   have HE2 := hd (HE1.out.low k2.1 hB)
   have HB2 := hd (k2.blk HB1.out (by omega) (by decide))
   have c1_2 := HB2.out.cell 1
   simp at c1_2
   have hl2 := HB2.out.lt
   clear hp2 k2 ho
   go_wp2_with fail
   go_end0
   exact POut.ok HK2.out (by have := HP2.out; simpa [List.append_assoc, HF.out] using this)
 · have HF : Hid (Px.colT (n, 3) = Px.nmT n :: Px.kwT Px.kBOOLEAN :: []) := by show _ = _; simp [Px.colT, Px.typeT]
   have hbx : Below w.heap.size w (w.alloc (.cells #[.string ⟨n.toArray⟩, .int .i64 ((3 : Nat) : Int)] 135)) := (Below.refl _ _).alloc (Nat.le_refl _) _
   have HP0 := hd (h.below hbx)
   have HE0 := hd (he.below hbx)
   have HK0 := hd (Kq.below (B := B) hbx (by omega))
   have HB0 := hd (Blk.new w #[.string ⟨n.toArray⟩, .int .i64 ((3 : Nat) : Int)] 135)
   clear h he hbx
   go_enter Tryz.func112, Tryz.ntmps112
   go_wp2_with fail
   refine (d_putName_any B _ l n HP0.out HE0.out hn).mono ?_
   rintro x w1 ho
   obtain ⟨k1, ⟨rfl, hb⟩ | ⟨rfl, hp1⟩⟩ := ho.cases
   · exact ⟨rfl, tooLong (HK0.out.trans k1) hb (by simp [List.append_assoc, HF.out] <;> rfl)⟩
   have HP1 := hd hp1
   have HK1 := hd (HK0.out.trans k1)
   have HE1 := hd (HE0.out.low k1.1 hB)
   have HB1 := hd (k1.blk HB0.out (by omega) (by decide))
   have c1_1 := HB1.out.cell 1
   simp at c1_1
   have hl1 := HB1.out.lt
   clear hp1 k1 ho
   go_wp2_with fail
   refine (d_put1 B w1 _ (Px.kwT Px.kBOOLEAN) HP1.out (pt0_kw _ (by decide) (by decide))).mono ?_
   rintro x w2 ho
   obtain ⟨k2, ⟨rfl, hb⟩ | ⟨rfl, hp2⟩⟩ := ho.cases
   · exact ⟨rfl, tooLong (HK1.out.trans k2) hb (by simp [List.append_assoc, HF.out] <;> rfl)⟩
   have HP2 := hd hp2
   have HK2 := hd (HK1.out.trans k2)
   have HE2 := hd (HE1.out.low k2.1 hB)
   have HB2 := hd (k2.blk HB1.out (by omega) (by decide))
   have c1_2 := HB2.out.cell 1
   simp at c1_2
   have hl2 := HB2.out.lt
   clear hp2 k2 ho
   go_wp2_with fail
   go_end0
   exact POut.ok HK2.out (by have := HP2.out; simpa [List.append_assoc, HF.out] using this)
 · have HF : Hid (Px.colT (n, 5) = Px.nmT n :: Px.kwT Px.kINTEGER :: [Px.kwT Px.kNOT, Px.kwT Px.kNULL]) := by show _ = _; simp [Px.colT, Px.typeT]
   have hbx : Below w.heap.size w (w.alloc (.cells #[.string ⟨n.toArray⟩, .int .i64 ((5 : Nat) : Int)] 135)) := (Below.refl _ _).alloc (Nat.le_refl _) _
   have HP0 := hd (h.below hbx)
   have HE0 := hd (he.below hbx)
   have HK0 := hd (Kq.below (B := B) hbx (by omega))
   have HB0 := hd (Blk.new w #[.string ⟨n.toArray⟩, .int .i64 ((5 : Nat) : Int)] 135)
   clear h he hbx
   go_enter Tryz.func112, Tryz.ntmps112
   go_wp2_with fail
   refine (d_putName_any B _ l n HP0.out HE0.out hn).mono ?_
   rintro x w1 ho
   obtain ⟨k1, ⟨rfl, hb⟩ | ⟨rfl, hp1⟩⟩ := ho.cases
   · exact ⟨rfl, tooLong (HK0.out.trans k1) hb (by simp [List.append_assoc, HF.out] <;> rfl)⟩
   have HP1 := hd hp1
   have HK1 := hd (HK0.out.trans k1)
   have HE1 := hd (HE0.out.low k1.1 hB)
   have HB1 := hd (k1.blk HB0.out (by omega) (by decide))
   have c1_1 := HB1.out.cell 1
   simp at c1_1
   have hl1 := HB1.out.lt
   clear hp1 k1 ho
   go_wp2_with fail
   refine (d_put1 B w1 _ (Px.kwT Px.kINTEGER) HP1.out (pt0_kw _ (by decide) (by decide))).mono ?_
   rintro x w2 ho
   obtain ⟨k2, ⟨rfl, hb⟩ | ⟨rfl, hp2⟩⟩ := ho.cases
   · exact ⟨rfl, tooLong (HK1.out.trans k2) hb (by simp [List.append_assoc, HF.out] <;> rfl)⟩
   have HP2 := hd hp2
   have HK2 := hd (HK1.out.trans k2)
   have HE2 := hd (HE1.out.low k2.1 hB)
   have HB2 := hd (k2.blk HB1.out (by omega) (by decide))
   have c1_2 := HB2.out.cell 1
   simp at c1_2
   have hl2 := HB2.out.lt
   clear hp2 k2 ho
   go_wp2_with fail
   refine (d_put2 B w2 _ (Px.kwT Px.kNOT) (Px.kwT Px.kNULL) HP2.out (pt0_kw _ (by decide) (by decide)) (pt0_kw _ (by decide) (by decide))).mono ?_
   rintro x w3 ho
   obtain ⟨k3, ⟨rfl, hb⟩ | ⟨rfl, hp3⟩⟩ := ho.cases
   · exact ⟨rfl, tooLong (HK2.out.trans k3) hb (by simp [List.append_assoc, HF.out] <;> rfl)⟩
   have HP3 := hd hp3
   have HK3 := hd (HK2.out.trans k3)
   have HE3 := hd (HE2.out.low k3.1 hB)
   clear hp3 k3 ho
   go_wp2_with fail
   go_end0
   exact POut.ok HK3.out (by have := HP3.out; simpa [List.append_assoc, HF.out] using this)
 · have HF : Hid (Px.colT (n, 6) = Px.nmT n :: Px.kwT Px.kTEXT :: [Px.kwT Px.kNOT, Px.kwT Px.kNULL]) := by show _ = _; simp [Px.colT, Px.typeT]
   have hbx : Below w.heap.size w (w.alloc (.cells #[.string ⟨n.toArray⟩, .int .i64 ((6 : Nat) : Int)] 135)) := (Below.refl _ _).alloc (Nat.le_refl _) _
   have HP0 := hd (h.below hbx)
   have HE0 := hd (he.below hbx)
   have HK0 := hd (Kq.below (B := B) hbx (by omega))
   have HB0 := hd (Blk.new w #[.string ⟨n.toArray⟩, .int .i64 ((6 : Nat) : Int)] 135)
   clear h he hbx
   go_enter Tryz.func112, Tryz.ntmps112
   go_wp2_with fail
   refine (d_putName_any B _ l n HP0.out HE0.out hn).mono ?_
   rintro x w1 ho
   obtain ⟨k1, ⟨rfl, hb⟩ | ⟨rfl, hp1⟩⟩ := ho.cases
   · exact ⟨rfl, tooLong (HK0.out.trans k1) hb (by simp [List.append_assoc, HF.out] <;> rfl)⟩
   have HP1 := hd hp1
   have HK1 := hd (HK0.out.trans k1)
   have HE1 := hd (HE0.out.low k1.1 hB)
   have HB1 := hd (k1.blk HB0.out (by omega) (by decide))
   have c1_1 := HB1.out.cell 1
   simp at c1_1
   have hl1 := HB1.out.lt
   clear hp1 k1 ho
   go_wp2_with fail
   refine (d_put1 B w1 _ (Px.kwT Px.kTEXT) HP1.out (pt0_kw _ (by decide) (by decide))).mono ?_
   rintro x w2 ho
   obtain ⟨k2, ⟨rfl, hb⟩ | ⟨rfl, hp2⟩⟩ := ho.cases
   · exact ⟨rfl, tooLong (HK1.out.trans k2) hb (by simp [List.append_assoc, HF.out] <;> rfl)⟩
   have HP2 := hd hp2
   have HK2 := hd (HK1.out.trans k2)
   have HE2 := hd (HE1.out.low k2.1 hB)
   have HB2 := hd (k2.blk HB1.out (by omega) (by decide))
   have c1_2 := HB2.out.cell 1
   simp at c1_2
   have hl2 := HB2.out.lt
   clear hp2 k2 ho
   go_wp2_with fail
   refine (d_put2 B w2 _ (Px.kwT Px.kNOT) (Px.kwT Px.kNULL) HP2.out (pt0_kw _ (by decide) (by decide)) (pt0_kw _ (by decide) (by decide))).mono ?_
   rintro x w3 ho
   obtain ⟨k3, ⟨rfl, hb⟩ | ⟨rfl, hp3⟩⟩ := ho.cases
   · exact ⟨rfl, tooLong (HK2.out.trans k3) hb (by simp [List.append_assoc, HF.out] <;> rfl)⟩
   have HP3 := hd hp3
   have HK3 := hd (HK2.out.trans k3)
   have HE3 := hd (HE2.out.low k3.1 hB)
   clear hp3 k3 ho
   go_wp2_with fail
   go_end0
   exact POut.ok HK3.out (by have := HP3.out; simpa [List.append_assoc, HF.out] using this)
 · have HF : Hid (Px.colT (n, 7) = Px.nmT n :: Px.kwT Px.kBOOLEAN :: [Px.kwT Px.kNOT, Px.kwT Px.kNULL]) := by show _ = _; simp [Px.colT, Px.typeT]
   have hbx : Below w.heap.size w (w.alloc (.cells #[.string ⟨n.toArray⟩, .int .i64 ((7 : Nat) : Int)] 135)) := (Below.refl _ _).alloc (Nat.le_refl _) _
   have HP0 := hd (h.below hbx)
   have HE0 := hd (he.below hbx)
   have HK0 := hd (Kq.below (B := B) hbx (by omega))
   have HB0 := hd (Blk.new w #[.string ⟨n.toArray⟩, .int .i64 ((7 : Nat) : Int)] 135)
   clear h he hbx
   go_enter Tryz.func112, Tryz.ntmps112
   go_wp2_with fail
   refine (d_putName_any B _ l n HP0.out HE0.out hn).mono ?_
   rintro x w1 ho
   obtain ⟨k1, ⟨rfl, hb⟩ | ⟨rfl, hp1⟩⟩ := ho.cases
   · exact ⟨rfl, tooLong (HK0.out.trans k1) hb (by simp [List.append_assoc, HF.out] <;> rfl)⟩
   have HP1 := hd hp1
   have HK1 := hd (HK0.out.trans k1)
   have HE1 := hd (HE0.out.low k1.1 hB)
   have HB1 := hd (k1.blk HB0.out (by omega) (by decide))
   have c1_1 := HB1.out.cell 1
   simp at c1_1
   have hl1 := HB1.out.lt
   clear hp1 k1 ho
   go_wp2_with fail
   refine (d_put1 B w1 _ (Px.kwT Px.kBOOLEAN) HP1.out (pt0_kw _ (by decide) (by decide))).mono ?_
   rintro x w2 ho
   obtain ⟨k2, ⟨rfl, hb⟩ | ⟨rfl, hp2⟩⟩ := ho.cases
   · exact ⟨rfl, tooLong (HK1.out.trans k2) hb (by simp [List.append_assoc, HF.out] <;> rfl)⟩
   have HP2 := hd hp2
   have HK2 := hd (HK1.out.trans k2)
   have HE2 := hd (HE1.out.low k2.1 hB)
   have HB2 := hd (k2.blk HB1.out (by omega) (by decide))
   have c1_2 := HB2.out.cell 1
   simp at c1_2
   have hl2 := HB2.out.lt
   clear hp2 k2 ho
   go_wp2_with fail
   refine (d_put2 B w2 _ (Px.kwT Px.kNOT) (Px.kwT Px.kNULL) HP2.out (pt0_kw _ (by decide) (by decide)) (pt0_kw _ (by decide) (by decide))).mono ?_
   rintro x w3 ho
   obtain ⟨k3, ⟨rfl, hb⟩ | ⟨rfl, hp3⟩⟩ := ho.cases
   · exact ⟨rfl, tooLong (HK2.out.trans k3) hb (by simp [List.append_assoc, HF.out] <;> rfl)⟩
   have HP3 := hd hp3
   have HK3 := hd (HK2.out.trans k3)
   have HE3 := hd (HE2.out.low k3.1 hB)
   clear hp3 k3 ho
   go_wp2_with fail
   go_end0
   exact POut.ok HK3.out (by have := HP3.out; simpa [List.append_assoc, HF.out] using this)
structure Kp (w w' : World) (b : Nat) : Prop where
 os : w'.os = w.os
 tape : w'.tape = w.tape
 output : w'.output = w.output
 size : w.heap.size ≤ w'.heap.size
 block : ∀ k o, w.heap[k]? = some o → (k < b ∨ (k ≠ b ∧ ∀ cs fr, o ≠ .cells cs 43 fr)) → w'.heap[k]? = some o
structure Ls (w : World) (b : Nat) (l : List Px.Nd) : Prop where
 rows : ∃ nv, Blk w b #[nv] 84 ∧ w.ownsRow (b + 1) 43 4 nv l.length (ndsV l)

theorem flat_at {α : Type} (cl : α → List Value) (m : Nat) (hm : ∀ a, (cl a).length = m) : ∀ (l : List α) (k : Nat) (h : k < l.length) (j : Nat), j < m → (l.flatMap cl)[k * m + j]? = (cl l[k])[j]?
 | a :: l, 0, _, j, hj => by
  rw [List.flatMap_cons, Nat.zero_mul, Nat.zero_add, List.getElem?_append_left (by rw [hm]; exact hj)]
  rfl
 | a :: l, k + 1, h, j, hj => by
  have ih := flat_at cl m hm l k (by simpa using h) j hj
  rw [List.flatMap_cons, List.getElem?_append_right (by rw [hm, Nat.succ_mul]; omega), hm, show (k + 1) * m + j - m = k * m + j by rw [Nat.succ_mul]; omega, ih]
  rfl
theorem ls_cells {α : Type} {w : World} {base : Nat} {T : TypeId} {m : Nat} {cl : α → List Value} {l : List α} {u : Value} (hm : ∀ a, (cl a).length = m) (h : w.ownsRow base T m u l.length (l.flatMap cl)) : ∃ ao cap, u = .slice ao l.length cap ∧ l.length ≤ cap ∧ cap ≤ maxLen ∧
   ∀ k, (hk : k < l.length) → ∃ g, ao = some ⟨g, 0, none⟩ ∧ g < w.heap.size ∧ ∀ j, (hj : j < m) → w.cell? ⟨g, k * m + j, none⟩ = (cl l[k])[j]? := by
 have h2 := h.2
 rcases h2 with ⟨rfl, hn⟩ | ⟨g, cap, cur, rfl, hb, hg, h1, h2, h3, h4⟩
 · exact ⟨none, 0, by rw [hn], by omega, by unfold maxLen; omega, fun k hk => by omega⟩
 · refine ⟨some ⟨g, 0, none⟩, cap, rfl, h1, h2, fun k hk => ⟨g, rfl, (Array.getElem?_eq_some_iff.1 hg).1, fun j hj => ?_⟩⟩
   have hc := h.cells (g := g) rfl
   have hf := flat_at cl m hm l k hk j hj
   have hs : ∃ x, (cl l[k])[j]? = some x := ⟨_, List.getElem?_eq_getElem (by rw [hm]; exact hj)⟩
   obtain ⟨x, hx⟩ := hs
   have := hc _ x (by rw [hf]; exact hx)
   simp only [Addr.add_lit, Nat.zero_add] at this
   rw [this, hx]

theorem sep_snoc (a : List Px.PT) : ∀ xs : List (List Px.PT), xs ≠ [] → Px.sepT (xs ++ [a]) = Px.sepT xs ++ (Px.sgT [44] :: a)
 | [], h => absurd rfl h
 | [x], _ => rfl
 | x :: y :: r, _ => by
  have ih := sep_snoc a (y :: r) (by simp)
  simp only [List.cons_append, Px.sepT] at ih ⊢
  rw [ih]
  simp
theorem sep_pre : ∀ (a b : List (List Px.PT)), a ≠ [] → ∃ m, Px.sepT (a ++ b) = Px.sepT a ++ m
 | [], _, h => absurd rfl h
 | [x], [], _ => ⟨[], by simp⟩
 | [x], y :: r, _ => ⟨Px.sgT [44] :: Px.sepT (y :: r), rfl⟩
 | x :: y :: r, b, _ => by
  obtain ⟨m, hm⟩ := sep_pre (y :: r) b (by simp)
  refine ⟨m, ?_⟩
  simp only [List.cons_append, Px.sepT] at hm ⊢
  rw [hm]
  simp
theorem Kq.own {B base : Nat} {w w' : World} {e : TypeId} {size : Nat} {v : Value} {n : Nat} {xs : List Value} (h : Kq B w w') (ho : w.ownsRow base e size v n xs) (he : e ≠ 5) (hne : ∀ g, v.ownBlock = some g → g ≠ B) : w'.ownsRow base e size v n xs := by
 refine ⟨ho.1, ?_⟩
 rcases ho.2 with hn | ⟨g, cap, cur, rfl, hb, hg, rest⟩
 · exact .inl hn
 · refine .inr ⟨g, cap, cur, rfl, hb, ?_, rest⟩
   exact h.2 g _ hg (by have := hne g rfl; simpa using this) (fun c fz e' => by injection e' with _ e2 _; exact he e2)
theorem d_listSet_any (B : Nat) (hB : 12 ≤ B) (base : Nat) (v : Value) (s : List (Lx.Bs × Px.E)) (hs : ∀ x ∈ s, Px.isName x.1 = true ∧ PE x.2) (w : World) (l : List Px.PT) (h : Prs w B l) (he : EnvV w) (ho : w.ownsRow base 139 2 v s.length (s.flatMap setC)) (hne : ∀ g, v.ownBlock = some g → g ≠ B) (hn : s.length ≤ 16777216) :
   Calls Tryz.prog 122 #[.pointer (some ⟨B, 0, none⟩), v, .func (.func 123) #[.pointer (some ⟨B, 0, none⟩)] #[]] w (POut w B (l ++ Px.sepT (s.map Px.setT))) := by
 have HP := hd h
 have HE := hd he
 have HO := hd ho
 have HS := hd hs
 have HNE := hd hne
 have hlt := h.lt
 obtain ⟨ao, cap, hsl, _, _, _⟩ := ls_cells (cl := setC) (m := 2) (fun a => rfl) ho
 subst hsl
 clear h he ho hs hne
 go_enter Tryz.func122, Tryz.ntmps122
 go_wp2_with fail
 go_loopw [10] (fun i wr => ∃ k : Nat, k ≤ s.length ∧ i = .int .i64 k ∧ Hid (Prs wr B (l ++ Px.sepT ((s.take k).map Px.setT))) ∧ Hid (Kq B w wr)) (fun i _ => s.length - (intOf i).toNat)
 case atStart => exact ⟨0, by omega, rfl, (by show Prs _ _ _; simpa [Px.sepT] using HP.out), Kq.refl _ _⟩
 case round =>
  obtain ⟨k, hk, rfl, HPk, HKk⟩ := hrel
  have HEk := hd (HE.out.low HKk.out.1 hB)
  have hltk := HPk.out.lt
  by_cases hlt2 : k < s.length
  · obtain ⟨ao2, cap2, hsl2, _, _, hcells⟩ := ls_cells (cl := setC) (m := 2) (fun a => rfl) (HKk.out.own HO.out (by decide) HNE.out)
    simp only [Value.slice.injEq, true_and] at hsl2
    obtain ⟨rfl, rfl⟩ := hsl2
    obtain ⟨g, rfl, hg, hj⟩ := hcells k hlt2
    have p0 := hj 0 (by omega)
    have p1 := hj 1 (by omega)
    have HX := hd (HS.out s[k] (List.getElem_mem hlt2))
    have HTK : Hid ((s.take (k + 1)).map Px.setT = (s.take k).map Px.setT ++ [Px.setT s[k]]) := by show _ = _; rw [List.take_add_one, List.getElem?_eq_getElem hlt2, List.map_append]; rfl
    have HDR : Hid (∃ m, Px.sepT (s.map Px.setT) = Px.sepT ((s.take (k + 1)).map Px.setT) ++ m) := by
     show ∃ m, _
     have := sep_pre ((s.take (k + 1)).map Px.setT) ((s.drop (k + 1)).map Px.setT) (by simp; intro e; rw [e] at hlt2; simp at hlt2)
     rwa [← List.map_append, List.take_append_drop] at this
    clear hcells hj
    generalize s[k] = x at *
    obtain ⟨nm, e⟩ := x
    simp only [setC, List.getElem?_cons_zero, List.getElem?_cons_succ, Nat.add_zero] at p0 p1
    obtain ⟨et, ex, hev⟩ := ev_iface e
    have HEV := hd hev
    rw [hev] at p1
    have hbx : Below wr.heap.size wr (wr.alloc (.cells #[.string ⟨nm.toArray⟩, .iface et ex] 139)) := (Below.refl _ _).alloc (Nat.le_refl _) _
    have HP0 := hd (HPk.out.below hbx)
    have HE0 := hd (HEk.out.below hbx)
    have HK0 := hd (HKk.out.more hbx (by omega))
    have HB0 := hd (Blk.new wr #[.string ⟨nm.toArray⟩, .iface et ex] 139)
    have HSet : Hid (∀ w l, Prs w B l → EnvV w → Calls Tryz.prog 123 #[.pointer (some ⟨B, 0, none⟩), .agg #[.string ⟨nm.toArray⟩, .iface et ex]] w (POut w B (l ++ Px.setT (nm, e)))) := by
     intro w l h he
     have := d_set_any B hB nm e HX.out.1 HX.out.2 w l h he
     rwa [hev] at this
    clear hbx hev
    by_cases hk0 : k = 0
    · subst hk0
      have HSE : Hid (Px.sepT ((s.take (0 + 1)).map Px.setT) = Px.setT (nm, e)) := by show _ = _; rw [HTK.out]; rfl
      go_wp2_with fail
      refine (HSet.out _ _ HP0.out HE0.out).mono ?_
      rintro x w2 ho
      obtain ⟨k2, ⟨rfl, hb⟩ | ⟨rfl, hp2⟩⟩ := ho.cases
      · obtain ⟨m, hm⟩ := HDR.out
        refine ⟨rfl, tooLong (m := m) (HK0.out.trans k2) hb ?_⟩
        rw [hm, HSE.out]
        simp [Px.sepT]
      have HP2 : Hid (Prs w2 B (l ++ Px.sepT ((s.take (0 + 1)).map Px.setT))) := by show Prs _ _ _; rw [HSE.out]; simpa [Px.sepT] using hp2
      have HK2 := hd (HK0.out.trans k2)
      clear hp2 k2 ho
      go_wp2_with fail
      go_roundw
      case rel => exact ⟨0 + 1, by omega, by go_num, HP2, HK2⟩
      case measure => simp [intOf]; omega
    · have HSE : Hid (Px.sepT ((s.take (k + 1)).map Px.setT) = Px.sepT ((s.take k).map Px.setT) ++ (Px.sgT [44] :: Px.setT (nm, e))) := by
       show _ = _
       rw [HTK.out]
       refine sep_snoc _ _ ?_
       simp
       refine ⟨hk0, ?_⟩
       intro e'
       rw [e'] at hlt2
       simp at hlt2
      have hk1 : (0 : Int) < (k : Int) := by omega
      go_wp2_with fail
      refine (d_put1g B _ _ _ (Px.sgT [44]) (by simp) HP0.out (pt0_sg _ (by simp) (by simp))).mono ?_
      rintro x w1 ho
      obtain ⟨k1, ⟨rfl, hb⟩ | ⟨rfl, hp1⟩⟩ := ho.cases
      · obtain ⟨m, hm⟩ := HDR.out
        refine ⟨rfl, tooLong (m := Px.setT (nm, e) ++ m) (HK0.out.trans k1) hb ?_⟩
        rw [hm, HSE.out]
        simp
      have HP1 := hd hp1
      have HK1 := hd (HK0.out.trans k1)
      have HE1 := hd (HE0.out.low k1.1 hB)
      have HB1 := hd (k1.blk HB0.out (by omega) (by decide))
      have q0 := HB1.out.cell 0
      have q1 := HB1.out.cell 1
      simp at q0 q1
      clear hp1 k1 ho
      go_wp2_with fail
      refine (HSet.out _ _ HP1.out HE1.out).mono ?_
      rintro x w2 ho
      obtain ⟨k2, ⟨rfl, hb⟩ | ⟨rfl, hp2⟩⟩ := ho.cases
      · obtain ⟨m, hm⟩ := HDR.out
        refine ⟨rfl, tooLong (m := m) (HK1.out.trans k2) hb ?_⟩
        rw [hm, HSE.out]
        simp
      have HP2 : Hid (Prs w2 B (l ++ Px.sepT ((s.take (k + 1)).map Px.setT))) := by show Prs _ _ _; rw [HSE.out]; simpa [List.append_assoc] using hp2
      have HK2 := hd (HK1.out.trans k2)
      clear hp2 k2 ho
      go_wp2_with fail
      go_roundw
      case rel => exact ⟨k + 1, by omega, by go_num, HP2, HK2⟩
      case measure => simp [intOf]; omega
  · have hke : k = s.length := by omega
    subst hke
    go_wp2_with fail
    go_end0
    refine POut.ok HKk.out ?_
    have := HPk.out
    rwa [List.take_length] at this
end Go.Proofs.YtkcakbgcfnhgaaaGreatDoor
