/- Parts of the proof: Yr Ys Yt CodeE CodeF CodeG CodeH CodeT -/
import Derived.Test.YtkcakbgcfnhgaaaGreatDoorX18
import Derived.Test.YtkcakbgcfnhgaaaGreatDoorX16
import Derived.Test.YtkcakbgcfnhgaaaGreatDoorX7
import Derived.Recover
import Derived.Defers
namespace Go.Proofs.YtkcakbgcfnhgaaaGreatDoor
set_option linter.unusedSimpArgs false
set_option linter.unusedVariables false
set_option maxRecDepth 100000
set_option maxHeartbeats 16000000
open Go.RowKit
theorem d_selection_any (B : Nat) (hB : 12 ≤ B) (base : Nat) (t : Lx.Bs) (ht : Px.isName t = true) (i : List (Option Px.E)) (hi : ∀ x ∈ i, ∀ e ∈ x.toList, PE e) (hin : i.length ≤ 16777216) (o : Option Px.E) (hp : ∀ e ∈ o.toList, PE e) (r : List (Px.E × Bool)) (hr : ∀ x ∈ r, PE x.1) (hrn : r.length ≤ 16777216) (lm : Option Nat) (hlm : ∀ n, lm = some n → n ≤ 1000000000) (u u2 : Value) (w : World) (l : List Px.PT) (h : Prs w B l) (he : EnvV w) (ho : w.ownsRow base 141 2 u i.length (i.flatMap itemC)) (ho2 : w.ownsRow base 143 2 u2 r.length (r.flatMap orderC)) :
   Calls Tryz.prog 71 #[.pointer (some ⟨B, 0, none⟩), .agg #[u, .string ⟨t.toArray⟩, ev? o, u2, .bool lm.isSome, .int .i64 ((lm.getD 0 : Nat) : Int)]] w (POut w B (l ++ (Px.St.select i t o r lm).pt)) := by
 have hlt := h.lt
 have HF0 : Hid ((Px.St.select i t o r lm).pt = Px.kwT Px.kSELECT :: (Px.sepT (i.map Px.itemT) ++ Px.kwT Px.kFROM :: Px.nmT t :: (Px.whereT o ++ (Px.ordersT r ++ Px.limT lm)))) := rfl
 have HNE := hd (h.ne ho (by decide))
 have HNE2 := hd (h.ne ho2 (by decide))
 have HO := hd ho
 have HO2 := hd ho2
 have HPO := hd hp
 have HLM := hd hlm
 obtain ⟨ua, un, uc, hu⟩ := own_slice ho
 subst hu
 obtain ⟨va, vn, vc, hu⟩ := own_slice ho2
 subst hu
 have HVN : Hid (vn = r.length) := by
  show _ = _
  rcases ho2.2 with ⟨a1, a2⟩ | ⟨g', cap', cur', a1, _⟩
  · cases a1; omega
  · cases a1; rfl
 clear ho ho2 hp hlm
 have hv1 := ev?_one o
 obtain ⟨vo, hvo⟩ : ∃ vo, vo = ev? o := ⟨_, rfl⟩
 have HWH : Hid (∀ w l, Prs w B l → EnvV w → Calls Tryz.prog 69 #[.pointer (some ⟨B, 0, none⟩), vo] w (POut w B (l ++ Px.whereT o))) := by
  intro w l h he
  rw [hvo]
  exact d_where_any B hB o HPO.out w l h he
 rw [← hvo] at hv1 ⊢
 clear hvo
 rcases hv1 with rfl | ⟨et, ex, rfl⟩
 · cases lm with
   | none =>
    show Calls _ _ #[_, .agg #[_, _, _, _, .bool false, .int .i64 0]] _ _
    have hbx : Below w.heap.size w (w.alloc (.cells #[.slice ua un uc, .string ⟨t.toArray⟩, .nilIface, .slice va vn vc, .bool false, .int .i64 0] 109)) := (Below.refl _ _).alloc (Nat.le_refl _) _
    have HP0 := hd (h.below hbx)
    have HE0 := hd (he.below hbx)
    have HK0 := hd (Kq.below (B := B) hbx (by omega))
    have HB0 := hd (Blk.new w #[.slice ua un uc, .string ⟨t.toArray⟩, .nilIface, .slice va vn vc, .bool false, .int .i64 0] 109)
    clear h he hbx
    by_cases hr0 : r = []
    · have hvn : vn = 0 := by rw [HVN.out, hr0]; rfl
      subst hvn
      have HF : Hid ((Px.St.select i t o r none).pt = Px.kwT Px.kSELECT :: (Px.sepT (i.map Px.itemT) ++ Px.kwT Px.kFROM :: Px.nmT t :: (Px.whereT o ++ []))) := by show _ = _; rw [HF0.out, hr0]; simp [Px.ordersT, Px.limT]
      clear hr0
      go_enter Tryz.func71, Tryz.ntmps71
      go_wp2_with fail
      refine (d_put1g B _ _ l (Px.kwT Px.kSELECT) (by simp) HP0.out (pt0_kw _ (by decide) (by decide))).mono ?_
      rintro x w1 ho
      obtain ⟨k1, ⟨rfl, hb⟩ | ⟨rfl, hp1⟩⟩ := ho.cases
      · exact ⟨rfl, tooLong (HK0.out.trans k1) hb (by simp [List.append_assoc, HF.out] <;> rfl)⟩
      have HP1 := hd hp1
      have HK1 := hd (HK0.out.trans k1)
      have HE1 := hd (HE0.out.low k1.1 hB)
      have HB1 := hd (k1.blk HB0.out (by omega) (by decide))
      have c0_1 := HB1.out.cell 0
      simp at c0_1
      have hl1 := HB1.out.lt
      clear hp1 k1 ho
      go_wp2_with fail
      refine (d_listItem_any B hB base _ i hi w1 _ HP1.out HE1.out (HK1.out.own HO.out (by decide) HNE.out) HNE.out hin).mono ?_
      rintro x w2 ho
      obtain ⟨k2, ⟨rfl, hb⟩ | ⟨rfl, hp2⟩⟩ := ho.cases
      · exact ⟨rfl, tooLong (HK1.out.trans k2) hb (by simp [List.append_assoc, HF.out] <;> rfl)⟩
      have HP2 := hd hp2
      have HK2 := hd (HK1.out.trans k2)
      have HE2 := hd (HE1.out.low k2.1 hB)
      have HB2 := hd (k2.blk HB1.out (by omega) (by decide))
      have hl2 := HB2.out.lt
      clear hp2 k2 ho
      go_wp2_with fail
      refine (d_put1 B w2 _ (Px.kwT Px.kFROM) HP2.out (pt0_kw _ (by decide) (by decide))).mono ?_
      rintro x w3 ho
      obtain ⟨k3, ⟨rfl, hb⟩ | ⟨rfl, hp3⟩⟩ := ho.cases
      · exact ⟨rfl, tooLong (HK2.out.trans k3) hb (by simp [List.append_assoc, HF.out] <;> rfl)⟩
      have HP3 := hd hp3
      have HK3 := hd (HK2.out.trans k3)
      have HE3 := hd (HE2.out.low k3.1 hB)
      have HB3 := hd (k3.blk HB2.out (by omega) (by decide))
      have c1_3 := HB3.out.cell 1
      simp at c1_3
      have hl3 := HB3.out.lt
      clear hp3 k3 ho
      go_wp2_with fail
      refine (d_putName_any B w3 _ t HP3.out HE3.out ht).mono ?_
      rintro x w4 ho
      obtain ⟨k4, ⟨rfl, hb⟩ | ⟨rfl, hp4⟩⟩ := ho.cases
      · exact ⟨rfl, tooLong (HK3.out.trans k4) hb (by simp [List.append_assoc, HF.out] <;> rfl)⟩
      have HP4 := hd hp4
      have HK4 := hd (HK3.out.trans k4)
      have HE4 := hd (HE3.out.low k4.1 hB)
      have HB4 := hd (k4.blk HB3.out (by omega) (by decide))
      have c2_4 := HB4.out.cell 2
      simp at c2_4
      have hl4 := HB4.out.lt
      clear hp4 k4 ho
      go_wp2_with fail
      refine (HWH.out w4 _ HP4.out HE4.out).mono ?_
      rintro x w5 ho
      obtain ⟨k5, ⟨rfl, hb⟩ | ⟨rfl, hp5⟩⟩ := ho.cases
      · exact ⟨rfl, tooLong (HK4.out.trans k5) hb (by simp [List.append_assoc, HF.out] <;> rfl)⟩
      have HP5 := hd hp5
      have HK5 := hd (HK4.out.trans k5)
      have HE5 := hd (HE4.out.low k5.1 hB)
      have HB5 := hd (k5.blk HB4.out (by omega) (by decide))
      have c3_5 := HB5.out.cell 3
      simp at c3_5
      have c4_5 := HB5.out.cell 4
      simp at c4_5
      have c5_5 := HB5.out.cell 5
      simp at c5_5
      have hl5 := HB5.out.lt
      clear hp5 k5 ho
      go_wp2_with fail
      go_end0
      exact POut.ok HK5.out (by have := HP5.out; simpa [List.append_assoc, HF.out] using this)
    · have hvn : (0 : Int) < (vn : Int) := by have := List.length_pos_iff.2 hr0; have := HVN.out; omega
      have HF : Hid ((Px.St.select i t o r none).pt = Px.kwT Px.kSELECT :: (Px.sepT (i.map Px.itemT) ++ Px.kwT Px.kFROM :: Px.nmT t :: (Px.whereT o ++ (Px.kwT Px.kORDER :: Px.kwT Px.kBY :: (Px.sepT (r.map Px.orderT) ++ []))))) := by
       show _ = _
       rw [HF0.out]
       cases r with
       | nil => exact absurd rfl hr0
       | cons a r => simp [Px.ordersT, Px.limT]
      clear hr0
      go_enter Tryz.func71, Tryz.ntmps71
      go_wp2_with fail
      refine (d_put1g B _ _ l (Px.kwT Px.kSELECT) (by simp) HP0.out (pt0_kw _ (by decide) (by decide))).mono ?_
      rintro x w1 ho
      obtain ⟨k1, ⟨rfl, hb⟩ | ⟨rfl, hp1⟩⟩ := ho.cases
      · exact ⟨rfl, tooLong (HK0.out.trans k1) hb (by simp [List.append_assoc, HF.out] <;> rfl)⟩
      have HP1 := hd hp1
      have HK1 := hd (HK0.out.trans k1)
      have HE1 := hd (HE0.out.low k1.1 hB)
      have HB1 := hd (k1.blk HB0.out (by omega) (by decide))
      have c0_1 := HB1.out.cell 0
      simp at c0_1
      have hl1 := HB1.out.lt
      clear hp1 k1 ho
      go_wp2_with fail
      refine (d_listItem_any B hB base _ i hi w1 _ HP1.out HE1.out (HK1.out.own HO.out (by decide) HNE.out) HNE.out hin).mono ?_
      rintro x w2 ho
      obtain ⟨k2, ⟨rfl, hb⟩ | ⟨rfl, hp2⟩⟩ := ho.cases
      · exact ⟨rfl, tooLong (HK1.out.trans k2) hb (by simp [List.append_assoc, HF.out] <;> rfl)⟩
      have HP2 := hd hp2
      have HK2 := hd (HK1.out.trans k2)
      have HE2 := hd (HE1.out.low k2.1 hB)
      have HB2 := hd (k2.blk HB1.out (by omega) (by decide))
      have hl2 := HB2.out.lt
      clear hp2 k2 ho
      go_wp2_with fail
      refine (d_put1 B w2 _ (Px.kwT Px.kFROM) HP2.out (pt0_kw _ (by decide) (by decide))).mono ?_
      rintro x w3 ho
      obtain ⟨k3, ⟨rfl, hb⟩ | ⟨rfl, hp3⟩⟩ := ho.cases
      · exact ⟨rfl, tooLong (HK2.out.trans k3) hb (by simp [List.append_assoc, HF.out] <;> rfl)⟩
      have HP3 := hd hp3
      have HK3 := hd (HK2.out.trans k3)
      have HE3 := hd (HE2.out.low k3.1 hB)
      have HB3 := hd (k3.blk HB2.out (by omega) (by decide))
      have c1_3 := HB3.out.cell 1
      simp at c1_3
      have hl3 := HB3.out.lt
      clear hp3 k3 ho
      go_wp2_with fail
      refine (d_putName_any B w3 _ t HP3.out HE3.out ht).mono ?_
      rintro x w4 ho
      obtain ⟨k4, ⟨rfl, hb⟩ | ⟨rfl, hp4⟩⟩ := ho.cases
      · exact ⟨rfl, tooLong (HK3.out.trans k4) hb (by simp [List.append_assoc, HF.out] <;> rfl)⟩
      have HP4 := hd hp4
      have HK4 := hd (HK3.out.trans k4)
      have HE4 := hd (HE3.out.low k4.1 hB)
      have HB4 := hd (k4.blk HB3.out (by omega) (by decide))
      have c2_4 := HB4.out.cell 2
      simp at c2_4
      have hl4 := HB4.out.lt
      clear hp4 k4 ho
      go_wp2_with fail
      refine (HWH.out w4 _ HP4.out HE4.out).mono ?_
      rintro x w5 ho
      obtain ⟨k5, ⟨rfl, hb⟩ | ⟨rfl, hp5⟩⟩ := ho.cases
      · exact ⟨rfl, tooLong (HK4.out.trans k5) hb (by simp [List.append_assoc, HF.out] <;> rfl)⟩
      have HP5 := hd hp5
      have HK5 := hd (HK4.out.trans k5)
      have HE5 := hd (HE4.out.low k5.1 hB)
      have HB5 := hd (k5.blk HB4.out (by omega) (by decide))
      have c3_5 := HB5.out.cell 3
      simp at c3_5
      have hl5 := HB5.out.lt
      clear hp5 k5 ho
      go_wp2_with fail
      refine (d_put2 B w5 _ (Px.kwT Px.kORDER) (Px.kwT Px.kBY) HP5.out (pt0_kw _ (by decide) (by decide)) (pt0_kw _ (by decide) (by decide))).mono ?_
      rintro x w6 ho
      obtain ⟨k6, ⟨rfl, hb⟩ | ⟨rfl, hp6⟩⟩ := ho.cases
      · exact ⟨rfl, tooLong (HK5.out.trans k6) hb (by simp [List.append_assoc, HF.out] <;> rfl)⟩
      have HP6 := hd hp6
      have HK6 := hd (HK5.out.trans k6)
      have HE6 := hd (HE5.out.low k6.1 hB)
      have HB6 := hd (k6.blk HB5.out (by omega) (by decide))
      have c3_6 := HB6.out.cell 3
      simp at c3_6
      have hl6 := HB6.out.lt
      clear hp6 k6 ho
      go_wp2_with fail
      refine (d_listOrder_any B hB base _ r hr w6 _ HP6.out HE6.out (HK6.out.own HO2.out (by decide) HNE2.out) HNE2.out hrn).mono ?_
      rintro x w7 ho
      obtain ⟨k7, ⟨rfl, hb⟩ | ⟨rfl, hp7⟩⟩ := ho.cases
      · exact ⟨rfl, tooLong (HK6.out.trans k7) hb (by simp [List.append_assoc, HF.out] <;> rfl)⟩
      have HP7 := hd hp7
      have HK7 := hd (HK6.out.trans k7)
      have HE7 := hd (HE6.out.low k7.1 hB)
      have HB7 := hd (k7.blk HB6.out (by omega) (by decide))
      have c4_7 := HB7.out.cell 4
      simp at c4_7
      have c5_7 := HB7.out.cell 5
      simp at c5_7
      have hl7 := HB7.out.lt
      clear hp7 k7 ho
      go_wp2_with fail
      go_end0
      exact POut.ok HK7.out (by have := HP7.out; simpa [List.append_assoc, HF.out] using this)
   | some n =>
    show Calls _ _ #[_, .agg #[_, _, _, _, .bool true, .int .i64 (n : Int)]] _ _
    have hn9 := HLM.out n rfl
    have hbx : Below w.heap.size w (w.alloc (.cells #[.slice ua un uc, .string ⟨t.toArray⟩, .nilIface, .slice va vn vc, .bool true, .int .i64 (n : Int)] 109)) := (Below.refl _ _).alloc (Nat.le_refl _) _
    have HP0 := hd (h.below hbx)
    have HE0 := hd (he.below hbx)
    have HK0 := hd (Kq.below (B := B) hbx (by omega))
    have HB0 := hd (Blk.new w #[.slice ua un uc, .string ⟨t.toArray⟩, .nilIface, .slice va vn vc, .bool true, .int .i64 (n : Int)] 109)
    clear h he hbx
    by_cases hr0 : r = []
    · have hvn : vn = 0 := by rw [HVN.out, hr0]; rfl
      subst hvn
      have HF : Hid ((Px.St.select i t o r (some n)).pt = Px.kwT Px.kSELECT :: (Px.sepT (i.map Px.itemT) ++ Px.kwT Px.kFROM :: Px.nmT t :: (Px.whereT o ++ [Px.kwT Px.kLIMIT, Px.dgT n]))) := by show _ = _; rw [HF0.out, hr0]; simp [Px.ordersT, Px.limT]
      clear hr0
      go_enter Tryz.func71, Tryz.ntmps71
      go_wp2_with fail
      refine (d_put1g B _ _ l (Px.kwT Px.kSELECT) (by simp) HP0.out (pt0_kw _ (by decide) (by decide))).mono ?_
      rintro x w1 ho
      obtain ⟨k1, ⟨rfl, hb⟩ | ⟨rfl, hp1⟩⟩ := ho.cases
      · exact ⟨rfl, tooLong (HK0.out.trans k1) hb (by simp [List.append_assoc, HF.out] <;> rfl)⟩
      have HP1 := hd hp1
      have HK1 := hd (HK0.out.trans k1)
      have HE1 := hd (HE0.out.low k1.1 hB)
      have HB1 := hd (k1.blk HB0.out (by omega) (by decide))
      have c0_1 := HB1.out.cell 0
      simp at c0_1
      have hl1 := HB1.out.lt
      clear hp1 k1 ho
      go_wp2_with fail
      refine (d_listItem_any B hB base _ i hi w1 _ HP1.out HE1.out (HK1.out.own HO.out (by decide) HNE.out) HNE.out hin).mono ?_
      rintro x w2 ho
      obtain ⟨k2, ⟨rfl, hb⟩ | ⟨rfl, hp2⟩⟩ := ho.cases
      · exact ⟨rfl, tooLong (HK1.out.trans k2) hb (by simp [List.append_assoc, HF.out] <;> rfl)⟩
      have HP2 := hd hp2
      have HK2 := hd (HK1.out.trans k2)
      have HE2 := hd (HE1.out.low k2.1 hB)
      have HB2 := hd (k2.blk HB1.out (by omega) (by decide))
      have hl2 := HB2.out.lt
      clear hp2 k2 ho
      go_wp2_with fail
      refine (d_put1 B w2 _ (Px.kwT Px.kFROM) HP2.out (pt0_kw _ (by decide) (by decide))).mono ?_
      rintro x w3 ho
      obtain ⟨k3, ⟨rfl, hb⟩ | ⟨rfl, hp3⟩⟩ := ho.cases
      · exact ⟨rfl, tooLong (HK2.out.trans k3) hb (by simp [List.append_assoc, HF.out] <;> rfl)⟩
      have HP3 := hd hp3
      have HK3 := hd (HK2.out.trans k3)
      have HE3 := hd (HE2.out.low k3.1 hB)
      have HB3 := hd (k3.blk HB2.out (by omega) (by decide))
      have c1_3 := HB3.out.cell 1
      simp at c1_3
      have hl3 := HB3.out.lt
      clear hp3 k3 ho
      go_wp2_with fail
      refine (d_putName_any B w3 _ t HP3.out HE3.out ht).mono ?_
      rintro x w4 ho
      obtain ⟨k4, ⟨rfl, hb⟩ | ⟨rfl, hp4⟩⟩ := ho.cases
      · exact ⟨rfl, tooLong (HK3.out.trans k4) hb (by simp [List.append_assoc, HF.out] <;> rfl)⟩
      have HP4 := hd hp4
      have HK4 := hd (HK3.out.trans k4)
      have HE4 := hd (HE3.out.low k4.1 hB)
      have HB4 := hd (k4.blk HB3.out (by omega) (by decide))
      have c2_4 := HB4.out.cell 2
      simp at c2_4
      have hl4 := HB4.out.lt
      clear hp4 k4 ho
      go_wp2_with fail
      refine (HWH.out w4 _ HP4.out HE4.out).mono ?_
      rintro x w5 ho
      obtain ⟨k5, ⟨rfl, hb⟩ | ⟨rfl, hp5⟩⟩ := ho.cases
      · exact ⟨rfl, tooLong (HK4.out.trans k5) hb (by simp [List.append_assoc, HF.out] <;> rfl)⟩
      have HP5 := hd hp5
      have HK5 := hd (HK4.out.trans k5)
      have HE5 := hd (HE4.out.low k5.1 hB)
      have HB5 := hd (k5.blk HB4.out (by omega) (by decide))
      have c3_5 := HB5.out.cell 3
      simp at c3_5
      have c4_5 := HB5.out.cell 4
      simp at c4_5
      have c5_5 := HB5.out.cell 5
      simp at c5_5
      have hl5 := HB5.out.lt
      clear hp5 k5 ho
      go_wp2_with fail
      refine (Tryz.strconv_Itoa (n : Int) (by omega) (by omega) w5 HE5.out.tab).mono ?_
      rintro x wi ⟨rfl, kk, os, hw⟩
      have hbi : Below w5.heap.size w5 wi := by rw [hw]; exact Lib.below_grow _ _ (Nat.le_refl _) kk os
      have HP9 := hd (HP5.out.below hbi)
      have HK9 := hd (HK5.out.more hbi (by have := HP5.out.lt; omega))
      have HE9 := hd (HE5.out.below hbi)
      rw [itoa_pos n (by omega)]
      clear hw hbi
      go_wp2_with fail
      refine (d_put2 B wi _ (Px.kwT Px.kLIMIT) (Px.dgT n) HP9.out (pt0_kw _ (by decide) (by decide)) (dgT_small n (by omega))).mono ?_
      rintro x w10 ho
      obtain ⟨k10, ⟨rfl, hb⟩ | ⟨rfl, hp10⟩⟩ := ho.cases
      · exact ⟨rfl, tooLong (HK9.out.trans k10) hb (by simp [List.append_assoc, HF.out] <;> rfl)⟩
      have HP10 := hd hp10
      have HK10 := hd (HK9.out.trans k10)
      have HE10 := hd (HE9.out.low k10.1 hB)
      clear hp10 k10 ho
      go_wp2_with fail
      go_end0
      exact POut.ok HK10.out (by have := HP10.out; simpa [List.append_assoc, HF.out] using this)
    · have hvn : (0 : Int) < (vn : Int) := by have := List.length_pos_iff.2 hr0; have := HVN.out; omega
      have HF : Hid ((Px.St.select i t o r (some n)).pt = Px.kwT Px.kSELECT :: (Px.sepT (i.map Px.itemT) ++ Px.kwT Px.kFROM :: Px.nmT t :: (Px.whereT o ++ (Px.kwT Px.kORDER :: Px.kwT Px.kBY :: (Px.sepT (r.map Px.orderT) ++ [Px.kwT Px.kLIMIT, Px.dgT n]))))) := by
       show _ = _
       rw [HF0.out]
       cases r with
       | nil => exact absurd rfl hr0
       | cons a r => simp [Px.ordersT, Px.limT]
      clear hr0
      go_enter Tryz.func71, Tryz.ntmps71
      go_wp2_with fail
      refine (d_put1g B _ _ l (Px.kwT Px.kSELECT) (by simp) HP0.out (pt0_kw _ (by decide) (by decide))).mono ?_
      rintro x w1 ho
      obtain ⟨k1, ⟨rfl, hb⟩ | ⟨rfl, hp1⟩⟩ := ho.cases
      · exact ⟨rfl, tooLong (HK0.out.trans k1) hb (by simp [List.append_assoc, HF.out] <;> rfl)⟩
      have HP1 := hd hp1
      have HK1 := hd (HK0.out.trans k1)
      have HE1 := hd (HE0.out.low k1.1 hB)
      have HB1 := hd (k1.blk HB0.out (by omega) (by decide))
      have c0_1 := HB1.out.cell 0
      simp at c0_1
      have hl1 := HB1.out.lt
      clear hp1 k1 ho
      go_wp2_with fail
      refine (d_listItem_any B hB base _ i hi w1 _ HP1.out HE1.out (HK1.out.own HO.out (by decide) HNE.out) HNE.out hin).mono ?_
      rintro x w2 ho
      obtain ⟨k2, ⟨rfl, hb⟩ | ⟨rfl, hp2⟩⟩ := ho.cases
      · exact ⟨rfl, tooLong (HK1.out.trans k2) hb (by simp [List.append_assoc, HF.out] <;> rfl)⟩
      have HP2 := hd hp2
      have HK2 := hd (HK1.out.trans k2)
      have HE2 := hd (HE1.out.low k2.1 hB)
      have HB2 := hd (k2.blk HB1.out (by omega) (by decide))
      have hl2 := HB2.out.lt
      clear hp2 k2 ho
      go_wp2_with fail
      refine (d_put1 B w2 _ (Px.kwT Px.kFROM) HP2.out (pt0_kw _ (by decide) (by decide))).mono ?_
      rintro x w3 ho
      obtain ⟨k3, ⟨rfl, hb⟩ | ⟨rfl, hp3⟩⟩ := ho.cases
      · exact ⟨rfl, tooLong (HK2.out.trans k3) hb (by simp [List.append_assoc, HF.out] <;> rfl)⟩
      have HP3 := hd hp3
      have HK3 := hd (HK2.out.trans k3)
      have HE3 := hd (HE2.out.low k3.1 hB)
      have HB3 := hd (k3.blk HB2.out (by omega) (by decide))
      have c1_3 := HB3.out.cell 1
      simp at c1_3
      have hl3 := HB3.out.lt
      clear hp3 k3 ho
      go_wp2_with fail
      refine (d_putName_any B w3 _ t HP3.out HE3.out ht).mono ?_
      rintro x w4 ho
      obtain ⟨k4, ⟨rfl, hb⟩ | ⟨rfl, hp4⟩⟩ := ho.cases
      · exact ⟨rfl, tooLong (HK3.out.trans k4) hb (by simp [List.append_assoc, HF.out] <;> rfl)⟩
      have HP4 := hd hp4
      have HK4 := hd (HK3.out.trans k4)
      have HE4 := hd (HE3.out.low k4.1 hB)
      have HB4 := hd (k4.blk HB3.out (by omega) (by decide))
      have c2_4 := HB4.out.cell 2
      simp at c2_4
      have hl4 := HB4.out.lt
      clear hp4 k4 ho
      go_wp2_with fail
      refine (HWH.out w4 _ HP4.out HE4.out).mono ?_
      rintro x w5 ho
      obtain ⟨k5, ⟨rfl, hb⟩ | ⟨rfl, hp5⟩⟩ := ho.cases
      · exact ⟨rfl, tooLong (HK4.out.trans k5) hb (by simp [List.append_assoc, HF.out] <;> rfl)⟩
      have HP5 := hd hp5
      have HK5 := hd (HK4.out.trans k5)
      have HE5 := hd (HE4.out.low k5.1 hB)
      have HB5 := hd (k5.blk HB4.out (by omega) (by decide))
      have c3_5 := HB5.out.cell 3
      simp at c3_5
      have hl5 := HB5.out.lt
      clear hp5 k5 ho
      go_wp2_with fail
      refine (d_put2 B w5 _ (Px.kwT Px.kORDER) (Px.kwT Px.kBY) HP5.out (pt0_kw _ (by decide) (by decide)) (pt0_kw _ (by decide) (by decide))).mono ?_
      rintro x w6 ho
      obtain ⟨k6, ⟨rfl, hb⟩ | ⟨rfl, hp6⟩⟩ := ho.cases
      · exact ⟨rfl, tooLong (HK5.out.trans k6) hb (by simp [List.append_assoc, HF.out] <;> rfl)⟩
      have HP6 := hd hp6
      have HK6 := hd (HK5.out.trans k6)
      have HE6 := hd (HE5.out.low k6.1 hB)
      have HB6 := hd (k6.blk HB5.out (by omega) (by decide))
      have c3_6 := HB6.out.cell 3
      simp at c3_6
      have hl6 := HB6.out.lt
      clear hp6 k6 ho
      go_wp2_with fail
      refine (d_listOrder_any B hB base _ r hr w6 _ HP6.out HE6.out (HK6.out.own HO2.out (by decide) HNE2.out) HNE2.out hrn).mono ?_
      rintro x w7 ho
      obtain ⟨k7, ⟨rfl, hb⟩ | ⟨rfl, hp7⟩⟩ := ho.cases
      · exact ⟨rfl, tooLong (HK6.out.trans k7) hb (by simp [List.append_assoc, HF.out] <;> rfl)⟩
      have HP7 := hd hp7
      have HK7 := hd (HK6.out.trans k7)
      have HE7 := hd (HE6.out.low k7.1 hB)
      have HB7 := hd (k7.blk HB6.out (by omega) (by decide))
      have c4_7 := HB7.out.cell 4
      simp at c4_7
      have c5_7 := HB7.out.cell 5
      simp at c5_7
      have hl7 := HB7.out.lt
      clear hp7 k7 ho
      go_wp2_with fail
      refine (Tryz.strconv_Itoa (n : Int) (by omega) (by omega) w7 HE7.out.tab).mono ?_
      rintro x wi ⟨rfl, kk, os, hw⟩
      have hbi : Below w7.heap.size w7 wi := by rw [hw]; exact Lib.below_grow _ _ (Nat.le_refl _) kk os
      have HP9 := hd (HP7.out.below hbi)
      have HK9 := hd (HK7.out.more hbi (by have := HP7.out.lt; omega))
      have HE9 := hd (HE7.out.below hbi)
      rw [itoa_pos n (by omega)]
      clear hw hbi
      go_wp2_with fail
      refine (d_put2 B wi _ (Px.kwT Px.kLIMIT) (Px.dgT n) HP9.out (pt0_kw _ (by decide) (by decide)) (dgT_small n (by omega))).mono ?_
      rintro x w10 ho
      obtain ⟨k10, ⟨rfl, hb⟩ | ⟨rfl, hp10⟩⟩ := ho.cases
      · exact ⟨rfl, tooLong (HK9.out.trans k10) hb (by simp [List.append_assoc, HF.out] <;> rfl)⟩
      have HP10 := hd hp10
      have HK10 := hd (HK9.out.trans k10)
      have HE10 := hd (HE9.out.low k10.1 hB)
      clear hp10 k10 ho
      go_wp2_with fail
      go_end0
      exact POut.ok HK10.out (by have := HP10.out; simpa [List.append_assoc, HF.out] using this)
 · cases lm with
   | none =>
    show Calls _ _ #[_, .agg #[_, _, _, _, .bool false, .int .i64 0]] _ _
    have hbx : Below w.heap.size w (w.alloc (.cells #[.slice ua un uc, .string ⟨t.toArray⟩, .iface et ex, .slice va vn vc, .bool false, .int .i64 0] 109)) := (Below.refl _ _).alloc (Nat.le_refl _) _
    have HP0 := hd (h.below hbx)
    have HE0 := hd (he.below hbx)
    have HK0 := hd (Kq.below (B := B) hbx (by omega))
    have HB0 := hd (Blk.new w #[.slice ua un uc, .string ⟨t.toArray⟩, .iface et ex, .slice va vn vc, .bool false, .int .i64 0] 109)
    clear h he hbx
    by_cases hr0 : r = []
    · have hvn : vn = 0 := by rw [HVN.out, hr0]; rfl
      subst hvn
      have HF : Hid ((Px.St.select i t o r none).pt = Px.kwT Px.kSELECT :: (Px.sepT (i.map Px.itemT) ++ Px.kwT Px.kFROM :: Px.nmT t :: (Px.whereT o ++ []))) := by show _ = _; rw [HF0.out, hr0]; simp [Px.ordersT, Px.limT]
      clear hr0
      go_enter Tryz.func71, Tryz.ntmps71
      go_wp2_with fail
      refine (d_put1g B _ _ l (Px.kwT Px.kSELECT) (by simp) HP0.out (pt0_kw _ (by decide) (by decide))).mono ?_
      rintro x w1 ho
      obtain ⟨k1, ⟨rfl, hb⟩ | ⟨rfl, hp1⟩⟩ := ho.cases
      · exact ⟨rfl, tooLong (HK0.out.trans k1) hb (by simp [List.append_assoc, HF.out] <;> rfl)⟩
      have HP1 := hd hp1
      have HK1 := hd (HK0.out.trans k1)
      have HE1 := hd (HE0.out.low k1.1 hB)
      have HB1 := hd (k1.blk HB0.out (by omega) (by decide))
      have c0_1 := HB1.out.cell 0
      simp at c0_1
      have hl1 := HB1.out.lt
      clear hp1 k1 ho
      go_wp2_with fail
      refine (d_listItem_any B hB base _ i hi w1 _ HP1.out HE1.out (HK1.out.own HO.out (by decide) HNE.out) HNE.out hin).mono ?_
      rintro x w2 ho
      obtain ⟨k2, ⟨rfl, hb⟩ | ⟨rfl, hp2⟩⟩ := ho.cases
      · exact ⟨rfl, tooLong (HK1.out.trans k2) hb (by simp [List.append_assoc, HF.out] <;> rfl)⟩
      have HP2 := hd hp2
      have HK2 := hd (HK1.out.trans k2)
      have HE2 := hd (HE1.out.low k2.1 hB)
      have HB2 := hd (k2.blk HB1.out (by omega) (by decide))
      have hl2 := HB2.out.lt
      clear hp2 k2 ho
      go_wp2_with fail
      refine (d_put1 B w2 _ (Px.kwT Px.kFROM) HP2.out (pt0_kw _ (by decide) (by decide))).mono ?_
      rintro x w3 ho
      obtain ⟨k3, ⟨rfl, hb⟩ | ⟨rfl, hp3⟩⟩ := ho.cases
      · exact ⟨rfl, tooLong (HK2.out.trans k3) hb (by simp [List.append_assoc, HF.out] <;> rfl)⟩
      have HP3 := hd hp3
      have HK3 := hd (HK2.out.trans k3)
      have HE3 := hd (HE2.out.low k3.1 hB)
      have HB3 := hd (k3.blk HB2.out (by omega) (by decide))
      have c1_3 := HB3.out.cell 1
      simp at c1_3
      have hl3 := HB3.out.lt
      clear hp3 k3 ho
      go_wp2_with fail
      refine (d_putName_any B w3 _ t HP3.out HE3.out ht).mono ?_
      rintro x w4 ho
      obtain ⟨k4, ⟨rfl, hb⟩ | ⟨rfl, hp4⟩⟩ := ho.cases
      · exact ⟨rfl, tooLong (HK3.out.trans k4) hb (by simp [List.append_assoc, HF.out] <;> rfl)⟩
      have HP4 := hd hp4
      have HK4 := hd (HK3.out.trans k4)
      have HE4 := hd (HE3.out.low k4.1 hB)
      have HB4 := hd (k4.blk HB3.out (by omega) (by decide))
      have c2_4 := HB4.out.cell 2
      simp at c2_4
      have hl4 := HB4.out.lt
      clear hp4 k4 ho
      go_wp2_with fail
      refine (HWH.out w4 _ HP4.out HE4.out).mono ?_
      rintro x w5 ho
      obtain ⟨k5, ⟨rfl, hb⟩ | ⟨rfl, hp5⟩⟩ := ho.cases
      · exact ⟨rfl, tooLong (HK4.out.trans k5) hb (by simp [List.append_assoc, HF.out] <;> rfl)⟩
      have HP5 := hd hp5
      have HK5 := hd (HK4.out.trans k5)
      have HE5 := hd (HE4.out.low k5.1 hB)
      have HB5 := hd (k5.blk HB4.out (by omega) (by decide))
      have c3_5 := HB5.out.cell 3
      simp at c3_5
      have c4_5 := HB5.out.cell 4
      simp at c4_5
      have c5_5 := HB5.out.cell 5
      simp at c5_5
      have hl5 := HB5.out.lt
      clear hp5 k5 ho
      go_wp2_with fail
      go_end0
      exact POut.ok HK5.out (by have := HP5.out; simpa [List.append_assoc, HF.out] using this)
    · have hvn : (0 : Int) < (vn : Int) := by have := List.length_pos_iff.2 hr0; have := HVN.out; omega
      have HF : Hid ((Px.St.select i t o r none).pt = Px.kwT Px.kSELECT :: (Px.sepT (i.map Px.itemT) ++ Px.kwT Px.kFROM :: Px.nmT t :: (Px.whereT o ++ (Px.kwT Px.kORDER :: Px.kwT Px.kBY :: (Px.sepT (r.map Px.orderT) ++ []))))) := by
       show _ = _
       rw [HF0.out]
       cases r with
       | nil => exact absurd rfl hr0
       | cons a r => simp [Px.ordersT, Px.limT]
      clear hr0
      go_enter Tryz.func71, Tryz.ntmps71
      go_wp2_with fail
      refine (d_put1g B _ _ l (Px.kwT Px.kSELECT) (by simp) HP0.out (pt0_kw _ (by decide) (by decide))).mono ?_
      rintro x w1 ho
      obtain ⟨k1, ⟨rfl, hb⟩ | ⟨rfl, hp1⟩⟩ := ho.cases
      · exact ⟨rfl, tooLong (HK0.out.trans k1) hb (by simp [List.append_assoc, HF.out] <;> rfl)⟩
      have HP1 := hd hp1
      have HK1 := hd (HK0.out.trans k1)
      have HE1 := hd (HE0.out.low k1.1 hB)
      have HB1 := hd (k1.blk HB0.out (by omega) (by decide))
      have c0_1 := HB1.out.cell 0
      simp at c0_1
      have hl1 := HB1.out.lt
      clear hp1 k1 ho
      go_wp2_with fail
      refine (d_listItem_any B hB base _ i hi w1 _ HP1.out HE1.out (HK1.out.own HO.out (by decide) HNE.out) HNE.out hin).mono ?_
      rintro x w2 ho
      obtain ⟨k2, ⟨rfl, hb⟩ | ⟨rfl, hp2⟩⟩ := ho.cases
      · exact ⟨rfl, tooLong (HK1.out.trans k2) hb (by simp [List.append_assoc, HF.out] <;> rfl)⟩
      have HP2 := hd hp2
      have HK2 := hd (HK1.out.trans k2)
      have HE2 := hd (HE1.out.low k2.1 hB)
      have HB2 := hd (k2.blk HB1.out (by omega) (by decide))
      have hl2 := HB2.out.lt
      clear hp2 k2 ho
      go_wp2_with fail
      refine (d_put1 B w2 _ (Px.kwT Px.kFROM) HP2.out (pt0_kw _ (by decide) (by decide))).mono ?_
      rintro x w3 ho
      obtain ⟨k3, ⟨rfl, hb⟩ | ⟨rfl, hp3⟩⟩ := ho.cases
      · exact ⟨rfl, tooLong (HK2.out.trans k3) hb (by simp [List.append_assoc, HF.out] <;> rfl)⟩
      have HP3 := hd hp3
      have HK3 := hd (HK2.out.trans k3)
      have HE3 := hd (HE2.out.low k3.1 hB)
      have HB3 := hd (k3.blk HB2.out (by omega) (by decide))
      have c1_3 := HB3.out.cell 1
      simp at c1_3
      have hl3 := HB3.out.lt
      clear hp3 k3 ho
      go_wp2_with fail
      refine (d_putName_any B w3 _ t HP3.out HE3.out ht).mono ?_
      rintro x w4 ho
      obtain ⟨k4, ⟨rfl, hb⟩ | ⟨rfl, hp4⟩⟩ := ho.cases
      · exact ⟨rfl, tooLong (HK3.out.trans k4) hb (by simp [List.append_assoc, HF.out] <;> rfl)⟩
      have HP4 := hd hp4
      have HK4 := hd (HK3.out.trans k4)
      have HE4 := hd (HE3.out.low k4.1 hB)
      have HB4 := hd (k4.blk HB3.out (by omega) (by decide))
      have c2_4 := HB4.out.cell 2
      simp at c2_4
      have hl4 := HB4.out.lt
      clear hp4 k4 ho
      go_wp2_with fail
      refine (HWH.out w4 _ HP4.out HE4.out).mono ?_
      rintro x w5 ho
      obtain ⟨k5, ⟨rfl, hb⟩ | ⟨rfl, hp5⟩⟩ := ho.cases
      · exact ⟨rfl, tooLong (HK4.out.trans k5) hb (by simp [List.append_assoc, HF.out] <;> rfl)⟩
      have HP5 := hd hp5
      have HK5 := hd (HK4.out.trans k5)
      have HE5 := hd (HE4.out.low k5.1 hB)
      have HB5 := hd (k5.blk HB4.out (by omega) (by decide))
      have c3_5 := HB5.out.cell 3
      simp at c3_5
      have hl5 := HB5.out.lt
      clear hp5 k5 ho
      go_wp2_with fail
      refine (d_put2 B w5 _ (Px.kwT Px.kORDER) (Px.kwT Px.kBY) HP5.out (pt0_kw _ (by decide) (by decide)) (pt0_kw _ (by decide) (by decide))).mono ?_
      rintro x w6 ho
      obtain ⟨k6, ⟨rfl, hb⟩ | ⟨rfl, hp6⟩⟩ := ho.cases
      · exact ⟨rfl, tooLong (HK5.out.trans k6) hb (by simp [List.append_assoc, HF.out] <;> rfl)⟩
      have HP6 := hd hp6
      have HK6 := hd (HK5.out.trans k6)
      have HE6 := hd (HE5.out.low k6.1 hB)
      have HB6 := hd (k6.blk HB5.out (by omega) (by decide))
      have c3_6 := HB6.out.cell 3
      simp at c3_6
      have hl6 := HB6.out.lt
      clear hp6 k6 ho
      go_wp2_with fail
      refine (d_listOrder_any B hB base _ r hr w6 _ HP6.out HE6.out (HK6.out.own HO2.out (by decide) HNE2.out) HNE2.out hrn).mono ?_
      rintro x w7 ho
      obtain ⟨k7, ⟨rfl, hb⟩ | ⟨rfl, hp7⟩⟩ := ho.cases
      · exact ⟨rfl, tooLong (HK6.out.trans k7) hb (by simp [List.append_assoc, HF.out] <;> rfl)⟩
      have HP7 := hd hp7
      have HK7 := hd (HK6.out.trans k7)
      have HE7 := hd (HE6.out.low k7.1 hB)
      have HB7 := hd (k7.blk HB6.out (by omega) (by decide))
      have c4_7 := HB7.out.cell 4
      simp at c4_7
      have c5_7 := HB7.out.cell 5
      simp at c5_7
      have hl7 := HB7.out.lt
      clear hp7 k7 ho
      go_wp2_with fail
      go_end0
      exact POut.ok HK7.out (by have := HP7.out; simpa [List.append_assoc, HF.out] using this)
   | some n =>
    show Calls _ _ #[_, .agg #[_, _, _, _, .bool true, .int .i64 (n : Int)]] _ _
    have hn9 := HLM.out n rfl
    have hbx : Below w.heap.size w (w.alloc (.cells #[.slice ua un uc, .string ⟨t.toArray⟩, .iface et ex, .slice va vn vc, .bool true, .int .i64 (n : Int)] 109)) := (Below.refl _ _).alloc (Nat.le_refl _) _
    have HP0 := hd (h.below hbx)
    have HE0 := hd (he.below hbx)
    have HK0 := hd (Kq.below (B := B) hbx (by omega))
    have HB0 := hd (Blk.new w #[.slice ua un uc, .string ⟨t.toArray⟩, .iface et ex, .slice va vn vc, .bool true, .int .i64 (n : Int)] 109)
    clear h he hbx
    by_cases hr0 : r = []
    · have hvn : vn = 0 := by rw [HVN.out, hr0]; rfl
      subst hvn
      have HF : Hid ((Px.St.select i t o r (some n)).pt = Px.kwT Px.kSELECT :: (Px.sepT (i.map Px.itemT) ++ Px.kwT Px.kFROM :: Px.nmT t :: (Px.whereT o ++ [Px.kwT Px.kLIMIT, Px.dgT n]))) := by show _ = _; rw [HF0.out, hr0]; simp [Px.ordersT, Px.limT]
      clear hr0
      go_enter Tryz.func71, Tryz.ntmps71
      go_wp2_with fail
      refine (d_put1g B _ _ l (Px.kwT Px.kSELECT) (by simp) HP0.out (pt0_kw _ (by decide) (by decide))).mono ?_
      rintro x w1 ho
      obtain ⟨k1, ⟨rfl, hb⟩ | ⟨rfl, hp1⟩⟩ := ho.cases
      · exact ⟨rfl, tooLong (HK0.out.trans k1) hb (by simp [List.append_assoc, HF.out] <;> rfl)⟩
      have HP1 := hd hp1
      have HK1 := hd (HK0.out.trans k1)
      have HE1 := hd (HE0.out.low k1.1 hB)
      have HB1 := hd (k1.blk HB0.out (by omega) (by decide))
      have c0_1 := HB1.out.cell 0
      simp at c0_1
      have hl1 := HB1.out.lt
      clear hp1 k1 ho
      go_wp2_with fail
      refine (d_listItem_any B hB base _ i hi w1 _ HP1.out HE1.out (HK1.out.own HO.out (by decide) HNE.out) HNE.out hin).mono ?_
      rintro x w2 ho
      obtain ⟨k2, ⟨rfl, hb⟩ | ⟨rfl, hp2⟩⟩ := ho.cases
      · exact ⟨rfl, tooLong (HK1.out.trans k2) hb (by simp [List.append_assoc, HF.out] <;> rfl)⟩
      have HP2 := hd hp2
      have HK2 := hd (HK1.out.trans k2)
      have HE2 := hd (HE1.out.low k2.1 hB)
      have HB2 := hd (k2.blk HB1.out (by omega) (by decide))
      have hl2 := HB2.out.lt
      clear hp2 k2 ho
      go_wp2_with fail
      refine (d_put1 B w2 _ (Px.kwT Px.kFROM) HP2.out (pt0_kw _ (by decide) (by decide))).mono ?_
      rintro x w3 ho
      obtain ⟨k3, ⟨rfl, hb⟩ | ⟨rfl, hp3⟩⟩ := ho.cases
      · exact ⟨rfl, tooLong (HK2.out.trans k3) hb (by simp [List.append_assoc, HF.out] <;> rfl)⟩
      have HP3 := hd hp3
      have HK3 := hd (HK2.out.trans k3)
      have HE3 := hd (HE2.out.low k3.1 hB)
      have HB3 := hd (k3.blk HB2.out (by omega) (by decide))
      have c1_3 := HB3.out.cell 1
      simp at c1_3
      have hl3 := HB3.out.lt
      clear hp3 k3 ho
      go_wp2_with fail
      refine (d_putName_any B w3 _ t HP3.out HE3.out ht).mono ?_
      rintro x w4 ho
      obtain ⟨k4, ⟨rfl, hb⟩ | ⟨rfl, hp4⟩⟩ := ho.cases
      · exact ⟨rfl, tooLong (HK3.out.trans k4) hb (by simp [List.append_assoc, HF.out] <;> rfl)⟩
      have HP4 := hd hp4
      have HK4 := hd (HK3.out.trans k4)
      have HE4 := hd (HE3.out.low k4.1 hB)
      have HB4 := hd (k4.blk HB3.out (by omega) (by decide))
      have c2_4 := HB4.out.cell 2
      simp at c2_4
      have hl4 := HB4.out.lt
      clear hp4 k4 ho
      go_wp2_with fail
      refine (HWH.out w4 _ HP4.out HE4.out).mono ?_
      rintro x w5 ho
      obtain ⟨k5, ⟨rfl, hb⟩ | ⟨rfl, hp5⟩⟩ := ho.cases
      · exact ⟨rfl, tooLong (HK4.out.trans k5) hb (by simp [List.append_assoc, HF.out] <;> rfl)⟩
      have HP5 := hd hp5
      have HK5 := hd (HK4.out.trans k5)
      have HE5 := hd (HE4.out.low k5.1 hB)
      have HB5 := hd (k5.blk HB4.out (by omega) (by decide))
      have c3_5 := HB5.out.cell 3
      simp at c3_5
      have c4_5 := HB5.out.cell 4
      simp at c4_5
      have c5_5 := HB5.out.cell 5
      simp at c5_5
      have hl5 := HB5.out.lt
      clear hp5 k5 ho
      go_wp2_with fail
      refine (Tryz.strconv_Itoa (n : Int) (by omega) (by omega) w5 HE5.out.tab).mono ?_
      rintro x wi ⟨rfl, kk, os, hw⟩
      have hbi : Below w5.heap.size w5 wi := by rw [hw]; exact Lib.below_grow _ _ (Nat.le_refl _) kk os
      have HP9 := hd (HP5.out.below hbi)
      have HK9 := hd (HK5.out.more hbi (by have := HP5.out.lt; omega))
      have HE9 := hd (HE5.out.below hbi)
      rw [itoa_pos n (by omega)]
      clear hw hbi
      go_wp2_with fail
      refine (d_put2 B wi _ (Px.kwT Px.kLIMIT) (Px.dgT n) HP9.out (pt0_kw _ (by decide) (by decide)) (dgT_small n (by omega))).mono ?_
      rintro x w10 ho
      obtain ⟨k10, ⟨rfl, hb⟩ | ⟨rfl, hp10⟩⟩ := ho.cases
      · exact ⟨rfl, tooLong (HK9.out.trans k10) hb (by simp [List.append_assoc, HF.out] <;> rfl)⟩
      have HP10 := hd hp10
      have HK10 := hd (HK9.out.trans k10)
      have HE10 := hd (HE9.out.low k10.1 hB)
      clear hp10 k10 ho
      go_wp2_with fail
      go_end0
      exact POut.ok HK10.out (by have := HP10.out; simpa [List.append_assoc, HF.out] using this)
    · have hvn : (0 : Int) < (vn : Int) := by have := List.length_pos_iff.2 hr0; have := HVN.out; omega
      have HF : Hid ((Px.St.select i t o r (some n)).pt = Px.kwT Px.kSELECT :: (Px.sepT (i.map Px.itemT) ++ Px.kwT Px.kFROM :: Px.nmT t :: (Px.whereT o ++ (Px.kwT Px.kORDER :: Px.kwT Px.kBY :: (Px.sepT (r.map Px.orderT) ++ [Px.kwT Px.kLIMIT, Px.dgT n]))))) := by
       show _ = _
       rw [HF0.out]
       cases r with
       | nil => exact absurd rfl hr0
       | cons a r => simp [Px.ordersT, Px.limT]
      clear hr0
      go_enter Tryz.func71, Tryz.ntmps71
      go_wp2_with fail
      refine (d_put1g B _ _ l (Px.kwT Px.kSELECT) (by simp) HP0.out (pt0_kw _ (by decide) (by decide))).mono ?_
      rintro x w1 ho
      obtain ⟨k1, ⟨rfl, hb⟩ | ⟨rfl, hp1⟩⟩ := ho.cases
      · exact ⟨rfl, tooLong (HK0.out.trans k1) hb (by simp [List.append_assoc, HF.out] <;> rfl)⟩
      have HP1 := hd hp1
      have HK1 := hd (HK0.out.trans k1)
      have HE1 := hd (HE0.out.low k1.1 hB)
      have HB1 := hd (k1.blk HB0.out (by omega) (by decide))
      have c0_1 := HB1.out.cell 0
      simp at c0_1
      have hl1 := HB1.out.lt
      clear hp1 k1 ho
      go_wp2_with fail
      refine (d_listItem_any B hB base _ i hi w1 _ HP1.out HE1.out (HK1.out.own HO.out (by decide) HNE.out) HNE.out hin).mono ?_
      rintro x w2 ho
      obtain ⟨k2, ⟨rfl, hb⟩ | ⟨rfl, hp2⟩⟩ := ho.cases
      · exact ⟨rfl, tooLong (HK1.out.trans k2) hb (by simp [List.append_assoc, HF.out] <;> rfl)⟩
      have HP2 := hd hp2
      have HK2 := hd (HK1.out.trans k2)
      have HE2 := hd (HE1.out.low k2.1 hB)
      have HB2 := hd (k2.blk HB1.out (by omega) (by decide))
      have hl2 := HB2.out.lt
      clear hp2 k2 ho
      go_wp2_with fail
      refine (d_put1 B w2 _ (Px.kwT Px.kFROM) HP2.out (pt0_kw _ (by decide) (by decide))).mono ?_
      rintro x w3 ho
      obtain ⟨k3, ⟨rfl, hb⟩ | ⟨rfl, hp3⟩⟩ := ho.cases
      · exact ⟨rfl, tooLong (HK2.out.trans k3) hb (by simp [List.append_assoc, HF.out] <;> rfl)⟩
      have HP3 := hd hp3
      have HK3 := hd (HK2.out.trans k3)
      have HE3 := hd (HE2.out.low k3.1 hB)
      have HB3 := hd (k3.blk HB2.out (by omega) (by decide))
      have c1_3 := HB3.out.cell 1
      simp at c1_3
      have hl3 := HB3.out.lt
      clear hp3 k3 ho
      go_wp2_with fail
      refine (d_putName_any B w3 _ t HP3.out HE3.out ht).mono ?_
      rintro x w4 ho
      obtain ⟨k4, ⟨rfl, hb⟩ | ⟨rfl, hp4⟩⟩ := ho.cases
      · exact ⟨rfl, tooLong (HK3.out.trans k4) hb (by simp [List.append_assoc, HF.out] <;> rfl)⟩
      have HP4 := hd hp4
      have HK4 := hd (HK3.out.trans k4)
      have HE4 := hd (HE3.out.low k4.1 hB)
      have HB4 := hd (k4.blk HB3.out (by omega) (by decide))
      have c2_4 := HB4.out.cell 2
      simp at c2_4
      have hl4 := HB4.out.lt
      clear hp4 k4 ho
      go_wp2_with fail
      refine (HWH.out w4 _ HP4.out HE4.out).mono ?_
      rintro x w5 ho
      obtain ⟨k5, ⟨rfl, hb⟩ | ⟨rfl, hp5⟩⟩ := ho.cases
      · exact ⟨rfl, tooLong (HK4.out.trans k5) hb (by simp [List.append_assoc, HF.out] <;> rfl)⟩
      have HP5 := hd hp5
      have HK5 := hd (HK4.out.trans k5)
      have HE5 := hd (HE4.out.low k5.1 hB)
      have HB5 := hd (k5.blk HB4.out (by omega) (by decide))
      have c3_5 := HB5.out.cell 3
      simp at c3_5
      have hl5 := HB5.out.lt
      clear hp5 k5 ho
      go_wp2_with fail
      refine (d_put2 B w5 _ (Px.kwT Px.kORDER) (Px.kwT Px.kBY) HP5.out (pt0_kw _ (by decide) (by decide)) (pt0_kw _ (by decide) (by decide))).mono ?_
      rintro x w6 ho
      obtain ⟨k6, ⟨rfl, hb⟩ | ⟨rfl, hp6⟩⟩ := ho.cases
      · exact ⟨rfl, tooLong (HK5.out.trans k6) hb (by simp [List.append_assoc, HF.out] <;> rfl)⟩
      have HP6 := hd hp6
      have HK6 := hd (HK5.out.trans k6)
      have HE6 := hd (HE5.out.low k6.1 hB)
      have HB6 := hd (k6.blk HB5.out (by omega) (by decide))
      have c3_6 := HB6.out.cell 3
      simp at c3_6
      have hl6 := HB6.out.lt
      clear hp6 k6 ho
      go_wp2_with fail
      refine (d_listOrder_any B hB base _ r hr w6 _ HP6.out HE6.out (HK6.out.own HO2.out (by decide) HNE2.out) HNE2.out hrn).mono ?_
      rintro x w7 ho
      obtain ⟨k7, ⟨rfl, hb⟩ | ⟨rfl, hp7⟩⟩ := ho.cases
      · exact ⟨rfl, tooLong (HK6.out.trans k7) hb (by simp [List.append_assoc, HF.out] <;> rfl)⟩
      have HP7 := hd hp7
      have HK7 := hd (HK6.out.trans k7)
      have HE7 := hd (HE6.out.low k7.1 hB)
      have HB7 := hd (k7.blk HB6.out (by omega) (by decide))
      have c4_7 := HB7.out.cell 4
      simp at c4_7
      have c5_7 := HB7.out.cell 5
      simp at c5_7
      have hl7 := HB7.out.lt
      clear hp7 k7 ho
      go_wp2_with fail
      refine (Tryz.strconv_Itoa (n : Int) (by omega) (by omega) w7 HE7.out.tab).mono ?_
      rintro x wi ⟨rfl, kk, os, hw⟩
      have hbi : Below w7.heap.size w7 wi := by rw [hw]; exact Lib.below_grow _ _ (Nat.le_refl _) kk os
      have HP9 := hd (HP7.out.below hbi)
      have HK9 := hd (HK7.out.more hbi (by have := HP7.out.lt; omega))
      have HE9 := hd (HE7.out.below hbi)
      rw [itoa_pos n (by omega)]
      clear hw hbi
      go_wp2_with fail
      refine (d_put2 B wi _ (Px.kwT Px.kLIMIT) (Px.dgT n) HP9.out (pt0_kw _ (by decide) (by decide)) (dgT_small n (by omega))).mono ?_
      rintro x w10 ho
      obtain ⟨k10, ⟨rfl, hb⟩ | ⟨rfl, hp10⟩⟩ := ho.cases
      · exact ⟨rfl, tooLong (HK9.out.trans k10) hb (by simp [List.append_assoc, HF.out] <;> rfl)⟩
      have HP10 := hd hp10
      have HK10 := hd (HK9.out.trans k10)
      have HE10 := hd (HE9.out.low k10.1 hB)
      clear hp10 k10 ho
      go_wp2_with fail
      go_end0
      exact POut.ok HK10.out (by have := HP10.out; simpa [List.append_assoc, HF.out] using this)
theorem tsCreateCreate (a b : Value) (w : World) : (Instr.typeAssert (.iface 87 (.agg #[a, b])) 59 87 true).run Tryz.prog w = .ok (.tuple #[.agg #[a, b], .bool true]) w := by kernel_rfl
theorem tsDropCreate (a : Value) (w : World) : (Instr.typeAssert (.iface 90 (.agg #[a])) 59 87 true).run Tryz.prog w = .ok (.tuple #[.agg #[.string ⟨#[]⟩, .slice none 0 0], .bool false]) w := by kernel_rfl
theorem tsDropDrop (a : Value) (w : World) : (Instr.typeAssert (.iface 90 (.agg #[a])) 59 90 true).run Tryz.prog w = .ok (.tuple #[.agg #[a], .bool true]) w := by kernel_rfl
theorem tsInsertCreate (a b : Value) (w : World) : (Instr.typeAssert (.iface 94 (.agg #[a, b])) 59 87 true).run Tryz.prog w = .ok (.tuple #[.agg #[.string ⟨#[]⟩, .slice none 0 0], .bool false]) w := by kernel_rfl
theorem tsInsertDrop (a b : Value) (w : World) : (Instr.typeAssert (.iface 94 (.agg #[a, b])) 59 90 true).run Tryz.prog w = .ok (.tuple #[.agg #[.string ⟨#[]⟩], .bool false]) w := by kernel_rfl
theorem tsInsertInsert (a b : Value) (w : World) : (Instr.typeAssert (.iface 94 (.agg #[a, b])) 59 94 true).run Tryz.prog w = .ok (.tuple #[.agg #[a, b], .bool true]) w := by kernel_rfl
theorem tsDeleteCreate (a b : Value) (w : World) : (Instr.typeAssert (.iface 99 (.agg #[a, b])) 59 87 true).run Tryz.prog w = .ok (.tuple #[.agg #[.string ⟨#[]⟩, .slice none 0 0], .bool false]) w := by kernel_rfl
theorem tsDeleteDrop (a b : Value) (w : World) : (Instr.typeAssert (.iface 99 (.agg #[a, b])) 59 90 true).run Tryz.prog w = .ok (.tuple #[.agg #[.string ⟨#[]⟩], .bool false]) w := by kernel_rfl
theorem tsDeleteInsert (a b : Value) (w : World) : (Instr.typeAssert (.iface 99 (.agg #[a, b])) 59 94 true).run Tryz.prog w = .ok (.tuple #[.agg #[.string ⟨#[]⟩, .slice none 0 0], .bool false]) w := by kernel_rfl
theorem tsDeleteDelete (a b : Value) (w : World) : (Instr.typeAssert (.iface 99 (.agg #[a, b])) 59 99 true).run Tryz.prog w = .ok (.tuple #[.agg #[a, b], .bool true]) w := by kernel_rfl
theorem tsUpdateCreate (a b c : Value) (w : World) : (Instr.typeAssert (.iface 104 (.agg #[a, b, c])) 59 87 true).run Tryz.prog w = .ok (.tuple #[.agg #[.string ⟨#[]⟩, .slice none 0 0], .bool false]) w := by kernel_rfl
theorem tsUpdateDrop (a b c : Value) (w : World) : (Instr.typeAssert (.iface 104 (.agg #[a, b, c])) 59 90 true).run Tryz.prog w = .ok (.tuple #[.agg #[.string ⟨#[]⟩], .bool false]) w := by kernel_rfl
theorem tsUpdateInsert (a b c : Value) (w : World) : (Instr.typeAssert (.iface 104 (.agg #[a, b, c])) 59 94 true).run Tryz.prog w = .ok (.tuple #[.agg #[.string ⟨#[]⟩, .slice none 0 0], .bool false]) w := by kernel_rfl
theorem tsUpdateDelete (a b c : Value) (w : World) : (Instr.typeAssert (.iface 104 (.agg #[a, b, c])) 59 99 true).run Tryz.prog w = .ok (.tuple #[.agg #[.string ⟨#[]⟩, .nilIface], .bool false]) w := by kernel_rfl
theorem tsUpdateUpdate (a b c : Value) (w : World) : (Instr.typeAssert (.iface 104 (.agg #[a, b, c])) 59 104 true).run Tryz.prog w = .ok (.tuple #[.agg #[a, b, c], .bool true]) w := by kernel_rfl
theorem tsSelectCreate (a b c d e f : Value) (w : World) : (Instr.typeAssert (.iface 109 (.agg #[a, b, c, d, e, f])) 59 87 true).run Tryz.prog w = .ok (.tuple #[.agg #[.string ⟨#[]⟩, .slice none 0 0], .bool false]) w := by kernel_rfl
theorem tsSelectDrop (a b c d e f : Value) (w : World) : (Instr.typeAssert (.iface 109 (.agg #[a, b, c, d, e, f])) 59 90 true).run Tryz.prog w = .ok (.tuple #[.agg #[.string ⟨#[]⟩], .bool false]) w := by kernel_rfl
theorem tsSelectInsert (a b c d e f : Value) (w : World) : (Instr.typeAssert (.iface 109 (.agg #[a, b, c, d, e, f])) 59 94 true).run Tryz.prog w = .ok (.tuple #[.agg #[.string ⟨#[]⟩, .slice none 0 0], .bool false]) w := by kernel_rfl
theorem tsSelectDelete (a b c d e f : Value) (w : World) : (Instr.typeAssert (.iface 109 (.agg #[a, b, c, d, e, f])) 59 99 true).run Tryz.prog w = .ok (.tuple #[.agg #[.string ⟨#[]⟩, .nilIface], .bool false]) w := by kernel_rfl
theorem tsSelectUpdate (a b c d e f : Value) (w : World) : (Instr.typeAssert (.iface 109 (.agg #[a, b, c, d, e, f])) 59 104 true).run Tryz.prog w = .ok (.tuple #[.agg #[.string ⟨#[]⟩, .slice none 0 0, .nilIface], .bool false]) w := by kernel_rfl
theorem tsSelectSelect (a b c d e f : Value) (w : World) : (Instr.typeAssert (.iface 109 (.agg #[a, b, c, d, e, f])) 59 109 true).run Tryz.prog w = .ok (.tuple #[.agg #[a, b, c, d, e, f], .bool true]) w := by kernel_rfl
def PS : Px.St → Prop
 | .create t c => Px.isName t = true ∧ (∀ x ∈ c, Px.isName x.1 = true ∧ 1 ≤ x.2 ∧ x.2 ≤ 7 ∧ x.2 ≠ 4) ∧ c.length ≤ 16777216
 | .drop t => Px.isName t = true
 | .insert t r => Px.isName t = true ∧ (∀ x ∈ r, (∀ e ∈ x, PE e) ∧ x.length ≤ 16777216) ∧ r.length ≤ 16777216
 | .delete t o => Px.isName t = true ∧ ∀ e ∈ o.toList, PE e
 | .update t s o => Px.isName t = true ∧ (∀ x ∈ s, Px.isName x.1 = true ∧ PE x.2) ∧ s.length ≤ 16777216 ∧ ∀ e ∈ o.toList, PE e
 | .select i t o r l => Px.isName t = true ∧ (∀ x ∈ i, ∀ e ∈ x.toList, PE e) ∧ i.length ≤ 16777216 ∧ (∀ e ∈ o.toList, PE e) ∧ (∀ x ∈ r, PE x.1) ∧ r.length ≤ 16777216 ∧ ∀ n, l = some n → n ≤ 1000000000
theorem d_statement_create (B : Nat) (hB : 12 ≤ B) (b0 : Nat) (t : Lx.Bs) (c : List (Lx.Bs × Nat)) (hp : PS (Px.St.create t c)) (v : Value) (w : World) (l : List Px.PT) (h : Prs w B l) (he : EnvV w) (hv : stV b0 (Px.St.create t c) v w) :
   Calls Tryz.prog 42 #[.pointer (some ⟨B, 0, none⟩), v] w (POut w B (l ++ (Px.St.create t c).pt)) := by
 have hlt := h.lt
 obtain ⟨u, rfl, ho⟩ := hv
 have ho : w.ownsRow (b0 + 1) 135 2 u c.length (c.flatMap colC) := ho
 have HNE := hd (h.ne ho (by decide))
 obtain ⟨ua, un, uc, hu⟩ := own_slice ho
 subst hu
 have HO := hd (ho.alloc (.cells #[.string ⟨t.toArray⟩, .slice ua un uc] 87))
 have HPS : Hid (PS (.create t c)) := hp
 clear ho hp
 have hbx : Below w.heap.size w (w.alloc (.cells #[.string ⟨t.toArray⟩, .slice ua un uc] 87)) := (Below.refl _ _).alloc (Nat.le_refl _) _
 have HP0 := hd (h.below hbx)
 have HE0 := hd (he.below hbx)
 have HK0 := hd (Kq.below (B := B) hbx (by omega))
 have HB0 := hd (Blk.new w #[.string ⟨t.toArray⟩, .slice ua un uc] 87)
 clear h he hbx
 have a0 := tsCreateCreate (.string ⟨t.toArray⟩) (.slice ua un uc)
 go_enter Tryz.func42, Tryz.ntmps42
 go_wp2_with fail
 refine (d_create_any B hB (b0 + 1) t HPS.out.1 c HPS.out.2.1 HPS.out.2.2 _ _ l HP0.out HE0.out HO.out).mono ?_
 rintro x w1 ho
 obtain ⟨k1, ⟨rfl, hb⟩ | ⟨rfl, hp1⟩⟩ := ho.cases
 · exact ⟨rfl, tooLong (HK0.out.trans k1) hb (List.append_nil _).symm⟩
 have HP1 := hd hp1
 have HK1 := hd (HK0.out.trans k1)
 have HE1 := hd (HE0.out.low k1.1 hB)
 clear hp1 k1 ho
 go_wp2_with fail
 go_end0
 exact POut.ok HK1.out HP1.out
theorem d_statement_insert (B : Nat) (hB : 12 ≤ B) (b0 : Nat) (t : Lx.Bs) (r : List (List Px.E)) (hp : PS (Px.St.insert t r)) (v : Value) (w : World) (l : List Px.PT) (h : Prs w B l) (he : EnvV w) (hv : stV b0 (Px.St.insert t r) v w) :
   Calls Tryz.prog 42 #[.pointer (some ⟨B, 0, none⟩), v] w (POut w B (l ++ (Px.St.insert t r).pt)) := by
 have hlt := h.lt
 obtain ⟨u, rfl, vs, ho, hrs⟩ := hv
 have HNE := hd (h.ne ho (by decide))
 obtain ⟨ua, un, uc, hu⟩ := own_slice ho
 subst hu
 have HO := hd (ho.alloc (.cells #[.string ⟨t.toArray⟩, .slice ua un uc] 94))
 have HRS : Hid (RowsIs (w.alloc (.cells #[.string ⟨t.toArray⟩, .slice ua un uc] 94)) (b0 + 1) r vs) := RowsIs.map (fun r v hv => hv.alloc _) hrs
 have HPS : Hid (PS (.insert t r)) := hp
 clear ho hrs hp
 have hbx : Below w.heap.size w (w.alloc (.cells #[.string ⟨t.toArray⟩, .slice ua un uc] 94)) := (Below.refl _ _).alloc (Nat.le_refl _) _
 have HP0 := hd (h.below hbx)
 have HE0 := hd (he.below hbx)
 have HK0 := hd (Kq.below (B := B) hbx (by omega))
 have HB0 := hd (Blk.new w #[.string ⟨t.toArray⟩, .slice ua un uc] 94)
 clear h he hbx
 have a0 := tsInsertCreate (.string ⟨t.toArray⟩) (.slice ua un uc)
 have a1 := tsInsertDrop (.string ⟨t.toArray⟩) (.slice ua un uc)
 have a2 := tsInsertInsert (.string ⟨t.toArray⟩) (.slice ua un uc)
 go_enter Tryz.func42, Tryz.ntmps42
 go_wp2_with fail
 refine (d_insert_any B hB (b0 + 1) t HPS.out.1 r HPS.out.2.1 HPS.out.2.2 _ vs _ l HP0.out HE0.out HO.out HRS.out).mono ?_
 rintro x w1 ho
 obtain ⟨k1, ⟨rfl, hb⟩ | ⟨rfl, hp1⟩⟩ := ho.cases
 · exact ⟨rfl, tooLong (HK0.out.trans k1) hb (List.append_nil _).symm⟩
 have HP1 := hd hp1
 have HK1 := hd (HK0.out.trans k1)
 have HE1 := hd (HE0.out.low k1.1 hB)
 clear hp1 k1 ho
 go_wp2_with fail
 go_end0
 exact POut.ok HK1.out HP1.out
theorem d_statement_drop (B : Nat) (hB : 12 ≤ B) (b0 : Nat) (t : Lx.Bs) (hp : PS (Px.St.drop t)) (v : Value) (w : World) (l : List Px.PT) (h : Prs w B l) (he : EnvV w) (hv : stV b0 (Px.St.drop t) v w) :
   Calls Tryz.prog 42 #[.pointer (some ⟨B, 0, none⟩), v] w (POut w B (l ++ (Px.St.drop t).pt)) := by
 have hlt := h.lt
 have hv : v = .iface 90 (.agg #[.string ⟨t.toArray⟩]) := hv
 subst hv
 have HPS : Hid (PS (.drop t)) := hp
 have HF : Hid ((Px.St.drop t).pt = [Px.kwT Px.kDROP, Px.kwT Px.kTABLE, Px.nmT t]) := rfl
 clear hp
 have hbx : Below w.heap.size w (w.alloc (.cells #[.string ⟨t.toArray⟩] 90)) := (Below.refl _ _).alloc (Nat.le_refl _) _
 have HP0 := hd (h.below hbx)
 have HE0 := hd (he.below hbx)
 have HK0 := hd (Kq.below (B := B) hbx (by omega))
 have HB0 := hd (Blk.new w #[.string ⟨t.toArray⟩] 90)
 clear h he hbx
 have a0 := tsDropCreate (.string ⟨t.toArray⟩)
 have a1 := tsDropDrop (.string ⟨t.toArray⟩)
 go_enter Tryz.func42, Tryz.ntmps42
 go_wp2_with fail
 refine (d_put2g B _ _ l (Px.kwT Px.kDROP) (Px.kwT Px.kTABLE) (by simp) HP0.out (pt0_kw _ (by decide) (by decide)) (pt0_kw _ (by decide) (by decide))).mono ?_
 rintro x w1 ho
 obtain ⟨k1, ⟨rfl, hb⟩ | ⟨rfl, hp1⟩⟩ := ho.cases
 · exact ⟨rfl, tooLong (HK0.out.trans k1) hb (by simp [List.append_assoc, HF.out] <;> rfl)⟩
 have HP1 := hd hp1
 have HK1 := hd (HK0.out.trans k1)
 have HE1 := hd (HE0.out.low k1.1 hB)
 have HB1 := hd (k1.blk HB0.out (by omega) (by decide))
 have c0_1 := HB1.out.cell 0
 simp at c0_1
 have hl1 := HB1.out.lt
 clear hp1 k1 ho
 go_wp2_with fail
 refine (d_putName_any B w1 _ t HP1.out HE1.out HPS.out).mono ?_
 rintro x w2 ho
 obtain ⟨k2, ⟨rfl, hb⟩ | ⟨rfl, hp2⟩⟩ := ho.cases
 · exact ⟨rfl, tooLong (HK1.out.trans k2) hb (by simp [List.append_assoc, HF.out] <;> rfl)⟩
 have HP2 := hd hp2
 have HK2 := hd (HK1.out.trans k2)
 have HE2 := hd (HE1.out.low k2.1 hB)
 clear hp2 k2 ho
 go_wp2_with fail
 go_end0
 exact POut.ok HK2.out (by have := HP2.out; simpa [List.append_assoc, HF.out] using this)
theorem d_statement_delete (B : Nat) (hB : 12 ≤ B) (b0 : Nat) (t : Lx.Bs) (o : Option Px.E) (hp : PS (Px.St.delete t o)) (v : Value) (w : World) (l : List Px.PT) (h : Prs w B l) (he : EnvV w) (hv : stV b0 (Px.St.delete t o) v w) :
   Calls Tryz.prog 42 #[.pointer (some ⟨B, 0, none⟩), v] w (POut w B (l ++ (Px.St.delete t o).pt)) := by
 have hlt := h.lt
 have hv : v = .iface 99 (.agg #[.string ⟨t.toArray⟩, ev? o]) := hv
 subst hv
 have HPS : Hid (PS (.delete t o)) := hp
 have HF : Hid ((Px.St.delete t o).pt = Px.kwT Px.kDELETE :: Px.kwT Px.kFROM :: Px.nmT t :: Px.whereT o) := rfl
 clear hp
 have hv1 := ev?_one o
 obtain ⟨vo, hvo⟩ : ∃ vo, vo = ev? o := ⟨_, rfl⟩
 have HWH : Hid (∀ w l, Prs w B l → EnvV w → Calls Tryz.prog 69 #[.pointer (some ⟨B, 0, none⟩), vo] w (POut w B (l ++ Px.whereT o))) := by
  intro w l h he
  rw [hvo]
  exact d_where_any B hB o HPS.out.2 w l h he
 rw [← hvo] at hv1 ⊢
 clear hvo
 rcases hv1 with rfl | ⟨et, ex, rfl⟩
 · have hbx : Below w.heap.size w (w.alloc (.cells #[.string ⟨t.toArray⟩, .nilIface] 99)) := (Below.refl _ _).alloc (Nat.le_refl _) _
   have HP0 := hd (h.below hbx)
   have HE0 := hd (he.below hbx)
   have HK0 := hd (Kq.below (B := B) hbx (by omega))
   have HB0 := hd (Blk.new w #[.string ⟨t.toArray⟩, .nilIface] 99)
   clear h he hbx
   have a0 := tsDeleteCreate (.string ⟨t.toArray⟩) (.nilIface)
   have a1 := tsDeleteDrop (.string ⟨t.toArray⟩) (.nilIface)
   have a2 := tsDeleteInsert (.string ⟨t.toArray⟩) (.nilIface)
   have a3 := tsDeleteDelete (.string ⟨t.toArray⟩) (.nilIface)
   go_enter Tryz.func42, Tryz.ntmps42
   go_wp2_with fail
   refine (d_put2g B _ _ l (Px.kwT Px.kDELETE) (Px.kwT Px.kFROM) (by simp) HP0.out (pt0_kw _ (by decide) (by decide)) (pt0_kw _ (by decide) (by decide))).mono ?_
   rintro x w1 ho
   obtain ⟨k1, ⟨rfl, hb⟩ | ⟨rfl, hp1⟩⟩ := ho.cases
   · exact ⟨rfl, tooLong (HK0.out.trans k1) hb (by simp [List.append_assoc, HF.out] <;> rfl)⟩
   have HP1 := hd hp1
   have HK1 := hd (HK0.out.trans k1)
   have HE1 := hd (HE0.out.low k1.1 hB)
   have HB1 := hd (k1.blk HB0.out (by omega) (by decide))
   have c0_1 := HB1.out.cell 0
   simp at c0_1
   have hl1 := HB1.out.lt
   clear hp1 k1 ho
   go_wp2_with fail
   refine (d_putName_any B w1 _ t HP1.out HE1.out HPS.out.1).mono ?_
   rintro x w2 ho
   obtain ⟨k2, ⟨rfl, hb⟩ | ⟨rfl, hp2⟩⟩ := ho.cases
   · exact ⟨rfl, tooLong (HK1.out.trans k2) hb (by simp [List.append_assoc, HF.out] <;> rfl)⟩
   have HP2 := hd hp2
   have HK2 := hd (HK1.out.trans k2)
   have HE2 := hd (HE1.out.low k2.1 hB)
   have HB2 := hd (k2.blk HB1.out (by omega) (by decide))
   have c1_2 := HB2.out.cell 1
   simp at c1_2
   have hl2 := HB2.out.lt
   clear hp2 k2 ho
   go_wp2_with fail
   refine (HWH.out w2 _ HP2.out HE2.out).mono ?_
   rintro x w3 ho
   obtain ⟨k3, ⟨rfl, hb⟩ | ⟨rfl, hp3⟩⟩ := ho.cases
   · exact ⟨rfl, tooLong (HK2.out.trans k3) hb (by simp [List.append_assoc, HF.out] <;> rfl)⟩
   have HP3 := hd hp3
   have HK3 := hd (HK2.out.trans k3)
   have HE3 := hd (HE2.out.low k3.1 hB)
   clear hp3 k3 ho
   go_wp2_with fail
   go_end0
   exact POut.ok HK3.out (by have := HP3.out; simpa [List.append_assoc, HF.out] using this)
 · have hbx : Below w.heap.size w (w.alloc (.cells #[.string ⟨t.toArray⟩, .iface et ex] 99)) := (Below.refl _ _).alloc (Nat.le_refl _) _
   have HP0 := hd (h.below hbx)
   have HE0 := hd (he.below hbx)
   have HK0 := hd (Kq.below (B := B) hbx (by omega))
   have HB0 := hd (Blk.new w #[.string ⟨t.toArray⟩, .iface et ex] 99)
   clear h he hbx
   have a0 := tsDeleteCreate (.string ⟨t.toArray⟩) (.iface et ex)
   have a1 := tsDeleteDrop (.string ⟨t.toArray⟩) (.iface et ex)
   have a2 := tsDeleteInsert (.string ⟨t.toArray⟩) (.iface et ex)
   have a3 := tsDeleteDelete (.string ⟨t.toArray⟩) (.iface et ex)
   go_enter Tryz.func42, Tryz.ntmps42
   go_wp2_with fail
   refine (d_put2g B _ _ l (Px.kwT Px.kDELETE) (Px.kwT Px.kFROM) (by simp) HP0.out (pt0_kw _ (by decide) (by decide)) (pt0_kw _ (by decide) (by decide))).mono ?_
   rintro x w1 ho
   obtain ⟨k1, ⟨rfl, hb⟩ | ⟨rfl, hp1⟩⟩ := ho.cases
   · exact ⟨rfl, tooLong (HK0.out.trans k1) hb (by simp [List.append_assoc, HF.out] <;> rfl)⟩
   have HP1 := hd hp1
   have HK1 := hd (HK0.out.trans k1)
   have HE1 := hd (HE0.out.low k1.1 hB)
   have HB1 := hd (k1.blk HB0.out (by omega) (by decide))
   have c0_1 := HB1.out.cell 0
   simp at c0_1
   have hl1 := HB1.out.lt
   clear hp1 k1 ho
   go_wp2_with fail
   refine (d_putName_any B w1 _ t HP1.out HE1.out HPS.out.1).mono ?_
   rintro x w2 ho
   obtain ⟨k2, ⟨rfl, hb⟩ | ⟨rfl, hp2⟩⟩ := ho.cases
   · exact ⟨rfl, tooLong (HK1.out.trans k2) hb (by simp [List.append_assoc, HF.out] <;> rfl)⟩
   have HP2 := hd hp2
   have HK2 := hd (HK1.out.trans k2)
   have HE2 := hd (HE1.out.low k2.1 hB)
   have HB2 := hd (k2.blk HB1.out (by omega) (by decide))
   have c1_2 := HB2.out.cell 1
   simp at c1_2
   have hl2 := HB2.out.lt
   clear hp2 k2 ho
   go_wp2_with fail
   refine (HWH.out w2 _ HP2.out HE2.out).mono ?_
   rintro x w3 ho
   obtain ⟨k3, ⟨rfl, hb⟩ | ⟨rfl, hp3⟩⟩ := ho.cases
   · exact ⟨rfl, tooLong (HK2.out.trans k3) hb (by simp [List.append_assoc, HF.out] <;> rfl)⟩
   have HP3 := hd hp3
   have HK3 := hd (HK2.out.trans k3)
   have HE3 := hd (HE2.out.low k3.1 hB)
   clear hp3 k3 ho
   go_wp2_with fail
   go_end0
   exact POut.ok HK3.out (by have := HP3.out; simpa [List.append_assoc, HF.out] using this)
theorem d_statement_update (B : Nat) (hB : 12 ≤ B) (b0 : Nat) (t : Lx.Bs) (s : List (Lx.Bs × Px.E)) (o : Option Px.E) (hp : PS (Px.St.update t s o)) (v : Value) (w : World) (l : List Px.PT) (h : Prs w B l) (he : EnvV w) (hv : stV b0 (Px.St.update t s o) v w) :
   Calls Tryz.prog 42 #[.pointer (some ⟨B, 0, none⟩), v] w (POut w B (l ++ (Px.St.update t s o).pt)) := by
 have hlt := h.lt
 obtain ⟨u, rfl, ho⟩ := hv
 have ho : w.ownsRow (b0 + 1) 139 2 u s.length (s.flatMap setC) := ho
 obtain ⟨ua, un, uc, hu⟩ := own_slice ho
 subst hu
 have HO := hd ho
 have HPS : Hid (PS (.update t s o)) := hp
 clear ho hp
 have hv1 := ev?_one o
 obtain ⟨vo, hvo⟩ : ∃ vo, vo = ev? o := ⟨_, rfl⟩
 rw [← hvo] at hv1 ⊢
 have HVO := hd hvo
 clear hvo
 rcases hv1 with hx | ⟨et, ex, hx⟩
 · have HVX := hd hx
   rw [hx]
   clear hx
   have hbx : Below w.heap.size w (w.alloc (.cells #[.string ⟨t.toArray⟩, .slice ua un uc, .nilIface] 104)) := (Below.refl _ _).alloc (Nat.le_refl _) _
   have HP0 := hd (h.below hbx)
   have HE0 := hd (he.below hbx)
   have HK0 := hd (Kq.below (B := B) hbx (by omega))
   have HB0 := hd (Blk.new w #[.string ⟨t.toArray⟩, .slice ua un uc, .nilIface] 104)
   clear h he hbx
   have a0 := tsUpdateCreate (.string ⟨t.toArray⟩) (.slice ua un uc) (.nilIface)
   have a1 := tsUpdateDrop (.string ⟨t.toArray⟩) (.slice ua un uc) (.nilIface)
   have a2 := tsUpdateInsert (.string ⟨t.toArray⟩) (.slice ua un uc) (.nilIface)
   have a3 := tsUpdateDelete (.string ⟨t.toArray⟩) (.slice ua un uc) (.nilIface)
   have a4 := tsUpdateUpdate (.string ⟨t.toArray⟩) (.slice ua un uc) (.nilIface)
   go_enter Tryz.func42, Tryz.ntmps42
   go_wp2_with fail
   have hcc := d_update_any B hB (b0 + 1) t HPS.out.1 s HPS.out.2.1 HPS.out.2.2.1 o HPS.out.2.2.2 _ _ l HP0.out HE0.out (HO.out.alloc _)
   rw [← HVO.out, HVX.out] at hcc
   refine hcc.mono ?_
   clear hcc
   rintro x w1 ho
   obtain ⟨k1, ⟨rfl, hb⟩ | ⟨rfl, hp1⟩⟩ := ho.cases
   · exact ⟨rfl, HK0.out.trans k1, .inr ⟨rfl, hb⟩⟩
   have HP1 := hd hp1
   have HK1 := hd (HK0.out.trans k1)
   clear hp1 k1 ho
   go_wp2_with fail
   go_end0
   exact POut.ok HK1.out HP1.out
 · have HVX := hd hx
   rw [hx]
   clear hx
   have hbx : Below w.heap.size w (w.alloc (.cells #[.string ⟨t.toArray⟩, .slice ua un uc, .iface et ex] 104)) := (Below.refl _ _).alloc (Nat.le_refl _) _
   have HP0 := hd (h.below hbx)
   have HE0 := hd (he.below hbx)
   have HK0 := hd (Kq.below (B := B) hbx (by omega))
   have HB0 := hd (Blk.new w #[.string ⟨t.toArray⟩, .slice ua un uc, .iface et ex] 104)
   clear h he hbx
   have a0 := tsUpdateCreate (.string ⟨t.toArray⟩) (.slice ua un uc) (.iface et ex)
   have a1 := tsUpdateDrop (.string ⟨t.toArray⟩) (.slice ua un uc) (.iface et ex)
   have a2 := tsUpdateInsert (.string ⟨t.toArray⟩) (.slice ua un uc) (.iface et ex)
   have a3 := tsUpdateDelete (.string ⟨t.toArray⟩) (.slice ua un uc) (.iface et ex)
   have a4 := tsUpdateUpdate (.string ⟨t.toArray⟩) (.slice ua un uc) (.iface et ex)
   go_enter Tryz.func42, Tryz.ntmps42
   go_wp2_with fail
   have hcc := d_update_any B hB (b0 + 1) t HPS.out.1 s HPS.out.2.1 HPS.out.2.2.1 o HPS.out.2.2.2 _ _ l HP0.out HE0.out (HO.out.alloc _)
   rw [← HVO.out, HVX.out] at hcc
   refine hcc.mono ?_
   clear hcc
   rintro x w1 ho
   obtain ⟨k1, ⟨rfl, hb⟩ | ⟨rfl, hp1⟩⟩ := ho.cases
   · exact ⟨rfl, HK0.out.trans k1, .inr ⟨rfl, hb⟩⟩
   have HP1 := hd hp1
   have HK1 := hd (HK0.out.trans k1)
   clear hp1 k1 ho
   go_wp2_with fail
   go_end0
   exact POut.ok HK1.out HP1.out
theorem d_statement_select (B : Nat) (hB : 12 ≤ B) (b0 : Nat) (i : List (Option Px.E)) (t : Lx.Bs) (o : Option Px.E) (r : List (Px.E × Bool)) (lm : Option Nat) (hp : PS (Px.St.select i t o r lm)) (v : Value) (w : World) (l : List Px.PT) (h : Prs w B l) (he : EnvV w) (hv : stV b0 (Px.St.select i t o r lm) v w) :
   Calls Tryz.prog 42 #[.pointer (some ⟨B, 0, none⟩), v] w (POut w B (l ++ (Px.St.select i t o r lm).pt)) := by
 have hlt := h.lt
 obtain ⟨u, u2, rfl, ho, ho2⟩ := hv
 have ho : w.ownsRow (b0 + 1) 141 2 u i.length (i.flatMap itemC) := ho
 have ho2 : w.ownsRow (b0 + 1) 143 2 u2 r.length (r.flatMap orderC) := ho2
 obtain ⟨ua, un, uc, hu⟩ := own_slice ho
 subst hu
 obtain ⟨va, vn, vc, hu⟩ := own_slice ho2
 subst hu
 have HO := hd ho
 have HO2 := hd ho2
 have HPS : Hid (PS (.select i t o r lm)) := hp
 clear ho ho2 hp
 have hv1 := ev?_one o
 obtain ⟨vo, hvo⟩ : ∃ vo, vo = ev? o := ⟨_, rfl⟩
 rw [← hvo] at hv1 ⊢
 have HVO := hd hvo
 clear hvo
 rcases hv1 with hx | ⟨et, ex, hx⟩
 · have HVX := hd hx
   rw [hx]
   clear hx
   have hbx : Below w.heap.size w (w.alloc (.cells #[.slice ua un uc, .string ⟨t.toArray⟩, .nilIface, .slice va vn vc, .bool lm.isSome, .int .i64 ((lm.getD 0 : Nat) : Int)] 109)) := (Below.refl _ _).alloc (Nat.le_refl _) _
   have HP0 := hd (h.below hbx)
   have HE0 := hd (he.below hbx)
   have HK0 := hd (Kq.below (B := B) hbx (by omega))
   have HB0 := hd (Blk.new w #[.slice ua un uc, .string ⟨t.toArray⟩, .nilIface, .slice va vn vc, .bool lm.isSome, .int .i64 ((lm.getD 0 : Nat) : Int)] 109)
   clear h he hbx
   have a0 := tsSelectCreate (.slice ua un uc) (.string ⟨t.toArray⟩) (.nilIface) (.slice va vn vc) (.bool lm.isSome) (.int .i64 ((lm.getD 0 : Nat) : Int))
   have a1 := tsSelectDrop (.slice ua un uc) (.string ⟨t.toArray⟩) (.nilIface) (.slice va vn vc) (.bool lm.isSome) (.int .i64 ((lm.getD 0 : Nat) : Int))
   have a2 := tsSelectInsert (.slice ua un uc) (.string ⟨t.toArray⟩) (.nilIface) (.slice va vn vc) (.bool lm.isSome) (.int .i64 ((lm.getD 0 : Nat) : Int))
   have a3 := tsSelectDelete (.slice ua un uc) (.string ⟨t.toArray⟩) (.nilIface) (.slice va vn vc) (.bool lm.isSome) (.int .i64 ((lm.getD 0 : Nat) : Int))
   have a4 := tsSelectUpdate (.slice ua un uc) (.string ⟨t.toArray⟩) (.nilIface) (.slice va vn vc) (.bool lm.isSome) (.int .i64 ((lm.getD 0 : Nat) : Int))
   have a5 := tsSelectSelect (.slice ua un uc) (.string ⟨t.toArray⟩) (.nilIface) (.slice va vn vc) (.bool lm.isSome) (.int .i64 ((lm.getD 0 : Nat) : Int))
   go_enter Tryz.func42, Tryz.ntmps42
   go_wp2_with fail
   have hcc := d_selection_any B hB (b0 + 1) t HPS.out.1 i HPS.out.2.1 HPS.out.2.2.1 o HPS.out.2.2.2.1 r HPS.out.2.2.2.2.1 HPS.out.2.2.2.2.2.1 lm HPS.out.2.2.2.2.2.2 _ _ _ l HP0.out HE0.out (HO.out.alloc _) (HO2.out.alloc _)
   rw [← HVO.out, HVX.out] at hcc
   refine hcc.mono ?_
   clear hcc
   rintro x w1 ho
   obtain ⟨k1, ⟨rfl, hb⟩ | ⟨rfl, hp1⟩⟩ := ho.cases
   · exact ⟨rfl, HK0.out.trans k1, .inr ⟨rfl, hb⟩⟩
   have HP1 := hd hp1
   have HK1 := hd (HK0.out.trans k1)
   clear hp1 k1 ho
   go_wp2_with fail
   go_end0
   exact POut.ok HK1.out HP1.out
 · have HVX := hd hx
   rw [hx]
   clear hx
   have hbx : Below w.heap.size w (w.alloc (.cells #[.slice ua un uc, .string ⟨t.toArray⟩, .iface et ex, .slice va vn vc, .bool lm.isSome, .int .i64 ((lm.getD 0 : Nat) : Int)] 109)) := (Below.refl _ _).alloc (Nat.le_refl _) _
   have HP0 := hd (h.below hbx)
   have HE0 := hd (he.below hbx)
   have HK0 := hd (Kq.below (B := B) hbx (by omega))
   have HB0 := hd (Blk.new w #[.slice ua un uc, .string ⟨t.toArray⟩, .iface et ex, .slice va vn vc, .bool lm.isSome, .int .i64 ((lm.getD 0 : Nat) : Int)] 109)
   clear h he hbx
   have a0 := tsSelectCreate (.slice ua un uc) (.string ⟨t.toArray⟩) (.iface et ex) (.slice va vn vc) (.bool lm.isSome) (.int .i64 ((lm.getD 0 : Nat) : Int))
   have a1 := tsSelectDrop (.slice ua un uc) (.string ⟨t.toArray⟩) (.iface et ex) (.slice va vn vc) (.bool lm.isSome) (.int .i64 ((lm.getD 0 : Nat) : Int))
   have a2 := tsSelectInsert (.slice ua un uc) (.string ⟨t.toArray⟩) (.iface et ex) (.slice va vn vc) (.bool lm.isSome) (.int .i64 ((lm.getD 0 : Nat) : Int))
   have a3 := tsSelectDelete (.slice ua un uc) (.string ⟨t.toArray⟩) (.iface et ex) (.slice va vn vc) (.bool lm.isSome) (.int .i64 ((lm.getD 0 : Nat) : Int))
   have a4 := tsSelectUpdate (.slice ua un uc) (.string ⟨t.toArray⟩) (.iface et ex) (.slice va vn vc) (.bool lm.isSome) (.int .i64 ((lm.getD 0 : Nat) : Int))
   have a5 := tsSelectSelect (.slice ua un uc) (.string ⟨t.toArray⟩) (.iface et ex) (.slice va vn vc) (.bool lm.isSome) (.int .i64 ((lm.getD 0 : Nat) : Int))
   go_enter Tryz.func42, Tryz.ntmps42
   go_wp2_with fail
   have hcc := d_selection_any B hB (b0 + 1) t HPS.out.1 i HPS.out.2.1 HPS.out.2.2.1 o HPS.out.2.2.2.1 r HPS.out.2.2.2.2.1 HPS.out.2.2.2.2.2.1 lm HPS.out.2.2.2.2.2.2 _ _ _ l HP0.out HE0.out (HO.out.alloc _) (HO2.out.alloc _)
   rw [← HVO.out, HVX.out] at hcc
   refine hcc.mono ?_
   clear hcc
   rintro x w1 ho
   obtain ⟨k1, ⟨rfl, hb⟩ | ⟨rfl, hp1⟩⟩ := ho.cases
   · exact ⟨rfl, HK0.out.trans k1, .inr ⟨rfl, hb⟩⟩
   have HP1 := hd hp1
   have HK1 := hd (HK0.out.trans k1)
   clear hp1 k1 ho
   go_wp2_with fail
   go_end0
   exact POut.ok HK1.out HP1.out
theorem d_statement_any (B : Nat) (hB : 12 ≤ B) (b0 : Nat) (s : Px.St) (hp : PS s) (v : Value) (w : World) (l : List Px.PT) (h : Prs w B l) (he : EnvV w) (hv : stV b0 s v w) :
   Calls Tryz.prog 42 #[.pointer (some ⟨B, 0, none⟩), v] w (POut w B (l ++ s.pt)) := by
 cases s with
 | create t c => exact d_statement_create B hB b0 t c hp v w l h he hv
 | drop t => exact d_statement_drop B hB b0 t hp v w l h he hv
 | insert t r => exact d_statement_insert B hB b0 t r hp v w l h he hv
 | delete t o => exact d_statement_delete B hB b0 t o hp v w l h he hv
 | update t s o => exact d_statement_update B hB b0 t s o hp v w l h he hv
 | select i t o r lm => exact d_statement_select B hB b0 i t o r lm hp v w l h he hv
theorem stV_alloc {b0 : Nat} {s : Px.St} {v : Value} {w : World} (h : stV b0 s v w) (o : Obj) : stV b0 s v (w.alloc o) := by
 cases s with
 | create t c => obtain ⟨u, h1, h2⟩ := h; exact ⟨u, h1, World.ownsRow.alloc h2 o⟩
 | drop t => exact h
 | insert t r => obtain ⟨u, h1, vs, h2, h3⟩ := h; exact ⟨u, h1, vs, h2.alloc o, RowsIs.map (fun r v hv => hv.alloc o) h3⟩
 | delete t w => exact h
 | update t s w => obtain ⟨u, h1, h2⟩ := h; exact ⟨u, h1, World.ownsRow.alloc h2 o⟩
 | select i t w r l => obtain ⟨u, u', h1, h2, h3⟩ := h; exact ⟨u, u', h1, World.ownsRow.alloc h2 o, World.ownsRow.alloc h3 o⟩
theorem stV_form {b0 : Nat} {s : Px.St} {v : Value} {w : World} (h : stV b0 s v w) : ∃ t x, v = .iface t x := by
 cases s with
 | create t c => obtain ⟨u, h1, h2⟩ := h; exact ⟨_, _, h1⟩
 | drop t => exact ⟨_, _, h⟩
 | insert t r => obtain ⟨u, h1, _⟩ := h; exact ⟨_, _, h1⟩
 | delete t w => exact ⟨_, _, h⟩
 | update t s w => obtain ⟨u, h1, h2⟩ := h; exact ⟨_, _, h1⟩
 | select i t w r l => obtain ⟨u, u', h1, _⟩ := h; exact ⟨_, _, h1⟩
theorem pt_ne (s : Px.St) : s.pt ≠ [] := by
 cases s <;> simp [Px.St.pt]
theorem render_ne {l : List Px.PT} (h : l ≠ []) (h0 : ∀ t ∈ l, t.out ≠ []) : Px.render l ≠ [] := by
 cases l with
 | nil => exact absurd rfl h
 | cons a r =>
  obtain ⟨x, hx⟩ := Px.render_head a r
  rw [hx]
  have := h0 a (by simp)
  simp [this]
def TOut (w : World) (s : Px.St) (x : Ending) (w' : World) : Prop := Below w.heap.size w w' ∧ (((Px.render s.pt).length ≤ 2000 ∧ x = .returned (.string ⟨(Px.render s.pt).toArray⟩)) ∨ (2000 < (Px.render s.pt).length ∧ x = Flt 0 1))
theorem d_Text_any (b0 : Nat) (s : Px.St) (hp : PS s) (v : Value) (w : World) (he : EnvV w) (hv : stV b0 s v w) :
   Calls Tryz.prog 28 #[v] w (TOut w s) := by
 have hB : 12 ≤ w.heap.size := he.envw.env.room
 have HP : Hid (Prs (w.alloc (.cells #[.pointer none, .slice none 0 0, .string ⟨#[]⟩, .bool false] 77)) w.heap.size []) := by
  refine ⟨⟨.pointer none, .slice none 0 0, .inl rfl, Blk.new w _ _, ⟨by rfl, .inl ⟨rfl, rfl⟩⟩⟩, by simp, by simp [Px.render]⟩
 have HE := hd (he.below ((Below.refl _ _).alloc (Nat.le_refl _) (.cells #[.pointer none, .slice none 0 0, .string ⟨#[]⟩, .bool false] 77)))
 have HV := hd (stV_alloc hv (.cells #[.pointer none, .slice none 0 0, .string ⟨#[]⟩, .bool false] 77))
 have HPS := hd hp
 have HBX : Hid (Below w.heap.size w (w.alloc (.cells #[.pointer none, .slice none 0 0, .string ⟨#[]⟩, .bool false] 77))) := (Below.refl _ _).alloc (Nat.le_refl _) _
 obtain ⟨vt, vx, hvf⟩ := stV_form hv
 subst hvf
 clear he hp hv
 go_enter Tryz.func28, Tryz.ntmps28
 go_wp2_with fail
 refine (d_statement_any w.heap.size hB b0 s HPS.out _ _ [] HP.out HE.out HV.out).mono ?_
 rintro x w1 ho
 rw [List.nil_append] at ho
 obtain ⟨k1, ⟨rfl, hb⟩ | ⟨rfl, hp1⟩⟩ := ho.cases
 · exact ⟨rfl, HBX.out.trans k1.1, .inr ⟨hb, rfl⟩⟩
 have HP1 := hd hp1
 have HB1 := hd (HBX.out.trans k1.1)
 clear hp1 k1 ho
 go_wp2_with fail
 refine (b_String_any _ w1 _ _ _ HP1.out.1 (render_ne (pt_ne s) HP1.out.2.1)).mono ?_
 rintro x w2 ⟨rfl, k2⟩
 have HB2 := hd (HB1.out.trans k2.1)
 clear k2
 go_wp2_with fail
 go_ret
 exact ⟨HB2.out, .inl ⟨HP1.out.2.2, rfl⟩⟩


def nameR (r : Except Nat (Nat × Lx.Bs × Nat)) : Except Nat (Nat × Lx.Bs × Nat) :=
 match r with
 | .ok (c, t, n) => if t = [] then .error 2 else .ok (c, t, n)
 | .error c => .error c

theorem fault_is (p c : Int) (w : World) : (Instr.typeAssert (.iface 70 (.agg #[.int .i64 p, .int .i64 c])) 20 70 true).run Tryz.prog w = .ok (.tuple #[.agg #[.int .i64 p, .int .i64 c], .bool true]) w := by kernel_rfl
theorem told_any (p c : Int) (w : World) :
   Calls Tryz.prog 27 #[.iface 70 (.agg #[.int .i64 p, .int .i64 c])] w fun e w' => e = .returned (.tuple #[.int .i64 p, .int .i64 c]) ∧ Below w.heap.size w w' := by
 have hta := fault_is p c
 go_enter Tryz.func27, Tryz.ntmps27
 go_wp2
 go_region
 all_goals go_wp2
 all_goals go_ret2
 all_goals exact ⟨rfl, ((Below.refl _ _).alloc (Nat.le_refl _) _).drew⟩
end Go.Proofs.YtkcakbgcfnhgaaaGreatDoor
