/- Parts of the proof: Yr Ys Yt Yu Sd VarA VarP VarQ Ka Kb Kc Sj -/
import Derived.Test.YtkcakbgcfnhgaaaGreatDoorZ13
import Derived.Test.YtkcakbgcfnhgaaaGreatDoorZ12
import Derived.Test.YtkcakbgcfnhgaaaGreatDoorZ9
import Derived.Test.YtkcakbgcfnhgaaaGreatDoorZ1
import Derived.Test.YtkcakbgcfnhgaaaGreatDoorZ3
import Derived.Test.YtkcakbgcfnhgaaaGreatDoorRows
import Derived.Lib.LaidU8T
import Derived.PinnedBridge
import Derived.Deep.Strs
import Derived.Shelf.Vars
import Derived.Test.YtkcakbgcfnhgaaaGreatDoorZ2
import Derived.BigQuiet
import Derived.Deep.QuietTactic
import Derived.Deep.Draws
namespace Go.Proofs.YtkcakbgcfnhgaaaGreatDoor
set_option linter.unusedSimpArgs false
set_option linter.unusedVariables false
set_option maxRecDepth 100000
set_option maxHeartbeats 16000000
open Go.RowKit
theorem d_selection_any (B : Nat) (hB : 12 ≤ B) (base : Nat) (t : Lx.Bs) (ht : Px.isName t = true) (i : List (Option Px.E)) (hi : ∀ x ∈ i, ∀ e ∈ x.toList, PE e) (hin : i.length ≤ 16777216) (o : Option Px.E) (hp : ∀ e ∈ o.toList, PE e) (r : List (Px.E × Bool)) (hr : ∀ x ∈ r, PE x.1) (hrn : r.length ≤ 16777216) (lm : Option Nat) (hlm : ∀ n, lm = some n → n ≤ 1000000000) (u u2 : Value) (w : World) (l : List Px.PT) (h : Prs w B l) (he : EnvQ w) (ho : w.ownsRow base 141 2 u i.length (i.flatMap itemC)) (ho2 : w.ownsRow base 143 2 u2 r.length (r.flatMap orderC)) :
   Calls Tryz.prog 71 #[.pointer (some ⟨B, 0, none⟩), .agg #[u, .string ⟨t.toArray⟩, ev? o, u2, .bool lm.isSome, .int .i64 ((lm.getD 0 : Nat) : Int)]] w (POut w B (l ++ (Px.St.select i t o r lm).pt)) := by
 have hlt := h.lt
 have HF0 : Hid ((Px.St.select i t o r lm).pt = Px.kwT Px.kSELECT :: (Px.sepT (i.map Px.itemT) ++ Px.kwT Px.kFROM :: Px.nmT t :: (Px.whereT o ++ (Px.ordersT r ++ Px.limT lm)))) := rfl
 have HNE := hd (h.ne ho (by decide))
 have HNE2 := hd (h.ne ho2 (by decide))
 have HO := hd ho
 have HO2 := hd ho2
 have HPO := hd hp
 have HLM := hd hlm
 obtain ⟨ua, un, uc, hu⟩ := osl ho
 subst hu
 obtain ⟨va, vn, vc, hu⟩ := osl ho2
 subst hu
 have HVN : Hid (vn = r.length) := by
  show _ = _
  rcases ho2.2 with ⟨a1, a2⟩ | ⟨g', cap', cur', a1, _⟩
  · cases a1; omega
  cases a1; rfl
 clear ho ho2 hp hlm
 have hv1 := ev?_one o
 obtain ⟨vo, hvo⟩ : ∃ vo, vo = ev? o := ⟨_, rfl⟩
 have HWH : Hid (∀ w l, Prs w B l → EnvQ w → Calls Tryz.prog 69 #[.pointer (some ⟨B, 0, none⟩), vo] w (POut w B (l ++ Px.whereT o))) := by
  intro w l h he
  rw [hvo]
  exact d_where_any B hB o HPO.out w l h he
 rw [← hvo] at hv1 ⊢
 clear hvo
 rcases hv1 with rfl | ⟨et, ex, rfl⟩
 · cases lm with
   | none =>
    show Calls _ _ #[_, .agg #[_, _, _, _, .bool false, .int .i64 0]] _ _
    have hbx : Below w.heap.size w (w.alloc (.cells #[.slice ua un uc, .string ⟨t.toArray⟩, .nilIface, .slice va vn vc, .bool false, .int .i64 0] 109)) := (Below.refl _ _).alloc (nlr _) _
    have HP0 := hd (h.below hbx)
    have HE0 := hd (he.below hbx)
    have HK0 := hd (Kq.below (B := B) hbx (by omega))
    have HB0 := hd (Blk.new w #[.slice ua un uc, .string ⟨t.toArray⟩, .nilIface, .slice va vn vc, .bool false, .int .i64 0] 109)
    clear h he hbx
    by_cases hr0 : r = []
    · have hvn : vn = 0 := by rw [HVN.out, hr0]; rfl
      subst hvn
      have HF : Hid ((Px.St.select i t o r none).pt = Px.kwT Px.kSELECT :: (Px.sepT (i.map Px.itemT) ++ Px.kwT Px.kFROM :: Px.nmT t :: (Px.whereT o ++ []))) := by show _ = _; rw [HF0.out, hr0]; simp [Px.ordersT, Px.limT]
      clear hr0
      go_enter Tryz.func71, Tryz.ntmps71
      go_wp2_with fail
      refine (d_put1g B _ _ l (Px.kwT Px.kSELECT) (by simp) HP0.out (pt0_kw _ (by decide) (by decide))).mono ?_
      rintro x w1 ho
      obtain ⟨k1, ⟨rfl, hb⟩ | ⟨rfl, hp1⟩⟩ := ho.cases
      · exact ⟨rfl, tlg (HK0.out.trans k1) hb (by simp [laa, HF.out] <;> rfl)⟩
      have HP1 := hd hp1
      have HK1 := hd (HK0.out.trans k1)
      have HE1 := hd (HE0.out.low k1.1 hB)
      have HB1 := hd (k1.blk HB0.out (by omega) (by decide))
      have c0_1 := HB1.out.cell 0
      simp at c0_1
      have hl1 := HB1.out.lt
      clear hp1 k1 ho
      go_wp2_with fail
      refine (d_listItem_any B hB base _ i hi w1 _ HP1.out HE1.out (HK1.out.own HO.out (by decide) HNE.out) HNE.out hin).mono ?_
      rintro x w2 ho
      obtain ⟨k2, ⟨rfl, hb⟩ | ⟨rfl, hp2⟩⟩ := ho.cases
      · exact ⟨rfl, tlg (HK1.out.trans k2) hb (by simp [laa, HF.out] <;> rfl)⟩
      have HP2 := hd hp2
      have HK2 := hd (HK1.out.trans k2)
      have HE2 := hd (HE1.out.low k2.1 hB)
      have HB2 := hd (k2.blk HB1.out (by omega) (by decide))
      have hl2 := HB2.out.lt
      clear hp2 k2 ho
      go_wp2_with fail
      refine (d_put1 B w2 _ (Px.kwT Px.kFROM) HP2.out (pt0_kw _ (by decide) (by decide))).mono ?_
      rintro x w3 ho
      obtain ⟨k3, ⟨rfl, hb⟩ | ⟨rfl, hp3⟩⟩ := ho.cases
      · exact ⟨rfl, tlg (HK2.out.trans k3) hb (by simp [laa, HF.out] <;> rfl)⟩
      have HP3 := hd hp3
      have HK3 := hd (HK2.out.trans k3)
      have HE3 := hd (HE2.out.low k3.1 hB)
      have HB3 := hd (k3.blk HB2.out (by omega) (by decide))
      have c1_3 := HB3.out.cell 1
      simp at c1_3
      have hl3 := HB3.out.lt
      clear hp3 k3 ho
      go_wp2_with fail
      refine (dpn B w3 _ t HP3.out HE3.out ht).mono ?_
      rintro x w4 ho
      obtain ⟨k4, ⟨rfl, hb⟩ | ⟨rfl, hp4⟩⟩ := ho.cases
      · exact ⟨rfl, tlg (HK3.out.trans k4) hb (by simp [laa, HF.out] <;> rfl)⟩
      have HP4 := hd hp4
      have HK4 := hd (HK3.out.trans k4)
      have HE4 := hd (HE3.out.low k4.1 hB)
      have HB4 := hd (k4.blk HB3.out (by omega) (by decide))
      have c2_4 := HB4.out.cell 2
      simp at c2_4
      have hl4 := HB4.out.lt
      clear hp4 k4 ho
      go_wp2_with fail
      refine (HWH.out w4 _ HP4.out HE4.out).mono ?_
      rintro x w5 ho
      obtain ⟨k5, ⟨rfl, hb⟩ | ⟨rfl, hp5⟩⟩ := ho.cases
      · exact ⟨rfl, tlg (HK4.out.trans k5) hb (by simp [laa, HF.out] <;> rfl)⟩
      have HP5 := hd hp5
      have HK5 := hd (HK4.out.trans k5)
      have HE5 := hd (HE4.out.low k5.1 hB)
      have HB5 := hd (k5.blk HB4.out (by omega) (by decide))
      have c3_5 := HB5.out.cell 3
      simp at c3_5
      have c4_5 := HB5.out.cell 4
      simp at c4_5
      have c5_5 := HB5.out.cell 5
      simp at c5_5
      have hl5 := HB5.out.lt
      clear hp5 k5 ho
      go_wp2_with fail
      go_end0
      exact POut.ok HK5.out (by have := HP5.out; simpa [laa, HF.out] using this)
    have hvn : (0 : Int) < (vn : Int) := by have := List.length_pos_iff.2 hr0; have := HVN.out; omega
    have HF : Hid ((Px.St.select i t o r none).pt = Px.kwT Px.kSELECT :: (Px.sepT (i.map Px.itemT) ++ Px.kwT Px.kFROM :: Px.nmT t :: (Px.whereT o ++ (Px.kwT Px.kORDER :: Px.kwT Px.kBY :: (Px.sepT (r.map Px.orderT) ++ []))))) := by
     show _ = _
     rw [HF0.out]
     cases r with
     | nil => exact absurd rfl hr0
     | cons a r => simp [Px.ordersT, Px.limT]
    clear hr0
    go_enter Tryz.func71, Tryz.ntmps71
    go_wp2_with fail
    refine (d_put1g B _ _ l (Px.kwT Px.kSELECT) (by simp) HP0.out (pt0_kw _ (by decide) (by decide))).mono ?_
    rintro x w1 ho
    obtain ⟨k1, ⟨rfl, hb⟩ | ⟨rfl, hp1⟩⟩ := ho.cases
    · exact ⟨rfl, tlg (HK0.out.trans k1) hb (by simp [laa, HF.out] <;> rfl)⟩
    have HP1 := hd hp1
    have HK1 := hd (HK0.out.trans k1)
    have HE1 := hd (HE0.out.low k1.1 hB)
    have HB1 := hd (k1.blk HB0.out (by omega) (by decide))
    have c0_1 := HB1.out.cell 0
    simp at c0_1
    have hl1 := HB1.out.lt
    clear hp1 k1 ho
    go_wp2_with fail
    refine (d_listItem_any B hB base _ i hi w1 _ HP1.out HE1.out (HK1.out.own HO.out (by decide) HNE.out) HNE.out hin).mono ?_
    rintro x w2 ho
    obtain ⟨k2, ⟨rfl, hb⟩ | ⟨rfl, hp2⟩⟩ := ho.cases
    · exact ⟨rfl, tlg (HK1.out.trans k2) hb (by simp [laa, HF.out] <;> rfl)⟩
    have HP2 := hd hp2
    have HK2 := hd (HK1.out.trans k2)
    have HE2 := hd (HE1.out.low k2.1 hB)
    have HB2 := hd (k2.blk HB1.out (by omega) (by decide))
    have hl2 := HB2.out.lt
    clear hp2 k2 ho
    go_wp2_with fail
    refine (d_put1 B w2 _ (Px.kwT Px.kFROM) HP2.out (pt0_kw _ (by decide) (by decide))).mono ?_
    rintro x w3 ho
    obtain ⟨k3, ⟨rfl, hb⟩ | ⟨rfl, hp3⟩⟩ := ho.cases
    · exact ⟨rfl, tlg (HK2.out.trans k3) hb (by simp [laa, HF.out] <;> rfl)⟩
    have HP3 := hd hp3
    have HK3 := hd (HK2.out.trans k3)
    have HE3 := hd (HE2.out.low k3.1 hB)
    have HB3 := hd (k3.blk HB2.out (by omega) (by decide))
    have c1_3 := HB3.out.cell 1
    simp at c1_3
    have hl3 := HB3.out.lt
    clear hp3 k3 ho
    go_wp2_with fail
    refine (dpn B w3 _ t HP3.out HE3.out ht).mono ?_
    rintro x w4 ho
    obtain ⟨k4, ⟨rfl, hb⟩ | ⟨rfl, hp4⟩⟩ := ho.cases
    · exact ⟨rfl, tlg (HK3.out.trans k4) hb (by simp [laa, HF.out] <;> rfl)⟩
    have HP4 := hd hp4
    have HK4 := hd (HK3.out.trans k4)
    have HE4 := hd (HE3.out.low k4.1 hB)
    have HB4 := hd (k4.blk HB3.out (by omega) (by decide))
    have c2_4 := HB4.out.cell 2
    simp at c2_4
    have hl4 := HB4.out.lt
    clear hp4 k4 ho
    go_wp2_with fail
    refine (HWH.out w4 _ HP4.out HE4.out).mono ?_
    rintro x w5 ho
    obtain ⟨k5, ⟨rfl, hb⟩ | ⟨rfl, hp5⟩⟩ := ho.cases
    · exact ⟨rfl, tlg (HK4.out.trans k5) hb (by simp [laa, HF.out] <;> rfl)⟩
    have HP5 := hd hp5
    have HK5 := hd (HK4.out.trans k5)
    have HE5 := hd (HE4.out.low k5.1 hB)
    have HB5 := hd (k5.blk HB4.out (by omega) (by decide))
    have c3_5 := HB5.out.cell 3
    simp at c3_5
    have hl5 := HB5.out.lt
    clear hp5 k5 ho
    go_wp2_with fail
    refine (d_put2 B w5 _ (Px.kwT Px.kORDER) (Px.kwT Px.kBY) HP5.out (pt0_kw _ (by decide) (by decide)) (pt0_kw _ (by decide) (by decide))).mono ?_
    rintro x w6 ho
    obtain ⟨k6, ⟨rfl, hb⟩ | ⟨rfl, hp6⟩⟩ := ho.cases
    · exact ⟨rfl, tlg (HK5.out.trans k6) hb (by simp [laa, HF.out] <;> rfl)⟩
    have HP6 := hd hp6
    have HK6 := hd (HK5.out.trans k6)
    have HE6 := hd (HE5.out.low k6.1 hB)
    have HB6 := hd (k6.blk HB5.out (by omega) (by decide))
    have c3_6 := HB6.out.cell 3
    simp at c3_6
    have hl6 := HB6.out.lt
    clear hp6 k6 ho
    go_wp2_with fail
    refine (d_listOrder_any B hB base _ r hr w6 _ HP6.out HE6.out (HK6.out.own HO2.out (by decide) HNE2.out) HNE2.out hrn).mono ?_
    rintro x w7 ho
    obtain ⟨k7, ⟨rfl, hb⟩ | ⟨rfl, hp7⟩⟩ := ho.cases
    · exact ⟨rfl, tlg (HK6.out.trans k7) hb (by simp [laa, HF.out] <;> rfl)⟩
    have HP7 := hd hp7
    have HK7 := hd (HK6.out.trans k7)
    have HE7 := hd (HE6.out.low k7.1 hB)
    have HB7 := hd (k7.blk HB6.out (by omega) (by decide))
    have c4_7 := HB7.out.cell 4
    simp at c4_7
    have c5_7 := HB7.out.cell 5
    simp at c5_7
    have hl7 := HB7.out.lt
    clear hp7 k7 ho
    go_wp2_with fail
    go_end0
    exact POut.ok HK7.out (by have := HP7.out; simpa [laa, HF.out] using this)
   | some n =>
    show Calls _ _ #[_, .agg #[_, _, _, _, .bool true, .int .i64 (n : Int)]] _ _
    have hn9 := HLM.out n rfl
    have hbx : Below w.heap.size w (w.alloc (.cells #[.slice ua un uc, .string ⟨t.toArray⟩, .nilIface, .slice va vn vc, .bool true, .int .i64 (n : Int)] 109)) := (Below.refl _ _).alloc (nlr _) _
    have HP0 := hd (h.below hbx)
    have HE0 := hd (he.below hbx)
    have HK0 := hd (Kq.below (B := B) hbx (by omega))
    have HB0 := hd (Blk.new w #[.slice ua un uc, .string ⟨t.toArray⟩, .nilIface, .slice va vn vc, .bool true, .int .i64 (n : Int)] 109)
    clear h he hbx
    by_cases hr0 : r = []
    · have hvn : vn = 0 := by rw [HVN.out, hr0]; rfl
      subst hvn
      have HF : Hid ((Px.St.select i t o r (some n)).pt = Px.kwT Px.kSELECT :: (Px.sepT (i.map Px.itemT) ++ Px.kwT Px.kFROM :: Px.nmT t :: (Px.whereT o ++ [Px.kwT Px.kLIMIT, Px.dgT n]))) := by show _ = _; rw [HF0.out, hr0]; simp [Px.ordersT, Px.limT]
      clear hr0
      go_enter Tryz.func71, Tryz.ntmps71
      go_wp2_with fail
      refine (d_put1g B _ _ l (Px.kwT Px.kSELECT) (by simp) HP0.out (pt0_kw _ (by decide) (by decide))).mono ?_
      rintro x w1 ho
      obtain ⟨k1, ⟨rfl, hb⟩ | ⟨rfl, hp1⟩⟩ := ho.cases
      · exact ⟨rfl, tlg (HK0.out.trans k1) hb (by simp [laa, HF.out] <;> rfl)⟩
      have HP1 := hd hp1
      have HK1 := hd (HK0.out.trans k1)
      have HE1 := hd (HE0.out.low k1.1 hB)
      have HB1 := hd (k1.blk HB0.out (by omega) (by decide))
      have c0_1 := HB1.out.cell 0
      simp at c0_1
      have hl1 := HB1.out.lt
      clear hp1 k1 ho
      go_wp2_with fail
      refine (d_listItem_any B hB base _ i hi w1 _ HP1.out HE1.out (HK1.out.own HO.out (by decide) HNE.out) HNE.out hin).mono ?_
      rintro x w2 ho
      obtain ⟨k2, ⟨rfl, hb⟩ | ⟨rfl, hp2⟩⟩ := ho.cases
      · exact ⟨rfl, tlg (HK1.out.trans k2) hb (by simp [laa, HF.out] <;> rfl)⟩
      have HP2 := hd hp2
      have HK2 := hd (HK1.out.trans k2)
      have HE2 := hd (HE1.out.low k2.1 hB)
      have HB2 := hd (k2.blk HB1.out (by omega) (by decide))
      have hl2 := HB2.out.lt
      clear hp2 k2 ho
      go_wp2_with fail
      refine (d_put1 B w2 _ (Px.kwT Px.kFROM) HP2.out (pt0_kw _ (by decide) (by decide))).mono ?_
      rintro x w3 ho
      obtain ⟨k3, ⟨rfl, hb⟩ | ⟨rfl, hp3⟩⟩ := ho.cases
      · exact ⟨rfl, tlg (HK2.out.trans k3) hb (by simp [laa, HF.out] <;> rfl)⟩
      have HP3 := hd hp3
      have HK3 := hd (HK2.out.trans k3)
      have HE3 := hd (HE2.out.low k3.1 hB)
      have HB3 := hd (k3.blk HB2.out (by omega) (by decide))
      have c1_3 := HB3.out.cell 1
      simp at c1_3
      have hl3 := HB3.out.lt
      clear hp3 k3 ho
      go_wp2_with fail
      refine (dpn B w3 _ t HP3.out HE3.out ht).mono ?_
      rintro x w4 ho
      obtain ⟨k4, ⟨rfl, hb⟩ | ⟨rfl, hp4⟩⟩ := ho.cases
      · exact ⟨rfl, tlg (HK3.out.trans k4) hb (by simp [laa, HF.out] <;> rfl)⟩
      have HP4 := hd hp4
      have HK4 := hd (HK3.out.trans k4)
      have HE4 := hd (HE3.out.low k4.1 hB)
      have HB4 := hd (k4.blk HB3.out (by omega) (by decide))
      have c2_4 := HB4.out.cell 2
      simp at c2_4
      have hl4 := HB4.out.lt
      clear hp4 k4 ho
      go_wp2_with fail
      refine (HWH.out w4 _ HP4.out HE4.out).mono ?_
      rintro x w5 ho
      obtain ⟨k5, ⟨rfl, hb⟩ | ⟨rfl, hp5⟩⟩ := ho.cases
      · exact ⟨rfl, tlg (HK4.out.trans k5) hb (by simp [laa, HF.out] <;> rfl)⟩
      have HP5 := hd hp5
      have HK5 := hd (HK4.out.trans k5)
      have HE5 := hd (HE4.out.low k5.1 hB)
      have HB5 := hd (k5.blk HB4.out (by omega) (by decide))
      have c3_5 := HB5.out.cell 3
      simp at c3_5
      have c4_5 := HB5.out.cell 4
      simp at c4_5
      have c5_5 := HB5.out.cell 5
      simp at c5_5
      have hl5 := HB5.out.lt
      clear hp5 k5 ho
      go_wp2_with fail
      refine (Tryz.strconv_Itoa (n : Int) (by omega) (by omega) w5 HE5.out.tab).mono ?_
      rintro x wi ⟨rfl, kk, os, hw⟩
      have hbi : Below w5.heap.size w5 wi := by rw [hw]; exact Lib.below_grow _ _ (nlr _) kk os
      have HP9 := hd (HP5.out.below hbi)
      have HK9 := hd (HK5.out.more hbi (by have := HP5.out.lt; omega))
      have HE9 := hd (HE5.out.below hbi)
      rw [itoa_pos n (by omega)]
      clear hw hbi
      go_wp2_with fail
      refine (d_put2 B wi _ (Px.kwT Px.kLIMIT) (Px.dgT n) HP9.out (pt0_kw _ (by decide) (by decide)) (dgT_small n (by omega))).mono ?_
      rintro x w10 ho
      obtain ⟨k10, ⟨rfl, hb⟩ | ⟨rfl, hp10⟩⟩ := ho.cases
      · exact ⟨rfl, tlg (HK9.out.trans k10) hb (by simp [laa, HF.out] <;> rfl)⟩
      have HP10 := hd hp10
      have HK10 := hd (HK9.out.trans k10)
      have HE10 := hd (HE9.out.low k10.1 hB)
      clear hp10 k10 ho
      go_wp2_with fail
      go_end0
      exact POut.ok HK10.out (by have := HP10.out; simpa [laa, HF.out] using this)
    have hvn : (0 : Int) < (vn : Int) := by have := List.length_pos_iff.2 hr0; have := HVN.out; omega
    have HF : Hid ((Px.St.select i t o r (some n)).pt = Px.kwT Px.kSELECT :: (Px.sepT (i.map Px.itemT) ++ Px.kwT Px.kFROM :: Px.nmT t :: (Px.whereT o ++ (Px.kwT Px.kORDER :: Px.kwT Px.kBY :: (Px.sepT (r.map Px.orderT) ++ [Px.kwT Px.kLIMIT, Px.dgT n]))))) := by
     show _ = _
     rw [HF0.out]
     cases r with
     | nil => exact absurd rfl hr0
     | cons a r => simp [Px.ordersT, Px.limT]
    clear hr0
    go_enter Tryz.func71, Tryz.ntmps71
    go_wp2_with fail
    refine (d_put1g B _ _ l (Px.kwT Px.kSELECT) (by simp) HP0.out (pt0_kw _ (by decide) (by decide))).mono ?_
    rintro x w1 ho
    obtain ⟨k1, ⟨rfl, hb⟩ | ⟨rfl, hp1⟩⟩ := ho.cases
    · exact ⟨rfl, tlg (HK0.out.trans k1) hb (by simp [laa, HF.out] <;> rfl)⟩
    have HP1 := hd hp1
    have HK1 := hd (HK0.out.trans k1)
    have HE1 := hd (HE0.out.low k1.1 hB)
    have HB1 := hd (k1.blk HB0.out (by omega) (by decide))
    have c0_1 := HB1.out.cell 0
    simp at c0_1
    have hl1 := HB1.out.lt
    clear hp1 k1 ho
    go_wp2_with fail
    refine (d_listItem_any B hB base _ i hi w1 _ HP1.out HE1.out (HK1.out.own HO.out (by decide) HNE.out) HNE.out hin).mono ?_
    rintro x w2 ho
    obtain ⟨k2, ⟨rfl, hb⟩ | ⟨rfl, hp2⟩⟩ := ho.cases
    · exact ⟨rfl, tlg (HK1.out.trans k2) hb (by simp [laa, HF.out] <;> rfl)⟩
    have HP2 := hd hp2
    have HK2 := hd (HK1.out.trans k2)
    have HE2 := hd (HE1.out.low k2.1 hB)
    have HB2 := hd (k2.blk HB1.out (by omega) (by decide))
    have hl2 := HB2.out.lt
    clear hp2 k2 ho
    go_wp2_with fail
    refine (d_put1 B w2 _ (Px.kwT Px.kFROM) HP2.out (pt0_kw _ (by decide) (by decide))).mono ?_
    rintro x w3 ho
    obtain ⟨k3, ⟨rfl, hb⟩ | ⟨rfl, hp3⟩⟩ := ho.cases
    · exact ⟨rfl, tlg (HK2.out.trans k3) hb (by simp [laa, HF.out] <;> rfl)⟩
    have HP3 := hd hp3
    have HK3 := hd (HK2.out.trans k3)
    have HE3 := hd (HE2.out.low k3.1 hB)
    have HB3 := hd (k3.blk HB2.out (by omega) (by decide))
    have c1_3 := HB3.out.cell 1
    simp at c1_3
    have hl3 := HB3.out.lt
    clear hp3 k3 ho
    go_wp2_with fail
    refine (dpn B w3 _ t HP3.out HE3.out ht).mono ?_
    rintro x w4 ho
    obtain ⟨k4, ⟨rfl, hb⟩ | ⟨rfl, hp4⟩⟩ := ho.cases
    · exact ⟨rfl, tlg (HK3.out.trans k4) hb (by simp [laa, HF.out] <;> rfl)⟩
    have HP4 := hd hp4
    have HK4 := hd (HK3.out.trans k4)
    have HE4 := hd (HE3.out.low k4.1 hB)
    have HB4 := hd (k4.blk HB3.out (by omega) (by decide))
    have c2_4 := HB4.out.cell 2
    simp at c2_4
    have hl4 := HB4.out.lt
    clear hp4 k4 ho
    go_wp2_with fail
    refine (HWH.out w4 _ HP4.out HE4.out).mono ?_
    rintro x w5 ho
    obtain ⟨k5, ⟨rfl, hb⟩ | ⟨rfl, hp5⟩⟩ := ho.cases
    · exact ⟨rfl, tlg (HK4.out.trans k5) hb (by simp [laa, HF.out] <;> rfl)⟩
    have HP5 := hd hp5
    have HK5 := hd (HK4.out.trans k5)
    have HE5 := hd (HE4.out.low k5.1 hB)
    have HB5 := hd (k5.blk HB4.out (by omega) (by decide))
    have c3_5 := HB5.out.cell 3
    simp at c3_5
    have hl5 := HB5.out.lt
    clear hp5 k5 ho
    go_wp2_with fail
    refine (d_put2 B w5 _ (Px.kwT Px.kORDER) (Px.kwT Px.kBY) HP5.out (pt0_kw _ (by decide) (by decide)) (pt0_kw _ (by decide) (by decide))).mono ?_
    rintro x w6 ho
    obtain ⟨k6, ⟨rfl, hb⟩ | ⟨rfl, hp6⟩⟩ := ho.cases
    · exact ⟨rfl, tlg (HK5.out.trans k6) hb (by simp [laa, HF.out] <;> rfl)⟩
    have HP6 := hd hp6
    have HK6 := hd (HK5.out.trans k6)
    have HE6 := hd (HE5.out.low k6.1 hB)
    have HB6 := hd (k6.blk HB5.out (by omega) (by decide))
    have c3_6 := HB6.out.cell 3
    simp at c3_6
    have hl6 := HB6.out.lt
    clear hp6 k6 ho
    go_wp2_with fail
    refine (d_listOrder_any B hB base _ r hr w6 _ HP6.out HE6.out (HK6.out.own HO2.out (by decide) HNE2.out) HNE2.out hrn).mono ?_
    rintro x w7 ho
    obtain ⟨k7, ⟨rfl, hb⟩ | ⟨rfl, hp7⟩⟩ := ho.cases
    · exact ⟨rfl, tlg (HK6.out.trans k7) hb (by simp [laa, HF.out] <;> rfl)⟩
    have HP7 := hd hp7
    have HK7 := hd (HK6.out.trans k7)
    have HE7 := hd (HE6.out.low k7.1 hB)
    have HB7 := hd (k7.blk HB6.out (by omega) (by decide))
    have c4_7 := HB7.out.cell 4
    simp at c4_7
    have c5_7 := HB7.out.cell 5
    simp at c5_7
    have hl7 := HB7.out.lt
    clear hp7 k7 ho
    go_wp2_with fail
    refine (Tryz.strconv_Itoa (n : Int) (by omega) (by omega) w7 HE7.out.tab).mono ?_
    rintro x wi ⟨rfl, kk, os, hw⟩
    have hbi : Below w7.heap.size w7 wi := by rw [hw]; exact Lib.below_grow _ _ (nlr _) kk os
    have HP9 := hd (HP7.out.below hbi)
    have HK9 := hd (HK7.out.more hbi (by have := HP7.out.lt; omega))
    have HE9 := hd (HE7.out.below hbi)
    rw [itoa_pos n (by omega)]
    clear hw hbi
    go_wp2_with fail
    refine (d_put2 B wi _ (Px.kwT Px.kLIMIT) (Px.dgT n) HP9.out (pt0_kw _ (by decide) (by decide)) (dgT_small n (by omega))).mono ?_
    rintro x w10 ho
    obtain ⟨k10, ⟨rfl, hb⟩ | ⟨rfl, hp10⟩⟩ := ho.cases
    · exact ⟨rfl, tlg (HK9.out.trans k10) hb (by simp [laa, HF.out] <;> rfl)⟩
    have HP10 := hd hp10
    have HK10 := hd (HK9.out.trans k10)
    have HE10 := hd (HE9.out.low k10.1 hB)
    clear hp10 k10 ho
    go_wp2_with fail
    go_end0
    exact POut.ok HK10.out (by have := HP10.out; simpa [laa, HF.out] using this)
 cases lm with
 | none =>
  show Calls _ _ #[_, .agg #[_, _, _, _, .bool false, .int .i64 0]] _ _
  have hbx : Below w.heap.size w (w.alloc (.cells #[.slice ua un uc, .string ⟨t.toArray⟩, .iface et ex, .slice va vn vc, .bool false, .int .i64 0] 109)) := (Below.refl _ _).alloc (nlr _) _
  have HP0 := hd (h.below hbx)
  have HE0 := hd (he.below hbx)
  have HK0 := hd (Kq.below (B := B) hbx (by omega))
  have HB0 := hd (Blk.new w #[.slice ua un uc, .string ⟨t.toArray⟩, .iface et ex, .slice va vn vc, .bool false, .int .i64 0] 109)
  clear h he hbx
  by_cases hr0 : r = []
  · have hvn : vn = 0 := by rw [HVN.out, hr0]; rfl
    subst hvn
    have HF : Hid ((Px.St.select i t o r none).pt = Px.kwT Px.kSELECT :: (Px.sepT (i.map Px.itemT) ++ Px.kwT Px.kFROM :: Px.nmT t :: (Px.whereT o ++ []))) := by show _ = _; rw [HF0.out, hr0]; simp [Px.ordersT, Px.limT]
    clear hr0
    go_enter Tryz.func71, Tryz.ntmps71
    go_wp2_with fail
    refine (d_put1g B _ _ l (Px.kwT Px.kSELECT) (by simp) HP0.out (pt0_kw _ (by decide) (by decide))).mono ?_
    rintro x w1 ho
    obtain ⟨k1, ⟨rfl, hb⟩ | ⟨rfl, hp1⟩⟩ := ho.cases
    · exact ⟨rfl, tlg (HK0.out.trans k1) hb (by simp [laa, HF.out] <;> rfl)⟩
    have HP1 := hd hp1
    have HK1 := hd (HK0.out.trans k1)
    have HE1 := hd (HE0.out.low k1.1 hB)
    have HB1 := hd (k1.blk HB0.out (by omega) (by decide))
    have c0_1 := HB1.out.cell 0
    simp at c0_1
    have hl1 := HB1.out.lt
    clear hp1 k1 ho
    go_wp2_with fail
    refine (d_listItem_any B hB base _ i hi w1 _ HP1.out HE1.out (HK1.out.own HO.out (by decide) HNE.out) HNE.out hin).mono ?_
    rintro x w2 ho
    obtain ⟨k2, ⟨rfl, hb⟩ | ⟨rfl, hp2⟩⟩ := ho.cases
    · exact ⟨rfl, tlg (HK1.out.trans k2) hb (by simp [laa, HF.out] <;> rfl)⟩
    have HP2 := hd hp2
    have HK2 := hd (HK1.out.trans k2)
    have HE2 := hd (HE1.out.low k2.1 hB)
    have HB2 := hd (k2.blk HB1.out (by omega) (by decide))
    have hl2 := HB2.out.lt
    clear hp2 k2 ho
    go_wp2_with fail
    refine (d_put1 B w2 _ (Px.kwT Px.kFROM) HP2.out (pt0_kw _ (by decide) (by decide))).mono ?_
    rintro x w3 ho
    obtain ⟨k3, ⟨rfl, hb⟩ | ⟨rfl, hp3⟩⟩ := ho.cases
    · exact ⟨rfl, tlg (HK2.out.trans k3) hb (by simp [laa, HF.out] <;> rfl)⟩
    have HP3 := hd hp3
    have HK3 := hd (HK2.out.trans k3)
    have HE3 := hd (HE2.out.low k3.1 hB)
    have HB3 := hd (k3.blk HB2.out (by omega) (by decide))
    have c1_3 := HB3.out.cell 1
    simp at c1_3
    have hl3 := HB3.out.lt
    clear hp3 k3 ho
    go_wp2_with fail
    refine (dpn B w3 _ t HP3.out HE3.out ht).mono ?_
    rintro x w4 ho
    obtain ⟨k4, ⟨rfl, hb⟩ | ⟨rfl, hp4⟩⟩ := ho.cases
    · exact ⟨rfl, tlg (HK3.out.trans k4) hb (by simp [laa, HF.out] <;> rfl)⟩
    have HP4 := hd hp4
    have HK4 := hd (HK3.out.trans k4)
    have HE4 := hd (HE3.out.low k4.1 hB)
    have HB4 := hd (k4.blk HB3.out (by omega) (by decide))
    have c2_4 := HB4.out.cell 2
    simp at c2_4
    have hl4 := HB4.out.lt
    clear hp4 k4 ho
    go_wp2_with fail
    refine (HWH.out w4 _ HP4.out HE4.out).mono ?_
    rintro x w5 ho
    obtain ⟨k5, ⟨rfl, hb⟩ | ⟨rfl, hp5⟩⟩ := ho.cases
    · exact ⟨rfl, tlg (HK4.out.trans k5) hb (by simp [laa, HF.out] <;> rfl)⟩
    have HP5 := hd hp5
    have HK5 := hd (HK4.out.trans k5)
    have HE5 := hd (HE4.out.low k5.1 hB)
    have HB5 := hd (k5.blk HB4.out (by omega) (by decide))
    have c3_5 := HB5.out.cell 3
    simp at c3_5
    have c4_5 := HB5.out.cell 4
    simp at c4_5
    have c5_5 := HB5.out.cell 5
    simp at c5_5
    have hl5 := HB5.out.lt
    clear hp5 k5 ho
    go_wp2_with fail
    go_end0
    exact POut.ok HK5.out (by have := HP5.out; simpa [laa, HF.out] using this)
  have hvn : (0 : Int) < (vn : Int) := by have := List.length_pos_iff.2 hr0; have := HVN.out; omega
  have HF : Hid ((Px.St.select i t o r none).pt = Px.kwT Px.kSELECT :: (Px.sepT (i.map Px.itemT) ++ Px.kwT Px.kFROM :: Px.nmT t :: (Px.whereT o ++ (Px.kwT Px.kORDER :: Px.kwT Px.kBY :: (Px.sepT (r.map Px.orderT) ++ []))))) := by
   show _ = _
   rw [HF0.out]
   cases r with
   | nil => exact absurd rfl hr0
   | cons a r => simp [Px.ordersT, Px.limT]
  clear hr0
  go_enter Tryz.func71, Tryz.ntmps71
  go_wp2_with fail
  refine (d_put1g B _ _ l (Px.kwT Px.kSELECT) (by simp) HP0.out (pt0_kw _ (by decide) (by decide))).mono ?_
  rintro x w1 ho
  obtain ⟨k1, ⟨rfl, hb⟩ | ⟨rfl, hp1⟩⟩ := ho.cases
  · exact ⟨rfl, tlg (HK0.out.trans k1) hb (by simp [laa, HF.out] <;> rfl)⟩
  have HP1 := hd hp1
  have HK1 := hd (HK0.out.trans k1)
  have HE1 := hd (HE0.out.low k1.1 hB)
  have HB1 := hd (k1.blk HB0.out (by omega) (by decide))
  have c0_1 := HB1.out.cell 0
  simp at c0_1
  have hl1 := HB1.out.lt
  clear hp1 k1 ho
  go_wp2_with fail
  refine (d_listItem_any B hB base _ i hi w1 _ HP1.out HE1.out (HK1.out.own HO.out (by decide) HNE.out) HNE.out hin).mono ?_
  rintro x w2 ho
  obtain ⟨k2, ⟨rfl, hb⟩ | ⟨rfl, hp2⟩⟩ := ho.cases
  · exact ⟨rfl, tlg (HK1.out.trans k2) hb (by simp [laa, HF.out] <;> rfl)⟩
  have HP2 := hd hp2
  have HK2 := hd (HK1.out.trans k2)
  have HE2 := hd (HE1.out.low k2.1 hB)
  have HB2 := hd (k2.blk HB1.out (by omega) (by decide))
  have hl2 := HB2.out.lt
  clear hp2 k2 ho
  go_wp2_with fail
  refine (d_put1 B w2 _ (Px.kwT Px.kFROM) HP2.out (pt0_kw _ (by decide) (by decide))).mono ?_
  rintro x w3 ho
  obtain ⟨k3, ⟨rfl, hb⟩ | ⟨rfl, hp3⟩⟩ := ho.cases
  · exact ⟨rfl, tlg (HK2.out.trans k3) hb (by simp [laa, HF.out] <;> rfl)⟩
  have HP3 := hd hp3
  have HK3 := hd (HK2.out.trans k3)
  have HE3 := hd (HE2.out.low k3.1 hB)
  have HB3 := hd (k3.blk HB2.out (by omega) (by decide))
  have c1_3 := HB3.out.cell 1
  simp at c1_3
  have hl3 := HB3.out.lt
  clear hp3 k3 ho
  go_wp2_with fail
  refine (dpn B w3 _ t HP3.out HE3.out ht).mono ?_
  rintro x w4 ho
  obtain ⟨k4, ⟨rfl, hb⟩ | ⟨rfl, hp4⟩⟩ := ho.cases
  · exact ⟨rfl, tlg (HK3.out.trans k4) hb (by simp [laa, HF.out] <;> rfl)⟩
  have HP4 := hd hp4
  have HK4 := hd (HK3.out.trans k4)
  have HE4 := hd (HE3.out.low k4.1 hB)
  have HB4 := hd (k4.blk HB3.out (by omega) (by decide))
  have c2_4 := HB4.out.cell 2
  simp at c2_4
  have hl4 := HB4.out.lt
  clear hp4 k4 ho
  go_wp2_with fail
  refine (HWH.out w4 _ HP4.out HE4.out).mono ?_
  rintro x w5 ho
  obtain ⟨k5, ⟨rfl, hb⟩ | ⟨rfl, hp5⟩⟩ := ho.cases
  · exact ⟨rfl, tlg (HK4.out.trans k5) hb (by simp [laa, HF.out] <;> rfl)⟩
  have HP5 := hd hp5
  have HK5 := hd (HK4.out.trans k5)
  have HE5 := hd (HE4.out.low k5.1 hB)
  have HB5 := hd (k5.blk HB4.out (by omega) (by decide))
  have c3_5 := HB5.out.cell 3
  simp at c3_5
  have hl5 := HB5.out.lt
  clear hp5 k5 ho
  go_wp2_with fail
  refine (d_put2 B w5 _ (Px.kwT Px.kORDER) (Px.kwT Px.kBY) HP5.out (pt0_kw _ (by decide) (by decide)) (pt0_kw _ (by decide) (by decide))).mono ?_
  rintro x w6 ho
  obtain ⟨k6, ⟨rfl, hb⟩ | ⟨rfl, hp6⟩⟩ := ho.cases
  · exact ⟨rfl, tlg (HK5.out.trans k6) hb (by simp [laa, HF.out] <;> rfl)⟩
  have HP6 := hd hp6
  have HK6 := hd (HK5.out.trans k6)
  have HE6 := hd (HE5.out.low k6.1 hB)
  have HB6 := hd (k6.blk HB5.out (by omega) (by decide))
  have c3_6 := HB6.out.cell 3
  simp at c3_6
  have hl6 := HB6.out.lt
  clear hp6 k6 ho
  go_wp2_with fail
  refine (d_listOrder_any B hB base _ r hr w6 _ HP6.out HE6.out (HK6.out.own HO2.out (by decide) HNE2.out) HNE2.out hrn).mono ?_
  rintro x w7 ho
  obtain ⟨k7, ⟨rfl, hb⟩ | ⟨rfl, hp7⟩⟩ := ho.cases
  · exact ⟨rfl, tlg (HK6.out.trans k7) hb (by simp [laa, HF.out] <;> rfl)⟩
  have HP7 := hd hp7
  have HK7 := hd (HK6.out.trans k7)
  have HE7 := hd (HE6.out.low k7.1 hB)
  have HB7 := hd (k7.blk HB6.out (by omega) (by decide))
  have c4_7 := HB7.out.cell 4
  simp at c4_7
  have c5_7 := HB7.out.cell 5
  simp at c5_7
  have hl7 := HB7.out.lt
  clear hp7 k7 ho
  go_wp2_with fail
  go_end0
  exact POut.ok HK7.out (by have := HP7.out; simpa [laa, HF.out] using this)
 | some n =>
  show Calls _ _ #[_, .agg #[_, _, _, _, .bool true, .int .i64 (n : Int)]] _ _
  have hn9 := HLM.out n rfl
  have hbx : Below w.heap.size w (w.alloc (.cells #[.slice ua un uc, .string ⟨t.toArray⟩, .iface et ex, .slice va vn vc, .bool true, .int .i64 (n : Int)] 109)) := (Below.refl _ _).alloc (nlr _) _
  have HP0 := hd (h.below hbx)
  have HE0 := hd (he.below hbx)
  have HK0 := hd (Kq.below (B := B) hbx (by omega))
  have HB0 := hd (Blk.new w #[.slice ua un uc, .string ⟨t.toArray⟩, .iface et ex, .slice va vn vc, .bool true, .int .i64 (n : Int)] 109)
  clear h he hbx
  by_cases hr0 : r = []
  · have hvn : vn = 0 := by rw [HVN.out, hr0]; rfl
    subst hvn
    have HF : Hid ((Px.St.select i t o r (some n)).pt = Px.kwT Px.kSELECT :: (Px.sepT (i.map Px.itemT) ++ Px.kwT Px.kFROM :: Px.nmT t :: (Px.whereT o ++ [Px.kwT Px.kLIMIT, Px.dgT n]))) := by show _ = _; rw [HF0.out, hr0]; simp [Px.ordersT, Px.limT]
    clear hr0
    go_enter Tryz.func71, Tryz.ntmps71
    go_wp2_with fail
    refine (d_put1g B _ _ l (Px.kwT Px.kSELECT) (by simp) HP0.out (pt0_kw _ (by decide) (by decide))).mono ?_
    rintro x w1 ho
    obtain ⟨k1, ⟨rfl, hb⟩ | ⟨rfl, hp1⟩⟩ := ho.cases
    · exact ⟨rfl, tlg (HK0.out.trans k1) hb (by simp [laa, HF.out] <;> rfl)⟩
    have HP1 := hd hp1
    have HK1 := hd (HK0.out.trans k1)
    have HE1 := hd (HE0.out.low k1.1 hB)
    have HB1 := hd (k1.blk HB0.out (by omega) (by decide))
    have c0_1 := HB1.out.cell 0
    simp at c0_1
    have hl1 := HB1.out.lt
    clear hp1 k1 ho
    go_wp2_with fail
    refine (d_listItem_any B hB base _ i hi w1 _ HP1.out HE1.out (HK1.out.own HO.out (by decide) HNE.out) HNE.out hin).mono ?_
    rintro x w2 ho
    obtain ⟨k2, ⟨rfl, hb⟩ | ⟨rfl, hp2⟩⟩ := ho.cases
    · exact ⟨rfl, tlg (HK1.out.trans k2) hb (by simp [laa, HF.out] <;> rfl)⟩
    have HP2 := hd hp2
    have HK2 := hd (HK1.out.trans k2)
    have HE2 := hd (HE1.out.low k2.1 hB)
    have HB2 := hd (k2.blk HB1.out (by omega) (by decide))
    have hl2 := HB2.out.lt
    clear hp2 k2 ho
    go_wp2_with fail
    refine (d_put1 B w2 _ (Px.kwT Px.kFROM) HP2.out (pt0_kw _ (by decide) (by decide))).mono ?_
    rintro x w3 ho
    obtain ⟨k3, ⟨rfl, hb⟩ | ⟨rfl, hp3⟩⟩ := ho.cases
    · exact ⟨rfl, tlg (HK2.out.trans k3) hb (by simp [laa, HF.out] <;> rfl)⟩
    have HP3 := hd hp3
    have HK3 := hd (HK2.out.trans k3)
    have HE3 := hd (HE2.out.low k3.1 hB)
    have HB3 := hd (k3.blk HB2.out (by omega) (by decide))
    have c1_3 := HB3.out.cell 1
    simp at c1_3
    have hl3 := HB3.out.lt
    clear hp3 k3 ho
    go_wp2_with fail
    refine (dpn B w3 _ t HP3.out HE3.out ht).mono ?_
    rintro x w4 ho
    obtain ⟨k4, ⟨rfl, hb⟩ | ⟨rfl, hp4⟩⟩ := ho.cases
    · exact ⟨rfl, tlg (HK3.out.trans k4) hb (by simp [laa, HF.out] <;> rfl)⟩
    have HP4 := hd hp4
    have HK4 := hd (HK3.out.trans k4)
    have HE4 := hd (HE3.out.low k4.1 hB)
    have HB4 := hd (k4.blk HB3.out (by omega) (by decide))
    have c2_4 := HB4.out.cell 2
    simp at c2_4
    have hl4 := HB4.out.lt
    clear hp4 k4 ho
    go_wp2_with fail
    refine (HWH.out w4 _ HP4.out HE4.out).mono ?_
    rintro x w5 ho
    obtain ⟨k5, ⟨rfl, hb⟩ | ⟨rfl, hp5⟩⟩ := ho.cases
    · exact ⟨rfl, tlg (HK4.out.trans k5) hb (by simp [laa, HF.out] <;> rfl)⟩
    have HP5 := hd hp5
    have HK5 := hd (HK4.out.trans k5)
    have HE5 := hd (HE4.out.low k5.1 hB)
    have HB5 := hd (k5.blk HB4.out (by omega) (by decide))
    have c3_5 := HB5.out.cell 3
    simp at c3_5
    have c4_5 := HB5.out.cell 4
    simp at c4_5
    have c5_5 := HB5.out.cell 5
    simp at c5_5
    have hl5 := HB5.out.lt
    clear hp5 k5 ho
    go_wp2_with fail
    refine (Tryz.strconv_Itoa (n : Int) (by omega) (by omega) w5 HE5.out.tab).mono ?_
    rintro x wi ⟨rfl, kk, os, hw⟩
    have hbi : Below w5.heap.size w5 wi := by rw [hw]; exact Lib.below_grow _ _ (nlr _) kk os
    have HP9 := hd (HP5.out.below hbi)
    have HK9 := hd (HK5.out.more hbi (by have := HP5.out.lt; omega))
    have HE9 := hd (HE5.out.below hbi)
    rw [itoa_pos n (by omega)]
    clear hw hbi
    go_wp2_with fail
    refine (d_put2 B wi _ (Px.kwT Px.kLIMIT) (Px.dgT n) HP9.out (pt0_kw _ (by decide) (by decide)) (dgT_small n (by omega))).mono ?_
    rintro x w10 ho
    obtain ⟨k10, ⟨rfl, hb⟩ | ⟨rfl, hp10⟩⟩ := ho.cases
    · exact ⟨rfl, tlg (HK9.out.trans k10) hb (by simp [laa, HF.out] <;> rfl)⟩
    have HP10 := hd hp10
    have HK10 := hd (HK9.out.trans k10)
    have HE10 := hd (HE9.out.low k10.1 hB)
    clear hp10 k10 ho
    go_wp2_with fail
    go_end0
    exact POut.ok HK10.out (by have := HP10.out; simpa [laa, HF.out] using this)
  have hvn : (0 : Int) < (vn : Int) := by have := List.length_pos_iff.2 hr0; have := HVN.out; omega
  have HF : Hid ((Px.St.select i t o r (some n)).pt = Px.kwT Px.kSELECT :: (Px.sepT (i.map Px.itemT) ++ Px.kwT Px.kFROM :: Px.nmT t :: (Px.whereT o ++ (Px.kwT Px.kORDER :: Px.kwT Px.kBY :: (Px.sepT (r.map Px.orderT) ++ [Px.kwT Px.kLIMIT, Px.dgT n]))))) := by
   show _ = _
   rw [HF0.out]
   cases r with
   | nil => exact absurd rfl hr0
   | cons a r => simp [Px.ordersT, Px.limT]
  clear hr0
  go_enter Tryz.func71, Tryz.ntmps71
  go_wp2_with fail
  refine (d_put1g B _ _ l (Px.kwT Px.kSELECT) (by simp) HP0.out (pt0_kw _ (by decide) (by decide))).mono ?_
  rintro x w1 ho
  obtain ⟨k1, ⟨rfl, hb⟩ | ⟨rfl, hp1⟩⟩ := ho.cases
  · exact ⟨rfl, tlg (HK0.out.trans k1) hb (by simp [laa, HF.out] <;> rfl)⟩
  have HP1 := hd hp1
  have HK1 := hd (HK0.out.trans k1)
  have HE1 := hd (HE0.out.low k1.1 hB)
  have HB1 := hd (k1.blk HB0.out (by omega) (by decide))
  have c0_1 := HB1.out.cell 0
  simp at c0_1
  have hl1 := HB1.out.lt
  clear hp1 k1 ho
  go_wp2_with fail
  refine (d_listItem_any B hB base _ i hi w1 _ HP1.out HE1.out (HK1.out.own HO.out (by decide) HNE.out) HNE.out hin).mono ?_
  rintro x w2 ho
  obtain ⟨k2, ⟨rfl, hb⟩ | ⟨rfl, hp2⟩⟩ := ho.cases
  · exact ⟨rfl, tlg (HK1.out.trans k2) hb (by simp [laa, HF.out] <;> rfl)⟩
  have HP2 := hd hp2
  have HK2 := hd (HK1.out.trans k2)
  have HE2 := hd (HE1.out.low k2.1 hB)
  have HB2 := hd (k2.blk HB1.out (by omega) (by decide))
  have hl2 := HB2.out.lt
  clear hp2 k2 ho
  go_wp2_with fail
  refine (d_put1 B w2 _ (Px.kwT Px.kFROM) HP2.out (pt0_kw _ (by decide) (by decide))).mono ?_
  rintro x w3 ho
  obtain ⟨k3, ⟨rfl, hb⟩ | ⟨rfl, hp3⟩⟩ := ho.cases
  · exact ⟨rfl, tlg (HK2.out.trans k3) hb (by simp [laa, HF.out] <;> rfl)⟩
  have HP3 := hd hp3
  have HK3 := hd (HK2.out.trans k3)
  have HE3 := hd (HE2.out.low k3.1 hB)
  have HB3 := hd (k3.blk HB2.out (by omega) (by decide))
  have c1_3 := HB3.out.cell 1
  simp at c1_3
  have hl3 := HB3.out.lt
  clear hp3 k3 ho
  go_wp2_with fail
  refine (dpn B w3 _ t HP3.out HE3.out ht).mono ?_
  rintro x w4 ho
  obtain ⟨k4, ⟨rfl, hb⟩ | ⟨rfl, hp4⟩⟩ := ho.cases
  · exact ⟨rfl, tlg (HK3.out.trans k4) hb (by simp [laa, HF.out] <;> rfl)⟩
  have HP4 := hd hp4
  have HK4 := hd (HK3.out.trans k4)
  have HE4 := hd (HE3.out.low k4.1 hB)
  have HB4 := hd (k4.blk HB3.out (by omega) (by decide))
  have c2_4 := HB4.out.cell 2
  simp at c2_4
  have hl4 := HB4.out.lt
  clear hp4 k4 ho
  go_wp2_with fail
  refine (HWH.out w4 _ HP4.out HE4.out).mono ?_
  rintro x w5 ho
  obtain ⟨k5, ⟨rfl, hb⟩ | ⟨rfl, hp5⟩⟩ := ho.cases
  · exact ⟨rfl, tlg (HK4.out.trans k5) hb (by simp [laa, HF.out] <;> rfl)⟩
  have HP5 := hd hp5
  have HK5 := hd (HK4.out.trans k5)
  have HE5 := hd (HE4.out.low k5.1 hB)
  have HB5 := hd (k5.blk HB4.out (by omega) (by decide))
  have c3_5 := HB5.out.cell 3
  simp at c3_5
  have hl5 := HB5.out.lt
  clear hp5 k5 ho
  go_wp2_with fail
  refine (d_put2 B w5 _ (Px.kwT Px.kORDER) (Px.kwT Px.kBY) HP5.out (pt0_kw _ (by decide) (by decide)) (pt0_kw _ (by decide) (by decide))).mono ?_
  rintro x w6 ho
  obtain ⟨k6, ⟨rfl, hb⟩ | ⟨rfl, hp6⟩⟩ := ho.cases
  · exact ⟨rfl, tlg (HK5.out.trans k6) hb (by simp [laa, HF.out] <;> rfl)⟩
  have HP6 := hd hp6
  have HK6 := hd (HK5.out.trans k6)
  have HE6 := hd (HE5.out.low k6.1 hB)
  have HB6 := hd (k6.blk HB5.out (by omega) (by decide))
  have c3_6 := HB6.out.cell 3
  simp at c3_6
  have hl6 := HB6.out.lt
  clear hp6 k6 ho
  go_wp2_with fail
  refine (d_listOrder_any B hB base _ r hr w6 _ HP6.out HE6.out (HK6.out.own HO2.out (by decide) HNE2.out) HNE2.out hrn).mono ?_
  rintro x w7 ho
  obtain ⟨k7, ⟨rfl, hb⟩ | ⟨rfl, hp7⟩⟩ := ho.cases
  · exact ⟨rfl, tlg (HK6.out.trans k7) hb (by simp [laa, HF.out] <;> rfl)⟩
  have HP7 := hd hp7
  have HK7 := hd (HK6.out.trans k7)
  have HE7 := hd (HE6.out.low k7.1 hB)
  have HB7 := hd (k7.blk HB6.out (by omega) (by decide))
  have c4_7 := HB7.out.cell 4
  simp at c4_7
  have c5_7 := HB7.out.cell 5
  simp at c5_7
  have hl7 := HB7.out.lt
  clear hp7 k7 ho
  go_wp2_with fail
  refine (Tryz.strconv_Itoa (n : Int) (by omega) (by omega) w7 HE7.out.tab).mono ?_
  rintro x wi ⟨rfl, kk, os, hw⟩
  have hbi : Below w7.heap.size w7 wi := by rw [hw]; exact Lib.below_grow _ _ (nlr _) kk os
  have HP9 := hd (HP7.out.below hbi)
  have HK9 := hd (HK7.out.more hbi (by have := HP7.out.lt; omega))
  have HE9 := hd (HE7.out.below hbi)
  rw [itoa_pos n (by omega)]
  clear hw hbi
  go_wp2_with fail
  refine (d_put2 B wi _ (Px.kwT Px.kLIMIT) (Px.dgT n) HP9.out (pt0_kw _ (by decide) (by decide)) (dgT_small n (by omega))).mono ?_
  rintro x w10 ho
  obtain ⟨k10, ⟨rfl, hb⟩ | ⟨rfl, hp10⟩⟩ := ho.cases
  · exact ⟨rfl, tlg (HK9.out.trans k10) hb (by simp [laa, HF.out] <;> rfl)⟩
  have HP10 := hd hp10
  have HK10 := hd (HK9.out.trans k10)
  have HE10 := hd (HE9.out.low k10.1 hB)
  clear hp10 k10 ho
  go_wp2_with fail
  go_end0
  exact POut.ok HK10.out (by have := HP10.out; simpa [laa, HF.out] using this)
theorem tsCreateCreate (a b : Value) (w : World) : (Instr.typeAssert (.iface 87 (.agg #[a, b])) 59 87 true).run Tryz.prog w = .ok (.tuple #[.agg #[a, b], .bool true]) w := by kernel_rfl
theorem tsDropCreate (a : Value) (w : World) : (Instr.typeAssert (.iface 90 (.agg #[a])) 59 87 true).run Tryz.prog w = .ok (.tuple #[.agg #[.string ⟨#[]⟩, .slice none 0 0], .bool false]) w := by kernel_rfl
theorem tsDropDrop (a : Value) (w : World) : (Instr.typeAssert (.iface 90 (.agg #[a])) 59 90 true).run Tryz.prog w = .ok (.tuple #[.agg #[a], .bool true]) w := by kernel_rfl
theorem tsInsertCreate (a b : Value) (w : World) : (Instr.typeAssert (.iface 94 (.agg #[a, b])) 59 87 true).run Tryz.prog w = .ok (.tuple #[.agg #[.string ⟨#[]⟩, .slice none 0 0], .bool false]) w := by kernel_rfl
theorem tsInsertDrop (a b : Value) (w : World) : (Instr.typeAssert (.iface 94 (.agg #[a, b])) 59 90 true).run Tryz.prog w = .ok (.tuple #[.agg #[.string ⟨#[]⟩], .bool false]) w := by kernel_rfl
theorem tsInsertInsert (a b : Value) (w : World) : (Instr.typeAssert (.iface 94 (.agg #[a, b])) 59 94 true).run Tryz.prog w = .ok (.tuple #[.agg #[a, b], .bool true]) w := by kernel_rfl
theorem tsDeleteCreate (a b : Value) (w : World) : (Instr.typeAssert (.iface 99 (.agg #[a, b])) 59 87 true).run Tryz.prog w = .ok (.tuple #[.agg #[.string ⟨#[]⟩, .slice none 0 0], .bool false]) w := by kernel_rfl
theorem tsDeleteDrop (a b : Value) (w : World) : (Instr.typeAssert (.iface 99 (.agg #[a, b])) 59 90 true).run Tryz.prog w = .ok (.tuple #[.agg #[.string ⟨#[]⟩], .bool false]) w := by kernel_rfl
theorem tsDeleteInsert (a b : Value) (w : World) : (Instr.typeAssert (.iface 99 (.agg #[a, b])) 59 94 true).run Tryz.prog w = .ok (.tuple #[.agg #[.string ⟨#[]⟩, .slice none 0 0], .bool false]) w := by kernel_rfl
theorem tsDeleteDelete (a b : Value) (w : World) : (Instr.typeAssert (.iface 99 (.agg #[a, b])) 59 99 true).run Tryz.prog w = .ok (.tuple #[.agg #[a, b], .bool true]) w := by kernel_rfl
theorem tsUpdateCreate (a b c : Value) (w : World) : (Instr.typeAssert (.iface 104 (.agg #[a, b, c])) 59 87 true).run Tryz.prog w = .ok (.tuple #[.agg #[.string ⟨#[]⟩, .slice none 0 0], .bool false]) w := by kernel_rfl
theorem tsUpdateDrop (a b c : Value) (w : World) : (Instr.typeAssert (.iface 104 (.agg #[a, b, c])) 59 90 true).run Tryz.prog w = .ok (.tuple #[.agg #[.string ⟨#[]⟩], .bool false]) w := by kernel_rfl
theorem tsUpdateInsert (a b c : Value) (w : World) : (Instr.typeAssert (.iface 104 (.agg #[a, b, c])) 59 94 true).run Tryz.prog w = .ok (.tuple #[.agg #[.string ⟨#[]⟩, .slice none 0 0], .bool false]) w := by kernel_rfl
theorem tsUpdateDelete (a b c : Value) (w : World) : (Instr.typeAssert (.iface 104 (.agg #[a, b, c])) 59 99 true).run Tryz.prog w = .ok (.tuple #[.agg #[.string ⟨#[]⟩, .nilIface], .bool false]) w := by kernel_rfl
theorem tsUpdateUpdate (a b c : Value) (w : World) : (Instr.typeAssert (.iface 104 (.agg #[a, b, c])) 59 104 true).run Tryz.prog w = .ok (.tuple #[.agg #[a, b, c], .bool true]) w := by kernel_rfl
theorem tsSelectCreate (a b c d e f : Value) (w : World) : (Instr.typeAssert (.iface 109 (.agg #[a, b, c, d, e, f])) 59 87 true).run Tryz.prog w = .ok (.tuple #[.agg #[.string ⟨#[]⟩, .slice none 0 0], .bool false]) w := by kernel_rfl
theorem tsSelectDrop (a b c d e f : Value) (w : World) : (Instr.typeAssert (.iface 109 (.agg #[a, b, c, d, e, f])) 59 90 true).run Tryz.prog w = .ok (.tuple #[.agg #[.string ⟨#[]⟩], .bool false]) w := by kernel_rfl
theorem tsSelectInsert (a b c d e f : Value) (w : World) : (Instr.typeAssert (.iface 109 (.agg #[a, b, c, d, e, f])) 59 94 true).run Tryz.prog w = .ok (.tuple #[.agg #[.string ⟨#[]⟩, .slice none 0 0], .bool false]) w := by kernel_rfl
theorem tsSelectDelete (a b c d e f : Value) (w : World) : (Instr.typeAssert (.iface 109 (.agg #[a, b, c, d, e, f])) 59 99 true).run Tryz.prog w = .ok (.tuple #[.agg #[.string ⟨#[]⟩, .nilIface], .bool false]) w := by kernel_rfl
theorem tsSelectUpdate (a b c d e f : Value) (w : World) : (Instr.typeAssert (.iface 109 (.agg #[a, b, c, d, e, f])) 59 104 true).run Tryz.prog w = .ok (.tuple #[.agg #[.string ⟨#[]⟩, .slice none 0 0, .nilIface], .bool false]) w := by kernel_rfl
theorem tsSelectSelect (a b c d e f : Value) (w : World) : (Instr.typeAssert (.iface 109 (.agg #[a, b, c, d, e, f])) 59 109 true).run Tryz.prog w = .ok (.tuple #[.agg #[a, b, c, d, e, f], .bool true]) w := by kernel_rfl
def PS : Px.St → Prop
 | .create t c => Px.isName t = true ∧ (∀ x ∈ c, Px.isName x.1 = true ∧ 1 ≤ x.2 ∧ x.2 ≤ 7 ∧ x.2 ≠ 4) ∧ c.length ≤ 16777216
 | .drop t => Px.isName t = true
 | .insert t r => Px.isName t = true ∧ (∀ x ∈ r, (∀ e ∈ x, PE e) ∧ x.length ≤ 16777216) ∧ r.length ≤ 16777216
 | .delete t o => Px.isName t = true ∧ ∀ e ∈ o.toList, PE e
 | .update t s o => Px.isName t = true ∧ (∀ x ∈ s, Px.isName x.1 = true ∧ PE x.2) ∧ s.length ≤ 16777216 ∧ ∀ e ∈ o.toList, PE e
 | .select i t o r l => Px.isName t = true ∧ (∀ x ∈ i, ∀ e ∈ x.toList, PE e) ∧ i.length ≤ 16777216 ∧ (∀ e ∈ o.toList, PE e) ∧ (∀ x ∈ r, PE x.1) ∧ r.length ≤ 16777216 ∧ ∀ n, l = some n → n ≤ 1000000000
theorem d_statement_create (B : Nat) (hB : 12 ≤ B) (b0 : Nat) (t : Lx.Bs) (c : List (Lx.Bs × Nat)) (hp : PS (Px.St.create t c)) (v : Value) (w : World) (l : List Px.PT) (h : Prs w B l) (he : EnvQ w) (hv : stV b0 (Px.St.create t c) v w) :
   Calls Tryz.prog 42 #[.pointer (some ⟨B, 0, none⟩), v] w (POut w B (l ++ (Px.St.create t c).pt)) := by
 have hlt := h.lt
 obtain ⟨u, rfl, ho⟩ := hv
 have ho : w.ownsRow (b0 + 1) 135 2 u c.length (c.flatMap colC) := ho
 have HNE := hd (h.ne ho (by decide))
 obtain ⟨ua, un, uc, hu⟩ := osl ho
 subst hu
 have HO := hd (ho.alloc (.cells #[.string ⟨t.toArray⟩, .slice ua un uc] 87))
 have HPS : Hid (PS (.create t c)) := hp
 clear ho hp
 have hbx : Below w.heap.size w (w.alloc (.cells #[.string ⟨t.toArray⟩, .slice ua un uc] 87)) := (Below.refl _ _).alloc (nlr _) _
 have HP0 := hd (h.below hbx)
 have HE0 := hd (he.below hbx)
 have HK0 := hd (Kq.below (B := B) hbx (by omega))
 have HB0 := hd (Blk.new w #[.string ⟨t.toArray⟩, .slice ua un uc] 87)
 clear h he hbx
 have a0 := tsCreateCreate (.string ⟨t.toArray⟩) (.slice ua un uc)
 go_enter Tryz.func42, Tryz.ntmps42
 go_wp2_with fail
 refine (d_create_any B hB (b0 + 1) t HPS.out.1 c HPS.out.2.1 HPS.out.2.2 _ _ l HP0.out HE0.out HO.out).mono ?_
 rintro x w1 ho
 obtain ⟨k1, ⟨rfl, hb⟩ | ⟨rfl, hp1⟩⟩ := ho.cases
 · exact ⟨rfl, tlg (HK0.out.trans k1) hb (List.append_nil _).symm⟩
 have HP1 := hd hp1
 have HK1 := hd (HK0.out.trans k1)
 have HE1 := hd (HE0.out.low k1.1 hB)
 clear hp1 k1 ho
 go_wp2_with fail
 go_end0
 exact POut.ok HK1.out HP1.out
theorem d_statement_insert (B : Nat) (hB : 12 ≤ B) (b0 : Nat) (t : Lx.Bs) (r : List (List Px.E)) (hp : PS (Px.St.insert t r)) (v : Value) (w : World) (l : List Px.PT) (h : Prs w B l) (he : EnvQ w) (hv : stV b0 (Px.St.insert t r) v w) :
   Calls Tryz.prog 42 #[.pointer (some ⟨B, 0, none⟩), v] w (POut w B (l ++ (Px.St.insert t r).pt)) := by
 have hlt := h.lt
 obtain ⟨u, rfl, vs, ho, hrs⟩ := hv
 have HNE := hd (h.ne ho (by decide))
 obtain ⟨ua, un, uc, hu⟩ := osl ho
 subst hu
 have HO := hd (ho.alloc (.cells #[.string ⟨t.toArray⟩, .slice ua un uc] 94))
 have HRS : Hid (RowsIs (w.alloc (.cells #[.string ⟨t.toArray⟩, .slice ua un uc] 94)) (b0 + 1) r vs) := RowsIs.map (fun r v hv => hv.alloc _) hrs
 have HPS : Hid (PS (.insert t r)) := hp
 clear ho hrs hp
 have hbx : Below w.heap.size w (w.alloc (.cells #[.string ⟨t.toArray⟩, .slice ua un uc] 94)) := (Below.refl _ _).alloc (nlr _) _
 have HP0 := hd (h.below hbx)
 have HE0 := hd (he.below hbx)
 have HK0 := hd (Kq.below (B := B) hbx (by omega))
 have HB0 := hd (Blk.new w #[.string ⟨t.toArray⟩, .slice ua un uc] 94)
 clear h he hbx
 have a0 := tsInsertCreate (.string ⟨t.toArray⟩) (.slice ua un uc)
 have a1 := tsInsertDrop (.string ⟨t.toArray⟩) (.slice ua un uc)
 have a2 := tsInsertInsert (.string ⟨t.toArray⟩) (.slice ua un uc)
 go_enter Tryz.func42, Tryz.ntmps42
 go_wp2_with fail
 refine (d_insert_any B hB (b0 + 1) t HPS.out.1 r HPS.out.2.1 HPS.out.2.2 _ vs _ l HP0.out HE0.out HO.out HRS.out).mono ?_
 rintro x w1 ho
 obtain ⟨k1, ⟨rfl, hb⟩ | ⟨rfl, hp1⟩⟩ := ho.cases
 · exact ⟨rfl, tlg (HK0.out.trans k1) hb (List.append_nil _).symm⟩
 have HP1 := hd hp1
 have HK1 := hd (HK0.out.trans k1)
 have HE1 := hd (HE0.out.low k1.1 hB)
 clear hp1 k1 ho
 go_wp2_with fail
 go_end0
 exact POut.ok HK1.out HP1.out
theorem d_statement_drop (B : Nat) (hB : 12 ≤ B) (b0 : Nat) (t : Lx.Bs) (hp : PS (Px.St.drop t)) (v : Value) (w : World) (l : List Px.PT) (h : Prs w B l) (he : EnvQ w) (hv : stV b0 (Px.St.drop t) v w) :
   Calls Tryz.prog 42 #[.pointer (some ⟨B, 0, none⟩), v] w (POut w B (l ++ (Px.St.drop t).pt)) := by
 have hlt := h.lt
 have hv : v = .iface 90 (.agg #[.string ⟨t.toArray⟩]) := hv
 subst hv
 have HPS : Hid (PS (.drop t)) := hp
 have HF : Hid ((Px.St.drop t).pt = [Px.kwT Px.kDROP, Px.kwT Px.kTABLE, Px.nmT t]) := rfl
 clear hp
 have hbx : Below w.heap.size w (w.alloc (.cells #[.string ⟨t.toArray⟩] 90)) := (Below.refl _ _).alloc (nlr _) _
 have HP0 := hd (h.below hbx)
 have HE0 := hd (he.below hbx)
 have HK0 := hd (Kq.below (B := B) hbx (by omega))
 have HB0 := hd (Blk.new w #[.string ⟨t.toArray⟩] 90)
 clear h he hbx
 have a0 := tsDropCreate (.string ⟨t.toArray⟩)
 have a1 := tsDropDrop (.string ⟨t.toArray⟩)
 go_enter Tryz.func42, Tryz.ntmps42
 go_wp2_with fail
 refine (d_put2g B _ _ l (Px.kwT Px.kDROP) (Px.kwT Px.kTABLE) (by simp) HP0.out (pt0_kw _ (by decide) (by decide)) (pt0_kw _ (by decide) (by decide))).mono ?_
 rintro x w1 ho
 obtain ⟨k1, ⟨rfl, hb⟩ | ⟨rfl, hp1⟩⟩ := ho.cases
 · exact ⟨rfl, tlg (HK0.out.trans k1) hb (by simp [laa, HF.out] <;> rfl)⟩
 have HP1 := hd hp1
 have HK1 := hd (HK0.out.trans k1)
 have HE1 := hd (HE0.out.low k1.1 hB)
 have HB1 := hd (k1.blk HB0.out (by omega) (by decide))
 have c0_1 := HB1.out.cell 0
 simp at c0_1
 have hl1 := HB1.out.lt
 clear hp1 k1 ho
 go_wp2_with fail
 refine (dpn B w1 _ t HP1.out HE1.out HPS.out).mono ?_
 rintro x w2 ho
 obtain ⟨k2, ⟨rfl, hb⟩ | ⟨rfl, hp2⟩⟩ := ho.cases
 · exact ⟨rfl, tlg (HK1.out.trans k2) hb (by simp [laa, HF.out] <;> rfl)⟩
 have HP2 := hd hp2
 have HK2 := hd (HK1.out.trans k2)
 have HE2 := hd (HE1.out.low k2.1 hB)
 clear hp2 k2 ho
 go_wp2_with fail
 go_end0
 exact POut.ok HK2.out (by have := HP2.out; simpa [laa, HF.out] using this)
theorem d_statement_delete (B : Nat) (hB : 12 ≤ B) (b0 : Nat) (t : Lx.Bs) (o : Option Px.E) (hp : PS (Px.St.delete t o)) (v : Value) (w : World) (l : List Px.PT) (h : Prs w B l) (he : EnvQ w) (hv : stV b0 (Px.St.delete t o) v w) :
   Calls Tryz.prog 42 #[.pointer (some ⟨B, 0, none⟩), v] w (POut w B (l ++ (Px.St.delete t o).pt)) := by
 have hlt := h.lt
 have hv : v = .iface 99 (.agg #[.string ⟨t.toArray⟩, ev? o]) := hv
 subst hv
 have HPS : Hid (PS (.delete t o)) := hp
 have HF : Hid ((Px.St.delete t o).pt = Px.kwT Px.kDELETE :: Px.kwT Px.kFROM :: Px.nmT t :: Px.whereT o) := rfl
 clear hp
 have hv1 := ev?_one o
 obtain ⟨vo, hvo⟩ : ∃ vo, vo = ev? o := ⟨_, rfl⟩
 have HWH : Hid (∀ w l, Prs w B l → EnvQ w → Calls Tryz.prog 69 #[.pointer (some ⟨B, 0, none⟩), vo] w (POut w B (l ++ Px.whereT o))) := by
  intro w l h he
  rw [hvo]
  exact d_where_any B hB o HPS.out.2 w l h he
 rw [← hvo] at hv1 ⊢
 clear hvo
 rcases hv1 with rfl | ⟨et, ex, rfl⟩
 · have hbx : Below w.heap.size w (w.alloc (.cells #[.string ⟨t.toArray⟩, .nilIface] 99)) := (Below.refl _ _).alloc (nlr _) _
   have HP0 := hd (h.below hbx)
   have HE0 := hd (he.below hbx)
   have HK0 := hd (Kq.below (B := B) hbx (by omega))
   have HB0 := hd (Blk.new w #[.string ⟨t.toArray⟩, .nilIface] 99)
   clear h he hbx
   have a0 := tsDeleteCreate (.string ⟨t.toArray⟩) (.nilIface)
   have a1 := tsDeleteDrop (.string ⟨t.toArray⟩) (.nilIface)
   have a2 := tsDeleteInsert (.string ⟨t.toArray⟩) (.nilIface)
   have a3 := tsDeleteDelete (.string ⟨t.toArray⟩) (.nilIface)
   go_enter Tryz.func42, Tryz.ntmps42
   go_wp2_with fail
   refine (d_put2g B _ _ l (Px.kwT Px.kDELETE) (Px.kwT Px.kFROM) (by simp) HP0.out (pt0_kw _ (by decide) (by decide)) (pt0_kw _ (by decide) (by decide))).mono ?_
   rintro x w1 ho
   obtain ⟨k1, ⟨rfl, hb⟩ | ⟨rfl, hp1⟩⟩ := ho.cases
   · exact ⟨rfl, tlg (HK0.out.trans k1) hb (by simp [laa, HF.out] <;> rfl)⟩
   have HP1 := hd hp1
   have HK1 := hd (HK0.out.trans k1)
   have HE1 := hd (HE0.out.low k1.1 hB)
   have HB1 := hd (k1.blk HB0.out (by omega) (by decide))
   have c0_1 := HB1.out.cell 0
   simp at c0_1
   have hl1 := HB1.out.lt
   clear hp1 k1 ho
   go_wp2_with fail
   refine (dpn B w1 _ t HP1.out HE1.out HPS.out.1).mono ?_
   rintro x w2 ho
   obtain ⟨k2, ⟨rfl, hb⟩ | ⟨rfl, hp2⟩⟩ := ho.cases
   · exact ⟨rfl, tlg (HK1.out.trans k2) hb (by simp [laa, HF.out] <;> rfl)⟩
   have HP2 := hd hp2
   have HK2 := hd (HK1.out.trans k2)
   have HE2 := hd (HE1.out.low k2.1 hB)
   have HB2 := hd (k2.blk HB1.out (by omega) (by decide))
   have c1_2 := HB2.out.cell 1
   simp at c1_2
   have hl2 := HB2.out.lt
   clear hp2 k2 ho
   go_wp2_with fail
   refine (HWH.out w2 _ HP2.out HE2.out).mono ?_
   rintro x w3 ho
   obtain ⟨k3, ⟨rfl, hb⟩ | ⟨rfl, hp3⟩⟩ := ho.cases
   · exact ⟨rfl, tlg (HK2.out.trans k3) hb (by simp [laa, HF.out] <;> rfl)⟩
   have HP3 := hd hp3
   have HK3 := hd (HK2.out.trans k3)
   have HE3 := hd (HE2.out.low k3.1 hB)
   clear hp3 k3 ho
   go_wp2_with fail
   go_end0
   exact POut.ok HK3.out (by have := HP3.out; simpa [laa, HF.out] using this)
 have hbx : Below w.heap.size w (w.alloc (.cells #[.string ⟨t.toArray⟩, .iface et ex] 99)) := (Below.refl _ _).alloc (nlr _) _
 have HP0 := hd (h.below hbx)
 have HE0 := hd (he.below hbx)
 have HK0 := hd (Kq.below (B := B) hbx (by omega))
 have HB0 := hd (Blk.new w #[.string ⟨t.toArray⟩, .iface et ex] 99)
 clear h he hbx
 have a0 := tsDeleteCreate (.string ⟨t.toArray⟩) (.iface et ex)
 have a1 := tsDeleteDrop (.string ⟨t.toArray⟩) (.iface et ex)
 have a2 := tsDeleteInsert (.string ⟨t.toArray⟩) (.iface et ex)
 have a3 := tsDeleteDelete (.string ⟨t.toArray⟩) (.iface et ex)
 go_enter Tryz.func42, Tryz.ntmps42
 go_wp2_with fail
 refine (d_put2g B _ _ l (Px.kwT Px.kDELETE) (Px.kwT Px.kFROM) (by simp) HP0.out (pt0_kw _ (by decide) (by decide)) (pt0_kw _ (by decide) (by decide))).mono ?_
 rintro x w1 ho
 obtain ⟨k1, ⟨rfl, hb⟩ | ⟨rfl, hp1⟩⟩ := ho.cases
 · exact ⟨rfl, tlg (HK0.out.trans k1) hb (by simp [laa, HF.out] <;> rfl)⟩
 have HP1 := hd hp1
 have HK1 := hd (HK0.out.trans k1)
 have HE1 := hd (HE0.out.low k1.1 hB)
 have HB1 := hd (k1.blk HB0.out (by omega) (by decide))
 have c0_1 := HB1.out.cell 0
 simp at c0_1
 have hl1 := HB1.out.lt
 clear hp1 k1 ho
 go_wp2_with fail
 refine (dpn B w1 _ t HP1.out HE1.out HPS.out.1).mono ?_
 rintro x w2 ho
 obtain ⟨k2, ⟨rfl, hb⟩ | ⟨rfl, hp2⟩⟩ := ho.cases
 · exact ⟨rfl, tlg (HK1.out.trans k2) hb (by simp [laa, HF.out] <;> rfl)⟩
 have HP2 := hd hp2
 have HK2 := hd (HK1.out.trans k2)
 have HE2 := hd (HE1.out.low k2.1 hB)
 have HB2 := hd (k2.blk HB1.out (by omega) (by decide))
 have c1_2 := HB2.out.cell 1
 simp at c1_2
 have hl2 := HB2.out.lt
 clear hp2 k2 ho
 go_wp2_with fail
 refine (HWH.out w2 _ HP2.out HE2.out).mono ?_
 rintro x w3 ho
 obtain ⟨k3, ⟨rfl, hb⟩ | ⟨rfl, hp3⟩⟩ := ho.cases
 · exact ⟨rfl, tlg (HK2.out.trans k3) hb (by simp [laa, HF.out] <;> rfl)⟩
 have HP3 := hd hp3
 have HK3 := hd (HK2.out.trans k3)
 have HE3 := hd (HE2.out.low k3.1 hB)
 clear hp3 k3 ho
 go_wp2_with fail
 go_end0
 exact POut.ok HK3.out (by have := HP3.out; simpa [laa, HF.out] using this)
theorem d_statement_update (B : Nat) (hB : 12 ≤ B) (b0 : Nat) (t : Lx.Bs) (s : List (Lx.Bs × Px.E)) (o : Option Px.E) (hp : PS (Px.St.update t s o)) (v : Value) (w : World) (l : List Px.PT) (h : Prs w B l) (he : EnvQ w) (hv : stV b0 (Px.St.update t s o) v w) :
   Calls Tryz.prog 42 #[.pointer (some ⟨B, 0, none⟩), v] w (POut w B (l ++ (Px.St.update t s o).pt)) := by
 have hlt := h.lt
 obtain ⟨u, rfl, ho⟩ := hv
 have ho : w.ownsRow (b0 + 1) 139 2 u s.length (s.flatMap setC) := ho
 obtain ⟨ua, un, uc, hu⟩ := osl ho
 subst hu
 have HO := hd ho
 have HPS : Hid (PS (.update t s o)) := hp
 clear ho hp
 have hv1 := ev?_one o
 obtain ⟨vo, hvo⟩ : ∃ vo, vo = ev? o := ⟨_, rfl⟩
 rw [← hvo] at hv1 ⊢
 have HVO := hd hvo
 clear hvo
 rcases hv1 with hx | ⟨et, ex, hx⟩
 · have HVX := hd hx
   rw [hx]
   clear hx
   have hbx : Below w.heap.size w (w.alloc (.cells #[.string ⟨t.toArray⟩, .slice ua un uc, .nilIface] 104)) := (Below.refl _ _).alloc (nlr _) _
   have HP0 := hd (h.below hbx)
   have HE0 := hd (he.below hbx)
   have HK0 := hd (Kq.below (B := B) hbx (by omega))
   have HB0 := hd (Blk.new w #[.string ⟨t.toArray⟩, .slice ua un uc, .nilIface] 104)
   clear h he hbx
   have a0 := tsUpdateCreate (.string ⟨t.toArray⟩) (.slice ua un uc) (.nilIface)
   have a1 := tsUpdateDrop (.string ⟨t.toArray⟩) (.slice ua un uc) (.nilIface)
   have a2 := tsUpdateInsert (.string ⟨t.toArray⟩) (.slice ua un uc) (.nilIface)
   have a3 := tsUpdateDelete (.string ⟨t.toArray⟩) (.slice ua un uc) (.nilIface)
   have a4 := tsUpdateUpdate (.string ⟨t.toArray⟩) (.slice ua un uc) (.nilIface)
   go_enter Tryz.func42, Tryz.ntmps42
   go_wp2_with fail
   have hcc := d_update_any B hB (b0 + 1) t HPS.out.1 s HPS.out.2.1 HPS.out.2.2.1 o HPS.out.2.2.2 _ _ l HP0.out HE0.out (HO.out.alloc _)
   rw [← HVO.out, HVX.out] at hcc
   refine hcc.mono ?_
   clear hcc
   rintro x w1 ho
   obtain ⟨k1, ⟨rfl, hb⟩ | ⟨rfl, hp1⟩⟩ := ho.cases
   · exact ⟨rfl, HK0.out.trans k1, .inr ⟨rfl, hb⟩⟩
   have HP1 := hd hp1
   have HK1 := hd (HK0.out.trans k1)
   clear hp1 k1 ho
   go_wp2_with fail
   go_end0
   exact POut.ok HK1.out HP1.out
 have HVX := hd hx
 rw [hx]
 clear hx
 have hbx : Below w.heap.size w (w.alloc (.cells #[.string ⟨t.toArray⟩, .slice ua un uc, .iface et ex] 104)) := (Below.refl _ _).alloc (nlr _) _
 have HP0 := hd (h.below hbx)
 have HE0 := hd (he.below hbx)
 have HK0 := hd (Kq.below (B := B) hbx (by omega))
 have HB0 := hd (Blk.new w #[.string ⟨t.toArray⟩, .slice ua un uc, .iface et ex] 104)
 clear h he hbx
 have a0 := tsUpdateCreate (.string ⟨t.toArray⟩) (.slice ua un uc) (.iface et ex)
 have a1 := tsUpdateDrop (.string ⟨t.toArray⟩) (.slice ua un uc) (.iface et ex)
 have a2 := tsUpdateInsert (.string ⟨t.toArray⟩) (.slice ua un uc) (.iface et ex)
 have a3 := tsUpdateDelete (.string ⟨t.toArray⟩) (.slice ua un uc) (.iface et ex)
 have a4 := tsUpdateUpdate (.string ⟨t.toArray⟩) (.slice ua un uc) (.iface et ex)
 go_enter Tryz.func42, Tryz.ntmps42
 go_wp2_with fail
 have hcc := d_update_any B hB (b0 + 1) t HPS.out.1 s HPS.out.2.1 HPS.out.2.2.1 o HPS.out.2.2.2 _ _ l HP0.out HE0.out (HO.out.alloc _)
 rw [← HVO.out, HVX.out] at hcc
 refine hcc.mono ?_
 clear hcc
 rintro x w1 ho
 obtain ⟨k1, ⟨rfl, hb⟩ | ⟨rfl, hp1⟩⟩ := ho.cases
 · exact ⟨rfl, HK0.out.trans k1, .inr ⟨rfl, hb⟩⟩
 have HP1 := hd hp1
 have HK1 := hd (HK0.out.trans k1)
 clear hp1 k1 ho
 go_wp2_with fail
 go_end0
 exact POut.ok HK1.out HP1.out
theorem d_statement_select (B : Nat) (hB : 12 ≤ B) (b0 : Nat) (i : List (Option Px.E)) (t : Lx.Bs) (o : Option Px.E) (r : List (Px.E × Bool)) (lm : Option Nat) (hp : PS (Px.St.select i t o r lm)) (v : Value) (w : World) (l : List Px.PT) (h : Prs w B l) (he : EnvQ w) (hv : stV b0 (Px.St.select i t o r lm) v w) :
   Calls Tryz.prog 42 #[.pointer (some ⟨B, 0, none⟩), v] w (POut w B (l ++ (Px.St.select i t o r lm).pt)) := by
 have hlt := h.lt
 obtain ⟨u, u2, rfl, ho, ho2⟩ := hv
 have ho : w.ownsRow (b0 + 1) 141 2 u i.length (i.flatMap itemC) := ho
 have ho2 : w.ownsRow (b0 + 1) 143 2 u2 r.length (r.flatMap orderC) := ho2
 obtain ⟨ua, un, uc, hu⟩ := osl ho
 subst hu
 obtain ⟨va, vn, vc, hu⟩ := osl ho2
 subst hu
 have HO := hd ho
 have HO2 := hd ho2
 have HPS : Hid (PS (.select i t o r lm)) := hp
 clear ho ho2 hp
 have hv1 := ev?_one o
 obtain ⟨vo, hvo⟩ : ∃ vo, vo = ev? o := ⟨_, rfl⟩
 rw [← hvo] at hv1 ⊢
 have HVO := hd hvo
 clear hvo
 rcases hv1 with hx | ⟨et, ex, hx⟩
 · have HVX := hd hx
   rw [hx]
   clear hx
   have hbx : Below w.heap.size w (w.alloc (.cells #[.slice ua un uc, .string ⟨t.toArray⟩, .nilIface, .slice va vn vc, .bool lm.isSome, .int .i64 ((lm.getD 0 : Nat) : Int)] 109)) := (Below.refl _ _).alloc (nlr _) _
   have HP0 := hd (h.below hbx)
   have HE0 := hd (he.below hbx)
   have HK0 := hd (Kq.below (B := B) hbx (by omega))
   have HB0 := hd (Blk.new w #[.slice ua un uc, .string ⟨t.toArray⟩, .nilIface, .slice va vn vc, .bool lm.isSome, .int .i64 ((lm.getD 0 : Nat) : Int)] 109)
   clear h he hbx
   have a0 := tsSelectCreate (.slice ua un uc) (.string ⟨t.toArray⟩) (.nilIface) (.slice va vn vc) (.bool lm.isSome) (.int .i64 ((lm.getD 0 : Nat) : Int))
   have a1 := tsSelectDrop (.slice ua un uc) (.string ⟨t.toArray⟩) (.nilIface) (.slice va vn vc) (.bool lm.isSome) (.int .i64 ((lm.getD 0 : Nat) : Int))
   have a2 := tsSelectInsert (.slice ua un uc) (.string ⟨t.toArray⟩) (.nilIface) (.slice va vn vc) (.bool lm.isSome) (.int .i64 ((lm.getD 0 : Nat) : Int))
   have a3 := tsSelectDelete (.slice ua un uc) (.string ⟨t.toArray⟩) (.nilIface) (.slice va vn vc) (.bool lm.isSome) (.int .i64 ((lm.getD 0 : Nat) : Int))
   have a4 := tsSelectUpdate (.slice ua un uc) (.string ⟨t.toArray⟩) (.nilIface) (.slice va vn vc) (.bool lm.isSome) (.int .i64 ((lm.getD 0 : Nat) : Int))
   have a5 := tsSelectSelect (.slice ua un uc) (.string ⟨t.toArray⟩) (.nilIface) (.slice va vn vc) (.bool lm.isSome) (.int .i64 ((lm.getD 0 : Nat) : Int))
   go_enter Tryz.func42, Tryz.ntmps42
   go_wp2_with fail
   have hcc := d_selection_any B hB (b0 + 1) t HPS.out.1 i HPS.out.2.1 HPS.out.2.2.1 o HPS.out.2.2.2.1 r HPS.out.2.2.2.2.1 HPS.out.2.2.2.2.2.1 lm HPS.out.2.2.2.2.2.2 _ _ _ l HP0.out HE0.out (HO.out.alloc _) (HO2.out.alloc _)
   rw [← HVO.out, HVX.out] at hcc
   refine hcc.mono ?_
   clear hcc
   rintro x w1 ho
   obtain ⟨k1, ⟨rfl, hb⟩ | ⟨rfl, hp1⟩⟩ := ho.cases
   · exact ⟨rfl, HK0.out.trans k1, .inr ⟨rfl, hb⟩⟩
   have HP1 := hd hp1
   have HK1 := hd (HK0.out.trans k1)
   clear hp1 k1 ho
   go_wp2_with fail
   go_end0
   exact POut.ok HK1.out HP1.out
 have HVX := hd hx
 rw [hx]
 clear hx
 have hbx : Below w.heap.size w (w.alloc (.cells #[.slice ua un uc, .string ⟨t.toArray⟩, .iface et ex, .slice va vn vc, .bool lm.isSome, .int .i64 ((lm.getD 0 : Nat) : Int)] 109)) := (Below.refl _ _).alloc (nlr _) _
 have HP0 := hd (h.below hbx)
 have HE0 := hd (he.below hbx)
 have HK0 := hd (Kq.below (B := B) hbx (by omega))
 have HB0 := hd (Blk.new w #[.slice ua un uc, .string ⟨t.toArray⟩, .iface et ex, .slice va vn vc, .bool lm.isSome, .int .i64 ((lm.getD 0 : Nat) : Int)] 109)
 clear h he hbx
 have a0 := tsSelectCreate (.slice ua un uc) (.string ⟨t.toArray⟩) (.iface et ex) (.slice va vn vc) (.bool lm.isSome) (.int .i64 ((lm.getD 0 : Nat) : Int))
 have a1 := tsSelectDrop (.slice ua un uc) (.string ⟨t.toArray⟩) (.iface et ex) (.slice va vn vc) (.bool lm.isSome) (.int .i64 ((lm.getD 0 : Nat) : Int))
 have a2 := tsSelectInsert (.slice ua un uc) (.string ⟨t.toArray⟩) (.iface et ex) (.slice va vn vc) (.bool lm.isSome) (.int .i64 ((lm.getD 0 : Nat) : Int))
 have a3 := tsSelectDelete (.slice ua un uc) (.string ⟨t.toArray⟩) (.iface et ex) (.slice va vn vc) (.bool lm.isSome) (.int .i64 ((lm.getD 0 : Nat) : Int))
 have a4 := tsSelectUpdate (.slice ua un uc) (.string ⟨t.toArray⟩) (.iface et ex) (.slice va vn vc) (.bool lm.isSome) (.int .i64 ((lm.getD 0 : Nat) : Int))
 have a5 := tsSelectSelect (.slice ua un uc) (.string ⟨t.toArray⟩) (.iface et ex) (.slice va vn vc) (.bool lm.isSome) (.int .i64 ((lm.getD 0 : Nat) : Int))
 go_enter Tryz.func42, Tryz.ntmps42
 go_wp2_with fail
 have hcc := d_selection_any B hB (b0 + 1) t HPS.out.1 i HPS.out.2.1 HPS.out.2.2.1 o HPS.out.2.2.2.1 r HPS.out.2.2.2.2.1 HPS.out.2.2.2.2.2.1 lm HPS.out.2.2.2.2.2.2 _ _ _ l HP0.out HE0.out (HO.out.alloc _) (HO2.out.alloc _)
 rw [← HVO.out, HVX.out] at hcc
 refine hcc.mono ?_
 clear hcc
 rintro x w1 ho
 obtain ⟨k1, ⟨rfl, hb⟩ | ⟨rfl, hp1⟩⟩ := ho.cases
 · exact ⟨rfl, HK0.out.trans k1, .inr ⟨rfl, hb⟩⟩
 have HP1 := hd hp1
 have HK1 := hd (HK0.out.trans k1)
 clear hp1 k1 ho
 go_wp2_with fail
 go_end0
 exact POut.ok HK1.out HP1.out
theorem d_statement_any (B : Nat) (hB : 12 ≤ B) (b0 : Nat) (s : Px.St) (hp : PS s) (v : Value) (w : World) (l : List Px.PT) (h : Prs w B l) (he : EnvQ w) (hv : stV b0 s v w) :
   Calls Tryz.prog 42 #[.pointer (some ⟨B, 0, none⟩), v] w (POut w B (l ++ s.pt)) := by
 cases s with
 | create t c => exact d_statement_create B hB b0 t c hp v w l h he hv
 | drop t => exact d_statement_drop B hB b0 t hp v w l h he hv
 | insert t r => exact d_statement_insert B hB b0 t r hp v w l h he hv
 | delete t o => exact d_statement_delete B hB b0 t o hp v w l h he hv
 | update t s o => exact d_statement_update B hB b0 t s o hp v w l h he hv
 | select i t o r lm => exact d_statement_select B hB b0 i t o r lm hp v w l h he hv
theorem stV_alloc {b0 : Nat} {s : Px.St} {v : Value} {w : World} (h : stV b0 s v w) (o : Obj) : stV b0 s v (w.alloc o) := by
 cases s with
 | create t c => obtain ⟨u, h1, h2⟩ := h; exact ⟨u, h1, World.ownsRow.alloc h2 o⟩
 | drop t => exact h
 | insert t r => obtain ⟨u, h1, vs, h2, h3⟩ := h; exact ⟨u, h1, vs, h2.alloc o, RowsIs.map (fun r v hv => hv.alloc o) h3⟩
 | delete t w => exact h
 | update t s w => obtain ⟨u, h1, h2⟩ := h; exact ⟨u, h1, World.ownsRow.alloc h2 o⟩
 | select i t w r l => obtain ⟨u, u', h1, h2, h3⟩ := h; exact ⟨u, u', h1, World.ownsRow.alloc h2 o, World.ownsRow.alloc h3 o⟩
theorem stV_form {b0 : Nat} {s : Px.St} {v : Value} {w : World} (h : stV b0 s v w) : ∃ t x, v = .iface t x := by
 cases s with
 | create t c => obtain ⟨u, h1, h2⟩ := h; exact ⟨_, _, h1⟩
 | drop t => exact ⟨_, _, h⟩
 | insert t r => obtain ⟨u, h1, _⟩ := h; exact ⟨_, _, h1⟩
 | delete t w => exact ⟨_, _, h⟩
 | update t s w => obtain ⟨u, h1, h2⟩ := h; exact ⟨_, _, h1⟩
 | select i t w r l => obtain ⟨u, u', h1, _⟩ := h; exact ⟨_, _, h1⟩
theorem pt_ne (s : Px.St) : s.pt ≠ [] := by
 cases s <;> simp [Px.St.pt]
theorem render_ne {l : List Px.PT} (h : l ≠ []) (h0 : ∀ t ∈ l, t.out ≠ []) : Px.render l ≠ [] := by
 cases l with
 | nil => exact absurd rfl h
 | cons a r =>
  obtain ⟨x, hx⟩ := Px.render_head a r
  rw [hx]
  have := h0 a (by simp)
  simp [this]
def TOut (w : World) (s : Px.St) (x : Ending) (w' : World) : Prop := Below w.heap.size w w' ∧ (((Px.render s.pt).length ≤ 2000 ∧ x = .returned (.string ⟨(Px.render s.pt).toArray⟩)) ∨ (2000 < (Px.render s.pt).length ∧ x = Flt 0 1))
theorem d_Text_any (b0 : Nat) (s : Px.St) (hp : PS s) (v : Value) (w : World) (he : EnvQ w) (hv : stV b0 s v w) :
   Calls Tryz.prog 28 #[v] w (TOut w s) := by
 have hB : 12 ≤ w.heap.size := he.envp.env.room
 have HP : Hid (Prs (w.alloc (.cells #[.pointer none, .slice none 0 0, .string ⟨#[]⟩, .bool false] 77)) w.heap.size []) := by
  refine ⟨⟨.pointer none, .slice none 0 0, .inl rfl, Blk.new w _ _, ⟨by rfl, .inl ⟨rfl, rfl⟩⟩⟩, by simp, by simp [Px.render]⟩
 have HE := hd (he.below ((Below.refl _ _).alloc (nlr _) (.cells #[.pointer none, .slice none 0 0, .string ⟨#[]⟩, .bool false] 77)))
 have HV := hd (stV_alloc hv (.cells #[.pointer none, .slice none 0 0, .string ⟨#[]⟩, .bool false] 77))
 have HPS := hd hp
 have HBX : Hid (Below w.heap.size w (w.alloc (.cells #[.pointer none, .slice none 0 0, .string ⟨#[]⟩, .bool false] 77))) := (Below.refl _ _).alloc (nlr _) _
 obtain ⟨vt, vx, hvf⟩ := stV_form hv
 subst hvf
 clear he hp hv
 go_enter Tryz.func28, Tryz.ntmps28
 go_wp2_with fail
 refine (d_statement_any w.heap.size hB b0 s HPS.out _ _ [] HP.out HE.out HV.out).mono ?_
 rintro x w1 ho
 rw [List.nil_append] at ho
 obtain ⟨k1, ⟨rfl, hb⟩ | ⟨rfl, hp1⟩⟩ := ho.cases
 · exact ⟨rfl, HBX.out.trans k1.1, .inr ⟨hb, rfl⟩⟩
 have HP1 := hd hp1
 have HB1 := hd (HBX.out.trans k1.1)
 clear hp1 k1 ho
 go_wp2_with fail
 refine (b_String_any _ w1 _ _ _ HP1.out.1 (render_ne (pt_ne s) HP1.out.2.1)).mono ?_
 rintro x w2 ⟨rfl, k2⟩
 have HB2 := hd (HB1.out.trans k2.1)
 clear k2
 go_wp2_with fail
 go_ret
 exact ⟨HB2.out, .inl ⟨HP1.out.2.2, rfl⟩⟩
theorem print_catch (b1 : Nat) (y p c : Int) (older : List PanicEntry) (w : World) (h1 : Blk w b1 #[.int .i64 y] 29) :
   CallsD Tryz.prog 26 #[.pointer (some ⟨b1, 0, none⟩)] (.panicking ({ v := .iface 70 (.agg #[.int .i64 p, .int .i64 c]), recovered := false } :: older)) w fun e u' w' =>
    e = .returned (.tuple #[]) ∧ u' = .panicking ({ v := .iface 70 (.agg #[.int .i64 p, .int .i64 c]), recovered := true } :: older) ∧ ∃ w1, Below w.heap.size w w1 ∧ w' = w1.setCell ⟨b1, 0, none⟩ (.int .i64 c) := by
 refine callsD_of_wpS Tryz.func26 rfl fun c₀ cs hu => ?_
 apply wpS_seq
 apply wpS_region
 simp [wpOpsS, go_sem, recoverD, hu, Tryz.ntmps26, Exit.thenS]
 apply wpS_seq
 apply wpS_region
 simp [wpOpsS, go_sem, recoverD, hu, Tryz.ntmps26, Exit.thenS]
 refine wpS_cond (t := true) (by simp [Act.eval, Array.replicate]) ?_
 simp only [if_true]
 refine wpS_of_wp ?_
 simp only [Array.replicate, List.replicate, List.toArray_replicate]
 go_wp2_with fail
 refine (told_any p c w).mono ?_
 rintro e w1 ⟨rfl, hb1⟩
 have k1 := h1.below hb1 h1.lt
 have c1 : w1.cell? ⟨b1, 0, none⟩ = some (.int .i64 y) := k1.cell 0
 have f1 := k1.free 0
 go_wp2
 refine ⟨rfl, _, rfl, .tuple #[], by simp [results, Tryz.results26], rfl, rfl, w1, hb1, rfl⟩
theorem print_idle (q : Addr) (w : World) :
   CallsD Tryz.prog 26 #[.pointer (some q)] .returning w fun e u' w' => e = .returned (.tuple #[]) ∧ u' = .returning ∧ w' = w := by
 refine callsD_of_wpS Tryz.func26 rfl fun c₀ cs hu => ?_
 apply wpS_seq
 apply wpS_region
 simp [wpOpsS, go_sem, recoverD, hu, Tryz.ntmps26, Exit.thenS]
 apply wpS_seq
 apply wpS_region
 simp [wpOpsS, go_sem, recoverD, hu, Tryz.ntmps26, Exit.thenS]
 refine wpS_cond (t := false) (by simp [Act.eval, Array.replicate]) ?_
 simp only [Bool.false_eq_true, if_false]
 refine wpS_of_wp (wp_skip ?_)
 cases c₀
 simp_all [bodyPostS, results, Tryz.results26]
def printR (l : List Px.Nd) : Lx.Bs × Nat := match Px.rS l with
 | none => ([], 7)
 | some s => if (Px.render s.pt).length ≤ 2000 then (Px.render s.pt, 0) else ([], 1)
theorem cPrint_any (w : World) (l : List Px.Nd) (v : Value) (hv : ∃ ao cap, v = .slice ao l.length cap ∧ l.length ≤ cap ∧ cap ≤ maxLen ∧ (∀ x ∈ l, NdFit x) ∧ (l ≠ [] → ∃ g off, ao = some ⟨g, off, none⟩ ∧ g < w.heap.size ∧ TreeIn w g off l)) (he : EnvQ w) (hl : l.length ≤ 16777216) (hps : ∀ s, Px.rS l = some s → PS s) :
   Calls Tryz.prog 9 #[v] w fun e w' => e = .returned (.tuple #[.string ⟨(printR l).1.toArray⟩, .int .i64 ((printR l).2 : Int)]) ∧ Below w.heap.size w w' := by
 have hmf : ∀ (fn : Fn) (first cap : Array Value) (w : World), (Instr.makeFunc fn first cap).run Tryz.prog w = .ok (.func fn first cap) w := fun _ _ _ _ => rfl
 have HE := hd he
 have hb0 : Below w.heap.size w (w.alloc (.cells #[.int .i64 0] 29)) := (Below.refl _ _).alloc (nlr _) _
 have HT := hd (y_Read_any (w.alloc (.cells #[.int .i64 0] 29)) l v (by
  obtain ⟨ao, cap, h1, h2, h3, h4, h5⟩ := hv
  refine ⟨ao, cap, h1, h2, h3, h4, fun hne => ?_⟩
  obtain ⟨g, off, e, hg, ht⟩ := h5 hne
  exact ⟨g, off, e, by simp; omega, ht.keep (Below.heap_alloc w _ g hg)⟩) (he.envp.below hb0) hl)
 have K1 : Blk (w.alloc (.cells #[.int .i64 0] 29)) w.heap.size #[.int .i64 0] 29 := Blk.new w _ _
 obtain ⟨ao, cap, rfl, _⟩ := hv
 clear he
 go_enter_defers Tryz.func9, Tryz.ntmps9
 go_wp2_with fail
 refine HT.out.mono ?_
 rintro e w1 ⟨hb1, ht⟩
 have K1' := K1.below hb1 (by simp)
 have HB1 : Hid (Below w.heap.size w w1) := hb0.trans (hb1.mono (by simp))
 have HE1 := hd (HE.out.below HB1.out)
 clear hb1 K1 hb0
 cases hrs : Px.rS l with
 | none =>
  rw [hrs] at ht
  have ht : e = Flt 0 7 := ht
  subst ht
  have HPR : printR l = ([], 7) := by unfold printR; rw [hrs]
  refine leaves_cons (f := 26) (args := #[.pointer (some ⟨w.heap.size, 0, none⟩)]) (by simp) (by simp [go_sem]) ?_
  refine (print_catch w.heap.size 0 ((0 : Nat) : Int) ((7 : Nat) : Int) [] _ K1').mono ?_
  rintro e u' w'' ⟨rfl, rfl, w3, hb3, rfl⟩
  have k1 := (K1'.below hb3 K1'.lt).set 0 (.int .i64 ((7 : Nat) : Int))
  have d1 := k1.cell 0
  simp at d1
  rw [HPR]
  simp [Leaves, settle, results, Tryz.results9, go_sem, d1]
  exact (HB1.out.trans (hb3.mono HB1.out.size)).setCell (p := ⟨w.heap.size, 0, none⟩) (nlr _) _
 | some s =>
  rw [hrs] at ht
  obtain ⟨u, rfl, hst⟩ := ht
  have HTX := hd (d_Text_any _ s (hps s hrs) u w1 HE1.out hst)
  have HPR0 : Hid (printR l = if (Px.render s.pt).length ≤ 2000 then (Px.render s.pt, 0) else ([], 1)) := by show _ = _; unfold printR; rw [hrs]
  obtain ⟨tv, xv, hvf⟩ := stV_form hst
  subst hvf
  clear hst hrs
  go_wp2_with fail
  refine HTX.out.mono ?_
  rintro x w2 ⟨hb2, ⟨hle, rfl⟩ | ⟨hgt, rfl⟩⟩
  · have HPR : printR l = (Px.render s.pt, 0) := by rw [HPR0.out, if_pos hle]
    have K2 := K1'.below hb2 K1'.lt
    have HB2 : Hid (Below w.heap.size w w2) := HB1.out.trans (hb2.mono HB1.out.size)
    have c1 : w2.cell? ⟨w.heap.size, 0, none⟩ = some (.int .i64 0) := K2.cell 0
    have f1 := K2.free 0
    have HK2 := hd K2
    have HPRH := hd HPR
    clear hb2 K1' K2 hle HPR
    generalize Px.render s.pt = rt at *
    go_wp2
    refine leaves_cons (f := 26) (args := #[.pointer (some ⟨w.heap.size, 0, none⟩)]) (by simp) (by simp [go_sem]) ?_
    refine (print_idle ⟨w.heap.size, 0, none⟩ _).mono ?_
    rintro e u' w'' ⟨rfl, rfl, rfl⟩
    have k1 := HK2.out.set 0 (.int .i64 0)
    have d1 := k1.cell 0
    simp at d1
    rw [HPRH.out]
    simp [Leaves, settle, results, Tryz.results9, go_sem, d1]
    exact HB2.out.setCell (p := ⟨w.heap.size, 0, none⟩) (nlr _) _
  have HPR : printR l = ([], 1) := by rw [HPR0.out, if_neg (by omega)]
  have K2 := K1'.below hb2 K1'.lt
  have HB2 : Hid (Below w.heap.size w w2) := HB1.out.trans (hb2.mono HB1.out.size)
  refine leaves_cons (f := 26) (args := #[.pointer (some ⟨w.heap.size, 0, none⟩)]) (by simp) (by simp [go_sem]) ?_
  refine (print_catch w.heap.size 0 ((0 : Nat) : Int) ((1 : Nat) : Int) [] _ K2).mono ?_
  rintro e u' w'' ⟨rfl, rfl, w3, hb3, rfl⟩
  have k1 := (K2.below hb3 K2.lt).set 0 (.int .i64 ((1 : Nat) : Int))
  have d1 := k1.cell 0
  simp at d1
  rw [HPR]
  simp [Leaves, settle, results, Tryz.results9, go_sem, d1]
  exact (HB2.out.trans (hb3.mono HB2.out.size)).setCell (p := ⟨w.heap.size, 0, none⟩) (nlr _) _
theorem PE_of : ∀ e : Px.E, e.ok 2000 → e.good → PE e
 | .null, _, _ => trivial
 | .bool _, _, _ => trivial
 | .num z, h, _ => by
  unfold PE
  unfold Px.E.ok at h
  omega
 | .str s, h, _ => by
  unfold PE
  unfold Px.E.ok at h
  omega
 | .nm s, _, h => h
 | .un k e, h, hg => ⟨⟨h.1, h.2.1⟩, PE_of e h.2.2.2 hg⟩
 | .bin k a b, h, hg => ⟨⟨h.1, h.2.1⟩, PE_of a h.2.2.1 hg.1, PE_of b h.2.2.2 hg.2⟩
theorem flat_len {α : Type} (f : α → List Px.Nd) (h : ∀ a, 1 ≤ (f a).length) : ∀ l : List α, l.length ≤ (l.flatMap f).length
 | [] => by simp
 | a :: l => by
  have := h a
  have := flat_len f h l
  simp only [List.flatMap_cons, List.length_append, List.length_cons]
  omega
theorem flat_mem {α : Type} (f : α → List Px.Nd) : ∀ (l : List α) (a : α), a ∈ l → (f a).length ≤ (l.flatMap f).length
 | b :: l, a, h => by
  simp only [List.flatMap_cons, List.length_append]
  rcases List.mem_cons.1 h with rfl | h
  · omega
  have := flat_mem f l a h; omega
theorem PS_of (s : Px.St) (hf : s.Fit) (hg : ∀ e ∈ s.exprs, e.good) (hn : s.nodes.length ≤ 80000) : PS s := by
 have he : ∀ e ∈ s.exprs, PE e := fun e h => PE_of e (hf.exprs e h) (hg e h)
 have hp := hf.parts
 cases s with
 | create t c => exact ⟨hp.1, hp.2.2.2, by have := hp.2.2.1; omega⟩
 | drop t => exact hp
 | insert t r =>
  have h1 : r.length ≤ (r.flatMap Px.rowN).length := flat_len _ (fun a => by simp [Px.rowN]) r
  simp only [Px.St.nodes, List.length_cons] at hn
  refine ⟨hp.1, fun x hx => ⟨fun e hex => he e (List.mem_flatten.2 ⟨x, hx, hex⟩), ?_⟩, by omega⟩
  have h2 := flat_mem Px.rowN r x hx
  have h3 : x.length ≤ (x.flatMap Px.E.nodes).length := flat_len _ (fun a => by cases a <;> simp [Px.E.nodes, Px.leaf, Px.over1, Px.over2]) x
  simp only [Px.rowN, List.length_cons] at h2
  omega
 | delete t o => exact ⟨hp, fun e h => he e h⟩
 | update t s o =>
  have h1 : s.length ≤ (s.flatMap Px.setN).length := flat_len _ (fun a => by simp [Px.setN]) s
  simp only [Px.St.nodes, List.length_cons, List.length_append] at hn
  refine ⟨hp.1, fun x hx => ⟨hp.2.2 x hx, he _ ?_⟩, by omega, fun e h => he e ?_⟩
  · simp only [Px.St.exprs, List.mem_append, List.mem_map]; exact .inl ⟨x, hx, rfl⟩
  simp only [Px.St.exprs, List.mem_append]; exact .inr h
 | select i t o r l =>
  have h1 : i.length ≤ (i.flatMap Px.itemN).length := flat_len _ (fun a => by
   cases a with
   | none => simp [Px.itemN]
   | some e => cases e <;> simp [Px.itemN, Px.E.nodes, Px.leaf, Px.over1, Px.over2]) i
  have h2 : r.length ≤ (r.flatMap Px.orderN).length := flat_len _ (fun a => by simp [Px.orderN]) r
  simp only [Px.St.nodes, List.length_cons, List.length_append] at hn
  refine ⟨hp.1, fun x hx e hex => he e ?_, by omega, fun e h => he e ?_, fun x hx => he _ ?_, by omega, hp.2.2⟩
  · simp only [Px.St.exprs, List.mem_append, List.mem_filterMap, id]
    cases x with
    | none => simp at hex
    | some e' => simp at hex; subst hex; exact .inl (.inl ⟨some e, hx, rfl⟩)
  · simp only [Px.St.exprs, List.mem_append]; exact .inl (.inr h)
  simp only [Px.St.exprs, List.mem_append, List.mem_map]; exact .inr ⟨x, hx, rfl⟩
theorem parsed {s : Lx.Bs} {st : Px.St} (h : Px.ParseR s (.ok st)) : Px.rS st.nodes = some st ∧ PS st ∧ st.nodes.length ≤ 80000 ∧ ((Px.render st.pt).length ≤ 2000 → Px.ParseR (Px.render st.pt) (.ok st)) := by
 obtain ⟨h1, h2, h3⟩ := Px.parse_fit h
 have hl := (parse_lens h).1
 exact ⟨Px.rS_nodes st h1 h2 h3, PS_of st h1 h2 hl, hl, fun hr => Px.round st h1 h2 h3 hr⟩
section
open Go.RowKit Go.Shelf Go.Lib
theorem bytes_eq {s : ByteArray} {x : List UInt8} (h : s.data.toList = x) : s = ⟨x.toArray⟩ := by
 cases s with
 | mk d => cases d with
  | mk l => simp at h; subst h; rfl
theorem strs_of_reads {P : Program} {w : World} {nm : String} {g m : Nat} {t e : TypeId} (ss : List (List UInt8)) (hg : P.globalNamed nm = some g) (hty : (P.globals[g]?).map (·.type) = some t)
   (ht : P.underlying t = some (.array m e)) (he : P.underlying e = some .string) (hce : P.cellsOf e = 1) (hct : P.cellsOf t = m)
   (h : VarReads P w nm (.agg (ss.map fun x => .lit (.string x)))) : ∃ t' fr, w.heap[g]? = some (.cells (strRow ss) t' fr) := by
 obtain ⟨g', t', cs, fuel, p, hg', hty', hvar, hd⟩ := h
 obtain rfl := Option.some.inj (hg.symm.trans hg')
 obtain rfl := Option.some.inj (hty.symm.trans hty')
 have hcs : cs = strRow ss := by
  cases fuel with
  | zero => simp [DataW.trod] at hd
  | succ fuel =>
   simp only [DataW.trod, ht, hce, hct, Nat.mul_one] at hd
   split at hd
   · rename_i hl
     obtain ⟨xs, hm, hx⟩ := Option.map_eq_some_iff.1 hd
     have hxs : xs.map (·.1) = ss.map fun x => (DataW.lit (.string x) : DataW Unit) := by
      have := congrArg Prod.fst hx
      simpa using this
     have hxl : xs.length = m := by simpa using mapM_length hm
     have hzl : ss.length = m := by
      have := congrArg List.length hxs
      simp at this
      omega
     apply Array.ext'
     apply List.ext_getElem?
     intro i
     by_cases hi : i < m
     · obtain ⟨b, hb, hf⟩ := mapM_at hm i i (by simp [hi])
       obtain ⟨s, hc, rfl, _⟩ := DataW.trod_string he hf
       have h1 : cs.toList[i]? = some (.string s) := by
        have := congrArg (·[0]?) hc
        simpa [List.getElem?_take, List.getElem?_drop] using this
       have h2 : (xs.map (·.1))[i]? = some (DataW.lit (.string s.data.toList) : DataW Unit) := by simp [hb]
       rw [hxs] at h2
       simp only [List.getElem?_map, Option.map_eq_some_iff, DataW.lit.injEq, Lit.string.injEq] at h2
       obtain ⟨x, hx', hxx⟩ := h2
       rw [h1, bytes_eq hxx.symm]
       simp [strRow, hx']
     rw [List.getElem?_eq_none (by omega), List.getElem?_eq_none (by simp [strRow]; omega)]
   cases hd
 subst hcs
 simp only [World.var?, hg, Option.bind_some] at hvar
 split at hvar
 · rename_i c t2 fr hh
   cases hvar
   exact ⟨t2, fr, hh⟩
 cases hvar
def opData (x : Nat × Lx.Bs × Nat) : DataW Unit := .agg [.lit (.int .i64 (x.2.2 : Int)), .lit (.string x.2.1), .lit (.int .i64 (x.1 : Int))]
theorem opsRow_length : ∀ l : List (Nat × Lx.Bs × Nat), (opsRow l).length = l.length * 3
 | [] => rfl
 | (a, s, k) :: r => by simp [opsRow, opsRow_length r]; omega
theorem opsRow_at : ∀ (l : List (Nat × Lx.Bs × Nat)) (i : Nat) (h : i < l.length), (opsRow l)[i * 3]? = some (.int .i64 (l[i].2.2 : Int)) ∧ (opsRow l)[i * 3 + 1]? = some (.string ⟨l[i].2.1.toArray⟩) ∧ (opsRow l)[i * 3 + 2]? = some (.int .i64 (l[i].1 : Int))
 | (a, s, k) :: r, 0, _ => ⟨rfl, rfl, rfl⟩
 | (a, s, k) :: r, i + 1, h => by
  have ih := opsRow_at r i (by simpa using h)
  have e : ∀ j, (opsRow ((a, s, k) :: r))[j + 3]? = (opsRow r)[j]? := by
   intro j
   show ([Value.int .i64 (k : Int), .string ⟨s.toArray⟩, .int .i64 (a : Int)] ++ opsRow r)[j + 3]? = _
   rw [List.getElem?_append_right (by simp)]
   simp
  rw [show (i + 1) * 3 = i * 3 + 3 from by omega, show i * 3 + 3 + 1 = (i * 3 + 1) + 3 from by omega, show i * 3 + 3 + 2 = (i * 3 + 2) + 3 from by omega, e, e, e]
  simpa using ih
theorem ops_of_reads {P : Program} {w : World} {nm : String} {g m : Nat} {t e : TypeId} {f0 f1 f2 : Field} (ss : List (Nat × Lx.Bs × Nat)) (hg : P.globalNamed nm = some g) (hty : (P.globals[g]?).map (·.type) = some t)
   (ht : P.underlying t = some (.array m e)) (he : P.underlying e = some (.struct #[f0, f1, f2])) (hce : P.cellsOf e = 3) (hct : P.cellsOf t = m * 3) (hm : ss.length = m)
   (u0 : P.underlying f0.type = some (.int .i64)) (u1 : P.underlying f1.type = some .string) (u2 : P.underlying f2.type = some (.int .i64)) (c0 : P.cellsOf f0.type = 1) (c1 : P.cellsOf f1.type = 1) (c2 : P.cellsOf f2.type = 1)
   (o0 : f0.offset = 0) (o1 : f1.offset = 1) (o2 : f2.offset = 2)
   (h : VarReads P w nm (.agg (ss.map opData))) : ∃ t' fr, w.heap[g]? = some (.cells (opsRow ss).toArray t' fr) := by
 obtain ⟨g', t', cs, fuel, p, hg', hty', hvar, hd⟩ := h
 obtain rfl := Option.some.inj (hg.symm.trans hg')
 obtain rfl := Option.some.inj (hty.symm.trans hty')
 have hlen : cs.toList.length = m * 3 := by
  cases fuel with
  | zero => simp [DataW.trod] at hd
  | succ fuel =>
   simp only [DataW.trod, ht] at hd
   split at hd
   · rename_i hl
     rw [hl, hct]
   cases hd
 have key : ∀ i, (hi : i < m) → cs.toList[i * 3]? = some (.int .i64 ((ss[i]'(by omega)).2.2 : Int)) ∧ cs.toList[i * 3 + 1]? = some (.string ⟨(ss[i]'(by omega)).2.1.toArray⟩) ∧ cs.toList[i * 3 + 2]? = some (.int .i64 ((ss[i]'(by omega)).1 : Int)) := by
  intro i hi
  obtain ⟨fuel', d, q, hdi, hel⟩ := array_elem ht hd i hi
  have hi' : i < ss.length := by omega
  simp only [List.getElem?_map, List.getElem?_eq_getElem hi', Option.map_some, Option.some.injEq] at hdi
  subst hdi
  rw [hce] at hel
  obtain ⟨y0, y1, y2, n, hx, hl, h0, h1, h2⟩ := Go.Deep.trod_struct3 he hel
  rw [o0, c0] at h0
  rw [o1, c1] at h1
  rw [o2, c2] at h2
  obtain ⟨z0, a0, b0, _⟩ := DataW.trod_int u0 h0
  obtain ⟨z1, a1, b1, _⟩ := DataW.trod_string u1 h1
  obtain ⟨z2, a2, b2, _⟩ := DataW.trod_int u2 h2
  subst b0
  subst b1
  subst b2
  simp only [opData, Prod.mk.injEq, DataW.agg.injEq, List.cons.injEq, DataW.lit.injEq, Lit.int.injEq, Lit.string.injEq, true_and, and_true] at hx
  obtain ⟨⟨e0, e1, e2⟩, _⟩ := hx
  have g0 := congrArg (·[0]?) a0
  have g1 := congrArg (·[0]?) a1
  have g2 := congrArg (·[0]?) a2
  simp only [List.getElem?_take, List.getElem?_drop] at g0 g1 g2
  simp at g0 g1 g2
  refine ⟨?_, ?_, ?_⟩
  · rw [e0]; simpa using g0
  · rw [bytes_eq (s := z1) e1.symm] at g1; simpa using g1
  rw [e2]; simpa using g2
 have hcs : cs = (opsRow ss).toArray := by
  apply Array.ext'
  apply List.ext_getElem?
  intro j
  by_cases hj : j < m * 3
  · have hi : j / 3 < m := by omega
    obtain ⟨k0, k1, k2⟩ := key (j / 3) hi
    obtain ⟨r0, r1, r2⟩ := opsRow_at ss (j / 3) (by omega)
    have h3 : j = j / 3 * 3 ∨ j = j / 3 * 3 + 1 ∨ j = j / 3 * 3 + 2 := by omega
    rcases h3 with e | e | e
    · rw [e, k0]; exact r0.symm
    · rw [e, k1]; exact r1.symm
    rw [e, k2]; exact r2.symm
  rw [List.getElem?_eq_none (by omega), List.getElem?_eq_none (by simp [opsRow_length]; omega)]
 subst hcs
 simp only [World.var?, hg, Option.bind_some] at hvar
 split at hvar
 · rename_i c t2 fr hh
   cases hvar
   exact ⟨t2, fr, hh⟩
 cases hvar
theorem err_of_reads {P : Program} {w : World} {nm name : String} {g : Nat} {t : TypeId} {is : Array (String × TypeId)} {d : DataW Unit} (hg : P.globalNamed nm = some g) (hty : (P.globals[g]?).map (·.type) = some t)
   (ht : P.underlying t = some (.interface is)) (h : VarReads P w nm (.iface name d)) : ∃ te pe, w.cell? ⟨g, 0, none⟩ = some (.iface te pe) := by
 obtain ⟨g', t', cs, fuel, p, hg', hty', hvar, hd⟩ := h
 obtain rfl := Option.some.inj (hg.symm.trans hg')
 obtain rfl := Option.some.inj (hty.symm.trans hty')
 rw [World.var?_cell hg hvar 0, ← Array.getElem?_toList]
 generalize cs.toList = l at hd ⊢
 cases fuel with
 | zero => simp [DataW.trod] at hd
 | succ fuel =>
  match l, hd with
  | [], hd => simp [DataW.trod, ht] at hd
  | [v], hd =>
   cases v with
   | iface u x => exact ⟨u, x, rfl⟩
   | _ => simp [DataW.trod, ht] at hd
  | a :: b :: r, hd => simp [DataW.trod, ht] at hd
end
section
open Go.RowKit Go.Shelf Go.Lib
theorem u8types : U8Types Tryz.prog Tryz.lays197_ren := ⟨by kernel_rfl, by kernel_rfl, by kernel_rfl, by kernel_rfl⟩
theorem u8extra : U8Extra Tryz.prog Tryz.lays197_ren := ⟨by kernel_rfl, by kernel_rfl, by kernel_rfl, by kernel_rfl, by kernel_rfl, by kernel_rfl, by kernel_rfl⟩
theorem accept_eq : (Rows.laid_unicode_utf8_acceptRanges : DataW Unit) = acceptData := by kernel_rfl
theorem first_eq : Rows.laid_unicode_utf8_first = firstData := Pinned.utf8First_eq
theorem keys_eq : (Rows.laid_clause_reader_keywords : DataW Unit) = .agg (Lx.keys.map fun x => .lit (.string x)) := by kernel_rfl
theorem signs_eq : (Rows.laid_clause_reader_signs : DataW Unit) = .agg (sgns.map fun x => .lit (.string x)) := by kernel_rfl
theorem ops_eq : (Rows.laid_clause_syntax_operators : DataW Unit) = .agg (Px.opTab.map opData) := by kernel_rfl
theorem room_of_shape {W : World} (h : W.ShapedOpen Tryz.prog) : 12 ≤ W.heap.size := by
 have hz : (((begin Tryz.prog (fun _ _ => 0) default).world.heap[12 - 1]?).bind Obj.row?).isSome = true := by kernel_rfl
 obtain ⟨⟨zero, t⟩, he⟩ := Option.isSome_iff_exists.1 hz
 obtain ⟨cs, hc, _⟩ := h.1 (12 - 1) zero t (of_decide_eq_true (by kernel_rfl)) he
 obtain ⟨hlt, _⟩ := Array.getElem?_eq_some_iff.1 hc
 exact hlt
theorem envP_of_reads {W : World} (ha : VarReads Tryz.prog W "unicode/utf8.acceptRanges" Rows.laid_unicode_utf8_acceptRanges) (hk : VarReads Tryz.prog W "clause/reader.keywords" Rows.laid_clause_reader_keywords)
   (hs : VarReads Tryz.prog W "clause/reader.signs" Rows.laid_clause_reader_signs) (hf : VarReads Tryz.prog W "unicode/utf8.first" Rows.laid_unicode_utf8_first)
   (ho : VarReads Tryz.prog W "clause/syntax.operators" Rows.laid_clause_syntax_operators) (hr : VarReads Tryz.prog W "strconv.ErrRange" Rows.laid_strconv_ErrRange) (hsh : W.ShapedOpen Tryz.prog) : EnvP W where
 env := {
   tabs := utf8Tabs_of_readsT u8types u8extra (first_eq ▸ hf) (accept_eq ▸ ha)
   kws := strs_of_reads (t := 236) (e := 9) (m := 27) Lx.keys (by kernel_rfl) (by kernel_rfl) (by kernel_rfl) (by kernel_rfl) (by kernel_rfl) (by kernel_rfl) (keys_eq ▸ hk)
   sgs := strs_of_reads (t := 230) (e := 9) (m := 16) sgns (by kernel_rfl) (by kernel_rfl) (by kernel_rfl) (by kernel_rfl) (by kernel_rfl) (by kernel_rfl) (signs_eq ▸ hs)
   room := room_of_shape hsh }
 ops := ops_of_reads (t := 269) (e := 249) (m := 14) Px.opTab (by kernel_rfl) (by kernel_rfl) (by kernel_rfl) Tryz.underlying249 (by kernel_rfl) (by kernel_rfl) rfl (by kernel_rfl) (by kernel_rfl) (by kernel_rfl) (by kernel_rfl) (by kernel_rfl) (by kernel_rfl) rfl rfl rfl (ops_eq ▸ ho)
 rng := err_of_reads (t := 169) (by kernel_rfl) (by kernel_rfl) Tryz.underlying169 hr
end
section
open Go.RowKit Go.Shelf Go.Lib
theorem tab_of_reads {P : Program} {w : World} {nm : String} {g m : Nat} {t e : TypeId} {k : IntKind} (zs : List Int) (hg : P.globalNamed nm = some g) (hty : (P.globals[g]?).map (·.type) = some t)
   (ht : P.underlying t = some (.array m e)) (he : P.underlying e = some (.int k)) (hce : P.cellsOf e = 1) (hct : P.cellsOf t = m)
   (h : VarReads P w nm (tabData k zs)) : ∃ t' fr, w.heap[g]? = some (.cells (zs.map fun z => Value.int k z).toArray t' fr) := by
 obtain ⟨g', t', cs, fuel, p, hg', hty', hvar, hd⟩ := h
 obtain rfl := Option.some.inj (hg.symm.trans hg')
 obtain rfl := Option.some.inj (hty.symm.trans hty')
 have hcs : cs = (zs.map fun z => Value.int k z).toArray := by
  apply Array.ext'
  exact cells_of_tab ht he hce hct hd
 subst hcs
 simp only [World.var?, hg, Option.bind_some] at hvar
 split at hvar
 · rename_i c t2 fr hh
   cases hvar
   exact ⟨t2, fr, hh⟩
 cases hvar
theorem pow_eq : (Rows.laid_internal_strconv_uint64pow10 : DataW Unit) = tabData .u64 pow10Tab := by kernel_rfl
theorem mx_of_shape {W : World} (h : W.ShapedOpen Tryz.prog) : ∃ m, W.cell? ⟨7, 0, none⟩ = some (.int .i64 m) :=
 cell_of_shapedOpen_int (t := 3) (zero := #[.int .i64 0]) h (of_decide_eq_true (by kernel_rfl)) (by kernel_rfl) rfl (by kernel_rfl) (by kernel_rfl) (by kernel_rfl)
theorem envQ_of_reads {W : World} (hp : EnvP W) (h : VarReads Tryz.prog W "internal/strconv.uint64pow10" Rows.laid_internal_strconv_uint64pow10) (hsh : W.ShapedOpen Tryz.prog) : EnvQ W where
 envp := hp
 mx := mx_of_shape hsh
 pow := tab_of_reads (t := 286) (e := 264) (m := 20) pow10Tab (by kernel_rfl) (by kernel_rfl) (by kernel_rfl) (by kernel_rfl) (by kernel_rfl) (by kernel_rfl) (pow_eq ▸ h)
end
namespace Kl
theorem nd_slice {w : World} {b0 : Nat} {v : Value} {l : List Px.Nd} (h : NdIs w b0 v l) : ∃ ao cap, v = .slice ao l.length cap ∧
   ∀ k, (hk : k < l.length) → ∃ g, ao = some ⟨g, 0, none⟩ ∧ g < w.heap.size ∧ w.cell? ⟨g, k * 4, none⟩ = some (.int .i64 l[k].kind) ∧ w.cell? ⟨g, k * 4 + 1, none⟩ = some (.string ⟨l[k].text.toArray⟩) ∧ w.cell? ⟨g, k * 4 + 2, none⟩ = some (.int .i64 l[k].num) ∧ w.cell? ⟨g, k * 4 + 3, none⟩ = some (.int .i64 l[k].kids) := by
 rcases h with ⟨rfl, rfl⟩ | ⟨g, cap, rfl, h1, h2, h3, h4, h5⟩
 · exact ⟨none, 0, rfl, fun k hk => by simp at hk⟩
 refine ⟨_, cap, rfl, fun k hk => ⟨g, rfl, h2, ?_⟩⟩
 obtain ⟨q0, q1, q2, q3⟩ := ndsV_at l k hk
 exact ⟨h5 _ _ q0, h5 _ _ q1, h5 _ _ q2, h5 _ _ q3⟩
end Kl
namespace Kl
theorem fit_e : ∀ e : Px.E, e.ok 2000 → ∀ x ∈ e.nodes, NdFit x
 | .null, _, x, hx => by simp [Px.E.nodes, Px.leaf] at hx; subst hx; simp [NdFit]
 | .bool b, _, x, hx => by simp [Px.E.nodes, Px.leaf] at hx; subst hx; cases b <;> simp [NdFit]
 | .num z, h, x, hx => by simp [Px.E.nodes, Px.leaf] at hx; subst hx; simp only [Px.E.ok] at h; simp [NdFit]; omega
 | .str s, h, x, hx => by simp [Px.E.nodes, Px.leaf] at hx; subst hx; simp only [Px.E.ok] at h; simp [NdFit]; omega
 | .nm s, h, x, hx => by simp [Px.E.nodes, Px.leaf] at hx; subst hx; simp only [Px.E.ok] at h; simp [NdFit]; omega
 | .un k e, h, x, hx => by
  simp only [Px.E.nodes, Px.over1, List.mem_cons] at hx
  rcases hx with rfl | hx
  · have := h.1; have := h.2.1; simp [NdFit]; omega
  exact fit_e e h.2.2.2 x hx
 | .bin k a b, h, x, hx => by
  simp only [Px.E.nodes, Px.over2, List.mem_cons, List.mem_append] at hx
  rcases hx with rfl | hx | hx
  · have := h.1; have := h.2.1; simp [NdFit]; omega
  · exact fit_e a h.2.2.1 x hx
  exact fit_e b h.2.2.2 x hx
theorem one_le {α : Type} (o : Option α) : Px.one? o ≤ 1 := by cases o <;> simp [Px.one?]
theorem fit_where (o : Option Px.E) (h : ∀ e ∈ o.toList, e.ok 2000) : ∀ x ∈ Px.whereN o, NdFit x := by
 intro x hx
 cases o with
 | none => simp [Px.whereN] at hx
 | some e =>
  simp only [Px.whereN, Px.over1, List.mem_cons] at hx
  rcases hx with rfl | hx
  · simp [NdFit]
  exact fit_e e (h e (by simp)) x hx
theorem fit_nodes (s : Px.St) (hf : s.Fit) (hn : s.nodes.length ≤ 80000) : ∀ x ∈ s.nodes, NdFit x := by
 have hp := hf.parts
 have he := hf.exprs
 intro x hx
 cases s with
 | create t c =>
  have := Px.isName_len hp.1
  simp only [Px.St.nodes, List.mem_cons, List.mem_map, List.length_cons, List.length_map] at hx hn
  rcases hx with rfl | ⟨a, ha, rfl⟩
  · simp [NdFit]; omega
  obtain ⟨h1, h2, h3, h4⟩ := hp.2.2.2 a ha
  have := Px.isName_len h1
  simp [NdFit, Px.colN]; omega
 | drop t =>
  have := Px.isName_len hp
  simp only [Px.St.nodes, List.mem_cons, List.not_mem_nil, or_false] at hx
  subst hx
  simp [NdFit]; omega
 | insert t r =>
  have := Px.isName_len hp.1
  have h1 : r.length ≤ (r.flatMap Px.rowN).length := flat_len _ (fun a => by simp [Px.rowN]) r
  simp only [Px.St.nodes, List.mem_cons, List.mem_flatMap, List.length_cons] at hx hn
  rcases hx with rfl | ⟨a, ha, hx⟩
  · simp [NdFit]; omega
  have h2 := flat_mem Px.rowN r a ha
  have h3 : a.length ≤ (a.flatMap Px.E.nodes).length := flat_len _ (fun a => by cases a <;> simp [Px.E.nodes, Px.leaf, Px.over1, Px.over2]) a
  simp only [Px.rowN, List.length_cons] at h2
  simp only [Px.rowN, List.mem_cons, List.mem_flatMap] at hx
  rcases hx with rfl | ⟨e, hea, hx⟩
  · simp [NdFit]; omega
  exact fit_e e (he e (List.mem_flatten.2 ⟨a, ha, hea⟩)) x hx
 | delete t o =>
  have := Px.isName_len hp
  have := one_le o
  simp only [Px.St.nodes, List.mem_cons] at hx
  rcases hx with rfl | hx
  · simp [NdFit]; omega
  exact fit_where o (fun e h => he e h) x hx
 | update t s o =>
  have := Px.isName_len hp.1
  have := one_le o
  have h1 : s.length ≤ (s.flatMap Px.setN).length := flat_len _ (fun a => by simp [Px.setN]) s
  simp only [Px.St.nodes, List.mem_cons, List.mem_append, List.mem_flatMap, List.length_cons, List.length_append] at hx hn
  rcases hx with rfl | ⟨a, ha, hx⟩ | hx
  · simp [NdFit]; omega
  · simp only [Px.setN, List.mem_cons] at hx
    rcases hx with rfl | hx
    · have := Px.isName_len (hp.2.2 a ha)
      simp [NdFit]; omega
    exact fit_e a.2 (he _ (by simp only [Px.St.exprs, List.mem_append, List.mem_map]; exact .inl ⟨a, ha, rfl⟩)) x hx
  exact fit_where o (fun e h => he e (by simp only [Px.St.exprs, List.mem_append]; exact .inr h)) x hx
 | select i t o r l =>
  have := Px.isName_len hp.1
  have := one_le o
  have := one_le l
  have h1 : i.length ≤ (i.flatMap Px.itemN).length := flat_len _ (fun a => by
   cases a with
   | none => simp [Px.itemN]
   | some e => cases e <;> simp [Px.itemN, Px.E.nodes, Px.leaf, Px.over1, Px.over2]) i
  have h2 : r.length ≤ (r.flatMap Px.orderN).length := flat_len _ (fun a => by simp [Px.orderN]) r
  simp only [Px.St.nodes, List.mem_cons, List.mem_append, List.mem_flatMap, List.length_cons, List.length_append] at hx hn
  rcases hx with rfl | ((⟨a, ha, hx⟩ | hx) | ⟨a, ha, hx⟩) | hx
  · simp [NdFit]; omega
  · cases a with
    | none => simp [Px.itemN] at hx; subst hx; simp [NdFit]
    | some e => exact fit_e e (he e (by simp only [Px.St.exprs, List.mem_append, List.mem_filterMap, id]; exact .inl (.inl ⟨some e, ha, rfl⟩))) x hx
  · exact fit_where o (fun e h => he e (by simp only [Px.St.exprs, List.mem_append]; exact .inl (.inr h))) x hx
  · simp only [Px.orderN, List.mem_cons] at hx
    rcases hx with rfl | hx
    · cases a.2 <;> simp [NdFit]
    exact fit_e a.1 (he _ (by simp only [Px.St.exprs, List.mem_append, List.mem_map]; exact .inr ⟨a, ha, rfl⟩)) x hx
  cases l with
  | none => simp [Px.limN] at hx
  | some n =>
   have := hp.2.2 n rfl
   simp [Px.limN] at hx; subst hx; simp [NdFit]; omega
theorem tree_of {w : World} {b0 : Nat} {v : Value} {l : List Px.Nd} (h : NdIs w b0 v l) (hf : ∀ x ∈ l, NdFit x) :
   ∃ ao cap, v = .slice ao l.length cap ∧ l.length ≤ cap ∧ cap ≤ maxLen ∧ (∀ x ∈ l, NdFit x) ∧ (l ≠ [] → ∃ g off, ao = some ⟨g, off, none⟩ ∧ g < w.heap.size ∧ TreeIn w g off l) := by
 rcases h with ⟨rfl, rfl⟩ | ⟨g, cap, rfl, h1, h2, h3, h4, h5⟩
 · exact ⟨none, 0, rfl, by simp, by simp [maxLen], hf, fun h => absurd rfl h⟩
 exact ⟨_, cap, rfl, h3, h4, hf, fun _ => ⟨g, 0, rfl, h2, fun j u hu => by rw [Nat.zero_add]; exact h5 j u hu⟩⟩
def kn : Lx.Bs := [83, 69, 76, 69, 67, 84, 32, 45, 32, 45, 50, 32, 70, 82, 79, 77, 32, 116]
end Kl
namespace Kl
end Kl
section
namespace Px
open Lx (Bs Tok)
def wid : List Nd → Nat
 | [] => 0
 | x :: r => 40 + 2 * x.text.length + wid r
theorem wid_app (a b : List Nd) : wid (a ++ b) = wid a + wid b := by
 induction a with
 | nil => simp [wid]
 | cons t a ih => simp only [List.cons_append, wid, ih]; omega
theorem dbl_le (m : UInt8) (s : Bs) : (dbl m s).length ≤ 2 * s.length + 2 := by
 have := flat_le m s
 rw [dbl_len]
 omega
theorem name_le (s : Bs) : (nameT s).length ≤ 2 * s.length + 2 := Nat.le_trans (nameT_le s) (dbl_le 34 s)
theorem brk_le (a b : Nat) (l : List PT) : pls (brkT a b l) ≤ pls l + 4 := by
 unfold brkT
 split
 · simp only [pls, pls_app, sgT, List.length_cons, List.length_nil]; omega
 omega
theorem sgn_len {k : Nat} (h1 : 23 ≤ k) (h2 : k ≤ 36) : (sgnT k).1.length ≤ 3 := by
 rcases sgn_cases h1 h2 with rfl | rfl | rfl | rfl | rfl | rfl | rfl | rfl | rfl | rfl | rfl | rfl | rfl | rfl <;> decide
theorem dg_len (n : Nat) (h : n ≤ 9223372036854775808) : (dgT n).out.length ≤ 19 := by
 show (decF 20 n).length ≤ 19
 exact decF_len 20 n 19 (by omega) (by omega)
theorem e_wid : ∀ e : E, e.ok 2000 → pls e.pt + 6 ≤ wid e.nodes
 | .null, _ => by decide
 | .bool b, _ => by cases b <;> decide
 | .num z, h => by
  simp only [E.ok] at h
  have := dg_len z.natAbs (by omega)
  simp only [E.nodes, leaf, wid, E.pt, List.length_nil]
  split <;> simp only [pls, mnT, List.length_cons, List.length_nil] <;> omega
 | .str s, _ => by
  have := dbl_le 39 s
  simp only [E.nodes, leaf, wid, E.pt, pls, stT]; omega
 | .nm s, _ => by
  have := name_le s
  simp only [E.nodes, leaf, wid, E.pt, pls, nmT]; omega
 | .un k e, h => by
  have ih := e_wid e h.2.2.2
  have b1 := brk_le e.lvl 3 e.pt
  have b2 := brk_le e.lvl 8 e.pt
  have b3 := brk_le e.lvl 5 e.pt
  simp only [E.nodes, over1, wid, E.pt, List.length_nil]
  have l1 : kNOT.length = 3 := rfl
  have l2 : kNULL.length = 4 := rfl
  have l3 : kIS.length = 2 := rfl
  split
  · simp only [pls, kwT]; omega
  split
  · simp only [pls, mnT, List.length_cons, List.length_nil]; omega
  split
  · simp only [pls, pls_app, kwT]; omega
  simp only [pls, pls_app, kwT]; omega
 | .bin k a b, h => by
  have iha := e_wid a h.2.2.1
  have ihb := e_wid b h.2.2.2
  have b1 := brk_le a.lvl (leftOf k) a.pt
  have b2 := brk_le b.lvl ((sgnT k).2 + 1) b.pt
  have b3 := sgn_len h.1 h.2.1
  simp only [E.nodes, over2, wid, wid_app, E.pt, List.length_nil, pls_app, pls, opT_len]
  omega
theorem sep_wid {α : Type} (pt : α → List PT) (nd : α → List Nd) : ∀ l : List α, (∀ a ∈ l, pls (pt a) + 2 ≤ wid (nd a)) → pls (sepT (l.map pt)) ≤ wid (l.flatMap nd)
 | [], _ => by simp [sepT, pls]
 | [a], h => by
  have := h a (by simp)
  simp only [List.map_cons, List.map_nil, sepT, List.flatMap_cons, List.flatMap_nil, List.append_nil]; omega
 | a :: b :: r, h => by
  have h1 := h a (by simp)
  have h2 := sep_wid pt nd (b :: r) (fun x hx => h x (by simp [hx]))
  simp only [List.map_cons, sepT, List.flatMap_cons, pls_app, pls, wid_app, sgT, List.length_cons, List.length_nil] at h1 h2 ⊢
  omega
theorem where_wid (o : Option E) (h : ∀ e ∈ o.toList, e.ok 2000) : pls (whereT o) ≤ wid (whereN o) := by
 cases o with
 | none => simp [whereT, pls]
 | some e =>
  have := e_wid e (h e (by simp))
  have : kWHERE.length = 5 := rfl
  simp only [whereT, pls, whereN, over1, wid, kwT, List.length_nil]; omega
theorem colmap_wid (c : List (Bs × Nat)) : c.map colN = c.flatMap fun x => [colN x] := by
 induction c with
 | nil => rfl
 | cons a c ih => simp [ih]
theorem type_len (n : Nat) : (typeT n).length ≤ 7 := by 
 unfold typeT
 split
 · decide
 split <;> decide
theorem col_wid (c : Bs × Nat) : pls (colT c) + 2 ≤ wid [colN c] := by
 have := name_le c.1
 have := type_len c.2
 have l1 : kNOT.length = 3 := rfl
 have l2 : kNULL.length = 4 := rfl
 simp only [colT, colN, wid, pls, nmT, kwT]
 split <;> simp only [pls] <;> omega
theorem st_wid (s : St) (hf : s.Fit) : (render s.pt).length ≤ wid s.nodes := by
 refine Nat.le_trans (render_pls _) ?_
 have he := hf.exprs
 have hp := hf.parts
 cases s with
 | create t c =>
  have h1 := name_le t
  have h2 := sep_wid colT (fun x => [colN x]) c (fun a _ => col_wid a)
  rw [← colmap_wid] at h2
  simp only [St.pt, St.nodes, pls, pls_app, kwT, sgT, nmT, wid, kCREATE, kTABLE, List.length_cons, List.length_nil] at h2 ⊢
  omega
 | drop t =>
  have h1 := name_le t
  simp only [St.pt, St.nodes, pls, pls_app, kwT, sgT, nmT, wid, kDROP, kTABLE, List.length_cons, List.length_nil]
  omega
 | insert t r =>
  have h1 := name_le t
  have h2 := sep_wid rowT rowN r (fun a ha => by
   have := sep_wid E.pt E.nodes a (fun e hea => by have := e_wid e (he e (List.mem_flatten.2 ⟨a, ha, hea⟩)); omega)
   simp only [rowT, rowN, pls, pls_app, sgT, wid, List.length_cons, List.length_nil]; omega)
  simp only [St.pt, St.nodes, pls, pls_app, kwT, sgT, nmT, wid, kINSERT, kINTO, kVALUES, List.length_cons, List.length_nil] at h2 ⊢
  omega
 | delete t o =>
  have h1 := name_le t
  have h2 := where_wid o (fun e h => he e h)
  simp only [St.pt, St.nodes, pls, pls_app, kwT, sgT, nmT, wid, kDELETE, kFROM, List.length_cons, List.length_nil]
  omega
 | update t s o =>
  have h1 := name_le t
  have h2 := where_wid o (fun e h => he e (by simp only [St.exprs, List.mem_append]; exact .inr h))
  have h3 := sep_wid setT setN s (fun a ha => by
   have := e_wid a.2 (he _ (by simp only [St.exprs, List.mem_append, List.mem_map]; exact .inl ⟨a, ha, rfl⟩))
   have := name_le a.1
   simp only [setT, setN, pls, sgT, nmT, wid, List.length_cons, List.length_nil]; omega)
  simp only [St.pt, St.nodes, pls, pls_app, kwT, sgT, nmT, wid, wid_app, kUPDATE, kSET, List.length_cons, List.length_nil]
  omega
 | select i t o r l =>
  have h1 := name_le t
  have h2 := where_wid o (fun e h => he e (by simp only [St.exprs, List.mem_append]; exact .inl (.inr h)))
  have h3 := sep_wid itemT itemN i (fun a ha => by
   cases a with
   | none => simp [itemT, itemN, pls, wid, sgT]
   | some e =>
    have := e_wid e (he e (by simp only [St.exprs, List.mem_append, List.mem_filterMap, id]; exact .inl (.inl ⟨some e, ha, rfl⟩)))
    simp only [itemT, itemN]; omega)
  have ho : ∀ a ∈ r, pls (orderT a) + 40 ≤ wid (orderN a) := fun a ha => by
   have := e_wid a.1 (he _ (by simp only [St.exprs, List.mem_append, List.mem_map]; exact .inr ⟨a, ha, rfl⟩))
   simp only [orderT, orderN, pls_app, wid, List.length_nil]
   split <;> simp only [pls, kwT, kDESC, List.length_cons, List.length_nil] <;> omega
  have h4 : pls (ordersT r) ≤ wid (r.flatMap orderN) := by
   cases r with
   | nil => simp [ordersT, pls]
   | cons a r =>
    have q1 := ho a (by simp)
    have q2 := sep_wid orderT orderN r (fun x hx => by have := ho x (by simp [hx]); omega)
    have q3 : pls (sepT ((a :: r).map orderT)) ≤ pls (orderT a) + 2 + pls (sepT (r.map orderT)) := by
     cases r with
     | nil => simp [sepT, pls]
     | cons b r => simp [sepT, pls, pls_app, sgT]; omega
    simp only [ordersT, pls, kwT, kORDER, kBY, List.length_cons, List.length_nil, List.flatMap_cons, wid_app]
    omega
  have h5 : pls (limT l) ≤ wid (limN l) := by
   cases l with
   | none => simp [limT, pls]
   | some n =>
    have := hp.2.2 n rfl
    have := dg_len n (by omega)
    simp only [limT, limN, pls, wid, kwT, kLIMIT, List.length_cons, List.length_nil]; omega
  simp only [St.pt, St.nodes, pls, pls_app, kwT, sgT, nmT, wid, wid_app, kSELECT, kFROM, List.length_cons, List.length_nil]
  omega
end Px
end
end Go.Proofs.YtkcakbgcfnhgaaaGreatDoor
