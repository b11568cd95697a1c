/- Parts of the proof: Ym Yn Yo Yp Yq -/
import Derived.Test.YtkcakbgcfnhgaaaGreatDoorX17
namespace Go.Proofs.YtkcakbgcfnhgaaaGreatDoor
set_option linter.unusedSimpArgs false
set_option linter.unusedVariables false
set_option maxRecDepth 100000
set_option maxHeartbeats 16000000
open Go.RowKit
theorem d_listCol_any (B : Nat) (hB : 12 ≤ B) (base : Nat) (v : Value) (s : List (Lx.Bs × Nat)) (hs : ∀ x ∈ s, Px.isName x.1 = true ∧ 1 ≤ x.2 ∧ x.2 ≤ 7 ∧ x.2 ≠ 4) (w : World) (l : List Px.PT) (h : Prs w B l) (he : EnvV w) (ho : w.ownsRow base 135 2 v s.length (s.flatMap colC)) (hne : ∀ g, v.ownBlock = some g → g ≠ B) (hn : s.length ≤ 16777216) :
   Calls Tryz.prog 111 #[.pointer (some ⟨B, 0, none⟩), v, .func (.func 112) #[.pointer (some ⟨B, 0, none⟩)] #[]] w (POut w B (l ++ Px.sepT (s.map Px.colT))) := by
 have HP := hd h
 have HE := hd he
 have HO := hd ho
 have HS := hd hs
 have HNE := hd hne
 have hlt := h.lt
 obtain ⟨ao, cap, hsl, _, _, _⟩ := ls_cells (cl := colC) (m := 2) (fun a => rfl) ho
 subst hsl
 clear h he ho hs hne
 go_enter Tryz.func111, Tryz.ntmps111
 go_wp2_with fail
 go_loopw [10] (fun i wr => ∃ k : Nat, k ≤ s.length ∧ i = .int .i64 k ∧ Hid (Prs wr B (l ++ Px.sepT ((s.take k).map Px.colT))) ∧ Hid (Kq B w wr)) (fun i _ => s.length - (intOf i).toNat)
 case atStart => exact ⟨0, by omega, rfl, (by show Prs _ _ _; simpa [Px.sepT] using HP.out), Kq.refl _ _⟩
 case round =>
  obtain ⟨k, hk, rfl, HPk, HKk⟩ := hrel
  have HEk := hd (HE.out.low HKk.out.1 hB)
  have hltk := HPk.out.lt
  by_cases hlt2 : k < s.length
  · obtain ⟨ao2, cap2, hsl2, _, _, hcells⟩ := ls_cells (cl := colC) (m := 2) (fun a => rfl) (HKk.out.own HO.out (by decide) HNE.out)
    simp only [Value.slice.injEq, true_and] at hsl2
    obtain ⟨rfl, rfl⟩ := hsl2
    obtain ⟨g, rfl, hg, hj⟩ := hcells k hlt2
    have p0 := hj 0 (by omega)
    have p1 := hj 1 (by omega)
    have HX := hd (HS.out s[k] (List.getElem_mem hlt2))
    have HTK : Hid ((s.take (k + 1)).map Px.colT = (s.take k).map Px.colT ++ [Px.colT s[k]]) := by show _ = _; rw [List.take_add_one, List.getElem?_eq_getElem hlt2, List.map_append]; rfl
    have HDR : Hid (∃ m, Px.sepT (s.map Px.colT) = Px.sepT ((s.take (k + 1)).map Px.colT) ++ m) := by
     show ∃ m, _
     have := sep_pre ((s.take (k + 1)).map Px.colT) ((s.drop (k + 1)).map Px.colT) (by simp; intro e; rw [e] at hlt2; simp at hlt2)
     rwa [← List.map_append, List.take_append_drop] at this
    clear hcells hj
    generalize s[k] = x at *
    obtain ⟨nm, e⟩ := x
    simp only [colC, List.getElem?_cons_zero, List.getElem?_cons_succ, Nat.add_zero] at p0 p1
    have hbx : Below wr.heap.size wr (wr.alloc (.cells #[.string ⟨nm.toArray⟩, .int .i64 (e : Int)] 135)) := (Below.refl _ _).alloc (Nat.le_refl _) _
    have HP0 := hd (HPk.out.below hbx)
    have HE0 := hd (HEk.out.below hbx)
    have HK0 := hd (HKk.out.more hbx (by omega))
    have HB0 := hd (Blk.new wr #[.string ⟨nm.toArray⟩, .int .i64 (e : Int)] 135)
    have HSet : Hid (∀ w l, Prs w B l → EnvV w → Calls Tryz.prog 112 #[.pointer (some ⟨B, 0, none⟩), .agg #[.string ⟨nm.toArray⟩, .int .i64 (e : Int)]] w (POut w B (l ++ Px.colT (nm, e)))) := by
     intro w l h he
     exact d_column_any B hB nm e HX.out.1 HX.out.2.1 HX.out.2.2.1 HX.out.2.2.2 w l h he
    clear hbx
    by_cases hk0 : k = 0
    · subst hk0
      have HSE : Hid (Px.sepT ((s.take (0 + 1)).map Px.colT) = Px.colT (nm, e)) := by show _ = _; rw [HTK.out]; rfl
      go_wp2_with fail
      refine (HSet.out _ _ HP0.out HE0.out).mono ?_
      rintro x w2 ho
      obtain ⟨k2, ⟨rfl, hb⟩ | ⟨rfl, hp2⟩⟩ := ho.cases
      · obtain ⟨m, hm⟩ := HDR.out
        refine ⟨rfl, tooLong (m := m) (HK0.out.trans k2) hb ?_⟩
        rw [hm, HSE.out]
        simp [Px.sepT]
      have HP2 : Hid (Prs w2 B (l ++ Px.sepT ((s.take (0 + 1)).map Px.colT))) := by show Prs _ _ _; rw [HSE.out]; simpa [Px.sepT] using hp2
      have HK2 := hd (HK0.out.trans k2)
      clear hp2 k2 ho
      go_wp2_with fail
      go_roundw
      case rel => exact ⟨0 + 1, by omega, by go_num, HP2, HK2⟩
      case measure => simp [intOf]; omega
    · have HSE : Hid (Px.sepT ((s.take (k + 1)).map Px.colT) = Px.sepT ((s.take k).map Px.colT) ++ (Px.sgT [44] :: Px.colT (nm, e))) := by
       show _ = _
       rw [HTK.out]
       refine sep_snoc _ _ ?_
       simp
       refine ⟨hk0, ?_⟩
       intro e'
       rw [e'] at hlt2
       simp at hlt2
      have hk1 : (0 : Int) < (k : Int) := by omega
      go_wp2_with fail
      refine (d_put1g B _ _ _ (Px.sgT [44]) (by simp) HP0.out (pt0_sg _ (by simp) (by simp))).mono ?_
      rintro x w1 ho
      obtain ⟨k1, ⟨rfl, hb⟩ | ⟨rfl, hp1⟩⟩ := ho.cases
      · obtain ⟨m, hm⟩ := HDR.out
        refine ⟨rfl, tooLong (m := Px.colT (nm, e) ++ m) (HK0.out.trans k1) hb ?_⟩
        rw [hm, HSE.out]
        simp
      have HP1 := hd hp1
      have HK1 := hd (HK0.out.trans k1)
      have HE1 := hd (HE0.out.low k1.1 hB)
      have HB1 := hd (k1.blk HB0.out (by omega) (by decide))
      have q0 := HB1.out.cell 0
      have q1 := HB1.out.cell 1
      simp at q0 q1
      clear hp1 k1 ho
      go_wp2_with fail
      refine (HSet.out _ _ HP1.out HE1.out).mono ?_
      rintro x w2 ho
      obtain ⟨k2, ⟨rfl, hb⟩ | ⟨rfl, hp2⟩⟩ := ho.cases
      · obtain ⟨m, hm⟩ := HDR.out
        refine ⟨rfl, tooLong (m := m) (HK1.out.trans k2) hb ?_⟩
        rw [hm, HSE.out]
        simp
      have HP2 : Hid (Prs w2 B (l ++ Px.sepT ((s.take (k + 1)).map Px.colT))) := by show Prs _ _ _; rw [HSE.out]; simpa [List.append_assoc] using hp2
      have HK2 := hd (HK1.out.trans k2)
      clear hp2 k2 ho
      go_wp2_with fail
      go_roundw
      case rel => exact ⟨k + 1, by omega, by go_num, HP2, HK2⟩
      case measure => simp [intOf]; omega
  · have hke : k = s.length := by omega
    subst hke
    go_wp2_with fail
    go_end0
    refine POut.ok HKk.out ?_
    have := HPk.out
    rwa [List.take_length] at this
theorem d_listOrder_any (B : Nat) (hB : 12 ≤ B) (base : Nat) (v : Value) (s : List (Px.E × Bool)) (hs : ∀ x ∈ s, PE x.1) (w : World) (l : List Px.PT) (h : Prs w B l) (he : EnvV w) (ho : w.ownsRow base 143 2 v s.length (s.flatMap orderC)) (hne : ∀ g, v.ownBlock = some g → g ≠ B) (hn : s.length ≤ 16777216) :
   Calls Tryz.prog 126 #[.pointer (some ⟨B, 0, none⟩), v, .func (.func 127) #[.pointer (some ⟨B, 0, none⟩)] #[]] w (POut w B (l ++ Px.sepT (s.map Px.orderT))) := by
 have HP := hd h
 have HE := hd he
 have HO := hd ho
 have HS := hd hs
 have HNE := hd hne
 have hlt := h.lt
 obtain ⟨ao, cap, hsl, _, _, _⟩ := ls_cells (cl := orderC) (m := 2) (fun a => rfl) ho
 subst hsl
 clear h he ho hs hne
 go_enter Tryz.func126, Tryz.ntmps126
 go_wp2_with fail
 go_loopw [10] (fun i wr => ∃ k : Nat, k ≤ s.length ∧ i = .int .i64 k ∧ Hid (Prs wr B (l ++ Px.sepT ((s.take k).map Px.orderT))) ∧ Hid (Kq B w wr)) (fun i _ => s.length - (intOf i).toNat)
 case atStart => exact ⟨0, by omega, rfl, (by show Prs _ _ _; simpa [Px.sepT] using HP.out), Kq.refl _ _⟩
 case round =>
  obtain ⟨k, hk, rfl, HPk, HKk⟩ := hrel
  have HEk := hd (HE.out.low HKk.out.1 hB)
  have hltk := HPk.out.lt
  by_cases hlt2 : k < s.length
  · obtain ⟨ao2, cap2, hsl2, _, _, hcells⟩ := ls_cells (cl := orderC) (m := 2) (fun a => rfl) (HKk.out.own HO.out (by decide) HNE.out)
    simp only [Value.slice.injEq, true_and] at hsl2
    obtain ⟨rfl, rfl⟩ := hsl2
    obtain ⟨g, rfl, hg, hj⟩ := hcells k hlt2
    have p0 := hj 0 (by omega)
    have p1 := hj 1 (by omega)
    have HX := hd (HS.out s[k] (List.getElem_mem hlt2))
    have HTK : Hid ((s.take (k + 1)).map Px.orderT = (s.take k).map Px.orderT ++ [Px.orderT s[k]]) := by show _ = _; rw [List.take_add_one, List.getElem?_eq_getElem hlt2, List.map_append]; rfl
    have HDR : Hid (∃ m, Px.sepT (s.map Px.orderT) = Px.sepT ((s.take (k + 1)).map Px.orderT) ++ m) := by
     show ∃ m, _
     have := sep_pre ((s.take (k + 1)).map Px.orderT) ((s.drop (k + 1)).map Px.orderT) (by simp; intro e; rw [e] at hlt2; simp at hlt2)
     rwa [← List.map_append, List.take_append_drop] at this
    clear hcells hj
    generalize s[k] = x at *
    obtain ⟨e, bb⟩ := x
    simp only [orderC, List.getElem?_cons_zero, List.getElem?_cons_succ, Nat.add_zero] at p0 p1
    obtain ⟨et, ex, hev⟩ := ev_iface e
    have HEV := hd hev
    rw [hev] at p0
    have hbx : Below wr.heap.size wr (wr.alloc (.cells #[.iface et ex, .bool bb] 143)) := (Below.refl _ _).alloc (Nat.le_refl _) _
    have HP0 := hd (HPk.out.below hbx)
    have HE0 := hd (HEk.out.below hbx)
    have HK0 := hd (HKk.out.more hbx (by omega))
    have HB0 := hd (Blk.new wr #[.iface et ex, .bool bb] 143)
    have HSet : Hid (∀ w l, Prs w B l → EnvV w → Calls Tryz.prog 127 #[.pointer (some ⟨B, 0, none⟩), .agg #[.iface et ex, .bool bb]] w (POut w B (l ++ Px.orderT (e, bb)))) := by
     intro w l h he
     have := d_order_any B hB e bb HX.out w l h he
     rwa [hev] at this
    clear hbx hev
    by_cases hk0 : k = 0
    · subst hk0
      have HSE : Hid (Px.sepT ((s.take (0 + 1)).map Px.orderT) = Px.orderT (e, bb)) := by show _ = _; rw [HTK.out]; rfl
      go_wp2_with fail
      refine (HSet.out _ _ HP0.out HE0.out).mono ?_
      rintro x w2 ho
      obtain ⟨k2, ⟨rfl, hb⟩ | ⟨rfl, hp2⟩⟩ := ho.cases
      · obtain ⟨m, hm⟩ := HDR.out
        refine ⟨rfl, tooLong (m := m) (HK0.out.trans k2) hb ?_⟩
        rw [hm, HSE.out]
        simp [Px.sepT]
      have HP2 : Hid (Prs w2 B (l ++ Px.sepT ((s.take (0 + 1)).map Px.orderT))) := by show Prs _ _ _; rw [HSE.out]; simpa [Px.sepT] using hp2
      have HK2 := hd (HK0.out.trans k2)
      clear hp2 k2 ho
      go_wp2_with fail
      go_roundw
      case rel => exact ⟨0 + 1, by omega, by go_num, HP2, HK2⟩
      case measure => simp [intOf]; omega
    · have HSE : Hid (Px.sepT ((s.take (k + 1)).map Px.orderT) = Px.sepT ((s.take k).map Px.orderT) ++ (Px.sgT [44] :: Px.orderT (e, bb))) := by
       show _ = _
       rw [HTK.out]
       refine sep_snoc _ _ ?_
       simp
       refine ⟨hk0, ?_⟩
       intro e'
       rw [e'] at hlt2
       simp at hlt2
      have hk1 : (0 : Int) < (k : Int) := by omega
      go_wp2_with fail
      refine (d_put1g B _ _ _ (Px.sgT [44]) (by simp) HP0.out (pt0_sg _ (by simp) (by simp))).mono ?_
      rintro x w1 ho
      obtain ⟨k1, ⟨rfl, hb⟩ | ⟨rfl, hp1⟩⟩ := ho.cases
      · obtain ⟨m, hm⟩ := HDR.out
        refine ⟨rfl, tooLong (m := Px.orderT (e, bb) ++ m) (HK0.out.trans k1) hb ?_⟩
        rw [hm, HSE.out]
        simp
      have HP1 := hd hp1
      have HK1 := hd (HK0.out.trans k1)
      have HE1 := hd (HE0.out.low k1.1 hB)
      have HB1 := hd (k1.blk HB0.out (by omega) (by decide))
      have q0 := HB1.out.cell 0
      have q1 := HB1.out.cell 1
      simp at q0 q1
      clear hp1 k1 ho
      go_wp2_with fail
      refine (HSet.out _ _ HP1.out HE1.out).mono ?_
      rintro x w2 ho
      obtain ⟨k2, ⟨rfl, hb⟩ | ⟨rfl, hp2⟩⟩ := ho.cases
      · obtain ⟨m, hm⟩ := HDR.out
        refine ⟨rfl, tooLong (m := m) (HK1.out.trans k2) hb ?_⟩
        rw [hm, HSE.out]
        simp
      have HP2 : Hid (Prs w2 B (l ++ Px.sepT ((s.take (k + 1)).map Px.orderT))) := by show Prs _ _ _; rw [HSE.out]; simpa [List.append_assoc] using hp2
      have HK2 := hd (HK1.out.trans k2)
      clear hp2 k2 ho
      go_wp2_with fail
      go_roundw
      case rel => exact ⟨k + 1, by omega, by go_num, HP2, HK2⟩
      case measure => simp [intOf]; omega
  · have hke : k = s.length := by omega
    subst hke
    go_wp2_with fail
    go_end0
    refine POut.ok HKk.out ?_
    have := HPk.out
    rwa [List.take_length] at this
theorem d_listItem_any (B : Nat) (hB : 12 ≤ B) (base : Nat) (v : Value) (s : List (Option Px.E)) (hs : ∀ x ∈ s, ∀ e ∈ x.toList, PE e) (w : World) (l : List Px.PT) (h : Prs w B l) (he : EnvV w) (ho : w.ownsRow base 141 2 v s.length (s.flatMap itemC)) (hne : ∀ g, v.ownBlock = some g → g ≠ B) (hn : s.length ≤ 16777216) :
   Calls Tryz.prog 124 #[.pointer (some ⟨B, 0, none⟩), v, .func (.func 125) #[.pointer (some ⟨B, 0, none⟩)] #[]] w (POut w B (l ++ Px.sepT (s.map Px.itemT))) := by
 have HP := hd h
 have HE := hd he
 have HO := hd ho
 have HS := hd hs
 have HNE := hd hne
 have hlt := h.lt
 obtain ⟨ao, cap, hsl, _, _, _⟩ := ls_cells (cl := itemC) (m := 2) (fun a => by cases a <;> rfl) ho
 subst hsl
 clear h he ho hs hne
 go_enter Tryz.func124, Tryz.ntmps124
 go_wp2_with fail
 go_loopw [10] (fun i wr => ∃ k : Nat, k ≤ s.length ∧ i = .int .i64 k ∧ Hid (Prs wr B (l ++ Px.sepT ((s.take k).map Px.itemT))) ∧ Hid (Kq B w wr)) (fun i _ => s.length - (intOf i).toNat)
 case atStart => exact ⟨0, by omega, rfl, (by show Prs _ _ _; simpa [Px.sepT] using HP.out), Kq.refl _ _⟩
 case round =>
  obtain ⟨k, hk, rfl, HPk, HKk⟩ := hrel
  have HEk := hd (HE.out.low HKk.out.1 hB)
  have hltk := HPk.out.lt
  by_cases hlt2 : k < s.length
  · obtain ⟨ao2, cap2, hsl2, _, _, hcells⟩ := ls_cells (cl := itemC) (m := 2) (fun a => by cases a <;> rfl) (HKk.out.own HO.out (by decide) HNE.out)
    simp only [Value.slice.injEq, true_and] at hsl2
    obtain ⟨rfl, rfl⟩ := hsl2
    obtain ⟨g, rfl, hg, hj⟩ := hcells k hlt2
    have p0 := hj 0 (by omega)
    have p1 := hj 1 (by omega)
    have HX := hd (HS.out s[k] (List.getElem_mem hlt2))
    have HTK : Hid ((s.take (k + 1)).map Px.itemT = (s.take k).map Px.itemT ++ [Px.itemT s[k]]) := by show _ = _; rw [List.take_add_one, List.getElem?_eq_getElem hlt2, List.map_append]; rfl
    have HDR : Hid (∃ m, Px.sepT (s.map Px.itemT) = Px.sepT ((s.take (k + 1)).map Px.itemT) ++ m) := by
     show ∃ m, _
     have := sep_pre ((s.take (k + 1)).map Px.itemT) ((s.drop (k + 1)).map Px.itemT) (by simp; intro e; rw [e] at hlt2; simp at hlt2)
     rwa [← List.map_append, List.take_append_drop] at this
    clear hcells hj
    generalize s[k] = x at *
    cases x with
    | none =>
     simp only [itemC, List.getElem?_cons_zero, List.getElem?_cons_succ, Nat.add_zero] at p0 p1
     have hbx : Below wr.heap.size wr (wr.alloc (.cells #[.bool true, .nilIface] 141)) := (Below.refl _ _).alloc (Nat.le_refl _) _
     have HP0 := hd (HPk.out.below hbx)
     have HE0 := hd (HEk.out.below hbx)
     have HK0 := hd (HKk.out.more hbx (by omega))
     have HB0 := hd (Blk.new wr #[.bool true, .nilIface] 141)
     have HSet : Hid (∀ w l, Prs w B l → EnvV w → Calls Tryz.prog 125 #[.pointer (some ⟨B, 0, none⟩), .agg #[.bool true, .nilIface]] w (POut w B (l ++ Px.itemT none))) := by
      intro w l h he
      exact d_item_any B hB none HX.out w l h he
     clear hbx
     by_cases hk0 : k = 0
     · subst hk0
       have HSE : Hid (Px.sepT ((s.take (0 + 1)).map Px.itemT) = Px.itemT none) := by show _ = _; rw [HTK.out]; rfl
       go_wp2_with fail
       refine (HSet.out _ _ HP0.out HE0.out).mono ?_
       rintro x w2 ho
       obtain ⟨k2, ⟨rfl, hb⟩ | ⟨rfl, hp2⟩⟩ := ho.cases
       · obtain ⟨m, hm⟩ := HDR.out
         refine ⟨rfl, tooLong (m := m) (HK0.out.trans k2) hb ?_⟩
         rw [hm, HSE.out]
         simp [Px.sepT]
       have HP2 : Hid (Prs w2 B (l ++ Px.sepT ((s.take (0 + 1)).map Px.itemT))) := by show Prs _ _ _; rw [HSE.out]; simpa [Px.sepT] using hp2
       have HK2 := hd (HK0.out.trans k2)
       clear hp2 k2 ho
       go_wp2_with fail
       go_roundw
       case rel => exact ⟨0 + 1, by omega, by go_num, HP2, HK2⟩
       case measure => simp [intOf]; omega
     · have HSE : Hid (Px.sepT ((s.take (k + 1)).map Px.itemT) = Px.sepT ((s.take k).map Px.itemT) ++ (Px.sgT [44] :: Px.itemT none)) := by
        show _ = _
        rw [HTK.out]
        refine sep_snoc _ _ ?_
        simp
        refine ⟨hk0, ?_⟩
        intro e'
        rw [e'] at hlt2
        simp at hlt2
       have hk1 : (0 : Int) < (k : Int) := by omega
       go_wp2_with fail
       refine (d_put1g B _ _ _ (Px.sgT [44]) (by simp) HP0.out (pt0_sg _ (by simp) (by simp))).mono ?_
       rintro x w1 ho
       obtain ⟨k1, ⟨rfl, hb⟩ | ⟨rfl, hp1⟩⟩ := ho.cases
       · obtain ⟨m, hm⟩ := HDR.out
         refine ⟨rfl, tooLong (m := Px.itemT none ++ m) (HK0.out.trans k1) hb ?_⟩
         rw [hm, HSE.out]
         simp
       have HP1 := hd hp1
       have HK1 := hd (HK0.out.trans k1)
       have HE1 := hd (HE0.out.low k1.1 hB)
       have HB1 := hd (k1.blk HB0.out (by omega) (by decide))
       have q0 := HB1.out.cell 0
       have q1 := HB1.out.cell 1
       simp at q0 q1
       clear hp1 k1 ho
       go_wp2_with fail
       refine (HSet.out _ _ HP1.out HE1.out).mono ?_
       rintro x w2 ho
       obtain ⟨k2, ⟨rfl, hb⟩ | ⟨rfl, hp2⟩⟩ := ho.cases
       · obtain ⟨m, hm⟩ := HDR.out
         refine ⟨rfl, tooLong (m := m) (HK1.out.trans k2) hb ?_⟩
         rw [hm, HSE.out]
         simp
       have HP2 : Hid (Prs w2 B (l ++ Px.sepT ((s.take (k + 1)).map Px.itemT))) := by show Prs _ _ _; rw [HSE.out]; simpa [List.append_assoc] using hp2
       have HK2 := hd (HK1.out.trans k2)
       clear hp2 k2 ho
       go_wp2_with fail
       go_roundw
       case rel => exact ⟨k + 1, by omega, by go_num, HP2, HK2⟩
       case measure => simp [intOf]; omega
    | some e =>
     simp only [itemC, List.getElem?_cons_zero, List.getElem?_cons_succ, Nat.add_zero] at p0 p1
     obtain ⟨et, ex, hev⟩ := ev_iface e
     have HEV := hd hev
     rw [hev] at p1
     have hbx : Below wr.heap.size wr (wr.alloc (.cells #[.bool false, .iface et ex] 141)) := (Below.refl _ _).alloc (Nat.le_refl _) _
     have HP0 := hd (HPk.out.below hbx)
     have HE0 := hd (HEk.out.below hbx)
     have HK0 := hd (HKk.out.more hbx (by omega))
     have HB0 := hd (Blk.new wr #[.bool false, .iface et ex] 141)
     have HSet : Hid (∀ w l, Prs w B l → EnvV w → Calls Tryz.prog 125 #[.pointer (some ⟨B, 0, none⟩), .agg #[.bool false, .iface et ex]] w (POut w B (l ++ Px.itemT (some e)))) := by
      intro w l h he
      have := d_item_any B hB (some e) HX.out w l h he
      have h2 : ev? (some e) = ev e := rfl
      rw [h2, hev] at this
      exact this
     clear hbx hev
     by_cases hk0 : k = 0
     · subst hk0
       have HSE : Hid (Px.sepT ((s.take (0 + 1)).map Px.itemT) = Px.itemT (some e)) := by show _ = _; rw [HTK.out]; rfl
       go_wp2_with fail
       refine (HSet.out _ _ HP0.out HE0.out).mono ?_
       rintro x w2 ho
       obtain ⟨k2, ⟨rfl, hb⟩ | ⟨rfl, hp2⟩⟩ := ho.cases
       · obtain ⟨m, hm⟩ := HDR.out
         refine ⟨rfl, tooLong (m := m) (HK0.out.trans k2) hb ?_⟩
         rw [hm, HSE.out]
         simp [Px.sepT]
       have HP2 : Hid (Prs w2 B (l ++ Px.sepT ((s.take (0 + 1)).map Px.itemT))) := by show Prs _ _ _; rw [HSE.out]; simpa [Px.sepT] using hp2
       have HK2 := hd (HK0.out.trans k2)
       clear hp2 k2 ho
       go_wp2_with fail
       go_roundw
       case rel => exact ⟨0 + 1, by omega, by go_num, HP2, HK2⟩
       case measure => simp [intOf]; omega
     · have HSE : Hid (Px.sepT ((s.take (k + 1)).map Px.itemT) = Px.sepT ((s.take k).map Px.itemT) ++ (Px.sgT [44] :: Px.itemT (some e))) := by
        show _ = _
        rw [HTK.out]
        refine sep_snoc _ _ ?_
        simp
        refine ⟨hk0, ?_⟩
        intro e'
        rw [e'] at hlt2
        simp at hlt2
       have hk1 : (0 : Int) < (k : Int) := by omega
       go_wp2_with fail
       refine (d_put1g B _ _ _ (Px.sgT [44]) (by simp) HP0.out (pt0_sg _ (by simp) (by simp))).mono ?_
       rintro x w1 ho
       obtain ⟨k1, ⟨rfl, hb⟩ | ⟨rfl, hp1⟩⟩ := ho.cases
       · obtain ⟨m, hm⟩ := HDR.out
         refine ⟨rfl, tooLong (m := Px.itemT (some e) ++ m) (HK0.out.trans k1) hb ?_⟩
         rw [hm, HSE.out]
         simp
       have HP1 := hd hp1
       have HK1 := hd (HK0.out.trans k1)
       have HE1 := hd (HE0.out.low k1.1 hB)
       have HB1 := hd (k1.blk HB0.out (by omega) (by decide))
       have q0 := HB1.out.cell 0
       have q1 := HB1.out.cell 1
       simp at q0 q1
       clear hp1 k1 ho
       go_wp2_with fail
       refine (HSet.out _ _ HP1.out HE1.out).mono ?_
       rintro x w2 ho
       obtain ⟨k2, ⟨rfl, hb⟩ | ⟨rfl, hp2⟩⟩ := ho.cases
       · obtain ⟨m, hm⟩ := HDR.out
         refine ⟨rfl, tooLong (m := m) (HK1.out.trans k2) hb ?_⟩
         rw [hm, HSE.out]
         simp
       have HP2 : Hid (Prs w2 B (l ++ Px.sepT ((s.take (k + 1)).map Px.itemT))) := by show Prs _ _ _; rw [HSE.out]; simpa [List.append_assoc] using hp2
       have HK2 := hd (HK1.out.trans k2)
       clear hp2 k2 ho
       go_wp2_with fail
       go_roundw
       case rel => exact ⟨k + 1, by omega, by go_num, HP2, HK2⟩
       case measure => simp [intOf]; omega
  · have hke : k = s.length := by omega
    subst hke
    go_wp2_with fail
    go_end0
    refine POut.ok HKk.out ?_
    have := HPk.out
    rwa [List.take_length] at this
theorem d_listExpr_any (B : Nat) (hB : 12 ≤ B) (base : Nat) (v : Value) (s : List Px.E) (hs : ∀ x ∈ s, PE x) (w : World) (l : List Px.PT) (h : Prs w B l) (he : EnvV w) (ho : w.ownsRow base 97 1 v s.length (s.flatMap exC)) (hne : ∀ g, v.ownBlock = some g → g ≠ B) (hn : s.length ≤ 16777216) :
   Calls Tryz.prog 175 #[.pointer (some ⟨B, 0, none⟩), v, .func (.func 121) #[.pointer (some ⟨B, 0, none⟩)] #[]] w (POut w B (l ++ Px.sepT (s.map Px.E.pt))) := by
 have HP := hd h
 have HE := hd he
 have HO := hd ho
 have HS := hd hs
 have HNE := hd hne
 have hlt := h.lt
 obtain ⟨ao, cap, hsl, _, _, _⟩ := ls_cells (cl := exC) (m := 1) (fun a => rfl) ho
 subst hsl
 clear h he ho hs hne
 go_enter Tryz.func175, Tryz.ntmps175
 go_wp2_with fail
 go_loopw [10] (fun i wr => ∃ k : Nat, k ≤ s.length ∧ i = .int .i64 k ∧ Hid (Prs wr B (l ++ Px.sepT ((s.take k).map Px.E.pt))) ∧ Hid (Kq B w wr)) (fun i _ => s.length - (intOf i).toNat)
 case atStart => exact ⟨0, by omega, rfl, (by show Prs _ _ _; simpa [Px.sepT] using HP.out), Kq.refl _ _⟩
 case round =>
  obtain ⟨k, hk, rfl, HPk, HKk⟩ := hrel
  have HEk := hd (HE.out.low HKk.out.1 hB)
  have hltk := HPk.out.lt
  by_cases hlt2 : k < s.length
  · obtain ⟨ao2, cap2, hsl2, _, _, hcells⟩ := ls_cells (cl := exC) (m := 1) (fun a => rfl) (HKk.out.own HO.out (by decide) HNE.out)
    simp only [Value.slice.injEq, true_and] at hsl2
    obtain ⟨rfl, rfl⟩ := hsl2
    obtain ⟨g, rfl, hg, hj⟩ := hcells k hlt2
    have p0 := hj 0 (by omega)
    have HX := hd (HS.out s[k] (List.getElem_mem hlt2))
    have HTK : Hid ((s.take (k + 1)).map Px.E.pt = (s.take k).map Px.E.pt ++ [Px.E.pt s[k]]) := by show _ = _; rw [List.take_add_one, List.getElem?_eq_getElem hlt2, List.map_append]; rfl
    have HDR : Hid (∃ m, Px.sepT (s.map Px.E.pt) = Px.sepT ((s.take (k + 1)).map Px.E.pt) ++ m) := by
     show ∃ m, _
     have := sep_pre ((s.take (k + 1)).map Px.E.pt) ((s.drop (k + 1)).map Px.E.pt) (by simp; intro e; rw [e] at hlt2; simp at hlt2)
     rwa [← List.map_append, List.take_append_drop] at this
    clear hcells hj
    generalize s[k] = e at *
    simp only [exC, List.getElem?_cons_zero, List.getElem?_cons_succ, Nat.add_zero, Nat.mul_one] at p0
    obtain ⟨et, ex, hev⟩ := ev_iface e
    have HEV := hd hev
    rw [hev] at p0
    have HP0 := HPk
    have HE0 := HEk
    have HK0 := HKk
    have HSet : Hid (∀ w l, Prs w B l → EnvV w → Calls Tryz.prog 121 #[.pointer (some ⟨B, 0, none⟩), .iface et ex] w (POut w B (l ++ e.pt))) := by
     intro w l h he
     have := d_whole_any B hB e HX.out w l h he
     rwa [hev] at this
    clear hev
    by_cases hk0 : k = 0
    · subst hk0
      have HSE : Hid (Px.sepT ((s.take (0 + 1)).map Px.E.pt) = e.pt) := by show _ = _; rw [HTK.out]; rfl
      go_wp2_with fail
      refine (HSet.out _ _ HP0.out HE0.out).mono ?_
      rintro x w2 ho
      obtain ⟨k2, ⟨rfl, hb⟩ | ⟨rfl, hp2⟩⟩ := ho.cases
      · obtain ⟨m, hm⟩ := HDR.out
        refine ⟨rfl, tooLong (m := m) (HK0.out.trans k2) hb ?_⟩
        rw [hm, HSE.out]
        simp [Px.sepT]
      have HP2 : Hid (Prs w2 B (l ++ Px.sepT ((s.take (0 + 1)).map Px.E.pt))) := by show Prs _ _ _; rw [HSE.out]; simpa [Px.sepT] using hp2
      have HK2 := hd (HK0.out.trans k2)
      clear hp2 k2 ho
      go_wp2_with fail
      go_roundw
      case rel => exact ⟨0 + 1, by omega, by go_num, HP2, HK2⟩
      case measure => simp [intOf]; omega
    · have HSE : Hid (Px.sepT ((s.take (k + 1)).map Px.E.pt) = Px.sepT ((s.take k).map Px.E.pt) ++ (Px.sgT [44] :: e.pt)) := by
       show _ = _
       rw [HTK.out]
       refine sep_snoc _ _ ?_
       simp
       refine ⟨hk0, ?_⟩
       intro e'
       rw [e'] at hlt2
       simp at hlt2
      have hk1 : (0 : Int) < (k : Int) := by omega
      go_wp2_with fail
      refine (d_put1g B _ _ _ (Px.sgT [44]) (by simp) HP0.out (pt0_sg _ (by simp) (by simp))).mono ?_
      rintro x w1 ho
      obtain ⟨k1, ⟨rfl, hb⟩ | ⟨rfl, hp1⟩⟩ := ho.cases
      · obtain ⟨m, hm⟩ := HDR.out
        refine ⟨rfl, tooLong (m := e.pt ++ m) (HK0.out.trans k1) hb ?_⟩
        rw [hm, HSE.out]
        simp
      have HP1 := hd hp1
      have HK1 := hd (HK0.out.trans k1)
      have HE1 := hd (HE0.out.low k1.1 hB)
      clear hp1 k1 ho
      go_wp2_with fail
      refine (HSet.out _ _ HP1.out HE1.out).mono ?_
      rintro x w2 ho
      obtain ⟨k2, ⟨rfl, hb⟩ | ⟨rfl, hp2⟩⟩ := ho.cases
      · obtain ⟨m, hm⟩ := HDR.out
        refine ⟨rfl, tooLong (m := m) (HK1.out.trans k2) hb ?_⟩
        rw [hm, HSE.out]
        simp
      have HP2 : Hid (Prs w2 B (l ++ Px.sepT ((s.take (k + 1)).map Px.E.pt))) := by show Prs _ _ _; rw [HSE.out]; simpa [List.append_assoc] using hp2
      have HK2 := hd (HK1.out.trans k2)
      clear hp2 k2 ho
      go_wp2_with fail
      go_roundw
      case rel => exact ⟨k + 1, by omega, by go_num, HP2, HK2⟩
      case measure => simp [intOf]; omega
  · have hke : k = s.length := by omega
    subst hke
    go_wp2_with fail
    go_end0
    refine POut.ok HKk.out ?_
    have := HPk.out
    rwa [List.take_length] at this
theorem d_row_any (B : Nat) (hB : 12 ≤ B) (base : Nat) (v : Value) (r : List Px.E) (hp : ∀ x ∈ r, PE x) (hn : r.length ≤ 16777216) (w : World) (l : List Px.PT) (h : Prs w B l) (he : EnvV w) (ho : w.ownsRow base 97 1 v r.length (r.flatMap exC)) (hne : ∀ g, v.ownBlock = some g → g ≠ B) :
   Calls Tryz.prog 120 #[.pointer (some ⟨B, 0, none⟩), v] w (POut w B (l ++ Px.rowT r)) := by
 have hlt := h.lt
 have HF : Hid (Px.rowT r = Px.sgT [40] :: (Px.sepT (r.map Px.E.pt) ++ [Px.sgT [41]])) := rfl
 have HP0 := hd h
 have HE0 := hd he
 have HK0 := hd (Kq.refl B w)
 have HO := hd ho
 have HNE := hd hne
 have HPE := hd hp
 clear h he ho hne hp
 go_enter Tryz.func120, Tryz.ntmps120
 go_wp2_with fail
 refine (d_put1 B w l (Px.sgT [40]) HP0.out (pt0_sg _ (by simp) (by simp))).mono ?_
 rintro x w1 ho
 obtain ⟨k1, ⟨rfl, hb⟩ | ⟨rfl, hp1⟩⟩ := ho.cases
 · exact ⟨rfl, tooLong (HK0.out.trans k1) hb (by simp [List.append_assoc, HF.out] <;> rfl)⟩
 have HP1 := hd hp1
 have HK1 := hd (HK0.out.trans k1)
 have HE1 := hd (HE0.out.low k1.1 hB)
 clear hp1 k1 ho
 go_wp2_with fail
 refine (d_listExpr_any B hB base v r HPE.out w1 _ HP1.out HE1.out (HK1.out.own HO.out (by decide) HNE.out) HNE.out hn).mono ?_
 rintro x w2 ho
 obtain ⟨k2, ⟨rfl, hb⟩ | ⟨rfl, hp2⟩⟩ := ho.cases
 · exact ⟨rfl, tooLong (HK1.out.trans k2) hb (by simp [List.append_assoc, HF.out] <;> rfl)⟩
 have HP2 := hd hp2
 have HK2 := hd (HK1.out.trans k2)
 have HE2 := hd (HE1.out.low k2.1 hB)
 clear hp2 k2 ho
 go_wp2_with fail
 refine (d_put1 B w2 _ (Px.sgT [41]) HP2.out (pt0_sg _ (by simp) (by simp))).mono ?_
 rintro x w3 ho
 obtain ⟨k3, ⟨rfl, hb⟩ | ⟨rfl, hp3⟩⟩ := ho.cases
 · exact ⟨rfl, tooLong (HK2.out.trans k3) hb (by simp [List.append_assoc, HF.out] <;> rfl)⟩
 have HP3 := hd hp3
 have HK3 := hd (HK2.out.trans k3)
 have HE3 := hd (HE2.out.low k3.1 hB)
 clear hp3 k3 ho
 go_wp2_with fail
 go_end0
 exact POut.ok HK3.out (by have := HP3.out; simpa [List.append_assoc, HF.out] using this)
theorem own_typeF {w : World} {base : Nat} {e : TypeId} {size : Nat} {v : Value} {n : Nat} {xs : List Value} (h : w.ownsRow base e size v n xs) : ∀ g, v.ownBlock = some g → ∃ cur, w.heap[g]? = some (.cells cur e (0, 0)) := own_type h
theorem Prs.ne {w : World} {B base : Nat} {l : List Px.PT} {e : TypeId} {size : Nat} {v : Value} {n : Nat} {xs : List Value} (h : Prs w B l) (ho : w.ownsRow base e size v n xs) (he : e ≠ 77) : ∀ g, v.ownBlock = some g → g ≠ B := by
 intro g hg hgB
 obtain ⟨cur, hc⟩ := own_typeF ho g hg
 obtain ⟨p, u, _, hb, _⟩ := h.1
 subst hgB
 unfold Blk at hb
 rw [hb] at hc
 simp only [Option.some.injEq, Obj.cells.injEq] at hc
 exact he hc.2.1.symm
theorem RowsIs.atP {w : World} {base : Nat} : ∀ {l : List (List Px.E)} {vs : List Value} {k : Nat} (h : RowsIs w base l vs) (hk : k < l.length), ∃ v, vs[k]? = some v ∧ w.ownsRow base 97 1 v l[k].length (l[k].flatMap exC)
 | r :: l, v :: vs, 0, h, _ => ⟨v, rfl, h.1⟩
 | r :: l, v :: vs, k + 1, h, hk => RowsIs.atP (l := l) (vs := vs) (k := k) h.2 (by simp only [List.length_cons] at hk; omega)
 | [], _, _, _, hk => by simp at hk
 | _ :: _, [], _, h, _ => h.elim
theorem d_listRow_any (B : Nat) (hB : 12 ≤ B) (base : Nat) (v : Value) (s : List (List Px.E)) (vs : List Value) (hs : ∀ x ∈ s, (∀ e ∈ x, PE e) ∧ x.length ≤ 16777216) (w : World) (l : List Px.PT) (h : Prs w B l) (he : EnvV w) (ho : w.ownsRow base 136 1 v s.length vs) (hrs : RowsIs w base s vs) (hne : ∀ g, v.ownBlock = some g → g ≠ B) (hn : s.length ≤ 16777216) :
   Calls Tryz.prog 119 #[.pointer (some ⟨B, 0, none⟩), v, .func (.func 120) #[.pointer (some ⟨B, 0, none⟩)] #[]] w (POut w B (l ++ Px.sepT (s.map Px.rowT))) := by
 have HP := hd h
 have HE := hd he
 have HO := hd ho
 have HS := hd hs
 have HRS := hd hrs
 have HNE := hd hne
 have hlt := h.lt
 obtain ⟨ao, cap, hsl⟩ : ∃ ao cap, v = .slice ao s.length cap := by
  rcases ho.2 with ⟨hv, h0⟩ | ⟨g, cap, cur, hv, _⟩
  · exact ⟨none, 0, by rw [hv, h0]⟩
  · exact ⟨_, _, hv⟩
 subst hsl
 clear h he ho hs hne hrs
 go_enter Tryz.func119, Tryz.ntmps119
 go_wp2_with fail
 go_loopw [10] (fun i wr => ∃ k : Nat, k ≤ s.length ∧ i = .int .i64 k ∧ Hid (Prs wr B (l ++ Px.sepT ((s.take k).map Px.rowT))) ∧ Hid (Kq B w wr)) (fun i _ => s.length - (intOf i).toNat)
 case atStart => exact ⟨0, by omega, rfl, (by show Prs _ _ _; simpa [Px.sepT] using HP.out), Kq.refl _ _⟩
 case round =>
  obtain ⟨k, hk, rfl, HPk, HKk⟩ := hrel
  have HEk := hd (HE.out.low HKk.out.1 hB)
  have hltk := HPk.out.lt
  by_cases hlt2 : k < s.length
  · obtain ⟨rv, hrv, hro⟩ := HRS.out.atP hlt2
    obtain ⟨g, rfl, hg, p0⟩ : ∃ g, ao = some ⟨g, 0, none⟩ ∧ g < wr.heap.size ∧ wr.cell? ⟨g, k, none⟩ = some rv := by
     have hO := HKk.out.own HO.out (by decide) HNE.out
     rcases hO.2 with ⟨hv, h0⟩ | ⟨g, cap', cur, hv, hb, hg, _⟩
     · omega
     · cases hv
       refine ⟨g, rfl, (Array.getElem?_eq_some_iff.1 hg).1, ?_⟩
       have := hO.cells (g := g) rfl k rv hrv
       simpa [Addr.add_lit] using this
    have HRO := hd (HKk.out.own hro (by decide) (HP.out.ne hro (by decide)))
    have HRN := hd (HPk.out.ne HRO.out (by decide))
    obtain ⟨ra, rn, rc, hrf⟩ := own_slice hro
    have HRF := hd hrf
    rw [hrf] at p0
    have HX := hd (HS.out s[k] (List.getElem_mem hlt2))
    have HTK : Hid ((s.take (k + 1)).map Px.rowT = (s.take k).map Px.rowT ++ [Px.rowT s[k]]) := by show _ = _; rw [List.take_add_one, List.getElem?_eq_getElem hlt2, List.map_append]; rfl
    have HDR : Hid (∃ m, Px.sepT (s.map Px.rowT) = Px.sepT ((s.take (k + 1)).map Px.rowT) ++ m) := by
     show ∃ m, _
     have := sep_pre ((s.take (k + 1)).map Px.rowT) ((s.drop (k + 1)).map Px.rowT) (by simp; intro e; rw [e] at hlt2; simp at hlt2)
     rwa [← List.map_append, List.take_append_drop] at this
    clear hro hrf hrv
    generalize s[k] = e at *
    have HP0 := HPk
    have HE0 := HEk
    have HK0 := HKk
    have HSet : Hid (∀ w1 l, Prs w1 B l → EnvV w1 → Kq B wr w1 → Calls Tryz.prog 120 #[.pointer (some ⟨B, 0, none⟩), .slice ra rn rc] w1 (POut w1 B (l ++ Px.rowT e))) := by
     intro w1 l h he hk
     have := d_row_any B hB base rv e HX.out.1 HX.out.2 w1 l h he (hk.own HRO.out (by decide) HRN.out) HRN.out
     rwa [HRF.out] at this
    by_cases hk0 : k = 0
    · subst hk0
      have HSE : Hid (Px.sepT ((s.take (0 + 1)).map Px.rowT) = Px.rowT e) := by show _ = _; rw [HTK.out]; rfl
      go_wp2_with fail
      refine (HSet.out _ _ HP0.out HE0.out (Kq.refl _ _)).mono ?_
      rintro x w2 ho
      obtain ⟨k2, ⟨rfl, hb⟩ | ⟨rfl, hp2⟩⟩ := ho.cases
      · obtain ⟨m, hm⟩ := HDR.out
        refine ⟨rfl, tooLong (m := m) (HK0.out.trans k2) hb ?_⟩
        rw [hm, HSE.out]
        simp [Px.sepT]
      have HP2 : Hid (Prs w2 B (l ++ Px.sepT ((s.take (0 + 1)).map Px.rowT))) := by show Prs _ _ _; rw [HSE.out]; simpa [Px.sepT] using hp2
      have HK2 := hd (HK0.out.trans k2)
      clear hp2 k2 ho
      go_wp2_with fail
      go_roundw
      case rel => exact ⟨0 + 1, by omega, by go_num, HP2, HK2⟩
      case measure => simp [intOf]; omega
    · have HSE : Hid (Px.sepT ((s.take (k + 1)).map Px.rowT) = Px.sepT ((s.take k).map Px.rowT) ++ (Px.sgT [44] :: Px.rowT e)) := by
       show _ = _
       rw [HTK.out]
       refine sep_snoc _ _ ?_
       simp
       refine ⟨hk0, ?_⟩
       intro e'
       rw [e'] at hlt2
       simp at hlt2
      have hk1 : (0 : Int) < (k : Int) := by omega
      have HAl := hd (Kq.refl B wr)
      go_wp2_with fail
      refine (d_put1g B _ _ _ (Px.sgT [44]) (by simp) HP0.out (pt0_sg _ (by simp) (by simp))).mono ?_
      rintro x w1 ho
      obtain ⟨k1, ⟨rfl, hb⟩ | ⟨rfl, hp1⟩⟩ := ho.cases
      · obtain ⟨m, hm⟩ := HDR.out
        refine ⟨rfl, tooLong (m := Px.rowT e ++ m) (HK0.out.trans k1) hb ?_⟩
        rw [hm, HSE.out]
        simp
      have HP1 := hd hp1
      have HK1 := hd (HK0.out.trans k1)
      have HKW := hd k1
      have HE1 := hd (HE0.out.low k1.1 hB)
      clear hp1 k1 ho
      go_wp2_with fail
      refine (HSet.out _ _ HP1.out HE1.out (HAl.out.trans HKW.out)).mono ?_
      rintro x w2 ho
      obtain ⟨k2, ⟨rfl, hb⟩ | ⟨rfl, hp2⟩⟩ := ho.cases
      · obtain ⟨m, hm⟩ := HDR.out
        refine ⟨rfl, tooLong (m := m) (HK1.out.trans k2) hb ?_⟩
        rw [hm, HSE.out]
        simp
      have HP2 : Hid (Prs w2 B (l ++ Px.sepT ((s.take (k + 1)).map Px.rowT))) := by show Prs _ _ _; rw [HSE.out]; simpa [List.append_assoc] using hp2
      have HK2 := hd (HK1.out.trans k2)
      clear hp2 k2 ho
      go_wp2_with fail
      go_roundw
      case rel => exact ⟨k + 1, by omega, by go_num, HP2, HK2⟩
      case measure => simp [intOf]; omega
  · have hke : k = s.length := by omega
    subst hke
    go_wp2_with fail
    go_end0
    refine POut.ok HKk.out ?_
    have := HPk.out
    rwa [List.take_length] at this
theorem d_put2g (B g : Nat) (w : World) (l : List Px.PT) (t u : Px.PT) (hg : g = w.heap.size) (h : Prs w B l) (ht : PT0 t) (hu : PT0 u) :
   Calls Tryz.prog 66 #[.pointer (some ⟨B, 0, none⟩), .slice (some ⟨g, 0, none⟩) 2 2] (w.alloc (.cells #[.string ⟨t.out.toArray⟩, .string ⟨u.out.toArray⟩] 9)) (POut w B (l ++ [t, u])) := by
 subst hg
 exact d_put2 B w l t u h ht hu
theorem d_create_any (B : Nat) (hB : 12 ≤ B) (base : Nat) (t : Lx.Bs) (ht : Px.isName t = true) (c : List (Lx.Bs × Nat)) (hc : ∀ x ∈ c, Px.isName x.1 = true ∧ 1 ≤ x.2 ∧ x.2 ≤ 7 ∧ x.2 ≠ 4) (hn : c.length ≤ 16777216) (u : Value) (w : World) (l : List Px.PT) (h : Prs w B l) (he : EnvV w) (ho : w.ownsRow base 135 2 u c.length (c.flatMap colC)) :
   Calls Tryz.prog 65 #[.pointer (some ⟨B, 0, none⟩), .agg #[.string ⟨t.toArray⟩, u]] w (POut w B (l ++ (Px.St.create t c).pt)) := by
 have hlt := h.lt
 have HF : Hid ((Px.St.create t c).pt = Px.kwT Px.kCREATE :: Px.kwT Px.kTABLE :: Px.nmT t :: Px.sgT [40] :: (Px.sepT (c.map Px.colT) ++ [Px.sgT [41]])) := rfl
 have HNE := hd (h.ne ho (by decide))
 have HO := hd ho
 obtain ⟨ua, un, uc, hu⟩ := own_slice ho
 subst hu
 clear ho
 have hbx : Below w.heap.size w (w.alloc (.cells #[.string ⟨t.toArray⟩, .slice ua un uc] 87)) := (Below.refl _ _).alloc (Nat.le_refl _) _
 have HP0 := hd (h.below hbx)
 have HE0 := hd (he.below hbx)
 have HK0 := hd (Kq.below (B := B) hbx (by omega))
 have HB0 := hd (Blk.new w #[.string ⟨t.toArray⟩, .slice ua un uc] 87)
 clear h he hbx
 go_enter Tryz.func65, Tryz.ntmps65
 go_wp2_with fail
 refine (d_put2g B _ _ l (Px.kwT Px.kCREATE) (Px.kwT Px.kTABLE) (by simp) HP0.out (pt0_kw _ (by decide) (by decide)) (pt0_kw _ (by decide) (by decide))).mono ?_
 rintro x w1 ho
 obtain ⟨k1, ⟨rfl, hb⟩ | ⟨rfl, hp1⟩⟩ := ho.cases
 · exact ⟨rfl, tooLong (HK0.out.trans k1) hb (by simp [List.append_assoc, HF.out] <;> rfl)⟩
 have HP1 := hd hp1
 have HK1 := hd (HK0.out.trans k1)
 have HE1 := hd (HE0.out.low k1.1 hB)
 have HB1 := hd (k1.blk HB0.out (by omega) (by decide))
 have c0_1 := HB1.out.cell 0
 simp at c0_1
 have hl1 := HB1.out.lt
 clear hp1 k1 ho
 go_wp2_with fail
 refine (d_putName_any B w1 _ t HP1.out HE1.out ht).mono ?_
 rintro x w2 ho
 obtain ⟨k2, ⟨rfl, hb⟩ | ⟨rfl, hp2⟩⟩ := ho.cases
 · exact ⟨rfl, tooLong (HK1.out.trans k2) hb (by simp [List.append_assoc, HF.out] <;> rfl)⟩
 have HP2 := hd hp2
 have HK2 := hd (HK1.out.trans k2)
 have HE2 := hd (HE1.out.low k2.1 hB)
 have HB2 := hd (k2.blk HB1.out (by omega) (by decide))
 have c1_2 := HB2.out.cell 1
 simp at c1_2
 have hl2 := HB2.out.lt
 clear hp2 k2 ho
 go_wp2_with fail
 refine (d_put1 B w2 _ (Px.sgT [40]) HP2.out (pt0_sg _ (by simp) (by simp))).mono ?_
 rintro x w3 ho
 obtain ⟨k3, ⟨rfl, hb⟩ | ⟨rfl, hp3⟩⟩ := ho.cases
 · exact ⟨rfl, tooLong (HK2.out.trans k3) hb (by simp [List.append_assoc, HF.out] <;> rfl)⟩
 have HP3 := hd hp3
 have HK3 := hd (HK2.out.trans k3)
 have HE3 := hd (HE2.out.low k3.1 hB)
 have HB3 := hd (k3.blk HB2.out (by omega) (by decide))
 have c1_3 := HB3.out.cell 1
 simp at c1_3
 have hl3 := HB3.out.lt
 clear hp3 k3 ho
 go_wp2_with fail
 refine (d_listCol_any B hB base _ c hc w3 _ HP3.out HE3.out (HK3.out.own HO.out (by decide) HNE.out) HNE.out hn).mono ?_
 rintro x w4 ho
 obtain ⟨k4, ⟨rfl, hb⟩ | ⟨rfl, hp4⟩⟩ := ho.cases
 · exact ⟨rfl, tooLong (HK3.out.trans k4) hb (by simp [List.append_assoc, HF.out] <;> rfl)⟩
 have HP4 := hd hp4
 have HK4 := hd (HK3.out.trans k4)
 have HE4 := hd (HE3.out.low k4.1 hB)
 have HB4 := hd (k4.blk HB3.out (by omega) (by decide))
 have hl4 := HB4.out.lt
 clear hp4 k4 ho
 go_wp2_with fail
 refine (d_put1 B w4 _ (Px.sgT [41]) HP4.out (pt0_sg _ (by simp) (by simp))).mono ?_
 rintro x w5 ho
 obtain ⟨k5, ⟨rfl, hb⟩ | ⟨rfl, hp5⟩⟩ := ho.cases
 · exact ⟨rfl, tooLong (HK4.out.trans k5) hb (by simp [List.append_assoc, HF.out] <;> rfl)⟩
 have HP5 := hd hp5
 have HK5 := hd (HK4.out.trans k5)
 have HE5 := hd (HE4.out.low k5.1 hB)
 clear hp5 k5 ho
 go_wp2_with fail
 go_end0
 exact POut.ok HK5.out (by have := HP5.out; simpa [List.append_assoc, HF.out] using this)
theorem d_insert_any (B : Nat) (hB : 12 ≤ B) (base : Nat) (t : Lx.Bs) (ht : Px.isName t = true) (r : List (List Px.E)) (hr : ∀ x ∈ r, (∀ e ∈ x, PE e) ∧ x.length ≤ 16777216) (hn : r.length ≤ 16777216) (u : Value) (vs : List Value) (w : World) (l : List Px.PT) (h : Prs w B l) (he : EnvV w) (ho : w.ownsRow base 136 1 u r.length vs) (hrs : RowsIs w base r vs) :
   Calls Tryz.prog 68 #[.pointer (some ⟨B, 0, none⟩), .agg #[.string ⟨t.toArray⟩, u]] w (POut w B (l ++ (Px.St.insert t r).pt)) := by
 have hlt := h.lt
 have HF : Hid ((Px.St.insert t r).pt = Px.kwT Px.kINSERT :: Px.kwT Px.kINTO :: Px.nmT t :: Px.kwT Px.kVALUES :: Px.sepT (r.map Px.rowT)) := rfl
 have HNE := hd (h.ne ho (by decide))
 have HO := hd ho
 have HRS := hd hrs
 have HRK : Hid (∀ w', Kq B w w' → RowsIs w' base r vs) := fun w' k => RowsIs.map (fun r v hv => k.own hv (by decide) (h.ne hv (by decide))) hrs
 obtain ⟨ua, un, uc, hu⟩ := own_slice ho
 subst hu
 clear ho hrs
 have hbx : Below w.heap.size w (w.alloc (.cells #[.string ⟨t.toArray⟩, .slice ua un uc] 94)) := (Below.refl _ _).alloc (Nat.le_refl _) _
 have HP0 := hd (h.below hbx)
 have HE0 := hd (he.below hbx)
 have HK0 := hd (Kq.below (B := B) hbx (by omega))
 have HB0 := hd (Blk.new w #[.string ⟨t.toArray⟩, .slice ua un uc] 94)
 clear h he hbx
 go_enter Tryz.func68, Tryz.ntmps68
 go_wp2_with fail
 refine (d_put2g B _ _ l (Px.kwT Px.kINSERT) (Px.kwT Px.kINTO) (by simp) HP0.out (pt0_kw _ (by decide) (by decide)) (pt0_kw _ (by decide) (by decide))).mono ?_
 rintro x w1 ho
 obtain ⟨k1, ⟨rfl, hb⟩ | ⟨rfl, hp1⟩⟩ := ho.cases
 · exact ⟨rfl, tooLong (HK0.out.trans k1) hb (by simp [List.append_assoc, HF.out] <;> rfl)⟩
 have HP1 := hd hp1
 have HK1 := hd (HK0.out.trans k1)
 have HE1 := hd (HE0.out.low k1.1 hB)
 have HB1 := hd (k1.blk HB0.out (by omega) (by decide))
 have c0_1 := HB1.out.cell 0
 simp at c0_1
 have hl1 := HB1.out.lt
 clear hp1 k1 ho
 go_wp2_with fail
 refine (d_putName_any B w1 _ t HP1.out HE1.out ht).mono ?_
 rintro x w2 ho
 obtain ⟨k2, ⟨rfl, hb⟩ | ⟨rfl, hp2⟩⟩ := ho.cases
 · exact ⟨rfl, tooLong (HK1.out.trans k2) hb (by simp [List.append_assoc, HF.out] <;> rfl)⟩
 have HP2 := hd hp2
 have HK2 := hd (HK1.out.trans k2)
 have HE2 := hd (HE1.out.low k2.1 hB)
 have HB2 := hd (k2.blk HB1.out (by omega) (by decide))
 have c1_2 := HB2.out.cell 1
 simp at c1_2
 have hl2 := HB2.out.lt
 clear hp2 k2 ho
 go_wp2_with fail
 refine (d_put1 B w2 _ (Px.kwT Px.kVALUES) HP2.out (pt0_kw _ (by decide) (by decide))).mono ?_
 rintro x w3 ho
 obtain ⟨k3, ⟨rfl, hb⟩ | ⟨rfl, hp3⟩⟩ := ho.cases
 · exact ⟨rfl, tooLong (HK2.out.trans k3) hb (by simp [List.append_assoc, HF.out] <;> rfl)⟩
 have HP3 := hd hp3
 have HK3 := hd (HK2.out.trans k3)
 have HE3 := hd (HE2.out.low k3.1 hB)
 have HB3 := hd (k3.blk HB2.out (by omega) (by decide))
 have c1_3 := HB3.out.cell 1
 simp at c1_3
 have hl3 := HB3.out.lt
 clear hp3 k3 ho
 go_wp2_with fail
 refine (d_listRow_any B hB base _ r vs hr w3 _ HP3.out HE3.out (HK3.out.own HO.out (by decide) HNE.out) (HRK.out _ HK3.out) HNE.out hn).mono ?_
 rintro x w4 ho
 obtain ⟨k4, ⟨rfl, hb⟩ | ⟨rfl, hp4⟩⟩ := ho.cases
 · exact ⟨rfl, tooLong (HK3.out.trans k4) hb (by simp [List.append_assoc, HF.out] <;> rfl)⟩
 have HP4 := hd hp4
 have HK4 := hd (HK3.out.trans k4)
 have HE4 := hd (HE3.out.low k4.1 hB)
 clear hp4 k4 ho
 go_wp2_with fail
 go_end0
 exact POut.ok HK4.out (by have := HP4.out; simpa [List.append_assoc, HF.out] using this)
theorem d_update_any (B : Nat) (hB : 12 ≤ B) (base : Nat) (t : Lx.Bs) (ht : Px.isName t = true) (s : List (Lx.Bs × Px.E)) (hs : ∀ x ∈ s, Px.isName x.1 = true ∧ PE x.2) (hn : s.length ≤ 16777216) (o : Option Px.E) (hp : ∀ e ∈ o.toList, PE e) (u : Value) (w : World) (l : List Px.PT) (h : Prs w B l) (he : EnvV w) (ho : w.ownsRow base 139 2 u s.length (s.flatMap setC)) :
   Calls Tryz.prog 70 #[.pointer (some ⟨B, 0, none⟩), .agg #[.string ⟨t.toArray⟩, u, ev? o]] w (POut w B (l ++ (Px.St.update t s o).pt)) := by
 have hlt := h.lt
 have HF : Hid ((Px.St.update t s o).pt = Px.kwT Px.kUPDATE :: Px.nmT t :: Px.kwT Px.kSET :: (Px.sepT (s.map Px.setT) ++ Px.whereT o)) := rfl
 have HNE := hd (h.ne ho (by decide))
 have HO := hd ho
 have HPO := hd hp
 obtain ⟨ua, un, uc, hu⟩ := own_slice ho
 subst hu
 clear ho hp
 have hv1 := ev?_one o
 obtain ⟨vo, hvo⟩ : ∃ vo, vo = ev? o := ⟨_, rfl⟩
 have HWH : Hid (∀ w l, Prs w B l → EnvV w → Calls Tryz.prog 69 #[.pointer (some ⟨B, 0, none⟩), vo] w (POut w B (l ++ Px.whereT o))) := by
  intro w l h he
  rw [hvo]
  exact d_where_any B hB o HPO.out w l h he
 rw [← hvo] at hv1 ⊢
 clear hvo
 rcases hv1 with rfl | ⟨et, ex, rfl⟩
 · have hbx : Below w.heap.size w (w.alloc (.cells #[.string ⟨t.toArray⟩, .slice ua un uc, .nilIface] 104)) := (Below.refl _ _).alloc (Nat.le_refl _) _
   have HP0 := hd (h.below hbx)
   have HE0 := hd (he.below hbx)
   have HK0 := hd (Kq.below (B := B) hbx (by omega))
   have HB0 := hd (Blk.new w #[.string ⟨t.toArray⟩, .slice ua un uc, .nilIface] 104)
   clear h he hbx
   go_enter Tryz.func70, Tryz.ntmps70
   go_wp2_with fail
   refine (d_put1g B _ _ l (Px.kwT Px.kUPDATE) (by simp) HP0.out (pt0_kw _ (by decide) (by decide))).mono ?_
   rintro x w1 ho
   obtain ⟨k1, ⟨rfl, hb⟩ | ⟨rfl, hp1⟩⟩ := ho.cases
   · exact ⟨rfl, tooLong (HK0.out.trans k1) hb (by simp [List.append_assoc, HF.out] <;> rfl)⟩
   have HP1 := hd hp1
   have HK1 := hd (HK0.out.trans k1)
   have HE1 := hd (HE0.out.low k1.1 hB)
   have HB1 := hd (k1.blk HB0.out (by omega) (by decide))
   have c0_1 := HB1.out.cell 0
   simp at c0_1
   have hl1 := HB1.out.lt
   clear hp1 k1 ho
   go_wp2_with fail
   refine (d_putName_any B w1 _ t HP1.out HE1.out ht).mono ?_
   rintro x w2 ho
   obtain ⟨k2, ⟨rfl, hb⟩ | ⟨rfl, hp2⟩⟩ := ho.cases
   · exact ⟨rfl, tooLong (HK1.out.trans k2) hb (by simp [List.append_assoc, HF.out] <;> rfl)⟩
   have HP2 := hd hp2
   have HK2 := hd (HK1.out.trans k2)
   have HE2 := hd (HE1.out.low k2.1 hB)
   have HB2 := hd (k2.blk HB1.out (by omega) (by decide))
   have c1_2 := HB2.out.cell 1
   simp at c1_2
   have hl2 := HB2.out.lt
   clear hp2 k2 ho
   go_wp2_with fail
   refine (d_put1 B w2 _ (Px.kwT Px.kSET) HP2.out (pt0_kw _ (by decide) (by decide))).mono ?_
   rintro x w3 ho
   obtain ⟨k3, ⟨rfl, hb⟩ | ⟨rfl, hp3⟩⟩ := ho.cases
   · exact ⟨rfl, tooLong (HK2.out.trans k3) hb (by simp [List.append_assoc, HF.out] <;> rfl)⟩
   have HP3 := hd hp3
   have HK3 := hd (HK2.out.trans k3)
   have HE3 := hd (HE2.out.low k3.1 hB)
   have HB3 := hd (k3.blk HB2.out (by omega) (by decide))
   have c1_3 := HB3.out.cell 1
   simp at c1_3
   have hl3 := HB3.out.lt
   clear hp3 k3 ho
   go_wp2_with fail
   refine (d_listSet_any B hB base _ s hs w3 _ HP3.out HE3.out (HK3.out.own HO.out (by decide) HNE.out) HNE.out hn).mono ?_
   rintro x w4 ho
   obtain ⟨k4, ⟨rfl, hb⟩ | ⟨rfl, hp4⟩⟩ := ho.cases
   · exact ⟨rfl, tooLong (HK3.out.trans k4) hb (by simp [List.append_assoc, HF.out] <;> rfl)⟩
   have HP4 := hd hp4
   have HK4 := hd (HK3.out.trans k4)
   have HE4 := hd (HE3.out.low k4.1 hB)
   have HB4 := hd (k4.blk HB3.out (by omega) (by decide))
   have c2_4 := HB4.out.cell 2
   simp at c2_4
   have hl4 := HB4.out.lt
   clear hp4 k4 ho
   go_wp2_with fail
   refine (HWH.out w4 _ HP4.out HE4.out).mono ?_
   rintro x w5 ho
   obtain ⟨k5, ⟨rfl, hb⟩ | ⟨rfl, hp5⟩⟩ := ho.cases
   · exact ⟨rfl, tooLong (HK4.out.trans k5) hb (by simp [List.append_assoc, HF.out] <;> rfl)⟩
   have HP5 := hd hp5
   have HK5 := hd (HK4.out.trans k5)
   have HE5 := hd (HE4.out.low k5.1 hB)
   clear hp5 k5 ho
   go_wp2_with fail
   go_end0
   exact POut.ok HK5.out (by have := HP5.out; simpa [List.append_assoc, HF.out] using this)
 · have hbx : Below w.heap.size w (w.alloc (.cells #[.string ⟨t.toArray⟩, .slice ua un uc, .iface et ex] 104)) := (Below.refl _ _).alloc (Nat.le_refl _) _
   have HP0 := hd (h.below hbx)
   have HE0 := hd (he.below hbx)
   have HK0 := hd (Kq.below (B := B) hbx (by omega))
   have HB0 := hd (Blk.new w #[.string ⟨t.toArray⟩, .slice ua un uc, .iface et ex] 104)
   clear h he hbx
   go_enter Tryz.func70, Tryz.ntmps70
   go_wp2_with fail
   refine (d_put1g B _ _ l (Px.kwT Px.kUPDATE) (by simp) HP0.out (pt0_kw _ (by decide) (by decide))).mono ?_
   rintro x w1 ho
   obtain ⟨k1, ⟨rfl, hb⟩ | ⟨rfl, hp1⟩⟩ := ho.cases
   · exact ⟨rfl, tooLong (HK0.out.trans k1) hb (by simp [List.append_assoc, HF.out] <;> rfl)⟩
   have HP1 := hd hp1
   have HK1 := hd (HK0.out.trans k1)
   have HE1 := hd (HE0.out.low k1.1 hB)
   have HB1 := hd (k1.blk HB0.out (by omega) (by decide))
   have c0_1 := HB1.out.cell 0
   simp at c0_1
   have hl1 := HB1.out.lt
   clear hp1 k1 ho
   go_wp2_with fail
   refine (d_putName_any B w1 _ t HP1.out HE1.out ht).mono ?_
   rintro x w2 ho
   obtain ⟨k2, ⟨rfl, hb⟩ | ⟨rfl, hp2⟩⟩ := ho.cases
   · exact ⟨rfl, tooLong (HK1.out.trans k2) hb (by simp [List.append_assoc, HF.out] <;> rfl)⟩
   have HP2 := hd hp2
   have HK2 := hd (HK1.out.trans k2)
   have HE2 := hd (HE1.out.low k2.1 hB)
   have HB2 := hd (k2.blk HB1.out (by omega) (by decide))
   have c1_2 := HB2.out.cell 1
   simp at c1_2
   have hl2 := HB2.out.lt
   clear hp2 k2 ho
   go_wp2_with fail
   refine (d_put1 B w2 _ (Px.kwT Px.kSET) HP2.out (pt0_kw _ (by decide) (by decide))).mono ?_
   rintro x w3 ho
   obtain ⟨k3, ⟨rfl, hb⟩ | ⟨rfl, hp3⟩⟩ := ho.cases
   · exact ⟨rfl, tooLong (HK2.out.trans k3) hb (by simp [List.append_assoc, HF.out] <;> rfl)⟩
   have HP3 := hd hp3
   have HK3 := hd (HK2.out.trans k3)
   have HE3 := hd (HE2.out.low k3.1 hB)
   have HB3 := hd (k3.blk HB2.out (by omega) (by decide))
   have c1_3 := HB3.out.cell 1
   simp at c1_3
   have hl3 := HB3.out.lt
   clear hp3 k3 ho
   go_wp2_with fail
   refine (d_listSet_any B hB base _ s hs w3 _ HP3.out HE3.out (HK3.out.own HO.out (by decide) HNE.out) HNE.out hn).mono ?_
   rintro x w4 ho
   obtain ⟨k4, ⟨rfl, hb⟩ | ⟨rfl, hp4⟩⟩ := ho.cases
   · exact ⟨rfl, tooLong (HK3.out.trans k4) hb (by simp [List.append_assoc, HF.out] <;> rfl)⟩
   have HP4 := hd hp4
   have HK4 := hd (HK3.out.trans k4)
   have HE4 := hd (HE3.out.low k4.1 hB)
   have HB4 := hd (k4.blk HB3.out (by omega) (by decide))
   have c2_4 := HB4.out.cell 2
   simp at c2_4
   have hl4 := HB4.out.lt
   clear hp4 k4 ho
   go_wp2_with fail
   refine (HWH.out w4 _ HP4.out HE4.out).mono ?_
   rintro x w5 ho
   obtain ⟨k5, ⟨rfl, hb⟩ | ⟨rfl, hp5⟩⟩ := ho.cases
   · exact ⟨rfl, tooLong (HK4.out.trans k5) hb (by simp [List.append_assoc, HF.out] <;> rfl)⟩
   have HP5 := hd hp5
   have HK5 := hd (HK4.out.trans k5)
   have HE5 := hd (HE4.out.low k5.1 hB)
   clear hp5 k5 ho
   go_wp2_with fail
   go_end0
   exact POut.ok HK5.out (by have := HP5.out; simpa [List.append_assoc, HF.out] using this)
end Go.Proofs.YtkcakbgcfnhgaaaGreatDoor
