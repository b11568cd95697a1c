/- Parts of the proof: Wt -/
import Derived.Test.YtkcakbgcfnhgaaaGreatDoorX14
namespace Go.Proofs.YtkcakbgcfnhgaaaGreatDoor
set_option linter.unusedSimpArgs false
set_option linter.unusedVariables false
set_option maxRecDepth 100000
set_option maxHeartbeats 16000000
open Go.RowKit
theorem item_cells (c : Option Px.E) : ∃ ib iv, wItemV c (.agg #[.bool ib, iv]) (default : World) ∧ itemC c = [.bool ib, iv] ∧ iv.oneCell' = true := by
 cases c with
 | none => exact ⟨true, .nilIface, rfl, rfl, rfl⟩
 | some e =>
  obtain ⟨t, x, h⟩ := ev_iface e
  exact ⟨false, ev e, rfl, rfl, by rw [h]; rfl⟩
theorem k_selection_any (w : World) (B : Nat) (t : Lx.Bs) (xc : Int) (l : List Px.Nd) (h : Wks w B l) (he : EnvW w) (hB : 12 ≤ B) (hx : xc ≤ 9223372036854775807) (hl : l.length ≤ 16777216) :
   Calls Tryz.prog 79 #[.pointer (some ⟨B, 0, none⟩), ndA ⟨9, t, 0, xc⟩] w (WOut w B (partV B 109) (selectR t xc l)) := by
 obtain ⟨i0, hi, hz0, hz1, hz2⟩ := info_parts info_item
 obtain ⟨j0, hj, hy0, hy1, hy2⟩ := info_parts info_order
 have HW := hd h
 have HE := hd he
 have hBw := h.lt
 unfold ndA
 simp only
 clear h he
 go_enter Tryz.func79, Tryz.ntmps79
 go_wp2_with fail
 go_loopw [13] (fun _ wr => ∃ (acc : List (Option Px.E)) (lk : List Px.Nd) (v : Value) (kk : Int), Hid (Blk wr (w.heap.size + 1 + 1) #[v, .string ⟨t.toArray⟩, .nilIface, .slice none 0 0, .bool false, .int .i64 0] 109) ∧ Hid (Blk wr (w.heap.size + 1) #[.slice none 0 0, .string ⟨#[]⟩, .nilIface, .slice none 0 0, .bool false, .int .i64 0] 109) ∧ Hid (Blk wr (w.heap.size + 1 + 1 + 1) #[.int .i64 kk] 3) ∧ kk ≤ xc ∧ Hid (wr.ownsRow (w.heap.size + 4) 141 2 v acc.length (acc.flatMap itemC)) ∧ Hid (Wks wr B lk) ∧ Hid (w.grownBy wr (some B)) ∧ Hid (WAtZ (fun k => !Px.isTail k) Px.rItem xc l acc kk lk) ∧ Hid (acc.length + lk.length ≤ l.length)) (fun _ wr => match wr.cell? ⟨w.heap.size + 1 + 1 + 1, 0, none⟩ with | some (.int _ k) => k.toNat | _ => 0)
 case atStart =>
  obtain ⟨hR, hU, hL⟩ := blk4 w #[.int .i64 9, .string ⟨t.toArray⟩, .int .i64 0, .int .i64 xc] #[.slice none 0 0, .string ⟨#[]⟩, .nilIface, .slice none 0 0, .bool false, .int .i64 0] #[.slice none 0 0, .string ⟨t.toArray⟩, .nilIface, .slice none 0 0, .bool false, .int .i64 0] #[.int .i64 xc] 43 109 109 3
  have hb0 := below4 w (.cells #[.int .i64 9, .string ⟨t.toArray⟩, .int .i64 0, .int .i64 xc] 43) (.cells #[.slice none 0 0, .string ⟨#[]⟩, .nilIface, .slice none 0 0, .bool false, .int .i64 0] 109) (.cells #[.slice none 0 0, .string ⟨t.toArray⟩, .nilIface, .slice none 0 0, .bool false, .int .i64 0] 109) (.cells #[.int .i64 xc] 3)
  exact ⟨[], l, .slice none 0 0, xc, hU, hR, hL, Int.le_refl _, ⟨by simp, .inl ⟨rfl, rfl⟩⟩, HW.out.below hb0, Below.grownBy hb0, WAtZ.start _ _ _ _, (by show _ ≤ _; simp)⟩
 case round =>
  obtain ⟨acc, lk, v, kk, HC, HZ, HLf, hkx, HO, HWk, HG, HN, HA⟩ := hrel
  have hgk := HG.out.size
  have hCl := HLf.out.lt
  have l0 := HLf.out.cell 0
  simp at l0
  have g0 := HLf.out.free 0
  by_cases hgo : 0 < kk ∧ Px.isTail (Px.pkN lk) = false
  · obtain ⟨hk0, htl⟩ := hgo
    have HTL := hd htl
    go_wp2_with fail
    refine (k_peek_any wr B lk HWk.out).mono ?_
    rintro x w1 ⟨rfl, hb1⟩
    have HC1 := hd (HC.out.below hb1 HC.out.lt)
    have HZ1 := hd (HZ.out.below hb1 HZ.out.lt)
    have HL1 := hd (HLf.out.below hb1 HLf.out.lt)
    have W1 := hd (HWk.out.below hb1)
    have G1 := hd (grown_tr HG.out (Below.grownBy hb1))
    have HO1 := hd (owns_below HO.out hb1)
    have l1 := HL1.out.cell 0
    simp at l1
    have g1 := HL1.out.free 0
    have hl1 := HL1.out.lt
    have hc1 := HC1.out.lt
    have HMe : Hid (∃ m, wr.cell? ⟨w.heap.size + 1 + 1 + 1, 0, none⟩ = some (.int m kk)) := ⟨_, l0⟩
    clear hb1 htl
    go_wp2_with fail
    refine (k_isTail_any _ _).mono ?_
    rintro x w2 ⟨rfl, h0⟩
    rw [h0, HTL.out]
    clear h0 w2
    have HC2 := hd (HC1.out.far (⟨w.heap.size + 1 + 1 + 1, 0, none⟩ : Addr) (.int .i64 (kk - 1)) (by simp <;> omega))
    have HZ2 := hd (HZ1.out.far (⟨w.heap.size + 1 + 1 + 1, 0, none⟩ : Addr) (.int .i64 (kk - 1)) (by simp <;> omega))
    have HL2 := hd (HL1.out.set 0 (.int .i64 (kk - 1)))
    have W2 := hd (W1.out.far (⟨w.heap.size + 1 + 1 + 1, 0, none⟩ : Addr) (show B < w.heap.size + 1 + 1 + 1 by omega) (.int .i64 (kk - 1)))
    have G2 := hd (grown_at (i := 0) (v := .int .i64 (kk - 1)) G1.out (show w.heap.size ≤ w.heap.size + 1 + 1 + 1 by omega))
    have HO2 := hd (own_away (i := 0) (u := .int .i64 (kk - 1)) HO1.out (show w.heap.size + 1 + 1 + 1 < w.heap.size + 4 by omega))
    go_wp2_with fail
    generalize w1.setCell (⟨w.heap.size + 1 + 1 + 1, 0, none⟩ : Addr) (.int .i64 (kk - 1)) = wa at *
    have HEa := hd (HE.out.grown G2.out hB)
    have hdr : Below wa.heap.size wa wa.drew := (Below.refl _ _).drew
    have ca := HC2.out.cell 0
    simp at ca
    have hca := HC2.out.lt
    have hla := HL2.out.lt
    have hga := G2.out.size
    clear l1 g1 hl1 hc1 HC1 HZ1 HL1 W1 G1 HO1
    go_region_law (first
     | (refine step_append_lies _ rfl _ _ 106 rfl (w.heap.size + 4) 141 i0 (.agg #[.bool false, .nilIface]) 2 24 Tryz.underlying106 hi hz0 hz1 hz2 rfl (by decide) v acc.length _ rfl (HO6.out.alloc _) ⟨w6.heap.size, 0, none⟩ 1 1 [.bool ib, iv] rfl rfl (two_news w6 (.bool ib) iv 141) (by intro u hu; simp at hu; rcases hu with rfl | rfl; rfl; exact HIV.out) (by omega) (by unfold maxLen; omega) (by omega) (by simp; omega) _ rfl ?_
        intro g cap w7 hown hgrow hat hltg
        have HO7 := hd hown
        have HC7 := hd (blk_row (HC6.out.alloc _) hgrow (fun o ho => by have := (HO6.out.lt o ho).1; omega))
        have HZ7 := hd (blk_row (HZ6.out.alloc _) hgrow (fun o ho => by have := (HO6.out.lt o ho).1; omega))
        have W7 := hd ((W6.out.below ((Below.refl _ _).alloc (Nat.le_refl _) _)).row hgrow (fun o ho => by have := (HO6.out.lt o ho).1; omega))
        have G7 := hd (grown_row (grownBy_alloc G6.out _) hgrow (fun o ho => by have := (HO6.out.lt o ho).1; omega))
        have HL7 := hd (blk_row (HL6.out.alloc _) hgrow (fun o ho => by have := (HO6.out.lt o ho).1; omega))
        have d1 := HC7.out.cell 0
        simp at d1
        have e1 := HC7.out.free 0
        clear hown hgrow hat)
     | (go_simp
        go_at_call 137
        refine (k_item_any _ B lk (W2.out.below hdr) (HEa.out.below hdr) hB).mono ?_
        rintro x w6 ho
        obtain ⟨g, ⟨p1, rfl⟩ | ⟨it, l6, v6, p1, rfl, hv, hw6⟩⟩ := ho.cases
        · exact ⟨rfl, by rw [sel1_fail HN.out hk0 HTL.out p1]; exact WOut.none (grown_tr G2.out (grown_tr (Below.grownBy hdr) g))⟩
        obtain ⟨ib, iv, hv', hic, hiv⟩ := item_cells it
        have hv : v6 = .agg #[.bool ib, iv] := Eq.trans hv (Eq.symm hv')
        subst hv
        have HIC := hd hic
        have HIV := hd hiv
        have hEa := Px.eats_Item _ _ _ p1
        have HN6 := hd (HN.out.step hk0 (by simp [HTL.out]) p1)
        have G6 := hd (grown_tr G2.out (grown_tr (Below.grownBy hdr) g))
        have W6 := hd hw6
        have HO6 := hd ((owns_below HO2.out hdr).kept g (by
         cases hv : v.ownBlock with
         | none => exact .inl rfl
         | some o => right; have := (HO2.out.lt o hv).1; simp; omega))
        have HC6 := hd (blk_keep (HC2.out.below hdr HC2.out.lt) g (by omega))
        have HZ6 := hd (blk_keep (HZ2.out.below hdr HZ2.out.lt) g (by omega))
        have HL6 := hd (blk_keep (HL2.out.below hdr HL2.out.lt) g (by omega))
        have hg6 := HL6.out.lt
        have hg6' := HC6.out.lt
        have c1 := HC6.out.cell 0
        simp at c1
        have hA : acc.length + 1 + l6.length ≤ l.length := by have := HA.out; omega
        clear ho g hw6 p1 hv' hic hiv))
    all_goals
     go_wp2_with fail
     go_roundw
     case rel =>
      refine ⟨acc ++ [it], l6, _, kk - 1, HC7.out.set 0 _, HZ7.out.far _ _ (by simp), HL7.out.far _ _ (by simp), by omega, ?_, W7.out.far ⟨w.heap.size + 1 + 1, 0, none⟩ (show B < w.heap.size + 1 + 1 by omega) _, grown_at G7.out (by omega), HN6, (by show _ ≤ _; simp only [List.length_append, List.length_singleton]; omega)⟩
      show World.ownsRow _ _ _ _ _ _ _
      rw [List.length_append, List.length_singleton, flat_snoc, HIC.out]
      exact own_away HO7.out (by omega)
     case measure =>
      obtain ⟨m, hm⟩ := HMe.out
      have hn := (HL7.out.far (⟨w.heap.size + 1 + 1, 0, none⟩ : Addr) (.slice (some ⟨g, 0, none⟩) (acc.length + 1) cap) (by simp)).cell 0
      rw [hm, hn]
      simp
      omega
  · have HR := hd (sel1_end (t := t) HN.out hgo)
    have hkx' : kk ≤ 9223372036854775807 := by omega
    by_cases hk0 : 0 < kk
    case' pos =>
     have htl : Px.isTail (Px.pkN lk) = true := by
      cases hh : Px.isTail (Px.pkN lk) with
      | true => rfl
      | false => exact absurd ⟨hk0, hh⟩ hgo
     have HTL := hd htl
     clear hgo htl
     go_wp2_with fail
     refine (k_peek_any wr B lk HWk.out).mono ?_
     rintro x w1 ⟨rfl, hb1⟩
     have HC1 := hd (HC.out.below hb1 HC.out.lt)
     have HZ1 := hd (HZ.out.below hb1 HZ.out.lt)
     have HL1 := hd (HLf.out.below hb1 HLf.out.lt)
     have W1 := hd (HWk.out.below hb1)
     have G1 := hd (grown_tr HG.out (Below.grownBy hb1))
     have HO1 := hd (owns_below HO.out hb1)
     clear hb1
     go_wp2_with fail
     refine (k_isTail_any _ _).mono ?_
     rintro x w2 ⟨rfl, h0⟩
     rw [h0, HTL.out]
     clear h0 w2 HTL
    case' neg =>
     have hk' : decide (0 < kk) = false := decide_eq_false hk0
     have HC1 := HC
     have HZ1 := HZ
     have HL1 := HLf
     have W1 := HWk
     have G1 := HG
     have HO1 := HO
     clear hgo
    all_goals
     clear HC HZ HLf HWk HG HO
     have HE1 := hd (HE.out.grown G1.out hB)
     go_wp2_with fail
     refine (k_where_any _ B _ lk kk W1.out HE1.out hB HL1.out (by omega) hkx').mono ?_
     rintro x w2 ho
     obtain ⟨g, ⟨p1, rfl⟩ | ⟨o, k', l', p1, rfl, hL2, hw2⟩⟩ := ho.cases
     · exact ⟨rfl, by rw [HR.out, show sel2 t acc kk lk = none by unfold sel2; rw [p1]; rfl]; exact WOut.none (g.more G1.out (by omega))⟩
     have HRR : Hid (selectR t xc l = sel3 t acc o k' l') := by show _ = _; rw [HR.out]; unfold sel2; rw [p1]; rfl
     have hle := rWh_le kk lk o k' l' p1
     have hA2 := HA.out
     have G2 := hd (g.more G1.out (by omega))
     have W2 := hd hw2
     have HC2 := hd (g.blk HC1.out (by omega) (by omega))
     have HZ2 := hd (g.blk HZ1.out (by omega) (by omega))
     have HO2 := hd (g.own HO1.out (fun q hq => by have := (HO1.out.lt q hq).1; omega))
     have HL2 := hd hL2
     have c2 := HC2.out.cell 2
     simp at c2
     have f2 := HC2.out.free 2
     have hv1 := ev?_one o
     obtain ⟨vo, hvo⟩ : ∃ vo, vo = ev? o := ⟨_, rfl⟩
     rw [← hvo] at hv1 ⊢
     have HVO := hd hvo
     have hv2 : vo.oneCell' = true := by rcases hv1 with rfl | ⟨et, ex, rfl⟩ <;> rfl
     have hst : Sem.run Tryz.prog (storeCells ⟨w.heap.size + 1 + 1, 2, none⟩ [vo]) w2 = .ok () (w2.setCell ⟨w.heap.size + 1 + 1, 2, none⟩ vo) := by
      clear hvo hv1
      have hst0 : (store ⟨w.heap.size + 1 + 1, 2, none⟩ vo).run Tryz.prog w2 = .ok () (w2.setCell ⟨w.heap.size + 1 + 1, 2, none⟩ vo) := by
       rw [run_store _ _ _ _ _ hv2, c2]
       simp [f2]
      simp only [storeCells, Sem.run_bind, Addr.add_lit, Nat.add_zero, hst0, Result.andThen_ok, Sem.run_pure]
     have HC3 := hd (HC2.out.set 2 vo)
     have HZ3 := hd (HZ2.out.far (⟨w.heap.size + 1 + 1, 2, none⟩ : Addr) vo (by simp))
     have HL3 := hd (HL2.out.far (⟨w.heap.size + 1 + 1, 2, none⟩ : Addr) vo (by simp))
     have W3 := hd (W2.out.far (⟨w.heap.size + 1 + 1, 2, none⟩ : Addr) (show B < w.heap.size + 1 + 1 by omega) vo)
     have G3 := hd (grown_at (i := 2) (v := vo) G2.out (show w.heap.size ≤ w.heap.size + 1 + 1 by omega))
     have HO3 := hd (own_away (i := 2) (u := vo) HO2.out (show w.heap.size + 1 + 1 < w.heap.size + 4 by omega))
     clear g ho p1 hw2 hL2 hvo HC1 HZ1 HL1 W1 G1 HO1 HE1 HN HR HA l0 g0 HC2 HZ2 HL2 W2 G2 HO2
     have HV1 := hd hv1
     clear hv1
     go_wp2_with fail
     rw [hst]
     clear hst c2 f2
     go_wp2_with fail
     generalize w2.setCell (⟨w.heap.size + 1 + 1, 2, none⟩ : Addr) vo = wa at *
     go_loopw [33] (fun _ wr => ∃ (os : List (Px.E × Bool)) (lm : List Px.Nd) (v2 : Value) (km : Int), Hid (Blk wr (w.heap.size + 1 + 1) #[v, .string ⟨t.toArray⟩, vo, v2, .bool false, .int .i64 0] 109) ∧ Hid (Blk wr (w.heap.size + 1) #[.slice none 0 0, .string ⟨#[]⟩, .nilIface, .slice none 0 0, .bool false, .int .i64 0] 109) ∧ Hid (Blk wr (w.heap.size + 1 + 1 + 1) #[.int .i64 km] 3) ∧ km ≤ xc ∧ Hid (wr.ownsRow (w.heap.size + 4) 141 2 v acc.length (acc.flatMap itemC)) ∧ Hid (wr.ownsRow (w.heap.size + 4) 143 2 v2 os.length (os.flatMap orderC)) ∧ Hid (Wks wr B lm) ∧ Hid (w.grownBy wr (some B)) ∧ Hid (WAtZ (fun k => decide (k = 12)) Px.rOrder k' l' os km lm) ∧ Hid (os.length + lm.length ≤ l'.length)) (fun _ wr => match wr.cell? ⟨w.heap.size + 1 + 1 + 1, 0, none⟩ with | some (.int _ k) => k.toNat | _ => 0)
     case atStart => exact ⟨[], l', .slice none 0 0, k', HC3, HZ3, HL3, by omega, HO3, ⟨by simp, .inl ⟨rfl, rfl⟩⟩, W3, G3, WAtZ.start _ _ _ _, (by show _ ≤ _; simp)⟩
     case round =>
      clear HC3 HZ3 HL3 W3 G3 HO3
      obtain ⟨os, lm, v2, km, HC, HZ, HLf, hmx, HI, HO, HWk, HG, HN, HA⟩ := hrel
      have hgk := HG.out.size
      have hCl := HLf.out.lt
      go_wp2_with fail
      refine (k_isKid_any _ B _ lm km 12 HWk.out HLf.out (by omega) (by omega)).mono ?_
      rintro x w1 ⟨rfl, hg1, hL1⟩
      have hs1 := hg1.size
      have HC1 := hd (blk_keep HC.out hg1 (by omega))
      have HZ1 := hd (blk_keep HZ.out hg1 (by omega))
      have HL1 := hd hL1
      have W1 := hd (HWk.out.away hg1 (by omega))
      have G1 := hd (Gr2.more HG.out (Gr2.snd hg1) (by omega))
      have HO1 := hd (HO.out.kept hg1 (by
       cases hv : v2.ownBlock with
       | none => exact .inl rfl
       | some g => right; have := (HO.out.lt g hv).1; simp; omega))
      have HI1 := hd (HI.out.kept hg1 (by
       cases hv : v.ownBlock with
       | none => exact .inl rfl
       | some g => right; have := (HI.out.lt g hv).1; simp; omega))
      have HE1 := hd (HE.out.grown G1.out hB)
      have c1 := HC1.out.cell 3
      simp at c1
      have hC1l := HC1.out.lt
      have hL1l := HL1.out.lt
      clear hg1 hL1
      cases hik : isK km 12 lm with
      | true =>
       have HIK := hd hik
       have HLm : Hid (Blk w1 (w.heap.size + 1 + 1 + 1) #[.int .i64 (km - 1)] 3) := by have := HL1.out; unfold kidLeft at this; rw [hik] at this; exact this
       have hm0 : 0 < km ∧ Px.pkN lm = 12 := by unfold isK at hik; simpa using hik
       have HMe : Hid (∃ m, wr.cell? ⟨w.heap.size + 1 + 1 + 1, 0, none⟩ = some (.int m km)) := ⟨_, by have := HLf.out.cell 0; simpa using this⟩
       have hdr : Below w1.heap.size w1 w1.drew := (Below.refl _ _).drew
       clear hik
       go_wp2_with fail
       go_region_law (first
        | (refine step_append_lies _ rfl _ _ 107 rfl (w.heap.size + 4) 143 j0 (.agg #[.nilIface, .bool false]) 2 24 Tryz.underlying107 hj hy0 hy1 hy2 rfl (by decide) v2 os.length _ rfl (HO6.out.alloc _) ⟨w6.heap.size, 0, none⟩ 1 1 [.iface et ex, .bool bb] rfl rfl (two_news w6 (.iface et ex) (.bool bb) 143) (by intro u hu; simp at hu; rcases hu with rfl | rfl <;> rfl) (by omega) (by unfold maxLen; omega) (by omega) (by simp; omega) _ rfl ?_
           intro g cap w7 hown hgrow hat hltg
           have HO7 := hd hown
           have HC7 := hd (blk_row (HC6.out.alloc _) hgrow (fun o ho => by have := (HO6.out.lt o ho).1; omega))
           have HZ7 := hd (blk_row (HZ6.out.alloc _) hgrow (fun o ho => by have := (HO6.out.lt o ho).1; omega))
           have W7 := hd ((W6.out.below ((Below.refl _ _).alloc (Nat.le_refl _) _)).row hgrow (fun o ho => by have := (HO6.out.lt o ho).1; omega))
           have G7 := hd (grown_row (grownBy_alloc G6.out _) hgrow (fun o ho => by have := (HO6.out.lt o ho).1; omega))
           have HL7 := hd (blk_row (HL6.out.alloc _) hgrow (fun o ho => by have := (HO6.out.lt o ho).1; omega))
           have HI6' := HI6.out.alloc (.cells #[.iface et ex, .bool bb] 143)
           have HO6' := HO6.out.alloc (.cells #[.iface et ex, .bool bb] 143)
           have HI7 := hd (HI6'.kept hgrow (own_apart HI6' HO6' (by decide)))
           clear HI6' HO6'
           have d1 := HC7.out.cell 3
           simp at d1
           have e1 := HC7.out.free 3
           clear hown hgrow hat)
        | (go_simp
           go_at_call 138
           refine (k_order_any _ B lm (W1.out.below hdr) (HE1.out.below hdr) hB).mono ?_
           rintro x w6 ho
           obtain ⟨g, ⟨p1, rfl⟩ | ⟨⟨e, bb⟩, l6, v6, p1, rfl, hv, hw6⟩⟩ := ho.cases
           · exact ⟨rfl, by rw [HRR.out, sel3_fail HN.out HIK.out p1]; exact WOut.none (grown_tr G1.out (grown_tr (Below.grownBy hdr) g))⟩
           have hv : v6 = .agg #[ev e, .bool bb] := hv
           obtain ⟨et, ex, hev⟩ := ev_iface e
           have HEV := hd hev
           rw [hev] at hv
           subst hv
           have hEa := Px.eats_Order _ _ _ p1
           have HN6 := hd (HN.out.step hm0.1 (by simp [hm0.2]) p1)
           have G6 := hd (grown_tr G1.out (grown_tr (Below.grownBy hdr) g))
           have W6 := hd hw6
           have HO6 := hd ((owns_below HO1.out hdr).kept g (by
            cases hv : v2.ownBlock with
            | none => exact .inl rfl
            | some o => right; have := (HO1.out.lt o hv).1; simp; omega))
           have HI6 := hd ((owns_below HI1.out hdr).kept g (by
            cases hv : v.ownBlock with
            | none => exact .inl rfl
            | some o => right; have := (HI1.out.lt o hv).1; simp; omega))
           have HC6 := hd (blk_keep (HC1.out.below hdr HC1.out.lt) g (by omega))
           have HZ6 := hd (blk_keep (HZ1.out.below hdr HZ1.out.lt) g (by omega))
           have HL6 := hd (blk_keep (HLm.out.below hdr HLm.out.lt) g (by omega))
           have hg6 := HL6.out.lt
           have hg6' := HC6.out.lt
           have c1 := HC6.out.cell 3
           simp at c1
           have hA : os.length + 1 + l6.length ≤ l'.length := by have := HA.out; omega
           clear ho g hw6 p1 hev))
       all_goals
        go_wp2_with fail
        go_roundw
        case rel =>
         refine ⟨os ++ [(e, bb)], l6, _, km - 1, HC7.out.set 3 _, HZ7.out.far _ _ (by simp), HL7.out.far _ _ (by simp), by omega, own_away HI7.out (by omega), ?_, W7.out.far ⟨w.heap.size + 1 + 1, 3, none⟩ (show B < w.heap.size + 1 + 1 by omega) _, grown_at G7.out (by omega), HN6, (by show _ ≤ _; simp only [List.length_append, List.length_singleton]; omega)⟩
         show World.ownsRow _ _ _ _ _ _ _
         rw [List.length_append, List.length_singleton, flat_snoc]
         simp only [orderC]
         rw [HEV.out]
         exact own_away HO7.out (by omega)
        case measure =>
         obtain ⟨m, hm⟩ := HMe.out
         have hn := (HL7.out.far (⟨w.heap.size + 1 + 1, 3, none⟩ : Addr) (.slice (some ⟨g, 0, none⟩) (os.length + 1) cap) (by simp)).cell 0
         rw [hm, hn]
         simp
         omega
      | false =>
       have HIK := hd hik
       have HLm : Hid (Blk w1 (w.heap.size + 1 + 1 + 1) #[.int .i64 km] 3) := by have := HL1.out; unfold kidLeft at this; rw [hik] at this; exact this
       have HR4 : Hid (selectR t xc l = sel4 t acc o os km lm) := by show _ = _; rw [HRR.out, sel3_end HN.out hik]
       clear hik
       go_wp2_with fail
       refine (k_isKid_any _ B _ lm km 13 W1.out HLm.out (by omega) (by omega)).mono ?_
       rintro x w3 ⟨rfl, hg3, hL3⟩
       have hs3 := hg3.size
       have HC3 := hd (blk_keep HC1.out hg3 (by omega))
       have HZ3 := hd (blk_keep HZ1.out hg3 (by omega))
       have HL3 := hd hL3
       have W3 := hd (W1.out.away hg3 (by omega))
       have G3 := hd (Gr2.more G1.out (Gr2.snd hg3) (by omega))
       have HO3 := hd (HO1.out.kept hg3 (by
        cases hv : v2.ownBlock with
        | none => exact .inl rfl
        | some g => right; have := (HO1.out.lt g hv).1; simp; omega))
       have HI3 := hd (HI1.out.kept hg3 (by
        cases hv : v.ownBlock with
        | none => exact .inl rfl
        | some g => right; have := (HI1.out.lt g hv).1; simp; omega))
       have HE3 := hd (HE.out.grown G3.out hB)
       have c4 := HC3.out.cell 4
       have c5 := HC3.out.cell 5
       simp at c4 c5
       have f4 := HC3.out.free 4
       have f5 := HC3.out.free 5
       clear hg3 hL3 HC HZ HLf HWk HG HO HI HC1 HZ1 HL1 W1 G1 HO1 HI1 HE1 c1 HLm
       obtain ⟨ao, nn, cp, rfl⟩ := own_slice HI3.out
       obtain ⟨ao2, nn2, cp2, rfl⟩ := own_slice HO3.out
       have HNN : Hid (nn = acc.length) := by
        show _ = _
        rcases HI3.out.2 with ⟨a1, a2⟩ | ⟨g', cap', cur', a1, _⟩
        · cases a1; omega
        · cases a1; rfl
       rcases Bool.eq_false_or_eq_true (isK km 13 lm) with hi3 | hi3
       case' inl =>
        rw [hi3]
        have HLn : Hid (Blk w3 (w.heap.size + 1 + 1 + 1) #[.int .i64 (km - 1)] 3) := by have := HL3.out; unfold kidLeft at this; rw [hi3] at this; exact this
        have HRL : Hid (selectR t xc l = ((rLimit lm).map fun y => (some y.1, km - 1, y.2)).bind fun u => if u.2.1 = 0 ∧ acc ≠ [] then some (.select acc t o os u.1, u.2.2) else none) := by show _ = _; rw [HR4.out]; unfold sel4 rLz; rw [hi3]; rfl
        obtain ⟨k2, hk2⟩ : ∃ k2, k2 = km - 1 := ⟨_, rfl⟩
        rw [← hk2] at HLn HRL
        clear hi3 HL3 hk2
        go_wp2_with fail
        refine (k_limit_any _ B lm W3.out HE3.out hB).mono ?_
        rintro x w4 ho
        obtain ⟨g, ⟨p1, rfl⟩ | ⟨n, l2, v4, p1, rfl, hv, hw4⟩⟩ := ho.cases
        · exact ⟨rfl, by rw [HRL.out, p1]; exact WOut.none (grown_tr G3.out g)⟩
        have hv : v4 = .int .i64 (n : Int) := hv
        subst hv
        obtain ⟨lo, hlo⟩ : ∃ lo : Option Nat, lo = some n := ⟨_, rfl⟩
        have HLO := hd hlo
        have HR5 : Hid (selectR t xc l = if k2 = 0 ∧ acc ≠ [] then some (.select acc t o os lo, l2) else none) := by show _ = _; rw [HRL.out, p1, hlo]; rfl
        have HC4 := hd (blk_keep HC3.out g (by omega))
        have HZ4 := hd (blk_keep HZ3.out g (by omega))
        have HL4 := hd (blk_keep HLn.out g (by omega))
        have HC5 : Hid (Blk ((w4.setCell ⟨w.heap.size + 1 + 1, 4, none⟩ (.bool true)).setCell ⟨w.heap.size + 1 + 1, 5, none⟩ (.int .i64 (n : Int))) (w.heap.size + 1 + 1) #[.slice ao nn cp, .string ⟨t.toArray⟩, vo, .slice ao2 nn2 cp2, .bool lo.isSome, .int .i64 ((lo.getD 0 : Nat) : Int)] 109) := by rw [hlo]; exact (HC4.out.set 4 _).set 5 _
        have HZ5 := hd ((HZ4.out.far (⟨w.heap.size + 1 + 1, 4, none⟩ : Addr) (.bool true) (by simp)).far (⟨w.heap.size + 1 + 1, 5, none⟩ : Addr) (.int .i64 (n : Int)) (by simp))
        have W5 := hd ((Wks.far hw4 (⟨w.heap.size + 1 + 1, 4, none⟩ : Addr) (show B < w.heap.size + 1 + 1 by omega) (.bool true)).far (⟨w.heap.size + 1 + 1, 5, none⟩ : Addr) (show B < w.heap.size + 1 + 1 by omega) (.int .i64 (n : Int)))
        have G5 := hd (grown_at (i := 5) (v := .int .i64 (n : Int)) (grown_at (i := 4) (v := .bool true) (grown_tr G3.out g) (show w.heap.size ≤ w.heap.size + 1 + 1 by omega)) (show w.heap.size ≤ w.heap.size + 1 + 1 by omega))
        have HI5 := hd (own_away (i := 5) (u := .int .i64 (n : Int)) (own_away (i := 4) (u := .bool true) (HI3.out.kept g (by
         cases hv : (Value.slice ao nn cp).ownBlock with
         | none => exact .inl rfl
         | some q => right; have := (HI3.out.lt q hv).1; simp; omega)) (show w.heap.size + 1 + 1 < w.heap.size + 4 by omega)) (show w.heap.size + 1 + 1 < w.heap.size + 4 by omega))
        have HO5 := hd (own_away (i := 5) (u := .int .i64 (n : Int)) (own_away (i := 4) (u := .bool true) (HO3.out.kept g (by
         cases hv : (Value.slice ao2 nn2 cp2).ownBlock with
         | none => exact .inl rfl
         | some q => right; have := (HO3.out.lt q hv).1; simp; omega)) (show w.heap.size + 1 + 1 < w.heap.size + 4 by omega)) (show w.heap.size + 1 + 1 < w.heap.size + 4 by omega))
        have l0 := HL4.out.cell 0
        simp at l0
        clear c4 c5 f4 f5
        have q0 := HC4.out.cell 0
        have q1 := HC4.out.cell 1
        have q2 := HC4.out.cell 2
        have q3 := HC4.out.cell 3
        have q4 := HC4.out.cell 4
        have q5 := HC4.out.cell 5
        simp at q0 q1 q2 q3 q4 q5
        have e4 := HC4.out.free 4
        have e5 := HC4.out.free 5
        have z0 := HZ4.out.cell 0
        have z1 := HZ4.out.cell 1
        have z2 := HZ4.out.cell 2
        have z3 := HZ4.out.cell 3
        have z4 := HZ4.out.cell 4
        have z5 := HZ4.out.cell 5
        simp at z0 z1 z2 z3 z4 z5
        have y0 := HZ4.out.free 0
        have y1 := HZ4.out.free 1
        have y2 := HZ4.out.free 2
        have y3 := HZ4.out.free 3
        have y4 := HZ4.out.free 4
        have y5 := HZ4.out.free 5
        have hq := HC4.out.lt
        have hz := HZ4.out.lt
        clear ho g p1 hw4 hlo HLn HC3 HZ3 W3 G3 HI3 HO3 HE3 HRL
       case' inr =>
        rw [hi3]
        have HL4 : Hid (Blk w3 (w.heap.size + 1 + 1 + 1) #[.int .i64 km] 3) := by have := HL3.out; unfold kidLeft at this; rw [hi3] at this; exact this
        obtain ⟨lo, hlo⟩ : ∃ lo : Option Nat, lo = none := ⟨_, rfl⟩
        have HLO := hd hlo
        obtain ⟨k2, hk2⟩ : ∃ k2, k2 = km := ⟨_, rfl⟩
        obtain ⟨l2, hl2⟩ : ∃ l2, l2 = lm := ⟨_, rfl⟩
        have HR5 : Hid (selectR t xc l = if k2 = 0 ∧ acc ≠ [] then some (.select acc t o os lo, l2) else none) := by show _ = _; rw [HR4.out, hlo, hk2, hl2]; unfold sel4 rLz; rw [hi3]; rfl
        rw [← hk2] at HL4
        have HC5 : Hid (Blk w3 (w.heap.size + 1 + 1) #[.slice ao nn cp, .string ⟨t.toArray⟩, vo, .slice ao2 nn2 cp2, .bool lo.isSome, .int .i64 ((lo.getD 0 : Nat) : Int)] 109) := by rw [hlo]; exact HC3.out
        have HZ5 := HZ3
        have W5 : Hid (Wks w3 B l2) := by rw [hl2]; exact W3
        have G5 := G3
        have HI5 := HI3
        have HO5 := HO3
        have l0 := HL4.out.cell 0
        simp at l0
        clear c4 c5 f4 f5
        have q0 := HC3.out.cell 0
        have q1 := HC3.out.cell 1
        have q2 := HC3.out.cell 2
        have q3 := HC3.out.cell 3
        have q4 := HC3.out.cell 4
        have q5 := HC3.out.cell 5
        simp at q0 q1 q2 q3 q4 q5
        have e4 := HC3.out.free 4
        have e5 := HC3.out.free 5
        have z0 := HZ3.out.cell 0
        have z1 := HZ3.out.cell 1
        have z2 := HZ3.out.cell 2
        have z3 := HZ3.out.cell 3
        have z4 := HZ3.out.cell 4
        have z5 := HZ3.out.cell 5
        simp at z0 z1 z2 z3 z4 z5
        have y0 := HZ3.out.free 0
        have y1 := HZ3.out.free 1
        have y2 := HZ3.out.free 2
        have y3 := HZ3.out.free 3
        have y4 := HZ3.out.free 4
        have y5 := HZ3.out.free 5
        have hq := HC3.out.lt
        have hz := HZ3.out.lt
        clear hi3 HL3 hlo hk2 hl2 HZ3 W3 G3 HI3 HO3 HE3
       all_goals
        have hcase : k2 ≠ 0 ∨ (k2 = 0 ∧ nn = 0) ∨ (k2 = 0 ∧ 0 < nn) := by omega
        have hLl := HL4.out.lt
        rcases hcase with hc | ⟨rfl, hc⟩ | ⟨rfl, hc⟩
        · have HRR : Hid (selectR t xc l = none) := by show _ = _; rw [HR5.out, if_neg (fun e => hc e.1)]
          have hc' : (k2 == 0) = false := beq_eq_false_iff_ne.2 hc
          go_wp2_with fail
          refine (k_must_false _ B).mono ?_
          rintro y w5 ⟨rfl, hb5⟩
          exact ⟨rfl, by rw [HRR.out]; exact WOut.none (grown_tr G5.out (Below.grownBy hb5))⟩
        · have HRR : Hid (selectR t xc l = none) := by
           show _ = _
           have : acc = [] := List.length_eq_zero_iff.1 (by have := HNN.out; omega)
           rw [HR5.out, if_neg (fun e => e.2 this)]
          subst hc
          go_wp2_with fail
          refine (k_must_false _ B).mono ?_
          rintro y w5 ⟨rfl, hb5⟩
          exact ⟨rfl, by rw [HRR.out]; exact WOut.none (grown_tr G5.out (Below.grownBy hb5))⟩
        · have HRR : Hid (selectR t xc l = some (.select acc t o os lo, l2)) := by
           show _ = _
           have : acc ≠ [] := fun e => by have := HNN.out; rw [e] at this; simp at this; omega
           rw [HR5.out, if_pos ⟨rfl, this⟩]
          have hc' : (0 : Int) < (nn : Int) := by omega
          go_wp2_with fail
          refine (k_must_true _ B).mono ?_
          rintro y w5 ⟨rfl, h0⟩
          rw [h0]
          clear h0 w5
          rcases HV1.out with hvo | ⟨et, ex, hvo⟩
          all_goals
           subst hvo
           go_wp2_with fail
           first
            | (have KF := (((((HZ5.out.set 0 (.slice ao nn cp)).set 1 (.string ⟨t.toArray⟩)).set 2 (.iface et ex)).set 3 (.slice ao2 nn2 cp2)).set 4 (.bool true)).set 5 (.int .i64 (n : Int))
               have r0 := KF.cell 0
               have r1 := KF.cell 1
               have r2 := KF.cell 2
               have r3 := KF.cell 3
               have r4 := KF.cell 4
               have r5 := KF.cell 5
               simp at r0 r1 r2 r3 r4 r5
               refine bodyPost_ret (v := .agg #[.slice ao nn cp, .string ⟨t.toArray⟩, (.iface et ex), .slice ao2 nn2 cp2, .bool true, .int .i64 (n : Int)]) (by simp [results, Tryz.results79, go_sem, r0, r1, r2, r3, r4, r5]) rfl ?_
               rw [HRR.out]
               refine WOut.some (grown_at (grown_at (grown_at (grown_at (grown_at (grown_at G5.out (show w.heap.size ≤ w.heap.size + 1 by omega)) (show w.heap.size ≤ w.heap.size + 1 by omega)) (show w.heap.size ≤ w.heap.size + 1 by omega)) (show w.heap.size ≤ w.heap.size + 1 by omega)) (show w.heap.size ≤ w.heap.size + 1 by omega)) (show w.heap.size ≤ w.heap.size + 1 by omega)) ?_ (Wks.far (Wks.far (Wks.far (Wks.far (Wks.far (Wks.far W5.out (⟨w.heap.size + 1, 0, none⟩ : Addr) (show B < w.heap.size + 1 by omega) _) (⟨w.heap.size + 1, 1, none⟩ : Addr) (show B < w.heap.size + 1 by omega) _) (⟨w.heap.size + 1, 2, none⟩ : Addr) (show B < w.heap.size + 1 by omega) _) (⟨w.heap.size + 1, 3, none⟩ : Addr) (show B < w.heap.size + 1 by omega) _) (⟨w.heap.size + 1, 4, none⟩ : Addr) (show B < w.heap.size + 1 by omega) _) (⟨w.heap.size + 1, 5, none⟩ : Addr) (show B < w.heap.size + 1 by omega) _)
               refine ⟨_, _, ?_, ownBase (own_away (own_away (own_away (own_away (own_away (own_away HI5.out (show w.heap.size + 1 < w.heap.size + 4 by omega)) (show w.heap.size + 1 < w.heap.size + 4 by omega)) (show w.heap.size + 1 < w.heap.size + 4 by omega)) (show w.heap.size + 1 < w.heap.size + 4 by omega)) (show w.heap.size + 1 < w.heap.size + 4 by omega)) (show w.heap.size + 1 < w.heap.size + 4 by omega)) (by omega), ownBase (own_away (own_away (own_away (own_away (own_away (own_away HO5.out (show w.heap.size + 1 < w.heap.size + 4 by omega)) (show w.heap.size + 1 < w.heap.size + 4 by omega)) (show w.heap.size + 1 < w.heap.size + 4 by omega)) (show w.heap.size + 1 < w.heap.size + 4 by omega)) (show w.heap.size + 1 < w.heap.size + 4 by omega)) (show w.heap.size + 1 < w.heap.size + 4 by omega)) (by omega)⟩
               rw [HLO.out, ← HVO.out]
               rfl)
            | (have KF := (((((HZ5.out.set 0 (.slice ao nn cp)).set 1 (.string ⟨t.toArray⟩)).set 2 .nilIface).set 3 (.slice ao2 nn2 cp2)).set 4 (.bool true)).set 5 (.int .i64 (n : Int))
               have r0 := KF.cell 0
               have r1 := KF.cell 1
               have r2 := KF.cell 2
               have r3 := KF.cell 3
               have r4 := KF.cell 4
               have r5 := KF.cell 5
               simp at r0 r1 r2 r3 r4 r5
               refine bodyPost_ret (v := .agg #[.slice ao nn cp, .string ⟨t.toArray⟩, .nilIface, .slice ao2 nn2 cp2, .bool true, .int .i64 (n : Int)]) (by simp [results, Tryz.results79, go_sem, r0, r1, r2, r3, r4, r5]) rfl ?_
               rw [HRR.out]
               refine WOut.some (grown_at (grown_at (grown_at (grown_at (grown_at (grown_at G5.out (show w.heap.size ≤ w.heap.size + 1 by omega)) (show w.heap.size ≤ w.heap.size + 1 by omega)) (show w.heap.size ≤ w.heap.size + 1 by omega)) (show w.heap.size ≤ w.heap.size + 1 by omega)) (show w.heap.size ≤ w.heap.size + 1 by omega)) (show w.heap.size ≤ w.heap.size + 1 by omega)) ?_ (Wks.far (Wks.far (Wks.far (Wks.far (Wks.far (Wks.far W5.out (⟨w.heap.size + 1, 0, none⟩ : Addr) (show B < w.heap.size + 1 by omega) _) (⟨w.heap.size + 1, 1, none⟩ : Addr) (show B < w.heap.size + 1 by omega) _) (⟨w.heap.size + 1, 2, none⟩ : Addr) (show B < w.heap.size + 1 by omega) _) (⟨w.heap.size + 1, 3, none⟩ : Addr) (show B < w.heap.size + 1 by omega) _) (⟨w.heap.size + 1, 4, none⟩ : Addr) (show B < w.heap.size + 1 by omega) _) (⟨w.heap.size + 1, 5, none⟩ : Addr) (show B < w.heap.size + 1 by omega) _)
               refine ⟨_, _, ?_, ownBase (own_away (own_away (own_away (own_away (own_away (own_away HI5.out (show w.heap.size + 1 < w.heap.size + 4 by omega)) (show w.heap.size + 1 < w.heap.size + 4 by omega)) (show w.heap.size + 1 < w.heap.size + 4 by omega)) (show w.heap.size + 1 < w.heap.size + 4 by omega)) (show w.heap.size + 1 < w.heap.size + 4 by omega)) (show w.heap.size + 1 < w.heap.size + 4 by omega)) (by omega), ownBase (own_away (own_away (own_away (own_away (own_away (own_away HO5.out (show w.heap.size + 1 < w.heap.size + 4 by omega)) (show w.heap.size + 1 < w.heap.size + 4 by omega)) (show w.heap.size + 1 < w.heap.size + 4 by omega)) (show w.heap.size + 1 < w.heap.size + 4 by omega)) (show w.heap.size + 1 < w.heap.size + 4 by omega)) (show w.heap.size + 1 < w.heap.size + 4 by omega)) (by omega)⟩
               rw [HLO.out, ← HVO.out]
               rfl)
            | (have KF := (((((HZ5.out.set 0 (.slice ao nn cp)).set 1 (.string ⟨t.toArray⟩)).set 2 (.iface et ex)).set 3 (.slice ao2 nn2 cp2)).set 4 (.bool false)).set 5 (.int .i64 0)
               have r0 := KF.cell 0
               have r1 := KF.cell 1
               have r2 := KF.cell 2
               have r3 := KF.cell 3
               have r4 := KF.cell 4
               have r5 := KF.cell 5
               simp at r0 r1 r2 r3 r4 r5
               refine bodyPost_ret (v := .agg #[.slice ao nn cp, .string ⟨t.toArray⟩, (.iface et ex), .slice ao2 nn2 cp2, .bool false, .int .i64 0]) (by simp [results, Tryz.results79, go_sem, r0, r1, r2, r3, r4, r5]) rfl ?_
               rw [HRR.out]
               refine WOut.some (grown_at (grown_at (grown_at (grown_at (grown_at (grown_at G5.out (show w.heap.size ≤ w.heap.size + 1 by omega)) (show w.heap.size ≤ w.heap.size + 1 by omega)) (show w.heap.size ≤ w.heap.size + 1 by omega)) (show w.heap.size ≤ w.heap.size + 1 by omega)) (show w.heap.size ≤ w.heap.size + 1 by omega)) (show w.heap.size ≤ w.heap.size + 1 by omega)) ?_ (Wks.far (Wks.far (Wks.far (Wks.far (Wks.far (Wks.far W5.out (⟨w.heap.size + 1, 0, none⟩ : Addr) (show B < w.heap.size + 1 by omega) _) (⟨w.heap.size + 1, 1, none⟩ : Addr) (show B < w.heap.size + 1 by omega) _) (⟨w.heap.size + 1, 2, none⟩ : Addr) (show B < w.heap.size + 1 by omega) _) (⟨w.heap.size + 1, 3, none⟩ : Addr) (show B < w.heap.size + 1 by omega) _) (⟨w.heap.size + 1, 4, none⟩ : Addr) (show B < w.heap.size + 1 by omega) _) (⟨w.heap.size + 1, 5, none⟩ : Addr) (show B < w.heap.size + 1 by omega) _)
               refine ⟨_, _, ?_, ownBase (own_away (own_away (own_away (own_away (own_away (own_away HI5.out (show w.heap.size + 1 < w.heap.size + 4 by omega)) (show w.heap.size + 1 < w.heap.size + 4 by omega)) (show w.heap.size + 1 < w.heap.size + 4 by omega)) (show w.heap.size + 1 < w.heap.size + 4 by omega)) (show w.heap.size + 1 < w.heap.size + 4 by omega)) (show w.heap.size + 1 < w.heap.size + 4 by omega)) (by omega), ownBase (own_away (own_away (own_away (own_away (own_away (own_away HO5.out (show w.heap.size + 1 < w.heap.size + 4 by omega)) (show w.heap.size + 1 < w.heap.size + 4 by omega)) (show w.heap.size + 1 < w.heap.size + 4 by omega)) (show w.heap.size + 1 < w.heap.size + 4 by omega)) (show w.heap.size + 1 < w.heap.size + 4 by omega)) (show w.heap.size + 1 < w.heap.size + 4 by omega)) (by omega)⟩
               rw [HLO.out, ← HVO.out]
               rfl)
            | (have KF := (((((HZ5.out.set 0 (.slice ao nn cp)).set 1 (.string ⟨t.toArray⟩)).set 2 .nilIface).set 3 (.slice ao2 nn2 cp2)).set 4 (.bool false)).set 5 (.int .i64 0)
               have r0 := KF.cell 0
               have r1 := KF.cell 1
               have r2 := KF.cell 2
               have r3 := KF.cell 3
               have r4 := KF.cell 4
               have r5 := KF.cell 5
               simp at r0 r1 r2 r3 r4 r5
               refine bodyPost_ret (v := .agg #[.slice ao nn cp, .string ⟨t.toArray⟩, .nilIface, .slice ao2 nn2 cp2, .bool false, .int .i64 0]) (by simp [results, Tryz.results79, go_sem, r0, r1, r2, r3, r4, r5]) rfl ?_
               rw [HRR.out]
               refine WOut.some (grown_at (grown_at (grown_at (grown_at (grown_at (grown_at G5.out (show w.heap.size ≤ w.heap.size + 1 by omega)) (show w.heap.size ≤ w.heap.size + 1 by omega)) (show w.heap.size ≤ w.heap.size + 1 by omega)) (show w.heap.size ≤ w.heap.size + 1 by omega)) (show w.heap.size ≤ w.heap.size + 1 by omega)) (show w.heap.size ≤ w.heap.size + 1 by omega)) ?_ (Wks.far (Wks.far (Wks.far (Wks.far (Wks.far (Wks.far W5.out (⟨w.heap.size + 1, 0, none⟩ : Addr) (show B < w.heap.size + 1 by omega) _) (⟨w.heap.size + 1, 1, none⟩ : Addr) (show B < w.heap.size + 1 by omega) _) (⟨w.heap.size + 1, 2, none⟩ : Addr) (show B < w.heap.size + 1 by omega) _) (⟨w.heap.size + 1, 3, none⟩ : Addr) (show B < w.heap.size + 1 by omega) _) (⟨w.heap.size + 1, 4, none⟩ : Addr) (show B < w.heap.size + 1 by omega) _) (⟨w.heap.size + 1, 5, none⟩ : Addr) (show B < w.heap.size + 1 by omega) _)
               refine ⟨_, _, ?_, ownBase (own_away (own_away (own_away (own_away (own_away (own_away HI5.out (show w.heap.size + 1 < w.heap.size + 4 by omega)) (show w.heap.size + 1 < w.heap.size + 4 by omega)) (show w.heap.size + 1 < w.heap.size + 4 by omega)) (show w.heap.size + 1 < w.heap.size + 4 by omega)) (show w.heap.size + 1 < w.heap.size + 4 by omega)) (show w.heap.size + 1 < w.heap.size + 4 by omega)) (by omega), ownBase (own_away (own_away (own_away (own_away (own_away (own_away HO5.out (show w.heap.size + 1 < w.heap.size + 4 by omega)) (show w.heap.size + 1 < w.heap.size + 4 by omega)) (show w.heap.size + 1 < w.heap.size + 4 by omega)) (show w.heap.size + 1 < w.heap.size + 4 by omega)) (show w.heap.size + 1 < w.heap.size + 4 by omega)) (show w.heap.size + 1 < w.heap.size + 4 by omega)) (by omega)⟩
               rw [HLO.out, ← HVO.out]
               rfl)
end Go.Proofs.YtkcakbgcfnhgaaaGreatDoor
