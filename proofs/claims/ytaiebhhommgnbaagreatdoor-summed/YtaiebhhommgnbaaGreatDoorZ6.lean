/- Parts of the proof: CpM CpN CpO CpP CpQ CpR CpS -/
import Derived.Test.YtaiebhhommgnbaaGreatDoorZ5
namespace Go.Proofs.YtaiebhhommgnbaaGreatDoor
set_option linter.unusedSimpArgs false
set_option linter.unusedVariables false
set_option maxRecDepth 100000
set_option maxHeartbeats 16000000
open Go.RowKit
def itemA : Option Px.E → Value
 | none => .agg #[.bool true, .nilIface]
 | some e => .agg #[.bool false, ev e]
def itemV (x : Option Px.E) (v : Value) (_ : World) : Prop := v = itemA x
theorem c_item_any (B : Nat) (lv : Value) (ts : List Lx.Tok) (sz : Nat) (dp : Bool) (w : World) (q : List Lx.Tok) (h : Cx w B lv ts sz q dp) :
   Calls Tryz.prog 101 #[.pointer (some ⟨B, 0, none⟩)] w (OutR w B lv ts sz dp (Px.itemR sz) q itemV deepO) := by
 have HX := hd h
 have hlt := h.lt
 have HB0 : Hid (Below w.heap.size w (w.alloc (.cells #[.bool false, .nilIface] 206))) := (Below.refl _ _).alloc (Nat.le_refl _) _
 have KR := Blk.new w #[.bool false, .nilIface] 206
 have HKR := hd KR
 clear h KR
 cases hs : Px.sees Px.gStar q with
 | true =>
  have HR : Hid (Px.itemR sz q (.ok (none, q.tail))) := by show Px.itemR _ _ _; unfold Px.itemR; rw [if_pos hs]
  go_enter Tryz.func101, Tryz.ntmps101
  go_wp2_with fail
  refine (c_accept_yes ⟨#[42]⟩ _ B lv ts sz q dp (HX.out.below HB0.out) hs (by simp)).mono ?_
  rintro x w3 ⟨rfl, hx, hg⟩
  have HX3 := hd hx
  have HG3 := hd (grownBy_trans (Below.grownBy HB0.out) hg)
  have HK3 := hd (HKR.out.grown hg (by omega))
  have m0 : w3.cell? ⟨w.heap.size, 0, none⟩ = some (.bool false) := HK3.out.cell 0
  have m1 : w3.cell? ⟨w.heap.size, 1, none⟩ = some .nilIface := HK3.out.cell 1
  have g0 := HK3.out.free 0
  have g1 := HK3.out.free 1
  clear hx hg HB0 HKR
  go_wp2_with fail
  have KF := (HK3.out.set 0 (.bool true)).set 1 .nilIface
  have e0 := KF.cell 0
  have e1 := KF.cell 1
  simp at e0 e1
  refine bodyPost_ret (v := .agg #[.bool true, .nilIface]) (by simp [results, Tryz.results101, go_sem, e0, e1]) rfl ?_
  exact OutR.ok (a := none) (grown_away (grown_away HG3.out (Nat.le_refl _) 0 _) (Nat.le_refl _) 1 _) HR.out rfl ((HX3.out.far HX.out (Nat.le_refl _) 0 _).far HX.out (Nat.le_refl _) 1 _)
 | false =>
  have HR : Hid (∀ r, Px.Rg.seq (Px.exR sz) (fun e => Px.Rg.ret (some e)) q r → Px.itemR sz q r) := fun r hr => by unfold Px.itemR; rw [if_neg (by simp [hs])]; exact hr
  go_enter Tryz.func101, Tryz.ntmps101
  go_wp2_with fail
  refine (c_accept_no ⟨#[42]⟩ _ B lv ts sz q dp (HX.out.below HB0.out) hs (by simp)).mono ?_
  rintro x w2 ⟨rfl, hb⟩
  have HX2 := hd ((HX.out.below HB0.out).below hb)
  have HG2 := hd (grownBy_trans (Below.grownBy (row := some B) HB0.out) (Below.grownBy (row := some B) hb))
  have HK2 := hd (HKR.out.below hb (by simp))
  clear hb HB0 HKR
  go_wp2_with fail
  refine (c_expr_any B lv ts sz dp w2 q HX2.out).mono ?_
  rintro x w3 ho
  obtain ⟨hg, ⟨p, c, hr, rfl⟩ | ⟨e, q3, v, hr, rfl, hv, hx⟩⟩ := ho.cases
  · exact ⟨rfl, OutR.err (grownBy_trans HG2.out hg) (HR.out _ (Px.Rg.err hr))⟩
  · cases hv
    have HR3 := hd hr
    have HX3 := hd hx
    have HG3 := hd (grownBy_trans HG2.out hg)
    have HK3 := hd (HK2.out.grown hg (by omega))
    obtain ⟨et, ex, hev⟩ := ev_iface e
    have HEV := hd hev
    rw [hev]
    have m0 : w3.cell? ⟨w.heap.size, 0, none⟩ = some (.bool false) := HK3.out.cell 0
    have m1 : w3.cell? ⟨w.heap.size, 1, none⟩ = some .nilIface := HK3.out.cell 1
    have g0 := HK3.out.free 0
    have g1 := HK3.out.free 1
    clear hr hx hg ho HG2 HK2 hev
    go_wp2_with fail
    have KF := (HK3.out.set 0 (.bool false)).set 1 (.iface et ex)
    have e0 := KF.cell 0
    have e1 := KF.cell 1
    simp at e0 e1
    refine bodyPost_ret (v := .agg #[.bool false, .iface et ex]) (by simp [results, Tryz.results101, go_sem, e0, e1]) rfl ?_
    exact OutR.ok (a := some e) (grown_away (grown_away HG3.out (Nat.le_refl _) 0 _) (Nat.le_refl _) 1 _) (HR.out _ (Px.Rg.go HR3.out rfl)) (by show _ = Value.agg #[_, ev e]; rw [HEV.out]) ((HX3.out.far HX.out (Nat.le_refl _) 0 _).far HX.out (Nat.le_refl _) 1 _)
theorem c_columnType_any (B : Nat) (lv : Value) (ts : List Lx.Tok) (sz : Nat) (dp : Bool) (w : World) (q : List Lx.Tok) (h : Cx w B lv ts sz q dp) :
   Calls Tryz.prog 148 #[.pointer (some ⟨B, 0, none⟩)] w (OutR w B lv ts sz dp (Px.kindR sz) q numV noDeep) := by
 have HX := hd h
 clear h
 cases hs1 : Px.sees Px.kINTEGER q with
 | true =>
  have HR : Hid (Px.kindR sz q (.ok (1, q.tail))) := by show Px.kindR _ _ _; unfold Px.kindR; rw [if_pos hs1]
  go_enter Tryz.func148, Tryz.ntmps148
  go_wp2_with fail
  refine (c_accept_yes ⟨#[73, 78, 84, 69, 71, 69, 82]⟩ w B lv ts sz q dp HX.out hs1 (by simp)).mono ?_
  rintro x w2 ⟨rfl, hx, hg⟩
  go_wp2_with fail
  go_ret
  exact OutR.ok (a := 1) hg HR.out rfl hx
 | false =>
  cases hs2 : Px.sees Px.kTEXT q with
  | true =>
   have HR : Hid (Px.kindR sz q (.ok (2, q.tail))) := by show Px.kindR _ _ _; unfold Px.kindR; rw [if_neg (by simp [hs1]), if_pos hs2]
   go_enter Tryz.func148, Tryz.ntmps148
   go_wp2_with fail
   refine (c_accept_no ⟨#[73, 78, 84, 69, 71, 69, 82]⟩ w B lv ts sz q dp HX.out hs1 (by simp)).mono ?_
   rintro x w1 ⟨rfl, hb⟩
   have HX1 := hd (HX.out.below hb)
   have HG1 := hd (Below.grownBy (row := some B) hb)
   clear hb
   go_wp2_with fail
   refine (c_accept_yes ⟨#[84, 69, 88, 84]⟩ w1 B lv ts sz q dp HX1.out hs2 (by simp)).mono ?_
   rintro x w2 ⟨rfl, hx, hg⟩
   go_wp2_with fail
   go_ret
   exact OutR.ok (a := 2) (grownBy_trans HG1.out hg) HR.out rfl hx
  | false =>
   have HR : Hid (∀ r, Px.Rg.seq (Px.mustR sz Px.kBOOLEAN) (fun _ => Px.Rg.ret 3) q r → Px.kindR sz q r) := fun r hr => by unfold Px.kindR; rw [if_neg (by simp [hs1]), if_neg (by simp [hs2])]; exact hr
   go_enter Tryz.func148, Tryz.ntmps148
   go_wp2_with fail
   refine (c_accept_no ⟨#[73, 78, 84, 69, 71, 69, 82]⟩ w B lv ts sz q dp HX.out hs1 (by simp)).mono ?_
   rintro x w1 ⟨rfl, hb⟩
   have HX1 := hd (HX.out.below hb)
   have HG1 := hd (Below.grownBy (row := some B) hb)
   clear hb
   go_wp2_with fail
   refine (c_accept_no ⟨#[84, 69, 88, 84]⟩ w1 B lv ts sz q dp HX1.out hs2 (by simp)).mono ?_
   rintro x w2 ⟨rfl, hb⟩
   have HX2 := hd (HX1.out.below hb)
   have HG2 := hd (grownBy_trans HG1.out (Below.grownBy (row := some B) hb))
   clear hb
   go_wp2_with fail
   refine (c_expect_new ⟨#[66, 79, 79, 76, 69, 65, 78]⟩ w2 B lv ts sz q dp HX2.out (by simp)).mono ?_
   rintro x w3 ho
   obtain ⟨hg, ⟨p, c, hr, rfl⟩ | ⟨_, q2, v, hr, rfl, hv, hx⟩⟩ := ho.cases
   · exact ⟨rfl, OutR.err (grownBy_trans HG2.out hg) (HR.out _ (Px.Rg.err hr))⟩
   · cases hv
     have HRR := hd hr
     clear hr
     go_wp2_with fail
     go_ret
     exact OutR.ok (a := 3) (grownBy_trans HG2.out hg) (HR.out _ (Px.Rg.go HRR.out rfl)) rfl hx
def orderV (x : Px.E × Bool) (v : Value) (_ : World) : Prop := v = .agg #[ev x.1, .bool x.2]
def deepR (x : Px.E × Bool) : Bool := deepE x.1
theorem c_order_any (B : Nat) (lv : Value) (ts : List Lx.Tok) (sz : Nat) (dp : Bool) (w : World) (q : List Lx.Tok) (h : Cx w B lv ts sz q dp) :
   Calls Tryz.prog 103 #[.pointer (some ⟨B, 0, none⟩)] w (OutR w B lv ts sz dp (Px.orderR sz) q orderV deepR) := by
 have HX := hd h
 have hlt := h.lt
 have HB0 : Hid (Below w.heap.size w (w.alloc (.cells #[.nilIface, .bool false] 210))) := (Below.refl _ _).alloc (Nat.le_refl _) _
 have KR := Blk.new w #[.nilIface, .bool false] 210
 have HKR := hd KR
 clear h KR
 go_enter Tryz.func103, Tryz.ntmps103
 go_wp2_with fail
 refine (c_expr_any B lv ts sz dp _ q (HX.out.below HB0.out)).mono ?_
 rintro x w1 ho
 obtain ⟨hg, ⟨p, c, hr, rfl⟩ | ⟨e, q1, v, hr, rfl, hv, hx⟩⟩ := ho.cases
 · exact ⟨rfl, OutR.err (grownBy_trans (Below.grownBy HB0.out) hg) (Px.Rg.err hr)⟩
 · cases hv
   have HR1 := hd hr
   obtain ⟨et, ex, hev⟩ := ev_iface e
   have HEV := hd hev
   rw [hev]
   have hsz1 := hg.size
   simp only [World.size_alloc] at hsz1
   have HX1 := hd (hx.below ((Below.refl _ _).alloc (Nat.le_refl _) (.cells #[.iface et ex, .bool false] 210)))
   have HG1 := hd (grownBy_alloc (grownBy_trans (Below.grownBy HB0.out) hg) (.cells #[.iface et ex, .bool false] 210))
   have HK1 := hd ((HKR.out.grown hg (by omega)).alloc (.cells #[.iface et ex, .bool false] 210))
   have HL1 := hd (Blk.new w1 #[.iface et ex, .bool false] 210)
   clear hr hx hg ho HB0 HKR hev
   cases hs : Px.sees Px.kDESC q1 with
   | true =>
    have HR : Hid (Px.descR e q1 (.ok ((e, true), q1.tail))) := by show Px.descR _ _ _; unfold Px.descR; rw [if_pos hs]
    go_wp2_with fail
    refine (c_accept_yes ⟨#[68, 69, 83, 67]⟩ _ B lv ts sz q1 _ HX1.out hs (by simp)).mono ?_
    rintro x w2 ⟨rfl, hx, hg⟩
    have HX2 := hd hx
    have HG2 := hd (grownBy_trans HG1.out hg)
    have HK2 := hd (HK1.out.grown hg (by omega))
    have HL2 := hd (HL1.out.grown hg (by omega))
    have m0 : w2.cell? ⟨w.heap.size, 0, none⟩ = some .nilIface := HK2.out.cell 0
    have m1 : w2.cell? ⟨w.heap.size, 1, none⟩ = some (.bool false) := HK2.out.cell 1
    have g0 := HK2.out.free 0
    have g1 := HK2.out.free 1
    have n0 : w2.cell? ⟨w1.heap.size, 0, none⟩ = some (.iface et ex) := HL2.out.cell 0
    have n1 : w2.cell? ⟨w1.heap.size, 1, none⟩ = some (.bool false) := HL2.out.cell 1
    have f1 := HL2.out.free 1
    have d1 : ¬ w1.heap.size = w.heap.size := by omega
    have d2 : ¬ w.heap.size = w1.heap.size := by omega
    clear hx hg HX1 HG1 HK1 HL1
    go_wp2_with fail
    have KF := ((HK2.out.far ⟨w1.heap.size, 1, none⟩ (.bool true) d1).set 0 (.iface et ex)).set 1 (.bool true)
    have e0 := KF.cell 0
    have e1 := KF.cell 1
    simp at e0 e1
    refine bodyPost_ret (v := .agg #[.iface et ex, .bool true]) (by simp [results, Tryz.results103, go_sem, e0, e1]) rfl ?_
    exact OutR.ok (a := (e, true)) (grown_away (grown_away (grown_away HG2.out (by omega) 1 _) (Nat.le_refl _) 0 _) (Nat.le_refl _) 1 _) (Px.Rg.go HR1.out HR.out) (by show _ = Value.agg #[ev e, _]; rw [HEV.out]) (((HX2.out.far HX.out (by omega) 1 _).far HX.out (Nat.le_refl _) 0 _).far HX.out (Nat.le_refl _) 1 _)
   | false =>
    go_wp2_with fail
    refine (c_accept_no ⟨#[68, 69, 83, 67]⟩ _ B lv ts sz q1 _ HX1.out hs (by simp)).mono ?_
    rintro x w2 ⟨rfl, hb⟩
    have hsz2 := hb.size
    simp only [World.size_alloc] at hsz2
    have HL20 := hd (HL1.out.below hb (by simp))
    have n00 : w2.cell? ⟨w1.heap.size, 0, none⟩ = some (.iface et ex) := HL20.out.cell 0
    have n01 : w2.cell? ⟨w1.heap.size, 1, none⟩ = some (.bool false) := HL20.out.cell 1
    have f01 := HL20.out.free 1
    have HX2 := hd ((HX1.out.below hb).far HX.out (M := w1.heap.size) (by omega) 1 (.bool false))
    have HG2 := hd (grown_away (grownBy_trans HG1.out (Below.grownBy (row := some B) hb)) (M := w1.heap.size) (by omega) 1 (.bool false))
    have d1 : ¬ w1.heap.size = w.heap.size := by omega
    have d2 : ¬ w.heap.size = w1.heap.size := by omega
    have HK2 := hd ((HK1.out.below hb (by simp; omega)).far ⟨w1.heap.size, 1, none⟩ (.bool false) d1)
    have HL2 := hd (HL20.out.set 1 (.bool false))
    clear hb HX1 HG1 HK1 HL1
    cases hs2 : Px.sees Px.kASC q1 with
    | true =>
     have HR : Hid (Px.descR e q1 (.ok ((e, false), q1.tail))) := by show Px.descR _ _ _; unfold Px.descR; rw [if_neg (by simp [hs]), if_pos hs2]
     go_wp2_with fail
     refine (c_accept_yes ⟨#[65, 83, 67]⟩ _ B lv ts sz q1 _ HX2.out hs2 (by simp)).mono ?_
     rintro x w3 ⟨rfl, hx, hg⟩
     have HX3 := hd hx
     have HG3 := hd (grownBy_trans HG2.out hg)
     have HK3 := hd (HK2.out.grown hg (by omega))
     have HL3 : Hid (Blk w3 w1.heap.size #[.iface et ex, .bool false] 210) := HL2.out.grown hg (by omega)
     have m0 : w3.cell? ⟨w.heap.size, 0, none⟩ = some .nilIface := HK3.out.cell 0
     have m1 : w3.cell? ⟨w.heap.size, 1, none⟩ = some (.bool false) := HK3.out.cell 1
     have g0 := HK3.out.free 0
     have g1 := HK3.out.free 1
     have n0 : w3.cell? ⟨w1.heap.size, 0, none⟩ = some (.iface et ex) := HL3.out.cell 0
     have n1 : w3.cell? ⟨w1.heap.size, 1, none⟩ = some (.bool false) := HL3.out.cell 1
     clear hx hg HX2 HG2 HK2 HL2
     go_wp2_with fail
     have KF := (HK3.out.set 0 (.iface et ex)).set 1 (.bool false)
     have e0 := KF.cell 0
     have e1 := KF.cell 1
     simp at e0 e1
     refine bodyPost_ret (v := .agg #[.iface et ex, .bool false]) (by simp [results, Tryz.results103, go_sem, e0, e1]) rfl ?_
     exact OutR.ok (a := (e, false)) (grown_away (grown_away HG3.out (Nat.le_refl _) 0 _) (Nat.le_refl _) 1 _) (Px.Rg.go HR1.out HR.out) (by show _ = Value.agg #[ev e, _]; rw [HEV.out]) ((HX3.out.far HX.out (Nat.le_refl _) 0 _).far HX.out (Nat.le_refl _) 1 _)
    | false =>
     have HR : Hid (Px.descR e q1 (.ok ((e, false), q1))) := by show Px.descR _ _ _; unfold Px.descR; rw [if_neg (by simp [hs]), if_neg (by simp [hs2])]
     go_wp2_with fail
     refine (c_accept_no ⟨#[65, 83, 67]⟩ _ B lv ts sz q1 _ HX2.out hs2 (by simp)).mono ?_
     rintro x w3 ⟨rfl, hb3⟩
     have HX3 := hd (HX2.out.below hb3)
     have HG3 := hd (grownBy_trans HG2.out (Below.grownBy (row := some B) hb3))
     have HK3 := hd (HK2.out.below hb3 HK2.out.lt)
     have HL3 : Hid (Blk w3 w1.heap.size #[.iface et ex, .bool false] 210) := HL2.out.below hb3 HL2.out.lt
     have m0 : w3.cell? ⟨w.heap.size, 0, none⟩ = some .nilIface := HK3.out.cell 0
     have m1 : w3.cell? ⟨w.heap.size, 1, none⟩ = some (.bool false) := HK3.out.cell 1
     have g0 := HK3.out.free 0
     have g1 := HK3.out.free 1
     have n0 : w3.cell? ⟨w1.heap.size, 0, none⟩ = some (.iface et ex) := HL3.out.cell 0
     have n1 : w3.cell? ⟨w1.heap.size, 1, none⟩ = some (.bool false) := HL3.out.cell 1
     clear hb3 HX2 HG2 HK2 HL2
     go_wp2_with fail
     have KF := (HK3.out.set 0 (.iface et ex)).set 1 (.bool false)
     have e0 := KF.cell 0
     have e1 := KF.cell 1
     simp at e0 e1
     refine bodyPost_ret (v := .agg #[.iface et ex, .bool false]) (by simp [results, Tryz.results103, go_sem, e0, e1]) rfl ?_
     exact OutR.ok (a := (e, false)) (grown_away (grown_away HG3.out (Nat.le_refl _) 0 _) (Nat.le_refl _) 1 _) (Px.Rg.go HR1.out HR.out) (by show _ = Value.agg #[ev e, _]; rw [HEV.out]) ((HX3.out.far HX.out (Nat.le_refl _) 0 _).far HX.out (Nat.le_refl _) 1 _)
def colV (x : Lx.Bs × Nat) (v : Value) (_ : World) : Prop := v = .agg #[.string ⟨x.1.toArray⟩, .int .i64 (x.2 : Int)]
theorem kind_small {sz : Nat} {q q' : List Lx.Tok} {k : Nat} (h : Px.kindR sz q (.ok (k, q'))) : k ≤ 3 := by
 unfold Px.kindR at h
 split at h
 · cases h; omega
 · split at h
   · cases h; omega
   · rcases Px.seq_ok h with ⟨e, _, h2⟩ | ⟨_, _, _, h2⟩
     · cases h2
     · cases h2; omega
theorem c_column_any (B : Nat) (lv : Value) (ts : List Lx.Tok) (sz : Nat) (dp : Bool) (w : World) (q : List Lx.Tok) (h : Cx w B lv ts sz q dp) (i : Nat) (hi : i ≤ 100000) :
   Calls Tryz.prog 93 #[.pointer (some ⟨B, 0, none⟩), .int .i64 ((i : Int) + 1)] w (OutR w B lv ts sz dp (Px.colR sz i) q colV noDeep) := by
 have hf2 := fld2
 have HX := hd h
 have hlt := h.lt
 rcases ht : pk sz q with ⟨tk, tt, tp⟩
 have HT := hd ht
 have HP := hd (plc_tok ht)
 have HB0 : Hid (Below w.heap.size w (w.alloc (.cells #[.string ⟨#[]⟩, .int .i64 0] 192))) := (Below.refl _ _).alloc (Nat.le_refl _) _
 have HKR := hd (Blk.new w #[.string ⟨#[]⟩, .int .i64 0] 192)
 clear h ht
 go_enter Tryz.func93, Tryz.ntmps93
 go_wp2_with fail
 refine (c_peek_any _ B lv ts sz q dp (HX.out.below HB0.out)).mono ?_
 rintro x w0 ⟨rfl, hb⟩
 rw [HT.out]
 unfold tokA
 simp only
 have HX0 := hd ((HX.out.below HB0.out).below hb)
 have HG0 := hd (grownBy_trans (Below.grownBy (row := some B) HB0.out) (Below.grownBy (row := some B) hb))
 have HK0 := hd (HKR.out.below hb (by simp))
 clear hb HB0 HKR
 go_wp2_with fail
 refine (c_name_any w0 B lv ts sz q dp HX0.out).mono ?_
 rintro x w1 ho
 obtain ⟨hg, ⟨p, c, hr, rfl⟩ | ⟨n, q1, v, hr, rfl, hv, hx⟩⟩ := ho.cases
 · exact ⟨rfl, OutR.err (grownBy_trans HG0.out hg) (Px.Rg.err hr)⟩
 · cases hv
   have HR1 := hd hr
   have HX1 : Hid (Cx w1 B lv ts sz q1 dp) := hx
   have HG1 := hd (grownBy_trans HG0.out hg)
   have HK1 := hd (HK0.out.grown hg (by omega))
   clear hr hx hg ho HX0 HG0 HK0
   by_cases h6 : 6 ≤ i
   · have h6' : (6 : Int) < (i : Int) + 1 := by omega
     have HR : Hid (Px.colR sz i q (.error (tp, 4))) := Px.Rg.go HR1.out (by rw [if_pos h6, HP.out])
     go_wp2_with fail
     refine (c_fail_any _ _ tp 4).mono ?_
     rintro x w2 ⟨rfl, rfl⟩
     exact ⟨rfl, OutR.err HG1.out HR.out⟩
   · have h6' : ¬ (6 : Int) < (i : Int) + 1 := by omega
     have HR : Hid (∀ r, Px.Rg.seq (Px.kindR sz) (Px.nullR sz n) q1 r → Px.colR sz i q r) := fun r hr => Px.Rg.go HR1.out (by rw [if_neg h6]; exact hr)
     go_wp2_with fail
     refine (c_columnType_any B lv ts sz dp w1 q1 HX1.out).mono ?_
     rintro x w2 ho
     obtain ⟨hg, ⟨p, c, hr, rfl⟩ | ⟨k, q2, v, hr, rfl, hv, hx⟩⟩ := ho.cases
     · exact ⟨rfl, OutR.err (grownBy_trans HG1.out hg) (HR.out _ (Px.Rg.err hr))⟩
     · cases hv
       have hk3 := kind_small hr
       have HR2 := hd hr
       have hsz1 := (grownBy_trans HG1.out hg).size
       have hszw : w.heap.size < w2.heap.size := by have := HK1.out.lt; have := hg.size; omega
       have HX2 := hd (Cx.below (w' := w2.alloc (.cells #[.string ⟨n.toArray⟩, .int .i64 (k : Int)] 192)) hx ((Below.refl _ _).alloc (Nat.le_refl _) _))
       have HG2 := hd (grownBy_alloc (grownBy_trans HG1.out hg) (.cells #[.string ⟨n.toArray⟩, .int .i64 (k : Int)] 192))
       have HK2 := hd ((HK1.out.grown hg (by omega)).alloc (.cells #[.string ⟨n.toArray⟩, .int .i64 (k : Int)] 192))
       have HL2 := hd (Blk.new w2 #[.string ⟨n.toArray⟩, .int .i64 (k : Int)] 192)
       have d1 : ¬ w2.heap.size = w.heap.size := by omega
       have d2 : ¬ w.heap.size = w2.heap.size := by omega
       clear hr hx hg ho HG1 HK1 HX1
       cases hs : Px.sees Px.kNOT q2 with
       | false =>
        have HRN : Hid (Px.nullR sz n k q2 (.ok ((n, k), q2))) := by show Px.nullR _ _ _ _ _; unfold Px.nullR; rw [if_neg (by simp [hs])]
        go_wp2_with fail
        refine (c_accept_no ⟨#[78, 79, 84]⟩ _ B lv ts sz q2 _ HX2.out hs (by simp)).mono ?_
        rintro x w3 ⟨rfl, hb3⟩
        have HX3 := hd (HX2.out.below hb3)
        have HG3 := hd (grownBy_trans HG2.out (Below.grownBy (row := some B) hb3))
        have HK3 := hd (HK2.out.below hb3 HK2.out.lt)
        have HL3 := hd (HL2.out.below hb3 HL2.out.lt)
        have m0 : w3.cell? ⟨w.heap.size, 0, none⟩ = some (.string ⟨#[]⟩) := HK3.out.cell 0
        have m1 : w3.cell? ⟨w.heap.size, 1, none⟩ = some (.int .i64 0) := HK3.out.cell 1
        have g0 := HK3.out.free 0
        have g1 := HK3.out.free 1
        have n0 : w3.cell? ⟨w2.heap.size, 0, none⟩ = some (.string ⟨n.toArray⟩) := HL3.out.cell 0
        have n1 : w3.cell? ⟨w2.heap.size, 1, none⟩ = some (.int .i64 (k : Int)) := HL3.out.cell 1
        clear hb3 HX2 HG2 HK2 HL2
        go_wp2_with fail
        have KF := (HK3.out.set 0 (.string ⟨n.toArray⟩)).set 1 (.int .i64 (k : Int))
        have e0 := KF.cell 0
        have e1 := KF.cell 1
        simp at e0 e1
        refine bodyPost_ret (v := .agg #[.string ⟨n.toArray⟩, .int .i64 (k : Int)]) (by simp [results, Tryz.results93, go_sem, e0, e1]) rfl ?_
        exact OutR.ok (a := (n, k)) (grown_away (grown_away HG3.out (Nat.le_refl _) 0 _) (Nat.le_refl _) 1 _) (HR.out _ (Px.Rg.go HR2.out HRN.out)) rfl ((HX3.out.far HX.out (Nat.le_refl _) 0 _).far HX.out (Nat.le_refl _) 1 _)
       | true =>
        have HRN : Hid (∀ r, Px.Rg.seq (Px.mustR sz Px.kNULL) (fun _ => Px.Rg.ret (n, k + 4)) q2.tail r → Px.nullR sz n k q2 r) := fun r hr => by unfold Px.nullR; rw [if_pos hs]; exact hr
        go_wp2_with fail
        refine (c_accept_yes ⟨#[78, 79, 84]⟩ _ B lv ts sz q2 _ HX2.out hs (by simp)).mono ?_
        rintro x w3 ⟨rfl, hx3, hg3⟩
        have HX3 := hd hx3
        have HG3 := hd (grownBy_trans HG2.out hg3)
        have HK3 := hd (HK2.out.grown hg3 (by omega))
        have HL3 := hd (HL2.out.grown hg3 (by have := HX2.out.lt; have := HX.out.lt; omega))
        clear hx3 hg3 HX2 HG2 HK2 HL2
        go_wp2_with fail
        refine (c_expect_new ⟨#[78, 85, 76, 76]⟩ w3 B lv ts sz q2.tail _ HX3.out (by simp)).mono ?_
        rintro x w4 ho
        obtain ⟨hg, ⟨p, c, hr, rfl⟩ | ⟨_, q4, v, hr, rfl, hv, hx⟩⟩ := ho.cases
        · exact ⟨rfl, OutR.err (grownBy_trans HG3.out hg) (HR.out _ (Px.Rg.go HR2.out (HRN.out _ (Px.Rg.err hr))))⟩
        · cases hv
          have HR4 := hd hr
          have HX4 := hd hx
          have HG4 := hd (grownBy_trans HG3.out hg)
          have HK4 := hd (HK3.out.grown hg (by omega))
          have HL4 := hd (HL3.out.grown hg (by omega))
          have m0 : w4.cell? ⟨w.heap.size, 0, none⟩ = some (.string ⟨#[]⟩) := HK4.out.cell 0
          have m1 : w4.cell? ⟨w.heap.size, 1, none⟩ = some (.int .i64 0) := HK4.out.cell 1
          have g0 := HK4.out.free 0
          have g1 := HK4.out.free 1
          have n0 : w4.cell? ⟨w2.heap.size, 0, none⟩ = some (.string ⟨n.toArray⟩) := HL4.out.cell 0
          have n1 : w4.cell? ⟨w2.heap.size, 1, none⟩ = some (.int .i64 (k : Int)) := HL4.out.cell 1
          have f1 := HL4.out.free 1
          have hcast : ((k + 4 : Nat) : Int) = (k : Int) + 4 := by omega
          clear hr hx hg ho HX3 HG3 HK3 HL3
          go_wp2_with fail
          have KF := ((HK4.out.far ⟨w2.heap.size, 1, none⟩ (.int .i64 ((k : Int) + 4)) d1).set 0 (.string ⟨n.toArray⟩)).set 1 (.int .i64 ((k : Int) + 4))
          have e0 := KF.cell 0
          have e1 := KF.cell 1
          simp at e0 e1
          refine bodyPost_ret (v := .agg #[.string ⟨n.toArray⟩, .int .i64 ((k : Int) + 4)]) (by simp [results, Tryz.results93, go_sem, e0, e1]) rfl ?_
          exact OutR.ok (a := (n, k + 4)) (grown_away (grown_away (grown_away HG4.out (by omega) 1 _) (Nat.le_refl _) 0 _) (Nat.le_refl _) 1 _) (HR.out _ (Px.Rg.go HR2.out (HRN.out _ (Px.Rg.go HR4.out rfl)))) (by show _ = Value.agg #[_, .int .i64 ((k + 4 : Nat) : Int)]; rw [hcast]) (((HX4.out.far HX.out (by omega) 1 _).far HX.out (Nat.le_refl _) 0 _).far HX.out (Nat.le_refl _) 1 _)
theorem Cx.kept {w w' w0 : World} {B : Nat} {lv : Value} {ts : List Lx.Tok} {sz : Nat} {q q0 : List Lx.Tok} {dp dp0 : Bool} {row : Option Nat} (h : Cx w B lv ts sz q dp) (h0 : Cx w0 B lv ts sz q0 dp0) (hg : w.grownBy w' row) (hrow : ∀ o, row = some o → w0.heap.size ≤ o) : Cx w' B lv ts sz q dp := by
 have hB := h0.lt
 have hL := h0.own_lt
 obtain ⟨k, hk, h⟩ := h
 have hlow := h.low
 have hg' : w.grownBy w' (some (match row with | none => w.heap.size | some o => o)) := by
  cases row with
  | none => exact ⟨hg.os, hg.tape, hg.output, hg.size, fun k hk _ => hg.block k hk (by simp)⟩
  | some o => exact hg
 obtain ⟨b, ho⟩ := h.own
 have hblk : Blk w' B #[lv, .int .i64 (k : Int), .int .i64 (sz : Int), .bool dp] 66 := by
  have := h.blk
  unfold Blk at this ⊢
  rw [hg.block B h.blk.lt (by
   intro e
   have := hrow B e.symm
   omega)]
  exact this
 refine ⟨k, hk, hblk, ⟨b, ho.kept hg ?_⟩, h.ne, h.toks, h.len, h.size, h.le, h.env.grown hg' ?_, h.low⟩
 · cases hv : lv.ownBlock with
   | none => simp
   | some g =>
    right
    intro e
    have := hrow g e.symm
    have := hL g hv
    omega
 · cases row with
   | none => have := h.blk.lt; simp only; omega
   | some o => have := hrow o rfl; simp only; omega
theorem any_snoc {α : Type} (dv : α → Bool) (l : List α) (a : α) (dp : Bool) : ((l ++ [a]).any dv || dp) = (dv a || (l.any dv || dp)) := by
 simp only [List.any_append, List.any_cons, List.any_nil, Bool.or_false]
 cases dv a <;> cases l.any dv <;> cases dp <;> rfl
theorem Tryz.info85 : (Tryz.prog.info? 85).map (fun i => (i.zero, i.size, i.bytes)) = some (some .nilIface, 1, 16) := by kernel_rfl
def lsV {α : Type} (B : Nat) (T : TypeId) (size : Nat) (cl : α → List Value) (l : List α) (v : Value) (w : World) : Prop := w.ownsRow (B + 1) T size v l.length (l.flatMap cl)
def exC (e : Px.E) : List Value := [ev e]
def setC (x : Lx.Bs × Px.E) : List Value := [.string ⟨x.1.toArray⟩, ev x.2]
def itemC : Option Px.E → List Value
 | none => [.bool true, .nilIface]
 | some e => [.bool false, ev e]
def orderC (x : Px.E × Bool) : List Value := [ev x.1, .bool x.2]
def colC (x : Lx.Bs × Nat) : List Value := [.string ⟨x.1.toArray⟩, .int .i64 (x.2 : Int)]
theorem flat_snoc {α : Type} (cl : α → List Value) (l : List α) (a : α) : (l ++ [a]).flatMap cl = l.flatMap cl ++ cl a := by simp
theorem ownBase {w : World} {base base' : Nat} {e : TypeId} {size : Nat} {v : Value} {n : Nat} {xs : List Value} (h : w.ownsRow base e size v n xs) (hb : base' ≤ base) : w.ownsRow base' e size v n xs := by
 refine ⟨h.1, ?_⟩
 rcases h.2 with hn | ⟨g, cap, cur, hv, hg, r⟩
 · exact .inl hn
 · exact .inr ⟨g, cap, cur, hv, by omega, r⟩
theorem one_news (w : World) (a : Value) (t : TypeId) : ∀ j u, ([a] : List Value)[j]? = some u → (w.alloc (.cells #[a] t)).cell? ((⟨w.heap.size, 0, none⟩ : Addr).add j) = some u := by
 intro j u hu
 rw [Addr.add_lit, Nat.zero_add, (Blk.new w #[a] t).cell]
 simpa using hu
theorem two_news (w : World) (a b : Value) (t : TypeId) : ∀ j u, ([a, b] : List Value)[j]? = some u → (w.alloc (.cells #[a, b] t)).cell? ((⟨w.heap.size, 0, none⟩ : Addr).add j) = some u := by
 intro j u hu
 rw [Addr.add_lit, Nat.zero_add, (Blk.new w #[a, b] t).cell]
 simpa using hu
theorem own_new1 (w : World) (a : Value) (t : TypeId) : (w.alloc (.cells #[a] t)).ownsRow w.heap.size t 1 (.slice (some ⟨w.heap.size, 0, none⟩) 1 1) 1 [a] :=
 ⟨by simp, .inr ⟨w.heap.size, 1, #[a], rfl, Nat.le_refl _, heap_alloc_new w _, by omega, by unfold maxLen; omega, by simp, by simp⟩⟩
theorem own_new2 (w : World) (a b : Value) (t : TypeId) : (w.alloc (.cells #[a, b] t)).ownsRow w.heap.size t 2 (.slice (some ⟨w.heap.size, 0, none⟩) 1 1) 1 [a, b] :=
 ⟨by simp, .inr ⟨w.heap.size, 1, #[a, b], rfl, Nat.le_refl _, heap_alloc_new w _, by omega, by unfold maxLen; omega, by simp, by simp⟩⟩
theorem c_listExpr_any (B : Nat) (lv : Value) (ts : List Lx.Tok) (sz : Nat) (dp : Bool) (w : World) (q : List Lx.Tok) (h : Cx w B lv ts sz q dp) :
   Calls Tryz.prog 149 #[.pointer (some ⟨B, 0, none⟩), .func (.func 150) #[.pointer (some ⟨B, 0, none⟩)] #[]] w (OutR w B lv ts sz dp (Px.Sep fun _ => Px.exR sz) q (lsV B 85 1 exC) fun l => l.any deepE) := by
 obtain ⟨i0, hi, hz0, hz1, hz2⟩ := info_parts Tryz.info85
 have HX := hd h
 have hlt := h.lt
 have hq2000 : q.length ≤ 2000 := by
  obtain ⟨k, rfl, h⟩ := h
  have := h.len
  simp; omega
 clear h
 go_enter Tryz.func149, Tryz.ntmps149
 go_wp2_with fail
 refine (c_expr_any B lv ts sz dp w q HX.out).mono ?_
 rintro x w1 ho
 obtain ⟨hg, ⟨p, c, hr, rfl⟩ | ⟨a, q1, v, hr, rfl, hv, hx⟩⟩ := ho.cases
 · exact ⟨rfl, OutR.err hg (Px.Sep.err0 hr)⟩
 · have HR1 := hd (Px.Reach.first (x := fun _ => Px.exR sz) hr)
   have HX1 := hd hx
   have HG1 := hd hg
   have hs1 := hg.size
   clear hr hx hg ho
   cases hv
   obtain ⟨et, ex, hev⟩ := ev_iface a
   have HEV := hd hev
   rw [hev]
   clear hev
   have HO1 := hd (ownBase (own_new1 w1 (.iface et ex) 85) hs1)
   have HX1' := hd (HX1.out.below ((Below.refl _ _).alloc (Nat.le_refl _) (.cells #[.iface et ex] 85)))
   have HG1' := hd (grownBy_alloc HG1.out (.cells #[.iface et ex] 85))
   clear HX1 HG1
   go_wp2_with fail
   go_loopw [5] (fun v wr => ∃ (l : List Px.E) (q1 : List Lx.Tok), Hid (wr.ownsRow w.heap.size 85 1 v l.length (l.flatMap exC)) ∧ Hid (Cx wr B lv ts sz q1 (l.any deepE || dp)) ∧ Hid (w.grownBy wr (some B)) ∧ Hid (Px.Reach (fun _ => Px.exR sz) q l q1)) (fun _ wr => ts.length - atC wr B)
   case atStart => exact ⟨[a], q1, (by have := HO1.out; simp only [List.flatMap_cons, List.flatMap_nil, List.append_nil, List.length_singleton, exC]; rw [HEV.out]; exact this), (by show Cx _ _ _ _ _ _ _; have := HX1'.out; simpa using this), HG1', HR1⟩
   case round =>
    clear HR1 HX1' HG1' HO1
    obtain ⟨l, q1, HO, HX1, HG1, HRe⟩ := hrel
    have hll : q1.length + l.length ≤ q.length + 1 := HRe.out.len (fun _ => Px.ex_shrinks sz)
    cases hs : Px.sees Px.gComma q1 with
    | false =>
     go_wp2_with fail
     refine (c_accept_no ⟨#[44]⟩ wr B lv ts sz q1 _ HX1.out hs (by simp)).mono ?_
     rintro x w2 ⟨rfl, hb⟩
     have HO2 := hd (owns_below HO.out hb)
     have HB := hd hb
     clear hb
     go_wp2_with fail
     go_ret
     exact OutR.ok (a := l) (grownBy_trans HG1.out (Below.grownBy HB.out)) (Px.Sep.stop HRe.out hs) (ownBase HO2.out (by omega)) (HX1.out.below HB.out)
    | true =>
     have hcl := Px.sees_len hs
     go_wp2_with fail
     refine (c_accept_yes ⟨#[44]⟩ wr B lv ts sz q1 _ HX1.out hs (by simp)).mono ?_
     rintro x w2 ⟨rfl, hx2, hg2⟩
     have HX2 := hd hx2
     have HG2 := hd (grownBy_trans HG1.out hg2)
     have HO2 := hd (HO.out.kept hg2 (by
      cases hv : u5.ownBlock with
      | none => exact .inl rfl
      | some g => right; have := (HO.out.lt g hv).1; simp; omega))
     have hl1 := HX1.out.atC
     clear hx2 hg2 HG1 HO
     go_wp2_with fail
     refine (c_expr_any B lv ts sz _ w2 q1.tail HX2.out).mono ?_
     rintro x w3 ho
     obtain ⟨hg, ⟨p, c, hr, rfl⟩ | ⟨a, q2, v, hr, rfl, hv, hx⟩⟩ := ho.cases
     · exact ⟨rfl, OutR.err (grownBy_trans HG2.out hg) (Px.Sep.err HRe.out hs hr)⟩
     · have HR3 := hd (HRe.out.step hs hr)
       have hsh := Px.ex_shrinks sz _ _ _ hr
       have HX3 := hd hx
       have HG3 := hd (grownBy_trans HG2.out hg)
       have HO3 := hd (HO2.out.kept hg (by
        cases hv : u5.ownBlock with
        | none => exact .inl rfl
        | some g => right; have := (HO2.out.lt g hv).1; simp; omega))
       have hs3 := HG3.out.size
       clear hr hx hg ho HG2 HO2 HX1 HX2
       cases hv
       obtain ⟨et, ex, hev⟩ := ev_iface a
       have HEV := hd hev
       rw [hev]
       clear hev
       have HX3' := hd (HX3.out.below ((Below.refl _ _).alloc (Nat.le_refl _) (.cells #[.iface et ex] 85)))
       have HG3' := hd (grownBy_alloc HG3.out (.cells #[.iface et ex] 85))
       clear HX3 HG3
       go_wp2_with (first
        | (at_builtin; refine wpList_append_own _ rfl _ _ 148 rfl w.heap.size 85 i0 .nilIface 1 16 Tryz.underlying148 hi hz0 hz1 hz2 rfl (by decide) _ _ _ rfl (HO3.out.alloc _) ⟨w3.heap.size, 0, none⟩ 1 1 [.iface et ex] rfl rfl ?c1 ?c2 ?c3 ?c4 ?c5 ?_)
        | fail)
       case c1 => exact one_news w3 (.iface et ex) 85
       case c2 => intro u hu; simp at hu; subst hu; rfl
       case c3 => unfold maxLen; omega
       case c4 => omega
       case c5 => simp; omega
       intro v' w4 hown' hgrow _
       have HO4 : Hid (w4.ownsRow w.heap.size 85 1 v' (l ++ [a]).length ((l ++ [a]).flatMap exC)) := by
        rw [List.length_append, List.length_singleton, flat_snoc]
        show World.ownsRow _ _ _ _ _ _ _
        simp only [exC]; rw [HEV.out]; exact hown'
       have HX4 := hd (HX3'.out.kept HX.out hgrow (fun o ho => (HO3.out.lt o ho).1))
       have HG4 : Hid (w.grownBy w4 (some B)) := by
        refine ⟨hgrow.os.trans HG3'.out.os, hgrow.tape.trans HG3'.out.tape, hgrow.output.trans HG3'.out.output, Nat.le_trans HG3'.out.size hgrow.size, fun k hk hne => ?_⟩
        rw [hgrow.block k (Nat.lt_of_lt_of_le hk HG3'.out.size) (by
         intro e
         have := (HO3.out.lt k e.symm).1
         omega)]
        exact HG3'.out.block k hk hne
       have hl4 := HX4.out.atC
       clear hown' hgrow HX3' HG3' HO3
       go_wp2_with fail
       go_roundw
       case rel => exact ⟨l ++ [a], q2, HO4, (by have := HX4.out; rw [any_snoc]; exact this), HG4, HR3⟩
       case measure => omega
theorem Tryz.info202 : (Tryz.prog.info? 202).map (fun i => (i.zero, i.size, i.bytes)) = some (some (.agg #[.string ⟨#[]⟩, .nilIface]), 2, 32) := by kernel_rfl
theorem c_listSet_any (B : Nat) (lv : Value) (ts : List Lx.Tok) (sz : Nat) (dp : Bool) (w : World) (q : List Lx.Tok) (h : Cx w B lv ts sz q dp) :
   Calls Tryz.prog 98 #[.pointer (some ⟨B, 0, none⟩), .func (.func 99) #[.pointer (some ⟨B, 0, none⟩)] #[]] w (OutR w B lv ts sz dp (Px.Sep fun _ => Px.setR sz) q (lsV B 202 2 setC) fun l => l.any deepS) := by
 obtain ⟨i0, hi, hz0, hz1, hz2⟩ := info_parts Tryz.info202
 have HX := hd h
 have hlt := h.lt
 have hq2000 : q.length ≤ 2000 := by
  obtain ⟨k, rfl, h⟩ := h
  have := h.len
  simp; omega
 clear h
 go_enter Tryz.func98, Tryz.ntmps98
 go_wp2_with fail
 refine (c_set_any B lv ts sz dp w q HX.out).mono ?_
 rintro x w1 ho
 obtain ⟨hg, ⟨p, c, hr, rfl⟩ | ⟨a, q1, v, hr, rfl, hv, hx⟩⟩ := ho.cases
 · exact ⟨rfl, OutR.err hg (Px.Sep.err0 hr)⟩
 · have HR1 := hd (Px.Reach.first (x := fun _ => Px.setR sz) hr)
   have HX1 := hd hx
   have HG1 := hd hg
   have hs1 := hg.size
   clear hr hx hg ho
   obtain ⟨n, e⟩ := a
   cases hv
   obtain ⟨et, ex, hev⟩ := ev_iface e
   have HEV := hd hev
   simp only [hev]
   clear hev
   have HO1 := hd (ownBase (own_new2 w1 (.string ⟨n.toArray⟩) (.iface et ex) 202) hs1)
   have HX1' := hd (HX1.out.below ((Below.refl _ _).alloc (Nat.le_refl _) (.cells #[.string ⟨n.toArray⟩, .iface et ex] 202)))
   have HG1' := hd (grownBy_alloc HG1.out (.cells #[.string ⟨n.toArray⟩, .iface et ex] 202))
   clear HX1 HG1
   go_wp2_with fail
   go_loopw [5] (fun v wr => ∃ (l : List (Lx.Bs × Px.E)) (q1 : List Lx.Tok), Hid (wr.ownsRow w.heap.size 202 2 v l.length (l.flatMap setC)) ∧ Hid (Cx wr B lv ts sz q1 (l.any deepS || dp)) ∧ Hid (w.grownBy wr (some B)) ∧ Hid (Px.Reach (fun _ => Px.setR sz) q l q1)) (fun _ wr => ts.length - atC wr B)
   case atStart => exact ⟨[(n, e)], q1, (by have := HO1.out; simp only [List.flatMap_cons, List.flatMap_nil, List.append_nil, List.length_singleton, setC]; rw [HEV.out]; exact this), (by show Cx _ _ _ _ _ _ _; have := HX1'.out; simpa using this), HG1', HR1⟩
   case round =>
    clear HR1 HX1' HG1' HO1
    obtain ⟨l, q1, HO, HX1, HG1, HRe⟩ := hrel
    have hll : q1.length + l.length ≤ q.length + 1 := HRe.out.len (fun _ => Px.set_shrinks sz)
    cases hs : Px.sees Px.gComma q1 with
    | false =>
     go_wp2_with fail
     refine (c_accept_no ⟨#[44]⟩ wr B lv ts sz q1 _ HX1.out hs (by simp)).mono ?_
     rintro x w2 ⟨rfl, hb⟩
     have HO2 := hd (owns_below HO.out hb)
     have HB := hd hb
     clear hb
     go_wp2_with fail
     go_ret
     exact OutR.ok (a := l) (grownBy_trans HG1.out (Below.grownBy HB.out)) (Px.Sep.stop HRe.out hs) (ownBase HO2.out (by omega)) (HX1.out.below HB.out)
    | true =>
     have hcl := Px.sees_len hs
     go_wp2_with fail
     refine (c_accept_yes ⟨#[44]⟩ wr B lv ts sz q1 _ HX1.out hs (by simp)).mono ?_
     rintro x w2 ⟨rfl, hx2, hg2⟩
     have HX2 := hd hx2
     have HG2 := hd (grownBy_trans HG1.out hg2)
     have HO2 := hd (HO.out.kept hg2 (by
      cases hv : u5.ownBlock with
      | none => exact .inl rfl
      | some g => right; have := (HO.out.lt g hv).1; simp; omega))
     have hl1 := HX1.out.atC
     clear hx2 hg2 HG1 HO
     go_wp2_with fail
     refine (c_set_any B lv ts sz _ w2 q1.tail HX2.out).mono ?_
     rintro x w3 ho
     obtain ⟨hg, ⟨p, c, hr, rfl⟩ | ⟨a, q2, v, hr, rfl, hv, hx⟩⟩ := ho.cases
     · exact ⟨rfl, OutR.err (grownBy_trans HG2.out hg) (Px.Sep.err HRe.out hs hr)⟩
     · have HR3 := hd (HRe.out.step hs hr)
       have hsh := Px.set_shrinks sz _ _ _ hr
       have HX3 := hd hx
       have HG3 := hd (grownBy_trans HG2.out hg)
       have HO3 := hd (HO2.out.kept hg (by
        cases hv : u5.ownBlock with
        | none => exact .inl rfl
        | some g => right; have := (HO2.out.lt g hv).1; simp; omega))
       have hs3 := HG3.out.size
       clear hr hx hg ho HG2 HO2 HX1 HX2
       obtain ⟨n, e⟩ := a
       cases hv
       obtain ⟨et, ex, hev⟩ := ev_iface e
       have HEV := hd hev
       simp only [hev]
       clear hev
       have HX3' := hd (HX3.out.below ((Below.refl _ _).alloc (Nat.le_refl _) (.cells #[.string ⟨n.toArray⟩, .iface et ex] 202)))
       have HG3' := hd (grownBy_alloc HG3.out (.cells #[.string ⟨n.toArray⟩, .iface et ex] 202))
       clear HX3 HG3
       go_wp2_with (first
        | (at_builtin; refine wpList_append_own _ rfl _ _ 89 rfl w.heap.size 202 i0 (.agg #[.string ⟨#[]⟩, .nilIface]) 2 32 Tryz.underlying89 hi hz0 hz1 hz2 rfl (by decide) _ _ _ rfl (HO3.out.alloc _) ⟨w3.heap.size, 0, none⟩ 1 1 [.string ⟨n.toArray⟩, .iface et ex] rfl rfl ?c1 ?c2 ?c3 ?c4 ?c5 ?_)
        | fail)
       case c1 => exact two_news w3 (.string ⟨n.toArray⟩) (.iface et ex) 202
       case c2 => intro u hu; simp at hu; rcases hu with rfl | rfl <;> rfl
       case c3 => unfold maxLen; omega
       case c4 => omega
       case c5 => simp; omega
       intro v' w4 hown' hgrow _
       have HO4 : Hid (w4.ownsRow w.heap.size 202 2 v' (l ++ [(n, e)]).length ((l ++ [(n, e)]).flatMap setC)) := by
        rw [List.length_append, List.length_singleton, flat_snoc]
        show World.ownsRow _ _ _ _ _ _ _
        simp only [setC]; rw [HEV.out]; exact hown'
       have HX4 := hd (HX3'.out.kept HX.out hgrow (fun o ho => (HO3.out.lt o ho).1))
       have HG4 : Hid (w.grownBy w4 (some B)) := by
        refine ⟨hgrow.os.trans HG3'.out.os, hgrow.tape.trans HG3'.out.tape, hgrow.output.trans HG3'.out.output, Nat.le_trans HG3'.out.size hgrow.size, fun k hk hne => ?_⟩
        rw [hgrow.block k (Nat.lt_of_lt_of_le hk HG3'.out.size) (by
         intro e
         have := (HO3.out.lt k e.symm).1
         omega)]
        exact HG3'.out.block k hk hne
       have hl4 := HX4.out.atC
       clear hown' hgrow HX3' HG3' HO3
       go_wp2_with fail
       go_roundw
       case rel => exact ⟨l ++ [(n, e)], q2, HO4, (by have := HX4.out; rw [any_snoc]; exact this), HG4, HR3⟩
       case measure => omega
theorem Tryz.info210 : (Tryz.prog.info? 210).map (fun i => (i.zero, i.size, i.bytes)) = some (some (.agg #[.nilIface, .bool false]), 2, 24) := by kernel_rfl
theorem c_listOrder_any (B : Nat) (lv : Value) (ts : List Lx.Tok) (sz : Nat) (dp : Bool) (w : World) (q : List Lx.Tok) (h : Cx w B lv ts sz q dp) :
   Calls Tryz.prog 102 #[.pointer (some ⟨B, 0, none⟩), .func (.func 103) #[.pointer (some ⟨B, 0, none⟩)] #[]] w (OutR w B lv ts sz dp (Px.Sep fun _ => Px.orderR sz) q (lsV B 210 2 orderC) fun l => l.any deepR) := by
 obtain ⟨i0, hi, hz0, hz1, hz2⟩ := info_parts Tryz.info210
 have HX := hd h
 have hlt := h.lt
 have hq2000 : q.length ≤ 2000 := by
  obtain ⟨k, rfl, h⟩ := h
  have := h.len
  simp; omega
 clear h
 go_enter Tryz.func102, Tryz.ntmps102
 go_wp2_with fail
 refine (c_order_any B lv ts sz dp w q HX.out).mono ?_
 rintro x w1 ho
 obtain ⟨hg, ⟨p, c, hr, rfl⟩ | ⟨a, q1, v, hr, rfl, hv, hx⟩⟩ := ho.cases
 · exact ⟨rfl, OutR.err hg (Px.Sep.err0 hr)⟩
 · have HR1 := hd (Px.Reach.first (x := fun _ => Px.orderR sz) hr)
   have HX1 := hd hx
   have HG1 := hd hg
   have hs1 := hg.size
   clear hr hx hg ho
   obtain ⟨e, b⟩ := a
   cases hv
   obtain ⟨et, ex, hev⟩ := ev_iface e
   have HEV := hd hev
   simp only [hev]
   clear hev
   have HO1 := hd (ownBase (own_new2 w1 (.iface et ex) (.bool b) 210) hs1)
   have HX1' := hd (HX1.out.below ((Below.refl _ _).alloc (Nat.le_refl _) (.cells #[.iface et ex, .bool b] 210)))
   have HG1' := hd (grownBy_alloc HG1.out (.cells #[.iface et ex, .bool b] 210))
   clear HX1 HG1
   go_wp2_with fail
   go_loopw [5] (fun v wr => ∃ (l : List (Px.E × Bool)) (q1 : List Lx.Tok), Hid (wr.ownsRow w.heap.size 210 2 v l.length (l.flatMap orderC)) ∧ Hid (Cx wr B lv ts sz q1 (l.any deepR || dp)) ∧ Hid (w.grownBy wr (some B)) ∧ Hid (Px.Reach (fun _ => Px.orderR sz) q l q1)) (fun _ wr => ts.length - atC wr B)
   case atStart => exact ⟨[(e, b)], q1, (by have := HO1.out; simp only [List.flatMap_cons, List.flatMap_nil, List.append_nil, List.length_singleton, orderC]; rw [HEV.out]; exact this), (by show Cx _ _ _ _ _ _ _; have := HX1'.out; simpa using this), HG1', HR1⟩
   case round =>
    clear HR1 HX1' HG1' HO1
    obtain ⟨l, q1, HO, HX1, HG1, HRe⟩ := hrel
    have hll : q1.length + l.length ≤ q.length + 1 := HRe.out.len (fun _ => Px.order_shrinks sz)
    cases hs : Px.sees Px.gComma q1 with
    | false =>
     go_wp2_with fail
     refine (c_accept_no ⟨#[44]⟩ wr B lv ts sz q1 _ HX1.out hs (by simp)).mono ?_
     rintro x w2 ⟨rfl, hb⟩
     have HO2 := hd (owns_below HO.out hb)
     have HB := hd hb
     clear hb
     go_wp2_with fail
     go_ret
     exact OutR.ok (a := l) (grownBy_trans HG1.out (Below.grownBy HB.out)) (Px.Sep.stop HRe.out hs) (ownBase HO2.out (by omega)) (HX1.out.below HB.out)
    | true =>
     have hcl := Px.sees_len hs
     go_wp2_with fail
     refine (c_accept_yes ⟨#[44]⟩ wr B lv ts sz q1 _ HX1.out hs (by simp)).mono ?_
     rintro x w2 ⟨rfl, hx2, hg2⟩
     have HX2 := hd hx2
     have HG2 := hd (grownBy_trans HG1.out hg2)
     have HO2 := hd (HO.out.kept hg2 (by
      cases hv : u5.ownBlock with
      | none => exact .inl rfl
      | some g => right; have := (HO.out.lt g hv).1; simp; omega))
     have hl1 := HX1.out.atC
     clear hx2 hg2 HG1 HO
     go_wp2_with fail
     refine (c_order_any B lv ts sz _ w2 q1.tail HX2.out).mono ?_
     rintro x w3 ho
     obtain ⟨hg, ⟨p, c, hr, rfl⟩ | ⟨a, q2, v, hr, rfl, hv, hx⟩⟩ := ho.cases
     · exact ⟨rfl, OutR.err (grownBy_trans HG2.out hg) (Px.Sep.err HRe.out hs hr)⟩
     · have HR3 := hd (HRe.out.step hs hr)
       have hsh := Px.order_shrinks sz _ _ _ hr
       have HX3 := hd hx
       have HG3 := hd (grownBy_trans HG2.out hg)
       have HO3 := hd (HO2.out.kept hg (by
        cases hv : u5.ownBlock with
        | none => exact .inl rfl
        | some g => right; have := (HO2.out.lt g hv).1; simp; omega))
       have hs3 := HG3.out.size
       clear hr hx hg ho HG2 HO2 HX1 HX2
       obtain ⟨e, b⟩ := a
       cases hv
       obtain ⟨et, ex, hev⟩ := ev_iface e
       have HEV := hd hev
       simp only [hev]
       clear hev
       have HX3' := hd (HX3.out.below ((Below.refl _ _).alloc (Nat.le_refl _) (.cells #[.iface et ex, .bool b] 210)))
       have HG3' := hd (grownBy_alloc HG3.out (.cells #[.iface et ex, .bool b] 210))
       clear HX3 HG3
       go_wp2_with (first
        | (at_builtin; refine wpList_append_own _ rfl _ _ 94 rfl w.heap.size 210 i0 (.agg #[.nilIface, .bool false]) 2 24 Tryz.underlying94 hi hz0 hz1 hz2 rfl (by decide) _ _ _ rfl (HO3.out.alloc _) ⟨w3.heap.size, 0, none⟩ 1 1 [.iface et ex, .bool b] rfl rfl ?c1 ?c2 ?c3 ?c4 ?c5 ?_)
        | fail)
       case c1 => exact two_news w3 (.iface et ex) (.bool b) 210
       case c2 => intro u hu; simp at hu; rcases hu with rfl | rfl <;> rfl
       case c3 => unfold maxLen; omega
       case c4 => omega
       case c5 => simp; omega
       intro v' w4 hown' hgrow _
       have HO4 : Hid (w4.ownsRow w.heap.size 210 2 v' (l ++ [(e, b)]).length ((l ++ [(e, b)]).flatMap orderC)) := by
        rw [List.length_append, List.length_singleton, flat_snoc]
        show World.ownsRow _ _ _ _ _ _ _
        simp only [orderC]; rw [HEV.out]; exact hown'
       have HX4 := hd (HX3'.out.kept HX.out hgrow (fun o ho => (HO3.out.lt o ho).1))
       have HG4 : Hid (w.grownBy w4 (some B)) := by
        refine ⟨hgrow.os.trans HG3'.out.os, hgrow.tape.trans HG3'.out.tape, hgrow.output.trans HG3'.out.output, Nat.le_trans HG3'.out.size hgrow.size, fun k hk hne => ?_⟩
        rw [hgrow.block k (Nat.lt_of_lt_of_le hk HG3'.out.size) (by
         intro e
         have := (HO3.out.lt k e.symm).1
         omega)]
        exact HG3'.out.block k hk hne
       have hl4 := HX4.out.atC
       clear hown' hgrow HX3' HG3' HO3
       go_wp2_with fail
       go_roundw
       case rel => exact ⟨l ++ [(e, b)], q2, HO4, (by have := HX4.out; rw [any_snoc]; exact this), HG4, HR3⟩
       case measure => omega
theorem Tryz.info206 : (Tryz.prog.info? 206).map (fun i => (i.zero, i.size, i.bytes)) = some (some (.agg #[.bool false, .nilIface]), 2, 24) := by kernel_rfl
theorem item_form (x : Option Px.E) : ∃ b ex, itemA x = .agg #[.bool b, ex] ∧ itemC x = [.bool b, ex] ∧ ex.oneCell' = true := by
 cases x with
 | none => exact ⟨true, .nilIface, rfl, rfl, rfl⟩
 | some e => exact ⟨false, ev e, rfl, rfl, by obtain ⟨t, y, h⟩ := ev_iface e; rw [h]; rfl⟩
theorem c_listItem_any (B : Nat) (lv : Value) (ts : List Lx.Tok) (sz : Nat) (dp : Bool) (w : World) (q : List Lx.Tok) (h : Cx w B lv ts sz q dp) :
   Calls Tryz.prog 100 #[.pointer (some ⟨B, 0, none⟩), .func (.func 101) #[.pointer (some ⟨B, 0, none⟩)] #[]] w (OutR w B lv ts sz dp (Px.Sep fun _ => Px.itemR sz) q (lsV B 206 2 itemC) fun l => l.any deepO) := by
 obtain ⟨i0, hi, hz0, hz1, hz2⟩ := info_parts Tryz.info206
 have HX := hd h
 have hlt := h.lt
 have hq2000 : q.length ≤ 2000 := by
  obtain ⟨k, rfl, h⟩ := h
  have := h.len
  simp; omega
 clear h
 go_enter Tryz.func100, Tryz.ntmps100
 go_wp2_with fail
 refine (c_item_any B lv ts sz dp w q HX.out).mono ?_
 rintro x w1 ho
 obtain ⟨hg, ⟨p, c, hr, rfl⟩ | ⟨a, q1, v, hr, rfl, hv, hx⟩⟩ := ho.cases
 · exact ⟨rfl, OutR.err hg (Px.Sep.err0 hr)⟩
 · have HR1 := hd (Px.Reach.first (x := fun _ => Px.itemR sz) hr)
   have HX1 := hd hx
   have HG1 := hd hg
   have hs1 := hg.size
   clear hr hx hg ho
   obtain ⟨b, ex, hit, hic, hoc⟩ := item_form a
   have HIC := hd hic
   have HOC := hd hoc
   have hv2 : v = .agg #[.bool b, ex] := hv.trans hit
   subst hv2
   clear hv hit hic hoc
   have HO1 := hd (ownBase (own_new2 w1 (.bool b) ex 206) hs1)
   have HX1' := hd (HX1.out.below ((Below.refl _ _).alloc (Nat.le_refl _) (.cells #[.bool b, ex] 206)))
   have HG1' := hd (grownBy_alloc HG1.out (.cells #[.bool b, ex] 206))
   clear HX1 HG1
   go_wp2_with fail
   go_loopw [5] (fun v wr => ∃ (l : List (Option Px.E)) (q1 : List Lx.Tok), Hid (wr.ownsRow w.heap.size 206 2 v l.length (l.flatMap itemC)) ∧ Hid (Cx wr B lv ts sz q1 (l.any deepO || dp)) ∧ Hid (w.grownBy wr (some B)) ∧ Hid (Px.Reach (fun _ => Px.itemR sz) q l q1)) (fun _ wr => ts.length - atC wr B)
   case atStart => exact ⟨[a], q1, (by have := HO1.out; simp only [List.flatMap_cons, List.flatMap_nil, List.append_nil, List.length_singleton]; rw [HIC.out]; exact this), (by show Cx _ _ _ _ _ _ _; have := HX1'.out; simpa using this), HG1', HR1⟩
   case round =>
    clear HR1 HX1' HG1' HO1
    obtain ⟨l, q1, HO, HX1, HG1, HRe⟩ := hrel
    have hll : q1.length + l.length ≤ q.length + 1 := HRe.out.len (fun _ => Px.item_shrinks sz)
    cases hs : Px.sees Px.gComma q1 with
    | false =>
     go_wp2_with fail
     refine (c_accept_no ⟨#[44]⟩ wr B lv ts sz q1 _ HX1.out hs (by simp)).mono ?_
     rintro x w2 ⟨rfl, hb⟩
     have HO2 := hd (owns_below HO.out hb)
     have HB := hd hb
     clear hb
     go_wp2_with fail
     go_ret
     exact OutR.ok (a := l) (grownBy_trans HG1.out (Below.grownBy HB.out)) (Px.Sep.stop HRe.out hs) (ownBase HO2.out (by omega)) (HX1.out.below HB.out)
    | true =>
     have hcl := Px.sees_len hs
     go_wp2_with fail
     refine (c_accept_yes ⟨#[44]⟩ wr B lv ts sz q1 _ HX1.out hs (by simp)).mono ?_
     rintro x w2 ⟨rfl, hx2, hg2⟩
     have HX2 := hd hx2
     have HG2 := hd (grownBy_trans HG1.out hg2)
     have HO2 := hd (HO.out.kept hg2 (by
      cases hv : u5.ownBlock with
      | none => exact .inl rfl
      | some g => right; have := (HO.out.lt g hv).1; simp; omega))
     have hl1 := HX1.out.atC
     clear hx2 hg2 HG1 HO
     go_wp2_with fail
     refine (c_item_any B lv ts sz _ w2 q1.tail HX2.out).mono ?_
     rintro x w3 ho
     obtain ⟨hg, ⟨p, c, hr, rfl⟩ | ⟨a, q2, v, hr, rfl, hv, hx⟩⟩ := ho.cases
     · exact ⟨rfl, OutR.err (grownBy_trans HG2.out hg) (Px.Sep.err HRe.out hs hr)⟩
     · have HR3 := hd (HRe.out.step hs hr)
       have hsh := Px.item_shrinks sz _ _ _ hr
       have HX3 := hd hx
       have HG3 := hd (grownBy_trans HG2.out hg)
       have HO3 := hd (HO2.out.kept hg (by
        cases hv : u5.ownBlock with
        | none => exact .inl rfl
        | some g => right; have := (HO2.out.lt g hv).1; simp; omega))
       have hs3 := HG3.out.size
       clear hr hx hg ho HG2 HO2 HX1 HX2
       obtain ⟨b, ex, hit, hic, hoc⟩ := item_form a
       have HIC := hd hic
       have HOC := hd hoc
       have hv2 : v = .agg #[.bool b, ex] := hv.trans hit
       subst hv2
       clear hv hit hic hoc
       have HX3' := hd (HX3.out.below ((Below.refl _ _).alloc (Nat.le_refl _) (.cells #[.bool b, ex] 206)))
       have HG3' := hd (grownBy_alloc HG3.out (.cells #[.bool b, ex] 206))
       clear HX3 HG3
       go_wp2_with (first
        | (at_builtin; refine wpList_append_own _ rfl _ _ 93 rfl w.heap.size 206 i0 (.agg #[.bool false, .nilIface]) 2 24 Tryz.underlying93 hi hz0 hz1 hz2 rfl (by decide) _ _ _ rfl (HO3.out.alloc _) ⟨w3.heap.size, 0, none⟩ 1 1 [.bool b, ex] rfl rfl ?c1 ?c2 ?c3 ?c4 ?c5 ?_)
        | fail)
       case c1 => exact two_news w3 (.bool b) ex 206
       case c2 =>
        intro u hu
        rcases List.mem_cons.1 hu with rfl | hu
        · rfl
        · rw [List.mem_singleton] at hu; subst hu; exact HOC.out
       case c3 => unfold maxLen; omega
       case c4 => omega
       case c5 => simp; omega
       intro v' w4 hown' hgrow _
       have HO4 : Hid (w4.ownsRow w.heap.size 206 2 v' (l ++ [a]).length ((l ++ [a]).flatMap itemC)) := by
        rw [List.length_append, List.length_singleton, flat_snoc]
        show World.ownsRow _ _ _ _ _ _ _
        rw [HIC.out]; exact hown'
       have HX4 := hd (HX3'.out.kept HX.out hgrow (fun o ho => (HO3.out.lt o ho).1))
       have HG4 : Hid (w.grownBy w4 (some B)) := by
        refine ⟨hgrow.os.trans HG3'.out.os, hgrow.tape.trans HG3'.out.tape, hgrow.output.trans HG3'.out.output, Nat.le_trans HG3'.out.size hgrow.size, fun k hk hne => ?_⟩
        rw [hgrow.block k (Nat.lt_of_lt_of_le hk HG3'.out.size) (by
         intro e
         have := (HO3.out.lt k e.symm).1
         omega)]
        exact HG3'.out.block k hk hne
       have hl4 := HX4.out.atC
       clear hown' hgrow HX3' HG3' HO3
       go_wp2_with fail
       go_roundw
       case rel => exact ⟨l ++ [a], q2, HO4, (by have := HX4.out; rw [any_snoc]; exact this), HG4, HR3⟩
       case measure => omega
def deepL (l : List Px.E) : Bool := l.any deepE
theorem c_row_any (B : Nat) (lv : Value) (ts : List Lx.Tok) (sz : Nat) (dp : Bool) (w : World) (q : List Lx.Tok) (h : Cx w B lv ts sz q dp) :
   Calls Tryz.prog 96 #[.pointer (some ⟨B, 0, none⟩)] w (OutR w B lv ts sz dp (Px.rowR sz) q (lsV B 85 1 exC) deepL) := by
 have hmf : ∀ (fn : Fn) (first cap : Array Value) (w : World), (Instr.makeFunc fn first cap).run Tryz.prog w = .ok (.func fn first cap) w := fun _ _ _ _ => rfl
 have HX := hd h
 clear h
 go_enter Tryz.func96, Tryz.ntmps96
 go_wp2_with fail
 refine (c_expect_new ⟨#[40]⟩ w B lv ts sz q dp HX.out (by simp)).mono ?_
 rintro x w1 ho
 obtain ⟨hg, ⟨p, c, hr, rfl⟩ | ⟨_, q1, v, hr, rfl, hv, hx⟩⟩ := ho.cases
 · exact ⟨rfl, OutR.err hg (Px.Rg.err hr)⟩
 · cases hv
   have HR1 := hd hr
   have HX1 : Hid (Cx w1 B lv ts sz q1 dp) := hx
   have HG1 := hd hg
   clear hr hx hg ho
   go_wp2_with fail
   refine (c_listExpr_any B lv ts sz dp w1 q1 HX1.out).mono ?_
   rintro x w2 ho
   obtain ⟨hg, ⟨p, c, hr, rfl⟩ | ⟨l, q2, v, hr, rfl, hv, hx⟩⟩ := ho.cases
   · exact ⟨rfl, OutR.err (grownBy_trans HG1.out hg) (Px.Rg.go HR1.out (Px.Rg.err hr))⟩
   · have HR2 := hd hr
     have HX2 := hd hx
     have HG2 := hd (grownBy_trans HG1.out hg)
     have HV2 := hd hv
     obtain ⟨ao, n, cp, rfl⟩ : ∃ ao n cp, v = .slice ao n cp := by
      rcases hv.2 with ⟨rfl, _⟩ | ⟨g, cap, cur, rfl, _⟩
      · exact ⟨_, _, _, rfl⟩
      · exact ⟨_, _, _, rfl⟩
     clear hr hx hg ho HG1 hv
     go_wp2_with fail
     refine (c_expect_new ⟨#[41]⟩ w2 B lv ts sz q2 _ HX2.out (by simp)).mono ?_
     rintro x w3 ho
     obtain ⟨hg, ⟨p, c, hr, rfl⟩ | ⟨_, q3, v, hr, rfl, hv, hx⟩⟩ := ho.cases
     · exact ⟨rfl, OutR.err (grownBy_trans HG2.out hg) (Px.Rg.go HR1.out (Px.Rg.go HR2.out (Px.Rg.err hr)))⟩
     · cases hv
       have HR3 := hd hr
       have HX3 := hd hx
       have HV3 := hd (HV2.out.kept hg (by
        cases hv : Value.ownBlock (.slice ao n cp) with
        | none => exact .inl rfl
        | some g => right; have := (HV2.out.lt g hv).1; simp; omega))
       have HG3 := hd (grownBy_trans HG2.out hg)
       clear hr hx hg ho HG2 HV2
       go_wp2_with fail
       go_ret
       exact OutR.ok (a := l) HG3.out (Px.Rg.go HR1.out (Px.Rg.go HR2.out (Px.Rg.go HR3.out rfl))) HV3.out HX3.out
end Go.Proofs.YtaiebhhommgnbaaGreatDoor
