/- Parts of the proof: CpD CpK CpL -/
import Derived.Test.YtaiebhhommgnbaaGreatDoorZ4
namespace Go.Proofs.YtaiebhhommgnbaaGreatDoor
set_option linter.unusedSimpArgs false
set_option linter.unusedVariables false
set_option maxRecDepth 100000
set_option maxHeartbeats 16000000
open Go.RowKit
theorem wrap_small (x : Int) (h1 : -1000000 ≤ x) (h2 : x ≤ 1000000) : IntKind.i64.wrap x = x := by
 rw [IntKind.wrap_i64]
 omega
theorem depth_leaf (t : Nat) (v : Value) (ht : t = 378 ∨ t = 267 ∨ t = 269 ∨ t = 271 ∨ t = 238) (w : World) :
   Calls Tryz.prog 198 #[.iface t v] w fun x w' => x = .returned (.int .i64 1) ∧ Below w.heap.size w w' := by
 have h1 := leaf_un t v ht
 have h2 := leaf_bin t v ht
 clear ht
 go_enter Tryz.func198, Tryz.ntmps198
 go_wp2_with fail
 go_ret
 exact ⟨rfl, Below.refl _ _⟩
theorem depth_un (k : Int) (tv : Nat) (xv : Value) (d : Nat) (hd1 : d ≤ 100000) (ih : ∀ w : World, Calls Tryz.prog 198 #[.iface tv xv] w fun x w' => x = .returned (.int .i64 (d : Int)) ∧ Below w.heap.size w w') (w : World) :
   Calls Tryz.prog 198 #[.iface 263 (.agg #[.int .i64 k, .iface tv xv])] w fun x w' => x = .returned (.int .i64 (1 + (d : Int))) ∧ Below w.heap.size w w' := by
 have h1 := is_un (.int .i64 k) (.iface tv xv)
 go_enter Tryz.func198, Tryz.ntmps198
 go_wp2_with fail
 refine (ih _).mono ?_
 rintro x w1 ⟨rfl, hb⟩
 have HB := hd hb
 clear hb
 go_wp2_with fail
 go_ret
 exact ⟨rfl, ((Below.refl _ _).alloc (Nat.le_refl _) _).trans (HB.out.mono (by simp))⟩
theorem depth_bin1 (k : Int) (tu : Nat) (xu : Value) (tv : Nat) (xv : Value) (d e : Nat) (hd1 : d ≤ 100000) (he1 : e ≤ 100000) (iha : ∀ w : World, Calls Tryz.prog 198 #[.iface tu xu] w fun x w' => x = .returned (.int .i64 (d : Int)) ∧ Below w.heap.size w w')
   (ihb : ∀ w : World, Calls Tryz.prog 198 #[.iface tv xv] w fun x w' => x = .returned (.int .i64 (e : Int)) ∧ Below w.heap.size w w') (w : World) (hde : (d : Int) < (e : Int)) :
   Calls Tryz.prog 198 #[.iface 265 (.agg #[.int .i64 k, .iface tu xu, .iface tv xv])] w fun x w' => x = .returned (.int .i64 (1 + (e : Int))) ∧ Below w.heap.size w w' := by
 have hmx : max (d : Int) (e : Int) = (e : Int) := by omega
 have hwr : IntKind.i64.wrap (1 + (e : Int)) = 1 + (e : Int) := wrap_small _ (by omega) (by omega)
 have h1 := bin_un (.int .i64 k) (.iface tu xu) (.iface tv xv)
 have h2 := is_bin (.int .i64 k) (.iface tu xu) (.iface tv xv)
 go_enter Tryz.func198, Tryz.ntmps198
 go_wp2_with fail
 clear h1 h2
 have KW := Blk.new w #[.int .i64 k, .iface tu xu, .iface tv xv] 265
 have BW : Below w.heap.size w (w.alloc (.cells #[.int .i64 k, .iface tu xu, .iface tv xv] 265)) := (Below.refl _ _).alloc (Nat.le_refl _) _
 generalize w.alloc (.cells #[.int .i64 k, .iface tu xu, .iface tv xv] 265) = W at *
 have k1 : W.cell? ⟨w.heap.size, 1, none⟩ = some (.iface tu xu) := KW.cell 1
 have k2 : W.cell? ⟨w.heap.size, 2, none⟩ = some (.iface tv xv) := KW.cell 2
 have HK := hd KW
 have HB := hd BW
 have HIA := hd iha
 have HIB := hd ihb
 clear KW BW iha ihb
 go_region_with (go_at_call 198; first
  | (go_at_call_of 198 (Value.iface tu xu)
     refine Calls.mono (HIA.out _) ?_
     rintro x w1 ⟨rfl, hb1⟩
     have hK : Blk w1 w.heap.size #[.int .i64 k, .iface tu xu, .iface tv xv] 265 := HK.out.drew.below hb1 HK.out.lt
     have q1 : w1.cell? ⟨w.heap.size, 1, none⟩ = some (.iface tu xu) := hK.cell 1
     have q2 : w1.cell? ⟨w.heap.size, 2, none⟩ = some (.iface tv xv) := hK.cell 2
     have HB1 := hd hb1
     clear hK hb1)
  | (refine Calls.mono (HIB.out _) ?_
     rintro x w2 ⟨rfl, hb2⟩
     have HB2 := hd hb2
     clear hb2))
 all_goals
  have hs1 := HB1.out.size
  have hs := HB.out.size
  have HBF : Hid (Below w.heap.size w w2) := (HB.out.trans ((Below.refl _ _).drew.trans (HB1.out.mono (by simp at *; omega)))).trans (HB2.out.mono (by simp at *; omega))
  clear HB HB1 HB2 q1 q2 k1 k2
  go_wp2
  go_ret
  exact ⟨rfl, HBF.out⟩
theorem depth_bin2 (k : Int) (tu : Nat) (xu : Value) (tv : Nat) (xv : Value) (d e : Nat) (hd1 : d ≤ 100000) (he1 : e ≤ 100000) (iha : ∀ w : World, Calls Tryz.prog 198 #[.iface tu xu] w fun x w' => x = .returned (.int .i64 (d : Int)) ∧ Below w.heap.size w w')
   (ihb : ∀ w : World, Calls Tryz.prog 198 #[.iface tv xv] w fun x w' => x = .returned (.int .i64 (e : Int)) ∧ Below w.heap.size w w') (w : World) (hde : ¬ (d : Int) < (e : Int)) :
   Calls Tryz.prog 198 #[.iface 265 (.agg #[.int .i64 k, .iface tu xu, .iface tv xv])] w fun x w' => x = .returned (.int .i64 (1 + (d : Int))) ∧ Below w.heap.size w w' := by
 have hmx : max (d : Int) (e : Int) = (d : Int) := by omega
 have hwr : IntKind.i64.wrap (1 + (d : Int)) = 1 + (d : Int) := wrap_small _ (by omega) (by omega)
 have h1 := bin_un (.int .i64 k) (.iface tu xu) (.iface tv xv)
 have h2 := is_bin (.int .i64 k) (.iface tu xu) (.iface tv xv)
 go_enter Tryz.func198, Tryz.ntmps198
 go_wp2_with fail
 clear h1 h2
 have KW := Blk.new w #[.int .i64 k, .iface tu xu, .iface tv xv] 265
 have BW : Below w.heap.size w (w.alloc (.cells #[.int .i64 k, .iface tu xu, .iface tv xv] 265)) := (Below.refl _ _).alloc (Nat.le_refl _) _
 generalize w.alloc (.cells #[.int .i64 k, .iface tu xu, .iface tv xv] 265) = W at *
 have k1 : W.cell? ⟨w.heap.size, 1, none⟩ = some (.iface tu xu) := KW.cell 1
 have k2 : W.cell? ⟨w.heap.size, 2, none⟩ = some (.iface tv xv) := KW.cell 2
 have HK := hd KW
 have HB := hd BW
 have HIA := hd iha
 have HIB := hd ihb
 clear KW BW iha ihb
 go_region_with (go_at_call 198; first
  | (go_at_call_of 198 (Value.iface tu xu)
     refine Calls.mono (HIA.out _) ?_
     rintro x w1 ⟨rfl, hb1⟩
     have hK : Blk w1 w.heap.size #[.int .i64 k, .iface tu xu, .iface tv xv] 265 := HK.out.drew.below hb1 HK.out.lt
     have q1 : w1.cell? ⟨w.heap.size, 1, none⟩ = some (.iface tu xu) := hK.cell 1
     have q2 : w1.cell? ⟨w.heap.size, 2, none⟩ = some (.iface tv xv) := hK.cell 2
     have HB1 := hd hb1
     clear hK hb1)
  | (refine Calls.mono (HIB.out _) ?_
     rintro x w2 ⟨rfl, hb2⟩
     have HB2 := hd hb2
     clear hb2))
 all_goals
  have hs1 := HB1.out.size
  have hs := HB.out.size
  have HBF : Hid (Below w.heap.size w w2) := (HB.out.trans ((Below.refl _ _).drew.trans (HB1.out.mono (by simp at *; omega)))).trans (HB2.out.mono (by simp at *; omega))
  clear HB HB1 HB2 q1 q2 k1 k2
  go_wp2
  go_ret
  exact ⟨rfl, HBF.out⟩
theorem y_Depth_any (e : Px.E) (hs : e.size ≤ 100000) : ∀ w : World, Calls Tryz.prog 198 #[ev e] w fun x w' => x = .returned (.int .i64 (e.depth : Int)) ∧ Below w.heap.size w w' := by
 induction e with
 | un k e ih =>
  intro w
  obtain ⟨t, y, hy⟩ := ev_iface e
  have hsz : e.size ≤ 100000 := by simp only [Px.E.size] at hs; omega
  have hdp := e.depth_le
  have ih' := ih hsz
  rw [hy] at ih'
  have := depth_un (k : Int) t y e.depth (by omega) ih' w
  unfold ev
  rw [hy]
  refine this.mono ?_
  rintro x w' ⟨rfl, hb⟩
  exact ⟨by simp only [Px.E.depth]; rw [show ((e.depth + 1 : Nat) : Int) = 1 + (e.depth : Int) by omega], hb⟩
 | bin k a b iha ihb =>
  intro w
  obtain ⟨ta, ya, hya⟩ := ev_iface a
  obtain ⟨tb, yb, hyb⟩ := ev_iface b
  have hsa : a.size ≤ 100000 := by simp only [Px.E.size] at hs; omega
  have hsb : b.size ≤ 100000 := by simp only [Px.E.size] at hs; omega
  have hda := a.depth_le
  have hdb := b.depth_le
  have iha' := iha hsa
  have ihb' := ihb hsb
  rw [hya] at iha'
  rw [hyb] at ihb'
  unfold ev
  rw [hya, hyb]
  by_cases hde : (a.depth : Int) < (b.depth : Int)
  · refine (depth_bin1 (k : Int) ta ya tb yb a.depth b.depth (by omega) (by omega) iha' ihb' w hde).mono ?_
    rintro x w' ⟨rfl, hb⟩
    refine ⟨?_, hb⟩
    simp only [Px.E.depth]
    rw [Nat.max_eq_right (by omega), show ((b.depth + 1 : Nat) : Int) = 1 + (b.depth : Int) by omega]
  · refine (depth_bin2 (k : Int) ta ya tb yb a.depth b.depth (by omega) (by omega) iha' ihb' w hde).mono ?_
    rintro x w' ⟨rfl, hb⟩
    refine ⟨?_, hb⟩
    simp only [Px.E.depth]
    rw [Nat.max_eq_left (by omega), show ((a.depth + 1 : Nat) : Int) = 1 + (a.depth : Int) by omega]
 | null => intro w; exact depth_leaf _ _ (.inl rfl) w
 | bool b => intro w; exact depth_leaf _ _ (.inr (.inl rfl)) w
 | num z => intro w; exact depth_leaf _ _ (.inr (.inr (.inl rfl))) w
 | str s => intro w; exact depth_leaf _ _ (.inr (.inr (.inr (.inl rfl)))) w
 | nm s => intro w; exact depth_leaf _ _ (.inr (.inr (.inr (.inr rfl)))) w
def deepE (e : Px.E) : Bool := decide (40 < e.depth)
theorem c_expr_any (B : Nat) (lv : Value) (ts : List Lx.Tok) (sz : Nat) (dp : Bool) (w : World) (q : List Lx.Tok) (h : Cx w B lv ts sz q dp) :
   Calls Tryz.prog 150 #[.pointer (some ⟨B, 0, none⟩)] w (OutR w B lv ts sz dp (Px.exR sz) q exV deepE) := by
 have HL := hd (level_all B lv ts sz dp q.length w q (Nat.le_refl _) h)
 have hlen : q.length ≤ 2000 := by
  obtain ⟨k, rfl, h⟩ := h
  have := h.len
  simp; omega
 clear h
 go_enter Tryz.func150, Tryz.ntmps150
 go_wp2_with fail
 refine HL.out.mono ?_
 rintro x w1 ho
 obtain ⟨hg, ⟨p, c, hr, rfl⟩ | ⟨e, q1, v, hr, rfl, hv, hx⟩⟩ := ho.cases
 · exact ⟨rfl, OutR.err hg hr⟩
 · cases hv
   have HX1 : Hid (Cx w1 B lv ts sz q1 dp) := hx
   have HG1 := hd hg
   have HR : Hid (Px.exR sz q (.ok (e, q1))) := hr
   have hsz := (hr.2 _ _ rfl).2
   have HD := hd (y_Depth_any e (by omega) w1)
   have hdl := e.depth_le
   obtain ⟨et, ex, hev⟩ := ev_iface e
   have HEV := hd hev
   rw [hev] at HD ⊢
   clear hr hx hg hev ho
   go_wp2_with fail
   refine HD.out.mono ?_
   rintro x w2 ⟨rfl, hb2⟩
   have HX2 := hd (HX1.out.below hb2)
   have HG2 := hd (grownBy_trans HG1.out (Below.grownBy (row := some B) hb2))
   clear hb2 HD
   by_cases hdp : 40 < e.depth
   · have hdp' : (40 : Int) < (e.depth : Int) := by omega
     obtain ⟨k, hk, hs⟩ := HX2.out
     have c3 := hs.cells.2.2.2
     have f3 := hs.blk.free 3
     have HX3 : Hid (Cx (w2.setCell ⟨B, 3, none⟩ (.bool true)) B lv ts sz q1 true) := ⟨k, hk, hs.setDeep⟩
     have HG3 := hd (grownBy_trans HG2.out (grownBy_set w2 B 3 (.bool true)))
     clear hs
     go_wp2_with fail
     go_ret
     exact OutR.ok (a := e) HG3.out HR.out (by show _ = ev _; rw [HEV.out]; rfl) (by unfold deepE; rw [decide_eq_true hdp]; exact HX3.out)
   · have hdp' : ¬ (40 : Int) < (e.depth : Int) := by omega
     go_wp2_with fail
     go_ret
     exact OutR.ok (a := e) HG2.out HR.out (by show _ = ev _; rw [HEV.out]; rfl) (by unfold deepE; rw [decide_eq_false hdp]; exact HX2.out)
def ev? : Option Px.E → Value
 | none => .nilIface
 | some e => ev e
def whV (o : Option Px.E) (v : Value) (_ : World) : Prop := v = ev? o
def deepO : Option Px.E → Bool
 | none => false
 | some e => deepE e
theorem c_where_any (B : Nat) (lv : Value) (ts : List Lx.Tok) (sz : Nat) (dp : Bool) (w : World) (q : List Lx.Tok) (h : Cx w B lv ts sz q dp) :
   Calls Tryz.prog 97 #[.pointer (some ⟨B, 0, none⟩)] w (OutR w B lv ts sz dp (Px.whereR sz) q whV deepO) := by
 have HX := hd h
 clear h
 cases hs : Px.sees Px.kWHERE q with
 | true =>
  have HR : Hid (∀ r, Px.Rg.seq (Px.exR sz) (fun e => Px.Rg.ret (some e)) q.tail r → Px.whereR sz q r) := fun r hr => by unfold Px.whereR; rw [if_pos hs]; exact hr
  go_enter Tryz.func97, Tryz.ntmps97
  go_wp2_with fail
  refine (c_accept_yes ⟨#[87, 72, 69, 82, 69]⟩ w B lv ts sz q dp HX.out hs (by simp)).mono ?_
  rintro x w2 ⟨rfl, hx, hg⟩
  have HX2 := hd hx
  have HG2 := hd hg
  clear hx hg
  go_wp2_with fail
  refine (c_expr_any B lv ts sz dp w2 q.tail HX2.out).mono ?_
  rintro x w3 ho
  obtain ⟨hg, ⟨p, c, hr, rfl⟩ | ⟨e, q', v, hr, rfl, hv, hx⟩⟩ := ho.cases
  · exact ⟨rfl, OutR.err (grownBy_trans HG2.out hg) (HR.out _ (Px.Rg.err hr))⟩
  · cases hv
    have HRR := hd hr
    obtain ⟨et, ex, hev⟩ := ev_iface e
    have HEV := hd hev
    rw [hev]
    clear hr hev
    go_wp2_with fail
    go_ret
    exact OutR.ok (a := some e) (grownBy_trans HG2.out hg) (HR.out _ (Px.Rg.go HRR.out rfl)) (by show _ = ev _; rw [HEV.out]; rfl) hx
 | false =>
  have HR : Hid (Px.whereR sz q (.ok (none, q))) := by show Px.whereR _ _ _; unfold Px.whereR; rw [if_neg (by simp [hs])]
  go_enter Tryz.func97, Tryz.ntmps97
  go_wp2_with fail
  refine (c_accept_no ⟨#[87, 72, 69, 82, 69]⟩ w B lv ts sz q dp HX.out hs (by simp)).mono ?_
  rintro x w2 ⟨rfl, hb⟩
  have HX2 := hd (HX.out.below hb)
  have HG2 := hd (Below.grownBy (row := some B) hb)
  clear hb
  go_wp2_with fail
  go_ret
  exact OutR.ok (a := none) HG2.out HR.out rfl HX2.out
theorem Blk.grown {w w' : World} {b B : Nat} {cs : Array Value} {t : TypeId} (h : Blk w b cs t) (hg : w.grownBy w' (some B)) (hne : b ≠ B) : Blk w' b cs t := by
 unfold Blk at h ⊢
 rw [hg.block b (Array.getElem?_eq_some_iff.1 h).1 (by simp; omega)]
 exact h
theorem Cx.own_lt {w : World} {B : Nat} {lv : Value} {ts : List Lx.Tok} {sz : Nat} {q : List Lx.Tok} {dp : Bool} (h : Cx w B lv ts sz q dp) : ∀ g, lv.ownBlock = some g → g < w.heap.size := by
 obtain ⟨k, _, h⟩ := h
 obtain ⟨b, ho⟩ := h.own
 intro g hg
 exact (ho.lt g hg).2
theorem Cx.far {w w0 : World} {B : Nat} {lv : Value} {ts : List Lx.Tok} {sz : Nat} {q q0 : List Lx.Tok} {dp dp0 : Bool} (h : Cx w B lv ts sz q dp) (h0 : Cx w0 B lv ts sz q0 dp0) {M : Nat} (hM : w0.heap.size ≤ M) (i : Nat) (v : Value) : Cx (w.setCell ⟨M, i, none⟩ v) B lv ts sz q dp := by
 have hB := h0.lt
 have hL := h0.own_lt
 obtain ⟨k, hk, h⟩ := h
 have hr := h.low
 obtain ⟨b, ho⟩ := h.own
 refine ⟨k, hk, h.blk.far ⟨M, i, none⟩ v (by show M ≠ B; omega), ⟨b, ho.kept (grownBy_set w M i v) ?_⟩, h.ne, h.toks, h.len, h.size, h.le, h.env.grown (grownBy_set w M i v) (by omega), h.low⟩
 cases hv : lv.ownBlock with
 | none => simp
 | some g => right; intro e; simp only [Option.some.injEq] at e; subst e; have := hL _ hv; omega
def setV (x : Lx.Bs × Px.E) (v : Value) (_ : World) : Prop := v = .agg #[.string ⟨x.1.toArray⟩, ev x.2]
def deepS (x : Lx.Bs × Px.E) : Bool := deepE x.2
theorem c_set_any (B : Nat) (lv : Value) (ts : List Lx.Tok) (sz : Nat) (dp : Bool) (w : World) (q : List Lx.Tok) (h : Cx w B lv ts sz q dp) :
   Calls Tryz.prog 99 #[.pointer (some ⟨B, 0, none⟩)] w (OutR w B lv ts sz dp (Px.setR sz) q setV deepS) := by
 have HX := hd h
 have hlt := h.lt
 have HB0 : Hid (Below w.heap.size w (w.alloc (.cells #[.string ⟨#[]⟩, .nilIface] 202))) := (Below.refl _ _).alloc (Nat.le_refl _) _
 have KR := Blk.new w #[.string ⟨#[]⟩, .nilIface] 202
 have HKR := hd KR
 clear h KR
 go_enter Tryz.func99, Tryz.ntmps99
 go_wp2_with fail
 refine (c_name_any _ B lv ts sz q dp (HX.out.below HB0.out)).mono ?_
 rintro x w1 ho
 obtain ⟨hg, ⟨p, c, hr, rfl⟩ | ⟨n, q1, v, hr, rfl, hv, hx⟩⟩ := ho.cases
 · exact ⟨rfl, OutR.err (grownBy_trans (Below.grownBy HB0.out) hg) (Px.Rg.err hr)⟩
 · cases hv
   have HR1 := hd hr
   have HX1 : Hid (Cx w1 B lv ts sz q1 dp) := hx
   have HG1 := hd (grownBy_trans (Below.grownBy HB0.out) hg)
   have HK1 := hd (HKR.out.grown hg (by omega))
   clear hr hx hg ho HB0 HKR
   go_wp2_with fail
   refine (c_expect_new ⟨#[61]⟩ w1 B lv ts sz q1 dp HX1.out (by simp)).mono ?_
   rintro x w2 ho
   obtain ⟨hg, ⟨p, c, hr, rfl⟩ | ⟨_, q2, v, hr, rfl, hv, hx⟩⟩ := ho.cases
   · exact ⟨rfl, OutR.err (grownBy_trans HG1.out hg) (Px.Rg.go HR1.out (Px.Rg.err hr))⟩
   · cases hv
     have HR2 := hd hr
     have HX2 : Hid (Cx w2 B lv ts sz q2 dp) := hx
     have HG2 := hd (grownBy_trans HG1.out hg)
     have HK2 := hd (HK1.out.grown hg (by omega))
     clear hr hx hg ho HG1 HK1
     go_wp2_with fail
     refine (c_expr_any B lv ts sz dp w2 q2 HX2.out).mono ?_
     rintro x w3 ho
     obtain ⟨hg, ⟨p, c, hr, rfl⟩ | ⟨e, q3, v, hr, rfl, hv, hx⟩⟩ := ho.cases
     · exact ⟨rfl, OutR.err (grownBy_trans HG2.out hg) (Px.Rg.go HR1.out (Px.Rg.go HR2.out (Px.Rg.err hr)))⟩
     · cases hv
       have HR3 := hd hr
       have HX3 := hd hx
       have HG3 := hd (grownBy_trans HG2.out hg)
       have HK3 := hd (HK2.out.grown hg (by omega))
       obtain ⟨et, ex, hev⟩ := ev_iface e
       have HEV := hd hev
       rw [hev]
       have m0 : w3.cell? ⟨w.heap.size, 0, none⟩ = some (.string ⟨#[]⟩) := HK3.out.cell 0
       have m1 : w3.cell? ⟨w.heap.size, 1, none⟩ = some .nilIface := HK3.out.cell 1
       have g0 := HK3.out.free 0
       have g1 := HK3.out.free 1
       clear hr hx hg ho HG2 HK2 hev
       go_wp2_with fail
       have KF := (HK3.out.set 0 (.string ⟨n.toArray⟩)).set 1 (.iface et ex)
       have e0 := KF.cell 0
       have e1 := KF.cell 1
       simp at e0 e1
       refine bodyPost_ret (v := .agg #[.string ⟨n.toArray⟩, .iface et ex]) (by simp [results, Tryz.results99, go_sem, e0, e1]) rfl ?_
       exact OutR.ok (a := (n, e)) (grown_away (grown_away HG3.out (Nat.le_refl _) 0 _) (Nat.le_refl _) 1 _) (Px.Rg.go HR1.out (Px.Rg.go HR2.out (Px.Rg.go HR3.out rfl))) (by show _ = Value.agg #[_, ev e]; rw [HEV.out]) ((HX3.out.far HX.out (Nat.le_refl _) 0 _).far HX.out (Nat.le_refl _) 1 _)
end Go.Proofs.YtaiebhhommgnbaaGreatDoor
