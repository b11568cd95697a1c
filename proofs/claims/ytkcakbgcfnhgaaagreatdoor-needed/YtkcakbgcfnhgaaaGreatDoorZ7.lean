/- Parts of the proof: CpO CpP CpQ CpR CpS CpT CpU CpV CpW CpX CpY -/
import Derived.Test.YtkcakbgcfnhgaaaGreatDoorZ6
namespace Go.Proofs.YtkcakbgcfnhgaaaGreatDoor
set_option linter.unusedSimpArgs false
set_option linter.unusedVariables false
set_option maxRecDepth 100000
set_option maxHeartbeats 16000000
open Go.RowKit
def colV (x : Lx.Bs × Nat) (v : Value) (_ : World) : Prop := v = .agg #[.string ⟨x.1.toArray⟩, .int .i64 (x.2 : Int)]
theorem kind_small {sz : Nat} {q q' : List Lx.Tok} {k : Nat} (h : Px.kindR sz q (.ok (k, q'))) : k ≤ 3 := by
 unfold Px.kindR at h
 split at h
 · cases h; omega
 split at h
 · cases h; omega
 rcases Px.seq_ok h with ⟨e, _, h2⟩ | ⟨_, _, _, h2⟩
 · cases h2
 cases h2; omega
theorem c_column_any (B : Nat) (lv : Value) (ts : List Lx.Tok) (sz : Nat) (dp : Bool) (w : World) (q : List Lx.Tok) (h : Cx w B lv ts sz q dp) (i : Nat) (hi : i ≤ 100000) :
   Calls Tryz.prog 143 #[.pointer (some ⟨B, 0, none⟩), .int .i64 ((i : Int) + 1)] w (OutR w B lv ts sz dp (Px.colR sz i) q colV noDeep) := by
 have hf2 := fld2
 have HX := hd h
 have hlt := h.lt
 rcases ht : pk sz q with ⟨tk, tt, tp⟩
 have HT := hd ht
 have HP := hd (plc_tok ht)
 have HB0 : Hid (Below w.heap.size w (w.alloc (.cells #[.string ⟨#[]⟩, .int .i64 0] 135))) := (Below.refl _ _).alloc (nlr _) _
 have HKR := hd (Blk.new w #[.string ⟨#[]⟩, .int .i64 0] 135)
 clear h ht
 go_enter Tryz.func143, Tryz.ntmps143
 go_wp2_with fail
 refine (c_peek_any _ B lv ts sz q dp (HX.out.below HB0.out)).mono ?_
 rintro x w0 ⟨rfl, hb⟩
 rw [HT.out]
 unfold tokA
 simp only
 have HX0 := hd ((HX.out.below HB0.out).below hb)
 have HG0 := hd (gbt (Below.grownBy (row := some B) HB0.out) (Below.grownBy (row := some B) hb))
 have HK0 := hd (HKR.out.below hb (by simp))
 clear hb HB0 HKR
 go_wp2_with fail
 refine (c_name_any w0 B lv ts sz q dp HX0.out).mono ?_
 rintro x w1 ho
 obtain ⟨hg, ⟨p, c, hr, rfl⟩ | ⟨n, q1, v, hr, rfl, hv, hx⟩⟩ := ho.cases
 · exact ⟨rfl, OutR.err (gbt HG0.out hg) (Px.Rg.err hr)⟩
 cases hv
 have HR1 := hd hr
 have HX1 : Hid (Cx w1 B lv ts sz q1 dp) := hx
 have HG1 := hd (gbt HG0.out hg)
 have HK1 := hd (HK0.out.grown hg (by omega))
 clear hr hx hg ho HX0 HG0 HK0
 by_cases h6 : 6 ≤ i
 · have h6' : (6 : Int) < (i : Int) + 1 := by omega
   have HR : Hid (Px.colR sz i q (.error (tp, 4))) := Px.Rg.go HR1.out (by rw [if_pos h6, HP.out])
   go_wp2_with fail
   refine (c_fail_any _ _ tp 4).mono ?_
   rintro x w2 ⟨rfl, rfl⟩
   exact ⟨rfl, OutR.err HG1.out HR.out⟩
 have h6' : ¬ (6 : Int) < (i : Int) + 1 := by omega
 have HR : Hid (∀ r, Px.Rg.seq (Px.kindR sz) (Px.nullR sz n) q1 r → Px.colR sz i q r) := fun r hr => Px.Rg.go HR1.out (by rw [if_neg h6]; exact hr)
 go_wp2_with fail
 refine (c_columnType_any B lv ts sz dp w1 q1 HX1.out).mono ?_
 rintro x w2 ho
 obtain ⟨hg, ⟨p, c, hr, rfl⟩ | ⟨k, q2, v, hr, rfl, hv, hx⟩⟩ := ho.cases
 · exact ⟨rfl, OutR.err (gbt HG1.out hg) (HR.out _ (Px.Rg.err hr))⟩
 cases hv
 have hk3 := kind_small hr
 have HR2 := hd hr
 have hsz1 := (gbt HG1.out hg).size
 have hszw : w.heap.size < w2.heap.size := by have := HK1.out.lt; have := hg.size; omega
 have HX2 := hd (Cx.below (w' := w2.alloc (.cells #[.string ⟨n.toArray⟩, .int .i64 (k : Int)] 135)) hx ((Below.refl _ _).alloc (nlr _) _))
 have HG2 := hd (gba (gbt HG1.out hg) (.cells #[.string ⟨n.toArray⟩, .int .i64 (k : Int)] 135))
 have HK2 := hd ((HK1.out.grown hg (by omega)).alloc (.cells #[.string ⟨n.toArray⟩, .int .i64 (k : Int)] 135))
 have HL2 := hd (Blk.new w2 #[.string ⟨n.toArray⟩, .int .i64 (k : Int)] 135)
 have d1 : ¬ w2.heap.size = w.heap.size := by omega
 have d2 : ¬ w.heap.size = w2.heap.size := by omega
 clear hr hx hg ho HG1 HK1 HX1
 cases hs : Px.sees Px.kNOT q2 with
 | false =>
  have HRN : Hid (Px.nullR sz n k q2 (.ok ((n, k), q2))) := by show Px.nullR _ _ _ _ _; unfold Px.nullR; rw [if_neg (by simp [hs])]
  go_wp2_with fail
  refine (cano ⟨#[78, 79, 84]⟩ _ B lv ts sz q2 _ HX2.out hs (by simp)).mono ?_
  rintro x w3 ⟨rfl, hb3⟩
  have HX3 := hd (HX2.out.below hb3)
  have HG3 := hd (gbt HG2.out (Below.grownBy (row := some B) hb3))
  have HK3 := hd (HK2.out.below hb3 HK2.out.lt)
  have HL3 := hd (HL2.out.below hb3 HL2.out.lt)
  have m0 : w3.cell? ⟨w.heap.size, 0, none⟩ = some (.string ⟨#[]⟩) := HK3.out.cell 0
  have m1 : w3.cell? ⟨w.heap.size, 1, none⟩ = some (.int .i64 0) := HK3.out.cell 1
  have g0 := HK3.out.free 0
  have g1 := HK3.out.free 1
  have n0 : w3.cell? ⟨w2.heap.size, 0, none⟩ = some (.string ⟨n.toArray⟩) := HL3.out.cell 0
  have n1 : w3.cell? ⟨w2.heap.size, 1, none⟩ = some (.int .i64 (k : Int)) := HL3.out.cell 1
  clear hb3 HX2 HG2 HK2 HL2
  go_wp2_with fail
  have KF := (HK3.out.set 0 (.string ⟨n.toArray⟩)).set 1 (.int .i64 (k : Int))
  have e0 := KF.cell 0
  have e1 := KF.cell 1
  simp at e0 e1
  refine bodyPost_ret (v := .agg #[.string ⟨n.toArray⟩, .int .i64 (k : Int)]) (by simp [results, Tryz.results143, go_sem, e0, e1]) rfl ?_
  exact OutR.ok (a := (n, k)) (gaw (gaw HG3.out (nlr _) 0 _) (nlr _) 1 _) (HR.out _ (Px.Rg.go HR2.out HRN.out)) rfl ((HX3.out.far HX.out (nlr _) 0 _).far HX.out (nlr _) 1 _)
 | true =>
  have HRN : Hid (∀ r, Px.Rg.seq (Px.mustR sz Px.kNULL) (fun _ => Px.Rg.ret (n, k + 4)) q2.tail r → Px.nullR sz n k q2 r) := fun r hr => by unfold Px.nullR; rw [if_pos hs]; exact hr
  go_wp2_with fail
  refine (cay ⟨#[78, 79, 84]⟩ _ B lv ts sz q2 _ HX2.out hs (by simp)).mono ?_
  rintro x w3 ⟨rfl, hx3, hg3⟩
  have HX3 := hd hx3
  have HG3 := hd (gbt HG2.out hg3)
  have HK3 := hd (HK2.out.grown hg3 (by omega))
  have HL3 := hd (HL2.out.grown hg3 (by have := HX2.out.lt; have := HX.out.lt; omega))
  clear hx3 hg3 HX2 HG2 HK2 HL2
  go_wp2_with fail
  refine (c_expect_new ⟨#[78, 85, 76, 76]⟩ w3 B lv ts sz q2.tail _ HX3.out (by simp)).mono ?_
  rintro x w4 ho
  obtain ⟨hg, ⟨p, c, hr, rfl⟩ | ⟨_, q4, v, hr, rfl, hv, hx⟩⟩ := ho.cases
  · exact ⟨rfl, OutR.err (gbt HG3.out hg) (HR.out _ (Px.Rg.go HR2.out (HRN.out _ (Px.Rg.err hr))))⟩
  cases hv
  have HR4 := hd hr
  have HX4 := hd hx
  have HG4 := hd (gbt HG3.out hg)
  have HK4 := hd (HK3.out.grown hg (by omega))
  have HL4 := hd (HL3.out.grown hg (by omega))
  have m0 : w4.cell? ⟨w.heap.size, 0, none⟩ = some (.string ⟨#[]⟩) := HK4.out.cell 0
  have m1 : w4.cell? ⟨w.heap.size, 1, none⟩ = some (.int .i64 0) := HK4.out.cell 1
  have g0 := HK4.out.free 0
  have g1 := HK4.out.free 1
  have n0 : w4.cell? ⟨w2.heap.size, 0, none⟩ = some (.string ⟨n.toArray⟩) := HL4.out.cell 0
  have n1 : w4.cell? ⟨w2.heap.size, 1, none⟩ = some (.int .i64 (k : Int)) := HL4.out.cell 1
  have f1 := HL4.out.free 1
  have hcast : ((k + 4 : Nat) : Int) = (k : Int) + 4 := by omega
  clear hr hx hg ho HX3 HG3 HK3 HL3
  go_wp2_with fail
  have KF := ((HK4.out.far ⟨w2.heap.size, 1, none⟩ (.int .i64 ((k : Int) + 4)) d1).set 0 (.string ⟨n.toArray⟩)).set 1 (.int .i64 ((k : Int) + 4))
  have e0 := KF.cell 0
  have e1 := KF.cell 1
  simp at e0 e1
  refine bodyPost_ret (v := .agg #[.string ⟨n.toArray⟩, .int .i64 ((k : Int) + 4)]) (by simp [results, Tryz.results143, go_sem, e0, e1]) rfl ?_
  exact OutR.ok (a := (n, k + 4)) (gaw (gaw (gaw HG4.out (by omega) 1 _) (nlr _) 0 _) (nlr _) 1 _) (HR.out _ (Px.Rg.go HR2.out (HRN.out _ (Px.Rg.go HR4.out rfl)))) (by show _ = Value.agg #[_, .int .i64 ((k + 4 : Nat) : Int)]; rw [hcast]) (((HX4.out.far HX.out (by omega) 1 _).far HX.out (nlr _) 0 _).far HX.out (nlr _) 1 _)
theorem Cx.kept {w w' w0 : World} {B : Nat} {lv : Value} {ts : List Lx.Tok} {sz : Nat} {q q0 : List Lx.Tok} {dp dp0 : Bool} {row : Option Nat} (h : Cx w B lv ts sz q dp) (h0 : Cx w0 B lv ts sz q0 dp0) (hg : w.grownBy w' row) (hrow : ∀ o, row = some o → w0.heap.size ≤ o) : Cx w' B lv ts sz q dp := by
 have hB := h0.lt
 have hL := h0.own_lt
 obtain ⟨k, hk, h⟩ := h
 have hlow := h.low
 have hg' : w.grownBy w' (some (match row with | none => w.heap.size | some o => o)) := by
  cases row with
  | none => exact ⟨hg.os, hg.tape, hg.output, hg.size, fun k hk _ => hg.block k hk (by simp)⟩
  | some o => exact hg
 obtain ⟨b, ho⟩ := h.own
 have hblk : Blk w' B #[lv, .int .i64 (k : Int), .int .i64 (sz : Int), .bool dp] 112 := by
  have := h.blk
  unfold Blk at this ⊢
  rw [hg.block B h.blk.lt (by
   intro e
   have := hrow B e.symm
   omega)]
  exact this
 refine ⟨k, hk, hblk, ⟨b, ho.kept hg ?_⟩, h.ne, h.toks, h.len, h.size, h.le, h.env.grown hg' ?_, h.low⟩
 · cases hv : lv.ownBlock with
   | none => simp
   | some g =>
    right
    intro e
    have := hrow g e.symm
    have := hL g hv
    omega
 cases row with
 | none => have := h.blk.lt; simp only; omega
 | some o => have := hrow o rfl; simp only; omega
theorem any_snoc {α : Type} (dv : α → Bool) (l : List α) (a : α) (dp : Bool) : ((l ++ [a]).any dv || dp) = (dv a || (l.any dv || dp)) := by
 simp only [List.any_append, List.any_cons, List.any_nil, Bool.or_false]
 cases dv a <;> cases l.any dv <;> cases dp <;> rfl
theorem Tryz.info97 : (Tryz.prog.info? 97).map (fun i => (i.zero, i.size, i.bytes)) = some (some .nilIface, 1, 16) := by kernel_rfl
def lsV {α : Type} (B : Nat) (T : TypeId) (size : Nat) (cl : α → List Value) (l : List α) (v : Value) (w : World) : Prop := w.ownsRow (B + 1) T size v l.length (l.flatMap cl)
def exC (e : Px.E) : List Value := [ev e]
def setC (x : Lx.Bs × Px.E) : List Value := [.string ⟨x.1.toArray⟩, ev x.2]
def itemC : Option Px.E → List Value
 | none => [.bool true, .nilIface]
 | some e => [.bool false, ev e]
def orderC (x : Px.E × Bool) : List Value := [ev x.1, .bool x.2]
def colC (x : Lx.Bs × Nat) : List Value := [.string ⟨x.1.toArray⟩, .int .i64 (x.2 : Int)]
theorem flat_snoc {α : Type} (cl : α → List Value) (l : List α) (a : α) : (l ++ [a]).flatMap cl = l.flatMap cl ++ cl a := by simp
theorem ownBase {w : World} {base base' : Nat} {e : TypeId} {size : Nat} {v : Value} {n : Nat} {xs : List Value} (h : w.ownsRow base e size v n xs) (hb : base' ≤ base) : w.ownsRow base' e size v n xs := by
 refine ⟨h.1, ?_⟩
 rcases h.2 with hn | ⟨g, cap, cur, hv, hg, r⟩
 · exact .inl hn
 exact .inr ⟨g, cap, cur, hv, by omega, r⟩
theorem one_news (w : World) (a : Value) (t : TypeId) : ∀ j u, ([a] : List Value)[j]? = some u → (w.alloc (.cells #[a] t)).cell? ((⟨w.heap.size, 0, none⟩ : Addr).add j) = some u := by
 intro j u hu
 rw [Addr.add_lit, Nat.zero_add, (Blk.new w #[a] t).cell]
 simpa using hu
theorem two_news (w : World) (a b : Value) (t : TypeId) : ∀ j u, ([a, b] : List Value)[j]? = some u → (w.alloc (.cells #[a, b] t)).cell? ((⟨w.heap.size, 0, none⟩ : Addr).add j) = some u := by
 intro j u hu
 rw [Addr.add_lit, Nat.zero_add, (Blk.new w #[a, b] t).cell]
 simpa using hu
theorem own_new1 (w : World) (a : Value) (t : TypeId) : (w.alloc (.cells #[a] t)).ownsRow w.heap.size t 1 (.slice (some ⟨w.heap.size, 0, none⟩) 1 1) 1 [a] :=
 ⟨by simp, .inr ⟨w.heap.size, 1, #[a], rfl, nlr _, heap_alloc_new w _, by omega, by unfold maxLen; omega, by simp, by simp⟩⟩
theorem own_new2 (w : World) (a b : Value) (t : TypeId) : (w.alloc (.cells #[a, b] t)).ownsRow w.heap.size t 2 (.slice (some ⟨w.heap.size, 0, none⟩) 1 1) 1 [a, b] :=
 ⟨by simp, .inr ⟨w.heap.size, 1, #[a, b], rfl, nlr _, heap_alloc_new w _, by omega, by unfold maxLen; omega, by simp, by simp⟩⟩
theorem c_listExpr_any (B : Nat) (lv : Value) (ts : List Lx.Tok) (sz : Nat) (dp : Bool) (w : World) (q : List Lx.Tok) (h : Cx w B lv ts sz q dp) :
   Calls Tryz.prog 187 #[.pointer (some ⟨B, 0, none⟩), .func (.func 188) #[.pointer (some ⟨B, 0, none⟩)] #[]] w (OutR w B lv ts sz dp (Px.Sep fun _ => Px.exR sz) q (lsV B 97 1 exC) fun l => l.any deepE) := by
 obtain ⟨i0, hi, hz0, hz1, hz2⟩ := info_parts Tryz.info97
 have HX := hd h
 have hlt := h.lt
 have hq2000 : q.length ≤ 2000 := by
  obtain ⟨k, rfl, h⟩ := h
  have := h.len
  simp; omega
 clear h
 go_enter Tryz.func187, Tryz.ntmps187
 go_wp2_with fail
 refine (c_expr_any B lv ts sz dp w q HX.out).mono ?_
 rintro x w1 ho
 obtain ⟨hg, ⟨p, c, hr, rfl⟩ | ⟨a, q1, v, hr, rfl, hv, hx⟩⟩ := ho.cases
 · exact ⟨rfl, OutR.err hg (Px.Sep.err0 hr)⟩
 have HR1 := hd (Px.Reach.first (x := fun _ => Px.exR sz) hr)
 have HX1 := hd hx
 have HG1 := hd hg
 have hs1 := hg.size
 clear hr hx hg ho
 cases hv
 obtain ⟨et, ex, hev⟩ := evi a
 have HEV := hd hev
 rw [hev]
 clear hev
 have HO1 := hd (ownBase (own_new1 w1 (.iface et ex) 97) hs1)
 have HX1' := hd (HX1.out.below ((Below.refl _ _).alloc (nlr _) (.cells #[.iface et ex] 97)))
 have HG1' := hd (gba HG1.out (.cells #[.iface et ex] 97))
 clear HX1 HG1
 go_wp2_with fail
 go_loopw [5] (fun v wr => ∃ (l : List Px.E) (q1 : List Lx.Tok), Hid (wr.ownsRow w.heap.size 97 1 v l.length (l.flatMap exC)) ∧ Hid (Cx wr B lv ts sz q1 (l.any deepE || dp)) ∧ Hid (w.grownBy wr (some B)) ∧ Hid (Px.Reach (fun _ => Px.exR sz) q l q1)) (fun _ wr => ts.length - atC wr B)
 case atStart => exact ⟨[a], q1, (by have := HO1.out; simp only [List.flatMap_cons, List.flatMap_nil, List.append_nil, List.length_singleton, exC]; rw [HEV.out]; exact this), (by show Cx _ _ _ _ _ _ _; have := HX1'.out; simpa using this), HG1', HR1⟩
 case round =>
  clear HR1 HX1' HG1' HO1
  obtain ⟨l, q1, HO, HX1, HG1, HRe⟩ := hrel
  have hll : q1.length + l.length ≤ q.length + 1 := HRe.out.len (fun _ => Px.ex_shrinks sz)
  cases hs : Px.sees Px.gComma q1 with
  | false =>
   go_wp2_with fail
   refine (cano ⟨#[44]⟩ wr B lv ts sz q1 _ HX1.out hs (by simp)).mono ?_
   rintro x w2 ⟨rfl, hb⟩
   have HO2 := hd (obw HO.out hb)
   have HB := hd hb
   clear hb
   go_wp2_with fail
   go_ret
   exact OutR.ok (a := l) (gbt HG1.out (Below.grownBy HB.out)) (Px.Sep.stop HRe.out hs) (ownBase HO2.out (by omega)) (HX1.out.below HB.out)
  | true =>
   have hcl := Px.sees_len hs
   go_wp2_with fail
   refine (cay ⟨#[44]⟩ wr B lv ts sz q1 _ HX1.out hs (by simp)).mono ?_
   rintro x w2 ⟨rfl, hx2, hg2⟩
   have HX2 := hd hx2
   have HG2 := hd (gbt HG1.out hg2)
   have HO2 := hd (HO.out.kept hg2 (by
    cases hv : u5.ownBlock with
    | none => exact .inl rfl
    | some g => right; have := (HO.out.lt g hv).1; simp; omega))
   have hl1 := HX1.out.atC
   clear hx2 hg2 HG1 HO
   go_wp2_with fail
   refine (c_expr_any B lv ts sz _ w2 q1.tail HX2.out).mono ?_
   rintro x w3 ho
   obtain ⟨hg, ⟨p, c, hr, rfl⟩ | ⟨a, q2, v, hr, rfl, hv, hx⟩⟩ := ho.cases
   · exact ⟨rfl, OutR.err (gbt HG2.out hg) (Px.Sep.err HRe.out hs hr)⟩
   have HR3 := hd (HRe.out.step hs hr)
   have hsh := Px.ex_shrinks sz _ _ _ hr
   have HX3 := hd hx
   have HG3 := hd (gbt HG2.out hg)
   have HO3 := hd (HO2.out.kept hg (by
    cases hv : u5.ownBlock with
    | none => exact .inl rfl
    | some g => right; have := (HO2.out.lt g hv).1; simp; omega))
   have hs3 := HG3.out.size
   clear hr hx hg ho HG2 HO2 HX1 HX2
   cases hv
   obtain ⟨et, ex, hev⟩ := evi a
   have HEV := hd hev
   rw [hev]
   clear hev
   have HX3' := hd (HX3.out.below ((Below.refl _ _).alloc (nlr _) (.cells #[.iface et ex] 97)))
   have HG3' := hd (gba HG3.out (.cells #[.iface et ex] 97))
   clear HX3 HG3
   go_wp2_with (first
    | (at_builtin; refine wpList_append_own _ rfl _ _ 136 rfl w.heap.size 97 i0 .nilIface 1 16 Tryz.underlying136 hi hz0 hz1 hz2 rfl (by decide) _ _ _ rfl (HO3.out.alloc _) ⟨w3.heap.size, 0, none⟩ 1 1 [.iface et ex] rfl rfl ?c1 ?c2 ?c3 ?c4 ?c5 ?_)
    | fail)
   case c1 => exact one_news w3 (.iface et ex) 97
   case c2 => intro u hu; simp at hu; subst hu; rfl
   case c3 => unfold maxLen; omega
   case c4 => omega
   case c5 => simp; omega
   intro v' w4 hown' hgrow _
   have HO4 : Hid (w4.ownsRow w.heap.size 97 1 v' (l ++ [a]).length ((l ++ [a]).flatMap exC)) := by
    rw [List.length_append, List.length_singleton, flat_snoc]
    show World.ownsRow _ _ _ _ _ _ _
    simp only [exC]; rw [HEV.out]; exact hown'
   have HX4 := hd (HX3'.out.kept HX.out hgrow (fun o ho => (HO3.out.lt o ho).1))
   have HG4 : Hid (w.grownBy w4 (some B)) := by
    refine ⟨hgrow.os.trans HG3'.out.os, hgrow.tape.trans HG3'.out.tape, hgrow.output.trans HG3'.out.output, Nat.le_trans HG3'.out.size hgrow.size, fun k hk hne => ?_⟩
    rw [hgrow.block k (Nat.lt_of_lt_of_le hk HG3'.out.size) (by
     intro e
     have := (HO3.out.lt k e.symm).1
     omega)]
    exact HG3'.out.block k hk hne
   have hl4 := HX4.out.atC
   clear hown' hgrow HX3' HG3' HO3
   go_wp2_with fail
   go_roundw
   case rel => exact ⟨l ++ [a], q2, HO4, (by have := HX4.out; rw [any_snoc]; exact this), HG4, HR3⟩
   case measure => omega
theorem Tryz.info139 : (Tryz.prog.info? 139).map (fun i => (i.zero, i.size, i.bytes)) = some (some (.agg #[.string ⟨#[]⟩, .nilIface]), 2, 32) := by kernel_rfl
theorem c_listSet_any (B : Nat) (lv : Value) (ts : List Lx.Tok) (sz : Nat) (dp : Bool) (w : World) (q : List Lx.Tok) (h : Cx w B lv ts sz q dp) :
   Calls Tryz.prog 148 #[.pointer (some ⟨B, 0, none⟩), .func (.func 149) #[.pointer (some ⟨B, 0, none⟩)] #[]] w (OutR w B lv ts sz dp (Px.Sep fun _ => Px.setR sz) q (lsV B 139 2 setC) fun l => l.any deepS) := by
 obtain ⟨i0, hi, hz0, hz1, hz2⟩ := info_parts Tryz.info139
 have HX := hd h
 have hlt := h.lt
 have hq2000 : q.length ≤ 2000 := by
  obtain ⟨k, rfl, h⟩ := h
  have := h.len
  simp; omega
 clear h
 go_enter Tryz.func148, Tryz.ntmps148
 go_wp2_with fail
 refine (c_set_any B lv ts sz dp w q HX.out).mono ?_
 rintro x w1 ho
 obtain ⟨hg, ⟨p, c, hr, rfl⟩ | ⟨a, q1, v, hr, rfl, hv, hx⟩⟩ := ho.cases
 · exact ⟨rfl, OutR.err hg (Px.Sep.err0 hr)⟩
 have HR1 := hd (Px.Reach.first (x := fun _ => Px.setR sz) hr)
 have HX1 := hd hx
 have HG1 := hd hg
 have hs1 := hg.size
 clear hr hx hg ho
 obtain ⟨n, e⟩ := a
 cases hv
 obtain ⟨et, ex, hev⟩ := evi e
 have HEV := hd hev
 simp only [hev]
 clear hev
 have HO1 := hd (ownBase (own_new2 w1 (.string ⟨n.toArray⟩) (.iface et ex) 139) hs1)
 have HX1' := hd (HX1.out.below ((Below.refl _ _).alloc (nlr _) (.cells #[.string ⟨n.toArray⟩, .iface et ex] 139)))
 have HG1' := hd (gba HG1.out (.cells #[.string ⟨n.toArray⟩, .iface et ex] 139))
 clear HX1 HG1
 go_wp2_with fail
 go_loopw [5] (fun v wr => ∃ (l : List (Lx.Bs × Px.E)) (q1 : List Lx.Tok), Hid (wr.ownsRow w.heap.size 139 2 v l.length (l.flatMap setC)) ∧ Hid (Cx wr B lv ts sz q1 (l.any deepS || dp)) ∧ Hid (w.grownBy wr (some B)) ∧ Hid (Px.Reach (fun _ => Px.setR sz) q l q1)) (fun _ wr => ts.length - atC wr B)
 case atStart => exact ⟨[(n, e)], q1, (by have := HO1.out; simp only [List.flatMap_cons, List.flatMap_nil, List.append_nil, List.length_singleton, setC]; rw [HEV.out]; exact this), (by show Cx _ _ _ _ _ _ _; have := HX1'.out; simpa using this), HG1', HR1⟩
 case round =>
  clear HR1 HX1' HG1' HO1
  obtain ⟨l, q1, HO, HX1, HG1, HRe⟩ := hrel
  have hll : q1.length + l.length ≤ q.length + 1 := HRe.out.len (fun _ => Px.set_shrinks sz)
  cases hs : Px.sees Px.gComma q1 with
  | false =>
   go_wp2_with fail
   refine (cano ⟨#[44]⟩ wr B lv ts sz q1 _ HX1.out hs (by simp)).mono ?_
   rintro x w2 ⟨rfl, hb⟩
   have HO2 := hd (obw HO.out hb)
   have HB := hd hb
   clear hb
   go_wp2_with fail
   go_ret
   exact OutR.ok (a := l) (gbt HG1.out (Below.grownBy HB.out)) (Px.Sep.stop HRe.out hs) (ownBase HO2.out (by omega)) (HX1.out.below HB.out)
  | true =>
   have hcl := Px.sees_len hs
   go_wp2_with fail
   refine (cay ⟨#[44]⟩ wr B lv ts sz q1 _ HX1.out hs (by simp)).mono ?_
   rintro x w2 ⟨rfl, hx2, hg2⟩
   have HX2 := hd hx2
   have HG2 := hd (gbt HG1.out hg2)
   have HO2 := hd (HO.out.kept hg2 (by
    cases hv : u5.ownBlock with
    | none => exact .inl rfl
    | some g => right; have := (HO.out.lt g hv).1; simp; omega))
   have hl1 := HX1.out.atC
   clear hx2 hg2 HG1 HO
   go_wp2_with fail
   refine (c_set_any B lv ts sz _ w2 q1.tail HX2.out).mono ?_
   rintro x w3 ho
   obtain ⟨hg, ⟨p, c, hr, rfl⟩ | ⟨a, q2, v, hr, rfl, hv, hx⟩⟩ := ho.cases
   · exact ⟨rfl, OutR.err (gbt HG2.out hg) (Px.Sep.err HRe.out hs hr)⟩
   have HR3 := hd (HRe.out.step hs hr)
   have hsh := Px.set_shrinks sz _ _ _ hr
   have HX3 := hd hx
   have HG3 := hd (gbt HG2.out hg)
   have HO3 := hd (HO2.out.kept hg (by
    cases hv : u5.ownBlock with
    | none => exact .inl rfl
    | some g => right; have := (HO2.out.lt g hv).1; simp; omega))
   have hs3 := HG3.out.size
   clear hr hx hg ho HG2 HO2 HX1 HX2
   obtain ⟨n, e⟩ := a
   cases hv
   obtain ⟨et, ex, hev⟩ := evi e
   have HEV := hd hev
   simp only [hev]
   clear hev
   have HX3' := hd (HX3.out.below ((Below.refl _ _).alloc (nlr _) (.cells #[.string ⟨n.toArray⟩, .iface et ex] 139)))
   have HG3' := hd (gba HG3.out (.cells #[.string ⟨n.toArray⟩, .iface et ex] 139))
   clear HX3 HG3
   go_wp2_with (first
    | (at_builtin; refine wpList_append_own _ rfl _ _ 102 rfl w.heap.size 139 i0 (.agg #[.string ⟨#[]⟩, .nilIface]) 2 32 Tryz.underlying102 hi hz0 hz1 hz2 rfl (by decide) _ _ _ rfl (HO3.out.alloc _) ⟨w3.heap.size, 0, none⟩ 1 1 [.string ⟨n.toArray⟩, .iface et ex] rfl rfl ?c1 ?c2 ?c3 ?c4 ?c5 ?_)
    | fail)
   case c1 => exact two_news w3 (.string ⟨n.toArray⟩) (.iface et ex) 139
   case c2 => intro u hu; simp at hu; rcases hu with rfl | rfl <;> rfl
   case c3 => unfold maxLen; omega
   case c4 => omega
   case c5 => simp; omega
   intro v' w4 hown' hgrow _
   have HO4 : Hid (w4.ownsRow w.heap.size 139 2 v' (l ++ [(n, e)]).length ((l ++ [(n, e)]).flatMap setC)) := by
    rw [List.length_append, List.length_singleton, flat_snoc]
    show World.ownsRow _ _ _ _ _ _ _
    simp only [setC]; rw [HEV.out]; exact hown'
   have HX4 := hd (HX3'.out.kept HX.out hgrow (fun o ho => (HO3.out.lt o ho).1))
   have HG4 : Hid (w.grownBy w4 (some B)) := by
    refine ⟨hgrow.os.trans HG3'.out.os, hgrow.tape.trans HG3'.out.tape, hgrow.output.trans HG3'.out.output, Nat.le_trans HG3'.out.size hgrow.size, fun k hk hne => ?_⟩
    rw [hgrow.block k (Nat.lt_of_lt_of_le hk HG3'.out.size) (by
     intro e
     have := (HO3.out.lt k e.symm).1
     omega)]
    exact HG3'.out.block k hk hne
   have hl4 := HX4.out.atC
   clear hown' hgrow HX3' HG3' HO3
   go_wp2_with fail
   go_roundw
   case rel => exact ⟨l ++ [(n, e)], q2, HO4, (by have := HX4.out; rw [any_snoc]; exact this), HG4, HR3⟩
   case measure => omega
theorem Tryz.info143 : (Tryz.prog.info? 143).map (fun i => (i.zero, i.size, i.bytes)) = some (some (.agg #[.nilIface, .bool false]), 2, 24) := by kernel_rfl
theorem c_listOrder_any (B : Nat) (lv : Value) (ts : List Lx.Tok) (sz : Nat) (dp : Bool) (w : World) (q : List Lx.Tok) (h : Cx w B lv ts sz q dp) :
   Calls Tryz.prog 152 #[.pointer (some ⟨B, 0, none⟩), .func (.func 153) #[.pointer (some ⟨B, 0, none⟩)] #[]] w (OutR w B lv ts sz dp (Px.Sep fun _ => Px.orderR sz) q (lsV B 143 2 orderC) fun l => l.any deepR) := by
 obtain ⟨i0, hi, hz0, hz1, hz2⟩ := info_parts Tryz.info143
 have HX := hd h
 have hlt := h.lt
 have hq2000 : q.length ≤ 2000 := by
  obtain ⟨k, rfl, h⟩ := h
  have := h.len
  simp; omega
 clear h
 go_enter Tryz.func152, Tryz.ntmps152
 go_wp2_with fail
 refine (c_order_any B lv ts sz dp w q HX.out).mono ?_
 rintro x w1 ho
 obtain ⟨hg, ⟨p, c, hr, rfl⟩ | ⟨a, q1, v, hr, rfl, hv, hx⟩⟩ := ho.cases
 · exact ⟨rfl, OutR.err hg (Px.Sep.err0 hr)⟩
 have HR1 := hd (Px.Reach.first (x := fun _ => Px.orderR sz) hr)
 have HX1 := hd hx
 have HG1 := hd hg
 have hs1 := hg.size
 clear hr hx hg ho
 obtain ⟨e, b⟩ := a
 cases hv
 obtain ⟨et, ex, hev⟩ := evi e
 have HEV := hd hev
 simp only [hev]
 clear hev
 have HO1 := hd (ownBase (own_new2 w1 (.iface et ex) (.bool b) 143) hs1)
 have HX1' := hd (HX1.out.below ((Below.refl _ _).alloc (nlr _) (.cells #[.iface et ex, .bool b] 143)))
 have HG1' := hd (gba HG1.out (.cells #[.iface et ex, .bool b] 143))
 clear HX1 HG1
 go_wp2_with fail
 go_loopw [5] (fun v wr => ∃ (l : List (Px.E × Bool)) (q1 : List Lx.Tok), Hid (wr.ownsRow w.heap.size 143 2 v l.length (l.flatMap orderC)) ∧ Hid (Cx wr B lv ts sz q1 (l.any deepR || dp)) ∧ Hid (w.grownBy wr (some B)) ∧ Hid (Px.Reach (fun _ => Px.orderR sz) q l q1)) (fun _ wr => ts.length - atC wr B)
 case atStart => exact ⟨[(e, b)], q1, (by have := HO1.out; simp only [List.flatMap_cons, List.flatMap_nil, List.append_nil, List.length_singleton, orderC]; rw [HEV.out]; exact this), (by show Cx _ _ _ _ _ _ _; have := HX1'.out; simpa using this), HG1', HR1⟩
 case round =>
  clear HR1 HX1' HG1' HO1
  obtain ⟨l, q1, HO, HX1, HG1, HRe⟩ := hrel
  have hll : q1.length + l.length ≤ q.length + 1 := HRe.out.len (fun _ => Px.order_shrinks sz)
  cases hs : Px.sees Px.gComma q1 with
  | false =>
   go_wp2_with fail
   refine (cano ⟨#[44]⟩ wr B lv ts sz q1 _ HX1.out hs (by simp)).mono ?_
   rintro x w2 ⟨rfl, hb⟩
   have HO2 := hd (obw HO.out hb)
   have HB := hd hb
   clear hb
   go_wp2_with fail
   go_ret
   exact OutR.ok (a := l) (gbt HG1.out (Below.grownBy HB.out)) (Px.Sep.stop HRe.out hs) (ownBase HO2.out (by omega)) (HX1.out.below HB.out)
  | true =>
   have hcl := Px.sees_len hs
   go_wp2_with fail
   refine (cay ⟨#[44]⟩ wr B lv ts sz q1 _ HX1.out hs (by simp)).mono ?_
   rintro x w2 ⟨rfl, hx2, hg2⟩
   have HX2 := hd hx2
   have HG2 := hd (gbt HG1.out hg2)
   have HO2 := hd (HO.out.kept hg2 (by
    cases hv : u5.ownBlock with
    | none => exact .inl rfl
    | some g => right; have := (HO.out.lt g hv).1; simp; omega))
   have hl1 := HX1.out.atC
   clear hx2 hg2 HG1 HO
   go_wp2_with fail
   refine (c_order_any B lv ts sz _ w2 q1.tail HX2.out).mono ?_
   rintro x w3 ho
   obtain ⟨hg, ⟨p, c, hr, rfl⟩ | ⟨a, q2, v, hr, rfl, hv, hx⟩⟩ := ho.cases
   · exact ⟨rfl, OutR.err (gbt HG2.out hg) (Px.Sep.err HRe.out hs hr)⟩
   have HR3 := hd (HRe.out.step hs hr)
   have hsh := Px.order_shrinks sz _ _ _ hr
   have HX3 := hd hx
   have HG3 := hd (gbt HG2.out hg)
   have HO3 := hd (HO2.out.kept hg (by
    cases hv : u5.ownBlock with
    | none => exact .inl rfl
    | some g => right; have := (HO2.out.lt g hv).1; simp; omega))
   have hs3 := HG3.out.size
   clear hr hx hg ho HG2 HO2 HX1 HX2
   obtain ⟨e, b⟩ := a
   cases hv
   obtain ⟨et, ex, hev⟩ := evi e
   have HEV := hd hev
   simp only [hev]
   clear hev
   have HX3' := hd (HX3.out.below ((Below.refl _ _).alloc (nlr _) (.cells #[.iface et ex, .bool b] 143)))
   have HG3' := hd (gba HG3.out (.cells #[.iface et ex, .bool b] 143))
   clear HX3 HG3
   go_wp2_with (first
    | (at_builtin; refine wpList_append_own _ rfl _ _ 107 rfl w.heap.size 143 i0 (.agg #[.nilIface, .bool false]) 2 24 Tryz.underlying107 hi hz0 hz1 hz2 rfl (by decide) _ _ _ rfl (HO3.out.alloc _) ⟨w3.heap.size, 0, none⟩ 1 1 [.iface et ex, .bool b] rfl rfl ?c1 ?c2 ?c3 ?c4 ?c5 ?_)
    | fail)
   case c1 => exact two_news w3 (.iface et ex) (.bool b) 143
   case c2 => intro u hu; simp at hu; rcases hu with rfl | rfl <;> rfl
   case c3 => unfold maxLen; omega
   case c4 => omega
   case c5 => simp; omega
   intro v' w4 hown' hgrow _
   have HO4 : Hid (w4.ownsRow w.heap.size 143 2 v' (l ++ [(e, b)]).length ((l ++ [(e, b)]).flatMap orderC)) := by
    rw [List.length_append, List.length_singleton, flat_snoc]
    show World.ownsRow _ _ _ _ _ _ _
    simp only [orderC]; rw [HEV.out]; exact hown'
   have HX4 := hd (HX3'.out.kept HX.out hgrow (fun o ho => (HO3.out.lt o ho).1))
   have HG4 : Hid (w.grownBy w4 (some B)) := by
    refine ⟨hgrow.os.trans HG3'.out.os, hgrow.tape.trans HG3'.out.tape, hgrow.output.trans HG3'.out.output, Nat.le_trans HG3'.out.size hgrow.size, fun k hk hne => ?_⟩
    rw [hgrow.block k (Nat.lt_of_lt_of_le hk HG3'.out.size) (by
     intro e
     have := (HO3.out.lt k e.symm).1
     omega)]
    exact HG3'.out.block k hk hne
   have hl4 := HX4.out.atC
   clear hown' hgrow HX3' HG3' HO3
   go_wp2_with fail
   go_roundw
   case rel => exact ⟨l ++ [(e, b)], q2, HO4, (by have := HX4.out; rw [any_snoc]; exact this), HG4, HR3⟩
   case measure => omega
theorem Tryz.info141 : (Tryz.prog.info? 141).map (fun i => (i.zero, i.size, i.bytes)) = some (some (.agg #[.bool false, .nilIface]), 2, 24) := by kernel_rfl
theorem item_form (x : Option Px.E) : ∃ b ex, itemA x = .agg #[.bool b, ex] ∧ itemC x = [.bool b, ex] ∧ ex.oneCell' = true := by
 cases x with
 | none => exact ⟨true, .nilIface, rfl, rfl, rfl⟩
 | some e => exact ⟨false, ev e, rfl, rfl, by obtain ⟨t, y, h⟩ := evi e; rw [h]; rfl⟩
theorem c_listItem_any (B : Nat) (lv : Value) (ts : List Lx.Tok) (sz : Nat) (dp : Bool) (w : World) (q : List Lx.Tok) (h : Cx w B lv ts sz q dp) :
   Calls Tryz.prog 150 #[.pointer (some ⟨B, 0, none⟩), .func (.func 151) #[.pointer (some ⟨B, 0, none⟩)] #[]] w (OutR w B lv ts sz dp (Px.Sep fun _ => Px.itemR sz) q (lsV B 141 2 itemC) fun l => l.any deepO) := by
 obtain ⟨i0, hi, hz0, hz1, hz2⟩ := info_parts Tryz.info141
 have HX := hd h
 have hlt := h.lt
 have hq2000 : q.length ≤ 2000 := by
  obtain ⟨k, rfl, h⟩ := h
  have := h.len
  simp; omega
 clear h
 go_enter Tryz.func150, Tryz.ntmps150
 go_wp2_with fail
 refine (c_item_any B lv ts sz dp w q HX.out).mono ?_
 rintro x w1 ho
 obtain ⟨hg, ⟨p, c, hr, rfl⟩ | ⟨a, q1, v, hr, rfl, hv, hx⟩⟩ := ho.cases
 · exact ⟨rfl, OutR.err hg (Px.Sep.err0 hr)⟩
 have HR1 := hd (Px.Reach.first (x := fun _ => Px.itemR sz) hr)
 have HX1 := hd hx
 have HG1 := hd hg
 have hs1 := hg.size
 clear hr hx hg ho
 obtain ⟨b, ex, hit, hic, hoc⟩ := item_form a
 have HIC := hd hic
 have HOC := hd hoc
 have hv2 : v = .agg #[.bool b, ex] := hv.trans hit
 subst hv2
 clear hv hit hic hoc
 have HO1 := hd (ownBase (own_new2 w1 (.bool b) ex 141) hs1)
 have HX1' := hd (HX1.out.below ((Below.refl _ _).alloc (nlr _) (.cells #[.bool b, ex] 141)))
 have HG1' := hd (gba HG1.out (.cells #[.bool b, ex] 141))
 clear HX1 HG1
 go_wp2_with fail
 go_loopw [5] (fun v wr => ∃ (l : List (Option Px.E)) (q1 : List Lx.Tok), Hid (wr.ownsRow w.heap.size 141 2 v l.length (l.flatMap itemC)) ∧ Hid (Cx wr B lv ts sz q1 (l.any deepO || dp)) ∧ Hid (w.grownBy wr (some B)) ∧ Hid (Px.Reach (fun _ => Px.itemR sz) q l q1)) (fun _ wr => ts.length - atC wr B)
 case atStart => exact ⟨[a], q1, (by have := HO1.out; simp only [List.flatMap_cons, List.flatMap_nil, List.append_nil, List.length_singleton]; rw [HIC.out]; exact this), (by show Cx _ _ _ _ _ _ _; have := HX1'.out; simpa using this), HG1', HR1⟩
 case round =>
  clear HR1 HX1' HG1' HO1
  obtain ⟨l, q1, HO, HX1, HG1, HRe⟩ := hrel
  have hll : q1.length + l.length ≤ q.length + 1 := HRe.out.len (fun _ => Px.item_shrinks sz)
  cases hs : Px.sees Px.gComma q1 with
  | false =>
   go_wp2_with fail
   refine (cano ⟨#[44]⟩ wr B lv ts sz q1 _ HX1.out hs (by simp)).mono ?_
   rintro x w2 ⟨rfl, hb⟩
   have HO2 := hd (obw HO.out hb)
   have HB := hd hb
   clear hb
   go_wp2_with fail
   go_ret
   exact OutR.ok (a := l) (gbt HG1.out (Below.grownBy HB.out)) (Px.Sep.stop HRe.out hs) (ownBase HO2.out (by omega)) (HX1.out.below HB.out)
  | true =>
   have hcl := Px.sees_len hs
   go_wp2_with fail
   refine (cay ⟨#[44]⟩ wr B lv ts sz q1 _ HX1.out hs (by simp)).mono ?_
   rintro x w2 ⟨rfl, hx2, hg2⟩
   have HX2 := hd hx2
   have HG2 := hd (gbt HG1.out hg2)
   have HO2 := hd (HO.out.kept hg2 (by
    cases hv : u5.ownBlock with
    | none => exact .inl rfl
    | some g => right; have := (HO.out.lt g hv).1; simp; omega))
   have hl1 := HX1.out.atC
   clear hx2 hg2 HG1 HO
   go_wp2_with fail
   refine (c_item_any B lv ts sz _ w2 q1.tail HX2.out).mono ?_
   rintro x w3 ho
   obtain ⟨hg, ⟨p, c, hr, rfl⟩ | ⟨a, q2, v, hr, rfl, hv, hx⟩⟩ := ho.cases
   · exact ⟨rfl, OutR.err (gbt HG2.out hg) (Px.Sep.err HRe.out hs hr)⟩
   have HR3 := hd (HRe.out.step hs hr)
   have hsh := Px.item_shrinks sz _ _ _ hr
   have HX3 := hd hx
   have HG3 := hd (gbt HG2.out hg)
   have HO3 := hd (HO2.out.kept hg (by
    cases hv : u5.ownBlock with
    | none => exact .inl rfl
    | some g => right; have := (HO2.out.lt g hv).1; simp; omega))
   have hs3 := HG3.out.size
   clear hr hx hg ho HG2 HO2 HX1 HX2
   obtain ⟨b, ex, hit, hic, hoc⟩ := item_form a
   have HIC := hd hic
   have HOC := hd hoc
   have hv2 : v = .agg #[.bool b, ex] := hv.trans hit
   subst hv2
   clear hv hit hic hoc
   have HX3' := hd (HX3.out.below ((Below.refl _ _).alloc (nlr _) (.cells #[.bool b, ex] 141)))
   have HG3' := hd (gba HG3.out (.cells #[.bool b, ex] 141))
   clear HX3 HG3
   go_wp2_with (first
    | (at_builtin; refine wpList_append_own _ rfl _ _ 106 rfl w.heap.size 141 i0 (.agg #[.bool false, .nilIface]) 2 24 Tryz.underlying106 hi hz0 hz1 hz2 rfl (by decide) _ _ _ rfl (HO3.out.alloc _) ⟨w3.heap.size, 0, none⟩ 1 1 [.bool b, ex] rfl rfl ?c1 ?c2 ?c3 ?c4 ?c5 ?_)
    | fail)
   case c1 => exact two_news w3 (.bool b) ex 141
   case c2 =>
    intro u hu
    rcases List.mem_cons.1 hu with rfl | hu
    · rfl
    rw [List.mem_singleton] at hu; subst hu; exact HOC.out
   case c3 => unfold maxLen; omega
   case c4 => omega
   case c5 => simp; omega
   intro v' w4 hown' hgrow _
   have HO4 : Hid (w4.ownsRow w.heap.size 141 2 v' (l ++ [a]).length ((l ++ [a]).flatMap itemC)) := by
    rw [List.length_append, List.length_singleton, flat_snoc]
    show World.ownsRow _ _ _ _ _ _ _
    rw [HIC.out]; exact hown'
   have HX4 := hd (HX3'.out.kept HX.out hgrow (fun o ho => (HO3.out.lt o ho).1))
   have HG4 : Hid (w.grownBy w4 (some B)) := by
    refine ⟨hgrow.os.trans HG3'.out.os, hgrow.tape.trans HG3'.out.tape, hgrow.output.trans HG3'.out.output, Nat.le_trans HG3'.out.size hgrow.size, fun k hk hne => ?_⟩
    rw [hgrow.block k (Nat.lt_of_lt_of_le hk HG3'.out.size) (by
     intro e
     have := (HO3.out.lt k e.symm).1
     omega)]
    exact HG3'.out.block k hk hne
   have hl4 := HX4.out.atC
   clear hown' hgrow HX3' HG3' HO3
   go_wp2_with fail
   go_roundw
   case rel => exact ⟨l ++ [a], q2, HO4, (by have := HX4.out; rw [any_snoc]; exact this), HG4, HR3⟩
   case measure => omega
def deepL (l : List Px.E) : Bool := l.any deepE
theorem c_row_any (B : Nat) (lv : Value) (ts : List Lx.Tok) (sz : Nat) (dp : Bool) (w : World) (q : List Lx.Tok) (h : Cx w B lv ts sz q dp) :
   Calls Tryz.prog 146 #[.pointer (some ⟨B, 0, none⟩)] w (OutR w B lv ts sz dp (Px.rowR sz) q (lsV B 97 1 exC) deepL) := by
 have hmf : ∀ (fn : Fn) (first cap : Array Value) (w : World), (Instr.makeFunc fn first cap).run Tryz.prog w = .ok (.func fn first cap) w := fun _ _ _ _ => rfl
 have HX := hd h
 clear h
 go_enter Tryz.func146, Tryz.ntmps146
 go_wp2_with fail
 refine (c_expect_new ⟨#[40]⟩ w B lv ts sz q dp HX.out (by simp)).mono ?_
 rintro x w1 ho
 obtain ⟨hg, ⟨p, c, hr, rfl⟩ | ⟨_, q1, v, hr, rfl, hv, hx⟩⟩ := ho.cases
 · exact ⟨rfl, OutR.err hg (Px.Rg.err hr)⟩
 cases hv
 have HR1 := hd hr
 have HX1 : Hid (Cx w1 B lv ts sz q1 dp) := hx
 have HG1 := hd hg
 clear hr hx hg ho
 go_wp2_with fail
 refine (c_listExpr_any B lv ts sz dp w1 q1 HX1.out).mono ?_
 rintro x w2 ho
 obtain ⟨hg, ⟨p, c, hr, rfl⟩ | ⟨l, q2, v, hr, rfl, hv, hx⟩⟩ := ho.cases
 · exact ⟨rfl, OutR.err (gbt HG1.out hg) (Px.Rg.go HR1.out (Px.Rg.err hr))⟩
 have HR2 := hd hr
 have HX2 := hd hx
 have HG2 := hd (gbt HG1.out hg)
 have HV2 := hd hv
 obtain ⟨ao, n, cp, rfl⟩ : ∃ ao n cp, v = .slice ao n cp := by
  rcases hv.2 with ⟨rfl, _⟩ | ⟨g, cap, cur, rfl, _⟩
  · exact ⟨_, _, _, rfl⟩
  exact ⟨_, _, _, rfl⟩
 clear hr hx hg ho HG1 hv
 go_wp2_with fail
 refine (c_expect_new ⟨#[41]⟩ w2 B lv ts sz q2 _ HX2.out (by simp)).mono ?_
 rintro x w3 ho
 obtain ⟨hg, ⟨p, c, hr, rfl⟩ | ⟨_, q3, v, hr, rfl, hv, hx⟩⟩ := ho.cases
 · exact ⟨rfl, OutR.err (gbt HG2.out hg) (Px.Rg.go HR1.out (Px.Rg.go HR2.out (Px.Rg.err hr)))⟩
 cases hv
 have HR3 := hd hr
 have HX3 := hd hx
 have HV3 := hd (HV2.out.kept hg (by
  cases hv : Value.ownBlock (.slice ao n cp) with
  | none => exact .inl rfl
  | some g => right; have := (HV2.out.lt g hv).1; simp; omega))
 have HG3 := hd (gbt HG2.out hg)
 clear hr hx hg ho HG2 HV2
 go_wp2_with fail
 go_ret
 exact OutR.ok (a := l) HG3.out (Px.Rg.go HR1.out (Px.Rg.go HR2.out (Px.Rg.go HR3.out rfl))) HV3.out HX3.out
def RowsIs (w : World) (base : Nat) : List (List Px.E) → List Value → Prop
 | [], [] => True
 | r :: l, v :: vs => w.ownsRow base 97 1 v r.length (r.flatMap exC) ∧ RowsIs w base l vs
 | _, _ => False
theorem RowsIs.map {w w' : World} {base : Nat} (f : ∀ (r : List Px.E) (v : Value), w.ownsRow base 97 1 v r.length (r.flatMap exC) → w'.ownsRow base 97 1 v r.length (r.flatMap exC)) : ∀ {l : List (List Px.E)} {vs : List Value}, RowsIs w base l vs → RowsIs w' base l vs
 | [], [], _ => trivial
 | r :: l, v :: vs, h => ⟨f r v h.1, RowsIs.map f h.2⟩
 | [], _ :: _, h => h.elim
 | _ :: _, [], h => h.elim
theorem RowsIs.snoc {w : World} {base : Nat} {r : List Px.E} {v : Value} (hr : w.ownsRow base 97 1 v r.length (r.flatMap exC)) : ∀ {l : List (List Px.E)} {vs : List Value}, RowsIs w base l vs → RowsIs w base (l ++ [r]) (vs ++ [v])
 | [], [], _ => ⟨hr, trivial⟩
 | _ :: _, _ :: _, h => ⟨h.1, RowsIs.snoc hr h.2⟩
 | [], _ :: _, h => h.elim
 | _ :: _, [], h => h.elim
def rowsV (B : Nat) (l : List (List Px.E)) (v : Value) (w : World) : Prop := ∃ vs, w.ownsRow (B + 1) 136 1 v l.length vs ∧ RowsIs w (B + 1) l vs
theorem osl {w : World} {base : Nat} {e : TypeId} {size : Nat} {v : Value} {n : Nat} {xs : List Value} (h : w.ownsRow base e size v n xs) : ∃ ao n cp, v = .slice ao n cp := by
 rcases h.2 with ⟨rfl, _⟩ | ⟨g, cap, cur, rfl, _⟩
 · exact ⟨_, _, _, rfl⟩
 exact ⟨_, _, _, rfl⟩
theorem oal {w : World} {base : Nat} {e : TypeId} {size : Nat} {v : Value} {n : Nat} {xs : List Value} (h : w.ownsRow base e size v n xs) (o : Obj) : (w.alloc o).ownsRow base e size v n xs := h.alloc o
theorem own_far {w w' : World} {B : Nat} {e : TypeId} {size : Nat} {v : Value} {n : Nat} {xs : List Value} (h : w.ownsRow (B + 1) e size v n xs) (hg : w.grownBy w' (some B)) : w'.ownsRow (B + 1) e size v n xs :=
 h.kept hg (by
  cases hv : v.ownBlock with
  | none => exact .inl rfl
  | some g => right; have := (h.lt g hv).1; simp; omega)
theorem own_type {w : World} {base : Nat} {e : TypeId} {size : Nat} {v : Value} {n : Nat} {xs : List Value} (h : w.ownsRow base e size v n xs) : ∀ g, v.ownBlock = some g → ∃ cur, w.heap[g]? = some (.cells cur e (0, 0)) := by
 intro g hg
 rcases h.2 with ⟨rfl, _⟩ | ⟨g', cap, cur, rfl, _, hh, _⟩
 · simp [Value.ownBlock] at hg
 simp [Value.ownBlock] at hg
 subst hg
 exact ⟨cur, hh⟩
theorem own_apart {w : World} {b1 b2 : Nat} {e1 e2 : TypeId} {s1 s2 : Nat} {v1 v2 : Value} {n1 n2 : Nat} {x1 x2 : List Value} (h1 : w.ownsRow b1 e1 s1 v1 n1 x1) (h2 : w.ownsRow b2 e2 s2 v2 n2 x2) (hne : e1 ≠ e2) : v1.ownBlock = none ∨ v1.ownBlock ≠ v2.ownBlock := by
 cases hv : v1.ownBlock with
 | none => exact .inl rfl
 | some g =>
  right
  intro e
  obtain ⟨c1, k1⟩ := own_type h1 g hv
  obtain ⟨c2, k2⟩ := own_type h2 g e.symm
  rw [k1] at k2
  simp only [Option.some.injEq, Obj.cells.injEq] at k2
  exact hne k2.2.1
theorem Tryz.info136 : (Tryz.prog.info? 136).map (fun i => (i.zero, i.size, i.bytes)) = some (some (.slice none 0 0), 1, 24) := by kernel_rfl
theorem c_listRow_any (B : Nat) (lv : Value) (ts : List Lx.Tok) (sz : Nat) (dp : Bool) (w : World) (q : List Lx.Tok) (h : Cx w B lv ts sz q dp) :
   Calls Tryz.prog 145 #[.pointer (some ⟨B, 0, none⟩), .func (.func 146) #[.pointer (some ⟨B, 0, none⟩)] #[]] w (OutR w B lv ts sz dp (Px.Sep fun _ => Px.rowR sz) q (rowsV B) fun l => l.any deepL) := by
 obtain ⟨i0, hi, hz0, hz1, hz2⟩ := info_parts Tryz.info136
 have HX := hd h
 have hlt := h.lt
 have hq2000 : q.length ≤ 2000 := by
  obtain ⟨k, rfl, h⟩ := h
  have := h.len
  simp; omega
 clear h
 go_enter Tryz.func145, Tryz.ntmps145
 go_wp2_with fail
 refine (c_row_any B lv ts sz dp w q HX.out).mono ?_
 rintro x w1 ho
 obtain ⟨hg, ⟨p, c, hr, rfl⟩ | ⟨a, q1, v, hr, rfl, hv, hx⟩⟩ := ho.cases
 · exact ⟨rfl, OutR.err hg (Px.Sep.err0 hr)⟩
 have HR1 := hd (Px.Reach.first (x := fun _ => Px.rowR sz) hr)
 have HX1 := hd hx
 have HG1 := hd hg
 have hs1 := hg.size
 clear hr hx hg ho
 have HV1 := hd hv
 obtain ⟨ao, n, cp, rfl⟩ := osl hv
 clear hv
 have HO1 := hd (ownBase (own_new1 w1 (.slice ao n cp) 136) hs1)
 have HX1' := hd (HX1.out.below ((Below.refl _ _).alloc (nlr _) (.cells #[.slice ao n cp] 136)))
 have HG1' := hd (gba HG1.out (.cells #[.slice ao n cp] 136))
 clear HX1 HG1
 go_wp2_with fail
 go_loopw [5] (fun v wr => ∃ (l : List (List Px.E)) (vs : List Value) (q1 : List Lx.Tok), Hid (wr.ownsRow w.heap.size 136 1 v l.length vs) ∧ Hid (RowsIs wr (B + 1) l vs) ∧ Hid (Cx wr B lv ts sz q1 (l.any deepL || dp)) ∧ Hid (w.grownBy wr (some B)) ∧ Hid (Px.Reach (fun _ => Px.rowR sz) q l q1)) (fun _ wr => ts.length - atC wr B)
 case atStart => exact ⟨[a], [.slice ao n cp], q1, HO1, ⟨(oal HV1.out _), trivial⟩, (by show Cx _ _ _ _ _ _ _; have := HX1'.out; simpa using this), HG1', HR1⟩
 case round =>
  clear HR1 HX1' HG1' HO1 HV1
  obtain ⟨l, vs, q1, HO, HRo, HX1, HG1, HRe⟩ := hrel
  have hll : q1.length + l.length ≤ q.length + 1 := HRe.out.len (fun _ => Px.row_shrinks sz)
  cases hs : Px.sees Px.gComma q1 with
  | false =>
   go_wp2_with fail
   refine (cano ⟨#[44]⟩ wr B lv ts sz q1 _ HX1.out hs (by simp)).mono ?_
   rintro x w2 ⟨rfl, hb⟩
   have HO2 := hd (obw HO.out hb)
   have HRo2 := hd (HRo.out.map fun r v hr => obw hr hb)
   have HB := hd hb
   clear hb
   go_wp2_with fail
   go_ret
   exact OutR.ok (a := l) (gbt HG1.out (Below.grownBy HB.out)) (Px.Sep.stop HRe.out hs) ⟨vs, ownBase HO2.out (by omega), HRo2.out⟩ (HX1.out.below HB.out)
  | true =>
   have hcl := Px.sees_len hs
   go_wp2_with fail
   refine (cay ⟨#[44]⟩ wr B lv ts sz q1 _ HX1.out hs (by simp)).mono ?_
   rintro x w2 ⟨rfl, hx2, hg2⟩
   have HX2 := hd hx2
   have HG2 := hd (gbt HG1.out hg2)
   have HO2 := hd (HO.out.kept hg2 (by
    cases hv : u5.ownBlock with
    | none => exact .inl rfl
    | some g => right; have := (HO.out.lt g hv).1; simp; omega))
   have HRo2 := hd (HRo.out.map fun r v hr => own_far hr hg2)
   have hl1 := HX1.out.atC
   clear hx2 hg2 HG1 HO HRo
   go_wp2_with fail
   refine (c_row_any B lv ts sz _ w2 q1.tail HX2.out).mono ?_
   rintro x w3 ho
   obtain ⟨hg, ⟨p, c, hr, rfl⟩ | ⟨a, q2, v, hr, rfl, hv, hx⟩⟩ := ho.cases
   · exact ⟨rfl, OutR.err (gbt HG2.out hg) (Px.Sep.err HRe.out hs hr)⟩
   have HR3 := hd (HRe.out.step hs hr)
   have hsh := Px.row_shrinks sz _ _ _ hr
   have HX3 := hd hx
   have HG3 := hd (gbt HG2.out hg)
   have HO3 := hd (HO2.out.kept hg (by
    cases hv : u5.ownBlock with
    | none => exact .inl rfl
    | some g => right; have := (HO2.out.lt g hv).1; simp; omega))
   have HRo3 := hd (HRo2.out.map fun r v hr => own_far hr hg)
   have hs3 := HG3.out.size
   clear hr hx hg ho HG2 HO2 HX1 HX2 HRo2
   have HV3 := hd hv
   obtain ⟨ao, n, cp, rfl⟩ := osl hv
   clear hv
   have HX3' := hd (HX3.out.below ((Below.refl _ _).alloc (nlr _) (.cells #[.slice ao n cp] 136)))
   have HG3' := hd (gba HG3.out (.cells #[.slice ao n cp] 136))
   clear HX3 HG3
   go_wp2_with (first
    | (at_builtin; refine wpList_append_own _ rfl _ _ 92 rfl w.heap.size 136 i0 (.slice none 0 0) 1 24 Tryz.underlying92 hi hz0 hz1 hz2 rfl (by decide) _ _ _ rfl (HO3.out.alloc _) ⟨w3.heap.size, 0, none⟩ 1 1 [.slice ao n cp] rfl rfl ?c1 ?c2 ?c3 ?c4 ?c5 ?_)
    | fail)
   case c1 => exact one_news w3 (.slice ao n cp) 136
   case c2 => intro u hu; rw [List.mem_singleton] at hu; subst hu; rfl
   case c3 => unfold maxLen; omega
   case c4 => omega
   case c5 => simp; omega
   intro v' w4 hown' hgrow _
   have HO4 : Hid (w4.ownsRow w.heap.size 136 1 v' (l ++ [a]).length (vs ++ [.slice ao n cp])) := by
    rw [List.length_append, List.length_singleton]
    exact hown'
   have HRo4 : Hid (RowsIs w4 (B + 1) (l ++ [a]) (vs ++ [.slice ao n cp])) := by
    refine RowsIs.snoc ?_ (HRo3.out.map fun r v hr => ?_)
    · exact (oal HV3.out _).kept hgrow (own_apart (oal HV3.out (.cells #[.slice ao n cp] 136)) (HO3.out.alloc (.cells #[.slice ao n cp] 136)) (by decide))
    exact (oal hr _).kept hgrow (own_apart (oal hr (.cells #[.slice ao n cp] 136)) (HO3.out.alloc (.cells #[.slice ao n cp] 136)) (by decide))
   have HX4 := hd (HX3'.out.kept HX.out hgrow (fun o ho => (HO3.out.lt o ho).1))
   have HG4 : Hid (w.grownBy w4 (some B)) := by
    refine ⟨hgrow.os.trans HG3'.out.os, hgrow.tape.trans HG3'.out.tape, hgrow.output.trans HG3'.out.output, Nat.le_trans HG3'.out.size hgrow.size, fun k hk hne => ?_⟩
    rw [hgrow.block k (Nat.lt_of_lt_of_le hk HG3'.out.size) (by
     intro e
     have := (HO3.out.lt k e.symm).1
     omega)]
    exact HG3'.out.block k hk hne
   have hl4 := HX4.out.atC
   clear hown' hgrow HX3' HG3' HO3 HRo3 HV3
   go_wp2_with fail
   go_roundw
   case rel => exact ⟨l ++ [a], vs ++ [.slice ao n cp], q2, HO4, HRo4, (by have := HX4.out; rw [any_snoc]; exact this), HG4, HR3⟩
   case measure => omega
structure Grow2 (w w' : World) (B C : Nat) : Prop where
 os : w'.os = w.os
 tape : w'.tape = w.tape
 output : w'.output = w.output
 size : w.heap.size ≤ w'.heap.size
 block : ∀ k, k < w.heap.size → k ≠ B → k ≠ C → w'.heap[k]? = w.heap[k]?
theorem Grow2.trans {w w1 w2 : World} {B C : Nat} (h : Grow2 w w1 B C) (k : Grow2 w1 w2 B C) : Grow2 w w2 B C :=
 ⟨k.os.trans h.os, k.tape.trans h.tape, k.output.trans h.output, Nat.le_trans h.size k.size, fun i hi h1 h2 => (k.block i (Nat.lt_of_lt_of_le hi h.size) h1 h2).trans (h.block i hi h1 h2)⟩
theorem Grow2.of {w w' : World} {B C : Nat} (h : w.grownBy w' (some B)) : Grow2 w w' B C := ⟨h.os, h.tape, h.output, h.size, fun k hk h1 _ => h.block k hk (by simpa using h1)⟩
theorem Grow2.of2 {w w' : World} {B C : Nat} (h : w.grownBy w' (some C)) : Grow2 w w' B C := ⟨h.os, h.tape, h.output, h.size, fun k hk _ h2 => h.block k hk (by simpa using h2)⟩
theorem Grow2.blk {w w' : World} {b B C : Nat} {cs : Array Value} {t : TypeId} (hg : Grow2 w w' B C) (h : Blk w b cs t) (h1 : b ≠ B) (h2 : b ≠ C) : Blk w' b cs t := by
 unfold Blk at h ⊢
 rw [hg.block b (Array.getElem?_eq_some_iff.1 h).1 h1 h2]
 exact h
theorem Grow2.own {w w' : World} {B C base : Nat} {e : TypeId} {size : Nat} {v : Value} {n : Nat} {xs : List Value} (hg : Grow2 w w' B C) (h : w.ownsRow base e size v n xs) (h1 : B < base) (h2 : C < base) : w'.ownsRow base e size v n xs := by
 refine ⟨h.1, ?_⟩
 rcases h.2 with hn | ⟨g, cap, cur, rfl, hb, hh, r⟩
 · exact .inl hn
 refine .inr ⟨g, cap, cur, rfl, hb, ?_, r⟩
 rw [hg.block g (Array.getElem?_eq_some_iff.1 hh).1 (by omega) (by omega)]
 exact hh
def OutC (w : World) (B C D : Nat) (lv : Value) (ts : List Lx.Tok) (sz : Nat) (dp : Bool) (i : Nat) (q : List Lx.Tok) (x : Ending) (w' : World) : Prop :=
 Grow2 w w' B C ∧ ((∃ p c, Px.colR sz i q (.error (p, c)) ∧ x = Flt p c) ∨ ∃ n k q', Px.colR sz i q (.ok ((n, k), q')) ∧ x = .returned (.agg #[.string ⟨n.toArray⟩, .int .i64 (k : Int)]) ∧ Cx w' B lv ts sz q' dp ∧ Blk w' C #[.int .i64 ((i : Int) + 1)] 3 ∧ Blk w' D #[.pointer (some ⟨B, 0, none⟩)] 144)
theorem c_create1_any (B C D : Nat) (lv : Value) (ts : List Lx.Tok) (sz : Nat) (dp dp0 : Bool) (w0 w : World) (q0 q : List Lx.Tok) (h0 : Cx w0 B lv ts sz q0 dp0) (hC0 : w0.heap.size ≤ C) (hD0 : w0.heap.size ≤ D) (hCD : C ≠ D) (h : Cx w B lv ts sz q dp) (i : Nat) (hi : i ≤ 3000) (hC : Blk w C #[.int .i64 (i : Int)] 3) (hD : Blk w D #[.pointer (some ⟨B, 0, none⟩)] 144) :
   Calls Tryz.prog 142 #[.pointer (some ⟨C, 0, none⟩), .pointer (some ⟨D, 0, none⟩)] w (OutC w B C D lv ts sz dp i q) := by
 have hBlt := h0.lt
 have hClt := hC.lt
 have hDlt := hD.lt
 have x1 : ¬ C = w.heap.size := by omega
 have x2 : ¬ w.heap.size = C := by omega
 have x3 : ¬ D = w.heap.size := by omega
 have x4 : ¬ w.heap.size = D := by omega
 have x5 : ¬ C = D := hCD
 have x6 : ¬ D = C := fun e => hCD e.symm
 have c0 : w.cell? ⟨C, 0, none⟩ = some (.int .i64 (i : Int)) := hC.cell 0
 have f0 := hC.free 0
 have d0 : w.cell? ⟨D, 0, none⟩ = some (.pointer (some ⟨B, 0, none⟩)) := hD.cell 0
 have HC := hd hC
 have HD := hd hD
 have HX := hd h
 have H0 := hd h0
 clear hC hD h h0
 go_enter Tryz.func142, Tryz.ntmps142
 go_wp2_with fail
 have HE : Hid (Cx ((w.setCell ⟨C, 0, none⟩ (.int .i64 ((i : Int) + 1))).alloc (.cells #[.string ⟨#[]⟩, .int .i64 0] 135)) B lv ts sz q dp) := (HX.out.far H0.out hC0 0 _).below ((Below.refl _ _).alloc (nlr _) _)
 refine (c_column_any B lv ts sz dp _ q HE.out i (by omega)).mono ?_
 rintro x w2 ho
 have KC := (HC.out.set 0 (.int .i64 ((i : Int) + 1))).alloc (.cells #[.string ⟨#[]⟩, .int .i64 0] 135)
 have KD := (HD.out.far ⟨C, 0, none⟩ (.int .i64 ((i : Int) + 1)) x5).alloc (.cells #[.string ⟨#[]⟩, .int .i64 0] 135)
 have KR := Blk.new (w.setCell ⟨C, 0, none⟩ (.int .i64 ((i : Int) + 1))) #[.string ⟨#[]⟩, .int .i64 0] 135
 have hsc : (w.setCell ⟨C, 0, none⟩ (.int .i64 ((i : Int) + 1))).heap.size = w.heap.size := by simp [World.setCell]
 rw [hsc] at KR
 obtain ⟨hg, hcase⟩ := ho.cases
 have HG : Hid (Grow2 w w2 B C) := (Grow2.of2 (gba (gbs w C 0 (.int .i64 ((i : Int) + 1))) (.cells #[.string ⟨#[]⟩, .int .i64 0] 135))).trans (Grow2.of hg)
 rcases hcase with ⟨p, c, hr, rfl⟩ | ⟨⟨n, k⟩, q1, v, hr, rfl, hv, hx⟩
 · exact ⟨rfl, HG.out, .inl ⟨p, c, hr, rfl⟩⟩
 cases hv
 have HR1 := hd hr
 have HX1 : Hid (Cx w2 B lv ts sz q1 dp) := hx
 have HC2 := hd (KC.grown hg (by omega))
 have HD2 := hd (KD.grown hg (by omega))
 have HK2 := hd (KR.grown hg (by omega))
 have m0 : w2.cell? ⟨w.heap.size, 0, none⟩ = some (.string ⟨#[]⟩) := HK2.out.cell 0
 have m1 : w2.cell? ⟨w.heap.size, 1, none⟩ = some (.int .i64 0) := HK2.out.cell 1
 have g0 := HK2.out.free 0
 have g1 := HK2.out.free 1
 have hw0 : w0.heap.size ≤ w.heap.size := by omega
 clear hr hx hg ho KC KD KR hsc HE
 go_wp2_with fail
 have KF := (HK2.out.set 0 (.string ⟨n.toArray⟩)).set 1 (.int .i64 (k : Int))
 have e0 := KF.cell 0
 have e1 := KF.cell 1
 simp at e0 e1
 refine bodyPost_ret (v := .agg #[.string ⟨n.toArray⟩, .int .i64 (k : Int)]) (by simp [results, Tryz.results142, go_sem, e0, e1]) rfl ?_
 refine ⟨?_, .inr ⟨n, k, q1, HR1.out, rfl, (HX1.out.far H0.out hw0 0 _).far H0.out hw0 1 _, (HC2.out.far ⟨w.heap.size, 0, none⟩ _ x2).far ⟨w.heap.size, 1, none⟩ _ x2, (HD2.out.far ⟨w.heap.size, 0, none⟩ _ x4).far ⟨w.heap.size, 1, none⟩ _ x4⟩⟩
 refine ⟨HG.out.os, HG.out.tape, HG.out.output, by simpa [World.setCell] using HG.out.size, fun j hj h1 h2 => ?_⟩
 rw [Below.heap_setCell _ _ _ _ (by show j ≠ w.heap.size; omega), Below.heap_setCell _ _ _ _ (by show j ≠ w.heap.size; omega)]
 exact HG.out.block j hj h1 h2
theorem Tryz.info135 : (Tryz.prog.info? 135).map (fun i => (i.zero, i.size, i.bytes)) = some (some (.agg #[.string ⟨#[]⟩, .int .i64 0]), 2, 24) := by kernel_rfl
def OutCL (w : World) (B C : Nat) (lv : Value) (ts : List Lx.Tok) (sz : Nat) (dp : Bool) (q : List Lx.Tok) (x : Ending) (w' : World) : Prop :=
 Grow2 w w' B C ∧ ((∃ p c, Px.Sep (Px.colR sz) q (.error (p, c)) ∧ x = Flt p c) ∨ ∃ l q' v, Px.Sep (Px.colR sz) q (.ok (l, q')) ∧ x = .returned v ∧ w'.ownsRow w.heap.size 135 2 v l.length (l.flatMap colC) ∧ Cx w' B lv ts sz q' dp)
theorem c_listColumn_any (B C D : Nat) (lv : Value) (ts : List Lx.Tok) (sz : Nat) (dp dp0 : Bool) (w0 w : World) (q0 q : List Lx.Tok) (h0 : Cx w0 B lv ts sz q0 dp0) (hC0 : w0.heap.size ≤ C) (hD0 : w0.heap.size ≤ D) (hCD : C ≠ D) (h : Cx w B lv ts sz q dp) (hC : Blk w C #[.int .i64 0] 3) (hD : Blk w D #[.pointer (some ⟨B, 0, none⟩)] 144) :
   Calls Tryz.prog 141 #[.pointer (some ⟨B, 0, none⟩), .func (.func 142) #[] #[.pointer (some ⟨C, 0, none⟩), .pointer (some ⟨D, 0, none⟩)]] w (OutCL w B C lv ts sz dp q) := by
 obtain ⟨i0, hi, hz0, hz1, hz2⟩ := info_parts Tryz.info135
 have HX := hd h
 have H0 := hd h0
 have hlt := h.lt
 have hBlt := h0.lt
 have hClt := hC.lt
 have hDlt := hD.lt
 have hq2000 : q.length ≤ 2000 := by
  obtain ⟨k, rfl, h⟩ := h
  have := h.len
  simp; omega
 have HC := hd hC
 have HD := hd hD
 clear h h0 hC hD
 go_enter Tryz.func141, Tryz.ntmps141
 go_wp2_with fail
 refine (c_create1_any B C D lv ts sz dp dp0 w0 w q0 q H0.out hC0 hD0 hCD HX.out 0 (by omega) HC.out HD.out).mono ?_
 rintro x w1 ⟨hg, ⟨p, c, hr, rfl⟩ | ⟨n, k, q1, hr, rfl, hx, kC, kD⟩⟩
 · exact ⟨rfl, hg, .inl ⟨p, c, Px.Sep.err0 hr, rfl⟩⟩
 have HR1 := hd (Px.Reach.first (x := Px.colR sz) hr)
 have hs1 := hg.size
 have HO1 := hd (ownBase (own_new2 w1 (.string ⟨n.toArray⟩) (.int .i64 (k : Int)) 135) hs1)
 have HX1' := hd (hx.below ((Below.refl _ _).alloc (nlr _) (.cells #[.string ⟨n.toArray⟩, .int .i64 (k : Int)] 135)))
 have HG1' : Hid (Grow2 w (w1.alloc (.cells #[.string ⟨n.toArray⟩, .int .i64 (k : Int)] 135)) B C) := hg.trans (Grow2.of (gba (grownBy_refl w1 _) _))
 have HC1 := hd (kC.alloc (.cells #[.string ⟨n.toArray⟩, .int .i64 (k : Int)] 135))
 have HD1 := hd (kD.alloc (.cells #[.string ⟨n.toArray⟩, .int .i64 (k : Int)] 135))
 clear hr hx hg kC kD HC HD
 go_wp2_with fail
 go_loopw [5] (fun v wr => ∃ (l : List (Lx.Bs × Nat)) (q1 : List Lx.Tok), Hid (wr.ownsRow w.heap.size 135 2 v l.length (l.flatMap colC)) ∧ Hid (Cx wr B lv ts sz q1 dp) ∧ Hid (Grow2 w wr B C) ∧ Hid (Px.Reach (Px.colR sz) q l q1) ∧ Hid (Blk wr C #[.int .i64 (l.length : Int)] 3) ∧ Hid (Blk wr D #[.pointer (some ⟨B, 0, none⟩)] 144)) (fun _ wr => ts.length - atC wr B)
 case atStart => exact ⟨[(n, k)], q1, HO1, HX1', HG1', HR1, HC1, HD1⟩
 case round =>
  clear HR1 HX1' HG1' HO1 HC1 HD1
  obtain ⟨l, q1, HO, HX1, HG1, HRe, HC1, HD1⟩ := hrel
  have hll : q1.length + l.length ≤ q.length + 1 := HRe.out.len (fun _ => Px.col_shrinks sz _)
  cases hs : Px.sees Px.gComma q1 with
  | false =>
   go_wp2_with fail
   refine (cano ⟨#[44]⟩ wr B lv ts sz q1 _ HX1.out hs (by simp)).mono ?_
   rintro x w2 ⟨rfl, hb⟩
   have HO2 := hd (obw HO.out hb)
   have HB := hd hb
   clear hb
   go_wp2_with fail
   go_ret
   exact ⟨HG1.out.trans (Grow2.of (Below.grownBy HB.out)), .inr ⟨l, q1, _, Px.Sep.stop HRe.out hs, rfl, HO2.out, HX1.out.below HB.out⟩⟩
  | true =>
   have hcl := Px.sees_len hs
   go_wp2_with fail
   refine (cay ⟨#[44]⟩ wr B lv ts sz q1 _ HX1.out hs (by simp)).mono ?_
   rintro x w2 ⟨rfl, hx2, hg2⟩
   have HX2 := hd hx2
   have HG2 := hd (HG1.out.trans (Grow2.of hg2))
   have HO2 := hd (HO.out.kept hg2 (by
    cases hv : u5.ownBlock with
    | none => exact .inl rfl
    | some g => right; have := (HO.out.lt g hv).1; simp; omega))
   have HC2 := hd (HC1.out.grown hg2 (by omega))
   have HD2 := hd (HD1.out.grown hg2 (by omega))
   have hl1 := HX1.out.atC
   clear hx2 hg2 HG1 HO HC1 HD1
   go_wp2_with fail
   refine (c_create1_any B C D lv ts sz dp dp0 w0 w2 q0 q1.tail H0.out hC0 hD0 hCD HX2.out l.length (by omega) HC2.out HD2.out).mono ?_
   rintro x w3 ⟨hg, ⟨p, c, hr, rfl⟩ | ⟨n, k, q2, hr, rfl, hx, kC, kD⟩⟩
   · exact ⟨rfl, HG2.out.trans hg, .inl ⟨p, c, Px.Sep.err HRe.out hs hr, rfl⟩⟩
   have HR3 := hd (HRe.out.step hs hr)
   have hsh := Px.col_shrinks sz _ _ _ _ hr
   have HG3 := hd (HG2.out.trans hg)
   have HO3 := hd (hg.own HO2.out (by omega) (by omega))
   have hs3 := HG3.out.size
   have HX3' := hd (hx.below ((Below.refl _ _).alloc (nlr _) (.cells #[.string ⟨n.toArray⟩, .int .i64 (k : Int)] 135)))
   have HG3' : Hid (Grow2 w (w3.alloc (.cells #[.string ⟨n.toArray⟩, .int .i64 (k : Int)] 135)) B C) := HG3.out.trans (Grow2.of (gba (grownBy_refl w3 _) _))
   have HC3 := hd (kC.alloc (.cells #[.string ⟨n.toArray⟩, .int .i64 (k : Int)] 135))
   have HD3 := hd (kD.alloc (.cells #[.string ⟨n.toArray⟩, .int .i64 (k : Int)] 135))
   clear hr hx hg kC kD HG2 HO2 HX1 HX2 HG3 HC2 HD2
   go_wp2_with (first
    | (at_builtin; refine wpList_append_own _ rfl _ _ 85 rfl w.heap.size 135 i0 (.agg #[.string ⟨#[]⟩, .int .i64 0]) 2 24 Tryz.underlying85 hi hz0 hz1 hz2 rfl (by decide) _ _ _ rfl (HO3.out.alloc _) ⟨w3.heap.size, 0, none⟩ 1 1 [.string ⟨n.toArray⟩, .int .i64 (k : Int)] rfl rfl ?c1 ?c2 ?c3 ?c4 ?c5 ?_)
    | fail)
   case c1 => exact two_news w3 (.string ⟨n.toArray⟩) (.int .i64 (k : Int)) 135
   case c2 => intro u hu; simp at hu; rcases hu with rfl | rfl <;> rfl
   case c3 => unfold maxLen; omega
   case c4 => omega
   case c5 => simp; omega
   intro v' w4 hown' hgrow _
   have HO4 : Hid (w4.ownsRow w.heap.size 135 2 v' (l ++ [(n, k)]).length ((l ++ [(n, k)]).flatMap colC)) := by
    rw [List.length_append, List.length_singleton, flat_snoc]
    exact hown'
   have hrow : ∀ o, u5.ownBlock = some o → w.heap.size ≤ o := fun o ho => (HO3.out.lt o ho).1
   have HX4 := hd (HX3'.out.kept HX.out hgrow hrow)
   have keepB : ∀ (b : Nat) (cs : Array Value) (t : TypeId), b < w.heap.size → Blk (w3.alloc (.cells #[.string ⟨n.toArray⟩, .int .i64 (k : Int)] 135)) b cs t → Blk w4 b cs t := by
    intro b cs t hb hB
    unfold Blk at hB ⊢
    rw [hgrow.block b (Array.getElem?_eq_some_iff.1 hB).1 (by intro e; have := hrow b e.symm; omega)]
    exact hB
   have HC4 : Hid (Blk w4 C #[.int .i64 ((l ++ [(n, k)]).length : Int)] 3) := by
    have := keepB C _ _ hClt HC3.out
    show Blk _ _ _ _
    rw [List.length_append, List.length_singleton, show ((l.length + 1 : Nat) : Int) = (l.length : Int) + 1 by omega]
    exact this
   have HD4 := hd (keepB D _ _ hDlt HD3.out)
   have HG4 : Hid (Grow2 w w4 B C) := by
    refine ⟨hgrow.os.trans HG3'.out.os, hgrow.tape.trans HG3'.out.tape, hgrow.output.trans HG3'.out.output, Nat.le_trans HG3'.out.size hgrow.size, fun j hj h1 h2 => ?_⟩
    rw [hgrow.block j (Nat.lt_of_lt_of_le hj HG3'.out.size) (by
     intro e
     have := hrow j e.symm
     omega)]
    exact HG3'.out.block j hj h1 h2
   have hl4 := HX4.out.atC
   clear hown' hgrow HX3' HG3' HO3 keepB hrow HC3 HD3
   go_wp2_with fail
   go_roundw
   case rel => exact ⟨l ++ [(n, k)], q2, HO4, HX4, HG4, HR3, HC4, HD4⟩
   case measure => omega
def stV (B : Nat) : Px.St → Value → World → Prop
 | .create t c, v, w => ∃ u, v = .iface 87 (.agg #[.string ⟨t.toArray⟩, u]) ∧ lsV B 135 2 colC c u w
 | .drop t, v, _ => v = .iface 90 (.agg #[.string ⟨t.toArray⟩])
 | .insert t r, v, w => ∃ u, v = .iface 94 (.agg #[.string ⟨t.toArray⟩, u]) ∧ rowsV B r u w
 | .delete t o, v, _ => v = .iface 99 (.agg #[.string ⟨t.toArray⟩, ev? o])
 | .update t s o, v, w => ∃ u, v = .iface 104 (.agg #[.string ⟨t.toArray⟩, u, ev? o]) ∧ lsV B 139 2 setC s u w
 | .select i t o r l, v, w => ∃ u u', v = .iface 109 (.agg #[u, .string ⟨t.toArray⟩, ev? o, u', .bool l.isSome, .int .i64 ((l.getD 0 : Nat) : Int)]) ∧ lsV B 141 2 itemC i u w ∧ lsV B 143 2 orderC r u' w
def partV (B : Nat) (T : TypeId) (s : Px.St) (v : Value) (w : World) : Prop := stV B s (.iface T v) w
def deepSt (s : Px.St) : Bool := s.exprs.any deepE
theorem c_expect_at (s : ByteArray) (w : World) (g : Nat) (hgs : g = w.heap.size) (B : Nat) (lv : Value) (ts : List Lx.Tok) (sz : Nat) (q : List Lx.Tok) (dp : Bool) (h : Cx w B lv ts sz q dp) (hne : s.data.toList ≠ []) :
   Calls Tryz.prog 84 #[.pointer (some ⟨B, 0, none⟩), .slice (some ⟨g, 0, none⟩) 1 1] (w.alloc (.cells #[.string s] 9)) (OutR w B lv ts sz dp (Px.mustR sz s.data.toList) q unitV noDeep) := by
 subst hgs
 exact c_expect_new s w B lv ts sz q dp h hne
theorem ev?_one (o : Option Px.E) : ev? o = .nilIface ∨ ∃ t x, ev? o = .iface t x := by
 cases o with
 | none => exact .inl rfl
 | some e => exact .inr (evi e)
theorem c_delete_any (B : Nat) (lv : Value) (ts : List Lx.Tok) (sz : Nat) (dp : Bool) (w : World) (q : List Lx.Tok) (h : Cx w B lv ts sz q dp) :
   Calls Tryz.prog 87 #[.pointer (some ⟨B, 0, none⟩)] w (OutR w B lv ts sz dp (Px.deleteR sz) q (partV B 99) deepSt) := by
 have HX := hd h
 have hlt := h.lt
 have HB0 : Hid (Below w.heap.size w (w.alloc (.cells #[.string ⟨#[]⟩, .nilIface] 99))) := (Below.refl _ _).alloc (nlr _) _
 have HKR := hd (Blk.new w #[.string ⟨#[]⟩, .nilIface] 99)
 clear h
 go_enter Tryz.func87, Tryz.ntmps87
 go_wp2_with fail
 refine (c_expect_at ⟨#[70, 82, 79, 77]⟩ (w.alloc (.cells #[.string ⟨#[]⟩, .nilIface] 99)) _ (by simp) B lv ts sz q dp (HX.out.below HB0.out) (by simp)).mono ?_
 rintro x w1 ho
 obtain ⟨hg, ⟨p, c, hr, rfl⟩ | ⟨_, q1, v, hr, rfl, hv, hx⟩⟩ := ho.cases
 · exact ⟨rfl, OutR.err (gbt (Below.grownBy HB0.out) hg) (Px.Rg.err hr)⟩
 cases hv
 have HR1 := hd hr
 have HX1 : Hid (Cx w1 B lv ts sz q1 dp) := hx
 have HG1 := hd (gbt (Below.grownBy HB0.out) hg)
 have HK1 := hd (HKR.out.grown hg (by omega))
 clear hr hx hg ho HB0 HKR
 go_wp2_with fail
 refine (c_name_any w1 B lv ts sz q1 dp HX1.out).mono ?_
 rintro x w2 ho
 obtain ⟨hg, ⟨p, c, hr, rfl⟩ | ⟨n, q2, v, hr, rfl, hv, hx⟩⟩ := ho.cases
 · exact ⟨rfl, OutR.err (gbt HG1.out hg) (Px.Rg.go HR1.out (Px.Rg.err hr))⟩
 cases hv
 have HR2 := hd hr
 have HX2 : Hid (Cx w2 B lv ts sz q2 dp) := hx
 have HG2 := hd (gbt HG1.out hg)
 have HK2 := hd (HK1.out.grown hg (by omega))
 clear hr hx hg ho HG1 HK1
 go_wp2_with fail
 refine (c_where_any B lv ts sz dp w2 q2 HX2.out).mono ?_
 rintro x w3 ho
 obtain ⟨hg, ⟨p, c, hr, rfl⟩ | ⟨o, q3, v, hr, rfl, hv, hx⟩⟩ := ho.cases
 · exact ⟨rfl, OutR.err (gbt HG2.out hg) (Px.Rg.go HR1.out (Px.Rg.go HR2.out (Px.Rg.err hr)))⟩
 have HR3 := hd hr
 have HX3 : Hid (Cx w3 B lv ts sz q3 (deepSt (.delete n o) || dp)) := by
  show Cx _ _ _ _ _ _ _
  have : deepSt (.delete n o) = deepO o := by cases o <;> simp [deepSt, Px.St.exprs, deepO]
  rw [this]; exact hx
 have HG3 := hd (gbt HG2.out hg)
 have HK3 := hd (HK2.out.grown hg (by omega))
 have HV := hd hv
 have hv1 : v = .nilIface ∨ ∃ t x, v = .iface t x := by
  have := ev?_one o
  rwa [← show v = ev? o from hv] at this
 have m0 : w3.cell? ⟨w.heap.size, 0, none⟩ = some (.string ⟨#[]⟩) := HK3.out.cell 0
 have m1 : w3.cell? ⟨w.heap.size, 1, none⟩ = some .nilIface := HK3.out.cell 1
 have g0 := HK3.out.free 0
 have g1 := HK3.out.free 1
 clear hr hx hg ho HG2 HK2 hv
 rcases hv1 with rfl | ⟨et, ex, rfl⟩
 all_goals
  go_wp2_with fail
 · have KF := (HK3.out.set 0 (.string ⟨n.toArray⟩)).set 1 .nilIface
   have e0 := KF.cell 0
   have e1 := KF.cell 1
   simp at e0 e1
   refine bodyPost_ret (v := .agg #[.string ⟨n.toArray⟩, .nilIface]) (by simp [results, Tryz.results87, go_sem, e0, e1]) rfl ?_
   exact OutR.ok (a := Px.St.delete n o) (q' := q3) (gaw (gaw HG3.out (nlr _) 0 _) (nlr _) 1 _) (Px.Rg.go HR1.out (Px.Rg.go HR2.out (Px.Rg.go HR3.out rfl))) (by show _ = Value.iface _ (.agg #[_, ev? o]); rw [← show (Value.nilIface) = ev? o from HV.out]) ((HX3.out.far HX.out (nlr _) 0 _).far HX.out (nlr _) 1 _)
 have KF := (HK3.out.set 0 (.string ⟨n.toArray⟩)).set 1 (.iface et ex)
 have e0 := KF.cell 0
 have e1 := KF.cell 1
 simp at e0 e1
 refine bodyPost_ret (v := .agg #[.string ⟨n.toArray⟩, .iface et ex]) (by simp [results, Tryz.results87, go_sem, e0, e1]) rfl ?_
 exact OutR.ok (a := Px.St.delete n o) (q' := q3) (gaw (gaw HG3.out (nlr _) 0 _) (nlr _) 1 _) (Px.Rg.go HR1.out (Px.Rg.go HR2.out (Px.Rg.go HR3.out rfl))) (by show _ = Value.iface _ (.agg #[_, ev? o]); rw [← show (Value.iface et ex) = ev? o from HV.out]) ((HX3.out.far HX.out (nlr _) 0 _).far HX.out (nlr _) 1 _)
theorem any_flatten : ∀ l : List (List Px.E), l.flatten.any deepE = l.any deepL
 | [] => rfl
 | r :: l => by
  rw [List.flatten_cons, List.any_append, List.any_cons, any_flatten l]
  rfl
theorem rows_set {w : World} {B M : Nat} {l : List (List Px.E)} {v : Value} (h : rowsV B l v w) (i : Nat) (x : Value) (hM : ∃ cs t, w.heap[M]? = some (.cells cs t (0, 0)) ∧ t ≠ 136 ∧ t ≠ 97) : rowsV B l v (w.setCell ⟨M, i, none⟩ x) := by
 obtain ⟨vs, h1, h2⟩ := h
 obtain ⟨cs, t, hh, ht1, ht2⟩ := hM
 have key : ∀ {e : TypeId} {size : Nat} {v : Value} {n : Nat} {xs : List Value}, e ≠ t → w.ownsRow (B + 1) e size v n xs → (w.setCell ⟨M, i, none⟩ x).ownsRow (B + 1) e size v n xs := by
  intro e size v n xs hne ho
  refine ho.kept (gbs w M i x) ?_
  cases hv : v.ownBlock with
  | none => exact .inl rfl
  | some g =>
   right
   intro e1
   simp only [Option.some.injEq] at e1
   subst e1
   obtain ⟨c1, k1⟩ := own_type ho _ hv
   rw [k1] at hh
   simp only [Option.some.injEq, Obj.cells.injEq] at hh
   exact hne hh.2.1
 exact ⟨vs, key (fun e => ht1 e.symm) h1, h2.map fun r v hr => key (fun e => ht2 e.symm) hr⟩
theorem ls_set {α : Type} {w : World} {B M : Nat} {T : TypeId} {size : Nat} {cl : α → List Value} {l : List α} {v : Value} (h : lsV B T size cl l v w) (i : Nat) (x : Value) (hM : ∃ cs t, w.heap[M]? = some (.cells cs t (0, 0)) ∧ t ≠ T) : lsV B T size cl l v (w.setCell ⟨M, i, none⟩ x) := by
 obtain ⟨cs, t, hh, ht1⟩ := hM
 refine World.ownsRow.kept h (gbs w M i x) ?_
 cases hv : v.ownBlock with
 | none => exact .inl rfl
 | some g =>
  right
  intro e1
  simp only [Option.some.injEq] at e1
  subst e1
  obtain ⟨c1, k1⟩ := own_type h _ hv
  rw [k1] at hh
  simp only [Option.some.injEq, Obj.cells.injEq] at hh
  exact ht1 hh.2.1.symm
theorem c_insert_any (B : Nat) (lv : Value) (ts : List Lx.Tok) (sz : Nat) (dp : Bool) (w : World) (q : List Lx.Tok) (h : Cx w B lv ts sz q dp) :
   Calls Tryz.prog 86 #[.pointer (some ⟨B, 0, none⟩)] w (OutR w B lv ts sz dp (Px.insertR sz) q (partV B 94) deepSt) := by
 have hmf : ∀ (fn : Fn) (first cap : Array Value) (w : World), (Instr.makeFunc fn first cap).run Tryz.prog w = .ok (.func fn first cap) w := fun _ _ _ _ => rfl
 have HX := hd h
 have hlt := h.lt
 have HB0 : Hid (Below w.heap.size w (w.alloc (.cells #[.string ⟨#[]⟩, .slice none 0 0] 94))) := (Below.refl _ _).alloc (nlr _) _
 have HKR := hd (Blk.new w #[.string ⟨#[]⟩, .slice none 0 0] 94)
 clear h
 go_enter Tryz.func86, Tryz.ntmps86
 go_wp2_with fail
 refine (c_expect_at ⟨#[73, 78, 84, 79]⟩ (w.alloc (.cells #[.string ⟨#[]⟩, .slice none 0 0] 94)) _ (by simp) B lv ts sz q dp (HX.out.below HB0.out) (by simp)).mono ?_
 rintro x w1 ho
 obtain ⟨hg, ⟨p, c, hr, rfl⟩ | ⟨_, q1, v, hr, rfl, hv, hx⟩⟩ := ho.cases
 · exact ⟨rfl, OutR.err (gbt (Below.grownBy HB0.out) hg) (Px.Rg.err hr)⟩
 cases hv
 have HR1 := hd hr
 have HX1 : Hid (Cx w1 B lv ts sz q1 dp) := hx
 have HG1 := hd (gbt (Below.grownBy HB0.out) hg)
 have HK1 := hd (HKR.out.grown hg (by omega))
 clear hr hx hg ho HB0 HKR
 go_wp2_with fail
 refine (c_name_any w1 B lv ts sz q1 dp HX1.out).mono ?_
 rintro x w2 ho
 obtain ⟨hg, ⟨p, c, hr, rfl⟩ | ⟨n, q2, v, hr, rfl, hv, hx⟩⟩ := ho.cases
 · exact ⟨rfl, OutR.err (gbt HG1.out hg) (Px.Rg.go HR1.out (Px.Rg.err hr))⟩
 cases hv
 have HR2 := hd hr
 have hs2 := (gbt HG1.out hg).size
 have hszw : w.heap.size < w2.heap.size := by have := HK1.out.lt; have := hg.size; omega
 have HX2 := hd (Cx.below (w' := w2.alloc (.cells #[.string ⟨n.toArray⟩, .slice none 0 0] 94)) (show Cx w2 B lv ts sz q2 dp from hx) ((Below.refl _ _).alloc (nlr _) _))
 have HG2 := hd (gba (gbt HG1.out hg) (.cells #[.string ⟨n.toArray⟩, .slice none 0 0] 94))
 have HK2 := hd ((HK1.out.grown hg (by omega)).alloc (.cells #[.string ⟨n.toArray⟩, .slice none 0 0] 94))
 have HL2 := hd (Blk.new w2 #[.string ⟨n.toArray⟩, .slice none 0 0] 94)
 have d1 : ¬ w2.heap.size = w.heap.size := by omega
 have d2 : ¬ w.heap.size = w2.heap.size := by omega
 clear hr hx hg ho HG1 HK1 HX1
 go_wp2_with fail
 refine (c_expect_at ⟨#[86, 65, 76, 85, 69, 83]⟩ (w2.alloc (.cells #[.string ⟨n.toArray⟩, .slice none 0 0] 94)) _ (by simp) B lv ts sz q2 dp HX2.out (by simp)).mono ?_
 rintro x w3 ho
 obtain ⟨hg, ⟨p, c, hr, rfl⟩ | ⟨_, q3, v, hr, rfl, hv, hx⟩⟩ := ho.cases
 · exact ⟨rfl, OutR.err (gbt HG2.out hg) (Px.Rg.go HR1.out (Px.Rg.go HR2.out (Px.Rg.err hr)))⟩
 cases hv
 have HR3 := hd hr
 have HX3 : Hid (Cx w3 B lv ts sz q3 dp) := hx
 have HG3 := hd (gbt HG2.out hg)
 have HK3 := hd (HK2.out.grown hg (by omega))
 have HL3 := hd (HL2.out.grown hg (by omega))
 clear hr hx hg ho HG2 HK2 HL2 HX2
 go_wp2_with fail
 refine (c_listRow_any B lv ts sz dp w3 q3 HX3.out).mono ?_
 rintro x w4 ho
 obtain ⟨hg, ⟨p, c, hr, rfl⟩ | ⟨l, q4, v, hr, rfl, hv, hx⟩⟩ := ho.cases
 · exact ⟨rfl, OutR.err (gbt HG3.out hg) (Px.Rg.go HR1.out (Px.Rg.go HR2.out (Px.Rg.go HR3.out (Px.Rg.err hr))))⟩
 have HR4 := hd hr
 have HX4 : Hid (Cx w4 B lv ts sz q4 (deepSt (.insert n l) || dp)) := by
  show Cx _ _ _ _ _ _ _
  have : deepSt (.insert n l) = l.any deepL := any_flatten l
  rw [this]; exact hx
 have HG4 := hd (gbt HG3.out hg)
 have HK4 := hd (HK3.out.grown hg (by omega))
 have HL4 := hd (HL3.out.grown hg (by omega))
 have HV := hd hv
 obtain ⟨ao, m, cp, rfl⟩ : ∃ ao m cp, v = .slice ao m cp := by obtain ⟨vs, h1, _⟩ := hv; exact osl h1
 have m0 : w4.cell? ⟨w.heap.size, 0, none⟩ = some (.string ⟨#[]⟩) := HK4.out.cell 0
 have m1 : w4.cell? ⟨w.heap.size, 1, none⟩ = some (.slice none 0 0) := HK4.out.cell 1
 have g0 := HK4.out.free 0
 have g1 := HK4.out.free 1
 have n0 : w4.cell? ⟨w2.heap.size, 0, none⟩ = some (.string ⟨n.toArray⟩) := HL4.out.cell 0
 have n1 : w4.cell? ⟨w2.heap.size, 1, none⟩ = some (.slice none 0 0) := HL4.out.cell 1
 have f1 := HL4.out.free 1
 clear hr hx hg ho HG3 HK3 HL3 hv
 go_wp2_with fail
 have KF := ((HK4.out.far ⟨w2.heap.size, 1, none⟩ (.slice ao m cp) d1).set 0 (.string ⟨n.toArray⟩)).set 1 (.slice ao m cp)
 have e0 := KF.cell 0
 have e1 := KF.cell 1
 simp at e0 e1
 refine bodyPost_ret (v := .agg #[.string ⟨n.toArray⟩, .slice ao m cp]) (by simp [results, Tryz.results86, go_sem, e0, e1]) rfl ?_
 refine OutR.ok (a := Px.St.insert n l) (q' := q4) (gaw (gaw (gaw HG4.out (by omega) 1 _) (nlr _) 0 _) (nlr _) 1 _) (Px.Rg.go HR1.out (Px.Rg.go HR2.out (Px.Rg.go HR3.out (Px.Rg.go HR4.out rfl)))) ⟨_, rfl, ?_⟩ (((HX4.out.far HX.out (by omega) 1 _).far HX.out (nlr _) 0 _).far HX.out (nlr _) 1 _)
 have s1 := rows_set HV.out 1 (.slice ao m cp) ⟨_, _, HL4.out, by decide, by decide⟩
 have s2 := rows_set s1 0 (.string ⟨n.toArray⟩) ⟨_, _, HK4.out.far ⟨w2.heap.size, 1, none⟩ (.slice ao m cp) d1, by decide, by decide⟩
 exact rows_set s2 1 (.slice ao m cp) ⟨_, _, (HK4.out.far ⟨w2.heap.size, 1, none⟩ (.slice ao m cp) d1).set 0 _, by decide, by decide⟩
theorem any_sets : ∀ (l : List (Lx.Bs × Px.E)), (l.map (·.2)).any deepE = l.any deepS
 | [] => rfl
 | r :: l => by
  rw [List.map_cons, List.any_cons, List.any_cons, any_sets l]
  rfl
theorem any_opt (o : Option Px.E) : o.toList.any deepE = deepO o := by cases o <;> simp [deepO]
theorem c_update_any (B : Nat) (lv : Value) (ts : List Lx.Tok) (sz : Nat) (dp : Bool) (w : World) (q : List Lx.Tok) (h : Cx w B lv ts sz q dp) :
   Calls Tryz.prog 88 #[.pointer (some ⟨B, 0, none⟩)] w (OutR w B lv ts sz dp (Px.updateR sz) q (partV B 104) deepSt) := by
 have hmf : ∀ (fn : Fn) (first cap : Array Value) (w : World), (Instr.makeFunc fn first cap).run Tryz.prog w = .ok (.func fn first cap) w := fun _ _ _ _ => rfl
 have HX := hd h
 have hlt := h.lt
 have HB0 : Hid (Below w.heap.size w (w.alloc (.cells #[.string ⟨#[]⟩, .slice none 0 0, .nilIface] 104))) := (Below.refl _ _).alloc (nlr _) _
 have HKR := hd (Blk.new w #[.string ⟨#[]⟩, .slice none 0 0, .nilIface] 104)
 clear h
 go_enter Tryz.func88, Tryz.ntmps88
 go_wp2_with fail
 refine (c_name_any _ B lv ts sz q dp (HX.out.below HB0.out)).mono ?_
 rintro x w2 ho
 obtain ⟨hg, ⟨p, c, hr, rfl⟩ | ⟨n, q2, v, hr, rfl, hv, hx⟩⟩ := ho.cases
 · exact ⟨rfl, OutR.err (gbt (Below.grownBy HB0.out) hg) (Px.Rg.err hr)⟩
 cases hv
 have HR2 := hd hr
 have hszw : w.heap.size < w2.heap.size := by have := hg.size; simp only [World.size_alloc] at this; omega
 have HX2 := hd (Cx.below (w' := w2.alloc (.cells #[.string ⟨n.toArray⟩, .slice none 0 0, .nilIface] 104)) (show Cx w2 B lv ts sz q2 dp from hx) ((Below.refl _ _).alloc (nlr _) _))
 have HG2 := hd (gba (gbt (Below.grownBy HB0.out) hg) (.cells #[.string ⟨n.toArray⟩, .slice none 0 0, .nilIface] 104))
 have HK2 := hd ((HKR.out.grown hg (by omega)).alloc (.cells #[.string ⟨n.toArray⟩, .slice none 0 0, .nilIface] 104))
 have HL2 := hd (Blk.new w2 #[.string ⟨n.toArray⟩, .slice none 0 0, .nilIface] 104)
 have d1 : ¬ w2.heap.size = w.heap.size := by omega
 have d2 : ¬ w.heap.size = w2.heap.size := by omega
 clear hr hx hg ho HB0 HKR
 go_wp2_with fail
 refine (c_expect_at ⟨#[83, 69, 84]⟩ (w2.alloc (.cells #[.string ⟨n.toArray⟩, .slice none 0 0, .nilIface] 104)) _ (by simp) B lv ts sz q2 dp HX2.out (by simp)).mono ?_
 rintro x w3 ho
 obtain ⟨hg, ⟨p, c, hr, rfl⟩ | ⟨_, q3, v, hr, rfl, hv, hx⟩⟩ := ho.cases
 · exact ⟨rfl, OutR.err (gbt HG2.out hg) (Px.Rg.go HR2.out (Px.Rg.err hr))⟩
 cases hv
 have HR3 := hd hr
 have HX3 : Hid (Cx w3 B lv ts sz q3 dp) := hx
 have HG3 := hd (gbt HG2.out hg)
 have HK3 := hd (HK2.out.grown hg (by omega))
 have HL3 := hd (HL2.out.grown hg (by omega))
 clear hr hx hg ho HG2 HK2 HL2 HX2
 go_wp2_with fail
 refine (c_listSet_any B lv ts sz dp w3 q3 HX3.out).mono ?_
 rintro x w4 ho
 obtain ⟨hg, ⟨p, c, hr, rfl⟩ | ⟨l, q4, v, hr, rfl, hv, hx⟩⟩ := ho.cases
 · exact ⟨rfl, OutR.err (gbt HG3.out hg) (Px.Rg.go HR2.out (Px.Rg.go HR3.out (Px.Rg.err hr)))⟩
 have HR4 := hd hr
 have HG4 := hd (gbt HG3.out hg)
 have HK4 := hd (HK3.out.grown hg (by omega))
 have HL4 := hd (HL3.out.grown hg (by omega))
 obtain ⟨ao, m, cp, rfl⟩ := osl hv
 have n1 : w4.cell? ⟨w2.heap.size, 1, none⟩ = some (.slice none 0 0) := HL4.out.cell 1
 have f1 := HL4.out.free 1
 have HX5 := hd (hx.far HX.out (M := w2.heap.size) (by omega) 1 (.slice ao m cp))
 have HG5 := hd (gaw HG4.out (M := w2.heap.size) (by omega) 1 (.slice ao m cp))
 have HK5 := hd (HK4.out.far ⟨w2.heap.size, 1, none⟩ (.slice ao m cp) d1)
 have HL5 : Hid (Blk (w4.setCell ⟨w2.heap.size, 1, none⟩ (.slice ao m cp)) w2.heap.size #[.string ⟨n.toArray⟩, .slice ao m cp, .nilIface] 104) := HL4.out.set 1 (.slice ao m cp)
 have HV5 := hd (ls_set hv 1 (.slice ao m cp) ⟨_, _, HL4.out, by decide⟩)
 clear hr hx hg ho HG3 HK3 HL3 hv HG4 HK4 HL4
 go_wp2_with fail
 refine (c_where_any B lv ts sz _ _ q4 HX5.out).mono ?_
 rintro x w6 ho
 obtain ⟨hg, ⟨p, c, hr, rfl⟩ | ⟨o, q6, v, hr, rfl, hv, hx⟩⟩ := ho.cases
 · exact ⟨rfl, OutR.err (gbt HG5.out hg) (Px.Rg.go HR2.out (Px.Rg.go HR3.out (Px.Rg.go HR4.out (Px.Rg.err hr))))⟩
 have HR6 := hd hr
 have HX6 : Hid (Cx w6 B lv ts sz q6 (deepSt (.update n l o) || dp)) := by
  show Cx _ _ _ _ _ _ _
  have : (deepSt (.update n l o) || dp) = (deepO o || (l.any deepS || dp)) := by
   simp only [deepSt, Px.St.exprs, List.any_append, any_sets, any_opt]
   cases l.any deepS <;> cases deepO o <;> rfl
  rw [this]; exact hx
 have HG6 := hd (gbt HG5.out hg)
 have HK6 := hd (HK5.out.grown hg (by omega))
 have HL6 := hd (HL5.out.grown hg (by omega))
 have HV6 := hd (own_far HV5.out hg)
 have HE := hd hv
 have hv1 : v = .nilIface ∨ ∃ t x, v = .iface t x := by
  have := ev?_one o
  rwa [← show v = ev? o from hv] at this
 have m0 : w6.cell? ⟨w.heap.size, 0, none⟩ = some (.string ⟨#[]⟩) := HK6.out.cell 0
 have m1 : w6.cell? ⟨w.heap.size, 1, none⟩ = some (.slice none 0 0) := HK6.out.cell 1
 have m2 : w6.cell? ⟨w.heap.size, 2, none⟩ = some .nilIface := HK6.out.cell 2
 have g0 := HK6.out.free 0
 have g1 := HK6.out.free 1
 have g2 := HK6.out.free 2
 have p0 : w6.cell? ⟨w2.heap.size, 0, none⟩ = some (.string ⟨n.toArray⟩) := HL6.out.cell 0
 have p1 : w6.cell? ⟨w2.heap.size, 1, none⟩ = some (.slice ao m cp) := HL6.out.cell 1
 have p2 : w6.cell? ⟨w2.heap.size, 2, none⟩ = some .nilIface := HL6.out.cell 2
 have r2 := HL6.out.free 2
 clear hr hx hg ho HG5 HK5 HL5 HV5 hv HX5 n1 f1
 rcases hv1 with rfl | ⟨et, ex, rfl⟩
 all_goals go_wp2_with fail
 · have KF := (((HK6.out.far ⟨w2.heap.size, 2, none⟩ .nilIface d1).set 0 (.string ⟨n.toArray⟩)).set 1 (.slice ao m cp)).set 2 .nilIface
   have e0 := KF.cell 0
   have e1 := KF.cell 1
   have e2 := KF.cell 2
   simp at e0 e1 e2
   refine bodyPost_ret (v := .agg #[.string ⟨n.toArray⟩, .slice ao m cp, .nilIface]) (by simp [results, Tryz.results88, go_sem, e0, e1, e2]) rfl ?_
   refine OutR.ok (a := Px.St.update n l o) (q' := q6) (gaw (gaw (gaw (gaw HG6.out (by omega) 2 _) (nlr _) 0 _) (nlr _) 1 _) (nlr _) 2 _) (Px.Rg.go HR2.out (Px.Rg.go HR3.out (Px.Rg.go HR4.out (Px.Rg.go HR6.out rfl)))) ⟨.slice ao m cp, by rw [← show (Value.nilIface) = ev? o from HE.out], ?_⟩ ((((HX6.out.far HX.out (by omega) 2 _).far HX.out (nlr _) 0 _).far HX.out (nlr _) 1 _).far HX.out (nlr _) 2 _)
   have s1 := ls_set HV6.out 2 .nilIface ⟨_, _, HL6.out, by decide⟩
   have t1 := HK6.out.far ⟨w2.heap.size, 2, none⟩ .nilIface d1
   have s2 := ls_set s1 0 (.string ⟨n.toArray⟩) ⟨_, _, t1, by decide⟩
   have s3 := ls_set s2 1 (.slice ao m cp) ⟨_, _, t1.set 0 _, by decide⟩
   exact ls_set s3 2 .nilIface ⟨_, _, (t1.set 0 _).set 1 _, by decide⟩
 have KF := (((HK6.out.far ⟨w2.heap.size, 2, none⟩ (.iface et ex) d1).set 0 (.string ⟨n.toArray⟩)).set 1 (.slice ao m cp)).set 2 (.iface et ex)
 have e0 := KF.cell 0
 have e1 := KF.cell 1
 have e2 := KF.cell 2
 simp at e0 e1 e2
 refine bodyPost_ret (v := .agg #[.string ⟨n.toArray⟩, .slice ao m cp, .iface et ex]) (by simp [results, Tryz.results88, go_sem, e0, e1, e2]) rfl ?_
 refine OutR.ok (a := Px.St.update n l o) (q' := q6) (gaw (gaw (gaw (gaw HG6.out (by omega) 2 _) (nlr _) 0 _) (nlr _) 1 _) (nlr _) 2 _) (Px.Rg.go HR2.out (Px.Rg.go HR3.out (Px.Rg.go HR4.out (Px.Rg.go HR6.out rfl)))) ⟨.slice ao m cp, by rw [← show (Value.iface et ex) = ev? o from HE.out], ?_⟩ ((((HX6.out.far HX.out (by omega) 2 _).far HX.out (nlr _) 0 _).far HX.out (nlr _) 1 _).far HX.out (nlr _) 2 _)
 have s1 := ls_set HV6.out 2 (.iface et ex) ⟨_, _, HL6.out, by decide⟩
 have t1 := HK6.out.far ⟨w2.heap.size, 2, none⟩ (.iface et ex) d1
 have s2 := ls_set s1 0 (.string ⟨n.toArray⟩) ⟨_, _, t1, by decide⟩
 have s3 := ls_set s2 1 (.slice ao m cp) ⟨_, _, t1.set 0 _, by decide⟩
 exact ls_set s3 2 (.iface et ex) ⟨_, _, (t1.set 0 _).set 1 _, by decide⟩
theorem Grow2.grown {w w1 w2 : World} {B C : Nat} (h : w.grownBy w1 (some B)) (k : Grow2 w1 w2 B C) (hC : w.heap.size ≤ C) : w.grownBy w2 (some B) :=
 ⟨k.os.trans h.os, k.tape.trans h.tape, k.output.trans h.output, Nat.le_trans h.size k.size, fun i hi hne => (k.block i (Nat.lt_of_lt_of_le hi h.size) (by simpa using hne) (by omega)).trans (h.block i hi hne)⟩
theorem c_create_any (B : Nat) (lv : Value) (ts : List Lx.Tok) (sz : Nat) (dp : Bool) (w : World) (q : List Lx.Tok) (h : Cx w B lv ts sz q dp) :
   Calls Tryz.prog 83 #[.pointer (some ⟨B, 0, none⟩)] w (OutR w B lv ts sz dp (Px.createR sz) q (partV B 87) deepSt) := by
 have hmf : ∀ (fn : Fn) (first cap : Array Value) (w : World), (Instr.makeFunc fn first cap).run Tryz.prog w = .ok (.func fn first cap) w := fun _ _ _ _ => rfl
 have HX := hd h
 have hlt := h.lt
 have HB0 : Hid (Below w.heap.size w ((w.alloc (.cells #[.pointer (some ⟨B, 0, none⟩)] 144)).alloc (.cells #[.string ⟨#[]⟩, .slice none 0 0] 87))) := ((Below.refl _ _).alloc (nlr _) _).alloc (by simp) _
 have HKD := hd ((Blk.new w #[.pointer (some ⟨B, 0, none⟩)] 144).alloc (.cells #[.string ⟨#[]⟩, .slice none 0 0] 87))
 have HKR : Hid (Blk ((w.alloc (.cells #[.pointer (some ⟨B, 0, none⟩)] 144)).alloc (.cells #[.string ⟨#[]⟩, .slice none 0 0] 87)) (w.heap.size + 1) #[.string ⟨#[]⟩, .slice none 0 0] 87) := by
  have := Blk.new (w.alloc (.cells #[.pointer (some ⟨B, 0, none⟩)] 144)) #[.string ⟨#[]⟩, .slice none 0 0] 87
  rwa [World.size_alloc] at this
 clear h
 go_enter Tryz.func83, Tryz.ntmps83
 go_wp2_with fail
 refine (c_expect_at ⟨#[84, 65, 66, 76, 69]⟩ ((w.alloc (.cells #[.pointer (some ⟨B, 0, none⟩)] 144)).alloc (.cells #[.string ⟨#[]⟩, .slice none 0 0] 87)) _ (by simp) B lv ts sz q dp (HX.out.below HB0.out) (by simp)).mono ?_
 rintro x w1 ho
 obtain ⟨hg, ⟨p, c, hr, rfl⟩ | ⟨_, q1, v, hr, rfl, hv, hx⟩⟩ := ho.cases
 · exact ⟨rfl, OutR.err (gbt (Below.grownBy HB0.out) hg) (Px.Rg.err hr)⟩
 cases hv
 have HR1 := hd hr
 have HX1 : Hid (Cx w1 B lv ts sz q1 dp) := hx
 have HG1 := hd (gbt (Below.grownBy HB0.out) hg)
 have HK1 := hd (HKR.out.grown hg (by omega))
 have HD1 := hd (HKD.out.grown hg (by omega))
 have b1 : w1.cell? ⟨w.heap.size, 0, none⟩ = some (.pointer (some ⟨B, 0, none⟩)) := HD1.out.cell 0
 clear hr hx hg ho HB0 HKR HKD
 go_wp2_with fail
 refine (c_name_any w1 B lv ts sz q1 dp HX1.out).mono ?_
 rintro x w2 ho
 obtain ⟨hg, ⟨p, c, hr, rfl⟩ | ⟨n, q2, v, hr, rfl, hv, hx⟩⟩ := ho.cases
 · exact ⟨rfl, OutR.err (gbt HG1.out hg) (Px.Rg.go HR1.out (Px.Rg.err hr))⟩
 cases hv
 have HR2 := hd hr
 have hszw : w.heap.size + 1 < w2.heap.size := by have := HK1.out.lt; have := hg.size; omega
 have HX2 := hd (Cx.below (w' := w2.alloc (.cells #[.string ⟨n.toArray⟩, .slice none 0 0] 87)) (show Cx w2 B lv ts sz q2 dp from hx) ((Below.refl _ _).alloc (nlr _) _))
 have HG2 := hd (gba (gbt HG1.out hg) (.cells #[.string ⟨n.toArray⟩, .slice none 0 0] 87))
 have HK2 := hd ((HK1.out.grown hg (by omega)).alloc (.cells #[.string ⟨n.toArray⟩, .slice none 0 0] 87))
 have HD20 := hd (HD1.out.grown hg (by omega))
 have HD2 := hd (HD20.out.alloc (.cells #[.string ⟨n.toArray⟩, .slice none 0 0] 87))
 have HL2 := hd (Blk.new w2 #[.string ⟨n.toArray⟩, .slice none 0 0] 87)
 have b2 : w2.cell? ⟨w.heap.size, 0, none⟩ = some (.pointer (some ⟨B, 0, none⟩)) := HD20.out.cell 0
 have d1 : ¬ w2.heap.size = w.heap.size + 1 := by omega
 have d2 : ¬ w.heap.size + 1 = w2.heap.size := by omega
 have d3 : ¬ w2.heap.size = w.heap.size := by omega
 have d4 : ¬ w.heap.size = w2.heap.size := by omega
 have lt4 : w.heap.size < w2.heap.size := by omega
 clear hr hx hg ho HG1 HK1 HX1 HD1 b1 HD20
 go_wp2_with fail
 refine (c_expect_at ⟨#[40]⟩ (w2.alloc (.cells #[.string ⟨n.toArray⟩, .slice none 0 0] 87)) _ (by simp) B lv ts sz q2 dp HX2.out (by simp)).mono ?_
 rintro x w3 ho
 obtain ⟨hg, ⟨p, c, hr, rfl⟩ | ⟨_, q3, v, hr, rfl, hv, hx⟩⟩ := ho.cases
 · exact ⟨rfl, OutR.err (gbt HG2.out hg) (Px.Rg.go HR1.out (Px.Rg.go HR2.out (Px.Rg.err hr)))⟩
 cases hv
 have HR3 := hd hr
 have hszw3 : w2.heap.size < w3.heap.size := by have := hg.size; simp only [World.size_alloc] at this; omega
 have HX3 := hd (Cx.below (w' := w3.alloc (.cells #[.int .i64 0] 3)) (show Cx w3 B lv ts sz q3 dp from hx) ((Below.refl _ _).alloc (nlr _) _))
 have HG3 := hd (gba (gbt HG2.out hg) (.cells #[.int .i64 0] 3))
 have HK3 := hd ((HK2.out.grown hg (by omega)).alloc (.cells #[.int .i64 0] 3))
 have HL3 := hd ((HL2.out.grown hg (by omega)).alloc (.cells #[.int .i64 0] 3))
 have HD30 := hd (HD2.out.grown hg (by omega))
 have HD3 := hd (HD30.out.alloc (.cells #[.int .i64 0] 3))
 have HC3 := hd (Blk.new w3 #[.int .i64 0] 3)
 have b3 : w3.cell? ⟨w.heap.size, 0, none⟩ = some (.pointer (some ⟨B, 0, none⟩)) := HD30.out.cell 0
 have d5 : ¬ w.heap.size = w3.heap.size := by omega
 have d6 : ¬ w3.heap.size = w.heap.size := by omega
 have lt6 : w.heap.size < w3.heap.size := by omega
 clear hr hx hg ho HG2 HK2 HL2 HX2 HD2 b2 HD30
 go_wp2_with fail
 refine (c_listColumn_any B w3.heap.size w.heap.size lv ts sz dp dp w (w3.alloc (.cells #[.int .i64 0] 3)) q q3 HX.out (by omega) (nlr _) (by omega) HX3.out HC3.out HD3.out).mono ?_
 rintro x w4 ⟨hg, ⟨p, c, hr, rfl⟩ | ⟨l, q4, v, hr, rfl, hv, hx⟩⟩
 · exact ⟨rfl, OutR.err (Grow2.grown HG3.out hg (by omega)) (Px.Rg.go HR1.out (Px.Rg.go HR2.out (Px.Rg.go HR3.out (Px.Rg.err hr))))⟩
 have HR4 := hd hr
 have HG4 := hd (Grow2.grown HG3.out hg (by omega))
 have HK4 := hd (hg.blk HK3.out (by omega) (by omega))
 have HL4 := hd (hg.blk HL3.out (by omega) (by omega))
 have HD4 := hd (hg.blk HD3.out (by omega) (by omega))
 have HV4 : Hid (lsV B 135 2 colC l v w4) := ownBase hv (by simp; omega)
 have hszw4 : w3.heap.size < w4.heap.size := by have := hg.size; simp only [World.size_alloc] at this; omega
 obtain ⟨ao, m, cp, rfl⟩ := osl hv
 have n1 : w4.cell? ⟨w2.heap.size, 1, none⟩ = some (.slice none 0 0) := HL4.out.cell 1
 have f1 := HL4.out.free 1
 have b4 : w4.cell? ⟨w.heap.size, 0, none⟩ = some (.pointer (some ⟨B, 0, none⟩)) := HD4.out.cell 0
 have HX5 := hd (hx.far HX.out (M := w2.heap.size) (by omega) 1 (.slice ao m cp))
 have HG5 := hd (gaw HG4.out (M := w2.heap.size) (by omega) 1 (.slice ao m cp))
 have HK5 := hd (HK4.out.far ⟨w2.heap.size, 1, none⟩ (.slice ao m cp) d1)
 have HL5 : Hid (Blk (w4.setCell ⟨w2.heap.size, 1, none⟩ (.slice ao m cp)) w2.heap.size #[.string ⟨n.toArray⟩, .slice ao m cp] 87) := HL4.out.set 1 (.slice ao m cp)
 have HV5 := hd (ls_set HV4.out 1 (.slice ao m cp) ⟨_, _, HL4.out, by decide⟩)
 clear hr hx hg HG3 HK3 HL3 hv HG4 HK4 HL4 HV4 HD3 HD4 HC3 HX3 b3
 go_wp2_with fail
 refine (c_expect_at ⟨#[41]⟩ (w4.setCell ⟨w2.heap.size, 1, none⟩ (.slice ao m cp)) _ (by simp [World.setCell]) B lv ts sz q4 dp HX5.out (by simp)).mono ?_
 rintro x w6 ho
 obtain ⟨hg, ⟨p, c, hr, rfl⟩ | ⟨_, q6, v, hr, rfl, hv, hx⟩⟩ := ho.cases
 · exact ⟨rfl, OutR.err (gbt HG5.out hg) (Px.Rg.go HR1.out (Px.Rg.go HR2.out (Px.Rg.go HR3.out (Px.Rg.go HR4.out (Px.Rg.err hr)))))⟩
 cases hv
 have HR6 := hd hr
 have HX6 : Hid (Cx w6 B lv ts sz q6 dp) := hx
 have HG6 := hd (gbt HG5.out hg)
 have HK6 := hd (HK5.out.grown hg (by omega))
 have HL6 := hd (HL5.out.grown hg (by omega))
 have HV6 := hd (own_far HV5.out hg)
 have m0 : w6.cell? ⟨w.heap.size + 1, 0, none⟩ = some (.string ⟨#[]⟩) := HK6.out.cell 0
 have m1 : w6.cell? ⟨w.heap.size + 1, 1, none⟩ = some (.slice none 0 0) := HK6.out.cell 1
 have g0 := HK6.out.free 0
 have g1 := HK6.out.free 1
 have p0 : w6.cell? ⟨w2.heap.size, 0, none⟩ = some (.string ⟨n.toArray⟩) := HL6.out.cell 0
 have p1 : w6.cell? ⟨w2.heap.size, 1, none⟩ = some (.slice ao m cp) := HL6.out.cell 1
 clear hr hx hg ho HG5 HK5 HL5 HV5 HX5 n1 f1 b4
 go_wp2_with fail
 have KF := (HK6.out.set 0 (.string ⟨n.toArray⟩)).set 1 (.slice ao m cp)
 have e0 := KF.cell 0
 have e1 := KF.cell 1
 simp at e0 e1
 refine bodyPost_ret (v := .agg #[.string ⟨n.toArray⟩, .slice ao m cp]) (by simp [results, Tryz.results83, go_sem, e0, e1]) rfl ?_
 refine OutR.ok (a := Px.St.create n l) (q' := q6) (gaw (gaw HG6.out (by omega) 0 _) (by omega) 1 _) (Px.Rg.go HR1.out (Px.Rg.go HR2.out (Px.Rg.go HR3.out (Px.Rg.go HR4.out (Px.Rg.go HR6.out rfl))))) ⟨.slice ao m cp, rfl, ?_⟩ ((HX6.out.far HX.out (by omega) 0 _).far HX.out (by omega) 1 _)
 have s1 := ls_set HV6.out 0 (.string ⟨n.toArray⟩) ⟨_, _, HK6.out, by decide⟩
 exact ls_set s1 1 (.slice ao m cp) ⟨_, _, HK6.out.set 0 _, by decide⟩
end Go.Proofs.YtkcakbgcfnhgaaaGreatDoor
