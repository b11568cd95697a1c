/- Parts of the proof: CpD CpF CpG CpH CpI CpJ CpK CpL CpM CpN -/
import Derived.Test.YtkcakbgcfnhgaaaGreatDoorZ3
namespace Go.Proofs.YtkcakbgcfnhgaaaGreatDoor
set_option linter.unusedSimpArgs false
set_option linter.unusedVariables false
set_option maxRecDepth 100000
set_option maxHeartbeats 16000000
open Go.RowKit
theorem wrap_small (x : Int) (h1 : -1000000 ≤ x) (h2 : x ≤ 1000000) : IntKind.i64.wrap x = x := by
 rw [IntKind.wrap_i64]
 omega
theorem depth_leaf (t : Nat) (v : Value) (ht : t = 190 ∨ t = 192 ∨ t = 194 ∨ t = 196 ∨ t = 198) (w : World) :
   Calls Tryz.prog 214 #[.iface t v] w fun x w' => x = .returned (.int .i64 1) ∧ Below w.heap.size w w' := by
 have h1 := leaf_un t v ht
 have h2 := leaf_bin t v ht
 clear ht
 go_enter Tryz.func214, Tryz.ntmps214
 go_wp2_with fail
 go_ret
 exact ⟨rfl, Below.refl _ _⟩
theorem depth_un (k : Int) (tv : Nat) (xv : Value) (d : Nat) (hd1 : d ≤ 100000) (ih : ∀ w : World, Calls Tryz.prog 214 #[.iface tv xv] w fun x w' => x = .returned (.int .i64 (d : Int)) ∧ Below w.heap.size w w') (w : World) :
   Calls Tryz.prog 214 #[.iface 200 (.agg #[.int .i64 k, .iface tv xv])] w fun x w' => x = .returned (.int .i64 (1 + (d : Int))) ∧ Below w.heap.size w w' := by
 have h1 := is_un (.int .i64 k) (.iface tv xv)
 go_enter Tryz.func214, Tryz.ntmps214
 go_wp2_with fail
 refine (ih _).mono ?_
 rintro x w1 ⟨rfl, hb⟩
 have HB := hd hb
 clear hb
 go_wp2_with fail
 go_ret
 exact ⟨rfl, ((Below.refl _ _).alloc (nlr _) _).trans (HB.out.mono (by simp))⟩
theorem depth_bin1 (k : Int) (tu : Nat) (xu : Value) (tv : Nat) (xv : Value) (d e : Nat) (hd1 : d ≤ 100000) (he1 : e ≤ 100000) (iha : ∀ w : World, Calls Tryz.prog 214 #[.iface tu xu] w fun x w' => x = .returned (.int .i64 (d : Int)) ∧ Below w.heap.size w w')
   (ihb : ∀ w : World, Calls Tryz.prog 214 #[.iface tv xv] w fun x w' => x = .returned (.int .i64 (e : Int)) ∧ Below w.heap.size w w') (w : World) (hde : (d : Int) < (e : Int)) :
   Calls Tryz.prog 214 #[.iface 202 (.agg #[.int .i64 k, .iface tu xu, .iface tv xv])] w fun x w' => x = .returned (.int .i64 (1 + (e : Int))) ∧ Below w.heap.size w w' := by
 have hmx : max (d : Int) (e : Int) = (e : Int) := by omega
 have hwr : IntKind.i64.wrap (1 + (e : Int)) = 1 + (e : Int) := wrap_small _ (by omega) (by omega)
 have h1 := bin_un (.int .i64 k) (.iface tu xu) (.iface tv xv)
 have h2 := is_bin (.int .i64 k) (.iface tu xu) (.iface tv xv)
 go_enter Tryz.func214, Tryz.ntmps214
 go_wp2_with fail
 clear h1 h2
 have KW := Blk.new w #[.int .i64 k, .iface tu xu, .iface tv xv] 202
 have BW : Below w.heap.size w (w.alloc (.cells #[.int .i64 k, .iface tu xu, .iface tv xv] 202)) := (Below.refl _ _).alloc (nlr _) _
 generalize w.alloc (.cells #[.int .i64 k, .iface tu xu, .iface tv xv] 202) = W at *
 have k1 : W.cell? ⟨w.heap.size, 1, none⟩ = some (.iface tu xu) := KW.cell 1
 have k2 : W.cell? ⟨w.heap.size, 2, none⟩ = some (.iface tv xv) := KW.cell 2
 have HK := hd KW
 have HB := hd BW
 have HIA := hd iha
 have HIB := hd ihb
 clear KW BW iha ihb
 go_region_with (go_at_call 214; first
  | (go_at_call_of 214 (Value.iface tu xu)
     refine Calls.mono (HIA.out _) ?_
     rintro x w1 ⟨rfl, hb1⟩
     have hK : Blk w1 w.heap.size #[.int .i64 k, .iface tu xu, .iface tv xv] 202 := HK.out.drew.below hb1 HK.out.lt
     have q1 : w1.cell? ⟨w.heap.size, 1, none⟩ = some (.iface tu xu) := hK.cell 1
     have q2 : w1.cell? ⟨w.heap.size, 2, none⟩ = some (.iface tv xv) := hK.cell 2
     have HB1 := hd hb1
     clear hK hb1)
  | (refine Calls.mono (HIB.out _) ?_
     rintro x w2 ⟨rfl, hb2⟩
     have HB2 := hd hb2
     clear hb2))
 all_goals
  have hs1 := HB1.out.size
  have hs := HB.out.size
  have HBF : Hid (Below w.heap.size w w2) := (HB.out.trans ((Below.refl _ _).drew.trans (HB1.out.mono (by simp at *; omega)))).trans (HB2.out.mono (by simp at *; omega))
  clear HB HB1 HB2 q1 q2 k1 k2
  go_wp2
  go_ret
  exact ⟨rfl, HBF.out⟩
theorem depth_bin2 (k : Int) (tu : Nat) (xu : Value) (tv : Nat) (xv : Value) (d e : Nat) (hd1 : d ≤ 100000) (he1 : e ≤ 100000) (iha : ∀ w : World, Calls Tryz.prog 214 #[.iface tu xu] w fun x w' => x = .returned (.int .i64 (d : Int)) ∧ Below w.heap.size w w')
   (ihb : ∀ w : World, Calls Tryz.prog 214 #[.iface tv xv] w fun x w' => x = .returned (.int .i64 (e : Int)) ∧ Below w.heap.size w w') (w : World) (hde : ¬ (d : Int) < (e : Int)) :
   Calls Tryz.prog 214 #[.iface 202 (.agg #[.int .i64 k, .iface tu xu, .iface tv xv])] w fun x w' => x = .returned (.int .i64 (1 + (d : Int))) ∧ Below w.heap.size w w' := by
 have hmx : max (d : Int) (e : Int) = (d : Int) := by omega
 have hwr : IntKind.i64.wrap (1 + (d : Int)) = 1 + (d : Int) := wrap_small _ (by omega) (by omega)
 have h1 := bin_un (.int .i64 k) (.iface tu xu) (.iface tv xv)
 have h2 := is_bin (.int .i64 k) (.iface tu xu) (.iface tv xv)
 go_enter Tryz.func214, Tryz.ntmps214
 go_wp2_with fail
 clear h1 h2
 have KW := Blk.new w #[.int .i64 k, .iface tu xu, .iface tv xv] 202
 have BW : Below w.heap.size w (w.alloc (.cells #[.int .i64 k, .iface tu xu, .iface tv xv] 202)) := (Below.refl _ _).alloc (nlr _) _
 generalize w.alloc (.cells #[.int .i64 k, .iface tu xu, .iface tv xv] 202) = W at *
 have k1 : W.cell? ⟨w.heap.size, 1, none⟩ = some (.iface tu xu) := KW.cell 1
 have k2 : W.cell? ⟨w.heap.size, 2, none⟩ = some (.iface tv xv) := KW.cell 2
 have HK := hd KW
 have HB := hd BW
 have HIA := hd iha
 have HIB := hd ihb
 clear KW BW iha ihb
 go_region_with (go_at_call 214; first
  | (go_at_call_of 214 (Value.iface tu xu)
     refine Calls.mono (HIA.out _) ?_
     rintro x w1 ⟨rfl, hb1⟩
     have hK : Blk w1 w.heap.size #[.int .i64 k, .iface tu xu, .iface tv xv] 202 := HK.out.drew.below hb1 HK.out.lt
     have q1 : w1.cell? ⟨w.heap.size, 1, none⟩ = some (.iface tu xu) := hK.cell 1
     have q2 : w1.cell? ⟨w.heap.size, 2, none⟩ = some (.iface tv xv) := hK.cell 2
     have HB1 := hd hb1
     clear hK hb1)
  | (refine Calls.mono (HIB.out _) ?_
     rintro x w2 ⟨rfl, hb2⟩
     have HB2 := hd hb2
     clear hb2))
 all_goals
  have hs1 := HB1.out.size
  have hs := HB.out.size
  have HBF : Hid (Below w.heap.size w w2) := (HB.out.trans ((Below.refl _ _).drew.trans (HB1.out.mono (by simp at *; omega)))).trans (HB2.out.mono (by simp at *; omega))
  clear HB HB1 HB2 q1 q2 k1 k2
  go_wp2
  go_ret
  exact ⟨rfl, HBF.out⟩
theorem y_Depth_any (e : Px.E) (hs : e.size ≤ 100000) : ∀ w : World, Calls Tryz.prog 214 #[ev e] w fun x w' => x = .returned (.int .i64 (e.depth : Int)) ∧ Below w.heap.size w w' := by
 induction e with
 | un k e ih =>
  intro w
  obtain ⟨t, y, hy⟩ := evi e
  have hsz : e.size ≤ 100000 := by simp only [Px.E.size] at hs; omega
  have hdp := e.depth_le
  have ih' := ih hsz
  rw [hy] at ih'
  have := depth_un (k : Int) t y e.depth (by omega) ih' w
  unfold ev
  rw [hy]
  refine this.mono ?_
  rintro x w' ⟨rfl, hb⟩
  exact ⟨by simp only [Px.E.depth]; rw [show ((e.depth + 1 : Nat) : Int) = 1 + (e.depth : Int) by omega], hb⟩
 | bin k a b iha ihb =>
  intro w
  obtain ⟨ta, ya, hya⟩ := evi a
  obtain ⟨tb, yb, hyb⟩ := evi b
  have hsa : a.size ≤ 100000 := by simp only [Px.E.size] at hs; omega
  have hsb : b.size ≤ 100000 := by simp only [Px.E.size] at hs; omega
  have hda := a.depth_le
  have hdb := b.depth_le
  have iha' := iha hsa
  have ihb' := ihb hsb
  rw [hya] at iha'
  rw [hyb] at ihb'
  unfold ev
  rw [hya, hyb]
  by_cases hde : (a.depth : Int) < (b.depth : Int)
  · refine (depth_bin1 (k : Int) ta ya tb yb a.depth b.depth (by omega) (by omega) iha' ihb' w hde).mono ?_
    rintro x w' ⟨rfl, hb⟩
    refine ⟨?_, hb⟩
    simp only [Px.E.depth]
    rw [Nat.max_eq_right (by omega), show ((b.depth + 1 : Nat) : Int) = 1 + (b.depth : Int) by omega]
  refine (depth_bin2 (k : Int) ta ya tb yb a.depth b.depth (by omega) (by omega) iha' ihb' w hde).mono ?_
  rintro x w' ⟨rfl, hb⟩
  refine ⟨?_, hb⟩
  simp only [Px.E.depth]
  rw [Nat.max_eq_left (by omega), show ((a.depth + 1 : Nat) : Int) = 1 + (a.depth : Int) by omega]
 | null => intro w; exact depth_leaf _ _ (.inl rfl) w
 | bool b => intro w; exact depth_leaf _ _ (.inr (.inl rfl)) w
 | num z => intro w; exact depth_leaf _ _ (.inr (.inr (.inl rfl))) w
 | str s => intro w; exact depth_leaf _ _ (.inr (.inr (.inr (.inl rfl)))) w
 | nm s => intro w; exact depth_leaf _ _ (.inr (.inr (.inr (.inr rfl)))) w
section
section
variable (B : Nat) (lv : Value) (ts : List Lx.Tok) (sz : Nat) (dp : Bool)
def LvOk (m n : Nat) : Prop := ∀ (w : World) (q : List Lx.Tok), q.length ≤ n → Cx w B lv ts sz q dp → Calls Tryz.prog 213 #[.pointer (some ⟨B, 0, none⟩), .int .i64 (m : Int)] w (OutR w B lv ts sz dp (lvR sz m) q exV noDeep)
end
theorem single_num {sz tp : Nat} {tt : Lx.Bs} {q : List Lx.Tok} {r : Px.Res Nat} (ht : Px.dval tt ≤ 9223372036854775808) (htop : Px.dval tt = 9223372036854775808 ↔ tt = Lx.top) (h : numR sz 9223372036854775807 (⟨16, tt, tp⟩ :: q) r) : lvR sz 9 (⟨16, tt, tp⟩ :: q) (Px.mapR (fun n : Nat => Px.E.num n) r) := by
 unfold numR at h
 simp only at h
 rw [if_neg (by simp)] at h
 by_cases he : tt = Lx.top
 · rw [if_pos (.inl he)] at h
   subst h
   refine lvR_err (Px.Ex.atom rfl ?_)
   simp only [Px.atom]
   rw [if_pos trivial, if_pos he]
 have : Px.dval tt ≠ 9223372036854775808 := fun e => he (htop.1 e)
 rw [if_neg (by rintro (e | e); exact he e; omega)] at h
 subst h
 refine lvR_ok (by omega) (Px.Ex.atom rfl ?_) ?_
 · simp only [Px.atom]
   rw [if_pos trivial, if_neg he]
   rfl
 simp only [Px.E.ok]; omega
theorem single_str {sz tp : Nat} {tt : Lx.Bs} {q : List Lx.Tok} (hl : tt.length ≤ 2000) : lvR sz 9 (⟨17, tt, tp⟩ :: q) (.ok (.str tt, q)) := lvR_ok (by omega) (Px.Ex.atom rfl rfl) hl
theorem single_name {sz tp : Nat} {tt : Lx.Bs} {q : List Lx.Tok} {r : Px.Res Lx.Bs} (h : Px.nameR sz (⟨18, tt, tp⟩ :: q) r) : lvR sz 9 (⟨18, tt, tp⟩ :: q) (Px.mapR Px.E.nm r) := by
 unfold Px.nameR at h
 simp only [Px.name] at h
 rw [if_neg (by simp)] at h
 by_cases hl : 30 < tt.length
 · rw [if_pos hl] at h
   cases h
   refine lvR_err (Px.Ex.atom rfl ?_)
   simp only [Px.atom]
   rw [if_neg (by decide), if_neg (by decide), if_pos trivial, if_pos hl]
 rw [if_neg hl] at h
 cases h
 refine lvR_ok (by omega) (Px.Ex.atom rfl ?_) (by show tt.length ≤ 30; omega)
 simp only [Px.atom]
 rw [if_neg (by decide), if_neg (by decide), if_pos trivial, if_neg hl]
 rfl
theorem single_key {sz : Nat} {q : List Lx.Tok} (hs : ∀ t ∈ q, Px.SgnOk t) {s : Lx.Bs} {e : Px.E} (h : Px.sees s q = true) (hk : (s = Px.kTRUE ∧ e = .bool true) ∨ (s = Px.kFALSE ∧ e = .bool false) ∨ (s = Px.kNULL ∧ e = .null)) : lvR sz 9 q (.ok (e, q.tail)) := by
 obtain ⟨t, r, rfl⟩ := Px.sees_cons h
 have hkey : Lx.hasB Lx.keys s = true := by rcases hk with ⟨rfl, _⟩ | ⟨rfl, _⟩ | ⟨rfl, _⟩ <;> decide
 obtain ⟨h1, h2⟩ := (Px.sees_key hkey (hs t (by simp))).1 h
 obtain ⟨tk, tt, tp⟩ := t
 simp only at h1 h2
 subst h1 h2
 rcases hk with ⟨rfl, rfl⟩ | ⟨rfl, rfl⟩ | ⟨rfl, rfl⟩
 · exact lvR_ok (by omega) (Px.Ex.atom rfl rfl) trivial
 · exact lvR_ok (by omega) (Px.Ex.atom rfl rfl) trivial
 exact lvR_ok (by omega) (Px.Ex.atom rfl rfl) trivial
theorem single_none {sz : Nat} {q : List Lx.Tok} (h16 : (pk sz q).kind ≠ 16) (h17 : (pk sz q).kind ≠ 17) (h18 : (pk sz q).kind ≠ 18) (h1 : Px.sees Px.kTRUE q = false) (h2 : Px.sees Px.kFALSE q = false) (h3 : Px.sees Px.kNULL q = false) (h4 : Px.sees Px.gOpen q = false) : lvR sz 9 q (.error (Px.plc sz q, 4)) := by
 refine lvR_err (Px.Ex.atom h4 ?_)
 cases q with
 | nil => rfl
 | cons t r =>
  simp only [pk] at h16 h17 h18
  simp only [Px.atom, Px.plc]
  rw [if_neg h16, if_neg h17, if_neg h18]
  split
  · rename_i h50
    have K : ∀ s, Px.sees s (t :: r) = false → t.text ≠ s := by
     intro s hs e
     simp [Px.sees, h50, e] at hs
    rw [if_neg (K _ h3), if_neg (K _ h1), if_neg (K _ h2)]
  rfl
theorem single_bra {sz : Nat} {q : List Lx.Tok} (h : Px.sees Px.gOpen q = true) {r : Px.Res Px.E} (h1 : lvR sz 1 q.tail r) {r' : Px.Res Px.E} (h2 : Px.Then r (fun e p s => Px.Rg.seq (Px.mustR sz Px.gShut) (fun _ => Px.Rg.ret e) p s) r') : lvR sz 9 q r' := by
 match r, h1, h2 with
 | .error (p, c), h1, h2 =>
  simp only [Px.Then] at h2
  subst h2
  exact lvR_err (Px.Ex.bra h h1.1 rfl)
 | .ok (e, p), h1, h2 =>
  simp only [Px.Then] at h2
  rcases Px.seq_ok h2 with ⟨⟨p1, c1⟩, h3, rfl⟩ | ⟨_, p', h3, h4⟩
  · rcases Px.must_some h3 with ⟨_, h5⟩ | ⟨h5, h6⟩
    · cases h5
    cases h6
    refine lvR_err (Px.Ex.bra h h1.1 ?_)
    show _ = _
    rw [if_neg (by simp [h5])]
  cases h4
  rcases Px.must_some h3 with ⟨h5, h6⟩ | ⟨_, h5⟩
  · cases h6
    refine lvR_ok (by omega) (Px.Ex.bra h h1.1 ?_) (h1.2 _ _ rfl).1
    show _ = _
    rw [if_pos h5]
  cases h5
theorem Cx.sgn {w : World} {B : Nat} {lv : Value} {ts : List Lx.Tok} {sz : Nat} {q : List Lx.Tok} {dp : Bool} (h : Cx w B lv ts sz q dp) : ∀ t ∈ q, Px.SgnOk t := by
 obtain ⟨k, rfl, h2⟩ := h
 intro t ht
 exact (h2.toks t (List.mem_of_mem_drop ht)).2.1
theorem c_single_lit (B : Nat) (lv : Value) (ts : List Lx.Tok) (sz : Nat) (dp : Bool) (w : World) (q : List Lx.Tok) (tk : Nat) (tt : Lx.Bs) (tp : Nat) (hk : tk = 16 ∨ tk = 17 ∨ tk = 18) (h : Cx w B lv ts sz (⟨tk, tt, tp⟩ :: q) dp) :
   Calls Tryz.prog 260 #[.pointer (some ⟨B, 0, none⟩)] w (OutR w B lv ts sz dp (lvR sz 9) (⟨tk, tt, tp⟩ :: q) exV noDeep) := by
 have hf0 := fld0
 have hf1 := fld1
 rcases hk with rfl | rfl | rfl
 · obtain ⟨hok, _, _, hlen⟩ := h.tok
   obtain ⟨hne, hdig, hov⟩ := hok.digs rfl
   simp only at hne hdig hov hlen
   have HT := hd (top_iff hdig hov)
   have HX := hd h
   clear h hok hne hdig hov
   go_enter Tryz.func260, Tryz.ntmps260
   go_wp2_with fail
   refine (c_peek_any w B lv ts sz _ dp HX.out).mono ?_
   rintro x w1 ⟨rfl, hb⟩
   have HX1 := hd (HX.out.below hb)
   have HB := hd hb
   clear hb
   unfold tokA pk
   simp only
   go_wp2_with fail
   refine (c_number_any w1 B lv ts sz _ dp HX1.out 9223372036854775807 (by omega)).mono ?_
   rintro x w2 ho
   obtain ⟨hg, ⟨p, c, hr, rfl⟩ | ⟨n, q', v, hr, rfl, hv, hx⟩⟩ := ho.cases
   · exact ⟨rfl, OutR.err (gbt (Below.grownBy HB.out) hg) (single_num HT.out.2 HT.out.1 hr)⟩
   cases hv
   have HR := hd (single_num HT.out.2 HT.out.1 hr)
   go_wp2_with fail
   go_ret
   exact OutR.ok (gbt (Below.grownBy HB.out) hg) HR.out rfl hx
 · have hlen := h.tok.2.2.2
   simp only at hlen
   have HX := hd h
   clear h
   go_enter Tryz.func260, Tryz.ntmps260
   go_wp2_with fail
   refine (c_peek_any w B lv ts sz _ dp HX.out).mono ?_
   rintro x w1 ⟨rfl, hb⟩
   have HX1 := hd (HX.out.below hb)
   have HB := hd hb
   clear hb
   unfold tokA pk
   simp only
   go_wp2_with fail
   refine (c_take_yes w1 B lv ts sz 17 tt tp q dp HX1.out 17 rfl).mono ?_
   rintro x w2 ⟨rfl, hx, hg⟩
   unfold tokA
   simp only
   go_wp2_with fail
   go_ret
   exact OutR.ok (gbt (Below.grownBy HB.out) hg) (single_str hlen) rfl hx
 have HX := hd h
 clear h
 go_enter Tryz.func260, Tryz.ntmps260
 go_wp2_with fail
 refine (c_peek_any w B lv ts sz _ dp HX.out).mono ?_
 rintro x w1 ⟨rfl, hb⟩
 have HX1 := hd (HX.out.below hb)
 have HB := hd hb
 clear hb
 unfold tokA pk
 simp only
 go_wp2_with fail
 refine (c_name_any w1 B lv ts sz _ dp HX1.out).mono ?_
 rintro x w2 ho
 obtain ⟨hg, ⟨p, c, hr, rfl⟩ | ⟨n, q', v, hr, rfl, hv, hx⟩⟩ := ho.cases
 · exact ⟨rfl, OutR.err (gbt (Below.grownBy HB.out) hg) (single_name hr)⟩
 cases hv
 have HR := hd (single_name hr)
 go_wp2_with fail
 go_ret
 exact OutR.ok (gbt (Below.grownBy HB.out) hg) HR.out rfl hx
theorem c_single_word (B : Nat) (lv : Value) (ts : List Lx.Tok) (sz : Nat) (dp : Bool) (w : World) (q : List Lx.Tok) (tk : Nat) (tt : Lx.Bs) (tp : Nat) (ht : pk sz q = ⟨tk, tt, tp⟩) (h16 : tk ≠ 16) (h17 : tk ≠ 17) (h18 : tk ≠ 18) (h : Cx w B lv ts sz q dp)
   (ih : ∀ n, n < q.length → LvOk B lv ts sz dp 1 n) :
   Calls Tryz.prog 260 #[.pointer (some ⟨B, 0, none⟩)] w (OutR w B lv ts sz dp (lvR sz 9) q exV noDeep) := by
 have hf0 := fld0
 have HX := hd h
 have HT := hd ht
 have HS := hd h.sgn
 have HI := hd ih
 have e16 : ((tk : Int) == 16) = false := by rw [beq_eq_false_iff_ne]; omega
 have e17 : ((tk : Int) == 17) = false := by rw [beq_eq_false_iff_ne]; omega
 have e18 : ((tk : Int) == 18) = false := by rw [beq_eq_false_iff_ne]; omega
 clear h ht ih
 go_enter Tryz.func260, Tryz.ntmps260
 go_wp2_with fail
 refine (c_peek_any w B lv ts sz _ dp HX.out).mono ?_
 rintro x w1 ⟨rfl, hb⟩
 have HX1 := hd (HX.out.below hb)
 have HB := hd (Below.grownBy (row := some B) hb)
 clear hb
 rw [HT.out]
 unfold tokA
 simp only
 cases hs1 : Px.sees Px.kTRUE q with
 | true =>
  go_wp2_with fail
  refine (cay ⟨#[84, 82, 85, 69]⟩ w1 B lv ts sz q dp HX1.out hs1 (by simp)).mono ?_
  rintro x w2 ⟨rfl, hx, hg⟩
  go_wp2_with fail
  go_ret
  exact OutR.ok (gbt HB.out hg) (single_key HS.out hs1 (.inl ⟨rfl, rfl⟩)) rfl hx
 | false =>
  go_wp2_with fail
  refine (cano ⟨#[84, 82, 85, 69]⟩ w1 B lv ts sz q dp HX1.out hs1 (by simp)).mono ?_
  rintro x w2 ⟨rfl, hb2⟩
  have HX2 := hd (HX1.out.below hb2)
  have HB2 := hd (gbt HB.out (Below.grownBy (row := some B) hb2))
  clear hb2
  cases hs2 : Px.sees Px.kFALSE q with
  | true =>
   go_wp2_with fail
   refine (cay ⟨#[70, 65, 76, 83, 69]⟩ w2 B lv ts sz q dp HX2.out hs2 (by simp)).mono ?_
   rintro x w3 ⟨rfl, hx, hg⟩
   go_wp2_with fail
   go_ret
   exact OutR.ok (gbt HB2.out hg) (single_key HS.out hs2 (.inr (.inl ⟨rfl, rfl⟩))) rfl hx
  | false =>
   go_wp2_with fail
   refine (cano ⟨#[70, 65, 76, 83, 69]⟩ w2 B lv ts sz q dp HX2.out hs2 (by simp)).mono ?_
   rintro x w3 ⟨rfl, hb3⟩
   have HX3 := hd (HX2.out.below hb3)
   have HB3 := hd (gbt HB2.out (Below.grownBy (row := some B) hb3))
   clear hb3
   cases hs3 : Px.sees Px.kNULL q with
   | true =>
    go_wp2_with fail
    refine (cay ⟨#[78, 85, 76, 76]⟩ w3 B lv ts sz q dp HX3.out hs3 (by simp)).mono ?_
    rintro x w4 ⟨rfl, hx, hg⟩
    go_wp2_with fail
    go_ret
    exact OutR.ok (gbt HB3.out hg) (single_key HS.out hs3 (.inr (.inr ⟨rfl, rfl⟩))) rfl hx
   | false =>
    go_wp2_with fail
    refine (cano ⟨#[78, 85, 76, 76]⟩ w3 B lv ts sz q dp HX3.out hs3 (by simp)).mono ?_
    rintro x w4 ⟨rfl, hb4⟩
    have HX4 := hd (HX3.out.below hb4)
    have HB4 := hd (gbt HB3.out (Below.grownBy (row := some B) hb4))
    clear hb4
    go_wp2_with fail
    refine (c_expect_new ⟨#[40]⟩ w4 B lv ts sz q dp HX4.out (by simp)).mono ?_
    rintro x w5 ho
    obtain ⟨hg5, ⟨p, c, hr, rfl⟩ | ⟨_, q5, v, hr, rfl, hv, hx5⟩⟩ := ho.cases
    · refine ⟨rfl, OutR.err (gbt HB4.out hg5) ?_⟩
      rcases Px.must_some hr with ⟨_, h6⟩ | ⟨h6, h7⟩
      · cases h6
      cases h7
      exact single_none (by rw [HT.out]; exact h16) (by rw [HT.out]; exact h17) (by rw [HT.out]; exact h18) hs1 hs2 hs3 h6
    cases hv
    have hopen : Px.sees Px.gOpen q = true ∧ q5 = q.tail := by
     rcases Px.must_some hr with ⟨h6, h7⟩ | ⟨_, h6⟩
     · cases h7; exact ⟨h6, rfl⟩
     cases h6
    obtain ⟨hop, rfl⟩ := hopen
    have HO := hd hop
    have HX5 := hd hx5
    have HB5 := hd (gbt HB4.out hg5)
    have hlen := Px.sees_len hop
    clear hr hop hx5 hg5
    go_wp2_with fail
    refine (HI.out q.tail.length (by omega) w5 q.tail (nlr _) HX5.out).mono ?_
    rintro x w6 ho
    obtain ⟨hg6, ⟨p, c, hr, rfl⟩ | ⟨e, q6, v, hr, rfl, hv, hx6⟩⟩ := ho.cases
    · exact ⟨rfl, OutR.err (gbt HB5.out hg6) (single_bra HO.out hr rfl)⟩
    cases hv
    have HR6 := hd hr
    have HX6 : Hid (Cx w6 B lv ts sz q6 dp) := hx6
    have HB6 := hd (gbt HB5.out hg6)
    obtain ⟨et, ex, hev⟩ := evi e
    have HEV := hd hev
    rw [hev]
    clear hr hx6 hg6 hev
    go_wp2_with fail
    refine (c_expect_new ⟨#[41]⟩ w6 B lv ts sz q6 dp HX6.out (by simp)).mono ?_
    rintro x w7 ho
    obtain ⟨hg7, ⟨p, c, hr, rfl⟩ | ⟨_, q7, v, hr, rfl, hv, hx7⟩⟩ := ho.cases
    · exact ⟨rfl, OutR.err (gbt HB6.out hg7) (single_bra HO.out HR6.out (Px.Rg.err hr))⟩
    cases hv
    have HR7 := hd hr
    clear hr
    go_wp2_with fail
    go_ret
    exact OutR.ok (gbt HB6.out hg7) (single_bra HO.out HR6.out (Px.Rg.go HR7.out rfl)) (by rw [← HEV.out]; rfl) hx7
end
theorem c_single_any (B : Nat) (lv : Value) (ts : List Lx.Tok) (sz : Nat) (dp : Bool) (w : World) (q : List Lx.Tok) (h : Cx w B lv ts sz q dp) (ih : ∀ n, n < q.length → LvOk B lv ts sz dp 1 n) :
   Calls Tryz.prog 260 #[.pointer (some ⟨B, 0, none⟩)] w (OutR w B lv ts sz dp (lvR sz 9) q exV noDeep) := by
 rcases ht : pk sz q with ⟨tk, tt, tp⟩
 by_cases hk : tk = 16 ∨ tk = 17 ∨ tk = 18
 · obtain ⟨q', rfl⟩ := pk_cons ht (by omega)
   exact c_single_lit B lv ts sz dp w q' tk tt tp hk h
 exact c_single_word B lv ts sz dp w q tk tt tp ht (by omega) (by omega) (by omega) h ih
theorem lvR_up8 {sz : Nat} {q : List Lx.Tok} {r : Px.Res Px.E} (hs : Px.sees Px.gMinus q = false) (h : lvR sz 9 q r) : lvR sz 8 q r := ⟨Px.Ex.up8 hs h.1, h.2⟩
theorem lvR_top {sz tp : Nat} {q q' : List Lx.Tok} (hs : Px.sees Px.gMinus q = true) (ht : q.tail = ⟨16, Lx.top, tp⟩ :: q') : lvR sz 8 q (.ok (.num Px.bot, q')) := by
 refine lvR_ok (by omega) ?_ (by simp only [Px.E.ok, Px.bot]; omega)
 have := Px.Ex.top (sz := sz) (a := []) hs (by rw [ht]; rfl)
 rw [ht] at this
 exact this
theorem isTop_no {sz : Nat} {q : List Lx.Tok} {tk : Nat} {tt : Lx.Bs} {tp : Nat} (ht : pk sz q = ⟨tk, tt, tp⟩) (h : ¬ (tk = 16 ∧ tt = Lx.top)) : Px.isTop q = false := by
 cases q with
 | nil => rfl
 | cons t q =>
  simp only [pk] at ht
  subst ht
  simp only [Px.isTop, Bool.and_eq_false_iff, decide_eq_false_iff_not, beq_eq_false_iff_ne]
  by_cases h1 : tk = 16
  · exact .inr fun e => h ⟨h1, e⟩
  exact .inl h1
theorem lvR_neg {sz : Nat} {q : List Lx.Tok} {r r' : Px.Res Px.E} (hs : Px.sees Px.gMinus q = true) (ht : Px.isTop q.tail = false) (h : lvR sz 8 q.tail r) (h' : Px.Then r (fun e p s => (∃ z, e = .num z ∧ s = if z = Px.bot then .error (Px.plc sz q, 3) else .ok (.num (-z), p)) ∨ (e.isNum = false ∧ s = .ok (.un 19 e, p))) r') : lvR sz 8 q r' := by
 match r, h, h' with
 | .error (p, c), h, h' =>
  simp only [Px.Then] at h'
  subst h'
  exact lvR_err (Px.Ex.neg hs ht h.1 rfl)
 | .ok (e, p), h, h' =>
  simp only [Px.Then] at h'
  have ho := (h.2 _ _ rfl).1
  rcases h' with ⟨z, rfl, rfl⟩ | ⟨hn, rfl⟩
  · by_cases hz : z = Px.bot
    · rw [if_pos hz]
      refine lvR_err (Px.Ex.neg hs ht h.1 ?_)
      show Px.negate _ _ _ = _
      rw [Px.negate_num, if_pos hz]
    rw [if_neg hz]
    refine lvR_ok (by omega) (Px.Ex.neg hs ht h.1 ?_) ?_
    · show Px.negate _ _ _ = _
      rw [Px.negate_num, if_neg hz]
    simp only [Px.E.ok, Px.bot] at *; omega
  refine lvR_ok (by omega) (Px.Ex.neg hs ht h.1 ?_) ⟨by omega, by omega, fun _ => hn, ho⟩
  exact Px.negate_not _ 2000 e _ hn ho
theorem c_minus_step (B : Nat) (lv : Value) (ts : List Lx.Tok) (sz : Nat) (dp : Bool) (w : World) (q : List Lx.Tok) (h : Cx w B lv ts sz q dp) (ih : ∀ n, n < q.length → LvOk B lv ts sz dp 1 n)
   (rec : ∀ (w : World) (q' : List Lx.Tok), q'.length < q.length → Cx w B lv ts sz q' dp → Calls Tryz.prog 236 #[.pointer (some ⟨B, 0, none⟩)] w (OutR w B lv ts sz dp (lvR sz 8) q' exV noDeep)) :
   Calls Tryz.prog 236 #[.pointer (some ⟨B, 0, none⟩)] w (OutR w B lv ts sz dp (lvR sz 8) q exV noDeep) := by
 have hf2 := fld2
 have HX := hd h
 have HI := hd ih
 have HR := hd rec
 rcases ht : pk sz q with ⟨tk, tt, tp⟩
 have HT := hd ht
 have HP := hd (plc_tok ht)
 clear h ih rec ht
 cases hs : Px.sees Px.gMinus q with
 | false =>
  go_enter Tryz.func236, Tryz.ntmps236
  go_wp2_with fail
  refine (c_peek_any w B lv ts sz _ dp HX.out).mono ?_
  rintro x w1 ⟨rfl, hb⟩
  have HX1 := hd (HX.out.below hb)
  have HB := hd (Below.grownBy (row := some B) hb)
  clear hb
  rw [HT.out]
  unfold tokA
  simp only
  go_wp2_with fail
  refine (cano ⟨#[45]⟩ w1 B lv ts sz q dp HX1.out hs (by simp)).mono ?_
  rintro x w2 ⟨rfl, hb2⟩
  have HX2 := hd (HX1.out.below hb2)
  have HB2 := hd (gbt HB.out (Below.grownBy (row := some B) hb2))
  clear hb2
  go_wp2_with fail
  refine (c_single_any B lv ts sz dp w2 q HX2.out HI.out).mono ?_
  rintro x w3 ho
  obtain ⟨hg, ⟨p, c, hr, rfl⟩ | ⟨e, q', v, hr, rfl, hv, hx⟩⟩ := ho.cases
  · exact ⟨rfl, OutR.err (gbt HB2.out hg) (lvR_up8 hs hr)⟩
  have HRR := hd hr
  have HV := hd hv
  obtain ⟨et, ex, hev⟩ := evi e
  have hve : v = .iface et ex := by rw [← hev]; exact hv
  subst hve
  clear hr hv hev
  go_wp2_with fail
  go_ret
  exact OutR.ok (gbt HB2.out hg) (lvR_up8 hs HRR.out) HV.out hx
 | true =>
  have hlen := Px.sees_len hs
  go_enter Tryz.func236, Tryz.ntmps236
  go_wp2_with fail
  refine (c_peek_any w B lv ts sz _ dp HX.out).mono ?_
  rintro x w1 ⟨rfl, hb⟩
  have HX1 := hd (HX.out.below hb)
  have HB := hd (Below.grownBy (row := some B) hb)
  clear hb
  rw [HT.out]
  unfold tokA
  simp only
  go_wp2_with fail
  refine (cay ⟨#[45]⟩ w1 B lv ts sz q dp HX1.out hs (by simp)).mono ?_
  rintro x w2 ⟨rfl, hx2, hg2⟩
  have HX2 := hd hx2
  have HB2 := hd (gbt HB.out hg2)
  clear hx2 hg2
  rcases ht2 : pk sz q.tail with ⟨uk, ut, up⟩
  have HT2 := hd ht2
  clear ht2
  go_wp2_with fail
  refine (c_peek_any w2 B lv ts sz _ dp HX2.out).mono ?_
  rintro x w3 ⟨rfl, hb3⟩
  rw [HT2.out]
  unfold tokA
  simp only
  have HX30 := hd (HX2.out.below hb3)
  have HG30 := hd (gbt HB2.out (Below.grownBy (row := some B) hb3))
  have HX3 := hd ((HX2.out.below hb3).below ((Below.refl _ _).alloc (nlr _) (.cells #[.int .i64 (uk : Int), .string ⟨ut.toArray⟩, .int .i64 (up : Int)] 41)))
  have HB3 := hd (gba (gbt HB2.out (Below.grownBy (row := some B) hb3)) (.cells #[.int .i64 (uk : Int), .string ⟨ut.toArray⟩, .int .i64 (up : Int)] 41))
  clear hb3
  by_cases htop : uk = 16 ∧ ut = Lx.top
  · obtain ⟨rfl, rfl⟩ := htop
    obtain ⟨q', hq'⟩ := pk_cons HT2.out (by omega)
    obtain ⟨k, hk2, hblk⟩ := HX30.out.blk
    have HQ := hd hq'
    have c1 : w3.cell? ⟨B, 1, none⟩ = some (.int .i64 (k : Int)) := hblk.cell 1
    have f1 := hblk.free 1
    have HBK := hd hblk
    have hlt := HX30.out.lt
    have d1 : ¬ B = w3.heap.size := by omega
    have d2 : ¬ w3.heap.size = B := by omega
    clear hq' hblk
    have hte : ((⟨Lx.top.toArray⟩ : ByteArray).toList == [57, 50, 50, 51, 51, 55, 50, 48, 51, 54, 56, 53, 52, 55, 55, 53, 56, 48, 56]) = true := by rw [Lib.toList_data]; rfl
    have HL := hd (lvR_top (sz := sz) hs HQ.out)
    have HNX : Hid (Cx ((w3.setCell ⟨B, 1, none⟩ (.int .i64 ((k : Int) + 1))).alloc (.cells #[.int .i64 16, .string ⟨Lx.top.toArray⟩, .int .i64 (up : Int)] 41)) B lv ts sz q' dp) := by
     have := HX30.out.step (dp' := dp) (gba (gbs w3 B 1 (.int .i64 ((k : Int) + 1))) (.cells #[.int .i64 16, .string ⟨Lx.top.toArray⟩, .int .i64 (up : Int)] 41)) (by rw [HQ.out]; simp) k c1 ((HBK.out.set 1 _).alloc _)
     rw [HQ.out] at this
     exact this
    have HGX : Hid (w.grownBy ((w3.setCell ⟨B, 1, none⟩ (.int .i64 ((k : Int) + 1))).alloc (.cells #[.int .i64 16, .string ⟨Lx.top.toArray⟩, .int .i64 (up : Int)] 41)) (some B)) := gba (gbt HG30.out (gbs w3 B 1 (.int .i64 ((k : Int) + 1)))) _
    clear HX3 HB3
    generalize (⟨Lx.top.toArray⟩ : ByteArray) = tb at *
    go_wp2_with fail
    go_ret
    exact OutR.ok HGX.out HL.out rfl HNX.out
  have HNT := hd (isTop_no HT2.out htop)
  have hbool : ((uk : Int) == 16) = false ∨ (((uk : Int) == 16) = true ∧ ((⟨ut.toArray⟩ : ByteArray).toList == [57, 50, 50, 51, 51, 55, 50, 48, 51, 54, 56, 53, 52, 55, 55, 53, 56, 48, 56]) = false) := by
   by_cases h16 : uk = 16
   · right
     refine ⟨by simp [h16], ?_⟩
     rw [beq_eq_false_iff_ne, Lib.toList_data]
     intro e
     exact htop ⟨h16, e⟩
   left; rw [beq_eq_false_iff_ne]; omega
  have FIN : Hid (∀ (r : Px.Res Px.E), lvR sz 8 q.tail r → ∀ r', Px.Then r (fun e p s => (∃ z, e = .num z ∧ s = if z = Px.bot then .error (tp, 3) else .ok (.num (-z), p)) ∨ (e.isNum = false ∧ s = .ok (.un 19 e, p))) r' → lvR sz 8 q r') := by
   intro r hr r' hr'
   refine lvR_neg hs HNT.out hr ?_
   rw [HP.out]
   exact hr'
  clear htop
  generalize (⟨ut.toArray⟩ : ByteArray) = ub at *
  rcases hbool with h16 | ⟨h16, hte⟩
  all_goals
   go_wp2_with fail
   refine (HR.out _ q.tail (by omega) HX3.out).mono ?_
   rintro x w4 ho
   obtain ⟨hg, ⟨p, c, hr, rfl⟩ | ⟨e, q', v, hr, rfl, hv, hx⟩⟩ := ho.cases
   · exact ⟨rfl, OutR.err (gbt HB3.out hg) (FIN.out _ hr _ rfl)⟩
   have HRR := hd hr
   have HGF := hd (gbt HB3.out hg)
   have HXF : Hid (Cx w4 B lv ts sz q' dp) := hx
   cases hv
   clear hr hx hg
   by_cases hnum : e.isNum = true
   · obtain ⟨z, rfl⟩ : ∃ z, e = .num z := by cases e <;> simp [Px.E.isNum] at hnum; exact ⟨_, rfl⟩
     have hz := (HRR.out.2 _ _ rfl).1
     simp only [Px.E.ok] at hz
     unfold ev
     by_cases hbot : z = Px.bot
     · subst hbot
       go_wp2_with fail
       refine (c_neg_bot w4 _ tp).mono ?_
       rintro x w5 ⟨rfl, hb5⟩
       exact ⟨rfl, OutR.err (gbt HGF.out (Below.grownBy hb5)) (FIN.out _ HRR.out _ (.inl ⟨_, rfl, by rw [if_pos rfl]⟩))⟩
     go_wp2_with fail
     refine (c_neg_num w4 _ tp z (by unfold Px.bot at hbot; omega) hz.2).mono ?_
     rintro x w5 ⟨rfl, hb5⟩
     have HB5 := hd hb5
     clear hb5
     go_wp2_with fail
     go_ret
     exact OutR.ok (a := Px.E.num (-z)) (q' := q') (gbt HGF.out (Below.grownBy HB5.out)) (FIN.out _ HRR.out _ (.inl ⟨_, rfl, by rw [if_neg hbot]⟩)) rfl (HXF.out.below HB5.out)
   have hnum : e.isNum = false := by simpa using hnum
   obtain ⟨et, ex, hev⟩ := evi e
   have HEV := hd hev
   rw [hev]
   clear hev
   go_wp2_with fail
   refine Calls.mono (by have := c_neg_not w4 (.pointer (some ⟨B, 0, none⟩)) tp e hnum; rw [HEV.out] at this; exact this) ?_
   rintro x w5 ⟨rfl, hb5⟩
   have HB5 := hd hb5
   clear hb5
   obtain ⟨et2, ex2, hev2⟩ := evi (.un 19 e)
   have HEV2 := hd hev2
   rw [hev2]
   clear hev2
   go_wp2_with fail
   go_ret
   exact OutR.ok (a := Px.E.un 19 e) (q' := q') (gbt HGF.out (Below.grownBy HB5.out)) (FIN.out _ HRR.out _ (.inr ⟨hnum, rfl⟩)) (by rw [← HEV2.out]; rfl) (HXF.out.below HB5.out)
theorem c_minus_any (B : Nat) (lv : Value) (ts : List Lx.Tok) (sz : Nat) (dp : Bool) (N : Nat) (ih : ∀ n, n < N → LvOk B lv ts sz dp 1 n) : ∀ (n : Nat) (w : World) (q : List Lx.Tok), q.length ≤ n → n ≤ N → Cx w B lv ts sz q dp →
   Calls Tryz.prog 236 #[.pointer (some ⟨B, 0, none⟩)] w (OutR w B lv ts sz dp (lvR sz 8) q exV noDeep) := by
 intro n
 induction n with
 | zero => intro w q hq hN h; exact c_minus_step B lv ts sz dp w q h (fun m hm => ih m (by omega)) (fun w' q' hq' _ => by omega)
 | succ n ihn => intro w q hq hN h; exact c_minus_step B lv ts sz dp w q h (fun m hm => ih m (by omega)) (fun w' q' hq' h' => ihn w' q' (by omega) (by omega) h')
theorem opIn_nil (l : Nat) : Px.opIn Px.opTab l [] = 0 := by simp [Px.opTab, Px.opIn, Px.kOR, Px.kAND]
theorem oper_fix (l sz : Nat) (q : List Lx.Tok) : Px.opIn Px.opTab l (fixT (pk sz q)) = Px.oper l q := by
 cases q with
 | nil => exact opIn_nil l
 | cons t q =>
  rw [Px.oper_one]
  show Px.opIn Px.opTab l (fixT t) = _
  unfold fixT
  split
  · rfl
  exact opIn_nil l
def isR (sz : Nat) : Px.Rg Nat := fun q r => if Px.sees Px.kNOT q = true then Px.Rg.seq (Px.mustR sz Px.kNULL) (fun _ => Px.Rg.ret 22) q.tail r else Px.Rg.seq (Px.mustR sz Px.kNULL) (fun _ => Px.Rg.ret 21) q r
theorem c_null_any (B : Nat) (lv : Value) (ts : List Lx.Tok) (sz : Nat) (dp : Bool) (w : World) (q : List Lx.Tok) (h : Cx w B lv ts sz q dp) :
   Calls Tryz.prog 259 #[.pointer (some ⟨B, 0, none⟩)] w (OutR w B lv ts sz dp (isR sz) q numV noDeep) := by
 have HX := hd h
 clear h
 cases hs : Px.sees Px.kNOT q with
 | true =>
  have HR : Hid (∀ r, Px.Rg.seq (Px.mustR sz Px.kNULL) (fun _ => Px.Rg.ret 22) q.tail r → isR sz q r) := fun r hr => by unfold isR; rw [if_pos hs]; exact hr
  go_enter Tryz.func259, Tryz.ntmps259
  go_wp2_with fail
  refine (cay ⟨#[78, 79, 84]⟩ w B lv ts sz q dp HX.out hs (by simp)).mono ?_
  rintro x w2 ⟨rfl, hx, hg⟩
  have HX2 := hd hx
  have HG2 := hd hg
  clear hx hg
  go_wp2_with fail
  refine (c_expect_new ⟨#[78, 85, 76, 76]⟩ w2 B lv ts sz q.tail dp HX2.out (by simp)).mono ?_
  rintro x w3 ho
  obtain ⟨hg, ⟨p, c, hr, rfl⟩ | ⟨_, q', v, hr, rfl, hv, hx⟩⟩ := ho.cases
  · exact ⟨rfl, OutR.err (gbt HG2.out hg) (HR.out _ (Px.Rg.err hr))⟩
  cases hv
  have HRR := hd hr
  clear hr
  go_wp2_with fail
  go_ret
  exact OutR.ok (a := 22) (gbt HG2.out hg) (HR.out _ (Px.Rg.go HRR.out rfl)) rfl hx
 | false =>
  have HR : Hid (∀ r, Px.Rg.seq (Px.mustR sz Px.kNULL) (fun _ => Px.Rg.ret 21) q r → isR sz q r) := fun r hr => by unfold isR; rw [if_neg (by simp [hs])]; exact hr
  go_enter Tryz.func259, Tryz.ntmps259
  go_wp2_with fail
  refine (cano ⟨#[78, 79, 84]⟩ w B lv ts sz q dp HX.out hs (by simp)).mono ?_
  rintro x w2 ⟨rfl, hb⟩
  have HX2 := hd (HX.out.below hb)
  have HG2 := hd (Below.grownBy (row := some B) hb)
  clear hb
  go_wp2_with fail
  refine (c_expect_new ⟨#[78, 85, 76, 76]⟩ w2 B lv ts sz q dp HX2.out (by simp)).mono ?_
  rintro x w3 ho
  obtain ⟨hg, ⟨p, c, hr, rfl⟩ | ⟨_, q', v, hr, rfl, hv, hx⟩⟩ := ho.cases
  · exact ⟨rfl, OutR.err (gbt HG2.out hg) (HR.out _ (Px.Rg.err hr))⟩
  cases hv
  have HRR := hd hr
  clear hr
  go_wp2_with fail
  go_ret
  exact OutR.ok (a := 21) (gbt HG2.out hg) (HR.out _ (Px.Rg.go HRR.out rfl)) rfl hx
theorem cmp_err {sz : Nat} {q : List Lx.Tok} {p c : Nat} (h : lvR sz 5 q (.error (p, c))) : lvR sz 4 q (.error (p, c)) := lvR_err (Px.Ex.cmp h.1 rfl)
theorem cmp_none {sz : Nat} {q q1 : List Lx.Tok} {e : Px.E} (h : lvR sz 5 q (.ok (e, q1))) (hs : Px.sees Px.kIS q1 = false) (ho : Px.oper 4 q1 = 0) : lvR sz 4 q (.ok (e, q1)) :=
 lvR_ok (by omega) (Px.Ex.cmp h.1 (Px.tail4_none hs ho)) (h.2 _ _ rfl).1
theorem cmp_op {sz : Nat} {q q1 : List Lx.Tok} {e : Px.E} (h : lvR sz 5 q (.ok (e, q1))) (hs : Px.sees Px.kIS q1 = false) (ho : Px.oper 4 q1 ≠ 0) {r : Px.Res Px.E} (h2 : lvR sz 5 q1.tail r) : lvR sz 4 q (Px.mapR (Px.E.bin (Px.oper 4 q1) e) r) := by
 match r, h2 with
 | .error (p, c), h2 => exact lvR_err (Px.Ex.cmp h.1 (Px.tail4_op hs ho h2.1 rfl))
 | .ok (b, q2), h2 =>
  have hr := Px.oper_range ho
  exact lvR_ok (by omega) (Px.Ex.cmp h.1 (Px.tail4_op hs ho h2.1 rfl)) ⟨hr.1, hr.2, (h.2 _ _ rfl).1, (h2.2 _ _ rfl).1⟩
theorem cmp_is {sz : Nat} {q q1 : List Lx.Tok} {e : Px.E} (h : lvR sz 5 q (.ok (e, q1))) (hs : Px.sees Px.kIS q1 = true) {r : Px.Res Nat} (h2 : isR sz q1.tail r) : lvR sz 4 q (Px.mapR (fun k => Px.E.un k e) r) := by
 have ho := (h.2 _ _ rfl).1
 unfold isR at h2
 split at h2
 · rename_i hn
   have ht := Px.tail4_isnot (sz := sz) (b := e.nodes) hs hn
   rcases Px.seq_ok h2 with ⟨⟨p, c⟩, h3, rfl⟩ | ⟨_, q2, h3, h4⟩
   · rcases Px.must_some h3 with ⟨_, h5⟩ | ⟨h5, h6⟩
     · cases h5
     cases h6
     rw [if_neg (by simp [h5])] at ht
     exact lvR_err (Px.Ex.cmp h.1 ht)
   cases h4
   rcases Px.must_some h3 with ⟨h5, h6⟩ | ⟨_, h5⟩
   · cases h6
     rw [if_pos h5] at ht
     exact lvR_ok (by omega) (Px.Ex.cmp h.1 ht) ⟨by omega, by omega, by omega, ho⟩
   cases h5
 rename_i hn
 have ht := Px.tail4_is (sz := sz) (b := e.nodes) hs (by simpa using hn)
 rcases Px.seq_ok h2 with ⟨⟨p, c⟩, h3, rfl⟩ | ⟨_, q2, h3, h4⟩
 · rcases Px.must_some h3 with ⟨_, h5⟩ | ⟨h5, h6⟩
   · cases h5
   cases h6
   rw [if_neg (by simp [h5])] at ht
   exact lvR_err (Px.Ex.cmp h.1 ht)
 cases h4
 rcases Px.must_some h3 with ⟨h5, h6⟩ | ⟨_, h5⟩
 · cases h6
   rw [if_pos h5] at ht
   exact lvR_ok (by omega) (Px.Ex.cmp h.1 ht) ⟨by omega, by omega, by omega, ho⟩
 cases h5
theorem c_cmp_any (B : Nat) (lv : Value) (ts : List Lx.Tok) (sz : Nat) (dp : Bool) (w : World) (q : List Lx.Tok) (h : Cx w B lv ts sz q dp) (ih : LvOk B lv ts sz dp 5 q.length) :
   Calls Tryz.prog 235 #[.pointer (some ⟨B, 0, none⟩)] w (OutR w B lv ts sz dp (lvR sz 4) q exV noDeep) := by
 have HX := hd h
 have HI := hd ih
 clear h ih
 go_enter Tryz.func235, Tryz.ntmps235
 go_wp2_with fail
 refine (HI.out w q (nlr _) HX.out).mono ?_
 rintro x w1 ho
 obtain ⟨hg, ⟨p, c, hr, rfl⟩ | ⟨e, q1, v, hr, rfl, hv, hx⟩⟩ := ho.cases
 · exact ⟨rfl, OutR.err hg (cmp_err hr)⟩
 cases hv
 have HR := hd hr
 have HX1 : Hid (Cx w1 B lv ts sz q1 dp) := hx
 have HG1 := hd hg
 have hlen := (hr.2 _ _ rfl).2
 obtain ⟨et, ex, hev⟩ := evi e
 have HEV := hd hev
 rw [hev]
 clear hr hx hg hev ho
 cases hs : Px.sees Px.kIS q1 with
 | true =>
  go_wp2_with fail
  refine (cay ⟨#[73, 83]⟩ w1 B lv ts sz q1 dp HX1.out hs (by simp)).mono ?_
  rintro x w2 ⟨rfl, hx2, hg2⟩
  have HX2 := hd hx2
  have HG2 := hd (gbt HG1.out hg2)
  clear hx2 hg2
  go_wp2_with fail
  refine (c_null_any B lv ts sz dp w2 q1.tail HX2.out).mono ?_
  rintro x w3 ho
  obtain ⟨hg, ⟨p, c, hr, rfl⟩ | ⟨k, q', v, hr, rfl, hv, hx⟩⟩ := ho.cases
  · exact ⟨rfl, OutR.err (gbt HG2.out hg) (cmp_is HR.out hs hr)⟩
  cases hv
  have HRR := hd (cmp_is HR.out hs hr)
  clear hr
  go_wp2_with fail
  go_ret
  exact OutR.ok (a := Px.E.un k e) (gbt HG2.out hg) HRR.out (by show _ = ev _; unfold ev; rw [HEV.out]; rfl) hx
 | false =>
  go_wp2_with fail
  refine (cano ⟨#[73, 83]⟩ w1 B lv ts sz q1 dp HX1.out hs (by simp)).mono ?_
  rintro x w2 ⟨rfl, hb2⟩
  have HX2 := hd (HX1.out.below hb2)
  have HG2 := hd (gbt HG1.out (Below.grownBy (row := some B) hb2))
  clear hb2
  go_wp2_with fail
  refine (c_fixed_any w2 B lv ts sz q1 dp HX2.out).mono ?_
  rintro x w3 ⟨rfl, hb3⟩
  have HX3 := hd (HX2.out.below hb3)
  have HG3 := hd (gbt HG2.out (Below.grownBy (row := some B) hb3))
  clear hb3
  go_wp2_with fail
  refine (y_Operator_any ⟨(fixT (pk sz q1)).toArray⟩ 4 w3 HX3.out.env (by omega)).mono ?_
  rintro x w4 ⟨rfl, hb4⟩
  have HX4 := hd (HX3.out.below hb4)
  have HG4 := hd (gbt HG3.out (Below.grownBy (row := some B) hb4))
  have hop := oper_fix 4 sz q1
  simp only [hop]
  clear hb4 hop
  by_cases h0 : Px.oper 4 q1 = 0
  · have HF := hd (cmp_none HR.out hs h0)
    rw [h0]
    go_wp2_with fail
    go_ret
    exact OutR.ok (a := e) HG4.out HF.out (by show _ = ev _; rw [HEV.out]; rfl) HX4.out
  have hdec : decide (Px.oper 4 q1 ≠ 0) = true := decide_eq_true h0
  have hq1 : q1 ≠ [] := by rintro rfl; exact h0 rfl
  obtain ⟨k, hk2, hblk⟩ := HX4.out.blk
  have c1 : w4.cell? ⟨B, 1, none⟩ = some (.int .i64 (k : Int)) := hblk.cell 1
  have f1 := hblk.free 1
  have HX5 : Hid (Cx (w4.setCell ⟨B, 1, none⟩ (.int .i64 ((k : Int) + 1))) B lv ts sz q1.tail dp) := HX4.out.step (gbs w4 B 1 _) hq1 k c1 (hblk.set 1 _)
  have HG5 := hd (gbt HG4.out (gbs w4 B 1 (.int .i64 ((k : Int) + 1))))
  have htl : q1.tail.length ≤ q.length := by have := Px.tail_le q1; have := e.size_pos; omega
  rw [hdec]
  have HF := hd (fun r (hr : lvR sz 5 q1.tail r) => cmp_op HR.out hs h0 hr)
  generalize Px.oper 4 q1 = ok at *
  clear hblk hdec h0
  go_wp2_with fail
  refine (HI.out _ q1.tail htl HX5.out).mono ?_
  rintro x w6 ho
  obtain ⟨hg, ⟨p, c, hr, rfl⟩ | ⟨b, q', v, hr, rfl, hv, hx⟩⟩ := ho.cases
  · exact ⟨rfl, OutR.err (gbt HG5.out hg) (HF.out _ hr)⟩
  cases hv
  have HRR := hd (HF.out _ hr)
  obtain ⟨bt, bx, hev⟩ := evi b
  have HEVB := hd hev
  rw [hev]
  clear hr hev
  go_wp2_with fail
  go_ret
  exact OutR.ok (a := Px.E.bin ok e b) (gbt HG5.out hg) HRR.out (by show _ = ev _; unfold ev; rw [HEV.out, HEVB.out]; rfl) hx
theorem lvR_up3 {sz : Nat} {q : List Lx.Tok} {r : Px.Res Px.E} (hs : Px.sees Px.kNOT q = false) (h : lvR sz 4 q r) : lvR sz 3 q r := ⟨Px.Ex.up3 hs h.1, h.2⟩
theorem lvR_not {sz : Nat} {q : List Lx.Tok} {r : Px.Res Px.E} (hs : Px.sees Px.kNOT q = true) (h : lvR sz 3 q.tail r) : lvR sz 3 q (Px.mapR (Px.E.un 20) r) := by
 match r, h with
 | .error (p, c), h => exact lvR_err (Px.Ex.not hs h.1 rfl)
 | .ok (e, p), h => exact lvR_ok (by omega) (Px.Ex.not hs h.1 rfl) ⟨by omega, by omega, by omega, (h.2 _ _ rfl).1⟩
theorem c_not_step (B : Nat) (lv : Value) (ts : List Lx.Tok) (sz : Nat) (dp : Bool) (w : World) (q : List Lx.Tok) (h : Cx w B lv ts sz q dp) (ih : LvOk B lv ts sz dp 4 q.length)
   (rec : ∀ (w : World) (q' : List Lx.Tok), q'.length < q.length → Cx w B lv ts sz q' dp → Calls Tryz.prog 234 #[.pointer (some ⟨B, 0, none⟩)] w (OutR w B lv ts sz dp (lvR sz 3) q' exV noDeep)) :
   Calls Tryz.prog 234 #[.pointer (some ⟨B, 0, none⟩)] w (OutR w B lv ts sz dp (lvR sz 3) q exV noDeep) := by
 have HX := hd h
 have HI := hd ih
 have HR := hd rec
 clear h ih rec
 cases hs : Px.sees Px.kNOT q with
 | true =>
  have hlen := Px.sees_len hs
  go_enter Tryz.func234, Tryz.ntmps234
  go_wp2_with fail
  refine (cay ⟨#[78, 79, 84]⟩ w B lv ts sz q dp HX.out hs (by simp)).mono ?_
  rintro x w2 ⟨rfl, hx, hg⟩
  have HX2 := hd hx
  have HG2 := hd hg
  clear hx hg
  go_wp2_with fail
  refine (HR.out w2 q.tail (by omega) HX2.out).mono ?_
  rintro x w3 ho
  obtain ⟨hg, ⟨p, c, hr, rfl⟩ | ⟨e, q', v, hr, rfl, hv, hx⟩⟩ := ho.cases
  · exact ⟨rfl, OutR.err (gbt HG2.out hg) (lvR_not hs hr)⟩
  cases hv
  have HRR := hd (lvR_not hs hr)
  obtain ⟨et, ex, hev⟩ := evi e
  have HEV := hd hev
  rw [hev]
  clear hr hev
  go_wp2_with fail
  go_ret
  exact OutR.ok (a := Px.E.un 20 e) (gbt HG2.out hg) HRR.out (by show _ = ev _; unfold ev; rw [HEV.out]; rfl) hx
 | false =>
  go_enter Tryz.func234, Tryz.ntmps234
  go_wp2_with fail
  refine (cano ⟨#[78, 79, 84]⟩ w B lv ts sz q dp HX.out hs (by simp)).mono ?_
  rintro x w2 ⟨rfl, hb⟩
  have HX2 := hd (HX.out.below hb)
  have HG2 := hd (Below.grownBy (row := some B) hb)
  clear hb
  go_wp2_with fail
  refine (HI.out w2 q (nlr _) HX2.out).mono ?_
  rintro x w3 ho
  obtain ⟨hg, ⟨p, c, hr, rfl⟩ | ⟨e, q', v, hr, rfl, hv, hx⟩⟩ := ho.cases
  · exact ⟨rfl, OutR.err (gbt HG2.out hg) (lvR_up3 hs hr)⟩
  cases hv
  have HRR := hd (lvR_up3 hs hr)
  obtain ⟨et, ex, hev⟩ := evi e
  have HEV := hd hev
  rw [hev]
  clear hr hev
  go_wp2_with fail
  go_ret
  exact OutR.ok (a := e) (gbt HG2.out hg) HRR.out (by show _ = ev _; rw [HEV.out]; rfl) hx
theorem c_not_any (B : Nat) (lv : Value) (ts : List Lx.Tok) (sz : Nat) (dp : Bool) : ∀ (n : Nat), LvOk B lv ts sz dp 4 n → ∀ (w : World) (q : List Lx.Tok), q.length ≤ n → Cx w B lv ts sz q dp →
   Calls Tryz.prog 234 #[.pointer (some ⟨B, 0, none⟩)] w (OutR w B lv ts sz dp (lvR sz 3) q exV noDeep) := by
 intro n ih
 have key : ∀ (k : Nat) (w : World) (q : List Lx.Tok), q.length ≤ k → q.length ≤ n → Cx w B lv ts sz q dp → Calls Tryz.prog 234 #[.pointer (some ⟨B, 0, none⟩)] w (OutR w B lv ts sz dp (lvR sz 3) q exV noDeep) := by
  intro k
  induction k with
  | zero => intro w q hq hn h; exact c_not_step B lv ts sz dp w q h (fun w' q' hq' h' => ih w' q' (by omega) h') (fun w' q' hq' _ => by omega)
  | succ k ihk => intro w q hq hn h; exact c_not_step B lv ts sz dp w q h (fun w' q' hq' h' => ih w' q' (by omega) h') (fun w' q' hq' h' => ihk w' q' (by omega) (by omega) h')
 intro w q hq h
 exact key q.length w q (nlr _) hq h
theorem level3 (B : Nat) (lv : Value) (ts : List Lx.Tok) (sz : Nat) (dp : Bool) (n : Nat) (ih : LvOk B lv ts sz dp 4 n) : LvOk B lv ts sz dp 3 n := by
 intro w q hq h
 have HC := hd (c_not_any B lv ts sz dp n ih w q hq h)
 clear h ih hq
 go_enter Tryz.func213, Tryz.ntmps213
 go_wp2_with fail
 refine HC.out.mono ?_
 rintro x w3 ho
 obtain ⟨hg, ⟨p, c, hr, rfl⟩ | ⟨e, q', v, hr, rfl, hv, hx⟩⟩ := ho.cases
 · exact ⟨rfl, OutR.err hg hr⟩
 cases hv
 have HRR := hd hr
 obtain ⟨et, ex, hev⟩ := evi e
 have HEV := hd hev
 rw [hev]
 clear hr hev
 go_wp2_with fail
 go_ret
 exact OutR.ok (a := e) hg HRR.out (by show _ = ev _; rw [HEV.out]; rfl) hx
theorem level4 (B : Nat) (lv : Value) (ts : List Lx.Tok) (sz : Nat) (dp : Bool) (n : Nat) (ih : LvOk B lv ts sz dp 5 n) : LvOk B lv ts sz dp 4 n := by
 intro w q hq h
 have HC := hd (c_cmp_any B lv ts sz dp w q h (fun w' q' hq' h' => ih w' q' (by omega) h'))
 clear h ih hq
 go_enter Tryz.func213, Tryz.ntmps213
 go_wp2_with fail
 refine HC.out.mono ?_
 rintro x w3 ho
 obtain ⟨hg, ⟨p, c, hr, rfl⟩ | ⟨e, q', v, hr, rfl, hv, hx⟩⟩ := ho.cases
 · exact ⟨rfl, OutR.err hg hr⟩
 cases hv
 have HRR := hd hr
 obtain ⟨et, ex, hev⟩ := evi e
 have HEV := hd hev
 rw [hev]
 clear hr hev
 go_wp2_with fail
 go_ret
 exact OutR.ok (a := e) hg HRR.out (by show _ = ev _; rw [HEV.out]; rfl) hx
theorem level8 (B : Nat) (lv : Value) (ts : List Lx.Tok) (sz : Nat) (dp : Bool) (n : Nat) (ih : ∀ k, k < n → LvOk B lv ts sz dp 1 k) : LvOk B lv ts sz dp 8 n := by
 intro w q hq h
 have HC := hd (c_minus_any B lv ts sz dp n ih n w q hq (nlr _) h)
 clear h ih hq
 go_enter Tryz.func213, Tryz.ntmps213
 go_wp2_with fail
 refine HC.out.mono ?_
 rintro x w3 ho
 obtain ⟨hg, ⟨p, c, hr, rfl⟩ | ⟨e, q', v, hr, rfl, hv, hx⟩⟩ := ho.cases
 · exact ⟨rfl, OutR.err hg hr⟩
 cases hv
 have HRR := hd hr
 obtain ⟨et, ex, hev⟩ := evi e
 have HEV := hd hev
 rw [hev]
 clear hr hev
 go_wp2_with fail
 go_ret
 exact OutR.ok (a := e) hg HRR.out (by show _ = ev _; rw [HEV.out]; rfl) hx
def atC (w : World) (B : Nat) : Nat := match w.cell? ⟨B, 1, none⟩ with
 | some (.int _ z) => z.toNat
 | _ => 0
theorem Cx.atC {w : World} {B : Nat} {lv : Value} {ts : List Lx.Tok} {sz : Nat} {q : List Lx.Tok} {dp : Bool} (h : Cx w B lv ts sz q dp) : q.length = ts.length - atC w B := by
 obtain ⟨k, rfl, h⟩ := h
 unfold Go.Proofs.YtkcakbgcfnhgaaaGreatDoor.atC
 rw [h.cells.2.1]
 simp
structure LeftAt (sz m : Nat) (q : List Lx.Tok) (e : Px.E) (q1 : List Lx.Tok) : Prop where
 ok : e.ok 2000
 len : q1.length < q.length
 goes : ∀ r, Px.Ex sz (m + 10) e.nodes q1 r → Px.Ex sz m [] q r
def LeftM (m : Nat) : Prop := m = 1 ∨ m = 2 ∨ m = 5 ∨ m = 6 ∨ m = 7
theorem left_err {sz m : Nat} {q : List Lx.Tok} {p c : Nat} (hm : LeftM m) (h : lvR sz (m + 1) q (.error (p, c))) : lvR sz m q (.error (p, c)) := by
 unfold LeftM at hm
 exact lvR_err (Px.Ex.left (by omega) (by omega) (by omega) h.1 rfl)
theorem left_first {sz m : Nat} {q q1 : List Lx.Tok} {e : Px.E} (hm : LeftM m) (h : lvR sz (m + 1) q (.ok (e, q1))) : LeftAt sz m q e q1 := by
 unfold LeftM at hm
 have h2 := h.2 _ _ rfl
 have := e.size_pos
 exact ⟨h2.1, by omega, fun r hr => Px.Ex.left (by omega) (by omega) (by omega) h.1 hr⟩
theorem left_end {sz m : Nat} {q q1 : List Lx.Tok} {e : Px.E} (hm : LeftM m) (h : LeftAt sz m q e q1) (ho : Px.oper m q1 = 0) : lvR sz m q (.ok (e, q1)) := by
 unfold LeftM at hm
 exact lvR_ok (by omega) (h.goes _ (Px.Ex.end_ ho)) h.ok
theorem left_fail {sz m : Nat} {q q1 : List Lx.Tok} {e : Px.E} (h : LeftAt sz m q e q1) (ho : Px.oper m q1 ≠ 0) {p c : Nat} (h2 : lvR sz (m + 1) q1.tail (.error (p, c))) : lvR sz m q (.error (p, c)) :=
 lvR_err (h.goes _ (Px.Ex.more ho h2.1 rfl))
theorem left_more {sz m : Nat} {q q1 q2 : List Lx.Tok} {e b : Px.E} (h : LeftAt sz m q e q1) (ho : Px.oper m q1 ≠ 0) (h2 : lvR sz (m + 1) q1.tail (.ok (b, q2))) : LeftAt sz m q (.bin (Px.oper m q1) e b) q2 := by
 have hr := Px.oper_range ho
 have := h2.2 _ _ rfl
 have := Px.tail_le q1
 have := h.len
 exact ⟨⟨hr.1, hr.2, h.ok, (h2.2 _ _ rfl).1⟩, by omega, fun r hr => h.goes _ (Px.Ex.more ho h2.1 hr)⟩
theorem levelLeft (B : Nat) (lv : Value) (ts : List Lx.Tok) (sz : Nat) (dp : Bool) (m n : Nat) (hm : LeftM m) (ih : LvOk B lv ts sz dp (m + 1) n) : LvOk B lv ts sz dp m n := by
 intro w q hq h
 have HX := hd h
 have HI : Hid (∀ (w : World) (q : List Lx.Tok), q.length ≤ n → Cx w B lv ts sz q dp → Calls Tryz.prog 213 #[.pointer (some ⟨B, 0, none⟩), .int .i64 ((m : Int) + 1)] w (OutR w B lv ts sz dp (lvR sz (m + 1)) q exV noDeep)) := fun w q hq hx => by
  have := ih w q hq hx
  rwa [show ((m + 1 : Nat) : Int) = (m : Int) + 1 by omega] at this
 have HM := hd hm
 have e3 : ((m : Int) == 3) = false := by rw [beq_eq_false_iff_ne]; unfold LeftM at hm; omega
 have e4 : ((m : Int) == 4) = false := by rw [beq_eq_false_iff_ne]; unfold LeftM at hm; omega
 have e8 : ((m : Int) == 8) = false := by rw [beq_eq_false_iff_ne]; unfold LeftM at hm; omega
 have hm9 : m ≤ 9 := by unfold LeftM at hm; omega
 clear h ih hm
 go_enter Tryz.func213, Tryz.ntmps213
 go_wp2_with fail
 refine (HI.out w q hq HX.out).mono ?_
 rintro x w1 ho
 obtain ⟨hg, ⟨p, c, hr, rfl⟩ | ⟨e, q1, v, hr, rfl, hv, hx⟩⟩ := ho.cases
 · exact ⟨rfl, OutR.err hg (left_err HM.out hr)⟩
 cases hv
 have HL := hd (left_first HM.out hr)
 have HX1 : Hid (Cx w1 B lv ts sz q1 dp) := hx
 have HG1 := hd hg
 obtain ⟨et, ex, hev⟩ := evi e
 have HEV := hd hev
 rw [hev]
 clear hr hx hg hev ho
 go_wp2_with fail
 go_loopw [5] (fun v wr => ∃ (e : Px.E) (q1 : List Lx.Tok), Hid (v = ev e) ∧ Hid (Cx wr B lv ts sz q1 dp) ∧ Hid (w.grownBy wr (some B)) ∧ Hid (LeftAt sz m q e q1)) (fun _ wr => ts.length - atC wr B)
 case atStart => exact ⟨e, q1, HEV.out.symm, HX1, HG1, HL⟩
 case round =>
  clear HL HX1 HG1 HEV
  obtain ⟨e, q1, HEV, HX1, HG1, HL⟩ := hrel
  obtain ⟨et, ex, hev⟩ := evi e
  have hv : u5 = .iface et ex := by rw [HEV.out, hev]
  subst hv
  clear hev
  go_wp2_with fail
  refine (c_fixed_any wr B lv ts sz q1 dp HX1.out).mono ?_
  rintro x w3 ⟨rfl, hb3⟩
  have HX3 := hd (HX1.out.below hb3)
  have HG3 := hd (gbt HG1.out (Below.grownBy (row := some B) hb3))
  clear hb3
  go_wp2_with fail
  refine (y_Operator_any ⟨(fixT (pk sz q1)).toArray⟩ m w3 HX3.out.env hm9).mono ?_
  rintro x w4 ⟨rfl, hb4⟩
  have HX4 := hd (HX3.out.below hb4)
  have HG4 := hd (gbt HG3.out (Below.grownBy (row := some B) hb4))
  have hop := oper_fix m sz q1
  simp only [hop]
  clear hb4 hop
  by_cases h0 : Px.oper m q1 = 0
  · have HF := hd (left_end HM.out HL.out h0)
    rw [h0]
    go_wp2_with fail
    go_ret
    exact OutR.ok (a := e) HG4.out HF.out (by show _ = ev _; rw [← HEV.out]; rfl) HX4.out
  have hdec : decide (Px.oper m q1 ≠ 0) = true := decide_eq_true h0
  have hq1 : q1 ≠ [] := by rintro rfl; exact h0 rfl
  obtain ⟨k, hk2, hblk⟩ := HX4.out.blk
  have c1 : w4.cell? ⟨B, 1, none⟩ = some (.int .i64 (k : Int)) := hblk.cell 1
  have f1 := hblk.free 1
  have HX5 : Hid (Cx (w4.setCell ⟨B, 1, none⟩ (.int .i64 ((k : Int) + 1))) B lv ts sz q1.tail dp) := HX4.out.step (gbs w4 B 1 _) hq1 k c1 (hblk.set 1 _)
  have HG5 := hd (gbt HG4.out (gbs w4 B 1 (.int .i64 ((k : Int) + 1))))
  have htl : q1.tail.length ≤ n := by have := Px.tail_le q1; have := HL.out.len; omega
  have htl2 : q1.tail.length + 1 = q1.length := by cases q1 with
   | nil => exact absurd rfl hq1
   | cons t r => simp
  rw [hdec]
  have HF1 := hd (fun p c (hr : lvR sz (m + 1) q1.tail (.error (p, c))) => left_fail HL.out h0 hr)
  have HF2 := hd (fun b q2 (hr : lvR sz (m + 1) q1.tail (.ok (b, q2))) => left_more HL.out h0 hr)
  generalize Px.oper m q1 = ok at *
  clear hblk hdec h0
  go_wp2_with fail
  refine (HI.out _ q1.tail htl HX5.out).mono ?_
  rintro x w6 ho
  obtain ⟨hg, ⟨p, c, hr, rfl⟩ | ⟨b, q', v, hr, rfl, hv, hx⟩⟩ := ho.cases
  · exact ⟨rfl, OutR.err (gbt HG5.out hg) (HF1.out _ _ hr)⟩
  cases hv
  have HRR := hd (HF2.out _ _ hr)
  have hlen2 := (hr.2 _ _ rfl).2
  obtain ⟨bt, bx, hev⟩ := evi b
  have HEVB := hd hev
  have HX6 : Hid (Cx w6 B lv ts sz q' dp) := hx
  have HG6 := hd (gbt HG5.out hg)
  have hl1 := HX1.out.atC
  have hl6 := HX6.out.atC
  rw [hev]
  clear hr hev hx hg ho
  go_wp2_with fail
  go_roundw
  case rel => exact ⟨.bin ok e b, q', (by show _ = ev _; unfold ev; rw [← HEV.out, HEVB.out]), HX6, HG6, HRR⟩
  case measure => have := b.size_pos; omega
theorem level_all (B : Nat) (lv : Value) (ts : List Lx.Tok) (sz : Nat) (dp : Bool) : ∀ n, LvOk B lv ts sz dp 1 n := by
 have key : ∀ n, ∀ k, k ≤ n → LvOk B lv ts sz dp 1 k := by
  intro n
  induction n with
  | zero =>
   intro k hk
   have h8 := level8 B lv ts sz dp k (fun j hj => by omega)
   have h7 := levelLeft B lv ts sz dp 7 k (by unfold LeftM; omega) h8
   have h6 := levelLeft B lv ts sz dp 6 k (by unfold LeftM; omega) h7
   have h5 := levelLeft B lv ts sz dp 5 k (by unfold LeftM; omega) h6
   have h3 := level3 B lv ts sz dp k (level4 B lv ts sz dp k h5)
   have h2 := levelLeft B lv ts sz dp 2 k (by unfold LeftM; omega) h3
   exact levelLeft B lv ts sz dp 1 k (by unfold LeftM; omega) h2
  | succ n ih =>
   intro k hk
   have h8 := level8 B lv ts sz dp k (fun j hj => ih j (by omega))
   have h7 := levelLeft B lv ts sz dp 7 k (by unfold LeftM; omega) h8
   have h6 := levelLeft B lv ts sz dp 6 k (by unfold LeftM; omega) h7
   have h5 := levelLeft B lv ts sz dp 5 k (by unfold LeftM; omega) h6
   have h3 := level3 B lv ts sz dp k (level4 B lv ts sz dp k h5)
   have h2 := levelLeft B lv ts sz dp 2 k (by unfold LeftM; omega) h3
   exact levelLeft B lv ts sz dp 1 k (by unfold LeftM; omega) h2
 intro n
 exact key n n (nlr _)
def deepE (e : Px.E) : Bool := decide (40 < e.depth)
theorem c_expr_any (B : Nat) (lv : Value) (ts : List Lx.Tok) (sz : Nat) (dp : Bool) (w : World) (q : List Lx.Tok) (h : Cx w B lv ts sz q dp) :
   Calls Tryz.prog 188 #[.pointer (some ⟨B, 0, none⟩)] w (OutR w B lv ts sz dp (Px.exR sz) q exV deepE) := by
 have HL := hd (level_all B lv ts sz dp q.length w q (nlr _) h)
 have hlen : q.length ≤ 2000 := by
  obtain ⟨k, rfl, h⟩ := h
  have := h.len
  simp; omega
 clear h
 go_enter Tryz.func188, Tryz.ntmps188
 go_wp2_with fail
 refine HL.out.mono ?_
 rintro x w1 ho
 obtain ⟨hg, ⟨p, c, hr, rfl⟩ | ⟨e, q1, v, hr, rfl, hv, hx⟩⟩ := ho.cases
 · exact ⟨rfl, OutR.err hg hr⟩
 cases hv
 have HX1 : Hid (Cx w1 B lv ts sz q1 dp) := hx
 have HG1 := hd hg
 have HR : Hid (Px.exR sz q (.ok (e, q1))) := hr
 have hsz := (hr.2 _ _ rfl).2
 have HD := hd (y_Depth_any e (by omega) w1)
 have hdl := e.depth_le
 obtain ⟨et, ex, hev⟩ := evi e
 have HEV := hd hev
 rw [hev] at HD ⊢
 clear hr hx hg hev ho
 go_wp2_with fail
 refine HD.out.mono ?_
 rintro x w2 ⟨rfl, hb2⟩
 have HX2 := hd (HX1.out.below hb2)
 have HG2 := hd (gbt HG1.out (Below.grownBy (row := some B) hb2))
 clear hb2 HD
 by_cases hdp : 40 < e.depth
 · have hdp' : (40 : Int) < (e.depth : Int) := by omega
   obtain ⟨k, hk, hs⟩ := HX2.out
   have c3 := hs.cells.2.2.2
   have f3 := hs.blk.free 3
   have HX3 : Hid (Cx (w2.setCell ⟨B, 3, none⟩ (.bool true)) B lv ts sz q1 true) := ⟨k, hk, hs.setDeep⟩
   have HG3 := hd (gbt HG2.out (gbs w2 B 3 (.bool true)))
   clear hs
   go_wp2_with fail
   go_ret
   exact OutR.ok (a := e) HG3.out HR.out (by show _ = ev _; rw [HEV.out]; rfl) (by unfold deepE; rw [decide_eq_true hdp]; exact HX3.out)
 have hdp' : ¬ (40 : Int) < (e.depth : Int) := by omega
 go_wp2_with fail
 go_ret
 exact OutR.ok (a := e) HG2.out HR.out (by show _ = ev _; rw [HEV.out]; rfl) (by unfold deepE; rw [decide_eq_false hdp]; exact HX2.out)
def ev? : Option Px.E → Value
 | none => .nilIface
 | some e => ev e
def whV (o : Option Px.E) (v : Value) (_ : World) : Prop := v = ev? o
def deepO : Option Px.E → Bool
 | none => false
 | some e => deepE e
theorem c_where_any (B : Nat) (lv : Value) (ts : List Lx.Tok) (sz : Nat) (dp : Bool) (w : World) (q : List Lx.Tok) (h : Cx w B lv ts sz q dp) :
   Calls Tryz.prog 147 #[.pointer (some ⟨B, 0, none⟩)] w (OutR w B lv ts sz dp (Px.whereR sz) q whV deepO) := by
 have HX := hd h
 clear h
 cases hs : Px.sees Px.kWHERE q with
 | true =>
  have HR : Hid (∀ r, Px.Rg.seq (Px.exR sz) (fun e => Px.Rg.ret (some e)) q.tail r → Px.whereR sz q r) := fun r hr => by unfold Px.whereR; rw [if_pos hs]; exact hr
  go_enter Tryz.func147, Tryz.ntmps147
  go_wp2_with fail
  refine (cay ⟨#[87, 72, 69, 82, 69]⟩ w B lv ts sz q dp HX.out hs (by simp)).mono ?_
  rintro x w2 ⟨rfl, hx, hg⟩
  have HX2 := hd hx
  have HG2 := hd hg
  clear hx hg
  go_wp2_with fail
  refine (c_expr_any B lv ts sz dp w2 q.tail HX2.out).mono ?_
  rintro x w3 ho
  obtain ⟨hg, ⟨p, c, hr, rfl⟩ | ⟨e, q', v, hr, rfl, hv, hx⟩⟩ := ho.cases
  · exact ⟨rfl, OutR.err (gbt HG2.out hg) (HR.out _ (Px.Rg.err hr))⟩
  cases hv
  have HRR := hd hr
  obtain ⟨et, ex, hev⟩ := evi e
  have HEV := hd hev
  rw [hev]
  clear hr hev
  go_wp2_with fail
  go_ret
  exact OutR.ok (a := some e) (gbt HG2.out hg) (HR.out _ (Px.Rg.go HRR.out rfl)) (by show _ = ev _; rw [HEV.out]; rfl) hx
 | false =>
  have HR : Hid (Px.whereR sz q (.ok (none, q))) := by show Px.whereR _ _ _; unfold Px.whereR; rw [if_neg (by simp [hs])]
  go_enter Tryz.func147, Tryz.ntmps147
  go_wp2_with fail
  refine (cano ⟨#[87, 72, 69, 82, 69]⟩ w B lv ts sz q dp HX.out hs (by simp)).mono ?_
  rintro x w2 ⟨rfl, hb⟩
  have HX2 := hd (HX.out.below hb)
  have HG2 := hd (Below.grownBy (row := some B) hb)
  clear hb
  go_wp2_with fail
  go_ret
  exact OutR.ok (a := none) HG2.out HR.out rfl HX2.out
theorem Blk.grown {w w' : World} {b B : Nat} {cs : Array Value} {t : TypeId} (h : Blk w b cs t) (hg : w.grownBy w' (some B)) (hne : b ≠ B) : Blk w' b cs t := by
 unfold Blk at h ⊢
 rw [hg.block b (Array.getElem?_eq_some_iff.1 h).1 (by simp; omega)]
 exact h
theorem Cx.own_lt {w : World} {B : Nat} {lv : Value} {ts : List Lx.Tok} {sz : Nat} {q : List Lx.Tok} {dp : Bool} (h : Cx w B lv ts sz q dp) : ∀ g, lv.ownBlock = some g → g < w.heap.size := by
 obtain ⟨k, _, h⟩ := h
 obtain ⟨b, ho⟩ := h.own
 intro g hg
 exact (ho.lt g hg).2
theorem Cx.far {w w0 : World} {B : Nat} {lv : Value} {ts : List Lx.Tok} {sz : Nat} {q q0 : List Lx.Tok} {dp dp0 : Bool} (h : Cx w B lv ts sz q dp) (h0 : Cx w0 B lv ts sz q0 dp0) {M : Nat} (hM : w0.heap.size ≤ M) (i : Nat) (v : Value) : Cx (w.setCell ⟨M, i, none⟩ v) B lv ts sz q dp := by
 have hB := h0.lt
 have hL := h0.own_lt
 obtain ⟨k, hk, h⟩ := h
 have hr := h.low
 obtain ⟨b, ho⟩ := h.own
 refine ⟨k, hk, h.blk.far ⟨M, i, none⟩ v (by show M ≠ B; omega), ⟨b, ho.kept (gbs w M i v) ?_⟩, h.ne, h.toks, h.len, h.size, h.le, h.env.grown (gbs w M i v) (by omega), h.low⟩
 cases hv : lv.ownBlock with
 | none => simp
 | some g => right; intro e; simp only [Option.some.injEq] at e; subst e; have := hL _ hv; omega
def setV (x : Lx.Bs × Px.E) (v : Value) (_ : World) : Prop := v = .agg #[.string ⟨x.1.toArray⟩, ev x.2]
def deepS (x : Lx.Bs × Px.E) : Bool := deepE x.2
theorem c_set_any (B : Nat) (lv : Value) (ts : List Lx.Tok) (sz : Nat) (dp : Bool) (w : World) (q : List Lx.Tok) (h : Cx w B lv ts sz q dp) :
   Calls Tryz.prog 149 #[.pointer (some ⟨B, 0, none⟩)] w (OutR w B lv ts sz dp (Px.setR sz) q setV deepS) := by
 have HX := hd h
 have hlt := h.lt
 have HB0 : Hid (Below w.heap.size w (w.alloc (.cells #[.string ⟨#[]⟩, .nilIface] 139))) := (Below.refl _ _).alloc (nlr _) _
 have KR := Blk.new w #[.string ⟨#[]⟩, .nilIface] 139
 have HKR := hd KR
 clear h KR
 go_enter Tryz.func149, Tryz.ntmps149
 go_wp2_with fail
 refine (c_name_any _ B lv ts sz q dp (HX.out.below HB0.out)).mono ?_
 rintro x w1 ho
 obtain ⟨hg, ⟨p, c, hr, rfl⟩ | ⟨n, q1, v, hr, rfl, hv, hx⟩⟩ := ho.cases
 · exact ⟨rfl, OutR.err (gbt (Below.grownBy HB0.out) hg) (Px.Rg.err hr)⟩
 cases hv
 have HR1 := hd hr
 have HX1 : Hid (Cx w1 B lv ts sz q1 dp) := hx
 have HG1 := hd (gbt (Below.grownBy HB0.out) hg)
 have HK1 := hd (HKR.out.grown hg (by omega))
 clear hr hx hg ho HB0 HKR
 go_wp2_with fail
 refine (c_expect_new ⟨#[61]⟩ w1 B lv ts sz q1 dp HX1.out (by simp)).mono ?_
 rintro x w2 ho
 obtain ⟨hg, ⟨p, c, hr, rfl⟩ | ⟨_, q2, v, hr, rfl, hv, hx⟩⟩ := ho.cases
 · exact ⟨rfl, OutR.err (gbt HG1.out hg) (Px.Rg.go HR1.out (Px.Rg.err hr))⟩
 cases hv
 have HR2 := hd hr
 have HX2 : Hid (Cx w2 B lv ts sz q2 dp) := hx
 have HG2 := hd (gbt HG1.out hg)
 have HK2 := hd (HK1.out.grown hg (by omega))
 clear hr hx hg ho HG1 HK1
 go_wp2_with fail
 refine (c_expr_any B lv ts sz dp w2 q2 HX2.out).mono ?_
 rintro x w3 ho
 obtain ⟨hg, ⟨p, c, hr, rfl⟩ | ⟨e, q3, v, hr, rfl, hv, hx⟩⟩ := ho.cases
 · exact ⟨rfl, OutR.err (gbt HG2.out hg) (Px.Rg.go HR1.out (Px.Rg.go HR2.out (Px.Rg.err hr)))⟩
 cases hv
 have HR3 := hd hr
 have HX3 := hd hx
 have HG3 := hd (gbt HG2.out hg)
 have HK3 := hd (HK2.out.grown hg (by omega))
 obtain ⟨et, ex, hev⟩ := evi e
 have HEV := hd hev
 rw [hev]
 have m0 : w3.cell? ⟨w.heap.size, 0, none⟩ = some (.string ⟨#[]⟩) := HK3.out.cell 0
 have m1 : w3.cell? ⟨w.heap.size, 1, none⟩ = some .nilIface := HK3.out.cell 1
 have g0 := HK3.out.free 0
 have g1 := HK3.out.free 1
 clear hr hx hg ho HG2 HK2 hev
 go_wp2_with fail
 have KF := (HK3.out.set 0 (.string ⟨n.toArray⟩)).set 1 (.iface et ex)
 have e0 := KF.cell 0
 have e1 := KF.cell 1
 simp at e0 e1
 refine bodyPost_ret (v := .agg #[.string ⟨n.toArray⟩, .iface et ex]) (by simp [results, Tryz.results149, go_sem, e0, e1]) rfl ?_
 exact OutR.ok (a := (n, e)) (gaw (gaw HG3.out (nlr _) 0 _) (nlr _) 1 _) (Px.Rg.go HR1.out (Px.Rg.go HR2.out (Px.Rg.go HR3.out rfl))) (by show _ = Value.agg #[_, ev e]; rw [HEV.out]) ((HX3.out.far HX.out (nlr _) 0 _).far HX.out (nlr _) 1 _)
def itemA : Option Px.E → Value
 | none => .agg #[.bool true, .nilIface]
 | some e => .agg #[.bool false, ev e]
def itemV (x : Option Px.E) (v : Value) (_ : World) : Prop := v = itemA x
theorem c_item_any (B : Nat) (lv : Value) (ts : List Lx.Tok) (sz : Nat) (dp : Bool) (w : World) (q : List Lx.Tok) (h : Cx w B lv ts sz q dp) :
   Calls Tryz.prog 151 #[.pointer (some ⟨B, 0, none⟩)] w (OutR w B lv ts sz dp (Px.itemR sz) q itemV deepO) := by
 have HX := hd h
 have hlt := h.lt
 have HB0 : Hid (Below w.heap.size w (w.alloc (.cells #[.bool false, .nilIface] 141))) := (Below.refl _ _).alloc (nlr _) _
 have KR := Blk.new w #[.bool false, .nilIface] 141
 have HKR := hd KR
 clear h KR
 cases hs : Px.sees Px.gStar q with
 | true =>
  have HR : Hid (Px.itemR sz q (.ok (none, q.tail))) := by show Px.itemR _ _ _; unfold Px.itemR; rw [if_pos hs]
  go_enter Tryz.func151, Tryz.ntmps151
  go_wp2_with fail
  refine (cay ⟨#[42]⟩ _ B lv ts sz q dp (HX.out.below HB0.out) hs (by simp)).mono ?_
  rintro x w3 ⟨rfl, hx, hg⟩
  have HX3 := hd hx
  have HG3 := hd (gbt (Below.grownBy HB0.out) hg)
  have HK3 := hd (HKR.out.grown hg (by omega))
  have m0 : w3.cell? ⟨w.heap.size, 0, none⟩ = some (.bool false) := HK3.out.cell 0
  have m1 : w3.cell? ⟨w.heap.size, 1, none⟩ = some .nilIface := HK3.out.cell 1
  have g0 := HK3.out.free 0
  have g1 := HK3.out.free 1
  clear hx hg HB0 HKR
  go_wp2_with fail
  have KF := (HK3.out.set 0 (.bool true)).set 1 .nilIface
  have e0 := KF.cell 0
  have e1 := KF.cell 1
  simp at e0 e1
  refine bodyPost_ret (v := .agg #[.bool true, .nilIface]) (by simp [results, Tryz.results151, go_sem, e0, e1]) rfl ?_
  exact OutR.ok (a := none) (gaw (gaw HG3.out (nlr _) 0 _) (nlr _) 1 _) HR.out rfl ((HX3.out.far HX.out (nlr _) 0 _).far HX.out (nlr _) 1 _)
 | false =>
  have HR : Hid (∀ r, Px.Rg.seq (Px.exR sz) (fun e => Px.Rg.ret (some e)) q r → Px.itemR sz q r) := fun r hr => by unfold Px.itemR; rw [if_neg (by simp [hs])]; exact hr
  go_enter Tryz.func151, Tryz.ntmps151
  go_wp2_with fail
  refine (cano ⟨#[42]⟩ _ B lv ts sz q dp (HX.out.below HB0.out) hs (by simp)).mono ?_
  rintro x w2 ⟨rfl, hb⟩
  have HX2 := hd ((HX.out.below HB0.out).below hb)
  have HG2 := hd (gbt (Below.grownBy (row := some B) HB0.out) (Below.grownBy (row := some B) hb))
  have HK2 := hd (HKR.out.below hb (by simp))
  clear hb HB0 HKR
  go_wp2_with fail
  refine (c_expr_any B lv ts sz dp w2 q HX2.out).mono ?_
  rintro x w3 ho
  obtain ⟨hg, ⟨p, c, hr, rfl⟩ | ⟨e, q3, v, hr, rfl, hv, hx⟩⟩ := ho.cases
  · exact ⟨rfl, OutR.err (gbt HG2.out hg) (HR.out _ (Px.Rg.err hr))⟩
  cases hv
  have HR3 := hd hr
  have HX3 := hd hx
  have HG3 := hd (gbt HG2.out hg)
  have HK3 := hd (HK2.out.grown hg (by omega))
  obtain ⟨et, ex, hev⟩ := evi e
  have HEV := hd hev
  rw [hev]
  have m0 : w3.cell? ⟨w.heap.size, 0, none⟩ = some (.bool false) := HK3.out.cell 0
  have m1 : w3.cell? ⟨w.heap.size, 1, none⟩ = some .nilIface := HK3.out.cell 1
  have g0 := HK3.out.free 0
  have g1 := HK3.out.free 1
  clear hr hx hg ho HG2 HK2 hev
  go_wp2_with fail
  have KF := (HK3.out.set 0 (.bool false)).set 1 (.iface et ex)
  have e0 := KF.cell 0
  have e1 := KF.cell 1
  simp at e0 e1
  refine bodyPost_ret (v := .agg #[.bool false, .iface et ex]) (by simp [results, Tryz.results151, go_sem, e0, e1]) rfl ?_
  exact OutR.ok (a := some e) (gaw (gaw HG3.out (nlr _) 0 _) (nlr _) 1 _) (HR.out _ (Px.Rg.go HR3.out rfl)) (by show _ = Value.agg #[_, ev e]; rw [HEV.out]) ((HX3.out.far HX.out (nlr _) 0 _).far HX.out (nlr _) 1 _)
theorem c_columnType_any (B : Nat) (lv : Value) (ts : List Lx.Tok) (sz : Nat) (dp : Bool) (w : World) (q : List Lx.Tok) (h : Cx w B lv ts sz q dp) :
   Calls Tryz.prog 186 #[.pointer (some ⟨B, 0, none⟩)] w (OutR w B lv ts sz dp (Px.kindR sz) q numV noDeep) := by
 have HX := hd h
 clear h
 cases hs1 : Px.sees Px.kINTEGER q with
 | true =>
  have HR : Hid (Px.kindR sz q (.ok (1, q.tail))) := by show Px.kindR _ _ _; unfold Px.kindR; rw [if_pos hs1]
  go_enter Tryz.func186, Tryz.ntmps186
  go_wp2_with fail
  refine (cay ⟨#[73, 78, 84, 69, 71, 69, 82]⟩ w B lv ts sz q dp HX.out hs1 (by simp)).mono ?_
  rintro x w2 ⟨rfl, hx, hg⟩
  go_wp2_with fail
  go_ret
  exact OutR.ok (a := 1) hg HR.out rfl hx
 | false =>
  cases hs2 : Px.sees Px.kTEXT q with
  | true =>
   have HR : Hid (Px.kindR sz q (.ok (2, q.tail))) := by show Px.kindR _ _ _; unfold Px.kindR; rw [if_neg (by simp [hs1]), if_pos hs2]
   go_enter Tryz.func186, Tryz.ntmps186
   go_wp2_with fail
   refine (cano ⟨#[73, 78, 84, 69, 71, 69, 82]⟩ w B lv ts sz q dp HX.out hs1 (by simp)).mono ?_
   rintro x w1 ⟨rfl, hb⟩
   have HX1 := hd (HX.out.below hb)
   have HG1 := hd (Below.grownBy (row := some B) hb)
   clear hb
   go_wp2_with fail
   refine (cay ⟨#[84, 69, 88, 84]⟩ w1 B lv ts sz q dp HX1.out hs2 (by simp)).mono ?_
   rintro x w2 ⟨rfl, hx, hg⟩
   go_wp2_with fail
   go_ret
   exact OutR.ok (a := 2) (gbt HG1.out hg) HR.out rfl hx
  | false =>
   have HR : Hid (∀ r, Px.Rg.seq (Px.mustR sz Px.kBOOLEAN) (fun _ => Px.Rg.ret 3) q r → Px.kindR sz q r) := fun r hr => by unfold Px.kindR; rw [if_neg (by simp [hs1]), if_neg (by simp [hs2])]; exact hr
   go_enter Tryz.func186, Tryz.ntmps186
   go_wp2_with fail
   refine (cano ⟨#[73, 78, 84, 69, 71, 69, 82]⟩ w B lv ts sz q dp HX.out hs1 (by simp)).mono ?_
   rintro x w1 ⟨rfl, hb⟩
   have HX1 := hd (HX.out.below hb)
   have HG1 := hd (Below.grownBy (row := some B) hb)
   clear hb
   go_wp2_with fail
   refine (cano ⟨#[84, 69, 88, 84]⟩ w1 B lv ts sz q dp HX1.out hs2 (by simp)).mono ?_
   rintro x w2 ⟨rfl, hb⟩
   have HX2 := hd (HX1.out.below hb)
   have HG2 := hd (gbt HG1.out (Below.grownBy (row := some B) hb))
   clear hb
   go_wp2_with fail
   refine (c_expect_new ⟨#[66, 79, 79, 76, 69, 65, 78]⟩ w2 B lv ts sz q dp HX2.out (by simp)).mono ?_
   rintro x w3 ho
   obtain ⟨hg, ⟨p, c, hr, rfl⟩ | ⟨_, q2, v, hr, rfl, hv, hx⟩⟩ := ho.cases
   · exact ⟨rfl, OutR.err (gbt HG2.out hg) (HR.out _ (Px.Rg.err hr))⟩
   cases hv
   have HRR := hd hr
   clear hr
   go_wp2_with fail
   go_ret
   exact OutR.ok (a := 3) (gbt HG2.out hg) (HR.out _ (Px.Rg.go HRR.out rfl)) rfl hx
def orderV (x : Px.E × Bool) (v : Value) (_ : World) : Prop := v = .agg #[ev x.1, .bool x.2]
def deepR (x : Px.E × Bool) : Bool := deepE x.1
theorem c_order_any (B : Nat) (lv : Value) (ts : List Lx.Tok) (sz : Nat) (dp : Bool) (w : World) (q : List Lx.Tok) (h : Cx w B lv ts sz q dp) :
   Calls Tryz.prog 153 #[.pointer (some ⟨B, 0, none⟩)] w (OutR w B lv ts sz dp (Px.orderR sz) q orderV deepR) := by
 have HX := hd h
 have hlt := h.lt
 have HB0 : Hid (Below w.heap.size w (w.alloc (.cells #[.nilIface, .bool false] 143))) := (Below.refl _ _).alloc (nlr _) _
 have KR := Blk.new w #[.nilIface, .bool false] 143
 have HKR := hd KR
 clear h KR
 go_enter Tryz.func153, Tryz.ntmps153
 go_wp2_with fail
 refine (c_expr_any B lv ts sz dp _ q (HX.out.below HB0.out)).mono ?_
 rintro x w1 ho
 obtain ⟨hg, ⟨p, c, hr, rfl⟩ | ⟨e, q1, v, hr, rfl, hv, hx⟩⟩ := ho.cases
 · exact ⟨rfl, OutR.err (gbt (Below.grownBy HB0.out) hg) (Px.Rg.err hr)⟩
 cases hv
 have HR1 := hd hr
 obtain ⟨et, ex, hev⟩ := evi e
 have HEV := hd hev
 rw [hev]
 have hsz1 := hg.size
 simp only [World.size_alloc] at hsz1
 have HX1 := hd (hx.below ((Below.refl _ _).alloc (nlr _) (.cells #[.iface et ex, .bool false] 143)))
 have HG1 := hd (gba (gbt (Below.grownBy HB0.out) hg) (.cells #[.iface et ex, .bool false] 143))
 have HK1 := hd ((HKR.out.grown hg (by omega)).alloc (.cells #[.iface et ex, .bool false] 143))
 have HL1 := hd (Blk.new w1 #[.iface et ex, .bool false] 143)
 clear hr hx hg ho HB0 HKR hev
 cases hs : Px.sees Px.kDESC q1 with
 | true =>
  have HR : Hid (Px.descR e q1 (.ok ((e, true), q1.tail))) := by show Px.descR _ _ _; unfold Px.descR; rw [if_pos hs]
  go_wp2_with fail
  refine (cay ⟨#[68, 69, 83, 67]⟩ _ B lv ts sz q1 _ HX1.out hs (by simp)).mono ?_
  rintro x w2 ⟨rfl, hx, hg⟩
  have HX2 := hd hx
  have HG2 := hd (gbt HG1.out hg)
  have HK2 := hd (HK1.out.grown hg (by omega))
  have HL2 := hd (HL1.out.grown hg (by omega))
  have m0 : w2.cell? ⟨w.heap.size, 0, none⟩ = some .nilIface := HK2.out.cell 0
  have m1 : w2.cell? ⟨w.heap.size, 1, none⟩ = some (.bool false) := HK2.out.cell 1
  have g0 := HK2.out.free 0
  have g1 := HK2.out.free 1
  have n0 : w2.cell? ⟨w1.heap.size, 0, none⟩ = some (.iface et ex) := HL2.out.cell 0
  have n1 : w2.cell? ⟨w1.heap.size, 1, none⟩ = some (.bool false) := HL2.out.cell 1
  have f1 := HL2.out.free 1
  have d1 : ¬ w1.heap.size = w.heap.size := by omega
  have d2 : ¬ w.heap.size = w1.heap.size := by omega
  clear hx hg HX1 HG1 HK1 HL1
  go_wp2_with fail
  have KF := ((HK2.out.far ⟨w1.heap.size, 1, none⟩ (.bool true) d1).set 0 (.iface et ex)).set 1 (.bool true)
  have e0 := KF.cell 0
  have e1 := KF.cell 1
  simp at e0 e1
  refine bodyPost_ret (v := .agg #[.iface et ex, .bool true]) (by simp [results, Tryz.results153, go_sem, e0, e1]) rfl ?_
  exact OutR.ok (a := (e, true)) (gaw (gaw (gaw HG2.out (by omega) 1 _) (nlr _) 0 _) (nlr _) 1 _) (Px.Rg.go HR1.out HR.out) (by show _ = Value.agg #[ev e, _]; rw [HEV.out]) (((HX2.out.far HX.out (by omega) 1 _).far HX.out (nlr _) 0 _).far HX.out (nlr _) 1 _)
 | false =>
  go_wp2_with fail
  refine (cano ⟨#[68, 69, 83, 67]⟩ _ B lv ts sz q1 _ HX1.out hs (by simp)).mono ?_
  rintro x w2 ⟨rfl, hb⟩
  have hsz2 := hb.size
  simp only [World.size_alloc] at hsz2
  have HL20 := hd (HL1.out.below hb (by simp))
  have n00 : w2.cell? ⟨w1.heap.size, 0, none⟩ = some (.iface et ex) := HL20.out.cell 0
  have n01 : w2.cell? ⟨w1.heap.size, 1, none⟩ = some (.bool false) := HL20.out.cell 1
  have f01 := HL20.out.free 1
  have HX2 := hd ((HX1.out.below hb).far HX.out (M := w1.heap.size) (by omega) 1 (.bool false))
  have HG2 := hd (gaw (gbt HG1.out (Below.grownBy (row := some B) hb)) (M := w1.heap.size) (by omega) 1 (.bool false))
  have d1 : ¬ w1.heap.size = w.heap.size := by omega
  have d2 : ¬ w.heap.size = w1.heap.size := by omega
  have HK2 := hd ((HK1.out.below hb (by simp; omega)).far ⟨w1.heap.size, 1, none⟩ (.bool false) d1)
  have HL2 := hd (HL20.out.set 1 (.bool false))
  clear hb HX1 HG1 HK1 HL1
  cases hs2 : Px.sees Px.kASC q1 with
  | true =>
   have HR : Hid (Px.descR e q1 (.ok ((e, false), q1.tail))) := by show Px.descR _ _ _; unfold Px.descR; rw [if_neg (by simp [hs]), if_pos hs2]
   go_wp2_with fail
   refine (cay ⟨#[65, 83, 67]⟩ _ B lv ts sz q1 _ HX2.out hs2 (by simp)).mono ?_
   rintro x w3 ⟨rfl, hx, hg⟩
   have HX3 := hd hx
   have HG3 := hd (gbt HG2.out hg)
   have HK3 := hd (HK2.out.grown hg (by omega))
   have HL3 : Hid (Blk w3 w1.heap.size #[.iface et ex, .bool false] 143) := HL2.out.grown hg (by omega)
   have m0 : w3.cell? ⟨w.heap.size, 0, none⟩ = some .nilIface := HK3.out.cell 0
   have m1 : w3.cell? ⟨w.heap.size, 1, none⟩ = some (.bool false) := HK3.out.cell 1
   have g0 := HK3.out.free 0
   have g1 := HK3.out.free 1
   have n0 : w3.cell? ⟨w1.heap.size, 0, none⟩ = some (.iface et ex) := HL3.out.cell 0
   have n1 : w3.cell? ⟨w1.heap.size, 1, none⟩ = some (.bool false) := HL3.out.cell 1
   clear hx hg HX2 HG2 HK2 HL2
   go_wp2_with fail
   have KF := (HK3.out.set 0 (.iface et ex)).set 1 (.bool false)
   have e0 := KF.cell 0
   have e1 := KF.cell 1
   simp at e0 e1
   refine bodyPost_ret (v := .agg #[.iface et ex, .bool false]) (by simp [results, Tryz.results153, go_sem, e0, e1]) rfl ?_
   exact OutR.ok (a := (e, false)) (gaw (gaw HG3.out (nlr _) 0 _) (nlr _) 1 _) (Px.Rg.go HR1.out HR.out) (by show _ = Value.agg #[ev e, _]; rw [HEV.out]) ((HX3.out.far HX.out (nlr _) 0 _).far HX.out (nlr _) 1 _)
  | false =>
   have HR : Hid (Px.descR e q1 (.ok ((e, false), q1))) := by show Px.descR _ _ _; unfold Px.descR; rw [if_neg (by simp [hs]), if_neg (by simp [hs2])]
   go_wp2_with fail
   refine (cano ⟨#[65, 83, 67]⟩ _ B lv ts sz q1 _ HX2.out hs2 (by simp)).mono ?_
   rintro x w3 ⟨rfl, hb3⟩
   have HX3 := hd (HX2.out.below hb3)
   have HG3 := hd (gbt HG2.out (Below.grownBy (row := some B) hb3))
   have HK3 := hd (HK2.out.below hb3 HK2.out.lt)
   have HL3 : Hid (Blk w3 w1.heap.size #[.iface et ex, .bool false] 143) := HL2.out.below hb3 HL2.out.lt
   have m0 : w3.cell? ⟨w.heap.size, 0, none⟩ = some .nilIface := HK3.out.cell 0
   have m1 : w3.cell? ⟨w.heap.size, 1, none⟩ = some (.bool false) := HK3.out.cell 1
   have g0 := HK3.out.free 0
   have g1 := HK3.out.free 1
   have n0 : w3.cell? ⟨w1.heap.size, 0, none⟩ = some (.iface et ex) := HL3.out.cell 0
   have n1 : w3.cell? ⟨w1.heap.size, 1, none⟩ = some (.bool false) := HL3.out.cell 1
   clear hb3 HX2 HG2 HK2 HL2
   go_wp2_with fail
   have KF := (HK3.out.set 0 (.iface et ex)).set 1 (.bool false)
   have e0 := KF.cell 0
   have e1 := KF.cell 1
   simp at e0 e1
   refine bodyPost_ret (v := .agg #[.iface et ex, .bool false]) (by simp [results, Tryz.results153, go_sem, e0, e1]) rfl ?_
   exact OutR.ok (a := (e, false)) (gaw (gaw HG3.out (nlr _) 0 _) (nlr _) 1 _) (Px.Rg.go HR1.out HR.out) (by show _ = Value.agg #[ev e, _]; rw [HEV.out]) ((HX3.out.far HX.out (nlr _) 0 _).far HX.out (nlr _) 1 _)
end Go.Proofs.YtkcakbgcfnhgaaaGreatDoor
