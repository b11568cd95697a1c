/- Parts of the proof: CpC CpE CpF CpG CpH CpI CpJ -/
import Derived.Test.YtaiebhhommgnbaaGreatDoorZ3
namespace Go.Proofs.YtaiebhhommgnbaaGreatDoor
set_option linter.unusedSimpArgs false
set_option linter.unusedVariables false
set_option maxRecDepth 100000
set_option maxHeartbeats 16000000
open Go.RowKit
def opK (k : Nat) : Nat × Lx.Bs × Nat := Px.opTab.getD k (0, [], 0)
theorem index_op (k : Nat) (h : k < 14) (w : World) : (Instr.index 363 (.agg (opsRow Px.opTab).toArray) (.int .i64 (k : Int))).run Tryz.prog w = .ok (opAgg (opK k)) w := by
 have : k = 0 ∨ k = 1 ∨ k = 2 ∨ k = 3 ∨ k = 4 ∨ k = 5 ∨ k = 6 ∨ k = 7 ∨ k = 8 ∨ k = 9 ∨ k = 10 ∨ k = 11 ∨ k = 12 ∨ k = 13 := by omega
 rcases this with rfl | rfl | rfl | rfl | rfl | rfl | rfl | rfl | rfl | rfl | rfl | rfl | rfl | rfl
 all_goals (show Sem.run _ _ _ = _; kernel_rfl)
theorem op_step (k lv : Nat) (s : Lx.Bs) (h : k < 14) : Px.opIn (Px.opTab.drop k) lv s = if (opK k).1 = lv ∧ (opK k).2.1 = s then (opK k).2.2 else Px.opIn (Px.opTab.drop (k + 1)) lv s := by
 rw [List.drop_eq_getElem_cons (show k < Px.opTab.length from h)]
 have : Px.opTab[k]'(show k < Px.opTab.length from h) = opK k := by
  unfold opK
  rw [List.getD_eq_getElem?_getD, List.getElem?_eq_getElem (show k < Px.opTab.length from h)]; rfl
 rw [this]
 rfl
theorem opK_pos (k : Nat) (h : k < 14) : (opK k).2.2 ≠ 0 ∧ (opK k).1 ≤ 7 := by
 have : k = 0 ∨ k = 1 ∨ k = 2 ∨ k = 3 ∨ k = 4 ∨ k = 5 ∨ k = 6 ∨ k = 7 ∨ k = 8 ∨ k = 9 ∨ k = 10 ∨ k = 11 ∨ k = 12 ∨ k = 13 := by omega
 rcases this with rfl | rfl | rfl | rfl | rfl | rfl | rfl | rfl | rfl | rfl | rfl | rfl | rfl | rfl <;> decide
theorem y_Operator_any (s : ByteArray) (lv : Nat) (w : World) (he : EnvP w) (hl : lv ≤ 9) :
   Calls Tryz.prog 253 #[.string s, .int .i64 (lv : Int)] w fun e w' => e = .returned (.tuple #[.int .i64 ((Px.opIn Px.opTab lv s.data.toList : Nat) : Int), .bool (decide (Px.opIn Px.opTab lv s.data.toList ≠ 0))]) ∧ Below w.heap.size w w' := by
 obtain ⟨ty, fr, hg⟩ := he.ops
 have HG := hd hg
 clear hg he
 go_enter Tryz.func253, Tryz.ntmps253
 go_wp2_with (refine wpList_load_row rfl 363 _ rfl 7 rfl ty _ fr _ HG.out Tryz.underlying363 rfl (by kernel_rfl) ?_)
 go_loopw [9] (fun i wr => ∃ k : Nat, k ≤ 14 ∧ i = .int .i64 k ∧ Hid (Px.opIn Px.opTab lv s.data.toList = Px.opIn (Px.opTab.drop k) lv s.data.toList) ∧ Hid (Below w.heap.size w wr)) (fun i _ => 14 - (intOf i).toNat)
 case atStart => exact ⟨0, by omega, rfl, rfl, Below.refl _ _⟩
 case round =>
  obtain ⟨k, hk, rfl, HK, HW⟩ := hrel
  by_cases hlt : k < 14
  · have hix := index_op k hlt
    have HS := hd (op_step k lv s.data.toList hlt)
    have HP := hd (opK_pos k hlt)
    have hws := HW.out.size
    generalize opK k = o at *
    obtain ⟨ol, os, ok⟩ := o
    unfold opAgg at hix
    dsimp only at hix HS HP
    obtain ⟨u, hu⟩ : ∃ u : ByteArray, u = ⟨os.toArray⟩ := ⟨_, rfl⟩
    have HU : Hid (u.data.toList = os) := by rw [hu]; show _ = _; simp
    rw [← hu] at hix
    clear hu
    have HOS : Hid (u.toList = s.toList ↔ os = s.data.toList) := by show _ ↔ _; rw [Lib.toList_data, Lib.toList_data, HU.out]
    by_cases hs : u.toList = s.toList
    · have HE := hd (HOS.out.1 hs)
      have hs' : (u.toList == s.toList) = true := by simp [hs]
      by_cases hol : ol = lv
      · have HF : Hid (Px.opIn Px.opTab lv s.data.toList = ok) := by show _ = _; rw [HK.out, HS.out, if_pos ⟨hol, HE.out⟩]
        have hol' : ((ol : Int) == (lv : Int)) = true := by simp [hol]
        go_wp2
        go_ret2
        refine ⟨?_, HW.out.alloc hws _⟩
        rw [HF.out]
        simp [HP.out.1]
      · have HF : Hid (Px.opIn Px.opTab lv s.data.toList = Px.opIn (Px.opTab.drop (k + 1)) lv s.data.toList) := by show _ = _; rw [HK.out, HS.out, if_neg (fun e => hol e.1)]
        have hol' : ((ol : Int) == (lv : Int)) = false := by rw [beq_eq_false_iff_ne]; omega
        go_wp2
        go_roundw
        case rel => exact ⟨k + 1, by omega, by go_num, HF, HW.out.alloc hws _⟩
        case measure => simp [intOf]; omega
    · have HF : Hid (Px.opIn Px.opTab lv s.data.toList = Px.opIn (Px.opTab.drop (k + 1)) lv s.data.toList) := by show _ = _; rw [HK.out, HS.out, if_neg (fun e => hs (HOS.out.2 e.2))]
      have hs' : (u.toList == s.toList) = false := by rw [beq_eq_false_iff_ne]; exact hs
      go_wp2
      go_roundw
      case rel => exact ⟨k + 1, by omega, by go_num, HF, HW.out.alloc hws _⟩
      case measure => simp [intOf]; omega
  · have HF : Hid (Px.opIn Px.opTab lv s.data.toList = 0) := by show _ = _; rw [HK.out, List.drop_eq_nil_of_le (by show 14 ≤ k; omega)]; rfl
    go_wp2
    go_ret2
    refine ⟨?_, HW.out⟩
    rw [HF.out]
    rfl
def ev : Px.E → Value
 | .null => .iface 378 (.agg #[])
 | .bool b => .iface 267 (.agg #[.bool b])
 | .num z => .iface 269 (.agg #[.int .i64 z])
 | .str s => .iface 271 (.agg #[.string ⟨s.toArray⟩])
 | .nm s => .iface 238 (.agg #[.string ⟨s.toArray⟩])
 | .un k e => .iface 263 (.agg #[.int .i64 (k : Int), ev e])
 | .bin k a b => .iface 265 (.agg #[.int .i64 (k : Int), ev a, ev b])
theorem is_un (a b : Value) (w : World) : (Instr.typeAssert (.iface 263 (.agg #[a, b])) 85 263 true).run Tryz.prog w = .ok (.tuple #[.agg #[a, b], .bool true]) w := by kernel_rfl
theorem is_bin (a b c : Value) (w : World) : (Instr.typeAssert (.iface 265 (.agg #[a, b, c])) 85 265 true).run Tryz.prog w = .ok (.tuple #[.agg #[a, b, c], .bool true]) w := by kernel_rfl
theorem bin_un (a b c : Value) (w : World) : (Instr.typeAssert (.iface 265 (.agg #[a, b, c])) 85 263 true).run Tryz.prog w = .ok (.tuple #[.agg #[.int .i64 0, .nilIface], .bool false]) w := by kernel_rfl
theorem leaf_un (t : Nat) (v : Value) (ht : t = 378 ∨ t = 267 ∨ t = 269 ∨ t = 271 ∨ t = 238) (w : World) : (Instr.typeAssert (.iface t v) 85 263 true).run Tryz.prog w = .ok (.tuple #[.agg #[.int .i64 0, .nilIface], .bool false]) w := by
 rcases ht with rfl | rfl | rfl | rfl | rfl
 all_goals (show Sem.run _ _ _ = _; kernel_rfl)
theorem leaf_bin (t : Nat) (v : Value) (ht : t = 378 ∨ t = 267 ∨ t = 269 ∨ t = 271 ∨ t = 238) (w : World) : (Instr.typeAssert (.iface t v) 85 265 true).run Tryz.prog w = .ok (.tuple #[.agg #[.int .i64 0, .nilIface, .nilIface], .bool false]) w := by
 rcases ht with rfl | rfl | rfl | rfl | rfl
 all_goals (show Sem.run _ _ _ = _; kernel_rfl)
def exV (e : Px.E) (v : Value) (_ : World) : Prop := v = ev e
def lvR (sz m : Nat) : Px.Rg Px.E := fun ts r => Px.Ex sz m [] ts (Px.mapR Px.E.nodes r) ∧ ∀ e q, r = .ok (e, q) → e.ok 2000 ∧ e.size + q.length ≤ ts.length
theorem lvR_ok {sz m : Nat} {ts q : List Lx.Tok} {e : Px.E} (hm : m < 10) (h : Px.Ex sz m [] ts (.ok (e.nodes, q))) (ho : e.ok 2000) : lvR sz m ts (.ok (e, q)) := by
 refine ⟨h, fun e' q' he => ?_⟩
 cases he
 refine ⟨ho, ?_⟩
 have := (Px.Ex.len hm h).2
 rwa [Px.E.nodes_length] at this
theorem lvR_err {sz m : Nat} {ts : List Lx.Tok} {p c : Nat} (h : Px.Ex sz m [] ts (.error (p, c))) : lvR sz m ts (.error (p, c)) := ⟨h, fun e q he => by cases he⟩
theorem ev_iface (e : Px.E) : ∃ t x, ev e = .iface t x := by cases e <;> exact ⟨_, _, rfl⟩
theorem is_num (a : Value) (w : World) : (Instr.typeAssert (.iface 269 (.agg #[a])) 85 269 true).run Tryz.prog w = .ok (.tuple #[.agg #[a], .bool true]) w := by kernel_rfl
theorem not_num (e : Px.E) (h : e.isNum = false) (w : World) : (Instr.typeAssert (ev e) 85 269 true).run Tryz.prog w = .ok (.tuple #[.agg #[.int .i64 0], .bool false]) w := by
 cases e with
 | num z => simp [Px.E.isNum] at h
 | _ => unfold ev; show Sem.run _ _ _ = _; kernel_rfl
theorem c_neg_num (w : World) (v : Value) (p : Nat) (z : Int) (h1 : -9223372036854775808 < z) (h2 : z ≤ 9223372036854775807) :
   Calls Tryz.prog 281 #[v, .int .i64 (p : Int), .iface 269 (.agg #[.int .i64 z])] w fun x w' => x = .returned (.iface 269 (.agg #[.int .i64 (-z)])) ∧ Below w.heap.size w w' := by
 have hn := is_num (.int .i64 z)
 have h3 : (z == (-9223372036854775808 : Int)) = false := by rw [beq_eq_false_iff_ne]; omega
 go_enter Tryz.func281, Tryz.ntmps281
 go_wp2_with fail
 go_ret
 refine ⟨rfl, (Below.refl _ _).alloc (Nat.le_refl _) _⟩
theorem c_neg_bot (w : World) (v : Value) (p : Nat) :
   Calls Tryz.prog 281 #[v, .int .i64 (p : Int), .iface 269 (.agg #[.int .i64 (-9223372036854775808)])] w fun x w' => x = Flt p 3 ∧ Below w.heap.size w w' := by
 have hn := is_num (.int .i64 (-9223372036854775808))
 go_enter Tryz.func281, Tryz.ntmps281
 go_wp2_with fail
 refine (c_fail_any _ _ p 3).mono ?_
 rintro x w1 ⟨rfl, rfl⟩
 exact ⟨rfl, rfl, (Below.refl _ _).alloc (Nat.le_refl _) _⟩
theorem c_neg_not (w : World) (v : Value) (p : Nat) (e : Px.E) (he : e.isNum = false) :
   Calls Tryz.prog 281 #[v, .int .i64 (p : Int), ev e] w fun x w' => x = .returned (ev (.un 19 e)) ∧ Below w.heap.size w w' := by
 have hn := not_num e he
 have hev : ev (.un 19 e) = .iface 263 (.agg #[.int .i64 19, ev e]) := rfl
 obtain ⟨t, y, hy⟩ := ev_iface e
 rw [hev]
 rw [hy] at hn ⊢
 clear hev hy he
 go_enter Tryz.func281, Tryz.ntmps281
 go_wp2_with fail
 go_ret
 exact ⟨rfl, (Below.refl _ _).alloc (Nat.le_refl _) _⟩
theorem c_expect_new (s : ByteArray) (w : World) (B : Nat) (lv : Value) (ts : List Lx.Tok) (sz : Nat) (q : List Lx.Tok) (dp : Bool) (h : Cx w B lv ts sz q dp) (hne : s.data.toList ≠ []) :
   Calls Tryz.prog 38 #[.pointer (some ⟨B, 0, none⟩), .slice (some ⟨w.heap.size, 0, none⟩) 1 1] (w.alloc (.cells #[.string s] 9)) (OutR w B lv ts sz dp (Px.mustR sz s.data.toList) q unitV noDeep) := by
 refine (c_expect_any s _ B w.heap.size lv ts sz q dp (h.below ((Below.refl _ _).alloc (Nat.le_refl _) _)) hne ((Blk.new w #[.string s] 9).cell 0)).mono ?_
 rintro x w' ⟨hg, hr⟩
 exact ⟨grownBy_trans (Below.grownBy ((Below.refl _ _).alloc (Nat.le_refl _) _)) (by simpa using hg), hr⟩
section
section
variable (B : Nat) (lv : Value) (ts : List Lx.Tok) (sz : Nat) (dp : Bool)
def LvOk (m n : Nat) : Prop := ∀ (w : World) (q : List Lx.Tok), q.length ≤ n → Cx w B lv ts sz q dp → Calls Tryz.prog 197 #[.pointer (some ⟨B, 0, none⟩), .int .i64 (m : Int)] w (OutR w B lv ts sz dp (lvR sz m) q exV noDeep)
end
theorem single_num {sz tp : Nat} {tt : Lx.Bs} {q : List Lx.Tok} {r : Px.Res Nat} (ht : Px.dval tt ≤ 9223372036854775808) (htop : Px.dval tt = 9223372036854775808 ↔ tt = Lx.top) (h : numR sz 9223372036854775807 (⟨16, tt, tp⟩ :: q) r) : lvR sz 9 (⟨16, tt, tp⟩ :: q) (Px.mapR (fun n : Nat => Px.E.num n) r) := by
 unfold numR at h
 simp only at h
 rw [if_neg (by simp)] at h
 by_cases he : tt = Lx.top
 · rw [if_pos (.inl he)] at h
   subst h
   refine lvR_err (Px.Ex.atom rfl ?_)
   simp only [Px.atom]
   rw [if_pos trivial, if_pos he]
 · have : Px.dval tt ≠ 9223372036854775808 := fun e => he (htop.1 e)
   rw [if_neg (by rintro (e | e); exact he e; omega)] at h
   subst h
   refine lvR_ok (by omega) (Px.Ex.atom rfl ?_) ?_
   · simp only [Px.atom]
     rw [if_pos trivial, if_neg he]
     rfl
   · simp only [Px.E.ok]; omega
theorem single_str {sz tp : Nat} {tt : Lx.Bs} {q : List Lx.Tok} (hl : tt.length ≤ 2000) : lvR sz 9 (⟨17, tt, tp⟩ :: q) (.ok (.str tt, q)) := lvR_ok (by omega) (Px.Ex.atom rfl rfl) hl
theorem single_name {sz tp : Nat} {tt : Lx.Bs} {q : List Lx.Tok} {r : Px.Res Lx.Bs} (h : Px.nameR sz (⟨18, tt, tp⟩ :: q) r) : lvR sz 9 (⟨18, tt, tp⟩ :: q) (Px.mapR Px.E.nm r) := by
 unfold Px.nameR at h
 simp only [Px.name] at h
 rw [if_neg (by simp)] at h
 by_cases hl : 30 < tt.length
 · rw [if_pos hl] at h
   cases h
   refine lvR_err (Px.Ex.atom rfl ?_)
   simp only [Px.atom]
   rw [if_neg (by decide), if_neg (by decide), if_pos trivial, if_pos hl]
 · rw [if_neg hl] at h
   cases h
   refine lvR_ok (by omega) (Px.Ex.atom rfl ?_) (by show tt.length ≤ 30; omega)
   simp only [Px.atom]
   rw [if_neg (by decide), if_neg (by decide), if_pos trivial, if_neg hl]
   rfl
theorem single_key {sz : Nat} {q : List Lx.Tok} (hs : ∀ t ∈ q, Px.SgnOk t) {s : Lx.Bs} {e : Px.E} (h : Px.sees s q = true) (hk : (s = Px.kTRUE ∧ e = .bool true) ∨ (s = Px.kFALSE ∧ e = .bool false) ∨ (s = Px.kNULL ∧ e = .null)) : lvR sz 9 q (.ok (e, q.tail)) := by
 obtain ⟨t, r, rfl⟩ := Px.sees_cons h
 have hkey : Lx.hasB Lx.keys s = true := by rcases hk with ⟨rfl, _⟩ | ⟨rfl, _⟩ | ⟨rfl, _⟩ <;> decide
 obtain ⟨h1, h2⟩ := (Px.sees_key hkey (hs t (by simp))).1 h
 obtain ⟨tk, tt, tp⟩ := t
 simp only at h1 h2
 subst h1 h2
 rcases hk with ⟨rfl, rfl⟩ | ⟨rfl, rfl⟩ | ⟨rfl, rfl⟩
 · exact lvR_ok (by omega) (Px.Ex.atom rfl rfl) trivial
 · exact lvR_ok (by omega) (Px.Ex.atom rfl rfl) trivial
 · exact lvR_ok (by omega) (Px.Ex.atom rfl rfl) trivial
theorem single_none {sz : Nat} {q : List Lx.Tok} (h16 : (pk sz q).kind ≠ 16) (h17 : (pk sz q).kind ≠ 17) (h18 : (pk sz q).kind ≠ 18) (h1 : Px.sees Px.kTRUE q = false) (h2 : Px.sees Px.kFALSE q = false) (h3 : Px.sees Px.kNULL q = false) (h4 : Px.sees Px.gOpen q = false) : lvR sz 9 q (.error (Px.plc sz q, 4)) := by
 refine lvR_err (Px.Ex.atom h4 ?_)
 cases q with
 | nil => rfl
 | cons t r =>
  simp only [pk] at h16 h17 h18
  simp only [Px.atom, Px.plc]
  rw [if_neg h16, if_neg h17, if_neg h18]
  split
  · rename_i h50
    have K : ∀ s, Px.sees s (t :: r) = false → t.text ≠ s := by
     intro s hs e
     simp [Px.sees, h50, e] at hs
    rw [if_neg (K _ h3), if_neg (K _ h1), if_neg (K _ h2)]
  · rfl
theorem single_bra {sz : Nat} {q : List Lx.Tok} (h : Px.sees Px.gOpen q = true) {r : Px.Res Px.E} (h1 : lvR sz 1 q.tail r) {r' : Px.Res Px.E} (h2 : Px.Then r (fun e p s => Px.Rg.seq (Px.mustR sz Px.gShut) (fun _ => Px.Rg.ret e) p s) r') : lvR sz 9 q r' := by
 match r, h1, h2 with
 | .error (p, c), h1, h2 =>
  simp only [Px.Then] at h2
  subst h2
  exact lvR_err (Px.Ex.bra h h1.1 rfl)
 | .ok (e, p), h1, h2 =>
  simp only [Px.Then] at h2
  rcases Px.seq_ok h2 with ⟨⟨p1, c1⟩, h3, rfl⟩ | ⟨_, p', h3, h4⟩
  · rcases Px.must_some h3 with ⟨_, h5⟩ | ⟨h5, h6⟩
    · cases h5
    · cases h6
      refine lvR_err (Px.Ex.bra h h1.1 ?_)
      show _ = _
      rw [if_neg (by simp [h5])]
  · cases h4
    rcases Px.must_some h3 with ⟨h5, h6⟩ | ⟨_, h5⟩
    · cases h6
      refine lvR_ok (by omega) (Px.Ex.bra h h1.1 ?_) (h1.2 _ _ rfl).1
      show _ = _
      rw [if_pos h5]
    · cases h5
theorem Cx.sgn {w : World} {B : Nat} {lv : Value} {ts : List Lx.Tok} {sz : Nat} {q : List Lx.Tok} {dp : Bool} (h : Cx w B lv ts sz q dp) : ∀ t ∈ q, Px.SgnOk t := by
 obtain ⟨k, rfl, h2⟩ := h
 intro t ht
 exact (h2.toks t (List.mem_of_mem_drop ht)).2.1
theorem c_single_lit (B : Nat) (lv : Value) (ts : List Lx.Tok) (sz : Nat) (dp : Bool) (w : World) (q : List Lx.Tok) (tk : Nat) (tt : Lx.Bs) (tp : Nat) (hk : tk = 16 ∨ tk = 17 ∨ tk = 18) (h : Cx w B lv ts sz (⟨tk, tt, tp⟩ :: q) dp) :
   Calls Tryz.prog 280 #[.pointer (some ⟨B, 0, none⟩)] w (OutR w B lv ts sz dp (lvR sz 9) (⟨tk, tt, tp⟩ :: q) exV noDeep) := by
 have hf0 := fld0
 have hf1 := fld1
 rcases hk with rfl | rfl | rfl
 · obtain ⟨hok, _, _, hlen⟩ := h.tok
   obtain ⟨hne, hdig, hov⟩ := hok.digs rfl
   simp only at hne hdig hov hlen
   have HT := hd (top_iff hdig hov)
   have HX := hd h
   clear h hok hne hdig hov
   go_enter Tryz.func280, Tryz.ntmps280
   go_wp2_with fail
   refine (c_peek_any w B lv ts sz _ dp HX.out).mono ?_
   rintro x w1 ⟨rfl, hb⟩
   have HX1 := hd (HX.out.below hb)
   have HB := hd hb
   clear hb
   unfold tokA pk
   simp only
   go_wp2_with fail
   refine (c_number_any w1 B lv ts sz _ dp HX1.out 9223372036854775807 (by omega)).mono ?_
   rintro x w2 ho
   obtain ⟨hg, ⟨p, c, hr, rfl⟩ | ⟨n, q', v, hr, rfl, hv, hx⟩⟩ := ho.cases
   · exact ⟨rfl, OutR.err (grownBy_trans (Below.grownBy HB.out) hg) (single_num HT.out.2 HT.out.1 hr)⟩
   · cases hv
     have HR := hd (single_num HT.out.2 HT.out.1 hr)
     go_wp2_with fail
     go_ret
     exact OutR.ok (grownBy_trans (Below.grownBy HB.out) hg) HR.out rfl hx
 · have hlen := h.tok.2.2.2
   simp only at hlen
   have HX := hd h
   clear h
   go_enter Tryz.func280, Tryz.ntmps280
   go_wp2_with fail
   refine (c_peek_any w B lv ts sz _ dp HX.out).mono ?_
   rintro x w1 ⟨rfl, hb⟩
   have HX1 := hd (HX.out.below hb)
   have HB := hd hb
   clear hb
   unfold tokA pk
   simp only
   go_wp2_with fail
   refine (c_take_yes w1 B lv ts sz 17 tt tp q dp HX1.out 17 rfl).mono ?_
   rintro x w2 ⟨rfl, hx, hg⟩
   unfold tokA
   simp only
   go_wp2_with fail
   go_ret
   exact OutR.ok (grownBy_trans (Below.grownBy HB.out) hg) (single_str hlen) rfl hx
 · have HX := hd h
   clear h
   go_enter Tryz.func280, Tryz.ntmps280
   go_wp2_with fail
   refine (c_peek_any w B lv ts sz _ dp HX.out).mono ?_
   rintro x w1 ⟨rfl, hb⟩
   have HX1 := hd (HX.out.below hb)
   have HB := hd hb
   clear hb
   unfold tokA pk
   simp only
   go_wp2_with fail
   refine (c_name_any w1 B lv ts sz _ dp HX1.out).mono ?_
   rintro x w2 ho
   obtain ⟨hg, ⟨p, c, hr, rfl⟩ | ⟨n, q', v, hr, rfl, hv, hx⟩⟩ := ho.cases
   · exact ⟨rfl, OutR.err (grownBy_trans (Below.grownBy HB.out) hg) (single_name hr)⟩
   · cases hv
     have HR := hd (single_name hr)
     go_wp2_with fail
     go_ret
     exact OutR.ok (grownBy_trans (Below.grownBy HB.out) hg) HR.out rfl hx
theorem c_single_word (B : Nat) (lv : Value) (ts : List Lx.Tok) (sz : Nat) (dp : Bool) (w : World) (q : List Lx.Tok) (tk : Nat) (tt : Lx.Bs) (tp : Nat) (ht : pk sz q = ⟨tk, tt, tp⟩) (h16 : tk ≠ 16) (h17 : tk ≠ 17) (h18 : tk ≠ 18) (h : Cx w B lv ts sz q dp)
   (ih : ∀ n, n < q.length → LvOk B lv ts sz dp 1 n) :
   Calls Tryz.prog 280 #[.pointer (some ⟨B, 0, none⟩)] w (OutR w B lv ts sz dp (lvR sz 9) q exV noDeep) := by
 have hf0 := fld0
 have HX := hd h
 have HT := hd ht
 have HS := hd h.sgn
 have HI := hd ih
 have e16 : ((tk : Int) == 16) = false := by rw [beq_eq_false_iff_ne]; omega
 have e17 : ((tk : Int) == 17) = false := by rw [beq_eq_false_iff_ne]; omega
 have e18 : ((tk : Int) == 18) = false := by rw [beq_eq_false_iff_ne]; omega
 clear h ht ih
 go_enter Tryz.func280, Tryz.ntmps280
 go_wp2_with fail
 refine (c_peek_any w B lv ts sz _ dp HX.out).mono ?_
 rintro x w1 ⟨rfl, hb⟩
 have HX1 := hd (HX.out.below hb)
 have HB := hd (Below.grownBy (row := some B) hb)
 clear hb
 rw [HT.out]
 unfold tokA
 simp only
 cases hs1 : Px.sees Px.kTRUE q with
 | true =>
  go_wp2_with fail
  refine (c_accept_yes ⟨#[84, 82, 85, 69]⟩ w1 B lv ts sz q dp HX1.out hs1 (by simp)).mono ?_
  rintro x w2 ⟨rfl, hx, hg⟩
  go_wp2_with fail
  go_ret
  exact OutR.ok (grownBy_trans HB.out hg) (single_key HS.out hs1 (.inl ⟨rfl, rfl⟩)) rfl hx
 | false =>
  go_wp2_with fail
  refine (c_accept_no ⟨#[84, 82, 85, 69]⟩ w1 B lv ts sz q dp HX1.out hs1 (by simp)).mono ?_
  rintro x w2 ⟨rfl, hb2⟩
  have HX2 := hd (HX1.out.below hb2)
  have HB2 := hd (grownBy_trans HB.out (Below.grownBy (row := some B) hb2))
  clear hb2
  cases hs2 : Px.sees Px.kFALSE q with
  | true =>
   go_wp2_with fail
   refine (c_accept_yes ⟨#[70, 65, 76, 83, 69]⟩ w2 B lv ts sz q dp HX2.out hs2 (by simp)).mono ?_
   rintro x w3 ⟨rfl, hx, hg⟩
   go_wp2_with fail
   go_ret
   exact OutR.ok (grownBy_trans HB2.out hg) (single_key HS.out hs2 (.inr (.inl ⟨rfl, rfl⟩))) rfl hx
  | false =>
   go_wp2_with fail
   refine (c_accept_no ⟨#[70, 65, 76, 83, 69]⟩ w2 B lv ts sz q dp HX2.out hs2 (by simp)).mono ?_
   rintro x w3 ⟨rfl, hb3⟩
   have HX3 := hd (HX2.out.below hb3)
   have HB3 := hd (grownBy_trans HB2.out (Below.grownBy (row := some B) hb3))
   clear hb3
   cases hs3 : Px.sees Px.kNULL q with
   | true =>
    go_wp2_with fail
    refine (c_accept_yes ⟨#[78, 85, 76, 76]⟩ w3 B lv ts sz q dp HX3.out hs3 (by simp)).mono ?_
    rintro x w4 ⟨rfl, hx, hg⟩
    go_wp2_with fail
    go_ret
    exact OutR.ok (grownBy_trans HB3.out hg) (single_key HS.out hs3 (.inr (.inr ⟨rfl, rfl⟩))) rfl hx
   | false =>
    go_wp2_with fail
    refine (c_accept_no ⟨#[78, 85, 76, 76]⟩ w3 B lv ts sz q dp HX3.out hs3 (by simp)).mono ?_
    rintro x w4 ⟨rfl, hb4⟩
    have HX4 := hd (HX3.out.below hb4)
    have HB4 := hd (grownBy_trans HB3.out (Below.grownBy (row := some B) hb4))
    clear hb4
    go_wp2_with fail
    refine (c_expect_new ⟨#[40]⟩ w4 B lv ts sz q dp HX4.out (by simp)).mono ?_
    rintro x w5 ho
    obtain ⟨hg5, ⟨p, c, hr, rfl⟩ | ⟨_, q5, v, hr, rfl, hv, hx5⟩⟩ := ho.cases
    · refine ⟨rfl, OutR.err (grownBy_trans HB4.out hg5) ?_⟩
      rcases Px.must_some hr with ⟨_, h6⟩ | ⟨h6, h7⟩
      · cases h6
      · cases h7
        exact single_none (by rw [HT.out]; exact h16) (by rw [HT.out]; exact h17) (by rw [HT.out]; exact h18) hs1 hs2 hs3 h6
    · cases hv
      have hopen : Px.sees Px.gOpen q = true ∧ q5 = q.tail := by
       rcases Px.must_some hr with ⟨h6, h7⟩ | ⟨_, h6⟩
       · cases h7; exact ⟨h6, rfl⟩
       · cases h6
      obtain ⟨hop, rfl⟩ := hopen
      have HO := hd hop
      have HX5 := hd hx5
      have HB5 := hd (grownBy_trans HB4.out hg5)
      have hlen := Px.sees_len hop
      clear hr hop hx5 hg5
      go_wp2_with fail
      refine (HI.out q.tail.length (by omega) w5 q.tail (Nat.le_refl _) HX5.out).mono ?_
      rintro x w6 ho
      obtain ⟨hg6, ⟨p, c, hr, rfl⟩ | ⟨e, q6, v, hr, rfl, hv, hx6⟩⟩ := ho.cases
      · exact ⟨rfl, OutR.err (grownBy_trans HB5.out hg6) (single_bra HO.out hr rfl)⟩
      · cases hv
        have HR6 := hd hr
        have HX6 : Hid (Cx w6 B lv ts sz q6 dp) := hx6
        have HB6 := hd (grownBy_trans HB5.out hg6)
        obtain ⟨et, ex, hev⟩ := ev_iface e
        have HEV := hd hev
        rw [hev]
        clear hr hx6 hg6 hev
        go_wp2_with fail
        refine (c_expect_new ⟨#[41]⟩ w6 B lv ts sz q6 dp HX6.out (by simp)).mono ?_
        rintro x w7 ho
        obtain ⟨hg7, ⟨p, c, hr, rfl⟩ | ⟨_, q7, v, hr, rfl, hv, hx7⟩⟩ := ho.cases
        · exact ⟨rfl, OutR.err (grownBy_trans HB6.out hg7) (single_bra HO.out HR6.out (Px.Rg.err hr))⟩
        · cases hv
          have HR7 := hd hr
          clear hr
          go_wp2_with fail
          go_ret
          exact OutR.ok (grownBy_trans HB6.out hg7) (single_bra HO.out HR6.out (Px.Rg.go HR7.out rfl)) (by rw [← HEV.out]; rfl) hx7
end
theorem c_single_any (B : Nat) (lv : Value) (ts : List Lx.Tok) (sz : Nat) (dp : Bool) (w : World) (q : List Lx.Tok) (h : Cx w B lv ts sz q dp) (ih : ∀ n, n < q.length → LvOk B lv ts sz dp 1 n) :
   Calls Tryz.prog 280 #[.pointer (some ⟨B, 0, none⟩)] w (OutR w B lv ts sz dp (lvR sz 9) q exV noDeep) := by
 rcases ht : pk sz q with ⟨tk, tt, tp⟩
 by_cases hk : tk = 16 ∨ tk = 17 ∨ tk = 18
 · obtain ⟨q', rfl⟩ := pk_cons ht (by omega)
   exact c_single_lit B lv ts sz dp w q' tk tt tp hk h
 · exact c_single_word B lv ts sz dp w q tk tt tp ht (by omega) (by omega) (by omega) h ih
theorem lvR_up8 {sz : Nat} {q : List Lx.Tok} {r : Px.Res Px.E} (hs : Px.sees Px.gMinus q = false) (h : lvR sz 9 q r) : lvR sz 8 q r := ⟨Px.Ex.up8 hs h.1, h.2⟩
theorem lvR_top {sz tp : Nat} {q q' : List Lx.Tok} (hs : Px.sees Px.gMinus q = true) (ht : q.tail = ⟨16, Lx.top, tp⟩ :: q') : lvR sz 8 q (.ok (.num Px.bot, q')) := by
 refine lvR_ok (by omega) ?_ (by simp only [Px.E.ok, Px.bot]; omega)
 have := Px.Ex.top (sz := sz) (a := []) hs (by rw [ht]; rfl)
 rw [ht] at this
 exact this
theorem isTop_no {sz : Nat} {q : List Lx.Tok} {tk : Nat} {tt : Lx.Bs} {tp : Nat} (ht : pk sz q = ⟨tk, tt, tp⟩) (h : ¬ (tk = 16 ∧ tt = Lx.top)) : Px.isTop q = false := by
 cases q with
 | nil => rfl
 | cons t q =>
  simp only [pk] at ht
  subst ht
  simp only [Px.isTop, Bool.and_eq_false_iff, decide_eq_false_iff_not, beq_eq_false_iff_ne]
  by_cases h1 : tk = 16
  · exact .inr fun e => h ⟨h1, e⟩
  · exact .inl h1
theorem lvR_neg {sz : Nat} {q : List Lx.Tok} {r r' : Px.Res Px.E} (hs : Px.sees Px.gMinus q = true) (ht : Px.isTop q.tail = false) (h : lvR sz 8 q.tail r) (h' : Px.Then r (fun e p s => (∃ z, e = .num z ∧ s = if z = Px.bot then .error (Px.plc sz q, 3) else .ok (.num (-z), p)) ∨ (e.isNum = false ∧ s = .ok (.un 19 e, p))) r') : lvR sz 8 q r' := by
 match r, h, h' with
 | .error (p, c), h, h' =>
  simp only [Px.Then] at h'
  subst h'
  exact lvR_err (Px.Ex.neg hs ht h.1 rfl)
 | .ok (e, p), h, h' =>
  simp only [Px.Then] at h'
  have ho := (h.2 _ _ rfl).1
  rcases h' with ⟨z, rfl, rfl⟩ | ⟨hn, rfl⟩
  · by_cases hz : z = Px.bot
    · rw [if_pos hz]
      refine lvR_err (Px.Ex.neg hs ht h.1 ?_)
      show Px.negate _ _ _ = _
      rw [Px.negate_num, if_pos hz]
    · rw [if_neg hz]
      refine lvR_ok (by omega) (Px.Ex.neg hs ht h.1 ?_) ?_
      · show Px.negate _ _ _ = _
        rw [Px.negate_num, if_neg hz]
      · simp only [Px.E.ok, Px.bot] at *; omega
  · refine lvR_ok (by omega) (Px.Ex.neg hs ht h.1 ?_) ⟨by omega, by omega, fun _ => hn, ho⟩
    exact Px.negate_not _ 2000 e _ hn ho
theorem c_minus_step (B : Nat) (lv : Value) (ts : List Lx.Tok) (sz : Nat) (dp : Bool) (w : World) (q : List Lx.Tok) (h : Cx w B lv ts sz q dp) (ih : ∀ n, n < q.length → LvOk B lv ts sz dp 1 n)
   (rec : ∀ (w : World) (q' : List Lx.Tok), q'.length < q.length → Cx w B lv ts sz q' dp → Calls Tryz.prog 252 #[.pointer (some ⟨B, 0, none⟩)] w (OutR w B lv ts sz dp (lvR sz 8) q' exV noDeep)) :
   Calls Tryz.prog 252 #[.pointer (some ⟨B, 0, none⟩)] w (OutR w B lv ts sz dp (lvR sz 8) q exV noDeep) := by
 have hf2 := fld2
 have HX := hd h
 have HI := hd ih
 have HR := hd rec
 rcases ht : pk sz q with ⟨tk, tt, tp⟩
 have HT := hd ht
 have HP := hd (plc_tok ht)
 clear h ih rec ht
 cases hs : Px.sees Px.gMinus q with
 | false =>
  go_enter Tryz.func252, Tryz.ntmps252
  go_wp2_with fail
  refine (c_peek_any w B lv ts sz _ dp HX.out).mono ?_
  rintro x w1 ⟨rfl, hb⟩
  have HX1 := hd (HX.out.below hb)
  have HB := hd (Below.grownBy (row := some B) hb)
  clear hb
  rw [HT.out]
  unfold tokA
  simp only
  go_wp2_with fail
  refine (c_accept_no ⟨#[45]⟩ w1 B lv ts sz q dp HX1.out hs (by simp)).mono ?_
  rintro x w2 ⟨rfl, hb2⟩
  have HX2 := hd (HX1.out.below hb2)
  have HB2 := hd (grownBy_trans HB.out (Below.grownBy (row := some B) hb2))
  clear hb2
  go_wp2_with fail
  refine (c_single_any B lv ts sz dp w2 q HX2.out HI.out).mono ?_
  rintro x w3 ho
  obtain ⟨hg, ⟨p, c, hr, rfl⟩ | ⟨e, q', v, hr, rfl, hv, hx⟩⟩ := ho.cases
  · exact ⟨rfl, OutR.err (grownBy_trans HB2.out hg) (lvR_up8 hs hr)⟩
  · have HRR := hd hr
    have HV := hd hv
    obtain ⟨et, ex, hev⟩ := ev_iface e
    have hve : v = .iface et ex := by rw [← hev]; exact hv
    subst hve
    clear hr hv hev
    go_wp2_with fail
    go_ret
    exact OutR.ok (grownBy_trans HB2.out hg) (lvR_up8 hs HRR.out) HV.out hx
 | true =>
  have hlen := Px.sees_len hs
  go_enter Tryz.func252, Tryz.ntmps252
  go_wp2_with fail
  refine (c_peek_any w B lv ts sz _ dp HX.out).mono ?_
  rintro x w1 ⟨rfl, hb⟩
  have HX1 := hd (HX.out.below hb)
  have HB := hd (Below.grownBy (row := some B) hb)
  clear hb
  rw [HT.out]
  unfold tokA
  simp only
  go_wp2_with fail
  refine (c_accept_yes ⟨#[45]⟩ w1 B lv ts sz q dp HX1.out hs (by simp)).mono ?_
  rintro x w2 ⟨rfl, hx2, hg2⟩
  have HX2 := hd hx2
  have HB2 := hd (grownBy_trans HB.out hg2)
  clear hx2 hg2
  rcases ht2 : pk sz q.tail with ⟨uk, ut, up⟩
  have HT2 := hd ht2
  clear ht2
  go_wp2_with fail
  refine (c_peek_any w2 B lv ts sz _ dp HX2.out).mono ?_
  rintro x w3 ⟨rfl, hb3⟩
  rw [HT2.out]
  unfold tokA
  simp only
  have HX30 := hd (HX2.out.below hb3)
  have HG30 := hd (grownBy_trans HB2.out (Below.grownBy (row := some B) hb3))
  have HX3 := hd ((HX2.out.below hb3).below ((Below.refl _ _).alloc (Nat.le_refl _) (.cells #[.int .i64 (uk : Int), .string ⟨ut.toArray⟩, .int .i64 (up : Int)] 109)))
  have HB3 := hd (grownBy_alloc (grownBy_trans HB2.out (Below.grownBy (row := some B) hb3)) (.cells #[.int .i64 (uk : Int), .string ⟨ut.toArray⟩, .int .i64 (up : Int)] 109))
  clear hb3
  by_cases htop : uk = 16 ∧ ut = Lx.top
  · obtain ⟨rfl, rfl⟩ := htop
    obtain ⟨q', hq'⟩ := pk_cons HT2.out (by omega)
    obtain ⟨k, hk2, hblk⟩ := HX30.out.blk
    have HQ := hd hq'
    have c1 : w3.cell? ⟨B, 1, none⟩ = some (.int .i64 (k : Int)) := hblk.cell 1
    have f1 := hblk.free 1
    have HBK := hd hblk
    have hlt := HX30.out.lt
    have d1 : ¬ B = w3.heap.size := by omega
    have d2 : ¬ w3.heap.size = B := by omega
    clear hq' hblk
    have hte : ((⟨Lx.top.toArray⟩ : ByteArray).toList == [57, 50, 50, 51, 51, 55, 50, 48, 51, 54, 56, 53, 52, 55, 55, 53, 56, 48, 56]) = true := by rw [Lib.toList_data]; rfl
    have HL := hd (lvR_top (sz := sz) hs HQ.out)
    have HNX : Hid (Cx ((w3.setCell ⟨B, 1, none⟩ (.int .i64 ((k : Int) + 1))).alloc (.cells #[.int .i64 16, .string ⟨Lx.top.toArray⟩, .int .i64 (up : Int)] 109)) B lv ts sz q' dp) := by
     have := HX30.out.step (dp' := dp) (grownBy_alloc (grownBy_set w3 B 1 (.int .i64 ((k : Int) + 1))) (.cells #[.int .i64 16, .string ⟨Lx.top.toArray⟩, .int .i64 (up : Int)] 109)) (by rw [HQ.out]; simp) k c1 ((HBK.out.set 1 _).alloc _)
     rw [HQ.out] at this
     exact this
    have HGX : Hid (w.grownBy ((w3.setCell ⟨B, 1, none⟩ (.int .i64 ((k : Int) + 1))).alloc (.cells #[.int .i64 16, .string ⟨Lx.top.toArray⟩, .int .i64 (up : Int)] 109)) (some B)) := grownBy_alloc (grownBy_trans HG30.out (grownBy_set w3 B 1 (.int .i64 ((k : Int) + 1)))) _
    clear HX3 HB3
    generalize (⟨Lx.top.toArray⟩ : ByteArray) = tb at *
    go_wp2_with fail
    go_ret
    exact OutR.ok HGX.out HL.out rfl HNX.out
  · have HNT := hd (isTop_no HT2.out htop)
    have hbool : ((uk : Int) == 16) = false ∨ (((uk : Int) == 16) = true ∧ ((⟨ut.toArray⟩ : ByteArray).toList == [57, 50, 50, 51, 51, 55, 50, 48, 51, 54, 56, 53, 52, 55, 55, 53, 56, 48, 56]) = false) := by
     by_cases h16 : uk = 16
     · right
       refine ⟨by simp [h16], ?_⟩
       rw [beq_eq_false_iff_ne, Lib.toList_data]
       intro e
       exact htop ⟨h16, e⟩
     · left; rw [beq_eq_false_iff_ne]; omega
    have FIN : Hid (∀ (r : Px.Res Px.E), lvR sz 8 q.tail r → ∀ r', Px.Then r (fun e p s => (∃ z, e = .num z ∧ s = if z = Px.bot then .error (tp, 3) else .ok (.num (-z), p)) ∨ (e.isNum = false ∧ s = .ok (.un 19 e, p))) r' → lvR sz 8 q r') := by
     intro r hr r' hr'
     refine lvR_neg hs HNT.out hr ?_
     rw [HP.out]
     exact hr'
    clear htop
    generalize (⟨ut.toArray⟩ : ByteArray) = ub at *
    rcases hbool with h16 | ⟨h16, hte⟩
    all_goals
     go_wp2_with fail
     refine (HR.out _ q.tail (by omega) HX3.out).mono ?_
     rintro x w4 ho
     obtain ⟨hg, ⟨p, c, hr, rfl⟩ | ⟨e, q', v, hr, rfl, hv, hx⟩⟩ := ho.cases
     · exact ⟨rfl, OutR.err (grownBy_trans HB3.out hg) (FIN.out _ hr _ rfl)⟩
     · have HRR := hd hr
       have HGF := hd (grownBy_trans HB3.out hg)
       have HXF : Hid (Cx w4 B lv ts sz q' dp) := hx
       cases hv
       clear hr hx hg
       by_cases hnum : e.isNum = true
       · obtain ⟨z, rfl⟩ : ∃ z, e = .num z := by cases e <;> simp [Px.E.isNum] at hnum; exact ⟨_, rfl⟩
         have hz := (HRR.out.2 _ _ rfl).1
         simp only [Px.E.ok] at hz
         unfold ev
         by_cases hbot : z = Px.bot
         · subst hbot
           go_wp2_with fail
           refine (c_neg_bot w4 _ tp).mono ?_
           rintro x w5 ⟨rfl, hb5⟩
           exact ⟨rfl, OutR.err (grownBy_trans HGF.out (Below.grownBy hb5)) (FIN.out _ HRR.out _ (.inl ⟨_, rfl, by rw [if_pos rfl]⟩))⟩
         · go_wp2_with fail
           refine (c_neg_num w4 _ tp z (by unfold Px.bot at hbot; omega) hz.2).mono ?_
           rintro x w5 ⟨rfl, hb5⟩
           have HB5 := hd hb5
           clear hb5
           go_wp2_with fail
           go_ret
           exact OutR.ok (a := Px.E.num (-z)) (q' := q') (grownBy_trans HGF.out (Below.grownBy HB5.out)) (FIN.out _ HRR.out _ (.inl ⟨_, rfl, by rw [if_neg hbot]⟩)) rfl (HXF.out.below HB5.out)
       · have hnum : e.isNum = false := by simpa using hnum
         obtain ⟨et, ex, hev⟩ := ev_iface e
         have HEV := hd hev
         rw [hev]
         clear hev
         go_wp2_with fail
         refine Calls.mono (by have := c_neg_not w4 (.pointer (some ⟨B, 0, none⟩)) tp e hnum; rw [HEV.out] at this; exact this) ?_
         rintro x w5 ⟨rfl, hb5⟩
         have HB5 := hd hb5
         clear hb5
         obtain ⟨et2, ex2, hev2⟩ := ev_iface (.un 19 e)
         have HEV2 := hd hev2
         rw [hev2]
         clear hev2
         go_wp2_with fail
         go_ret
         exact OutR.ok (a := Px.E.un 19 e) (q' := q') (grownBy_trans HGF.out (Below.grownBy HB5.out)) (FIN.out _ HRR.out _ (.inr ⟨hnum, rfl⟩)) (by rw [← HEV2.out]; rfl) (HXF.out.below HB5.out)
theorem c_minus_any (B : Nat) (lv : Value) (ts : List Lx.Tok) (sz : Nat) (dp : Bool) (N : Nat) (ih : ∀ n, n < N → LvOk B lv ts sz dp 1 n) : ∀ (n : Nat) (w : World) (q : List Lx.Tok), q.length ≤ n → n ≤ N → Cx w B lv ts sz q dp →
   Calls Tryz.prog 252 #[.pointer (some ⟨B, 0, none⟩)] w (OutR w B lv ts sz dp (lvR sz 8) q exV noDeep) := by
 intro n
 induction n with
 | zero => intro w q hq hN h; exact c_minus_step B lv ts sz dp w q h (fun m hm => ih m (by omega)) (fun w' q' hq' _ => by omega)
 | succ n ihn => intro w q hq hN h; exact c_minus_step B lv ts sz dp w q h (fun m hm => ih m (by omega)) (fun w' q' hq' h' => ihn w' q' (by omega) (by omega) h')
theorem opIn_nil (l : Nat) : Px.opIn Px.opTab l [] = 0 := by simp [Px.opTab, Px.opIn, Px.kOR, Px.kAND]
theorem oper_fix (l sz : Nat) (q : List Lx.Tok) : Px.opIn Px.opTab l (fixT (pk sz q)) = Px.oper l q := by
 cases q with
 | nil => exact opIn_nil l
 | cons t q =>
  rw [Px.oper_one]
  show Px.opIn Px.opTab l (fixT t) = _
  unfold fixT
  split
  · rfl
  · exact opIn_nil l
def isR (sz : Nat) : Px.Rg Nat := fun q r => if Px.sees Px.kNOT q = true then Px.Rg.seq (Px.mustR sz Px.kNULL) (fun _ => Px.Rg.ret 22) q.tail r else Px.Rg.seq (Px.mustR sz Px.kNULL) (fun _ => Px.Rg.ret 21) q r
theorem c_null_any (B : Nat) (lv : Value) (ts : List Lx.Tok) (sz : Nat) (dp : Bool) (w : World) (q : List Lx.Tok) (h : Cx w B lv ts sz q dp) :
   Calls Tryz.prog 279 #[.pointer (some ⟨B, 0, none⟩)] w (OutR w B lv ts sz dp (isR sz) q numV noDeep) := by
 have HX := hd h
 clear h
 cases hs : Px.sees Px.kNOT q with
 | true =>
  have HR : Hid (∀ r, Px.Rg.seq (Px.mustR sz Px.kNULL) (fun _ => Px.Rg.ret 22) q.tail r → isR sz q r) := fun r hr => by unfold isR; rw [if_pos hs]; exact hr
  go_enter Tryz.func279, Tryz.ntmps279
  go_wp2_with fail
  refine (c_accept_yes ⟨#[78, 79, 84]⟩ w B lv ts sz q dp HX.out hs (by simp)).mono ?_
  rintro x w2 ⟨rfl, hx, hg⟩
  have HX2 := hd hx
  have HG2 := hd hg
  clear hx hg
  go_wp2_with fail
  refine (c_expect_new ⟨#[78, 85, 76, 76]⟩ w2 B lv ts sz q.tail dp HX2.out (by simp)).mono ?_
  rintro x w3 ho
  obtain ⟨hg, ⟨p, c, hr, rfl⟩ | ⟨_, q', v, hr, rfl, hv, hx⟩⟩ := ho.cases
  · exact ⟨rfl, OutR.err (grownBy_trans HG2.out hg) (HR.out _ (Px.Rg.err hr))⟩
  · cases hv
    have HRR := hd hr
    clear hr
    go_wp2_with fail
    go_ret
    exact OutR.ok (a := 22) (grownBy_trans HG2.out hg) (HR.out _ (Px.Rg.go HRR.out rfl)) rfl hx
 | false =>
  have HR : Hid (∀ r, Px.Rg.seq (Px.mustR sz Px.kNULL) (fun _ => Px.Rg.ret 21) q r → isR sz q r) := fun r hr => by unfold isR; rw [if_neg (by simp [hs])]; exact hr
  go_enter Tryz.func279, Tryz.ntmps279
  go_wp2_with fail
  refine (c_accept_no ⟨#[78, 79, 84]⟩ w B lv ts sz q dp HX.out hs (by simp)).mono ?_
  rintro x w2 ⟨rfl, hb⟩
  have HX2 := hd (HX.out.below hb)
  have HG2 := hd (Below.grownBy (row := some B) hb)
  clear hb
  go_wp2_with fail
  refine (c_expect_new ⟨#[78, 85, 76, 76]⟩ w2 B lv ts sz q dp HX2.out (by simp)).mono ?_
  rintro x w3 ho
  obtain ⟨hg, ⟨p, c, hr, rfl⟩ | ⟨_, q', v, hr, rfl, hv, hx⟩⟩ := ho.cases
  · exact ⟨rfl, OutR.err (grownBy_trans HG2.out hg) (HR.out _ (Px.Rg.err hr))⟩
  · cases hv
    have HRR := hd hr
    clear hr
    go_wp2_with fail
    go_ret
    exact OutR.ok (a := 21) (grownBy_trans HG2.out hg) (HR.out _ (Px.Rg.go HRR.out rfl)) rfl hx
theorem cmp_err {sz : Nat} {q : List Lx.Tok} {p c : Nat} (h : lvR sz 5 q (.error (p, c))) : lvR sz 4 q (.error (p, c)) := lvR_err (Px.Ex.cmp h.1 rfl)
theorem cmp_none {sz : Nat} {q q1 : List Lx.Tok} {e : Px.E} (h : lvR sz 5 q (.ok (e, q1))) (hs : Px.sees Px.kIS q1 = false) (ho : Px.oper 4 q1 = 0) : lvR sz 4 q (.ok (e, q1)) :=
 lvR_ok (by omega) (Px.Ex.cmp h.1 (Px.tail4_none hs ho)) (h.2 _ _ rfl).1
theorem cmp_op {sz : Nat} {q q1 : List Lx.Tok} {e : Px.E} (h : lvR sz 5 q (.ok (e, q1))) (hs : Px.sees Px.kIS q1 = false) (ho : Px.oper 4 q1 ≠ 0) {r : Px.Res Px.E} (h2 : lvR sz 5 q1.tail r) : lvR sz 4 q (Px.mapR (Px.E.bin (Px.oper 4 q1) e) r) := by
 match r, h2 with
 | .error (p, c), h2 => exact lvR_err (Px.Ex.cmp h.1 (Px.tail4_op hs ho h2.1 rfl))
 | .ok (b, q2), h2 =>
  have hr := Px.oper_range ho
  exact lvR_ok (by omega) (Px.Ex.cmp h.1 (Px.tail4_op hs ho h2.1 rfl)) ⟨hr.1, hr.2, (h.2 _ _ rfl).1, (h2.2 _ _ rfl).1⟩
theorem cmp_is {sz : Nat} {q q1 : List Lx.Tok} {e : Px.E} (h : lvR sz 5 q (.ok (e, q1))) (hs : Px.sees Px.kIS q1 = true) {r : Px.Res Nat} (h2 : isR sz q1.tail r) : lvR sz 4 q (Px.mapR (fun k => Px.E.un k e) r) := by
 have ho := (h.2 _ _ rfl).1
 unfold isR at h2
 split at h2
 · rename_i hn
   have ht := Px.tail4_isnot (sz := sz) (b := e.nodes) hs hn
   rcases Px.seq_ok h2 with ⟨⟨p, c⟩, h3, rfl⟩ | ⟨_, q2, h3, h4⟩
   · rcases Px.must_some h3 with ⟨_, h5⟩ | ⟨h5, h6⟩
     · cases h5
     · cases h6
       rw [if_neg (by simp [h5])] at ht
       exact lvR_err (Px.Ex.cmp h.1 ht)
   · cases h4
     rcases Px.must_some h3 with ⟨h5, h6⟩ | ⟨_, h5⟩
     · cases h6
       rw [if_pos h5] at ht
       exact lvR_ok (by omega) (Px.Ex.cmp h.1 ht) ⟨by omega, by omega, by omega, ho⟩
     · cases h5
 · rename_i hn
   have ht := Px.tail4_is (sz := sz) (b := e.nodes) hs (by simpa using hn)
   rcases Px.seq_ok h2 with ⟨⟨p, c⟩, h3, rfl⟩ | ⟨_, q2, h3, h4⟩
   · rcases Px.must_some h3 with ⟨_, h5⟩ | ⟨h5, h6⟩
     · cases h5
     · cases h6
       rw [if_neg (by simp [h5])] at ht
       exact lvR_err (Px.Ex.cmp h.1 ht)
   · cases h4
     rcases Px.must_some h3 with ⟨h5, h6⟩ | ⟨_, h5⟩
     · cases h6
       rw [if_pos h5] at ht
       exact lvR_ok (by omega) (Px.Ex.cmp h.1 ht) ⟨by omega, by omega, by omega, ho⟩
     · cases h5
theorem c_cmp_any (B : Nat) (lv : Value) (ts : List Lx.Tok) (sz : Nat) (dp : Bool) (w : World) (q : List Lx.Tok) (h : Cx w B lv ts sz q dp) (ih : LvOk B lv ts sz dp 5 q.length) :
   Calls Tryz.prog 251 #[.pointer (some ⟨B, 0, none⟩)] w (OutR w B lv ts sz dp (lvR sz 4) q exV noDeep) := by
 have HX := hd h
 have HI := hd ih
 clear h ih
 go_enter Tryz.func251, Tryz.ntmps251
 go_wp2_with fail
 refine (HI.out w q (Nat.le_refl _) HX.out).mono ?_
 rintro x w1 ho
 obtain ⟨hg, ⟨p, c, hr, rfl⟩ | ⟨e, q1, v, hr, rfl, hv, hx⟩⟩ := ho.cases
 · exact ⟨rfl, OutR.err hg (cmp_err hr)⟩
 · cases hv
   have HR := hd hr
   have HX1 : Hid (Cx w1 B lv ts sz q1 dp) := hx
   have HG1 := hd hg
   have hlen := (hr.2 _ _ rfl).2
   obtain ⟨et, ex, hev⟩ := ev_iface e
   have HEV := hd hev
   rw [hev]
   clear hr hx hg hev ho
   cases hs : Px.sees Px.kIS q1 with
   | true =>
    go_wp2_with fail
    refine (c_accept_yes ⟨#[73, 83]⟩ w1 B lv ts sz q1 dp HX1.out hs (by simp)).mono ?_
    rintro x w2 ⟨rfl, hx2, hg2⟩
    have HX2 := hd hx2
    have HG2 := hd (grownBy_trans HG1.out hg2)
    clear hx2 hg2
    go_wp2_with fail
    refine (c_null_any B lv ts sz dp w2 q1.tail HX2.out).mono ?_
    rintro x w3 ho
    obtain ⟨hg, ⟨p, c, hr, rfl⟩ | ⟨k, q', v, hr, rfl, hv, hx⟩⟩ := ho.cases
    · exact ⟨rfl, OutR.err (grownBy_trans HG2.out hg) (cmp_is HR.out hs hr)⟩
    · cases hv
      have HRR := hd (cmp_is HR.out hs hr)
      clear hr
      go_wp2_with fail
      go_ret
      exact OutR.ok (a := Px.E.un k e) (grownBy_trans HG2.out hg) HRR.out (by show _ = ev _; unfold ev; rw [HEV.out]; rfl) hx
   | false =>
    go_wp2_with fail
    refine (c_accept_no ⟨#[73, 83]⟩ w1 B lv ts sz q1 dp HX1.out hs (by simp)).mono ?_
    rintro x w2 ⟨rfl, hb2⟩
    have HX2 := hd (HX1.out.below hb2)
    have HG2 := hd (grownBy_trans HG1.out (Below.grownBy (row := some B) hb2))
    clear hb2
    go_wp2_with fail
    refine (c_fixed_any w2 B lv ts sz q1 dp HX2.out).mono ?_
    rintro x w3 ⟨rfl, hb3⟩
    have HX3 := hd (HX2.out.below hb3)
    have HG3 := hd (grownBy_trans HG2.out (Below.grownBy (row := some B) hb3))
    clear hb3
    go_wp2_with fail
    refine (y_Operator_any ⟨(fixT (pk sz q1)).toArray⟩ 4 w3 HX3.out.env (by omega)).mono ?_
    rintro x w4 ⟨rfl, hb4⟩
    have HX4 := hd (HX3.out.below hb4)
    have HG4 := hd (grownBy_trans HG3.out (Below.grownBy (row := some B) hb4))
    have hop := oper_fix 4 sz q1
    simp only [hop]
    clear hb4 hop
    by_cases h0 : Px.oper 4 q1 = 0
    · have HF := hd (cmp_none HR.out hs h0)
      rw [h0]
      go_wp2_with fail
      go_ret
      exact OutR.ok (a := e) HG4.out HF.out (by show _ = ev _; rw [HEV.out]; rfl) HX4.out
    · have hdec : decide (Px.oper 4 q1 ≠ 0) = true := decide_eq_true h0
      have hq1 : q1 ≠ [] := by rintro rfl; exact h0 rfl
      obtain ⟨k, hk2, hblk⟩ := HX4.out.blk
      have c1 : w4.cell? ⟨B, 1, none⟩ = some (.int .i64 (k : Int)) := hblk.cell 1
      have f1 := hblk.free 1
      have HX5 : Hid (Cx (w4.setCell ⟨B, 1, none⟩ (.int .i64 ((k : Int) + 1))) B lv ts sz q1.tail dp) := HX4.out.step (grownBy_set w4 B 1 _) hq1 k c1 (hblk.set 1 _)
      have HG5 := hd (grownBy_trans HG4.out (grownBy_set w4 B 1 (.int .i64 ((k : Int) + 1))))
      have htl : q1.tail.length ≤ q.length := by have := Px.tail_le q1; have := e.size_pos; omega
      rw [hdec]
      have HF := hd (fun r (hr : lvR sz 5 q1.tail r) => cmp_op HR.out hs h0 hr)
      generalize Px.oper 4 q1 = ok at *
      clear hblk hdec h0
      go_wp2_with fail
      refine (HI.out _ q1.tail htl HX5.out).mono ?_
      rintro x w6 ho
      obtain ⟨hg, ⟨p, c, hr, rfl⟩ | ⟨b, q', v, hr, rfl, hv, hx⟩⟩ := ho.cases
      · exact ⟨rfl, OutR.err (grownBy_trans HG5.out hg) (HF.out _ hr)⟩
      · cases hv
        have HRR := hd (HF.out _ hr)
        obtain ⟨bt, bx, hev⟩ := ev_iface b
        have HEVB := hd hev
        rw [hev]
        clear hr hev
        go_wp2_with fail
        go_ret
        exact OutR.ok (a := Px.E.bin ok e b) (grownBy_trans HG5.out hg) HRR.out (by show _ = ev _; unfold ev; rw [HEV.out, HEVB.out]; rfl) hx
theorem lvR_up3 {sz : Nat} {q : List Lx.Tok} {r : Px.Res Px.E} (hs : Px.sees Px.kNOT q = false) (h : lvR sz 4 q r) : lvR sz 3 q r := ⟨Px.Ex.up3 hs h.1, h.2⟩
theorem lvR_not {sz : Nat} {q : List Lx.Tok} {r : Px.Res Px.E} (hs : Px.sees Px.kNOT q = true) (h : lvR sz 3 q.tail r) : lvR sz 3 q (Px.mapR (Px.E.un 20) r) := by
 match r, h with
 | .error (p, c), h => exact lvR_err (Px.Ex.not hs h.1 rfl)
 | .ok (e, p), h => exact lvR_ok (by omega) (Px.Ex.not hs h.1 rfl) ⟨by omega, by omega, by omega, (h.2 _ _ rfl).1⟩
theorem c_not_step (B : Nat) (lv : Value) (ts : List Lx.Tok) (sz : Nat) (dp : Bool) (w : World) (q : List Lx.Tok) (h : Cx w B lv ts sz q dp) (ih : LvOk B lv ts sz dp 4 q.length)
   (rec : ∀ (w : World) (q' : List Lx.Tok), q'.length < q.length → Cx w B lv ts sz q' dp → Calls Tryz.prog 250 #[.pointer (some ⟨B, 0, none⟩)] w (OutR w B lv ts sz dp (lvR sz 3) q' exV noDeep)) :
   Calls Tryz.prog 250 #[.pointer (some ⟨B, 0, none⟩)] w (OutR w B lv ts sz dp (lvR sz 3) q exV noDeep) := by
 have HX := hd h
 have HI := hd ih
 have HR := hd rec
 clear h ih rec
 cases hs : Px.sees Px.kNOT q with
 | true =>
  have hlen := Px.sees_len hs
  go_enter Tryz.func250, Tryz.ntmps250
  go_wp2_with fail
  refine (c_accept_yes ⟨#[78, 79, 84]⟩ w B lv ts sz q dp HX.out hs (by simp)).mono ?_
  rintro x w2 ⟨rfl, hx, hg⟩
  have HX2 := hd hx
  have HG2 := hd hg
  clear hx hg
  go_wp2_with fail
  refine (HR.out w2 q.tail (by omega) HX2.out).mono ?_
  rintro x w3 ho
  obtain ⟨hg, ⟨p, c, hr, rfl⟩ | ⟨e, q', v, hr, rfl, hv, hx⟩⟩ := ho.cases
  · exact ⟨rfl, OutR.err (grownBy_trans HG2.out hg) (lvR_not hs hr)⟩
  · cases hv
    have HRR := hd (lvR_not hs hr)
    obtain ⟨et, ex, hev⟩ := ev_iface e
    have HEV := hd hev
    rw [hev]
    clear hr hev
    go_wp2_with fail
    go_ret
    exact OutR.ok (a := Px.E.un 20 e) (grownBy_trans HG2.out hg) HRR.out (by show _ = ev _; unfold ev; rw [HEV.out]; rfl) hx
 | false =>
  go_enter Tryz.func250, Tryz.ntmps250
  go_wp2_with fail
  refine (c_accept_no ⟨#[78, 79, 84]⟩ w B lv ts sz q dp HX.out hs (by simp)).mono ?_
  rintro x w2 ⟨rfl, hb⟩
  have HX2 := hd (HX.out.below hb)
  have HG2 := hd (Below.grownBy (row := some B) hb)
  clear hb
  go_wp2_with fail
  refine (HI.out w2 q (Nat.le_refl _) HX2.out).mono ?_
  rintro x w3 ho
  obtain ⟨hg, ⟨p, c, hr, rfl⟩ | ⟨e, q', v, hr, rfl, hv, hx⟩⟩ := ho.cases
  · exact ⟨rfl, OutR.err (grownBy_trans HG2.out hg) (lvR_up3 hs hr)⟩
  · cases hv
    have HRR := hd (lvR_up3 hs hr)
    obtain ⟨et, ex, hev⟩ := ev_iface e
    have HEV := hd hev
    rw [hev]
    clear hr hev
    go_wp2_with fail
    go_ret
    exact OutR.ok (a := e) (grownBy_trans HG2.out hg) HRR.out (by show _ = ev _; rw [HEV.out]; rfl) hx
theorem c_not_any (B : Nat) (lv : Value) (ts : List Lx.Tok) (sz : Nat) (dp : Bool) : ∀ (n : Nat), LvOk B lv ts sz dp 4 n → ∀ (w : World) (q : List Lx.Tok), q.length ≤ n → Cx w B lv ts sz q dp →
   Calls Tryz.prog 250 #[.pointer (some ⟨B, 0, none⟩)] w (OutR w B lv ts sz dp (lvR sz 3) q exV noDeep) := by
 intro n ih
 have key : ∀ (k : Nat) (w : World) (q : List Lx.Tok), q.length ≤ k → q.length ≤ n → Cx w B lv ts sz q dp → Calls Tryz.prog 250 #[.pointer (some ⟨B, 0, none⟩)] w (OutR w B lv ts sz dp (lvR sz 3) q exV noDeep) := by
  intro k
  induction k with
  | zero => intro w q hq hn h; exact c_not_step B lv ts sz dp w q h (fun w' q' hq' h' => ih w' q' (by omega) h') (fun w' q' hq' _ => by omega)
  | succ k ihk => intro w q hq hn h; exact c_not_step B lv ts sz dp w q h (fun w' q' hq' h' => ih w' q' (by omega) h') (fun w' q' hq' h' => ihk w' q' (by omega) (by omega) h')
 intro w q hq h
 exact key q.length w q (Nat.le_refl _) hq h
theorem level3 (B : Nat) (lv : Value) (ts : List Lx.Tok) (sz : Nat) (dp : Bool) (n : Nat) (ih : LvOk B lv ts sz dp 4 n) : LvOk B lv ts sz dp 3 n := by
 intro w q hq h
 have HC := hd (c_not_any B lv ts sz dp n ih w q hq h)
 clear h ih hq
 go_enter Tryz.func197, Tryz.ntmps197
 go_wp2_with fail
 refine HC.out.mono ?_
 rintro x w3 ho
 obtain ⟨hg, ⟨p, c, hr, rfl⟩ | ⟨e, q', v, hr, rfl, hv, hx⟩⟩ := ho.cases
 · exact ⟨rfl, OutR.err hg hr⟩
 · cases hv
   have HRR := hd hr
   obtain ⟨et, ex, hev⟩ := ev_iface e
   have HEV := hd hev
   rw [hev]
   clear hr hev
   go_wp2_with fail
   go_ret
   exact OutR.ok (a := e) hg HRR.out (by show _ = ev _; rw [HEV.out]; rfl) hx
theorem level4 (B : Nat) (lv : Value) (ts : List Lx.Tok) (sz : Nat) (dp : Bool) (n : Nat) (ih : LvOk B lv ts sz dp 5 n) : LvOk B lv ts sz dp 4 n := by
 intro w q hq h
 have HC := hd (c_cmp_any B lv ts sz dp w q h (fun w' q' hq' h' => ih w' q' (by omega) h'))
 clear h ih hq
 go_enter Tryz.func197, Tryz.ntmps197
 go_wp2_with fail
 refine HC.out.mono ?_
 rintro x w3 ho
 obtain ⟨hg, ⟨p, c, hr, rfl⟩ | ⟨e, q', v, hr, rfl, hv, hx⟩⟩ := ho.cases
 · exact ⟨rfl, OutR.err hg hr⟩
 · cases hv
   have HRR := hd hr
   obtain ⟨et, ex, hev⟩ := ev_iface e
   have HEV := hd hev
   rw [hev]
   clear hr hev
   go_wp2_with fail
   go_ret
   exact OutR.ok (a := e) hg HRR.out (by show _ = ev _; rw [HEV.out]; rfl) hx
theorem level8 (B : Nat) (lv : Value) (ts : List Lx.Tok) (sz : Nat) (dp : Bool) (n : Nat) (ih : ∀ k, k < n → LvOk B lv ts sz dp 1 k) : LvOk B lv ts sz dp 8 n := by
 intro w q hq h
 have HC := hd (c_minus_any B lv ts sz dp n ih n w q hq (Nat.le_refl _) h)
 clear h ih hq
 go_enter Tryz.func197, Tryz.ntmps197
 go_wp2_with fail
 refine HC.out.mono ?_
 rintro x w3 ho
 obtain ⟨hg, ⟨p, c, hr, rfl⟩ | ⟨e, q', v, hr, rfl, hv, hx⟩⟩ := ho.cases
 · exact ⟨rfl, OutR.err hg hr⟩
 · cases hv
   have HRR := hd hr
   obtain ⟨et, ex, hev⟩ := ev_iface e
   have HEV := hd hev
   rw [hev]
   clear hr hev
   go_wp2_with fail
   go_ret
   exact OutR.ok (a := e) hg HRR.out (by show _ = ev _; rw [HEV.out]; rfl) hx
def atC (w : World) (B : Nat) : Nat := match w.cell? ⟨B, 1, none⟩ with
 | some (.int _ z) => z.toNat
 | _ => 0
theorem Cx.atC {w : World} {B : Nat} {lv : Value} {ts : List Lx.Tok} {sz : Nat} {q : List Lx.Tok} {dp : Bool} (h : Cx w B lv ts sz q dp) : q.length = ts.length - atC w B := by
 obtain ⟨k, rfl, h⟩ := h
 unfold Go.Proofs.YtaiebhhommgnbaaGreatDoor.atC
 rw [h.cells.2.1]
 simp
structure LeftAt (sz m : Nat) (q : List Lx.Tok) (e : Px.E) (q1 : List Lx.Tok) : Prop where
 ok : e.ok 2000
 len : q1.length < q.length
 goes : ∀ r, Px.Ex sz (m + 10) e.nodes q1 r → Px.Ex sz m [] q r
def LeftM (m : Nat) : Prop := m = 1 ∨ m = 2 ∨ m = 5 ∨ m = 6 ∨ m = 7
theorem left_err {sz m : Nat} {q : List Lx.Tok} {p c : Nat} (hm : LeftM m) (h : lvR sz (m + 1) q (.error (p, c))) : lvR sz m q (.error (p, c)) := by
 unfold LeftM at hm
 exact lvR_err (Px.Ex.left (by omega) (by omega) (by omega) h.1 rfl)
theorem left_first {sz m : Nat} {q q1 : List Lx.Tok} {e : Px.E} (hm : LeftM m) (h : lvR sz (m + 1) q (.ok (e, q1))) : LeftAt sz m q e q1 := by
 unfold LeftM at hm
 have h2 := h.2 _ _ rfl
 have := e.size_pos
 exact ⟨h2.1, by omega, fun r hr => Px.Ex.left (by omega) (by omega) (by omega) h.1 hr⟩
theorem left_end {sz m : Nat} {q q1 : List Lx.Tok} {e : Px.E} (hm : LeftM m) (h : LeftAt sz m q e q1) (ho : Px.oper m q1 = 0) : lvR sz m q (.ok (e, q1)) := by
 unfold LeftM at hm
 exact lvR_ok (by omega) (h.goes _ (Px.Ex.end_ ho)) h.ok
theorem left_fail {sz m : Nat} {q q1 : List Lx.Tok} {e : Px.E} (h : LeftAt sz m q e q1) (ho : Px.oper m q1 ≠ 0) {p c : Nat} (h2 : lvR sz (m + 1) q1.tail (.error (p, c))) : lvR sz m q (.error (p, c)) :=
 lvR_err (h.goes _ (Px.Ex.more ho h2.1 rfl))
theorem left_more {sz m : Nat} {q q1 q2 : List Lx.Tok} {e b : Px.E} (h : LeftAt sz m q e q1) (ho : Px.oper m q1 ≠ 0) (h2 : lvR sz (m + 1) q1.tail (.ok (b, q2))) : LeftAt sz m q (.bin (Px.oper m q1) e b) q2 := by
 have hr := Px.oper_range ho
 have := h2.2 _ _ rfl
 have := Px.tail_le q1
 have := h.len
 exact ⟨⟨hr.1, hr.2, h.ok, (h2.2 _ _ rfl).1⟩, by omega, fun r hr => h.goes _ (Px.Ex.more ho h2.1 hr)⟩
theorem levelLeft (B : Nat) (lv : Value) (ts : List Lx.Tok) (sz : Nat) (dp : Bool) (m n : Nat) (hm : LeftM m) (ih : LvOk B lv ts sz dp (m + 1) n) : LvOk B lv ts sz dp m n := by
 intro w q hq h
 have HX := hd h
 have HI : Hid (∀ (w : World) (q : List Lx.Tok), q.length ≤ n → Cx w B lv ts sz q dp → Calls Tryz.prog 197 #[.pointer (some ⟨B, 0, none⟩), .int .i64 ((m : Int) + 1)] w (OutR w B lv ts sz dp (lvR sz (m + 1)) q exV noDeep)) := fun w q hq hx => by
  have := ih w q hq hx
  rwa [show ((m + 1 : Nat) : Int) = (m : Int) + 1 by omega] at this
 have HM := hd hm
 have e3 : ((m : Int) == 3) = false := by rw [beq_eq_false_iff_ne]; unfold LeftM at hm; omega
 have e4 : ((m : Int) == 4) = false := by rw [beq_eq_false_iff_ne]; unfold LeftM at hm; omega
 have e8 : ((m : Int) == 8) = false := by rw [beq_eq_false_iff_ne]; unfold LeftM at hm; omega
 have hm9 : m ≤ 9 := by unfold LeftM at hm; omega
 clear h ih hm
 go_enter Tryz.func197, Tryz.ntmps197
 go_wp2_with fail
 refine (HI.out w q hq HX.out).mono ?_
 rintro x w1 ho
 obtain ⟨hg, ⟨p, c, hr, rfl⟩ | ⟨e, q1, v, hr, rfl, hv, hx⟩⟩ := ho.cases
 · exact ⟨rfl, OutR.err hg (left_err HM.out hr)⟩
 · cases hv
   have HL := hd (left_first HM.out hr)
   have HX1 : Hid (Cx w1 B lv ts sz q1 dp) := hx
   have HG1 := hd hg
   obtain ⟨et, ex, hev⟩ := ev_iface e
   have HEV := hd hev
   rw [hev]
   clear hr hx hg hev ho
   go_wp2_with fail
   go_loopw [5] (fun v wr => ∃ (e : Px.E) (q1 : List Lx.Tok), Hid (v = ev e) ∧ Hid (Cx wr B lv ts sz q1 dp) ∧ Hid (w.grownBy wr (some B)) ∧ Hid (LeftAt sz m q e q1)) (fun _ wr => ts.length - atC wr B)
   case atStart => exact ⟨e, q1, HEV.out.symm, HX1, HG1, HL⟩
   case round =>
    clear HL HX1 HG1 HEV
    obtain ⟨e, q1, HEV, HX1, HG1, HL⟩ := hrel
    obtain ⟨et, ex, hev⟩ := ev_iface e
    have hv : u5 = .iface et ex := by rw [HEV.out, hev]
    subst hv
    clear hev
    go_wp2_with fail
    refine (c_fixed_any wr B lv ts sz q1 dp HX1.out).mono ?_
    rintro x w3 ⟨rfl, hb3⟩
    have HX3 := hd (HX1.out.below hb3)
    have HG3 := hd (grownBy_trans HG1.out (Below.grownBy (row := some B) hb3))
    clear hb3
    go_wp2_with fail
    refine (y_Operator_any ⟨(fixT (pk sz q1)).toArray⟩ m w3 HX3.out.env hm9).mono ?_
    rintro x w4 ⟨rfl, hb4⟩
    have HX4 := hd (HX3.out.below hb4)
    have HG4 := hd (grownBy_trans HG3.out (Below.grownBy (row := some B) hb4))
    have hop := oper_fix m sz q1
    simp only [hop]
    clear hb4 hop
    by_cases h0 : Px.oper m q1 = 0
    · have HF := hd (left_end HM.out HL.out h0)
      rw [h0]
      go_wp2_with fail
      go_ret
      exact OutR.ok (a := e) HG4.out HF.out (by show _ = ev _; rw [← HEV.out]; rfl) HX4.out
    · have hdec : decide (Px.oper m q1 ≠ 0) = true := decide_eq_true h0
      have hq1 : q1 ≠ [] := by rintro rfl; exact h0 rfl
      obtain ⟨k, hk2, hblk⟩ := HX4.out.blk
      have c1 : w4.cell? ⟨B, 1, none⟩ = some (.int .i64 (k : Int)) := hblk.cell 1
      have f1 := hblk.free 1
      have HX5 : Hid (Cx (w4.setCell ⟨B, 1, none⟩ (.int .i64 ((k : Int) + 1))) B lv ts sz q1.tail dp) := HX4.out.step (grownBy_set w4 B 1 _) hq1 k c1 (hblk.set 1 _)
      have HG5 := hd (grownBy_trans HG4.out (grownBy_set w4 B 1 (.int .i64 ((k : Int) + 1))))
      have htl : q1.tail.length ≤ n := by have := Px.tail_le q1; have := HL.out.len; omega
      have htl2 : q1.tail.length + 1 = q1.length := by cases q1 with
       | nil => exact absurd rfl hq1
       | cons t r => simp
      rw [hdec]
      have HF1 := hd (fun p c (hr : lvR sz (m + 1) q1.tail (.error (p, c))) => left_fail HL.out h0 hr)
      have HF2 := hd (fun b q2 (hr : lvR sz (m + 1) q1.tail (.ok (b, q2))) => left_more HL.out h0 hr)
      generalize Px.oper m q1 = ok at *
      clear hblk hdec h0
      go_wp2_with fail
      refine (HI.out _ q1.tail htl HX5.out).mono ?_
      rintro x w6 ho
      obtain ⟨hg, ⟨p, c, hr, rfl⟩ | ⟨b, q', v, hr, rfl, hv, hx⟩⟩ := ho.cases
      · exact ⟨rfl, OutR.err (grownBy_trans HG5.out hg) (HF1.out _ _ hr)⟩
      · cases hv
        have HRR := hd (HF2.out _ _ hr)
        have hlen2 := (hr.2 _ _ rfl).2
        obtain ⟨bt, bx, hev⟩ := ev_iface b
        have HEVB := hd hev
        have HX6 : Hid (Cx w6 B lv ts sz q' dp) := hx
        have HG6 := hd (grownBy_trans HG5.out hg)
        have hl1 := HX1.out.atC
        have hl6 := HX6.out.atC
        rw [hev]
        clear hr hev hx hg ho
        go_wp2_with fail
        go_roundw
        case rel => exact ⟨.bin ok e b, q', (by show _ = ev _; unfold ev; rw [← HEV.out, HEVB.out]), HX6, HG6, HRR⟩
        case measure => have := b.size_pos; omega
theorem level_all (B : Nat) (lv : Value) (ts : List Lx.Tok) (sz : Nat) (dp : Bool) : ∀ n, LvOk B lv ts sz dp 1 n := by
 have key : ∀ n, ∀ k, k ≤ n → LvOk B lv ts sz dp 1 k := by
  intro n
  induction n with
  | zero =>
   intro k hk
   have h8 := level8 B lv ts sz dp k (fun j hj => by omega)
   have h7 := levelLeft B lv ts sz dp 7 k (by unfold LeftM; omega) h8
   have h6 := levelLeft B lv ts sz dp 6 k (by unfold LeftM; omega) h7
   have h5 := levelLeft B lv ts sz dp 5 k (by unfold LeftM; omega) h6
   have h3 := level3 B lv ts sz dp k (level4 B lv ts sz dp k h5)
   have h2 := levelLeft B lv ts sz dp 2 k (by unfold LeftM; omega) h3
   exact levelLeft B lv ts sz dp 1 k (by unfold LeftM; omega) h2
  | succ n ih =>
   intro k hk
   have h8 := level8 B lv ts sz dp k (fun j hj => ih j (by omega))
   have h7 := levelLeft B lv ts sz dp 7 k (by unfold LeftM; omega) h8
   have h6 := levelLeft B lv ts sz dp 6 k (by unfold LeftM; omega) h7
   have h5 := levelLeft B lv ts sz dp 5 k (by unfold LeftM; omega) h6
   have h3 := level3 B lv ts sz dp k (level4 B lv ts sz dp k h5)
   have h2 := levelLeft B lv ts sz dp 2 k (by unfold LeftM; omega) h3
   exact levelLeft B lv ts sz dp 1 k (by unfold LeftM; omega) h2
 intro n
 exact key n n (Nat.le_refl _)
end Go.Proofs.YtaiebhhommgnbaaGreatDoor
