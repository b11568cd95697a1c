/- Parts of the proof: RpY RpZ RqA RqB -/
import Derived.Test.YtcdgihdhpaipaaaGreatDoorX4
namespace Go.Proofs.YtcdgihdhpaipaaaGreatDoor
open Go.RowKit
set_option linter.unusedSimpArgs false
set_option linter.unusedVariables false

/-- Where a list of nodes that are the call's own, and their number, stands. -/
def ListO (item : Nat → List Px.Nd × Nat → List Lx.Tok → Px.Out (List Px.Nd × Nat)) (x0 : List Px.Nd × Nat) (st0 : Except (Nat × Nat) (List Lx.Tok)) (c d s : Nat) (w : World) (B : Nat) (lv : Value) (ts : List Lx.Tok) (sz : Nat) (v n m : Value) (wr : World) : Prop :=
  ∃ st l k more, n = .int .i64 (k : Nat) ∧ m = .bool more ∧ k ≤ c + 10 ∧ l.length ≤ d + s ∧ wr.ownsRow w.heap.size 46 4 v l.length (ndsV l) ∧ PX wr B lv ts sz st (ts.length + 3) ∧ w.grownBy wr (some B) ∧
    SepAt item x0 st0 (l, k) st more ∧ ∀ q, st = .ok q → k + q.length + more.toNat ≤ c + 1 ∧ l.length + 10 * q.length + 10 * more.toNat ≤ d + 10

theorem nd_slice {w : World} {b : Nat} {v : Value} {l : List Px.Nd} (h : w.ownsRow b 46 4 v l.length (ndsV l)) : ∃ ao cap, v = .slice ao l.length cap := by
  obtain ⟨ao, cap, e, _⟩ := (NdIs.of_own h).slice
  exact ⟨ao, cap, e⟩

theorem orders_run {sz : Nat} {x : List Px.Nd × Nat} {q : List Lx.Tok} {r : Px.Res (List Px.Nd × Nat)} (hs : Px.sees Px.kORDER q = true) (h : RunX (fun n => Px.sep (Px.order sz) n x) (mustX sz Px.kBY (.ok q.tail)) r) : RunX (fun n => Px.orders sz n x) (.ok q) r := by
  have hm := must_eq sz Px.kBY q.tail
  rw [← mustR_st] at h
  generalize mustR sz Px.kBY (.ok q.tail) = r1 at *
  match r1, hm, h with
  | .error e, hm, h =>
    have e1 : r = .error e := h
    subst e1
    exact ⟨0, by show Px.orders sz 0 x q = _; simp only [Px.orders, if_pos hs, hm, Px.obind]⟩
  | .ok ((), q1), hm, ⟨n, hn⟩ => exact ⟨n, by show Px.orders sz n x q = _; simp only [Px.orders, if_pos hs, hm, Px.obind]; exact hn⟩
theorem orders_none {sz : Nat} {x : List Px.Nd × Nat} {q : List Lx.Tok} (hs : Px.sees Px.kORDER q = false) : RunX (fun n => Px.orders sz n x) (.ok q) (.ok (x, q)) :=
  ⟨0, by show Px.orders sz 0 x q = _; unfold Px.orders; rw [if_neg (by simp [hs])]⟩
theorem limits_none {sz : Nat} {x : List Px.Nd × Nat} {q : List Lx.Tok} (hs : Px.sees Px.kLIMIT q = false) : Px.limits sz x q = some (.ok (x, q)) := by
  unfold Px.limits; rw [if_neg (by simp [hs])]
theorem limits_some {sz : Nat} {x : List Px.Nd × Nat} {q : List Lx.Tok} {r : Px.Res Nat} (hs : Px.sees Px.kLIMIT q = true) (h : Px.limit sz q.tail = some r) : Px.limits sz x q = some (endR (fun m => (x.1 ++ [⟨13, [], (m : Int), 0⟩], x.2 + 1)) r) := by
  unfold Px.limits
  rw [if_pos hs, h]
  match r with
  | .ok (a, q') => rfl
  | .error e => rfl
theorem asc_short {st : Except (Nat × Nat) (List Lx.Tok)} {q : List Lx.Tok} (h : ascX st = .ok q) : ∃ q', st = .ok q' ∧ q.length ≤ q'.length := by
  unfold ascX at h
  split at h
  · exact take_le h
  · exact take_le h

/-- One node behind a list of the call's own: what is left. -/
theorem grow_all {w w9 w10 : World} {B : Nat} {lv : Value} {ts : List Lx.Tok} {sz : Nat} {st : Except (Nat × Nat) (List Lx.Tok)} {b : Nat} {v : Value} {n : Nat} {xs : List Value} (hlv : ∀ g, lv.ownBlock = some g → g < w.heap.size) (hB : B < w.heap.size)
    (h9 : PX w9 B lv ts sz st b) (hg : w.grownBy w9 (some B)) (ho : w9.ownsRow w.heap.size 46 4 v n xs) (hgrow : w9.grownBy w10 v.ownBlock) : PX w10 B lv ts sz st b ∧ w.grownBy w10 (some B) := by
  have hrow : ∀ g, v.ownBlock = some g → w.heap.size ≤ g := fun g hg => by
    rcases own_block_ge ho with h1 | ⟨g', h1, h2⟩
    · rw [h1] at hg; cases hg
    · rw [h1] at hg; cases hg; exact h2
  refine ⟨h9.grow hgrow (by intro e; have := hrow B e.symm; omega) ?_, grown_own hg hgrow hrow⟩
  cases hv : lv.ownBlock with
  | none => exact .inl rfl
  | some g =>
    right
    intro e
    have := hrow g e.symm
    have := hlv g hv
    omega

theorem PX.errb {w : World} {B : Nat} {lv : Value} {ts : List Lx.Tok} {sz : Nat} {e : Nat × Nat} {b b' : Nat} (h : PX w B lv ts sz (.error e) b) (hb : b ≤ b') : PX w B lv ts sz (.error e) b' := h.mono hb

set_option maxRecDepth 100000 in
set_option maxHeartbeats 16000000 in
theorem choose_any (w : World) (B : Nat) (lv : Value) (ts : List Lx.Tok) (sz : Nat) (q : List Lx.Tok) (h : PX w B lv ts sz (.ok q) ts.length) :
    Calls Tryz.prog 40 #[.pointer (some ⟨B, 0, none⟩)] w (StPost (Px.choose sz) w B lv ts sz (.ok q)) := by
  obtain ⟨i0, hi, hz0', hz1', hz2'⟩ := info_parts Tryz.info46
  have HLV := hd h.lvlt
  have hB := h.lt
  have hts : ts.length ≤ 2000 := by
    obtain ⟨k, _, _, hp⟩ := h
    exact hp.len
  have HI : Hid (ListO (Px.pick sz) ([], 0) (.ok q) 2000 20000 2010 w B lv ts sz (.slice none 0 0) (.int .i64 0) (.bool true) w) := by
    refine ⟨.ok q, [], 0, true, rfl, rfl, by omega, by simp, World.ownsRow_nil _ _ _ _, h.okb _, ⟨rfl, rfl, rfl, Nat.le_refl _, fun _ _ _ => rfl⟩, SepAt.start, ?_⟩
    intro q1 e
    cases e
    have := h.short
    simp
    omega
  clear h
  go_enter Tryz.func40, Tryz.ntmps40
  go_wp2_with fail
  go_loopw [3, 4, 5] (fun v n m wr => Hid (ListO (Px.pick sz) ([], 0) (.ok q) 2000 20000 2010 w B lv ts sz v n m wr)) (fun _ _ m wr => moreM B m wr)
  case atStart => exact HI
  case round =>
    obtain ⟨st, l, k, more, rfl, rfl, hk, hln, hl, hx, hg, hsep, hbd⟩ := hrel.out
    have HSP := hd hsep
    have HBD := hd hbd
    have HO := hd hl
    clear hsep hbd HI hrel
    have hzr := hg.size
    obtain ⟨ao, cap, rfl⟩ := nd_slice hl
    clear hl
    by_cases hgo : more = true ∧ ∃ q1, st = .ok q1
    · obtain ⟨rfl, q1, rfl⟩ := hgo
      have hc3 := hx.okcell
      obtain ⟨hb1, hb2⟩ := HBD.out q1 rfl
      rw [Bool.toNat_true] at hb1 hb2
      go_wp2_with fail
      refine (takes_any ⟨#[42]⟩ wr B lv ts sz (.ok q1) _ (hx.okb ts.length)).mono ?_
      rintro x w3 ⟨rfl, h3, hg3⟩
      have G3 := grown_trans hg hg3
      have HO3 := hd (own_grown HO.out hg3 hB)
      have hz3 := G3.size
      cases hs : seesX (ByteArray.mk #[42]).data.toList (.ok q1) with
      | true =>
        have hs' : Px.sees Px.gStar q1 = true := hs
        have e3 : takeX (ByteArray.mk #[42]).data.toList (.ok q1) = .ok q1.tail := if_pos hs'
        rw [e3] at h3
        have hsl := Px.sees_len hs'
        have HS := hd hs'
        clear hs hs' e3
        go_wp2_with (first
          | (at_builtin; refine wpList_append_own _ rfl _ _ 33 rfl w.heap.size 46 i0 (.agg #[.int .i64 0, .string ⟨#[]⟩, .int .i64 0, .int .i64 0]) 4 40 Tryz.underlying33 hi hz0' hz1' hz2' rfl (by decide) _ _ _ rfl (HO3.out.alloc _) ⟨w3.heap.size, 0, none⟩ 1 1 [.int .i64 10, .string ⟨#[]⟩, .int .i64 0, .int .i64 0] rfl rfl ?c1 ?c2 ?c3 ?c4 ?c5 ?_)
          | fail)
        case c1 => exact four_news w3 _ _ _ _ _ _ rfl
        case c2 => intro u hu; simp at hu; rcases hu with rfl | rfl | rfl | rfl <;> rfl
        case c3 => unfold maxLen; omega
        case c4 => omega
        case c5 => simp; omega
        intro v7 w7 hown' hgrow _
        obtain ⟨h7, G7⟩ := grow_all HLV.out hB (h3.below (by go_grown)) (grown_trans G3 (Below.grownBy (by go_grown))) (HO3.out.alloc _) hgrow
        have HO7 : Hid (w7.ownsRow w.heap.size 46 4 v7 (l ++ [(⟨10, [], 0, 0⟩ : Px.Nd)]).length (ndsV (l ++ [(⟨10, [], 0, 0⟩ : Px.Nd)]))) := by
          show World.ownsRow _ _ _ _ _ _ _
          rw [ndsV_append, ndsV_one, List.length_append]
          exact hown'
        have hr := pick_star sz (l, k) q1 HS.out
        obtain ⟨L7, hL7⟩ : ∃ L7, L7 = l ++ [(⟨10, [], 0, 0⟩ : Px.Nd)] := ⟨_, rfl⟩
        have hlen7 : L7.length ≤ l.length + 1 := by rw [hL7]; simp
        have hle7 : L7.length + q1.tail.length ≤ l.length + q1.length := by rw [hL7]; simp only [List.length_append, List.length_cons, List.length_nil]; omega
        rw [← hL7] at HO7 hr
        obtain ⟨r, hrr⟩ : ∃ r : Px.Res (List Px.Nd × Nat), r = .ok ((L7, k + 1), q1.tail) := ⟨_, rfl⟩
        have HR : Hid (RunX (fun n => Px.pick sz n (l, k)) (.ok q1) r) := by rw [hrr]; exact hr
        have HVAL : Hid (∀ y q', r = .ok (y, q') → y = (L7, k + 1)) := by
          rw [hrr]; intro y q' e; cases e; rfl
        have hst6 : stOf r = .ok q1.tail := by rw [hrr]; rfl
        have hshort : ∀ q', stOf r = .ok q' → L7.length + q'.length ≤ l.length + q1.length ∧ q'.length ≤ q1.length := by
          intro q' e; rw [hst6] at e; cases e; exact ⟨hle7, by simp⟩
        have HSH := hd hshort
        rw [← hst6] at h7
        clear hL7 hr hrr hst6 hown' hgrow HO3 h3 hg3 hshort
        obtain ⟨ao7, cap7, rfl⟩ := nd_slice HO7.out
        go_wp2_with fail
        refine (takes_any ⟨#[44]⟩ w7 B lv ts sz _ _ h7).mono ?_
        rintro x w8 ⟨rfl, h8, hg8⟩
        have G8 := grown_trans G7 hg8
        have HO8 := hd (own_grown HO7.out hg8 hB)
        have HL8 : Hid (ListO (Px.pick sz) ([], 0) (.ok q) 2000 20000 2010 w B lv ts sz (.slice ao7 L7.length cap7) (.int .i64 ((k : Int) + 1)) (.bool (seesX Px.gComma (stOf r))) w8) := by
          refine ⟨takeX Px.gComma (stOf r), L7, k + 1, _, by simp, rfl, by omega, by omega, HO8.out, h8.mono (by omega), G8, SepAt.next (Px.pick_grows sz) HSP.out HR.out _ HVAL.out, ?_⟩
          intro q' e1
          obtain ⟨q5, e5, e6⟩ := comma_both e1
          have := HSH.out q5 e5
          omega
        have HM8 : Hid (moreM B (.bool (seesX Px.gComma (stOf r))) w8 < moreM B (.bool true) wr) := by
          refine moreM_lt hx h8 (fun q' e1 e2 => ?_)
          obtain ⟨q5, e5, e6⟩ := comma_len e1 e2
          have := HSH.out q5 e5
          omega
        go_wp2_with fail
        go_roundw
        case rel => exact HL8
        case measure => exact HM8.out
      | false =>
        have hs' : Px.sees Px.gStar q1 = false := hs
        rw [take_same hs] at h3
        have HS := hd hs'
        clear hs hs'
        go_wp2_with fail
        refine (expr_any w3 B lv ts sz 1 (.ok q1) ts.length (Nat.le_refl _) (by omega) (by omega) (h3.okb _)).mono ?_
        rintro x w6 ⟨r6, v6, l6, rfl, hr6, hv6, hok6, hln6, hnum6, h6, hg6⟩
        have HR6 := hd hr6
        have HOK6 := hd hok6
        clear hr6 hok6 hnum6
        have G6 := grown_trans G3 hg6
        have hz6 := G6.size
        have hl6 := NdIs.of_own (own_grown HO3.out hg6 hB)
        obtain ⟨ao6, cap6, rfl, _⟩ := hv6.slice
        go_wp2_with fail
        refine (cat_any w6 w.heap.size _ _ _ l l6 hl6 hv6 (by omega)).mono ?_
        rintro x w7 ⟨v7, rfl, ho7, hb7⟩
        have h7 := h6.below hb7
        have G7 := grown_trans G6 (Below.grownBy hb7)
        have hr := pick_item sz (l, k) q1 HS.out (item_run sz (l, k) q1 r6 HR6.out)
        have HSH : Hid (∀ q', stOf (endR (fun e => (l ++ e, k + 1)) r6) = .ok q' → (l ++ l6).length + q'.length ≤ l.length + q1.length ∧ q'.length ≤ q1.length) := by
          intro q' e
          rw [endR_st] at e
          have := ex_short (q1 := q1) HR6.out (fun q e => by cases e; exact Nat.le_refl _) HOK6.out e
          simp only [List.length_append]
          omega
        have HVAL : Hid (∀ y q', endR (fun e => (l ++ e, k + 1)) r6 = .ok (y, q') → y = (l ++ l6, k + 1)) := by
          intro y q' e
          match r6, HOK6, e with
          | .ok (e6, q6), HOK6, e =>
            have := HOK6.out e6 q6 rfl
            subst this
            cases e
            rfl
        have h7' : PX w7 B lv ts sz (stOf (endR (fun e => (l ++ e, k + 1)) r6)) ts.length := by rw [endR_st]; exact h7
        have HO7 : Hid (w7.ownsRow w.heap.size 46 4 v7 (l ++ l6).length (ndsV (l ++ l6))) := own_lower ho7 (by omega)
        have hlen7 : (l ++ l6).length ≤ l.length + 2000 := by simp only [List.length_append]; omega
        obtain ⟨L7, hL7⟩ : ∃ L7, L7 = l ++ l6 := ⟨_, rfl⟩
        obtain ⟨r, hrr⟩ : ∃ r : Px.Res (List Px.Nd × Nat), r = endR (fun e => (l ++ e, k + 1)) r6 := ⟨_, rfl⟩
        have HR : Hid (RunX (fun n => Px.pick sz n (l, k)) (.ok q1) r) := by rw [hrr]; exact hr
        rw [← hrr] at HSH HVAL h7'
        rw [← hL7] at HSH HVAL HO7 hlen7
        clear h7 hr hrr hL7 ho7 hb7 HR6 HOK6 h6 hl6 HO3
        have h7 := h7'
        clear h7'
        obtain ⟨ao7, cap7, rfl⟩ := nd_slice HO7.out
        go_wp2_with fail
        refine (takes_any ⟨#[44]⟩ w7 B lv ts sz _ _ h7).mono ?_
        rintro x w8 ⟨rfl, h8, hg8⟩
        have G8 := grown_trans G7 hg8
        have HO8 := hd (own_grown HO7.out hg8 hB)
        have HL8 : Hid (ListO (Px.pick sz) ([], 0) (.ok q) 2000 20000 2010 w B lv ts sz (.slice ao7 L7.length cap7) (.int .i64 ((k : Int) + 1)) (.bool (seesX Px.gComma (stOf r))) w8) := by
          refine ⟨takeX Px.gComma (stOf r), L7, k + 1, _, by simp, rfl, by omega, by omega, HO8.out, h8.mono (by omega), G8, SepAt.next (Px.pick_grows sz) HSP.out HR.out _ HVAL.out, ?_⟩
          intro q' e1
          obtain ⟨q5, e5, e6⟩ := comma_both e1
          have := HSH.out q5 e5
          omega
        have HM8 : Hid (moreM B (.bool (seesX Px.gComma (stOf r))) w8 < moreM B (.bool true) wr) := by
          refine moreM_lt hx h8 (fun q' e1 e2 => ?_)
          obtain ⟨q5, e5, e6⟩ := comma_len e1 e2
          have := HSH.out q5 e5
          omega
        go_wp2_with fail
        go_roundw
        case rel => exact HL8
        case measure => exact HM8.out
    · have hexit : more = false ∨ ∃ e, st = .error e := by
        cases more with
        | false => exact .inl rfl
        | true =>
          match st, hgo with
          | .ok q1, hgo => exact absurd ⟨rfl, q1, rfl⟩ hgo
          | .error e, _ => exact .inr ⟨e, rfl⟩
      obtain ⟨r1, hr1, hst1, hval1⟩ := HSP.out.exit hexit
      have HR1 := hd hr1
      have HV1 := hd hval1
      have HS1 := hd hst1
      have hcell : more = false ∨ more = true ∧ ∃ c : Int, (c == 0) = false ∧ wr.cell? ⟨B, 3, none⟩ = some (.int .i64 c) := by
        cases more with
        | false => exact .inl rfl
        | true =>
          rcases hexit with h | ⟨e, rfl⟩
          · cases h
          · exact .inr ⟨rfl, hx.errcell⟩
      clear hgo hexit hr1 hval1 hst1 HSP HBD
      rcases hcell with rfl | ⟨rfl, c, hc0, hc3⟩
      all_goals
        go_wp2_with fail
        refine (must_any ⟨#[70, 82, 79, 77]⟩ wr.heap.size _ B lv ts sz st (ts.length + 3) (hx.below (by go_grown)) (by omega) ((Blk.new wr _ _).cell 0)).mono ?_
        rintro x w2 ⟨rfl, h2, hg2⟩
        have G2' : wr.grownBy w2 (some B) := grown_trans (Below.grownBy (by go_grown)) hg2
        have G2 : w.grownBy w2 (some B) := grown_trans hg G2'
        go_wp2_with fail
        refine (name_any w2 B lv ts sz _ (ts.length + 3) h2 (by omega) (by omega)).mono ?_
        rintro x w3 ⟨tb, rfl, htb, hname, h3, hg3⟩
        have HNM := hd hname
        clear hname
        have G3 := grown_trans G2 hg3
        go_wp2_with fail
        refine (where_any w3 B lv ts sz _ (ts.length + 4) (by omega) h3).mono ?_
        rintro x w4 ⟨r4, v4, l4, k4, rfl, hr4, hv4, hok4, hk4, hln4, hnum4, h4, hg4⟩
        have HR4 := hd hr4
        have HOK4 := hd hok4
        clear hr4 hok4 hnum4
        have G4 := grown_trans G3 hg4
        have hz4 := G4.size
        have hl4 := NdIs.of_own (own_grown HO.out (grown_trans G2' (grown_trans hg3 hg4)) hB)
        obtain ⟨ao4, cap4, rfl, _⟩ := hv4.slice
        go_wp2_with fail
        refine (cat_any w4 w.heap.size _ _ _ l l4 hl4 hv4 (by omega)).mono ?_
        rintro x w5 ⟨v5, rfl, ho5, hb5⟩
        have h5 := h4.below hb5
        have G5 := grown_trans G4 (Below.grownBy hb5)
        have HO5 : Hid (w5.ownsRow w.heap.size 46 4 v5 (l ++ l4).length (ndsV (l ++ l4))) := own_lower ho5 (by omega)
        obtain ⟨L5, hL5⟩ : ∃ L5, L5 = l ++ l4 := ⟨_, rfl⟩
        have hlen5 : L5.length ≤ 24100 := by rw [hL5]; simp only [List.length_append]; omega
        rw [← hL5] at HO5
        obtain ⟨ao5, cap5, rfl⟩ := nd_slice HO5.out
        clear hg2 G2 G2' h2 G3 hg3 h3 hl4 G4 hg4 h4 ho5 hb5 hv4
        have hN5 : wrap64 ((k : Int) + k4) = ((k + k4.toNat : Nat) : Int) := by
          rw [IntWalk.wrap64_in _ ⟨by omega, by omega⟩]
          omega
        obtain ⟨N5, hNe⟩ : ∃ N5, N5 = k + k4.toNat := ⟨_, rfl⟩
        have hN5b : N5 ≤ 2020 := by omega
        rw [← hNe] at hN5
        have HN5 := hd hN5
        have HVX : Hid (∀ x y q1 q2, r1 = .ok (x, q1) → r4 = .ok (y, q2) → (x.1 ++ y.1, x.2 + y.2) = (L5, N5)) := by
          intro x y q1 q2 e1 e2
          have f1 := HV1.out x q1 e1
          have f2 := HOK4.out y.1 y.2 q2 e2
          rw [f1, ← f2.1, hL5, hNe, f2.2]
          simp
        clear hNe hN5 hL5 hk4
        go_wp2_with fail
        refine (takes_any ⟨#[79, 82, 68, 69, 82]⟩ w5 B lv ts sz _ _ h5).mono ?_
        rintro x w6 ⟨rfl, h6, hg6⟩
        have G6 := grown_trans G5 hg6
        have HO6 := hd (own_grown HO5.out hg6 hB)
        clear G5 h5 HO5 hg6
        cases hs : seesX (ByteArray.mk #[79, 82, 68, 69, 82]).data.toList (stOf r4) with
        | false =>
          rw [take_same hs] at h6
          obtain ⟨st6, hst6⟩ : ∃ st6, st6 = stOf r4 := ⟨_, rfl⟩
          obtain ⟨r5, hr5⟩ : ∃ r5 : Px.Res (List Px.Nd × Nat), r5 = endR (fun _ => (L5, N5)) r4 := ⟨_, rfl⟩
          have HR5 : Hid (∀ x y q1 q2, r1 = .ok (x, q1) → r4 = .ok (y, q2) → RunX (fun n => Px.orders sz n (x.1 ++ y.1, x.2 + y.2)) (.ok q2) r5) := by
            intro x y q1 q2 e1 e2
            rw [HVX.out x y q1 q2 e1 e2, hr5, e2]
            refine orders_none ?_
            rw [e2] at hs
            exact hs
          have HE5 : Hid (∀ e, stOf r4 = .error e → r5 = .error e) := by
            intro e he
            match r4, he, hr5 with
            | .error e', he, hr5 => cases he; exact hr5
          have HS5 : Hid (stOf r5 = st6) := by show stOf r5 = st6; rw [hr5, endR_st, hst6]
          have HV5 : Hid (∀ z q', r5 = .ok (z, q') → z = (L5, N5)) := by
            intro z q' e
            match r4, hr5 with
            | .ok (y, q2), hr5 => rw [hr5] at e; cases e; rfl
            | .error e', hr5 => rw [hr5] at e; cases e
          rw [← hst6] at h6
          clear hs hst6 hr5
          rw [HN5.out]
          go_wp2_with fail
          refine wp_loop_rounds 1 ?_
          rw [rounds_succ]
          go_wp2_with fail
          refine (takes_any ⟨#[76, 73, 77, 73, 84]⟩ w6 B lv ts sz st6 _ h6).mono ?_
          rintro x w8 ⟨rfl, h8, hg8⟩
          have G8 := grown_trans G6 hg8
          have HO8 := hd (own_grown HO6.out hg8 hB)
          have hz8 := G8.size
          cases hs : seesX (ByteArray.mk #[76, 73, 77, 73, 84]).data.toList st6 with
          | false =>
            rw [take_same hs] at h8
            have HS8 := hd hs
            clear hs
            go_wp2_with fail
            refine (headed_any 9 (N5 : Int) tb w8 _ _ L5 (NdIs.of_own HO8.out) (by omega)).mono ?_
            rintro x w9 ⟨v9, rfl, hv9, hb9⟩
            obtain ⟨ao9, cap9, rfl, _⟩ := hv9.slice
            simp only [List.length_cons] at hv9
            go_wp2
            go_ret
            obtain ⟨r, hr, hrs, hrv⟩ := choose_run sz q r1 HR1.out r4 (by rw [HS1.out]; exact HR4.out) r5 HR5.out HE5.out r5 (fun z q' e => by
              have h1 := HS5.out
              rw [e] at h1
              have h2 := HS8.out
              rw [← h1] at h2
              rw [e]
              exact limits_none h2) (fun e he => by
              match r5, he with
              | .error e', he => cases he; rfl)
            refine ⟨r, _, ⟨9, tb.data.toList, 0, (N5 : Int)⟩ :: L5, rfl, hr, hv9.lower hz8, ?_, by simp only [List.length_cons]; omega, ?_, grown_trans G8 (Below.grownBy hb9)⟩
            · intro a q' e
              obtain ⟨x, q1, t, q2, y, q3, z, q4, u, e1, e2, e3, e4, e5, e6⟩ := hrv a q' e
              have f1 := HNM.out t q2 (by rw [← HS1.out]; exact e2)
              have f2 := HV5.out u q' e5
              rw [e6, f1, f2]
            · rw [hrs, HS5.out]
              exact (h8.below hb9).mono (by omega)
          | true =>
            obtain ⟨q6, hst6, hs6, e8⟩ := sees_open hs
            rw [e8] at h8
            have HS8 : Hid (Px.sees Px.kLIMIT q6 = true) := hs6
            have HST6 := hd hst6
            clear hs hs6 e8 hst6
            go_wp2_with fail
            refine (limit_any w8 B lv ts sz q6.tail ts.length (h8.okb _) (Nat.le_refl _)).mono ?_
            rintro x w9 ⟨r9, n9, rfl, hr9, hok9, hn9, h9, hg9⟩
            have HR9 := hd hr9
            have HOK9 := hd hok9
            have G9 := grown_trans G8 hg9
            have HO9 := hd (own_grown HO8.out hg9 hB)
            have hz9 := G9.size
            clear hr9 hok9 h8 hg8 HO8
            go_wp2_with (first
              | (at_builtin; refine wpList_append_own _ rfl _ _ 33 rfl w.heap.size 46 i0 (.agg #[.int .i64 0, .string ⟨#[]⟩, .int .i64 0, .int .i64 0]) 4 40 Tryz.underlying33 hi hz0' hz1' hz2' rfl (by decide) _ _ _ rfl (HO9.out.alloc _) ⟨w9.heap.size, 0, none⟩ 1 1 [.int .i64 13, .string ⟨#[]⟩, .int .i64 (n9 : Int), .int .i64 0] rfl rfl ?c1 ?c2 ?c3 ?c4 ?c5 ?_)
              | fail)
            case c1 => exact four_news w9 _ _ _ _ _ _ rfl
            case c2 => intro u hu; simp at hu; rcases hu with rfl | rfl | rfl | rfl <;> rfl
            case c3 => unfold maxLen; omega
            case c4 => omega
            case c5 => simp; omega
            intro v10 w10 hown' hgrow _
            obtain ⟨h10, G10⟩ := grow_all HLV.out hB (h9.below (by go_grown)) (grown_trans G9 (Below.grownBy (by go_grown))) (HO9.out.alloc _) hgrow
            obtain ⟨L10, hL10⟩ : ∃ L10, L10 = L5 ++ [(⟨13, [], (n9 : Int), 0⟩ : Px.Nd)] := ⟨_, rfl⟩
            have HO10 : Hid (w10.ownsRow w.heap.size 46 4 v10 L10.length (ndsV L10)) := by
              show World.ownsRow _ _ _ _ _ _ _
              rw [hL10, ndsV_append, ndsV_one, List.length_append]
              exact hown'
            have hlen10 : L10.length ≤ L5.length + 1 := by rw [hL10]; simp
            obtain ⟨ao10, cap10, rfl⟩ := nd_slice HO10.out
            have HL10 := hd hL10
            have hz10 := G10.size
            clear hL10 hown' hgrow HO9 h9 hg9
            go_wp2_with fail
            refine (headed_any 9 ((N5 : Int) + 1) tb w10 _ _ L10 (NdIs.of_own HO10.out) (by omega)).mono ?_
            rintro x w11 ⟨v11, rfl, hv11, hb11⟩
            obtain ⟨ao11, cap11, rfl, _⟩ := hv11.slice
            simp only [List.length_cons] at hv11
            go_wp2
            go_ret
            obtain ⟨r, hr, hrs, hrv⟩ := choose_run sz q r1 HR1.out r4 (by rw [HS1.out]; exact HR4.out) r5 HR5.out HE5.out (endR (fun m => (L5 ++ [⟨13, [], (m : Int), 0⟩], N5 + 1)) r9) (fun z q' e => by
              have h1 := HS5.out
              have h2 := HV5.out z q' e
              rw [e, HST6.out] at h1
              cases h1
              subst h2
              exact limits_some HS8.out HR9.out) (fun e he => by
              have h1 := HS5.out
              rw [he, HST6.out] at h1
              cases h1)
            refine ⟨r, _, ⟨9, tb.data.toList, 0, (N5 : Int) + 1⟩ :: L10, rfl, hr, hv11.lower hz10, ?_, by simp only [List.length_cons]; omega, ?_, grown_trans G10 (Below.grownBy hb11)⟩
            · intro a q' e
              obtain ⟨x, q1, t, q2, y, q3, z, q4, u, e1, e2, e3, e4, e5, e6⟩ := hrv a q' e
              have f1 := HNM.out t q2 (by rw [← HS1.out]; exact e2)
              match r9, HOK9, e5 with
              | .ok (m9, q9), HOK9, e5 =>
                have f2 := HOK9.out m9 q9 rfl
                subst f2
                cases e5
                rw [e6, f1, HL10.out]
                simp
            · rw [hrs, endR_st]
              exact (h10.below hb11).mono (by omega)
        | true =>
          obtain ⟨q4, hst4, hs4, e6⟩ := sees_open hs
          rw [e6] at h6
          have HS4 : Hid (Px.sees Px.kORDER q4 = true) := hs4
          have HST4 := hd hst4
          rw [HN5.out]
          clear hs hs4 e6 hst4
          go_wp2_with fail
          refine (must_any ⟨#[66, 89]⟩ w6.heap.size _ B lv ts sz (.ok q4.tail) (ts.length + 3) ((h6.okb _).below (by go_grown)) (by omega) ((Blk.new w6 _ _).cell 0)).mono ?_
          rintro x w7 ⟨rfl, h7, hg7⟩
          have G7' : w6.grownBy w7 (some B) := grown_trans (Below.grownBy (by go_grown)) hg7
          have G7 := grown_trans G6 G7'
          have HO7 := hd (own_grown HO6.out G7' hB)
          have HJ : Hid (ListO (Px.order sz) (L5, N5) (mustX sz Px.kBY (.ok q4.tail)) 4100 44200 2010 w B lv ts sz (.slice ao5 L5.length cap5) (.int .i64 (N5 : Int)) (.bool true) w7) := by
            refine ⟨_, L5, N5, true, rfl, rfl, by omega, by omega, HO7.out, ?_, G7, SepAt.start, ?_⟩
            · match hm : mustX sz (ByteArray.mk #[66, 89]).data.toList (.ok q4.tail), h7 with
              | .ok q7, h7 =>
                exact h7.okb _
              | .error e, h7 =>
                exact h7.errb (by omega)
            · intro q7 e
              have e' : mustX sz (ByteArray.mk #[66, 89]).data.toList (.ok q4.tail) = .ok q7 := e
              rw [e'] at h7
              have := h7.short
              simp
              omega
          obtain ⟨wo, rfl⟩ : ∃ wo, wo = wr := ⟨_, rfl⟩
          obtain ⟨l1, rfl⟩ : ∃ l1, l1 = l := ⟨_, rfl⟩
          obtain ⟨k1, rfl⟩ : ∃ k1, k1 = k := ⟨_, rfl⟩
          clear h7 hg7 G7' G7 HO7 h6 G6 HO6 HO
          go_wp2_with fail
          go_loopw [3, 4, 11] (fun v n m wr => Hid (ListO (Px.order sz) (L5, N5) (mustX sz Px.kBY (.ok q4.tail)) 4100 44200 2010 w B lv ts sz v n m wr)) (fun _ _ m wr => moreM B m wr)
          case atStart => exact HJ
          case round =>
            obtain ⟨st, l, k, more, rfl, rfl, hk, hln, hl, hx, hg, hsep, hbd⟩ := hrel.out
            have HSP := hd hsep
            have HBD := hd hbd
            have HO := hd hl
            clear hsep hbd HJ hrel
            have hzr := hg.size
            obtain ⟨ao, cap, rfl⟩ := nd_slice hl
            clear hl
            by_cases hgo : more = true ∧ ∃ q1, st = .ok q1
            · obtain ⟨rfl, q1, rfl⟩ := hgo
              have hc3 := hx.okcell
              obtain ⟨hb1, hb2⟩ := HBD.out q1 rfl
              rw [Bool.toNat_true] at hb1 hb2
              go_wp2_with fail
              refine (expr_any wr B lv ts sz 1 (.ok q1) ts.length (Nat.le_refl _) (by omega) (by omega) (hx.okb _)).mono ?_
              rintro x w6 ⟨r6, v6, l6, rfl, hr6, hv6, hok6, hln6, hnum6, h6, hg6⟩
              have HR6 := hd hr6
              have HOK6 := hd hok6
              clear hr6 hok6 hnum6
              have G6 := grown_trans hg hg6
              have hz6 := G6.size
              have HO6 := hd (own_grown HO.out hg6 hB)
              obtain ⟨ao6, cap6, rfl, _⟩ := hv6.slice
              go_wp2_with fail
              refine (takes_any ⟨#[65, 83, 67]⟩ w6 B lv ts sz _ _ h6).mono ?_
              rintro x w7 ⟨rfl, h7, hg7⟩
              have hBr := hx.lt
              have hz7 := hg7.size
              cases hs : seesX (ByteArray.mk #[65, 83, 67]).data.toList (stOf r6) with
              | true =>
                have HD : Hid (descI (stOf r6) = 0) := if_pos hs
                have hasc : ascX (stOf r6) = takeX (ByteArray.mk #[65, 83, 67]).data.toList (stOf r6) := if_pos hs
                rw [← hasc] at h7
                clear hs hasc
                go_wp2_with fail
                refine (cat_any _ 0 wr.heap.size _ _ [⟨12, [], 0, 1⟩] l6 (NdIs.newAt (w7.alloc _) ⟨12, [], 0, 1⟩ _ (by simp)) ((hv6.keep hg7 hBr).below (by go_grown)) (by simp only [List.length_cons, List.length_nil]; omega)).mono ?_
                rintro x w10 ⟨v10, rfl, ho10, hb10⟩
                have hv10 : NdIs w10 w7.heap.size v10 (⟨12, [], descI (stOf r6), 1⟩ :: l6) := by rw [HD.out]; exact (NdIs.of_own ho10).lower (by simp; omega)
                have B10 : Below w7.heap.size w7 w10 := below_more (by go_grown) hb10 (by simp; omega)
                have h10 := h7.below B10
                have G10 : wr.grownBy w10 (some B) := grown_trans hg6 (grown_trans hg7 (Below.grownBy B10))
                clear ho10 hb10 B10 h7
                have HO10 := hd (own_grown HO.out G10 hB)
                have GG := grown_trans hg G10
                have hzz := GG.size
                have hzo := G10.size
                obtain ⟨ao10, cap10, rfl, _⟩ := hv10.slice
                go_wp2_with fail
                refine (cat_any w10 w.heap.size _ _ _ l (⟨12, [], descI (stOf r6), 1⟩ :: l6) (NdIs.of_own HO10.out) hv10 (by simp only [List.length_cons]; omega)).mono ?_
                rintro x w11 ⟨v11, rfl, ho11, hb11⟩
                obtain ⟨L11, hL11⟩ : ∃ L11, L11 = l ++ (⟨12, [], descI (stOf r6), 1⟩ :: l6) := ⟨_, rfl⟩
                rw [← hL11] at ho11
                have hlen11 : L11.length ≤ l.length + l6.length + 1 := by rw [hL11]; simp; omega
                have HO11 : Hid (w11.ownsRow w.heap.size 46 4 v11 L11.length (ndsV L11)) := own_lower ho11 (by omega)
                obtain ⟨ao11, cap11, rfl⟩ := nd_slice HO11.out
                obtain ⟨r, hr, hrs, hrv⟩ := order_run sz (l, k) q1 r6 HR6.out
                have HVAL : Hid (∀ y q', r = .ok (y, q') → y = (L11, k + 1)) := by
                  intro y q' e
                  obtain ⟨e6, q2, e1, e2⟩ := hrv y q' e
                  have f2 := HOK6.out e6 q2 e1
                  rw [e2, hL11, f2]
                have HSH : Hid (∀ q', stOf r = .ok q' → l6.length + q'.length ≤ q1.length) := by
                  intro q' e
                  rw [hrs] at e
                  obtain ⟨q2, e2, e3⟩ := asc_short e
                  have := ex_short (q1 := q1) HR6.out (fun q e => by cases e; exact Nat.le_refl _) HOK6.out e2
                  omega
                have HR := hd hr
                have h11 := h10.below hb11
                rw [← hrs] at h11
                have G11 := grown_trans GG (Below.grownBy hb11)
                clear hL11 ho11 hr hrs hrv h10
                go_wp2_with fail
                refine (takes_any ⟨#[44]⟩ w11 B lv ts sz _ _ h11).mono ?_
                rintro x w12 ⟨rfl, h12, hg12⟩
                have G12 := grown_trans G11 hg12
                have HO12 := hd (own_grown HO11.out hg12 hB)
                have HL12 : Hid (ListO (Px.order sz) (L5, N5) (mustX sz Px.kBY (.ok q4.tail)) 4100 44200 2010 w B lv ts sz (.slice ao11 L11.length cap11) (.int .i64 ((k : Int) + 1)) (.bool (seesX Px.gComma (stOf r))) w12) := by
                  refine ⟨takeX Px.gComma (stOf r), L11, k + 1, _, by simp, rfl, by omega, by omega, HO12.out, h12.mono (by omega), G12, SepAt.next (Px.order_grows sz) HSP.out HR.out _ HVAL.out, ?_⟩
                  intro q' e1
                  obtain ⟨q5, e5, e6⟩ := comma_both e1
                  have := HSH.out q5 e5
                  omega
                have HM12 : Hid (moreM B (.bool (seesX Px.gComma (stOf r))) w12 < moreM B (.bool true) wr) := by
                  refine moreM_lt hx h12 (fun q' e1 e2 => ?_)
                  obtain ⟨q5, e5, e6⟩ := comma_len e1 e2
                  have := HSH.out q5 e5
                  omega
                go_wp2_with fail
                go_roundw
                case rel => exact HL12
                case measure => exact HM12.out
              | false =>
                have HA := hd hs
                rw [take_same hs] at h7
                clear hs
                go_wp2_with fail
                refine (takes_any ⟨#[68, 69, 83, 67]⟩ _ B lv ts sz _ _ (h7.below (by go_grown))).mono ?_
                rintro x w8 ⟨rfl, h8, hg8⟩
                have hB7 := h7.lt
                have K8 : Blk w8 w7.heap.size #[.int .i64 12, .string ⟨#[]⟩, .int .i64 0, .int .i64 1] 46 := by
                  have := Blk.new w7 #[.int .i64 12, .string ⟨#[]⟩, .int .i64 0, .int .i64 1] 46
                  unfold Blk at this ⊢
                  rw [hg8.block w7.heap.size (by simp) (by simp; omega)]; exact this
                have g78 : w7.grownBy w8 (some B) := grown_trans (Below.grownBy (by go_grown)) hg8
                have k0 := K8.cell 0
                have k1 := K8.cell 1
                have k3 := K8.cell 3
                simp at k0 k1 k3
                have hasc : ascX (stOf r6) = takeX (ByteArray.mk #[68, 69, 83, 67]).data.toList (stOf r6) := if_neg (by rw [show seesX Px.kASC (stOf r6) = false from HA.out]; decide)
                rw [← hasc] at h8
                have hz8 := g78.size
                have hB8 := K8.lt
                cases hs : seesX (ByteArray.mk #[68, 69, 83, 67]).data.toList (stOf r6) with
                | false =>
                  have k2 := K8.cell 2
                  simp at k2
                  have HD : Hid (descI (stOf r6) = 0) := by
                    show descI (stOf r6) = 0
                    unfold descI
                    rw [if_neg (by rw [show seesX Px.kASC (stOf r6) = false from HA.out]; decide), if_neg (by rw [show seesX Px.kDESC (stOf r6) = false from hs]; decide)]
                  clear hs hasc h7
                  go_wp2_with fail
                  refine (cat_any _ 0 wr.heap.size _ _ [⟨12, [], 0, 1⟩] l6 (NdIs.newAt w8 ⟨12, [], 0, 1⟩ _ rfl) (((hv6.keep hg7 hBr).keep g78 hBr).below (by go_grown)) (by simp only [List.length_cons, List.length_nil]; omega)).mono ?_
                  rintro x w10 ⟨v10, rfl, ho10, hb10⟩
                  have hv10 : NdIs w10 w7.heap.size v10 (⟨12, [], descI (stOf r6), 1⟩ :: l6) := by rw [HD.out]; exact (NdIs.of_own ho10).lower (by simp; omega)
                  have B10 : Below w8.heap.size w8 w10 := below_more (by go_grown) hb10 (by simp)
                  have h10 := h8.below B10
                  have G10 : wr.grownBy w10 (some B) := grown_trans hg6 (grown_trans hg7 (grown_trans g78 (Below.grownBy B10)))
                  clear ho10 hb10 B10 h8 k0 k1 k2 k3 K8 hg8
                  have HO10 := hd (own_grown HO.out G10 hB)
                  have GG := grown_trans hg G10
                  have hzz := GG.size
                  have hzo := G10.size
                  obtain ⟨ao10, cap10, rfl, _⟩ := hv10.slice
                  go_wp2_with fail
                  refine (cat_any w10 w.heap.size _ _ _ l (⟨12, [], descI (stOf r6), 1⟩ :: l6) (NdIs.of_own HO10.out) hv10 (by simp only [List.length_cons]; omega)).mono ?_
                  rintro x w11 ⟨v11, rfl, ho11, hb11⟩
                  obtain ⟨L11, hL11⟩ : ∃ L11, L11 = l ++ (⟨12, [], descI (stOf r6), 1⟩ :: l6) := ⟨_, rfl⟩
                  rw [← hL11] at ho11
                  have hlen11 : L11.length ≤ l.length + l6.length + 1 := by rw [hL11]; simp; omega
                  have HO11 : Hid (w11.ownsRow w.heap.size 46 4 v11 L11.length (ndsV L11)) := own_lower ho11 (by omega)
                  obtain ⟨ao11, cap11, rfl⟩ := nd_slice HO11.out
                  obtain ⟨r, hr, hrs, hrv⟩ := order_run sz (l, k) q1 r6 HR6.out
                  have HVAL : Hid (∀ y q', r = .ok (y, q') → y = (L11, k + 1)) := by
                    intro y q' e
                    obtain ⟨e6, q2, e1, e2⟩ := hrv y q' e
                    have f2 := HOK6.out e6 q2 e1
                    rw [e2, hL11, f2]
                  have HSH : Hid (∀ q', stOf r = .ok q' → l6.length + q'.length ≤ q1.length) := by
                    intro q' e
                    rw [hrs] at e
                    obtain ⟨q2, e2, e3⟩ := asc_short e
                    have := ex_short (q1 := q1) HR6.out (fun q e => by cases e; exact Nat.le_refl _) HOK6.out e2
                    omega
                  have HR := hd hr
                  have h11 := h10.below hb11
                  rw [← hrs] at h11
                  have G11 := grown_trans GG (Below.grownBy hb11)
                  clear hL11 ho11 hr hrs hrv h10
                  go_wp2_with fail
                  refine (takes_any ⟨#[44]⟩ w11 B lv ts sz _ _ h11).mono ?_
                  rintro x w12 ⟨rfl, h12, hg12⟩
                  have G12 := grown_trans G11 hg12
                  have HO12 := hd (own_grown HO11.out hg12 hB)
                  have HL12 : Hid (ListO (Px.order sz) (L5, N5) (mustX sz Px.kBY (.ok q4.tail)) 4100 44200 2010 w B lv ts sz (.slice ao11 L11.length cap11) (.int .i64 ((k : Int) + 1)) (.bool (seesX Px.gComma (stOf r))) w12) := by
                    refine ⟨takeX Px.gComma (stOf r), L11, k + 1, _, by simp, rfl, by omega, by omega, HO12.out, h12.mono (by omega), G12, SepAt.next (Px.order_grows sz) HSP.out HR.out _ HVAL.out, ?_⟩
                    intro q' e1
                    obtain ⟨q5, e5, e6⟩ := comma_both e1
                    have := HSH.out q5 e5
                    omega
                  have HM12 : Hid (moreM B (.bool (seesX Px.gComma (stOf r))) w12 < moreM B (.bool true) wr) := by
                    refine moreM_lt hx h12 (fun q' e1 e2 => ?_)
                    obtain ⟨q5, e5, e6⟩ := comma_len e1 e2
                    have := HSH.out q5 e5
                    omega
                  go_wp2_with fail
                  go_roundw
                  case rel => exact HL12
                  case measure => exact HM12.out
                | true =>
                  have HD : Hid (descI (stOf r6) = 1) := by
                    show descI (stOf r6) = 1
                    unfold descI
                    rw [if_neg (by rw [show seesX Px.kASC (stOf r6) = false from HA.out]; decide), if_pos (show seesX Px.kDESC (stOf r6) = true from hs)]
                  have k2 := K8.cell 2
                  simp at k2
                  have f2 := K8.free 2
                  have K9 := K8.set 2 (.int .i64 1)
                  have kk0 := K9.cell 0
                  have kk1 := K9.cell 1
                  have kk2 := K9.cell 2
                  have kk3 := K9.cell 3
                  simp at kk0 kk1 kk2 kk3
                  have g89 : w8.grownBy (w8.setCell ⟨w7.heap.size, 2, none⟩ (.int .i64 1)) (some w7.heap.size) := ⟨rfl, rfl, rfl, by simp [World.setCell], fun k _ hne => Below.heap_setCell w8 _ _ k (by simpa using hne)⟩
                  have g79 : w7.grownBy (w8.setCell ⟨w7.heap.size, 2, none⟩ (.int .i64 1)) (some B) := grown_own g78 g89 (fun g e => by cases e; exact Nat.le_refl _)
                  have h9 : PX (w8.setCell ⟨w7.heap.size, 2, none⟩ (.int .i64 1)) B lv ts sz (ascX (stOf r6)) _ := h8.grow g89 (by intro e; cases e; omega) (by
                    cases hv : lv.ownBlock with
                    | none => exact .inl rfl
                    | some g =>
                      right
                      intro e
                      cases e
                      have := HLV.out _ hv
                      omega)
                  clear hs hasc h7
                  go_wp2_with fail
                  refine (cat_any _ 0 wr.heap.size _ _ [⟨12, [], 1, 1⟩] l6 (NdIs.newAt (w8.setCell ⟨w7.heap.size, 2, none⟩ (.int .i64 1)) ⟨12, [], 1, 1⟩ _ (by simp [World.setCell])) (((hv6.keep hg7 hBr).keep g79 hBr).below (by go_grown)) (by simp only [List.length_cons, List.length_nil]; omega)).mono ?_
                  rintro x w10 ⟨v10, rfl, ho10, hb10⟩
                  have hzs : (w8.setCell ⟨w7.heap.size, 2, none⟩ (.int .i64 1)).heap.size = w8.heap.size := by simp [World.setCell]
                  have hv10 : NdIs w10 w7.heap.size v10 (⟨12, [], descI (stOf r6), 1⟩ :: l6) := by rw [HD.out]; exact (NdIs.of_own ho10).lower (by simp [hzs]; omega)
                  have B10 : Below (w8.setCell ⟨w7.heap.size, 2, none⟩ (.int .i64 1)).heap.size (w8.setCell ⟨w7.heap.size, 2, none⟩ (.int .i64 1)) w10 := below_more (by go_grown) hb10 (by simp)
                  have h10 := h9.below B10
                  have G10 : wr.grownBy w10 (some B) := grown_trans hg6 (grown_trans hg7 (grown_trans g79 (Below.grownBy B10)))
                  clear ho10 hb10 B10 h8 h9 k0 k1 k2 k3 K8 K9 hg8 kk0 kk1 kk2 kk3 f2 g89 g79 hzs
                  have HO10 := hd (own_grown HO.out G10 hB)
                  have GG := grown_trans hg G10
                  have hzz := GG.size
                  have hzo := G10.size
                  obtain ⟨ao10, cap10, rfl, _⟩ := hv10.slice
                  go_wp2_with fail
                  refine (cat_any w10 w.heap.size _ _ _ l (⟨12, [], descI (stOf r6), 1⟩ :: l6) (NdIs.of_own HO10.out) hv10 (by simp only [List.length_cons]; omega)).mono ?_
                  rintro x w11 ⟨v11, rfl, ho11, hb11⟩
                  obtain ⟨L11, hL11⟩ : ∃ L11, L11 = l ++ (⟨12, [], descI (stOf r6), 1⟩ :: l6) := ⟨_, rfl⟩
                  rw [← hL11] at ho11
                  have hlen11 : L11.length ≤ l.length + l6.length + 1 := by rw [hL11]; simp; omega
                  have HO11 : Hid (w11.ownsRow w.heap.size 46 4 v11 L11.length (ndsV L11)) := own_lower ho11 (by omega)
                  obtain ⟨ao11, cap11, rfl⟩ := nd_slice HO11.out
                  obtain ⟨r, hr, hrs, hrv⟩ := order_run sz (l, k) q1 r6 HR6.out
                  have HVAL : Hid (∀ y q', r = .ok (y, q') → y = (L11, k + 1)) := by
                    intro y q' e
                    obtain ⟨e6, q2, e1, e2⟩ := hrv y q' e
                    have f2 := HOK6.out e6 q2 e1
                    rw [e2, hL11, f2]
                  have HSH : Hid (∀ q', stOf r = .ok q' → l6.length + q'.length ≤ q1.length) := by
                    intro q' e
                    rw [hrs] at e
                    obtain ⟨q2, e2, e3⟩ := asc_short e
                    have := ex_short (q1 := q1) HR6.out (fun q e => by cases e; exact Nat.le_refl _) HOK6.out e2
                    omega
                  have HR := hd hr
                  have h11 := h10.below hb11
                  rw [← hrs] at h11
                  have G11 := grown_trans GG (Below.grownBy hb11)
                  clear hL11 ho11 hr hrs hrv h10
                  go_wp2_with fail
                  refine (takes_any ⟨#[44]⟩ w11 B lv ts sz _ _ h11).mono ?_
                  rintro x w12 ⟨rfl, h12, hg12⟩
                  have G12 := grown_trans G11 hg12
                  have HO12 := hd (own_grown HO11.out hg12 hB)
                  have HL12 : Hid (ListO (Px.order sz) (L5, N5) (mustX sz Px.kBY (.ok q4.tail)) 4100 44200 2010 w B lv ts sz (.slice ao11 L11.length cap11) (.int .i64 ((k : Int) + 1)) (.bool (seesX Px.gComma (stOf r))) w12) := by
                    refine ⟨takeX Px.gComma (stOf r), L11, k + 1, _, by simp, rfl, by omega, by omega, HO12.out, h12.mono (by omega), G12, SepAt.next (Px.order_grows sz) HSP.out HR.out _ HVAL.out, ?_⟩
                    intro q' e1
                    obtain ⟨q5, e5, e6⟩ := comma_both e1
                    have := HSH.out q5 e5
                    omega
                  have HM12 : Hid (moreM B (.bool (seesX Px.gComma (stOf r))) w12 < moreM B (.bool true) wr) := by
                    refine moreM_lt hx h12 (fun q' e1 e2 => ?_)
                    obtain ⟨q5, e5, e6⟩ := comma_len e1 e2
                    have := HSH.out q5 e5
                    omega
                  go_wp2_with fail
                  go_roundw
                  case rel => exact HL12
                  case measure => exact HM12.out
            · have hexit : more = false ∨ ∃ e, st = .error e := by
                cases more with
                | false => exact .inl rfl
                | true =>
                  match st, hgo with
                  | .ok q1, hgo => exact absurd ⟨rfl, q1, rfl⟩ hgo
                  | .error e, _ => exact .inr ⟨e, rfl⟩
              obtain ⟨r5, hr5, hst5, hval5⟩ := HSP.out.exit hexit
              have HR5 : Hid (∀ x y q1 q2, r1 = .ok (x, q1) → r4 = .ok (y, q2) → RunX (fun n => Px.orders sz n (x.1 ++ y.1, x.2 + y.2)) (.ok q2) r5) := by
                intro x y q1 q2 e1 e2
                rw [HVX.out x y q1 q2 e1 e2]
                have h1 := HST4.out
                rw [e2] at h1
                cases h1
                exact orders_run HS4.out hr5
              have HE5 : Hid (∀ e, stOf r4 = .error e → r5 = .error e) := by
                intro e he
                have h1 := HST4.out
                rw [he] at h1
                cases h1
              have HS5 : Hid (stOf r5 = st) := hst5
              have HV5 : Hid (∀ z q', r5 = .ok (z, q') → z = (l, k)) := hval5
              have hcell : more = false ∨ more = true ∧ ∃ c : Int, (c == 0) = false ∧ wr.cell? ⟨B, 3, none⟩ = some (.int .i64 c) := by
                cases more with
                | false => exact .inl rfl
                | true =>
                  rcases hexit with h | ⟨e, rfl⟩
                  · cases h
                  · exact .inr ⟨rfl, hx.errcell⟩
              obtain ⟨L6, hL6⟩ : ∃ L6, L6 = l := ⟨_, rfl⟩
              obtain ⟨N6, hN6⟩ : ∃ N6, N6 = k := ⟨_, rfl⟩
              have hle6 : L6.length ≤ 60000 := by rw [hL6]; omega
              have hne6 : N6 ≤ 9000 := by omega
              have h6 := hx
              have G6 := hg
              have HO6 := HO
              rw [← hL6, ← hN6] at HV5
              rw [← hL6] at HO6
              rw [← hL6, ← hN6]
              clear hgo hexit hr5 hst5 hval5 HSP HBD hL6 hN6 hx hg HO HVX HS4 HST4
              obtain ⟨w6, rfl⟩ : ∃ w6, w6 = wr := ⟨_, rfl⟩
              obtain ⟨st6, rfl⟩ : ∃ st6, st6 = st := ⟨_, rfl⟩
              rcases hcell with rfl | ⟨rfl, c', hc0', hc3'⟩
              all_goals
                go_wp2_with fail
                refine (takes_any ⟨#[76, 73, 77, 73, 84]⟩ w6 B lv ts sz st6 _ h6).mono ?_
                rintro x w8 ⟨rfl, h8, hg8⟩
                have G8 := grown_trans G6 hg8
                have HO8 := hd (own_grown HO6.out hg8 hB)
                have hz8 := G8.size
                cases hs : seesX (ByteArray.mk #[76, 73, 77, 73, 84]).data.toList st6 with
                | false =>
                  rw [take_same hs] at h8
                  have HS8 := hd hs
                  clear hs
                  go_wp2_with fail
                  refine (headed_any 9 (N6 : Int) tb w8 _ _ L6 (NdIs.of_own HO8.out) (by omega)).mono ?_
                  rintro x w9 ⟨v9, rfl, hv9, hb9⟩
                  obtain ⟨ao9, cap9, rfl, _⟩ := hv9.slice
                  simp only [List.length_cons] at hv9
                  go_wp2
                  go_ret
                  obtain ⟨r, hr, hrs, hrv⟩ := choose_run sz q r1 HR1.out r4 (by rw [HS1.out]; exact HR4.out) r5 HR5.out HE5.out r5 (fun z q' e => by
                    have h1 := HS5.out
                    rw [e] at h1
                    have h2 := HS8.out
                    rw [← h1] at h2
                    rw [e]
                    exact limits_none h2) (fun e he => by
                    match r5, he with
                    | .error e', he => cases he; rfl)
                  refine ⟨r, _, ⟨9, tb.data.toList, 0, (N6 : Int)⟩ :: L6, rfl, hr, hv9.lower hz8, ?_, by simp only [List.length_cons]; omega, ?_, grown_trans G8 (Below.grownBy hb9)⟩
                  · intro a q' e
                    obtain ⟨x, q1, t, q2, y, q3, z, q4, u, e1, e2, e3, e4, e5, e6⟩ := hrv a q' e
                    have f1 := HNM.out t q2 (by rw [← HS1.out]; exact e2)
                    have f2 := HV5.out u q' e5
                    rw [e6, f1, f2]
                  · rw [hrs, HS5.out]
                    exact (h8.below hb9).mono (by omega)
                | true =>
                  obtain ⟨q6, hst6, hs6, e8⟩ := sees_open hs
                  rw [e8] at h8
                  have HS8 : Hid (Px.sees Px.kLIMIT q6 = true) := hs6
                  have HST6 := hd hst6
                  clear hs hs6 e8 hst6
                  go_wp2_with fail
                  refine (limit_any w8 B lv ts sz q6.tail ts.length (h8.okb _) (Nat.le_refl _)).mono ?_
                  rintro x w9 ⟨r9, n9, rfl, hr9, hok9, hn9, h9, hg9⟩
                  have HR9 := hd hr9
                  have HOK9 := hd hok9
                  have G9 := grown_trans G8 hg9
                  have HO9 := hd (own_grown HO8.out hg9 hB)
                  have hz9 := G9.size
                  clear hr9 hok9 h8 hg8 HO8
                  go_wp2_with (first
                    | (at_builtin; refine wpList_append_own _ rfl _ _ 33 rfl w.heap.size 46 i0 (.agg #[.int .i64 0, .string ⟨#[]⟩, .int .i64 0, .int .i64 0]) 4 40 Tryz.underlying33 hi hz0' hz1' hz2' rfl (by decide) _ _ _ rfl (HO9.out.alloc _) ⟨w9.heap.size, 0, none⟩ 1 1 [.int .i64 13, .string ⟨#[]⟩, .int .i64 (n9 : Int), .int .i64 0] rfl rfl ?c1 ?c2 ?c3 ?c4 ?c5 ?_)
                    | fail)
                  case c1 => exact four_news w9 _ _ _ _ _ _ rfl
                  case c2 => intro u hu; simp at hu; rcases hu with rfl | rfl | rfl | rfl <;> rfl
                  case c3 => unfold maxLen; omega
                  case c4 => omega
                  case c5 => simp; omega
                  intro v10 w10 hown' hgrow _
                  obtain ⟨h10, G10⟩ := grow_all HLV.out hB (h9.below (by go_grown)) (grown_trans G9 (Below.grownBy (by go_grown))) (HO9.out.alloc _) hgrow
                  obtain ⟨L10, hL10⟩ : ∃ L10, L10 = L6 ++ [(⟨13, [], (n9 : Int), 0⟩ : Px.Nd)] := ⟨_, rfl⟩
                  have HO10 : Hid (w10.ownsRow w.heap.size 46 4 v10 L10.length (ndsV L10)) := by
                    show World.ownsRow _ _ _ _ _ _ _
                    rw [hL10, ndsV_append, ndsV_one, List.length_append]
                    exact hown'
                  have hlen10 : L10.length ≤ L6.length + 1 := by rw [hL10]; simp
                  obtain ⟨ao10, cap10, rfl⟩ := nd_slice HO10.out
                  have HL10 := hd hL10
                  have hz10 := G10.size
                  clear hL10 hown' hgrow HO9 h9 hg9
                  go_wp2_with fail
                  refine (headed_any 9 ((N6 : Int) + 1) tb w10 _ _ L10 (NdIs.of_own HO10.out) (by omega)).mono ?_
                  rintro x w11 ⟨v11, rfl, hv11, hb11⟩
                  obtain ⟨ao11, cap11, rfl, _⟩ := hv11.slice
                  simp only [List.length_cons] at hv11
                  go_wp2
                  go_ret
                  obtain ⟨r, hr, hrs, hrv⟩ := choose_run sz q r1 HR1.out r4 (by rw [HS1.out]; exact HR4.out) r5 HR5.out HE5.out (endR (fun m => (L6 ++ [⟨13, [], (m : Int), 0⟩], N6 + 1)) r9) (fun z q' e => by
                    have h1 := HS5.out
                    have h2 := HV5.out z q' e
                    rw [e, HST6.out] at h1
                    cases h1
                    subst h2
                    exact limits_some HS8.out HR9.out) (fun e he => by
                    have h1 := HS5.out
                    rw [he, HST6.out] at h1
                    cases h1)
                  refine ⟨r, _, ⟨9, tb.data.toList, 0, (N6 : Int) + 1⟩ :: L10, rfl, hr, hv11.lower hz10, ?_, by simp only [List.length_cons]; omega, ?_, grown_trans G10 (Below.grownBy hb11)⟩
                  · intro a q' e
                    obtain ⟨x, q1, t, q2, y, q3, z, q4, u, e1, e2, e3, e4, e5, e6⟩ := hrv a q' e
                    have f1 := HNM.out t q2 (by rw [← HS1.out]; exact e2)
                    match r9, HOK9, e5 with
                    | .ok (m9, q9), HOK9, e5 =>
                      have f2 := HOK9.out m9 q9 rfl
                      subst f2
                      cases e5
                      rw [e6, f1, HL10.out]
                      simp
                  · rw [hrs, endR_st]
                    exact (h10.below hb11).mono (by omega)
end Go.Proofs.YtcdgihdhpaipaaaGreatDoor

namespace Go.Proofs.YtcdgihdhpaipaaaGreatDoor
open Go.RowKit
set_option linter.unusedSimpArgs false
set_option linter.unusedVariables false

theorem StPost.from {f : Nat → List Lx.Tok → Px.Out (List Px.Nd)} {g : Nat → List Lx.Tok → Px.Out (List Px.Nd)} {w w0 w' : World} {B : Nat} {lv : Value} {ts : List Lx.Tok} {sz : Nat} {st st' : Except (Nat × Nat) (List Lx.Tok)} {x : Ending} (h : StPost f w B lv ts sz st x w') (hg : w0.grownBy w (some B)) (hf : ∀ r, RunX f st r → RunX g st' r) : StPost g w0 B lv ts sz st' x w' := by
  obtain ⟨r, v, l, h1, h2, h3, h4, h5, h6, h7⟩ := h
  exact ⟨r, v, l, h1, hf r h2, h3.lower hg.size, h4, h5, h6, grown_trans hg h7⟩

/-- What a statement's reading is, by its first token. -/
theorem stmt_by {sz : Nat} {t : Lx.Tok} {r : List Lx.Tok} {f : Nat → List Lx.Tok → Px.Out (List Px.Nd)} (h : ∀ n, Px.stmt sz n (t :: r) = f n r) : ∀ x, RunX f (.ok r) x → RunX (Px.stmt sz) (.ok (t :: r)) x := by
  rintro x ⟨n, hn⟩
  exact ⟨n, (h n).trans hn⟩

theorem four_one (w : World) (v : Value) (T : TypeId) (g : Nat) (hg : g = w.heap.size) : (w.alloc (.cells #[v] T)).cell? ⟨g, 0, none⟩ = some v := by subst hg; exact (Blk.new w _ _).cell 0

set_option maxRecDepth 100000 in
set_option maxHeartbeats 8000000 in
theorem statement_any (w : World) (B : Nat) (lv : Value) (ts : List Lx.Tok) (sz : Nat) (h : PX w B lv ts sz (.ok ts) ts.length) :
    Calls Tryz.prog 16 #[.pointer (some ⟨B, 0, none⟩)] w (StPost (Px.stmt sz) w B lv ts sz (.ok ts)) := by
  have HX := hd h
  have hB := h.lt
  have hp0 : PS w B lv ts sz 0 0 0 := by
    obtain ⟨k, hk, hq, hp⟩ := h
    have : k = 0 := by
      have := congrArg List.length hq
      simp at this
      omega
    subst this
    exact hp
  have hts := hp0.len
  rcases hh : hereT ts sz 0 with ⟨tk, tt, tp⟩
  have hok := hereT_ok hp0
  rw [hh] at hok
  obtain ⟨hk1, hk2, hk3⟩ := hok
  simp only at hk1 hk2 hk3
  have HH := hd hh
  have HP := hd hp0
  clear hh h hp0
  go_enter Tryz.func16, Tryz.ntmps16
  go_wp2_with fail
  refine (here_any w B lv ts sz 0 0 0 HP.out).mono ?_
  rintro x w1 ⟨rfl, hb1⟩
  rw [HH.out]
  unfold tokA
  simp only
  have h1 := HP.out.below hb1
  have hz1 := hb1.size
  by_cases c50 : tk = 50
  · subst c50
    obtain ⟨t0, r0, hcons⟩ : ∃ t0 r0, ts = t0 :: r0 := by
      match ts, HH with
      | [], HH => have := HH.out; simp [hereT] at this
      | t0 :: r0, _ => exact ⟨t0, r0, rfl⟩
    have ht0 : t0 = ⟨50, tt, tp⟩ := by
      have := HH.out
      rw [hcons] at this
      simpa [hereT] using this
    have HC : Hid (ts = ⟨50, tt, tp⟩ :: r0) := by show _ = _; rw [hcons, ht0]
    clear hcons ht0
    obtain ⟨c0, c1, c2, c3, c4⟩ := h1.cells
    have f1 := h1.blk.free 1
    have hB1 := h1.blk.lt
    have hlen : 0 < ts.length := by rw [HC.out]; simp
    have HPS1 : Hid (PS (w1.setCell ⟨B, 1, none⟩ (.int .i64 1)) B lv ts sz 1 0 0) := h1.step (by omega)
    have hstep : PX (w1.setCell ⟨B, 1, none⟩ (.int .i64 1)) B lv ts sz (.ok r0) ts.length := ⟨1, by omega, by rw [HC.out]; rfl, HPS1.out⟩
    by_cases cC : tt = Px.kCREATE
    · subst cC
      have hst : ∀ n, Px.stmt sz n ts = Px.create sz n r0 := fun n => by rw [HC.out]; simp [Px.stmt, Px.kCREATE, Px.kDROP, Px.kINSERT, Px.kDELETE, Px.kUPDATE, Px.kSELECT]
      have HST := hd hst
      clear hst
      go_wp2_with fail
      refine (create_any _ B lv ts sz r0 (hstep.below (by go_grown))).mono ?_
      rintro x w3 ⟨r, v, l, rfl, hr, hv, hok, hln, h3, hg3⟩
      have HR := hd hr
      have HOK := hd hok
      have G3 : w.grownBy w3 (some B) := grown_trans (Below.grownBy hb1) (grown_trans (psAt_grown _) (grown_trans (Below.grownBy (by go_grown)) hg3))
      have hv3 := hv.lower (b1 := w.heap.size) (by simp [World.setCell]; omega)
      clear hr hok hv hg3
      obtain ⟨ao, cap, rfl, _⟩ := hv3.slice
      go_wp2
      go_ret
      refine ⟨r, _, l, rfl, ?_, hv3, HOK.out, hln, h3, G3⟩
      obtain ⟨n, hn⟩ := HR.out
      exact ⟨n, (HST.out n).trans hn⟩
    · have bcC : (tt == [67, 82, 69, 65, 84, 69]) = false := beq_eq_false_iff_ne.2 cC
      by_cases cD : tt = Px.kDROP
      · subst cD
        have hst : ∀ n, Px.stmt sz n ts = Px.drop sz r0 := fun n => by rw [HC.out]; simp [Px.stmt, Px.kCREATE, Px.kDROP, Px.kINSERT, Px.kDELETE, Px.kUPDATE, Px.kSELECT]
        have HST := hd hst
        clear hst
        go_wp2_with fail
        refine (must_any ⟨#[84, 65, 66, 76, 69]⟩ _ _ B lv ts sz (.ok r0) ts.length (hstep.below (by go_grown)) (Nat.le_refl _) ?cc).mono ?_
        case cc => exact four_one _ _ _ _ (by simp [World.setCell])
        rintro x w3 ⟨rfl, h3, hg3⟩
        have G3 : w.grownBy w3 (some B) := grown_trans (Below.grownBy hb1) (grown_trans (psAt_grown _) (grown_trans (Below.grownBy (by go_grown)) hg3))
        have hz3 := G3.size
        go_wp2_with fail
        refine (name_any w3 B lv ts sz _ ts.length h3 (Nat.le_refl _) (by omega)).mono ?_
        rintro x w4 ⟨tb, rfl, htb, hname, h4, hg4⟩
        have HNM := hd hname
        have G4 := grown_trans G3 hg4
        have hz4 := G4.size
        clear hname
        go_wp2_with fail
        refine (headed_any 3 0 tb w4 0 (.slice none 0 0) [] (NdIs.nil _ _) (by simp)).mono ?_
        rintro x w5 ⟨v5, rfl, hv5, hb5⟩
        obtain ⟨ao5, cap5, rfl, _⟩ := hv5.slice
        go_wp2
        go_ret
        have hr := drop_run sz (.ok r0)
        refine ⟨endR (fun t => [(⟨3, t, 0, 0⟩ : Px.Nd)]) (nameX sz (mustX sz Px.kTABLE (.ok r0))), _, [⟨3, tb.data.toList, 0, 0⟩], rfl, ?_, hv5.lower hz4, ?_, by simp, ?_, grown_trans G4 (Below.grownBy hb5)⟩
        · obtain ⟨n, hn⟩ := hr
          exact ⟨n, (HST.out n).trans hn⟩
        · intro a q' e
          cases hn : nameX sz (mustX sz Px.kTABLE (.ok r0)) with
          | error e' => rw [hn] at e; cases e
          | ok y =>
            obtain ⟨t, q1⟩ := y
            rw [hn] at e
            cases e
            rw [HNM.out t q' hn]
        · rw [endR_st]
          exact (h4.below hb5).mono (by omega)
      · have bcD : (tt == [68, 82, 79, 80]) = false := beq_eq_false_iff_ne.2 cD
        by_cases cI : tt = Px.kINSERT
        · subst cI
          have hst : ∀ n, Px.stmt sz n ts = Px.insert sz n r0 := fun n => by rw [HC.out]; simp [Px.stmt, Px.kCREATE, Px.kDROP, Px.kINSERT, Px.kDELETE, Px.kUPDATE, Px.kSELECT]
          have HST := hd hst
          clear hst
          go_wp2_with fail
          refine (insert_any _ B lv ts sz r0 (hstep.below (by go_grown))).mono ?_
          rintro x w3 ⟨r, v, l, rfl, hr, hv, hok, hln, h3, hg3⟩
          have HR := hd hr
          have HOK := hd hok
          have G3 : w.grownBy w3 (some B) := grown_trans (Below.grownBy hb1) (grown_trans (psAt_grown _) (grown_trans (Below.grownBy (by go_grown)) hg3))
          have hv3 := hv.lower (b1 := w.heap.size) (by simp [World.setCell]; omega)
          clear hr hok hv hg3
          obtain ⟨ao, cap, rfl, _⟩ := hv3.slice
          go_wp2
          go_ret
          refine ⟨r, _, l, rfl, ?_, hv3, HOK.out, hln, h3, G3⟩
          obtain ⟨n, hn⟩ := HR.out
          exact ⟨n, (HST.out n).trans hn⟩
        · have bcI : (tt == [73, 78, 83, 69, 82, 84]) = false := beq_eq_false_iff_ne.2 cI
          by_cases cX : tt = Px.kDELETE
          · subst cX
            have hst : ∀ n, Px.stmt sz n ts = Px.delete sz n r0 := fun n => by rw [HC.out]; simp [Px.stmt, Px.kCREATE, Px.kDROP, Px.kINSERT, Px.kDELETE, Px.kUPDATE, Px.kSELECT]
            have HST := hd hst
            clear hst
            go_wp2_with fail
            refine (must_any ⟨#[70, 82, 79, 77]⟩ _ _ B lv ts sz (.ok r0) ts.length (hstep.below (by go_grown)) (Nat.le_refl _) ?cc).mono ?_
            case cc => exact four_one _ _ _ _ (by simp [World.setCell])
            rintro x w3 ⟨rfl, h3, hg3⟩
            have G3 : w.grownBy w3 (some B) := grown_trans (Below.grownBy hb1) (grown_trans (psAt_grown _) (grown_trans (Below.grownBy (by go_grown)) hg3))
            go_wp2_with fail
            refine (name_any w3 B lv ts sz _ ts.length h3 (Nat.le_refl _) (by omega)).mono ?_
            rintro x w4 ⟨tb, rfl, htb, hname, h4, hg4⟩
            have HNM := hd hname
            have G4 := grown_trans G3 hg4
            clear hname
            go_wp2_with fail
            refine (where_any w4 B lv ts sz _ (ts.length + 1) (by omega) h4).mono ?_
            rintro x w5 ⟨r5, v5, l5, k5, rfl, hr5, hv5, hok5, hk5, hln5, hnum5, h5, hg5⟩
            have HR5 := hd hr5
            have HOK5 := hd hok5
            have G5 := grown_trans G4 hg5
            have hz5 := G5.size
            clear hr5 hok5 hnum5
            obtain ⟨ao5, cap5, rfl, _⟩ := hv5.slice
            go_wp2_with fail
            refine (headed_any 6 k5 tb w5 _ _ l5 hv5 (by omega)).mono ?_
            rintro x w6 ⟨v6, rfl, hv6, hb6⟩
            obtain ⟨ao6, cap6, rfl, _⟩ := hv6.slice
            simp only [List.length_cons] at hv6
            go_wp2
            go_ret
            obtain ⟨r, hr, hrs, hrv⟩ := delete_run sz r0 r5 HR5.out
            refine ⟨r, _, ⟨6, tb.data.toList, 0, k5⟩ :: l5, rfl, ?_, hv6.lower hz5, ?_, by simp only [List.length_cons]; omega, ?_, grown_trans G5 (Below.grownBy hb6)⟩
            · obtain ⟨n, hn⟩ := hr
              exact ⟨n, (HST.out n).trans hn⟩
            · intro a q' e
              obtain ⟨t, q1, y, e1, e2, e3⟩ := hrv a q' e
              have f1 := HNM.out t q1 e1
              have f2 := HOK5.out y.1 y.2 q' e2
              rw [e3, f1, f2.1, f2.2]
            · rw [hrs]
              exact (h5.below hb6).mono (by omega)
          · have bcX : (tt == [68, 69, 76, 69, 84, 69]) = false := beq_eq_false_iff_ne.2 cX
            by_cases cU : tt = Px.kUPDATE
            · subst cU
              have hst : ∀ n, Px.stmt sz n ts = Px.update sz n r0 := fun n => by rw [HC.out]; simp [Px.stmt, Px.kCREATE, Px.kDROP, Px.kINSERT, Px.kDELETE, Px.kUPDATE, Px.kSELECT]
              have HST := hd hst
              clear hst
              go_wp2_with fail
              refine (update_any _ B lv ts sz r0 (hstep.below (by go_grown))).mono ?_
              rintro x w3 ⟨r, v, l, rfl, hr, hv, hok, hln, h3, hg3⟩
              have HR := hd hr
              have HOK := hd hok
              have G3 : w.grownBy w3 (some B) := grown_trans (Below.grownBy hb1) (grown_trans (psAt_grown _) (grown_trans (Below.grownBy (by go_grown)) hg3))
              have hv3 := hv.lower (b1 := w.heap.size) (by simp [World.setCell]; omega)
              clear hr hok hv hg3
              obtain ⟨ao, cap, rfl, _⟩ := hv3.slice
              go_wp2
              go_ret
              refine ⟨r, _, l, rfl, ?_, hv3, HOK.out, hln, h3, G3⟩
              obtain ⟨n, hn⟩ := HR.out
              exact ⟨n, (HST.out n).trans hn⟩
            · have bcU : (tt == [85, 80, 68, 65, 84, 69]) = false := beq_eq_false_iff_ne.2 cU
              by_cases cS : tt = Px.kSELECT
              · subst cS
                have hst : ∀ n, Px.stmt sz n ts = Px.choose sz n r0 := fun n => by rw [HC.out]; simp [Px.stmt, Px.kCREATE, Px.kDROP, Px.kINSERT, Px.kDELETE, Px.kUPDATE, Px.kSELECT]
                have HST := hd hst
                clear hst
                go_wp2_with fail
                refine (choose_any _ B lv ts sz r0 (hstep.below (by go_grown))).mono ?_
                rintro x w3 ⟨r, v, l, rfl, hr, hv, hok, hln, h3, hg3⟩
                have HR := hd hr
                have HOK := hd hok
                have G3 : w.grownBy w3 (some B) := grown_trans (Below.grownBy hb1) (grown_trans (psAt_grown _) (grown_trans (Below.grownBy (by go_grown)) hg3))
                have hv3 := hv.lower (b1 := w.heap.size) (by simp [World.setCell]; omega)
                clear hr hok hv hg3
                obtain ⟨ao, cap, rfl, _⟩ := hv3.slice
                go_wp2
                go_ret
                refine ⟨r, _, l, rfl, ?_, hv3, HOK.out, hln, h3, G3⟩
                obtain ⟨n, hn⟩ := HR.out
                exact ⟨n, (HST.out n).trans hn⟩
              · have bcS : (tt == [83, 69, 76, 69, 67, 84]) = false := beq_eq_false_iff_ne.2 cS
                have hst : Px.stmt sz 0 ts = some (.error (tp, 4)) := by rw [HC.out]; simp [Px.stmt, cC, cD, cI, cX, cU, cS]
                have HST := hd hst
                clear hst cC cD cI cX cU cS
                go_wp2_with fail
                refine (stop_ps _ B lv ts sz 1 0 (HPS1.out.below (by go_grown)) 4 tp (by omega) hk2).mono ?_
                rintro x w3 ⟨rfl, h3, hb3⟩
                go_wp2
                go_ret
                exact ⟨.error (tp, 4), _, [], rfl, ⟨0, HST.out⟩, NdIs.nil _ _, fun _ _ e => (by cases e), by simp, ⟨by decide, 1, by omega, h3⟩, grown_trans (Below.grownBy hb1) (grown_trans (psAt_grown _) (grown_trans (Below.grownBy (by go_grown)) hb3))⟩
  · have n1 : ((tk : Int) != 50) = true := by rw [bne_iff_ne]; omega
    go_wp2_with fail
    refine (stop_ps _ B lv ts sz 0 0 (h1.below (by go_grown)) 4 tp (by omega) hk2).mono ?_
    rintro x w3 ⟨rfl, h3, hb3⟩
    go_wp2
    go_ret
    have e : ∃ n, Px.stmt sz n ts = some (.error (tp, 4)) := by
      refine ⟨0, ?_⟩
      match ts, HH with
      | [], HH =>
        have := HH.out
        simp [hereT] at this
        obtain ⟨a, b, c⟩ := this
        subst c
        rfl
      | t0 :: r0, HH =>
        have := HH.out
        simp [hereT] at this
        subst this
        simp [Px.stmt, c50]
    exact ⟨.error (tp, 4), _, [], rfl, e, NdIs.nil _ _, fun _ _ e => (by cases e), by simp, ⟨by decide, 0, by omega, h3⟩, grown_trans (Below.grownBy hb1) (grown_trans (Below.grownBy (by go_grown)) hb3)⟩
end Go.Proofs.YtcdgihdhpaipaaaGreatDoor

namespace Go.Proofs.YtcdgihdhpaipaaaGreatDoor
open Go.RowKit
set_option linter.unusedSimpArgs false
set_option linter.unusedVariables false

/-- What only reads leaves. -/
def Same (w w' : World) : Prop := w'.heap = w.heap ∧ Below w.heap.size w w'
theorem Same.refl (w : World) : Same w w := ⟨rfl, Below.refl _ _⟩
theorem Same.trans {w w1 w2 : World} (h : Same w w1) (h' : Same w1 w2) : Same w w2 := ⟨h'.1.trans h.1, h.2.trans (by have := h'.2; rwa [h.1] at this)⟩
theorem Same.cell {w w1 : World} (h : Same w w1) (a : Addr) : w1.cell? a = w.cell? a := by simp only [World.cell?, h.1]

/-- A list's nodes, read by their places. -/
def Nodes (w : World) (ao : Option Addr) (L : List Px.Nd) : Prop := ∀ k, (hk : k < L.length) → ∃ g, ao = some ⟨g, 0, none⟩ ∧ w.cell? ⟨g, k * 4, none⟩ = some (.int .i64 L[k].kind) ∧ w.cell? ⟨g, k * 4 + 3, none⟩ = some (.int .i64 L[k].kids)
theorem Nodes.same {w w1 : World} {ao : Option Addr} {L : List Px.Nd} (h : Nodes w ao L) (hs : Same w w1) : Nodes w1 ao L := by
  intro k hk
  obtain ⟨g, e, h1, h2⟩ := h k hk
  exact ⟨g, e, by rw [hs.cell]; exact h1, by rw [hs.cell]; exact h2⟩

theorem tr_some {n : Nat} {l q : List Px.Nd} {d : Nat} (h : Px.tr n l = some (d, q)) : ∃ x r m, l = x :: r ∧ n = m + 1 ∧ ((x.kids = 0 ∧ d = 1 ∧ q = r) ∨ (x.kids = 1 ∧ ∃ d1, Px.tr m r = some (d1, q) ∧ d = d1 + 1) ∨ (x.kids = 2 ∧ ∃ d1 q1 d2, Px.tr m r = some (d1, q1) ∧ Px.tr m q1 = some (d2, q) ∧ d = max d1 d2 + 1)) := by
  match n, l, h with
  | n + 1, x :: r, h =>
    refine ⟨x, r, n, rfl, rfl, ?_⟩
    unfold Px.tr at h
    split at h
    · rename_i c
      cases h
      exact .inl ⟨c, rfl, rfl⟩
    · split at h
      · rename_i c
        obtain ⟨y, h1, h2⟩ := Option.bind_eq_some_iff.1 h
        obtain ⟨y1, y2⟩ := y
        cases h2
        exact .inr (.inl ⟨c, y1, h1, rfl⟩)
      · split at h
        · rename_i c
          obtain ⟨y, h1, h2⟩ := Option.bind_eq_some_iff.1 h
          obtain ⟨z, h3, h4⟩ := Option.bind_eq_some_iff.1 h2
          obtain ⟨y1, y2⟩ := y
          obtain ⟨z1, z2⟩ := z
          cases h4
          exact .inr (.inr ⟨c, y1, y2, z1, h1, h3, rfl⟩)
        · cases h

theorem tr_suffix : ∀ (n : Nat) (l q : List Px.Nd) (d : Nat), Px.tr n l = some (d, q) → ∃ k, 1 ≤ k ∧ k ≤ l.length ∧ q = l.drop k ∧ d ≤ k := by
  intro n
  induction n with
  | zero => intro l q d h; cases h
  | succ n ih =>
    intro l q d h
    obtain ⟨x, r, m, rfl, hm, h1 | ⟨_, d1, h1, rfl⟩ | ⟨_, d1, q1, d2, h1, h2, rfl⟩⟩ := tr_some h
    · obtain ⟨_, rfl, rfl⟩ := h1
      exact ⟨1, by omega, by simp, rfl, by omega⟩
    · cases hm
      obtain ⟨k, a1, a2, rfl, a4⟩ := ih _ _ _ h1
      exact ⟨k + 1, by omega, by simp; omega, rfl, by omega⟩
    · cases hm
      obtain ⟨k, a1, a2, rfl, a4⟩ := ih _ _ _ h1
      obtain ⟨j, b1, b2, rfl, b4⟩ := ih _ _ _ h2
      simp only [List.length_drop] at b2
      exact ⟨k + j + 1, by omega, by simp; omega, by simp [List.drop_drop], by omega⟩

theorem tr_pos : ∀ (n : Nat) (l q : List Px.Nd) (d : Nat), Px.tr n l = some (d, q) → 1 ≤ d := by
  intro n l q d h
  obtain ⟨x, r, m, rfl, hm, h1 | ⟨_, d1, h1, rfl⟩ | ⟨_, d1, q1, d2, h1, h2, rfl⟩⟩ := tr_some h
  · omega
  · omega
  · omega

/-- A tree at a place of a list: its depth, and where it ends. -/
def TreeAt (n : Nat) (L : List Px.Nd) (k d k' : Nat) : Prop := k < k' ∧ k' ≤ L.length ∧ Px.tr n (L.drop k) = some (d, L.drop k')
theorem TreeAt.pos {n : Nat} {L : List Px.Nd} {k d k' : Nat} (h : TreeAt n L k d k') : 1 ≤ d := tr_pos _ _ _ _ h.2.2
theorem TreeAt.parts {n : Nat} {L : List Px.Nd} {k d k' : Nat} (h : TreeAt n L k d k') : ∃ m, n = m + 1 ∧ ∃ hk : k < L.length, (L[k].kids = 0 ∧ d = 1 ∧ k' = k + 1) ∨ (L[k].kids = 1 ∧ ∃ d1, TreeAt m L (k + 1) d1 k' ∧ d = d1 + 1) ∨ (L[k].kids = 2 ∧ ∃ d1 k1 d2, TreeAt m L (k + 1) d1 k1 ∧ TreeAt m L k1 d2 k' ∧ d = max d1 d2 + 1) := by
  obtain ⟨h1, h2, h3⟩ := h
  have hk : k < L.length := by omega
  obtain ⟨x, r, m, hl, hm, hh⟩ := tr_some h3
  rw [List.drop_eq_getElem_cons hk] at hl
  cases hl
  refine ⟨m, hm, hk, ?_⟩
  have inj : ∀ a b, a ≤ L.length → b ≤ L.length → L.drop a = L.drop b → a = b := by
    intro a b ha hb e
    have := congrArg List.length e
    simp at this
    omega
  rcases hh with ⟨c, rfl, e⟩ | ⟨c, d1, e, rfl⟩ | ⟨c, d1, q1, d2, e1, e2, rfl⟩
  · exact .inl ⟨c, rfl, inj _ _ h2 (by omega) e⟩
  · obtain ⟨j, a1, a2, a3, _⟩ := tr_suffix _ _ _ _ e
    rw [List.drop_drop] at a3
    simp only [List.length_drop] at a2
    have := inj _ _ h2 (by omega) a3
    exact .inr (.inl ⟨c, d1, ⟨by omega, h2, e⟩, rfl⟩)
  · obtain ⟨j, a1, a2, rfl, _⟩ := tr_suffix _ _ _ _ e1
    rw [List.drop_drop] at e1 e2
    obtain ⟨i, b1, b2, b3, _⟩ := tr_suffix _ _ _ _ e2
    simp only [List.length_drop] at a2 b2
    rw [List.drop_drop] at b3
    have := inj _ _ h2 (by omega) b3
    exact .inr (.inr ⟨c, d1, k + 1 + j, d2, ⟨by omega, by omega, e1⟩, ⟨by omega, h2, e2⟩, rfl⟩)

set_option maxRecDepth 100000 in
set_option maxHeartbeats 2000000 in
theorem after_any (ao : Option Addr) (cap : Nat) (L : List Px.Nd) (hL : L.length ≤ 100000) : ∀ (n k d k' : Nat), TreeAt n L k d k' → ∀ w, Nodes w ao L →
    Calls Tryz.prog 43 #[.slice ao L.length cap, .int .i64 (k : Int)] w fun e w' => e = .returned (.int .i64 (k' : Int)) ∧ Same w w' := by
  intro n
  induction n with
  | zero => intro k d k' h; exact absurd h.2.2 (by simp [Px.tr])
  | succ n ih =>
    intro k d k' h w hN
    have IH := hd ih
    have HN := hd hN
    obtain ⟨m, hm, hk, hh⟩ := h.parts
    cases hm
    have hk' := h.2.1
    have hkk := h.1
    obtain ⟨g, rfl, c0, c3⟩ := hN k hk
    have HH := hd hh
    clear h hh ih hN
    generalize L[k] = x at *
    obtain ⟨xk, xt, xn, xc⟩ := x
    simp only at c0 c3 HH
    go_enter Tryz.func43, Tryz.ntmps43
    rcases HH.out with ⟨rfl, rfl, rfl⟩ | ⟨rfl, d1, t1, rfl⟩ | ⟨rfl, d1, k1, d2, t1, t2, rfl⟩
    · go_wp2
      refine wp_loop_rounds 1 ?_
      rw [rounds_succ]
      go_wp2
      go_ret
      exact ⟨by simp, Same.refl _⟩
    · go_wp2
      refine wp_loop_rounds 2 ?_
      rw [rounds_succ]
      go_wp2_with fail
      refine (IH.out (k + 1) d1 k' t1 w HN.out).mono ?_
      rintro x w1 ⟨rfl, hs1⟩
      go_wp2_with fail
      rw [rounds_succ]
      go_wp2
      go_ret
      exact ⟨by simp, hs1⟩
    · have hk1 := t2.1
      go_wp2
      refine wp_loop_rounds 3 ?_
      rw [rounds_succ]
      go_wp2_with fail
      refine (IH.out (k + 1) d1 k1 t1 w HN.out).mono ?_
      rintro x w1 ⟨rfl, hs1⟩
      go_wp2_with fail
      rw [rounds_succ]
      go_wp2_with fail
      refine (IH.out k1 d2 k' t2 w1 (HN.out.same hs1)).mono ?_
      rintro x w2 ⟨rfl, hs2⟩
      go_wp2_with fail
      rw [rounds_succ]
      go_wp2
      go_ret
      exact ⟨by simp, hs1.trans hs2⟩
end Go.Proofs.YtcdgihdhpaipaaaGreatDoor

namespace Go.Proofs.YtcdgihdhpaipaaaGreatDoor
open Go.RowKit
set_option linter.unusedSimpArgs false
set_option linter.unusedVariables false

theorem TreeAt.deep_le {n : Nat} {L : List Px.Nd} {k d k' : Nat} (h : TreeAt n L k d k') : d ≤ L.length := by
  obtain ⟨h1, h2, h3⟩ := h
  obtain ⟨j, a1, a2, a3, a4⟩ := tr_suffix _ _ _ _ h3
  simp only [List.length_drop] at a2
  omega

set_option maxRecDepth 100000 in
set_option maxHeartbeats 2000000 in
theorem depth_any (ao : Option Addr) (cap : Nat) (L : List Px.Nd) (hL : L.length ≤ 100000) : ∀ (n k d k' : Nat), TreeAt n L k d k' → ∀ w, Nodes w ao L →
    Calls Tryz.prog 42 #[.slice ao L.length cap, .int .i64 (k : Int)] w fun e w' => e = .returned (.int .i64 (d : Int)) ∧ Same w w' := by
  intro n
  induction n with
  | zero => intro k d k' h; exact absurd h.2.2 (by simp [Px.tr])
  | succ n ih =>
    intro k d k' h w hN
    have IH := hd ih
    have HN := hd hN
    obtain ⟨m, hm, hk, hh⟩ := h.parts
    cases hm
    have hk' := h.2.1
    have hkk := h.1
    have hdl := h.deep_le
    obtain ⟨g, rfl, c0, c3⟩ := hN k hk
    have HH := hd hh
    clear h hh ih hN
    generalize L[k] = x at *
    obtain ⟨xk, xt, xn, xc⟩ := x
    simp only at c0 c3 HH
    go_enter Tryz.func42, Tryz.ntmps42
    rcases HH.out with ⟨rfl, rfl, rfl⟩ | ⟨rfl, d1, t1, rfl⟩ | ⟨rfl, d1, k1, d2, t1, t2, rfl⟩
    · go_wp2
      refine wp_loop_rounds 1 ?_
      rw [rounds_succ]
      go_wp2
      go_ret
      exact ⟨by simp, Same.refl _⟩
    · go_wp2
      refine wp_loop_rounds 2 ?_
      rw [rounds_succ]
      go_wp2_with fail
      refine (IH.out (k + 1) d1 k' t1 w HN.out).mono ?_
      rintro x w1 ⟨rfl, hs1⟩
      have hd1 : (d1 : Int) > 0 := by
        have := t1.pos
        omega
      go_wp2_with fail
      refine (after_any _ cap L hL n (k + 1) d1 k' t1 w1 (HN.out.same hs1)).mono ?_
      rintro x w2 ⟨rfl, hs2⟩
      go_wp2_with fail
      rw [rounds_succ]
      go_wp2
      go_ret
      exact ⟨by simp, hs1.trans hs2⟩
    · have hk1 := t2.1
      go_wp2
      refine wp_loop_rounds 3 ?_
      rw [rounds_succ]
      go_wp2_with fail
      refine (IH.out (k + 1) d1 k1 t1 w HN.out).mono ?_
      rintro x w1 ⟨rfl, hs1⟩
      have hd1 : (d1 : Int) > 0 := by
        have := t1.pos
        omega
      go_wp2_with fail
      refine (after_any _ cap L hL n (k + 1) d1 k1 t1 w1 (HN.out.same hs1)).mono ?_
      rintro x w2 ⟨rfl, hs2⟩
      have hs12 := hs1.trans hs2
      go_wp2_with fail
      rw [rounds_succ]
      go_wp2_with fail
      refine (IH.out k1 d2 k' t2 w2 (HN.out.same hs12)).mono ?_
      rintro x w3 ⟨rfl, hs3⟩
      have hs13 := hs12.trans hs3
      by_cases hlt : d1 < d2
      · have hlt' : (d2 : Int) > (d1 : Int) := by omega
        have hmax : Hid (max d1 d2 = d2) := by show _ = _; omega
        go_wp2_with fail
        refine (after_any _ cap L hL n k1 d2 k' t2 w3 (HN.out.same hs13)).mono ?_
        rintro x w4 ⟨rfl, hs4⟩
        go_wp2_with fail
        rw [rounds_succ]
        go_wp2
        go_ret
        exact ⟨by simp [hmax.out], hs13.trans hs4⟩
      · have hlt' : ¬ (d2 : Int) > (d1 : Int) := by omega
        have hmax : Hid (max d1 d2 = d1) := by show _ = _; omega
        go_wp2_with fail
        refine (after_any _ cap L hL n k1 d2 k' t2 w3 (HN.out.same hs13)).mono ?_
        rintro x w4 ⟨rfl, hs4⟩
        go_wp2_with fail
        rw [rounds_succ]
        go_wp2
        go_ret
        exact ⟨by simp [hmax.out], hs13.trans hs4⟩

theorem deep_cons {n : Nat} {x : Px.Nd} {r : List Px.Nd} {d : Nat} (h : Px.deep n (x :: r) = some d) : ∃ m, n = m + 1 ∧ ((Px.isExpr x.kind = true ∧ ∃ d1 q d2, Px.tr (m + 1) (x :: r) = some (d1, q) ∧ Px.deep m q = some d2 ∧ d = max d1 d2) ∨ (Px.isExpr x.kind = false ∧ Px.deep m r = some d)) := by
  match n, h with
  | n + 1, h =>
    refine ⟨n, rfl, ?_⟩
    unfold Px.deep at h
    split at h
    · rename_i c
      obtain ⟨y, h1, h2⟩ := Option.bind_eq_some_iff.1 h
      obtain ⟨z, h3, h4⟩ := Option.bind_eq_some_iff.1 h2
      obtain ⟨y1, y2⟩ := y
      cases h4
      exact .inl ⟨c, y1, y2, z, h1, h3, rfl⟩
    · rename_i c
      exact .inr ⟨by simpa using c, h⟩

set_option maxHeartbeats 400000 in
theorem expression_any (k : Int) (w : World) : Calls Tryz.prog 41 #[.int .i64 k] w fun e w' => e = .returned (.bool (Px.isExpr k)) ∧ Same w w' := by
  by_cases h : Px.isExpr k = true
  · have h' := h
    simp only [Px.isExpr, decide_eq_true_eq] at h'
    rw [h]
    clear h
    obtain ⟨h1, h2⟩ := h'
    go_enter Tryz.func41, Tryz.ntmps41
    go_wp2
    go_ret
    exact ⟨by simp, Same.refl _⟩
  · have h0 : Px.isExpr k = false := by simpa using h
    simp only [Px.isExpr, decide_eq_true_eq] at h
    rw [h0]
    clear h0
    by_cases h1 : 14 ≤ k
    · have h2 : ¬ k ≤ 36 := fun q => h ⟨h1, q⟩
      clear h
      go_enter Tryz.func41, Tryz.ntmps41
      go_wp2
      go_ret
      exact ⟨by simp, Same.refl _⟩
    · clear h
      go_enter Tryz.func41, Tryz.ntmps41
      go_wp2
      go_ret
      exact ⟨by simp, Same.refl _⟩

set_option maxRecDepth 100000 in
set_option maxHeartbeats 2000000 in
theorem deepest_any (ao : Option Addr) (cap : Nat) (L : List Px.Nd) (hL : L.length ≤ 100000) (d : Nat) (h : Px.deep (L.length + 1) L = some d) (w : World) (hN : Nodes w ao L) :
    Calls Tryz.prog 18 #[.slice ao L.length cap] w fun e w' => e = .returned (.int .i64 (d : Int)) ∧ Same w w' := by
  have HD := hd h
  have HN := hd hN
  clear h hN
  go_enter Tryz.func18, Tryz.ntmps18
  go_wp2_with fail
  go_loopw [3, 4] (fun b i wr => ∃ (k best d2 : Nat), k ≤ L.length ∧ best ≤ 100000 ∧ b = .int .i64 (best : Int) ∧ i = .int .i64 (k : Int) ∧ Hid ((∃ m, m ≤ L.length + 1 ∧ Px.deep m (L.drop k) = some d2) ∧ d = max best d2) ∧ Hid (Same w wr)) (fun _ i _ => L.length - (intOf i).toNat)
  case atStart => exact ⟨0, 0, d, by omega, by omega, rfl, rfl, ⟨⟨L.length + 1, Nat.le_refl _, HD.out⟩, by simp⟩, Same.refl _⟩
  case round =>
    obtain ⟨k, best, d2, hk, hbest, rfl, rfl, HP, HS⟩ := hrel
    by_cases hlt : k < L.length
    · obtain ⟨g, rfl, c0, c3⟩ := HN.out k hlt
      rw [← HS.out.cell] at c0 c3
      obtain ⟨⟨m, hm, hdp⟩, hdm⟩ := HP.out
      rw [List.drop_eq_getElem_cons hlt] at hdp
      obtain ⟨m', rfl, hcase⟩ := deep_cons hdp
      have HS2 := HS.out
      have HN2 := hd (HN.out.same HS2)
      rcases hcase with ⟨hx, d1, q, d3, t1, t2, hd3⟩ | ⟨hx, t1⟩
      · have htree : ∃ k', TreeAt (m' + 1) L k d1 k' ∧ q = L.drop k' := by
          rw [← List.drop_eq_getElem_cons hlt] at t1
          obtain ⟨j, a1, a2, rfl, _⟩ := tr_suffix _ _ _ _ t1
          rw [List.drop_drop] at t1
          simp only [List.length_drop] at a2
          exact ⟨k + j, ⟨by omega, by omega, t1⟩, by rw [List.drop_drop]⟩
        obtain ⟨k', T, rfl⟩ := htree
        have hT1 := T.1
        have hT2 := T.2.1
        have hdl := T.deep_le
        have HT := hd T
        have HN3 : Hid (∃ d4, (∃ m, m ≤ L.length + 1 ∧ Px.deep m (L.drop k') = some d4) ∧ d = max (max best d1) d4) := ⟨d3, ⟨m', by omega, t2⟩, by omega⟩
        have HX := hd hx
        clear t1 t2 hd3 hdm hdp T hx HP
        generalize L[k] = x at *
        obtain ⟨xk, xt, xn, xc⟩ := x
        simp only at c0 c3 HX
        go_wp2_with fail
        refine (expression_any xk wr).mono ?_
        rintro x w1 ⟨rfl, hs1⟩
        rw [HX.out]
        have hs01 := HS2.trans hs1
        go_wp2_with fail
        refine (depth_any _ cap L hL _ k d1 k' HT.out w1 (HN.out.same hs01)).mono ?_
        rintro x w2 ⟨rfl, hs2⟩
        have hs02 := hs01.trans hs2
        by_cases hlt2 : best < d1
        · have hlt' : (d1 : Int) > (best : Int) := by omega
          go_wp2_with fail
          refine (after_any _ cap L hL _ k d1 k' HT.out w2 (HN.out.same hs02)).mono ?_
          rintro x w3 ⟨rfl, hs3⟩
          have hs03 := hs02.trans hs3
          obtain ⟨d4, e1, e2⟩ := HN3.out
          have E : Hid ((∃ m, m ≤ L.length + 1 ∧ Px.deep m (L.drop k') = some d4) ∧ d = max d1 d4) := ⟨e1, by omega⟩
          clear e1 e2
          go_wp2_with fail
          go_roundw
          case rel => exact ⟨k', d1, d4, hT2, by omega, rfl, by go_num, E, hs03⟩
          case measure => simp [intOf]; omega
        · have hlt' : ¬ (d1 : Int) > (best : Int) := by omega
          go_wp2_with fail
          refine (after_any _ cap L hL _ k d1 k' HT.out w2 (HN.out.same hs02)).mono ?_
          rintro x w3 ⟨rfl, hs3⟩
          have hs03 := hs02.trans hs3
          obtain ⟨d4, e1, e2⟩ := HN3.out
          have E : Hid ((∃ m, m ≤ L.length + 1 ∧ Px.deep m (L.drop k') = some d4) ∧ d = max best d4) := ⟨e1, by omega⟩
          clear e1 e2
          go_wp2_with fail
          go_roundw
          case rel => exact ⟨k', best, d4, hT2, by omega, rfl, by go_num, E, hs03⟩
          case measure => simp [intOf]; omega
      · have E : Hid ((∃ m, m ≤ L.length + 1 ∧ Px.deep m (L.drop (k + 1)) = some d2) ∧ d = max best d2) := ⟨⟨m', by omega, t1⟩, hdm⟩
        have HX := hd hx
        clear t1 hdm hdp hx HP
        generalize L[k] = x at *
        obtain ⟨xk, xt, xn, xc⟩ := x
        simp only at c0 c3 HX
        go_wp2_with fail
        refine (expression_any xk wr).mono ?_
        rintro x w1 ⟨rfl, hs1⟩
        rw [HX.out]
        have hs01 := HS2.trans hs1
        go_wp2_with fail
        go_roundw
        case rel => exact ⟨k + 1, best, d2, by omega, by omega, rfl, by go_num, E, hs01⟩
        case measure => simp [intOf]; omega
    · obtain ⟨⟨m, hm, hdp⟩, hdm⟩ := HP.out
      have e0 : d2 = 0 := by
        rw [List.drop_eq_nil_of_le (by omega)] at hdp
        match m, hdp with
        | m + 1, hdp => unfold Px.deep at hdp; cases hdp; rfl
      have e1 : Hid (d = best) := by show d = best; omega
      clear hdp hdm HP
      go_wp2
      go_ret
      exact ⟨by rw [e1.out]; simp, HS.out⟩
end Go.Proofs.YtcdgihdhpaipaaaGreatDoor

