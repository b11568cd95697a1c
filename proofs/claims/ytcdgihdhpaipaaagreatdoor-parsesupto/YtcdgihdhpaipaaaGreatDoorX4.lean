/- Parts of the proof: RpJ RpK RpL RpM RpN RpO RpP RpQ RpR RpS RpU RpT RpV RpW RpX -/
import Derived.Test.YtcdgihdhpaipaaaGreatDoorX3
import Derived.Test.YtcdgihdhpaipaaaGreatDoorX1
namespace Go.Proofs.YtcdgihdhpaipaaaGreatDoor
open Go.RowKit
set_option linter.unusedSimpArgs false
set_option linter.unusedVariables false

/-- What a minus leaves behind it: ts is what stands from the minus on. -/
def MinusPost (w : World) (B : Nat) (lv : Value) (ts : List Lx.Tok) (sz at_ : Nat) (q : List Lx.Tok) (b : Nat) (x : Ending) (w' : World) : Prop :=
  ∃ r v l, x = .returned v ∧ (∀ p, Px.sees Px.gMinus p = true → p.tail = q → Px.plc sz p = at_ → Px.Ex sz 8 [] p r) ∧ NdIs w' w.heap.size v l ∧ (∀ a q', r = .ok (a, q') → l = a) ∧ (∀ e, r = .error e → l.length ≤ q.length + 1) ∧ NumOk l ∧ PX w' B lv ts sz (stOf r) b ∧ w.grownBy w' (some B)

set_option maxRecDepth 100000 in
set_option maxHeartbeats 2000000 in
theorem minus_any (w : World) (B : Nat) (lv : Value) (ts : List Lx.Tok) (sz at_ : Nat) (q : List Lx.Tok) (b : Nat) (h : PX w B lv ts sz (.ok q) b) (hb : ts.length ≤ b) (hat : at_ ≤ 2000)
    (IH : ∀ w1, PX w1 B lv ts sz (.ok q) b → Calls Tryz.prog 72 #[.pointer (some ⟨B, 0, none⟩), .int .i64 8] w1 (ExPost w1 B lv ts sz 8 q b)) :
    Calls Tryz.prog 99 #[.pointer (some ⟨B, 0, none⟩), .int .i64 (at_ : Int)] w (MinusPost w B lv ts sz at_ q b) := by
  have IH' := hd IH
  clear IH
  obtain ⟨k, hk, hq, hp⟩ := h
  subst hq
  rcases ht : hereT ts sz k with ⟨tk, tt, tp⟩
  have hok := hereT_ok hp
  rw [ht] at hok
  obtain ⟨hk1, hk2, hk3⟩ := hok
  simp only at hk1 hk2 hk3
  have hlen := hp.len
  have HT := hd ht
  clear ht
  go_enter Tryz.func99, Tryz.ntmps99
  go_wp2_with fail
  refine (here_any w B lv ts sz k 0 0 hp).mono ?_
  rintro x w1 ⟨rfl, hb1⟩
  rw [HT.out]
  unfold tokA
  simp only
  have h1 := hp.below hb1
  have hz1 := hb1.size
  have hB1 := h1.blk.lt
  by_cases c16 : tk = 16 ∧ tt = Lx.top
  · obtain ⟨rfl, rfl⟩ := c16
    have hkl : k < ts.length := by
      by_cases hlt : k < ts.length
      · exact hlt
      · have e2 : (⟨16, Lx.top, tp⟩ : Lx.Tok) = ⟨0, [], sz⟩ := by rw [← HT.out]; simp [hereT, hlt]
        cases e2
    obtain ⟨c0, c1, c2, c3, c4⟩ := h1.cells
    have f1 := h1.blk.free 1
    go_wp2_with fail
    refine (leafN_any 16 _ ⟨#[]⟩ _).mono ?_
    rintro x w3 ⟨v, rfl, hv, hb3⟩
    obtain ⟨ao, cap, rfl, _⟩ := hv.slice
    go_wp2
    go_ret
    have e0 : ts.drop k = ⟨16, Lx.top, tp⟩ :: ts.drop (k + 1) := by
      rw [List.drop_eq_getElem_cons hkl, ← HT.out]; simp [hereT, hkl]
    refine ⟨.ok (Px.leaf 16 [] Px.bot, ts.drop (k + 1)), _, _, rfl, ?_, hv.lower (by first | omega | (simp; omega)), fun a q' e => (by cases e; rfl), fun e he => (by cases he), ?_, ⟨k + 1, by omega, rfl, ((h1.step (by omega)).below (by go_grown)).below hb3⟩, ?_⟩
    · intro p hp1 hp2 hp3
      have := Px.Ex.top (sz := sz) (a := []) hp1 (by rw [hp2, e0]; rfl)
      rw [hp2, e0] at this
      exact this
    · intro x hx
      simp [Px.leaf] at hx
      subst hx
      simp [Px.bot]
    · exact grown_trans (Below.grownBy hb1) (grown_trans (psAt_grown _) (grown_trans (Below.grownBy (by go_grown)) (Below.grownBy hb3)))
  · have HC : Hid (tk ≠ 16 ∨ tt ≠ Lx.top) := by
      show _ ∨ _
      by_cases h : tk = 16
      · right; intro h'; exact c16 ⟨h, h'⟩
      · left; exact h
    have hT : Hid (Px.isTop (ts.drop k) = false) := by
      show _ = _
      by_cases hlt : k < ts.length
      · have e0 : ts.drop k = ⟨tk, tt, tp⟩ :: ts.drop (k + 1) := by
          rw [List.drop_eq_getElem_cons hlt, ← HT.out]; simp [hereT, hlt]
        rw [e0]
        rcases HC.out with h | h <;> simp [Px.isTop, h]
      · rw [List.drop_eq_nil_of_le (by omega)]; rfl
    clear c16
    have hcase : (((tk : Int) == 16) = false) ∨ (tk = 16 ∧ (tt == [57, 50, 50, 51, 51, 55, 50, 48, 51, 54, 56, 53, 52, 55, 55, 53, 56, 48, 56]) = false) := by
      by_cases h : tk = 16
      · right
        refine ⟨h, beq_eq_false_iff_ne.2 ?_⟩
        rcases HC.out with h' | h'
        · exact absurd h h'
        · exact h'
      · left; rw [beq_eq_false_iff_ne]; omega
    have key : ∀ Q : Prop, Q → Q := fun _ h => h
    rcases hcase with c1' | ⟨rfl, c2'⟩
    all_goals
      go_wp2_with fail
      refine (IH'.out _ ⟨k, hk, rfl, h1.below (by go_grown)⟩).mono ?_
      rintro x w3 ⟨r, v, l, rfl, hr, hl, hok, her, hnum, h3, hb3⟩
      have HN := hd hnum
      have HR := hd hr
      have HOK := hd hok
      have HER := hd her
      have hz3 := hb3.size
      clear hnum hr hok her
      have hB3 := h3.lt
      have hln : l.length ≤ 2000 := by
        match r, HR, HOK, HER with
        | .error e, _, _, her => exact Nat.le_trans (her.out e rfl) (by simp; omega)
        | .ok (a, q1), hr, hok, _ =>
          obtain ⟨n, hn⟩ := hr.out
          have := ((Px.ex_len n 8 [] _ a q1 hn).1 (by omega)).2
          rw [hok.out a q1 rfl]
          simp at this
          omega
      have hz3' : w1.heap.size < w3.heap.size := by simp at hz3; omega
      have hbl : B < (w1.alloc (.cells #[.int .i64 (0 : Int), .string ⟨tt.toArray⟩, .int .i64 (tp : Int)] 44)).heap.size := by simp; omega
      have G3 : w.grownBy w3 (some B) := grown_trans (Below.grownBy hb1) (grown_trans (Below.grownBy (by go_grown)) hb3)
      have hl' : NdIs w3 w.heap.size v l := hl.lower (by simp; omega)
      obtain ⟨ao, cap, rfl, hcell⟩ := hl'.slice
      clear hl hb3
      match r, HR, HOK, HER, h3 with
      | .error (p, c), HR, HOK, HER, h3 =>
        obtain ⟨hc0, k3, hk3', h3⟩ := h3
        obtain ⟨c0, c1, c2, c3, c4⟩ := h3.cells
        have hne : ((c : Int) != 0) = true := by rw [bne_iff_ne]; omega
        go_wp2_with fail
        refine (over_any 19 w3 w.heap.size 0 _ _ l [] hl' (NdIs.nil _ _) (by simp; omega)).mono ?_
        rintro x w4 ⟨v4, rfl, ho4, hb4⟩
        have hv4 := NdIs.of_own ho4
        obtain ⟨ao4, cap4, rfl, _⟩ := hv4.slice
        go_wp2
        go_ret
        refine ⟨.error (p, c), _, _, rfl, ?_, hv4.lower (by have := G3.size; omega), fun _ _ e => (by cases e), ?_, ?_, ⟨hc0, k3, hk3', h3.below hb4⟩, grown_trans G3 (Below.grownBy hb4)⟩
        · intro p' hp1 hp2 hp3
          exact Px.Ex.neg (r := .error (p, c)) hp1 (by rw [hp2]; exact hT.out) (by rw [hp2]; exact HR.out) rfl
        · intro e he
          have := HER.out _ rfl
          simp only [overL, List.append_nil, List.length_cons]
          omega
        · intro y hy
          simp only [overL, List.append_nil, List.mem_cons] at hy
          rcases hy with rfl | hy
          · simp
          · exact HN.out y hy
      | .ok (a, q1), HR, HOK, HER, h3 =>
        obtain ⟨k3, hk3', hq3, h3⟩ := h3
        obtain ⟨c0, c1, c2, c3, c4⟩ := h3.cells
        have hla := HOK.out a q1 rfl
        subst hla
        have hne : l ≠ [] := by
          obtain ⟨n, hn⟩ := HR.out
          exact ((Px.ex_len n 8 [] _ l q1 hn).1 (by omega)).1
        match l, hne, HR, hl', hcell, HN, hln with
        | y :: l', _, HR, hl', hcell, HN, hln =>
          obtain ⟨g, rfl, hg, d0, d1, d2, d3⟩ := hcell 0 (by simp)
          simp only [Nat.zero_mul, Nat.zero_add, List.getElem_cons_zero] at d0 d1 d2 d3
          have hyn := HN.out y (List.mem_cons_self ..)
          have hlp : ((y :: l').length : Int) > 0 := by simp <;> omega
          by_cases c1' : y.kind = 16
          · by_cases c2' : y.num = -9223372036854775808
            · have b1 : (y.num == -9223372036854775808) = true := beq_iff_eq.2 c2'
              have HC2 := hd c2'
              have HC1 := hd c1'
              rw [c1'] at d0
              rw [c2'] at d2
              clear c1' c2' b1
              go_wp2_with fail
              refine (stop_ps w3 B lv ts sz k3 0 h3 3 at_ (by omega) hat).mono ?_
              rintro x w4 ⟨rfl, h4, hb4⟩
              go_wp2
              go_ret
              refine ⟨.error (at_, 3), _, [], rfl, ?_, NdIs.nil _ _, fun _ _ e => (by cases e), fun _ _ => Nat.zero_le _, fun x hx => (by simp at hx), ⟨by omega, k3, by omega, h4⟩, grown_trans G3 hb4⟩
              intro p' hp1 hp2 hp3
              refine Px.Ex.neg (r := .ok (y :: l', q1)) hp1 (by rw [hp2]; exact hT.out) (by rw [hp2]; exact HR.out) ?_
              show Px.negate _ (y :: l') q1 = _
              simp [Px.negate, HC1.out, HC2.out, Px.bot, hp3]
            · have b1 : (y.num == -9223372036854775808) = false := beq_eq_false_iff_ne.2 c2'
              have HC2 := hd c2'
              have HC1 := hd c1'
              rw [c1'] at d0
              generalize hyn' : y.num = z at *
              clear c1'
              go_wp2_with fail
              refine (leafN_any 16 (-z) ⟨#[]⟩ _).mono ?_
              rintro x w4 ⟨v4, rfl, hv4, hb4⟩
              obtain ⟨ao4, cap4, rfl, _⟩ := hv4.slice
              go_wp2
              go_ret
              refine ⟨.ok (Px.leaf 16 [] (-z), q1), _, _, rfl, ?_, hv4.lower (by have := G3.size; omega), fun a q' e => (by cases e; rfl), fun _ e => (by cases e), ?_, ⟨k3, hk3', hq3, h3.below hb4⟩, grown_trans G3 (Below.grownBy hb4)⟩
              · intro p' hp1 hp2 hp3
                refine Px.Ex.neg (r := .ok (y :: l', q1)) hp1 (by rw [hp2]; exact hT.out) (by rw [hp2]; exact HR.out) ?_
                show Px.negate _ (y :: l') q1 = _
                simp only [Px.negate, HC1.out, hyn', Px.bot, ne_eq, not_true_eq_false, if_false, if_neg HC2.out]
              · intro x hx
                simp [Px.leaf] at hx
                subst hx
                simp only
                have := HC2.out
                omega
          · have b1 : (y.kind != 16) = true := by rw [bne_iff_ne]; exact c1'
            have HC1 := hd c1'
            clear c1'
            go_wp2_with fail
            refine (over_any 19 w3 w.heap.size 0 _ _ (y :: l') [] hl' (NdIs.nil _ _) (by simp only [List.length_nil]; omega)).mono ?_
            rintro x w4 ⟨v4, rfl, ho4, hb4⟩
            have hv4 := NdIs.of_own ho4
            obtain ⟨ao4, cap4, rfl, _⟩ := hv4.slice
            go_wp2
            go_ret
            refine ⟨.ok (Px.over1 19 (y :: l'), q1), _, _, rfl, ?_, hv4.lower (by have := G3.size; omega), fun a q' e => (by cases e; simp [overL, Px.over1]), fun _ e => (by cases e), ?_, ⟨k3, hk3', hq3, h3.below hb4⟩, grown_trans G3 (Below.grownBy hb4)⟩
            · intro p' hp1 hp2 hp3
              refine Px.Ex.neg (r := .ok (y :: l', q1)) hp1 (by rw [hp2]; exact hT.out) (by rw [hp2]; exact HR.out) ?_
              show Px.negate _ (y :: l') q1 = _
              simp only [Px.negate, if_pos HC1.out]
            · intro x hx
              simp only [overL, List.append_nil, List.mem_cons] at hx
              rcases hx with rfl | hx
              · simp
              · exact HN.out x (List.mem_cons.2 hx)
end Go.Proofs.YtcdgihdhpaipaaaGreatDoor

namespace Go.Proofs.YtcdgihdhpaipaaaGreatDoor
open Go.RowKit
set_option linter.unusedSimpArgs false
set_option linter.unusedVariables false

theorem NumOk.over {k : Int} {a b : List Px.Nd} (ha : NumOk a) (hb : NumOk b) : NumOk (overL k a b) := by
  intro x hx
  simp only [overL, List.mem_cons, List.mem_append] at hx
  rcases hx with rfl | hx | hx
  · simp
  · exact ha x hx
  · exact hb x hx
theorem NumOk.nil : NumOk [] := fun x hx => by simp at hx

/-- The token next is passed over. -/
theorem PX.step {w : World} {B : Nat} {lv : Value} {ts : List Lx.Tok} {sz k : Nat} {q : List Lx.Tok} {b : Nat} (h : PS w B lv ts sz k 0 0) (hk : k < ts.length) (hq : q = ts.drop k) : PX (w.setCell ⟨B, 1, none⟩ (.int .i64 ((k : Int) + 1))) B lv ts sz (.ok q.tail) b := by
  have hl := h.len
  exact ⟨k + 1, by omega, by rw [hq, List.tail_drop], h.step (by omega)⟩

set_option maxRecDepth 100000 in
set_option maxHeartbeats 2000000 in
theorem compared_any (w : World) (B : Nat) (lv : Value) (ts : List Lx.Tok) (sz : Nat) (q : List Lx.Tok) (b : Nat) (h : PX w B lv ts sz (.ok q) b) (hb : ts.length ≤ b)
    (IH : ∀ w1 q1, (q1 = q ∨ q1.length < q.length) → PX w1 B lv ts sz (.ok q1) b → Calls Tryz.prog 72 #[.pointer (some ⟨B, 0, none⟩), .int .i64 5] w1 (ExPost w1 B lv ts sz 5 q1 b)) :
    Calls Tryz.prog 98 #[.pointer (some ⟨B, 0, none⟩)] w (ExPost w B lv ts sz 4 q b) := by
  have IH' := hd IH
  clear IH
  have hB := h.lt
  have hql : q.length ≤ 2000 := by
    obtain ⟨k, _, rfl, hp⟩ := h
    have := hp.len
    simp; omega
  go_enter Tryz.func98, Tryz.ntmps98
  go_wp2_with fail
  refine (IH'.out w q (.inl rfl) h).mono ?_
  rintro x w1 ⟨r, v, l, rfl, hr, hl, hok, her, hnum, h1, hb1⟩
  have HN := hd hnum
  have HR := hd hr
  have HOK := hd hok
  have HER := hd her
  clear hnum hr hok her
  have hz1 := hb1.size
  have hln : l.length ≤ 2000 := by
    match r, HR, HOK, HER with
    | .error e, _, _, her => exact Nat.le_trans (her.out e rfl) hql
    | .ok (a, q1), hr, hok, _ =>
      obtain ⟨n, hn⟩ := hr.out
      have := ((Px.ex_len n 5 [] _ a q1 hn).1 (by omega)).2
      rw [hok.out a q1 rfl]
      omega
  obtain ⟨ao, cap, rfl, _⟩ := hl.slice
  go_wp2_with fail
  refine (takes_any _ _ B lv ts sz (stOf r) b h1).mono ?_
  rintro x w2 ⟨rfl, h2, hb2⟩
  have hz2 := hb2.size
  have hl2 : NdIs w2 w.heap.size (.slice ao l.length cap) l := hl.keep hb2 hB
  have G2 : w.grownBy w2 (some B) := grown_trans hb1 hb2
  clear hb1 hb2 h1 hl
  match r, HR, HOK, HER, h2 with
  | .error e, HR, HOK, HER, h2 =>
    have e1 : seesX (ByteArray.mk #[73, 83]).data.toList (stOf (.error e : Px.Res (List Px.Nd))) = false := rfl
    rw [e1]
    go_wp2_with fail
    refine (oper_any 4 _ B lv ts sz _ b (by omega) h2).mono ?_
    rintro x w3 ⟨rfl, hb3⟩
    have e2 : operX 4 (takeX (ByteArray.mk #[73, 83]).data.toList (stOf (.error e : Px.Res (List Px.Nd)))) = 0 := rfl
    rw [e2]
    go_wp2
    go_ret
    exact ⟨.error e, _, l, rfl, Px.Ex.cmp (r := .error e) HR.out rfl, hl2.below hb3, fun _ _ e => (by cases e), fun e' _ => HER.out e rfl, HN.out, h2.below hb3, grown_trans G2 (Below.grownBy hb3)⟩
  | .ok (a, q1), HR, HOK, HER, h2 =>
    have hla := HOK.out a q1 rfl
    subst hla
    have hlen : l ≠ [] ∧ l.length + q1.length ≤ q.length := by
      obtain ⟨n, hn⟩ := HR.out
      exact (Px.ex_len n 5 [] _ l q1 hn).1 (by omega)
    have hl0 := hd hlen.1
    have hl1 := hlen.2
    clear hlen
    cases his : Px.sees Px.kIS q1 with
    | true =>
      have hs1 := Px.sees_len his
      have HIS := hd his
      have e1 : seesX (ByteArray.mk #[73, 83]).data.toList (stOf (.ok (l, q1))) = true := his
      have e2 : takeX (ByteArray.mk #[73, 83]).data.toList (stOf (.ok (l, q1))) = .ok q1.tail := if_pos his
      rw [e2] at h2
      rw [e1]
      clear e1 e2 his
      go_wp2_with fail
      refine (takes_any _ _ B lv ts sz (.ok q1.tail) b h2).mono ?_
      rintro x w3 ⟨rfl, h3, hb3⟩
      have hz3 := hb3.size
      have hl3 := hl2.keep hb3 hB
      have G3 := grown_trans G2 hb3
      clear hb3 hl2 h2 G2
      cases hno : Px.sees Px.kNOT q1.tail with
      | true =>
        have hs2 := Px.sees_len hno
        have HNO := hd hno
        have e1 : seesX (ByteArray.mk #[78, 79, 84]).data.toList (.ok q1.tail) = true := hno
        have e2 : takeX (ByteArray.mk #[78, 79, 84]).data.toList (.ok q1.tail) = .ok q1.tail.tail := if_pos hno
        rw [e2] at h3
        rw [e1]
        clear e1 e2 hno
        go_wp2_with fail
        refine (must_any ⟨#[78, 85, 76, 76]⟩ w3.heap.size _ B lv ts sz (.ok q1.tail.tail) b (h3.below (by go_grown)) hb ((Blk.new w3 _ _).cell 0)).mono ?_
        rintro x w4 ⟨rfl, h4, hb4⟩
        have hz4 := hb4.size
        have hl4 := (hl3.below (w' := w3.alloc _) (by go_grown)).keep hb4 hB
        have G4 := grown_trans G3 (grown_trans (Below.grownBy (by go_grown)) hb4)
        go_wp2_with fail
        refine (over_any 22 w4 w.heap.size 0 _ _ l [] hl4 (NdIs.nil _ _) (by simp only [List.length_nil]; omega)).mono ?_
        rintro x w5 ⟨v5, rfl, ho5, hb5⟩
        have hv5 := NdIs.of_own ho5
        obtain ⟨ao5, cap5, rfl, _⟩ := hv5.slice
        go_wp2
        go_ret
        have hG := G4.size
        refine ⟨if Px.sees Px.kNULL q1.tail.tail = true then .ok (Px.over1 22 l, q1.tail.tail.tail) else .error (Px.plc sz q1.tail.tail, 4), _, _, rfl, Px.Ex.cmp (r := .ok (l, q1)) HR.out (Px.tail4_isnot HIS.out HNO.out), hv5.lower (by omega), ?_, ?_, NumOk.over HN.out NumOk.nil, ?_, grown_trans G4 (Below.grownBy hb5)⟩
        · intro a' q' e
          split at e
          · cases e; simp [overL, Px.over1]
          · cases e
        · intro e he
          simp only [overL, List.append_nil, List.length_cons]
          omega
        · have e3 : mustX sz (ByteArray.mk #[78, 85, 76, 76]).data.toList (.ok q1.tail.tail) = stOf (if Px.sees Px.kNULL q1.tail.tail = true then .ok (Px.over1 22 l, q1.tail.tail.tail) else .error (Px.plc sz q1.tail.tail, 4)) := by
            show (if Px.sees Px.kNULL q1.tail.tail = true then _ else _) = _
            split <;> rfl
          rw [← e3]; exact h4.below hb5
      | false =>
        have HNO := hd hno
        have e1 : seesX (ByteArray.mk #[78, 79, 84]).data.toList (.ok q1.tail) = false := hno
        have e2 : takeX (ByteArray.mk #[78, 79, 84]).data.toList (.ok q1.tail) = .ok q1.tail := take_same e1
        rw [e2] at h3
        rw [e1]
        clear e1 e2 hno
        go_wp2_with fail
        refine (must_any ⟨#[78, 85, 76, 76]⟩ w3.heap.size _ B lv ts sz (.ok q1.tail) b (h3.below (by go_grown)) hb ((Blk.new w3 _ _).cell 0)).mono ?_
        rintro x w4 ⟨rfl, h4, hb4⟩
        have hz4 := hb4.size
        have hl4 := (hl3.below (w' := w3.alloc _) (by go_grown)).keep hb4 hB
        have G4 := grown_trans G3 (grown_trans (Below.grownBy (by go_grown)) hb4)
        go_wp2_with fail
        refine (over_any 21 w4 w.heap.size 0 _ _ l [] hl4 (NdIs.nil _ _) (by simp only [List.length_nil]; omega)).mono ?_
        rintro x w5 ⟨v5, rfl, ho5, hb5⟩
        have hv5 := NdIs.of_own ho5
        obtain ⟨ao5, cap5, rfl, _⟩ := hv5.slice
        go_wp2
        go_ret
        have hG := G4.size
        refine ⟨if Px.sees Px.kNULL q1.tail = true then .ok (Px.over1 21 l, q1.tail.tail) else .error (Px.plc sz q1.tail, 4), _, _, rfl, Px.Ex.cmp (r := .ok (l, q1)) HR.out (Px.tail4_is HIS.out HNO.out), hv5.lower (by omega), ?_, ?_, NumOk.over HN.out NumOk.nil, ?_, grown_trans G4 (Below.grownBy hb5)⟩
        · intro a' q' e
          split at e
          · cases e; simp [overL, Px.over1]
          · cases e
        · intro e he
          simp only [overL, List.append_nil, List.length_cons]
          omega
        · have e3 : mustX sz (ByteArray.mk #[78, 85, 76, 76]).data.toList (.ok q1.tail) = stOf (if Px.sees Px.kNULL q1.tail = true then .ok (Px.over1 21 l, q1.tail.tail) else .error (Px.plc sz q1.tail, 4)) := by
            show (if Px.sees Px.kNULL q1.tail = true then _ else _) = _
            split <;> rfl
          rw [← e3]; exact h4.below hb5
    | false =>
      have HIS := hd his
      have e1 : seesX (ByteArray.mk #[73, 83]).data.toList (stOf (.ok (l, q1))) = false := his
      have e2 : takeX (ByteArray.mk #[73, 83]).data.toList (stOf (.ok (l, q1))) = .ok q1 := take_same e1
      rw [e2] at h2
      rw [e1]
      clear e1 e2 his
      go_wp2_with fail
      refine (oper_any 4 _ B lv ts sz _ b (by omega) h2).mono ?_
      rintro x w3 ⟨rfl, hb3⟩
      have hz3 := hb3.size
      have hl3 := hl2.below hb3
      have h3 := h2.below hb3
      have G3 := grown_trans G2 (Below.grownBy hb3)
      clear hb3 hl2 h2 G2
      have e3 : operX 4 (.ok q1) = Px.oper 4 q1 := rfl
      rw [e3]
      by_cases hop : Px.oper 4 q1 = 0
      · have HOP := hd hop
        rw [hop]
        clear hop
        go_wp2
        go_ret
        exact ⟨.ok (l, q1), _, l, rfl, Px.Ex.cmp (r := .ok (l, q1)) HR.out (Px.tail4_none HIS.out HOP.out), hl3, fun a q' e => (by cases e; rfl), fun e he => (by cases he), HN.out, h3, G3⟩
      · have hopl := Px.oper_len hop
        have HOP := hd hop
        have hrg := Px.oper_range hop
        obtain ⟨k3, hk3, hq3, hp3⟩ := h3
        have hk3' : k3 < ts.length := by
          rw [hq3] at hopl
          simp at hopl
          omega
        have hstep : PX (w3.setCell ⟨B, 1, none⟩ (.int .i64 ((k3 : Int) + 1))) B lv ts sz (.ok q1.tail) b := PX.step hp3 hk3' hq3
        have hB3 := hp3.blk.lt
        obtain ⟨c0, c1, c2, c3, c4⟩ := hp3.cells
        have f1 := hp3.blk.free 1
        have hle := hp3.len
        generalize hopn : Px.oper 4 q1 = op at *
        have n0 : ((op : Int) == 0) = false := by rw [beq_eq_false_iff_ne]; omega
        clear hop
        go_wp2_with fail
        refine (IH'.out _ q1.tail (.inr (by omega)) hstep).mono ?_
        rintro x w4 ⟨r4, v4, l4, rfl, hr4, hv4, hok4, her4, hnum4, h4, hb4⟩
        have HN4 := hd hnum4
        have HR4 := hd hr4
        have HOK4 := hd hok4
        have HER4 := hd her4
        clear hnum4 hr4 hok4 her4
        have hz4 := hb4.size
        have hln4 : l4.length ≤ q1.tail.length := by
          match r4, HR4, HOK4, HER4 with
          | .error e, _, _, her => exact her.out e rfl
          | .ok (a, q2), hr, hok, _ =>
            obtain ⟨n, hn⟩ := hr.out
            have := ((Px.ex_len n 5 [] _ a q2 hn).1 (by omega)).2
            rw [hok.out a q2 rfl]
            omega
        obtain ⟨ao4, cap4, rfl, _⟩ := hv4.slice
        have hl4 := (hl3.keep (psAt_grown (.int .i64 ((k3 : Int) + 1))) hB).keep hb4 hB
        have G4 := grown_trans G3 (grown_trans (psAt_grown _) hb4)
        go_wp2_with fail
        refine (over_any op w4 w.heap.size _ _ _ l l4 hl4 hv4 (by omega)).mono ?_
        rintro x w5 ⟨v5, rfl, ho5, hb5⟩
        have hv5 := NdIs.of_own ho5
        obtain ⟨ao5, cap5, rfl, _⟩ := hv5.slice
        go_wp2
        go_ret
        have hG := G4.size
        subst hopn
        match r4, HR4, HOK4, HER4, h4 with
        | .error e, HR4, HOK4, HER4, h4 =>
          refine ⟨.error e, _, _, rfl, Px.Ex.cmp (r := .ok (l, q1)) HR.out (Px.tail4_op (r := .error e) HIS.out HOP.out HR4.out rfl), hv5.lower (by omega), fun _ _ e => (by cases e), ?_, NumOk.over HN.out HN4.out, h4.below hb5, grown_trans G4 (Below.grownBy hb5)⟩
          intro e he
          simp only [overL, List.length_append, List.length_cons]
          omega
        | .ok (a4, q4), HR4, HOK4, HER4, h4 =>
          have hla := HOK4.out a4 q4 rfl
          subst hla
          have hne4 : l4 ≠ [] := by
            obtain ⟨n, hn⟩ := HR4.out
            exact ((Px.ex_len n 5 [] _ l4 q4 hn).1 (by omega)).1
          refine ⟨.ok (Px.over2 (Px.oper 4 q1) l l4, q4), _, _, rfl, Px.Ex.cmp (r := .ok (l, q1)) HR.out (Px.tail4_op (r := .ok (l4, q4)) HIS.out HOP.out HR4.out rfl), hv5.lower (by omega), ?_, fun e he => (by cases he), NumOk.over HN.out HN4.out, h4.below hb5, grown_trans G4 (Below.grownBy hb5)⟩
          intro a q' e
          cases e
          simp [overL, Px.over2, hne4]
end Go.Proofs.YtcdgihdhpaipaaaGreatDoor

namespace Go.Proofs.YtcdgihdhpaipaaaGreatDoor
open Go.RowKit
set_option linter.unusedSimpArgs false
set_option linter.unusedVariables false

set_option maxRecDepth 100000 in
set_option maxHeartbeats 2000000 in
/-- Behind an error. -/
theorem expr_off (m : Int) (w : World) (B : Nat) (lv : Value) (ts : List Lx.Tok) (sz : Nat) (e : Nat × Nat) (b : Nat) (h : PX w B lv ts sz (.error e) b) :
    Calls Tryz.prog 72 #[.pointer (some ⟨B, 0, none⟩), .int .i64 m] w fun x w' => x = .returned (.slice none 0 0) ∧ w' = w := by
  obtain ⟨p, c⟩ := e
  obtain ⟨hc0, k, hk, hp⟩ := h
  obtain ⟨c0, c1, c2, c3, c4⟩ := hp.cells
  have hB := hp.blk.lt
  have n0 : ((c : Int) != 0) = true := by rw [bne_iff_ne]; omega
  go_enter Tryz.func72, Tryz.ntmps72
  go_wp2
  go_ret
  exact ⟨rfl, rfl⟩

set_option maxRecDepth 100000 in
set_option maxHeartbeats 2000000 in
theorem expr_3 (w : World) (B : Nat) (lv : Value) (ts : List Lx.Tok) (sz : Nat) (q : List Lx.Tok) (b : Nat) (h : PX w B lv ts sz (.ok q) b) (hb : ts.length ≤ b)
    (IH4 : ∀ w1, PX w1 B lv ts sz (.ok q) b → Calls Tryz.prog 72 #[.pointer (some ⟨B, 0, none⟩), .int .i64 4] w1 (ExPost w1 B lv ts sz 4 q b))
    (IH3 : Px.sees Px.kNOT q = true → ∀ w1, PX w1 B lv ts sz (.ok q.tail) b → Calls Tryz.prog 72 #[.pointer (some ⟨B, 0, none⟩), .int .i64 3] w1 (ExPost w1 B lv ts sz 3 q.tail b)) :
    Calls Tryz.prog 72 #[.pointer (some ⟨B, 0, none⟩), .int .i64 3] w (ExPost w B lv ts sz 3 q b) := by
  have I4 := hd IH4
  have I3 := hd IH3
  clear IH4 IH3
  have HX := hd h
  obtain ⟨k, hk, hq, hp⟩ := h
  obtain ⟨c0, c1, c2, c3, c4⟩ := hp.cells
  have hB := hp.blk.lt
  have hql : q.length ≤ 2000 := by
    have := hp.len
    rw [hq]; simp; omega
  go_enter Tryz.func72, Tryz.ntmps72
  go_wp2_with fail
  refine (takes_any _ _ B lv ts sz (.ok q) b HX.out).mono ?_
  rintro x w1 ⟨rfl, h1, hb1⟩
  have hz1 := hb1.size
  cases hno : Px.sees Px.kNOT q with
  | true =>
    have hs2 := Px.sees_len hno
    have HNO := hd hno
    have e1 : seesX (ByteArray.mk #[78, 79, 84]).data.toList (.ok q) = true := hno
    have e2 : takeX (ByteArray.mk #[78, 79, 84]).data.toList (.ok q) = .ok q.tail := if_pos hno
    rw [e2] at h1
    rw [e1]
    clear e1 e2 hno
    go_wp2_with fail
    refine (I3.out HNO.out _ h1).mono ?_
    rintro x w2 ⟨r, v, l, rfl, hr, hl, hok, her, hnum, h2, hb2⟩
    have HN := hd hnum
    have HR := hd hr
    have HOK := hd hok
    have HER := hd her
    clear hnum hr hok her
    have hz2 := hb2.size
    have hln : l.length ≤ q.tail.length := by
      match r, HR, HOK, HER with
      | .error e, _, _, her => exact her.out e rfl
      | .ok (a, q1), hr, hok, _ =>
        obtain ⟨n, hn⟩ := hr.out
        have := ((Px.ex_len n 3 [] _ a q1 hn).1 (by omega)).2
        rw [hok.out a q1 rfl]
        omega
    obtain ⟨ao, cap, rfl, _⟩ := hl.slice
    have G2 := grown_trans hb1 hb2
    go_wp2_with fail
    refine (over_any 20 w2 _ 0 _ _ l [] hl (NdIs.nil _ _) (by simp only [List.length_nil]; omega)).mono ?_
    rintro x w5 ⟨v5, rfl, ho5, hb5⟩
    have hv5 := NdIs.of_own ho5
    obtain ⟨ao5, cap5, rfl, _⟩ := hv5.slice
    go_wp2
    go_ret
    have hG := G2.size
    match r, HR, HOK, HER, h2 with
    | .error e, HR, HOK, HER, h2 =>
      refine ⟨.error e, _, _, rfl, Px.Ex.not (r := .error e) HNO.out HR.out rfl, hv5.lower (by omega), fun _ _ e => (by cases e), ?_, NumOk.over HN.out NumOk.nil, h2.below hb5, grown_trans G2 (Below.grownBy hb5)⟩
      intro e he
      simp only [overL, List.append_nil, List.length_cons]
      omega
    | .ok (a, q1), HR, HOK, HER, h2 =>
      have hla := HOK.out a q1 rfl
      subst hla
      refine ⟨.ok (Px.over1 20 l, q1), _, _, rfl, Px.Ex.not (r := .ok (l, q1)) HNO.out HR.out rfl, hv5.lower (by omega), ?_, fun e he => (by cases he), NumOk.over HN.out NumOk.nil, h2.below hb5, grown_trans G2 (Below.grownBy hb5)⟩
      intro a q' e
      cases e
      simp [overL, Px.over1]
  | false =>
    have HNO := hd hno
    have e1 : seesX (ByteArray.mk #[78, 79, 84]).data.toList (.ok q) = false := hno
    have e2 : takeX (ByteArray.mk #[78, 79, 84]).data.toList (.ok q) = .ok q := take_same e1
    rw [e2] at h1
    rw [e1]
    clear e1 e2 hno
    go_wp2_with fail
    refine (I4.out _ h1).mono ?_
    rintro x w2 ⟨r, v, l, rfl, hr, hl, hok, her, hnum, h2, hb2⟩
    obtain ⟨ao, cap, rfl, _⟩ := hl.slice
    go_wp2
    go_ret
    exact ⟨r, _, l, rfl, Px.Ex.up3 HNO.out hr, hl.lower hz1, hok, her, hnum, h2, grown_trans hb1 hb2⟩

set_option maxRecDepth 100000 in
set_option maxHeartbeats 2000000 in
theorem expr_4 (w : World) (B : Nat) (lv : Value) (ts : List Lx.Tok) (sz : Nat) (q : List Lx.Tok) (b : Nat) (h : PX w B lv ts sz (.ok q) b) (hb : ts.length ≤ b)
    (IH : ∀ w1 q1, (q1 = q ∨ q1.length < q.length) → PX w1 B lv ts sz (.ok q1) b → Calls Tryz.prog 72 #[.pointer (some ⟨B, 0, none⟩), .int .i64 5] w1 (ExPost w1 B lv ts sz 5 q1 b)) :
    Calls Tryz.prog 72 #[.pointer (some ⟨B, 0, none⟩), .int .i64 4] w (ExPost w B lv ts sz 4 q b) := by
  have I := hd IH
  clear IH
  have HX := hd h
  obtain ⟨k, hk, hq, hp⟩ := h
  obtain ⟨c0, c1, c2, c3, c4⟩ := hp.cells
  have hB := hp.blk.lt
  go_enter Tryz.func72, Tryz.ntmps72
  go_wp2_with fail
  refine (compared_any w B lv ts sz q b HX.out hb I.out).mono ?_
  rintro x w2 ⟨r, v, l, rfl, hr, hl, hok, her, hnum, h2, hb2⟩
  obtain ⟨ao, cap, rfl, _⟩ := hl.slice
  go_wp2
  go_ret
  exact ⟨r, _, l, rfl, hr, hl, hok, her, hnum, h2, hb2⟩

set_option maxRecDepth 100000 in
set_option maxHeartbeats 2000000 in
theorem expr_9 (w : World) (B : Nat) (lv : Value) (ts : List Lx.Tok) (sz : Nat) (q : List Lx.Tok) (b : Nat) (h : PX w B lv ts sz (.ok q) b) (hb : ts.length ≤ b)
    (IH : Px.sees Px.gOpen q = true → ∀ w1, PX w1 B lv ts sz (.ok q.tail) b → Calls Tryz.prog 72 #[.pointer (some ⟨B, 0, none⟩), .int .i64 1] w1 (ExPost w1 B lv ts sz 1 q.tail b)) :
    Calls Tryz.prog 72 #[.pointer (some ⟨B, 0, none⟩), .int .i64 9] w (ExPost w B lv ts sz 9 q b) := by
  have I := hd IH
  clear IH
  have HX := hd h
  obtain ⟨k, hk, hq, hp⟩ := h
  obtain ⟨c0, c1, c2, c3, c4⟩ := hp.cells
  have hB := hp.blk.lt
  go_enter Tryz.func72, Tryz.ntmps72
  go_wp2_with fail
  refine (leaf_any w B lv ts sz q b HX.out hb I.out).mono ?_
  rintro x w2 ⟨r, v, l, rfl, hr, hl, hok, her, hnum, h2, hb2⟩
  obtain ⟨ao, cap, rfl, _⟩ := hl.slice
  go_wp2
  go_ret
  exact ⟨r, _, l, rfl, hr, hl, hok, her, hnum, h2, hb2⟩

set_option maxRecDepth 100000 in
set_option maxHeartbeats 2000000 in
theorem expr_8 (w : World) (B : Nat) (lv : Value) (ts : List Lx.Tok) (sz : Nat) (q : List Lx.Tok) (b : Nat) (h : PX w B lv ts sz (.ok q) b) (hb : ts.length ≤ b)
    (IH9 : ∀ w1, PX w1 B lv ts sz (.ok q) b → Calls Tryz.prog 72 #[.pointer (some ⟨B, 0, none⟩), .int .i64 9] w1 (ExPost w1 B lv ts sz 9 q b))
    (IH8 : Px.sees Px.gMinus q = true → ∀ w1, PX w1 B lv ts sz (.ok q.tail) b → Calls Tryz.prog 72 #[.pointer (some ⟨B, 0, none⟩), .int .i64 8] w1 (ExPost w1 B lv ts sz 8 q.tail b)) :
    Calls Tryz.prog 72 #[.pointer (some ⟨B, 0, none⟩), .int .i64 8] w (ExPost w B lv ts sz 8 q b) := by
  have I9 := hd IH9
  have I8 := hd IH8
  clear IH9 IH8
  have HX := hd h
  obtain ⟨k, hk, hq, hp⟩ := h
  obtain ⟨c0, c1, c2, c3, c4⟩ := hp.cells
  have hB := hp.blk.lt
  go_enter Tryz.func72, Tryz.ntmps72
  go_wp2_with fail
  refine (hereX_any w B lv ts sz (.ok q) b HX.out).mono ?_
  rintro x w1 ⟨⟨tk, tt, tp⟩, rfl, hp1, hp2, hqt, hb1⟩
  have HQT := hd hqt
  unfold tokA
  simp only at hp1 hp2 ⊢
  clear hqt
  have h1 := HX.out.below hb1
  have hz1 := hb1.size
  go_wp2_with fail
  refine (takes_any _ _ B lv ts sz (.ok q) b (h1.below (by go_grown))).mono ?_
  rintro x w2 ⟨rfl, h2, hb2⟩
  have hz2 := hb2.size
  have hT2 : w1.heap.size < w2.heap.size := by simp at hz2; omega
  have G2 : w.grownBy w2 (some B) := grown_trans (Below.grownBy hb1) (grown_trans (Below.grownBy (by go_grown)) hb2)
  have hG := G2.size
  have q2 : w2.cell? ⟨w1.heap.size, 2, none⟩ = some (.int .i64 (tp : Int)) := by
    rw [World.cell?_of_block (hb2.block w1.heap.size (by simp) (by simp; omega))]
    exact (Blk.new w1 _ _).cell 2
  cases hmi : Px.sees Px.gMinus q with
  | true =>
    have HMI := hd hmi
    have hs2 := Px.sees_len hmi
    have hpl : Px.plc sz q = tp := by
      have := HQT.out q rfl
      cases q with
      | nil => cases hmi
      | cons t r => simp at this; simp [Px.plc, ← this]
    have HPL := hd hpl
    have e1 : seesX (ByteArray.mk #[45]).data.toList (.ok q) = true := hmi
    have e2 : takeX (ByteArray.mk #[45]).data.toList (.ok q) = .ok q.tail := if_pos hmi
    rw [e2] at h2
    rw [e1]
    clear e1 e2 hmi hpl
    go_wp2_with fail
    refine (minus_any w2 B lv ts sz tp q.tail b h2 hb hp1 (I8.out HMI.out)).mono ?_
    rintro x w3 ⟨r, v, l, rfl, hr, hl, hok, her, hnum, h3, hb3⟩
    obtain ⟨ao, cap, rfl, _⟩ := hl.slice
    go_wp2
    go_ret
    exact ⟨r, _, l, rfl, hr q HMI.out rfl HPL.out, hl.lower hG, hok, fun e he => Nat.le_trans (her e he) (by omega), hnum, h3, grown_trans G2 hb3⟩
  | false =>
    have HMI := hd hmi
    have e1 : seesX (ByteArray.mk #[45]).data.toList (.ok q) = false := hmi
    have e2 : takeX (ByteArray.mk #[45]).data.toList (.ok q) = .ok q := take_same e1
    rw [e2] at h2
    rw [e1]
    clear e1 e2 hmi
    go_wp2_with fail
    refine (I9.out _ h2).mono ?_
    rintro x w3 ⟨r, v, l, rfl, hr, hl, hok, her, hnum, h3, hb3⟩
    obtain ⟨ao, cap, rfl, _⟩ := hl.slice
    go_wp2
    go_ret
    exact ⟨r, _, l, rfl, Px.Ex.up8 HMI.out hr, hl.lower hG, hok, her, hnum, h3, grown_trans G2 hb3⟩
end Go.Proofs.YtcdgihdhpaipaaaGreatDoor

namespace Go.Proofs.YtcdgihdhpaipaaaGreatDoor
open Go.RowKit
set_option linter.unusedSimpArgs false
set_option linter.unusedVariables false

/-- How far a round of operators may still go. -/
def leftM (B : Nat) (w : World) : Nat := match w.cell? ⟨B, 3, none⟩, w.cell? ⟨B, 1, none⟩ with
  | some (.int _ e), some (.int _ k) => if e = 0 then 4001 - k.toNat else 0
  | _, _ => 0

/-- Where a round of operators stands. -/
def LeftI (w : World) (B : Nat) (lv : Value) (ts : List Lx.Tok) (sz m : Nat) (q : List Lx.Tok) (b : Nat) (v : Value) (wr : World) : Prop :=
  ∃ st l, NdIs wr w.heap.size v l ∧ NumOk l ∧ PX wr B lv ts sz st b ∧ w.grownBy wr (some B) ∧
    match st with
    | .ok q1 => l ≠ [] ∧ l.length + q1.length ≤ q.length ∧ ∀ r, Px.Ex sz (m + 10) l q1 r → Px.Ex sz m [] q r
    | .error e => l.length ≤ q.length ∧ Px.Ex sz m [] q (.error e)

set_option maxRecDepth 100000 in
set_option maxHeartbeats 2000000 in
theorem expr_left (w : World) (B : Nat) (lv : Value) (ts : List Lx.Tok) (sz m : Nat) (q : List Lx.Tok) (b : Nat) (hm : m < 8) (hm0 : 1 ≤ m) (hm3 : m ≠ 3) (hm4 : m ≠ 4) (h : PX w B lv ts sz (.ok q) b) (hb : ts.length ≤ b)
    (IH : ∀ w1 q1, (q1 = q ∨ q1.length < q.length) → PX w1 B lv ts sz (.ok q1) b → Calls Tryz.prog 72 #[.pointer (some ⟨B, 0, none⟩), .int .i64 ((m : Int) + 1)] w1 (ExPost w1 B lv ts sz (m + 1) q1 b)) :
    Calls Tryz.prog 72 #[.pointer (some ⟨B, 0, none⟩), .int .i64 (m : Int)] w (ExPost w B lv ts sz m q b) := by
  have I := hd IH
  clear IH
  have HX := hd h
  obtain ⟨k, hk, hq, hp⟩ := h
  obtain ⟨c0, c1, c2, c3, c4⟩ := hp.cells
  have hB := hp.blk.lt
  have hql : q.length ≤ 2000 := by
    have := hp.len
    rw [hq]; simp; omega
  have n3 : ((m : Int) == 3) = false := by rw [beq_eq_false_iff_ne]; omega
  have n4 : ((m : Int) == 4) = false := by rw [beq_eq_false_iff_ne]; omega
  have n8 : ((m : Int) == 8) = false := by rw [beq_eq_false_iff_ne]; omega
  have n9 : ((m : Int) == 9) = false := by rw [beq_eq_false_iff_ne]; omega
  have HM3 := hd hm3
  have HM4 := hd hm4
  clear hm3 hm4
  go_enter Tryz.func72, Tryz.ntmps72
  go_wp2_with fail
  refine (I.out w q (.inl rfl) HX.out).mono ?_
  rintro x w1 ⟨r, v, l, rfl, hr, hl, hok, her, hnum, h1, hb1⟩
  have HL : Hid (LeftI w B lv ts sz m q b v w1) := by
    refine ⟨stOf r, l, hl, hnum, h1, hb1, ?_⟩
    match r, hr, hok, her with
    | .error e, hr, hok, her => exact ⟨her e rfl, Px.Ex.left (r := .error e) hm HM3.out HM4.out hr rfl⟩
    | .ok (a, q1), hr, hok, her =>
      have hla := hok a q1 rfl
      subst hla
      have hlen : l ≠ [] ∧ l.length + q1.length ≤ q.length := by
        obtain ⟨n, hn⟩ := hr
        exact (Px.ex_len n _ [] _ l q1 hn).1 (by omega)
      exact ⟨hlen.1, hlen.2, fun r' hr' => Px.Ex.left (r := .ok (l, q1)) hm HM3.out HM4.out hr hr'⟩
  obtain ⟨ao, cap, rfl, _⟩ := hl.slice
  clear hr hl hok her hnum h1 hb1
  go_wp2_with fail
  go_loopw [9] (fun v wr => Hid (LeftI w B lv ts sz m q b v wr)) (fun _ wr => leftM B wr)
  case atStart => exact HL
  case round =>
    obtain ⟨st, l, hl, hnum, hx, hg, hst⟩ := hrel.out
    have HN := hd hnum
    have HST := hd hst
    clear hnum hst HL
    have hln : l.length ≤ q.length := by
      match st, HST with
      | .ok q1, hst => have := hst.out.2.1; omega
      | .error e, hst => exact hst.out.1
    obtain ⟨ao, cap, rfl, _⟩ := hl.slice
    go_wp2_with fail
    refine (oper_any m _ B lv ts sz st b (by omega) hx).mono ?_
    rintro x w3 ⟨rfl, hb3⟩
    have hz3 := hb3.size
    have hl3 := hl.below hb3
    have h3 := hx.below hb3
    have G3 := grown_trans hg (Below.grownBy hb3)
    have hlm : Hid (leftM B w3 = leftM B wr) := by
      have hBr := hx.lt
      have e1 := hb3.cell (p := ⟨B, 3, none⟩) hBr
      have e2 := hb3.cell (p := ⟨B, 1, none⟩) hBr
      show leftM B w3 = leftM B wr
      unfold leftM
      rw [e1, e2]
    by_cases hop : operX m st = 0
    · have HOP := hd hop
      rw [hop]
      clear hop
      go_wp2
      go_ret
      match st, HST, h3, HOP with
      | .error e, HST, h3, HOP =>
        exact ⟨.error e, _, l, rfl, HST.out.2, hl3, fun _ _ e => (by cases e), fun _ _ => hln, HN.out, h3, G3⟩
      | .ok q1, HST, h3, HOP =>
        exact ⟨.ok (l, q1), _, l, rfl, HST.out.2.2 _ (Px.Ex.end_ HOP.out), hl3, fun a q' e => (by cases e; rfl), fun e he => (by cases he), HN.out, h3, G3⟩
    · match st, HST, h3, hop with
      | .error e, _, _, hop => exact absurd rfl hop
      | .ok q1, HST, h3, hop =>
        have hop' : Px.oper m q1 ≠ 0 := hop
        have hopl := Px.oper_len hop'
        have HOP := hd hop'
        have hrg := Px.oper_range hop'
        have hl1 := HST.out.2.1
        obtain ⟨k3, hk3, hq3, hp3⟩ := h3
        have hk3' : k3 < ts.length := by
          rw [hq3] at hopl
          simp at hopl
          omega
        have hstep : PX (w3.setCell ⟨B, 1, none⟩ (.int .i64 ((k3 : Int) + 1))) B lv ts sz (.ok q1.tail) b := PX.step hp3 hk3' hq3
        have HLM : Hid (leftM B wr = 4001 - k3) := by
          show _ = _
          rw [← hlm.out]
          obtain ⟨c0, c1, c2, c3, c4⟩ := hp3.cells
          unfold leftM
          rw [c3, c1]
          simp
        have hB3 := hp3.blk.lt
        obtain ⟨c0', c1', c2', c3', c4'⟩ := hp3.cells
        have f1 := hp3.blk.free 1
        have hle := hp3.len
        have e3 : operX m (.ok q1) = Px.oper m q1 := rfl
        rw [e3]
        clear hop hop' e3 hlm
        generalize hopn : Px.oper m q1 = op at *
        have n0 : ((op : Int) == 0) = false := by rw [beq_eq_false_iff_ne]; omega
        go_wp2_with fail
        refine (I.out _ q1.tail (.inr (by omega)) hstep).mono ?_
        rintro x w4 ⟨r4, v4, l4, rfl, hr4, hv4, hok4, her4, hnum4, h4, hb4⟩
        have HN4 := hd hnum4
        have HR4 := hd hr4
        have HOK4 := hd hok4
        have HER4 := hd her4
        clear hnum4 hr4 hok4 her4
        have hz4 := hb4.size
        have hln4 : l4.length ≤ q1.tail.length := by
          match r4, HR4, HOK4, HER4 with
          | .error e, _, _, her => exact her.out e rfl
          | .ok (a, q2), hr, hok, _ =>
            obtain ⟨n, hn⟩ := hr.out
            have := ((Px.ex_len n _ [] _ a q2 hn).1 (by omega)).2
            rw [hok.out a q2 rfl]
            omega
        obtain ⟨ao4, cap4, rfl, _⟩ := hv4.slice
        have hl4 := (hl3.keep (psAt_grown (.int .i64 ((k3 : Int) + 1))) hB).keep hb4 hB
        have G4 := grown_trans G3 (grown_trans (psAt_grown _) hb4)
        go_wp2_with fail
        refine (over_any op w4 w.heap.size _ _ _ l l4 hl4 hv4 (by omega)).mono ?_
        rintro x w5 ⟨v5, rfl, ho5, hb5⟩
        have hv5 := NdIs.of_own ho5
        have hG := G4.size
        have HL5 : Hid (LeftI w B lv ts sz m q b v5 w5) := by
          refine ⟨stOf r4, _, hv5.lower (by omega), NumOk.over HN.out HN4.out, h4.below hb5, grown_trans G4 (Below.grownBy hb5), ?_⟩
          match r4, HR4, HOK4, HER4 with
          | .error e, HR4, HOK4, HER4 =>
            refine ⟨?_, HST.out.2.2 _ (Px.Ex.more (r := .error e) (by rw [hopn]; exact HOP.out) HR4.out rfl)⟩
            simp only [overL, List.length_append, List.length_cons]
            omega
          | .ok (a4, q4), HR4, HOK4, HER4 =>
            have hla := HOK4.out a4 q4 rfl
            subst hla
            have hx4 : l4 ≠ [] ∧ l4.length + q4.length ≤ q1.tail.length := by
              obtain ⟨n, hn⟩ := HR4.out
              exact (Px.ex_len n _ [] _ l4 q4 hn).1 (by omega)
            have eo : overL op l l4 = Px.over2 op l l4 := by simp [overL, Px.over2, hx4.1]
            refine ⟨by simp [overL], ?_, ?_⟩
            · simp only [overL, List.length_append, List.length_cons]
              have := hx4.2
              omega
            · intro r hr
              rw [eo] at hr
              refine HST.out.2.2 _ (Px.Ex.more (r := .ok (l4, q4)) (by rw [hopn]; exact HOP.out) HR4.out ?_)
              rw [hopn]
              exact hr
        have HM5 : Hid (leftM B w5 < leftM B wr) := by
          show _ < _
          rw [HLM.out]
          have hx5 := h4.below hb5
          match r4, HR4, hx5 with
          | .error (p, c), _, hx5 =>
            obtain ⟨hc0, k5, hk5, hp5⟩ := hx5
            obtain ⟨c0, c1, c2, c3, c4⟩ := hp5.cells
            unfold leftM
            rw [c3, c1]
            simp [hc0]
            omega
          | .ok (a4, q4), HR4, hx5 =>
            obtain ⟨k5, hk5, hq5, hp5⟩ := hx5
            obtain ⟨c0, c1, c2, c3, c4⟩ := hp5.cells
            have hx4 : l4 ≠ [] ∨ True := .inr trivial
            have hlt : q4.length ≤ q1.tail.length := by
              obtain ⟨n, hn⟩ := HR4.out
              have := ((Px.ex_len n _ [] _ a4 q4 hn).1 (by omega)).2
              omega
            unfold leftM
            rw [c3, c1]
            rw [hq5, hq3] at hlt
            simp at hlt
            simp
            omega
        obtain ⟨ao5, cap5, rfl, _⟩ := hv5.slice
        go_wp2_with fail
        go_roundw
        case rel => exact HL5
        case measure => exact HM5.out
end Go.Proofs.YtcdgihdhpaipaaaGreatDoor

namespace Go.Proofs.YtcdgihdhpaipaaaGreatDoor
open Go.RowKit
set_option linter.unusedSimpArgs false
set_option linter.unusedVariables false

/-- AN EXPRESSION, of an open reading. -/
theorem expr_ok (B : Nat) (lv : Value) (ts : List Lx.Tok) (sz b : Nat) (hb : ts.length ≤ b) : ∀ (n m : Nat) (q : List Lx.Tok) (w : World), 1 ≤ m → m ≤ 9 → 10 * q.length + (9 - m) < n → PX w B lv ts sz (.ok q) b →
    Calls Tryz.prog 72 #[.pointer (some ⟨B, 0, none⟩), .int .i64 (m : Int)] w (ExPost w B lv ts sz m q b) := by
  intro n
  induction n with
  | zero => intro m q w h1 h2 h3; omega
  | succ n ih =>
    intro m q w h1 h2 h3 h
    by_cases c3 : m = 3
    · subst c3
      exact expr_3 w B lv ts sz q b h hb (fun w1 hx => ih 4 q w1 (by omega) (by omega) (by omega) hx) (fun hs w1 hx => by
        have := Px.sees_len hs
        exact ih 3 q.tail w1 (by omega) (by omega) (by omega) hx)
    · by_cases c4 : m = 4
      · subst c4
        exact expr_4 w B lv ts sz q b h hb (fun w1 q1 hq hx => ih 5 q1 w1 (by omega) (by omega) (by rcases hq with rfl | hq <;> omega) hx)
      · by_cases c8 : m = 8
        · subst c8
          exact expr_8 w B lv ts sz q b h hb (fun w1 hx => ih 9 q w1 (by omega) (by omega) (by omega) hx) (fun hs w1 hx => by
            have := Px.sees_len hs
            exact ih 8 q.tail w1 (by omega) (by omega) (by omega) hx)
        · by_cases c9 : m = 9
          · subst c9
            exact expr_9 w B lv ts sz q b h hb (fun hs w1 hx => by
              have := Px.sees_len hs
              exact ih 1 q.tail w1 (by omega) (by omega) (by omega) hx)
          · refine expr_left w B lv ts sz m q b (by omega) h1 c3 c4 h hb (fun w1 q1 hq hx => ?_)
            have := ih (m + 1) q1 w1 (by omega) (by omega) (by rcases hq with rfl | hq <;> omega) hx
            rw [show ((m + 1 : Nat) : Int) = (m : Int) + 1 by omega] at this
            exact this

/-- A reading, of a state. -/
def exX (sz m : Nat) (st : Except (Nat × Nat) (List Lx.Tok)) (r : Except (Nat × Nat) (List Px.Nd × List Lx.Tok)) : Prop :=
  match st with
  | .ok q => Px.Ex sz m [] q r
  | .error e => r = .error e

/-- AN EXPRESSION, whatever the state. -/
theorem expr_any (w : World) (B : Nat) (lv : Value) (ts : List Lx.Tok) (sz m : Nat) (st : Except (Nat × Nat) (List Lx.Tok)) (b : Nat) (hb : ts.length ≤ b) (h1 : 1 ≤ m) (h2 : m ≤ 9) (h : PX w B lv ts sz st b) :
    Calls Tryz.prog 72 #[.pointer (some ⟨B, 0, none⟩), .int .i64 (m : Int)] w fun x w' =>
      ∃ r v l, x = .returned v ∧ exX sz m st r ∧ NdIs w' w.heap.size v l ∧ (∀ a q', r = .ok (a, q') → l = a) ∧ l.length ≤ 2000 ∧ NumOk l ∧ PX w' B lv ts sz (stOf r) b ∧ w.grownBy w' (some B) := by
  match st, h with
  | .error e, h =>
    refine (expr_off m w B lv ts sz e b h).mono ?_
    rintro x w' ⟨rfl, rfl⟩
    exact ⟨.error e, _, [], rfl, rfl, NdIs.nil _ _, fun _ _ e => (by cases e), Nat.zero_le _, NumOk.nil, h, ⟨rfl, rfl, rfl, Nat.le_refl _, fun _ _ _ => rfl⟩⟩
  | .ok q, h =>
    have hql : q.length ≤ 2000 := by
      obtain ⟨k, _, rfl, hp⟩ := h
      have := hp.len
      simp; omega
    refine (expr_ok B lv ts sz b hb _ m q w h1 h2 (Nat.lt_succ_self _) h).mono ?_
    rintro x w' ⟨r, v, l, rfl, hr, hl, hok, her, hnum, hx, hg⟩
    refine ⟨r, v, l, rfl, hr, hl, hok, ?_, hnum, hx, hg⟩
    match r, hr, hok, her with
    | .error e, _, _, her => exact Nat.le_trans (her e rfl) hql
    | .ok (a, q1), hr, hok, _ =>
      obtain ⟨n, hn⟩ := hr
      have := ((Px.ex_len n _ [] _ a q1 hn).1 (by omega)).2
      rw [hok a q1 rfl]
      omega
end Go.Proofs.YtcdgihdhpaipaaaGreatDoor

namespace Go.Proofs.YtcdgihdhpaipaaaGreatDoor
open Go.RowKit
set_option linter.unusedSimpArgs false
set_option linter.unusedVariables false

theorem sees_open {s : Lx.Bs} {st : Except (Nat × Nat) (List Lx.Tok)} (h : seesX s st = true) : ∃ q, st = .ok q ∧ Px.sees s q = true ∧ takeX s st = .ok q.tail := by
  match st, h with
  | .ok q, h => exact ⟨q, rfl, h, if_pos h⟩
  | .error e, h => cases h

/-- A reading from a state. -/
def RunX {α : Type} (f : Nat → List Lx.Tok → Px.Out α) (st : Except (Nat × Nat) (List Lx.Tok)) (r : Except (Nat × Nat) (α × List Lx.Tok)) : Prop :=
  match st with
  | .ok q => ∃ n, f n q = some r
  | .error e => r = .error e

theorem where_none {sz : Nat} {q : List Lx.Tok} (hs : Px.sees Px.kWHERE q = false) : ∃ n, Px.where_ sz n q = some (.ok (([], 0), q)) := ⟨0, by unfold Px.where_; rw [if_neg (by simp [hs])]⟩
theorem where_some {sz : Nat} {q : List Lx.Tok} {r : Px.Res (List Px.Nd)} (hs : Px.sees Px.kWHERE q = true) (h : Px.Ex sz 1 [] q.tail r) :
    ∃ n, Px.where_ sz n q = some (match r with | .ok (e, q') => .ok ((Px.over1 11 e, 1), q') | .error e => .error e) := by
  obtain ⟨n, hn⟩ := h
  refine ⟨n, ?_⟩
  unfold Px.where_
  rw [if_pos hs, hn]
  match r with
  | .ok (e, q') => rfl
  | .error e => rfl

set_option maxRecDepth 100000 in
set_option maxHeartbeats 2000000 in
theorem where_any (w : World) (B : Nat) (lv : Value) (ts : List Lx.Tok) (sz : Nat) (st : Except (Nat × Nat) (List Lx.Tok)) (b : Nat) (hb : ts.length ≤ b) (h : PX w B lv ts sz st b) :
    Calls Tryz.prog 38 #[.pointer (some ⟨B, 0, none⟩)] w fun x w' =>
      ∃ r v l k, x = .returned (.tuple #[v, .int .i64 (k : Int)]) ∧ RunX (Px.where_ sz) st r ∧ NdIs w' w.heap.size v l ∧ (∀ a n q', r = .ok ((a, n), q') → l = a ∧ k = n) ∧ (0 ≤ k ∧ k ≤ 1) ∧ l.length ≤ 2001 ∧ NumOk l ∧ PX w' B lv ts sz (stOf r) b ∧ w.grownBy w' (some B) := by
  have HX := hd h
  have hB := h.lt
  clear h
  go_enter Tryz.func38, Tryz.ntmps38
  go_wp2_with fail
  refine (takes_any _ _ B lv ts sz st b HX.out).mono ?_
  rintro x w1 ⟨rfl, h1, hb1⟩
  have hz1 := hb1.size
  cases hs : seesX (ByteArray.mk #[87, 72, 69, 82, 69]).data.toList st with
  | false =>
    rw [take_same hs] at h1
    have HS := hd hs
    clear hs
    go_wp2
    go_ret2
    match st, HS, h1 with
    | .error e, HS, h1 => exact ⟨.error e, _, [], 0, rfl, rfl, NdIs.nil _ _, fun _ _ _ e => (by cases e), by omega, by simp, NumOk.nil, h1, hb1⟩
    | .ok q, HS, h1 => exact ⟨.ok (([], 0), q), _, [], 0, rfl, where_none HS.out, NdIs.nil _ _, fun _ _ _ e => (by cases e; exact ⟨rfl, rfl⟩), by omega, by simp, NumOk.nil, h1, hb1⟩
  | true =>
    obtain ⟨q, hst, hs', e2⟩ := sees_open hs
    · have HS : Hid (Px.sees Px.kWHERE q = true) := hs'
      have HSt := hd hst
      rw [e2] at h1
      clear e2 hs hs' hst
      go_wp2_with fail
      refine (expr_any w1 B lv ts sz 1 (.ok q.tail) b hb (by omega) (by omega) h1).mono ?_
      rintro x w2 ⟨r, v, l, rfl, hr, hl, hok, hln, hnum, h2, hb2⟩
      have HN := hd hnum
      have HR := hd hr
      have HOK := hd hok
      clear hnum hr hok
      obtain ⟨ao, cap, rfl, _⟩ := hl.slice
      have G2 := grown_trans hb1 hb2
      go_wp2_with fail
      refine (over_any 11 w2 _ 0 _ _ l [] hl (NdIs.nil _ _) (by simp only [List.length_nil]; omega)).mono ?_
      rintro x w5 ⟨v5, rfl, ho5, hb5⟩
      have hv5 := NdIs.of_own ho5
      obtain ⟨ao5, cap5, rfl, _⟩ := hv5.slice
      go_wp2
      go_ret2
      have hG := G2.size
      refine ⟨_, _, _, 1, rfl, (by rw [HSt.out]; exact where_some HS.out HR.out), hv5.lower (by omega), ?_, by omega, ?_, NumOk.over HN.out NumOk.nil, ?_, grown_trans G2 (Below.grownBy hb5)⟩
      · intro a n q' e
        match r, HOK with
        | .error e', _ => cases e
        | .ok (a', q1), HOK =>
          have := HOK.out a' q1 rfl
          subst this
          cases e
          exact ⟨by simp [overL, Px.over1], rfl⟩
      · simp only [overL, List.append_nil, List.length_cons]
        omega
      · match r, h2 with
        | .error e', h2 => exact h2.below hb5
        | .ok (a', q1), h2 => exact h2.below hb5

set_option maxRecDepth 100000 in
set_option maxHeartbeats 4000000 in
theorem headed_any (k n : Int) (t : ByteArray) (w : World) (b1 : Nat) (va : Value) (a : List Px.Nd) (ha : NdIs w b1 va a) (hn : a.length ≤ 90000) :
    Calls Tryz.prog 36 #[.int .i64 k, .string t, .int .i64 n, va] w fun x w' => ∃ v, x = .returned v ∧ NdIs w' w.heap.size v (⟨k, t.data.toList, 0, n⟩ :: a) ∧ Below w.heap.size w w' := by
  obtain ⟨aa, ca, rfl, _⟩ := ha.slice
  go_enter Tryz.func36, Tryz.ntmps36
  go_wp2_with fail
  refine (cat_any _ 0 b1 _ _ [⟨k, t.data.toList, 0, n⟩] a (NdIs.newAt w ⟨k, t.data.toList, 0, n⟩ _ rfl) (ha.below (by go_grown)) (by simp only [List.length_cons, List.length_nil]; omega)).mono ?_
  rintro x w2 ⟨v2, rfl, ho2, hb2⟩
  have hv2 : NdIs w2 _ v2 (⟨k, t.data.toList, 0, n⟩ :: a) := NdIs.of_own ho2
  obtain ⟨ao, cap, rfl, _⟩ := hv2.slice
  go_wp2
  go_ret
  exact ⟨_, rfl, hv2.lower (by simp), below_more (by go_grown) hb2 (by simp)⟩

theorem kindX_run {sz : Nat} {q : List Lx.Tok} : ∃ n : Nat, (fun _ : Nat => Px.kindP sz q) n = Px.kindP sz q := ⟨0, rfl⟩
theorem kindP_int {sz : Nat} {q : List Lx.Tok} (h1 : Px.sees Px.kINTEGER q = true) : Px.kindP sz q = some (if Px.sees Px.kTEXT q.tail = true then .error (Px.plc sz q.tail, 4) else .ok (1, q.tail)) := by
  unfold Px.kindP
  rw [if_pos h1]
  split <;> simp [*]
theorem kindP_text {sz : Nat} {q : List Lx.Tok} (h1 : Px.sees Px.kINTEGER q = false) (h2 : Px.sees Px.kTEXT q = true) : Px.kindP sz q = some (.ok (2, q.tail)) := by
  unfold Px.kindP
  rw [if_neg (by simp [h1]), if_pos h2]
theorem kindP_bool {sz : Nat} {q : List Lx.Tok} (h1 : Px.sees Px.kINTEGER q = false) (h2 : Px.sees Px.kTEXT q = false) : Px.kindP sz q = some (if Px.sees Px.kBOOLEAN q = true then .ok (3, q.tail) else .error (Px.plc sz q, 4)) := by
  unfold Px.kindP Px.must
  rw [if_neg (by simp [h1]), if_neg (by simp [h2])]
  split <;> simp [Px.obind, *]

set_option maxRecDepth 100000 in
set_option maxHeartbeats 4000000 in
/-- A type; but for INTEGER TEXT. -/
theorem kind_most (w : World) (B : Nat) (lv : Value) (ts : List Lx.Tok) (sz : Nat) (st : Except (Nat × Nat) (List Lx.Tok)) (b : Nat) (hb : ts.length ≤ b) (h : PX w B lv ts sz st b)
    (hno : ∀ q, st = .ok q → Px.sees Px.kINTEGER q = true → Px.sees Px.kTEXT q.tail = false) :
    Calls Tryz.prog 69 #[.pointer (some ⟨B, 0, none⟩)] w fun x w' =>
      ∃ r n, x = .returned (.int .i64 n) ∧ RunX (fun _ => Px.kindP sz) st r ∧ (∀ a q', r = .ok (a, q') → n = a) ∧ 1 ≤ n ∧ n ≤ 3 ∧ PX w' B lv ts sz (stOf r) b ∧ w.grownBy w' (some B) := by
  have HX := hd h
  have HNO := hd hno
  have hB := h.lt
  clear h hno
  go_enter Tryz.func69, Tryz.ntmps69
  go_wp2_with fail
  refine (takes_any _ _ B lv ts sz st b HX.out).mono ?_
  rintro x w1 ⟨rfl, h1, hb1⟩
  have hz1 := hb1.size
  cases hs : seesX (ByteArray.mk #[73, 78, 84, 69, 71, 69, 82]).data.toList st with
  | false =>
    rw [take_same hs] at h1
    have HS := hd hs
    clear hs
    go_wp2_with fail
    refine (takes_any _ _ B lv ts sz st b h1).mono ?_
    rintro x w2 ⟨rfl, h2, hb2⟩
    have hz2 := hb2.size
    have G2 := grown_trans hb1 hb2
    cases hs2 : seesX (ByteArray.mk #[84, 69, 88, 84]).data.toList st with
    | true =>
      obtain ⟨q, hst, hs2', e2⟩ := sees_open hs2
      · have HS2 : Hid (Px.sees Px.kTEXT q = true) := hs2'
        have HS0 : Hid (Px.sees Px.kINTEGER q = false) := by have := HS.out; rw [hst] at this; exact this
        have HSt := hd hst
        rw [e2] at h2
        clear hs2 hs2' e2 hst
        go_wp2
        go_ret
        exact ⟨.ok (2, q.tail), 2, rfl, (by rw [HSt.out]; exact ⟨0, kindP_text HS0.out HS2.out⟩), fun a q' e => (by cases e; rfl), by omega, by omega, h2, G2⟩
    | false =>
      rw [take_same hs2] at h2
      have HS2 := hd hs2
      clear hs2
      go_wp2_with fail
      refine (must_any ⟨#[66, 79, 79, 76, 69, 65, 78]⟩ w2.heap.size _ B lv ts sz st b (h2.below (by go_grown)) hb ((Blk.new w2 _ _).cell 0)).mono ?_
      rintro x w4 ⟨rfl, h4, hb4⟩
      go_wp2
      go_ret
      have G4 := grown_trans G2 (grown_trans (Below.grownBy (by go_grown)) hb4)
      match st, h4, HS, HS2 with
      | .error e, h4, HS, HS2 => exact ⟨.error e, 3, rfl, rfl, fun _ _ e => (by cases e), by omega, by omega, h4, G4⟩
      | .ok q, h4, HS, HS2 =>
        refine ⟨_, 3, rfl, ⟨0, kindP_bool HS.out HS2.out⟩, ?_, by omega, by omega, ?_, G4⟩
        · intro a q' e
          split at e
          · cases e; rfl
          · cases e
        · have e3 : mustX sz (ByteArray.mk #[66, 79, 79, 76, 69, 65, 78]).data.toList (.ok q) = stOf (if Px.sees Px.kBOOLEAN q = true then .ok ((3 : Int), q.tail) else .error (Px.plc sz q, 4)) := by
            show (if Px.sees Px.kBOOLEAN q = true then _ else _) = _
            split <;> rfl
          rw [← e3]; exact h4
  | true =>
    obtain ⟨q, hst, hs', e2⟩ := sees_open hs
    · have HS : Hid (Px.sees Px.kINTEGER q = true) := hs'
      have HSt := hd hst
      rw [e2] at h1
      clear e2 hs hs' hst
      have hlq : q.tail.length ≤ 2000 := by
        obtain ⟨k, _, e, hp⟩ := h1
        have := hp.len
        rw [e]; simp; omega
      obtain ⟨k0, hk0, hq0, hp0⟩ := h1
      go_wp2_with fail
      refine (takes_any _ _ B lv ts sz (.ok q.tail) b ⟨k0, hk0, hq0, hp0⟩).mono ?_
      rintro x w2 ⟨rfl, h2, hb2⟩
      have hz2 := hb2.size
      have G2 := grown_trans hb1 hb2
      cases hs2 : seesX (ByteArray.mk #[84, 69, 88, 84]).data.toList (.ok q.tail) with
      | false =>
        rw [take_same hs2] at h2
        have HS2 := hd hs2
        clear hs2
        go_wp2
        go_ret
        refine ⟨.ok (1, q.tail), 1, rfl, (by rw [HSt.out]; exact ⟨0, (kindP_int HS.out).trans (by rw [if_neg (by have : Px.sees Px.kTEXT q.tail = false := HS2.out; simp [this])])⟩), fun a q' e => (by cases e; rfl), by omega, by omega, h2, G2⟩
      | true =>
        have h0 := HNO.out q HSt.out HS.out
        have h1' : Px.sees Px.kTEXT q.tail = true := hs2
        rw [h0] at h1'
        cases h1'
end Go.Proofs.YtcdgihdhpaipaaaGreatDoor

namespace Go.Proofs.YtcdgihdhpaipaaaGreatDoor
open Go.RowKit
set_option linter.unusedSimpArgs false
set_option linter.unusedVariables false

/-- What a limit leaves: the error and its place, how far it goes, the number. -/
def limE (tk : Nat) (tt : Lx.Bs) (tp : Nat) : (Nat × Nat) × Nat × Nat :=
  if tk ≠ 16 then ((4, tp), 0, 0) else if tt = Lx.top ∨ 1000000000 < Px.dval tt then ((3, tp), 1, 0) else ((0, 0), 1, Px.dval tt)
def LimPost (w : World) (B : Nat) (lv : Value) (ts : List Lx.Tok) (sz k : Nat) (o : (Nat × Nat) × Nat × Nat) (x : Ending) (w' : World) : Prop :=
  x = .returned (.int .i64 (o.2.2 : Int)) ∧ PS w' B lv ts sz (k + o.2.1) o.1.1 o.1.2 ∧ w.grownBy w' (some B)

set_option maxRecDepth 100000 in
set_option maxHeartbeats 2000000 in
theorem limit_at (w : World) (B : Nat) (lv : Value) (ts : List Lx.Tok) (sz k : Nat) (h : PS w B lv ts sz k 0 0) (hk : k ≤ ts.length)
    (tk : Nat) (tt : Lx.Bs) (tp : Nat) (ht : hereT ts sz k = ⟨tk, tt, tp⟩) (hdg : tk = 16 → tt ≠ Lx.top → (∀ c ∈ tt, Lx.isDig c = true) ∧ Px.dval tt ≤ 9223372036854775807)
    (o : (Nat × Nat) × Nat × Nat) (ho : o = limE tk tt tp) :
    Calls Tryz.prog 74 #[.pointer (some ⟨B, 0, none⟩)] w (LimPost w B lv ts sz k o) := by
  have hok := hereT_ok h
  rw [ht] at hok
  obtain ⟨hk1, hk2, hk3⟩ := hok
  simp only at hk1 hk2 hk3
  have HO := hd ho
  have HT := hd ht
  have HD := hd hdg
  have hlen := h.len
  have hsz : (ByteArray.mk tt.toArray).size = tt.length := by simp [ByteArray.size]
  clear ht ho hdg
  go_enter Tryz.func74, Tryz.ntmps74
  go_wp2_with fail
  refine (here_any w B lv ts sz k 0 0 h).mono ?_
  rintro x w1 ⟨rfl, hb1⟩
  rw [HT.out]
  unfold tokA
  simp only
  have h1 := h.below hb1
  have hz1 := hb1.size
  have hB1 := h1.blk.lt
  have h2 : PS (w1.alloc _) B lv ts sz k 0 0 := h1.below ((Below.refl _ _).alloc (Nat.le_refl _) (.cells #[.int .i64 (tk : Int), .string ⟨tt.toArray⟩, .int .i64 (tp : Int)] 44))
  by_cases c16 : tk = 16
  · subst c16
    obtain ⟨c0, c1, c2, c3, c4⟩ := h1.cells
    have f1 := h1.blk.free 1
    by_cases ctop : tt = Lx.top
    · subst ctop
      have e : Hid (o = ((3, tp), 1, 0)) := HO.out.trans (by simp [limE])
      clear HO HD
      go_wp2_with fail
      refine (stop_ps _ B lv ts sz (k + 1) 0 ((h1.step (by omega)).below (by go_grown)) 3 tp (by omega) hk2).mono ?_
      rintro x w3 ⟨rfl, h3, hb3⟩
      go_wp2
      go_ret
      rw [e.out]
      exact ⟨rfl, h3, grown_trans (Below.grownBy hb1) (grown_trans (psAt_grown _) (grown_trans (Below.grownBy (by go_grown)) hb3))⟩
    · have hne : (tt == [57, 50, 50, 51, 51, 55, 50, 48, 51, 54, 56, 53, 52, 55, 55, 53, 56, 48, 56]) = false := beq_eq_false_iff_ne.2 ctop
      obtain ⟨hd1, hd2⟩ := HD.out rfl ctop
      have HDD := hd hd1
      have HD2 := hd hd2
      by_cases cm : 1000000000 < Px.dval tt
      · have e : Hid (o = ((3, tp), 1, 0)) := HO.out.trans (by simp [limE, cm])
        have cmi : ((Px.dval tt : Int) > 1000000000) := by omega
        clear hd1 hd2 HD HO ctop
        go_wp2_with fail
        refine (r_Digits_any ⟨tt.toArray⟩ _ HDD.out HD2.out (by omega)).mono ?_
        rintro x w3 ⟨rfl, rfl⟩
        simp only
        go_wp2_with fail
        refine (stop_ps _ B lv ts sz (k + 1) 0 ((h1.step (by omega)).below (by go_grown)) 3 tp (by omega) hk2).mono ?_
        rintro x w3 ⟨rfl, h3, hb3⟩
        go_wp2
        go_ret
        rw [e.out]
        exact ⟨rfl, h3, grown_trans (Below.grownBy hb1) (grown_trans (psAt_grown _) (grown_trans (Below.grownBy (by go_grown)) hb3))⟩
      · have e : Hid (o = ((0, 0), 1, Px.dval tt)) := HO.out.trans (by simp [limE, cm, ctop])
        have cmi : ¬ ((Px.dval tt : Int) > 1000000000) := by omega
        clear hd1 hd2 HD HO ctop
        go_wp2_with fail
        refine (r_Digits_any ⟨tt.toArray⟩ _ HDD.out HD2.out (by omega)).mono ?_
        rintro x w3 ⟨rfl, rfl⟩
        simp only
        go_wp2_with fail
        refine (r_Digits_any ⟨tt.toArray⟩ _ HDD.out HD2.out (by omega)).mono ?_
        rintro x w3 ⟨rfl, rfl⟩
        go_wp2
        go_ret
        rw [e.out]
        exact ⟨rfl, (h1.step (by omega)).below (by go_grown), grown_trans (Below.grownBy hb1) (grown_trans (psAt_grown _) (Below.grownBy (by go_grown)))⟩
  · have e : Hid (o = ((4, tp), 0, 0)) := HO.out.trans (by simp [limE, c16])
    have n1 : ((tk : Int) != 16) = true := by rw [bne_iff_ne]; omega
    clear HO HD
    go_wp2_with fail
    refine (stop_ps _ B lv ts sz k 0 h2 4 tp (by omega) hk2).mono ?_
    rintro x w3 ⟨rfl, h3, hb3⟩
    go_wp2
    go_ret
    rw [e.out]
    exact ⟨rfl, h3, grown_trans (Below.grownBy hb1) (grown_trans (Below.grownBy (by go_grown)) hb3)⟩

theorem limit_lim (sz : Nat) (t : Lx.Tok) (r : List Lx.Tok) :
    Px.limit sz (t :: r) = some (if (limE t.kind t.text t.pos).1.1 = 0 then .ok ((limE t.kind t.text t.pos).2.2, r) else .error ((limE t.kind t.text t.pos).1.2, (limE t.kind t.text t.pos).1.1)) := by
  obtain ⟨tk, tt, tp⟩ := t
  unfold Px.limit limE
  simp only
  by_cases h1 : tk = 16
  · by_cases h2 : tt = Lx.top ∨ 1000000000 < Px.dval tt
    · simp [h1, h2]
    · simp [h1, h2]
  · simp [h1]
theorem limE_facts (tk : Nat) (tt : Lx.Bs) (tp : Nat) : (limE tk tt tp).2.2 ≤ 1000000000 ∧ (limE tk tt tp).2.1 ≤ 1 ∧ ((limE tk tt tp).1.1 = 0 → (limE tk tt tp).2.1 = 1 ∧ (limE tk tt tp).1.2 = 0) ∧ (tk ≠ 16 → (limE tk tt tp).2.1 = 0) := by
  unfold limE
  by_cases h1 : tk = 16
  · by_cases h2 : tt = Lx.top ∨ 1000000000 < Px.dval tt
    · simp [h1, h2]
    · simp [h1, h2]
      omega
  · simp [h1]

/-- LIMIT's number, of an open reading. -/
theorem limit_any (w : World) (B : Nat) (lv : Value) (ts : List Lx.Tok) (sz : Nat) (q : List Lx.Tok) (b : Nat) (h : PX w B lv ts sz (.ok q) b) (hb : ts.length ≤ b) :
    Calls Tryz.prog 74 #[.pointer (some ⟨B, 0, none⟩)] w fun x w' => ∃ (r : Px.Res Nat) (n : Nat), x = .returned (.int .i64 (n : Int)) ∧ Px.limit sz q = some r ∧ (∀ a q', r = .ok (a, q') → n = a) ∧ n ≤ 1000000000 ∧ PX w' B lv ts sz (stOf r) b ∧ w.grownBy w' (some B) := by
  obtain ⟨k, hk, hq, hp⟩ := h
  subst hq
  rcases ht : hereT ts sz k with ⟨tk, tt, tp⟩
  have hdg : tk = 16 → tt ≠ Lx.top → (∀ c ∈ tt, Lx.isDig c = true) ∧ Px.dval tt ≤ 9223372036854775807 := by
    intro h16 hne
    by_cases hlt : k < ts.length
    · have e1 : ts[k] = ⟨tk, tt, tp⟩ := by rw [← ht]; simp [hereT, hlt]
      have e2 := (hp.toks _ (List.getElem_mem hlt)).1
      rw [e1] at e2
      obtain ⟨_, d1, d2⟩ := e2.digs h16
      have hlt2 : Px.dval tt < 9223372036854775808 := Px.dval_lt d1 d2 hne
      exact ⟨d1, by omega⟩
    · have e2 : (⟨tk, tt, tp⟩ : Lx.Tok) = ⟨0, [], sz⟩ := by rw [← ht]; simp [hereT, hlt]
      cases e2
      cases h16
  refine (limit_at w B lv ts sz k hp hk tk tt tp ht hdg _ rfl).mono ?_
  rintro x w' ⟨rfl, hp', hg⟩
  obtain ⟨f1, f2, f3, f4⟩ := limE_facts tk tt tp
  by_cases hlt : k < ts.length
  · have e1 : ts[k] = ⟨tk, tt, tp⟩ := by rw [← ht]; simp [hereT, hlt]
    have e0 : ts.drop k = ⟨tk, tt, tp⟩ :: ts.drop (k + 1) := by rw [List.drop_eq_getElem_cons hlt, e1]
    have ea := limit_lim sz ⟨tk, tt, tp⟩ (ts.drop (k + 1))
    simp only at ea
    rw [← e0] at ea
    refine ⟨_, _, rfl, ea, ?_, f1, ?_, hg⟩
    · intro a q' e
      split at e
      · cases e; rfl
      · cases e
    · by_cases hz : (limE tk tt tp).1.1 = 0
      · rw [if_pos hz]
        obtain ⟨g1, g2⟩ := f3 hz
        rw [hz, g1, g2] at hp'
        exact ⟨k + 1, by omega, rfl, hp'⟩
      · rw [if_neg hz]
        exact ⟨hz, _, by omega, hp'⟩
  · have e2 : (⟨tk, tt, tp⟩ : Lx.Tok) = ⟨0, [], sz⟩ := by rw [← ht]; simp [hereT, hlt]
    cases e2
    have e0 : ts.drop k = [] := List.drop_eq_nil_of_le (by omega)
    have el : limE 0 [] sz = ((4, sz), 0, 0) := rfl
    rw [el] at hp' ⊢
    refine ⟨.error (sz, 4), 0, rfl, by rw [e0]; rfl, fun _ _ e => (by cases e), by omega, ⟨by decide, k, by omega, hp'⟩, hg⟩
end Go.Proofs.YtcdgihdhpaipaaaGreatDoor

namespace Go.Proofs.YtcdgihdhpaipaaaGreatDoor
open Go.RowKit
set_option linter.unusedSimpArgs false
set_option linter.unusedVariables false

theorem wrap_back (k : Nat) (K : Int) (hK : (k : Int) + 1 = K) (h : k ≤ 3000) : IntKind.i64.wrap (K - 1) = (k : Int) := by
  rw [← hK, Int.add_sub_cancel]
  exact IntWalk.i64_in _ ⟨by omega, by omega⟩

set_option maxRecDepth 100000 in
set_option maxHeartbeats 1000000 in
/-- INTEGER TEXT. -/
theorem kind_both (w : World) (B : Nat) (lv : Value) (ts : List Lx.Tok) (sz : Nat) (q : List Lx.Tok) (b : Nat) (hb : ts.length ≤ b) (h : PX w B lv ts sz (.ok q) b) (hs1 : Px.sees Px.kINTEGER q = true) (hs2 : Px.sees Px.kTEXT q.tail = true) :
    Calls Tryz.prog 69 #[.pointer (some ⟨B, 0, none⟩)] w fun x w' =>
      ∃ n : Int, x = .returned (.int .i64 n) ∧ n = 1 ∧ PX w' B lv ts sz (.error (Px.plc sz q.tail, 4)) b ∧ w.grownBy w' (some B) := by
  have HX := hd h
  have HS1 := hd hs1
  have HS2 := hd hs2
  have hsl := Px.sees_len hs2
  have hB := h.lt
  clear h hs1 hs2
  go_enter Tryz.func69, Tryz.ntmps69
  go_wp2_with fail
  refine (takes_any _ _ B lv ts sz (.ok q) b HX.out).mono ?_
  rintro x w1 ⟨rfl, h1, hb1⟩
  have hz1 := hb1.size
  have e1 : seesX (ByteArray.mk #[73, 78, 84, 69, 71, 69, 82]).data.toList (.ok q) = true := HS1.out
  have e2 : takeX (ByteArray.mk #[73, 78, 84, 69, 71, 69, 82]).data.toList (.ok q) = .ok q.tail := if_pos HS1.out
  rw [e2] at h1
  rw [e1]
  clear e1 e2
  obtain ⟨k0, hk0, hq0, hp0⟩ := h1
  go_wp2_with fail
  refine (takes_any _ _ B lv ts sz (.ok q.tail) b ⟨k0, hk0, hq0, hp0⟩).mono ?_
  rintro x w2 ⟨rfl, h2, hb2⟩
  have hz2 := hb2.size
  have G2 := grown_trans hb1 hb2
  have e1 : seesX (ByteArray.mk #[84, 69, 88, 84]).data.toList (.ok q.tail) = true := HS2.out
  have e2 : takeX (ByteArray.mk #[84, 69, 88, 84]).data.toList (.ok q.tail) = .ok q.tail.tail := if_pos HS2.out
  rw [e2] at h2
  rw [e1]
  clear e1 e2
  obtain ⟨k2, hk2, hq2, hp2⟩ := h2
  have hkk : k2 = k0 + 1 := by
    have a1 := congrArg List.length hq2
    have a2 := congrArg List.length hq0
    simp only [List.length_drop] at a1 a2
    omega
  subst hkk
  have hk0' : k0 < ts.length := by omega
  have hpl : Hid (Px.plc sz q.tail = ts[k0].pos) := by
    show _ = _
    rw [hq0, List.drop_eq_getElem_cons hk0']; rfl
  have hpos := (hp2.toks _ (List.getElem_mem hk0')).2.1
  obtain ⟨ao, cap, hlv, htok⟩ := hp2.tok
  obtain ⟨g, rfl, hg, d0, d1, d2⟩ := htok k0 hk0'
  subst hlv
  clear htok hq2 hq0 hp0
  have hlen2 := hp2.len
  obtain ⟨K, hK⟩ : ∃ K : Int, (k0 : Int) + 1 = K := ⟨_, rfl⟩
  have hw : IntKind.i64.wrap (K - 1) = (k0 : Int) := wrap_back k0 K hK (by omega)
  obtain ⟨c0, c1, c2, c3, c4⟩ := hp2.cells
  have c1' : w2.cell? ⟨B, 1, none⟩ = some (.int .i64 K) := by rw [c1, ← hK]; simp
  have hB2 := hp2.blk.lt
  clear c1 hK c2 c3 c4 d0 d1
  generalize ts[k0].pos = tp at *
  go_wp2_with fail
  go_region_with (go_at_call 17; (refine Calls.mono (stop_ps _ B _ ts sz (k0 + 1) 0 (hp2.below (by go_grown)) 4 tp (by omega) hpos) ?_; rintro x w3 ⟨rfl, h3, hb3⟩))
  all_goals
    go_wp2
    go_ret
    refine ⟨1, rfl, rfl, ?_, ?_⟩
    · rw [hpl.out]
      exact ⟨by omega, k0 + 1, by omega, h3.below (by go_grown)⟩
    · exact grown_trans G2 (grown_trans (Below.grownBy (by go_grown)) (grown_trans hb3 (Below.grownBy (by go_grown))))

/-- A TYPE, whatever the state. -/
theorem kind_any (w : World) (B : Nat) (lv : Value) (ts : List Lx.Tok) (sz : Nat) (st : Except (Nat × Nat) (List Lx.Tok)) (b : Nat) (hb : ts.length ≤ b) (h : PX w B lv ts sz st b) :
    Calls Tryz.prog 69 #[.pointer (some ⟨B, 0, none⟩)] w fun x w' =>
      ∃ r n, x = .returned (.int .i64 n) ∧ RunX (fun _ => Px.kindP sz) st r ∧ (∀ a q', r = .ok (a, q') → n = a) ∧ 1 ≤ n ∧ n ≤ 3 ∧ PX w' B lv ts sz (stOf r) b ∧ w.grownBy w' (some B) := by
  by_cases hno : ∀ q, st = .ok q → Px.sees Px.kINTEGER q = true → Px.sees Px.kTEXT q.tail = false
  · exact kind_most w B lv ts sz st b hb h hno
  · match st, h, hno with
    | .error e, h, hno => exact absurd (fun q e => (by cases e)) hno
    | .ok q, h, hno =>
      have h1 : Px.sees Px.kINTEGER q = true := by
        cases hc : Px.sees Px.kINTEGER q with
        | true => rfl
        | false => exact absurd (fun q' e h' => by cases e; rw [hc] at h'; cases h') hno
      have h2 : Px.sees Px.kTEXT q.tail = true := by
        cases hc : Px.sees Px.kTEXT q.tail with
        | true => rfl
        | false => exact absurd (fun q' e h' => by cases e; exact hc) hno
      refine (kind_both w B lv ts sz q b hb h h1 h2).mono ?_
      rintro x w' ⟨n, rfl, rfl, hx, hg⟩
      exact ⟨.error (Px.plc sz q.tail, 4), 1, rfl, ⟨0, (kindP_int h1).trans (by rw [if_pos h2])⟩, fun _ _ e => (by cases e), by omega, by omega, hx, hg⟩
end Go.Proofs.YtcdgihdhpaipaaaGreatDoor

namespace Go.Proofs.YtcdgihdhpaipaaaGreatDoor
open Go.RowKit
set_option linter.unusedSimpArgs false
set_option linter.unusedVariables false

/-- A step behind a reading: an error stays. -/
def RunK {α β : Type} (g : Nat → α → List Lx.Tok → Px.Out β) (r : Px.Res α) (r' : Px.Res β) : Prop :=
  match r with
  | .ok (a, q) => ∃ n, g n a q = some r'
  | .error e => r' = .error e

theorem RunX.bind {α β : Type} {f : Nat → List Lx.Tok → Px.Out α} {g : Nat → α → List Lx.Tok → Px.Out β} (hf : ∀ q, Px.Grows fun n => f n q) (hg : ∀ a q, Px.Grows fun n => g n a q)
    {st : Except (Nat × Nat) (List Lx.Tok)} {r : Px.Res α} {r' : Px.Res β} (h : RunX f st r) (h' : RunK g r r') : RunX (fun n q => Px.obind (f n q) (g n)) st r' := by
  match st, h with
  | .error e, h =>
    have h0 : r = .error e := h
    subst h0
    exact h'
  | .ok q, ⟨n, hn⟩ =>
    match r, hn, h' with
    | .error e, hn, h' =>
      refine ⟨n, ?_⟩
      show Px.obind (f n q) (g n) = _
      rw [hn]
      have h0 : r' = .error e := h'
      rw [h0]; rfl
    | .ok (a, q1), hn, ⟨k, hk⟩ =>
      refine ⟨max n k, ?_⟩
      show Px.obind (f (max n k) q) (g (max n k)) = _
      rw [show f (max n k) q = _ from hf q n (max n k) _ (Nat.le_max_left _ _) hn]
      exact hg a q1 k (max n k) _ (Nat.le_max_right _ _) hk
theorem RunK.bind {α β γ : Type} {f : Nat → α → List Lx.Tok → Px.Out β} {g : Nat → β → List Lx.Tok → Px.Out γ} (hf : ∀ a q, Px.Grows fun n => f n a q) (hg : ∀ a q, Px.Grows fun n => g n a q)
    {r0 : Px.Res α} {r : Px.Res β} {r' : Px.Res γ} (h : RunK f r0 r) (h' : RunK g r r') : RunK (fun n a q => Px.obind (f n a q) (g n)) r0 r' := by
  match r0, h with
  | .error e, h =>
    have h0 : r = .error e := h
    subst h0
    exact h'
  | .ok (a, q), h => exact RunX.bind (f := fun n q => f n a q) (g := g) (st := .ok q) (fun q => hf a q) hg h h'

/-- What must stands for. -/
def mustR (sz : Nat) (s : Lx.Bs) (st : Except (Nat × Nat) (List Lx.Tok)) : Px.Res Unit :=
  match mustX sz s st with
  | .ok q => .ok ((), q)
  | .error e => .error e
theorem mustR_st (sz : Nat) (s : Lx.Bs) (st : Except (Nat × Nat) (List Lx.Tok)) : stOf (mustR sz s st) = mustX sz s st := by
  unfold mustR
  cases mustX sz s st <;> rfl
theorem mustR_run (sz : Nat) (s : Lx.Bs) (st : Except (Nat × Nat) (List Lx.Tok)) : RunX (fun _ => Px.must sz s) st (mustR sz s st) := by
  match st with
  | .error e => rfl
  | .ok q =>
    refine ⟨0, ?_⟩
    show Px.must sz s q = _
    unfold Px.must mustR mustX
    by_cases h : Px.sees s q = true
    · simp [h]
    · simp [h]
theorem nameX_run (sz : Nat) (st : Except (Nat × Nat) (List Lx.Tok)) : RunX (fun _ => Px.name sz) st (nameX sz st) := by
  match st with
  | .error e => rfl
  | .ok [] => exact ⟨0, rfl⟩
  | .ok (t :: r) =>
    refine ⟨0, ?_⟩
    rw [name_cons]
    show Px.name sz (t :: r) = _
    unfold Px.name
    by_cases h1 : t.kind ≠ 18
    · simp only [if_pos h1]
    · by_cases h2 : 30 < t.text.length
      · simp only [if_neg h1, if_pos h2]
      · simp only [if_neg h1, if_neg h2]

/-- A step on the state alone, behind a reading. -/
theorem RunK.of_st {α β : Type} {f : Nat → List Lx.Tok → Px.Out β} {r : Px.Res α} {r' : Px.Res β} (h : RunX f (stOf r) r') : RunK (fun n _ q => f n q) r r' := by
  match r, h with
  | .error e, h => exact h
  | .ok (a, q), h => exact h

theorem grows_must (sz : Nat) (s : Lx.Bs) (q : List Lx.Tok) : Px.Grows fun _ => Px.must sz s q := Px.grows_const _
theorem grows_name (sz : Nat) (q : List Lx.Tok) : Px.Grows fun _ => Px.name sz q := Px.grows_const _

/-- The end of a statement, whose name came at the first. -/
def endR {α β : Type} (g : α → β) : Px.Res α → Px.Res β
  | .ok (a, q) => .ok (g a, q)
  | .error e => .error e
theorem endR_st {α β : Type} (g : α → β) (r : Px.Res α) : stOf (endR g r) = stOf r := by
  match r with
  | .ok (a, q) => rfl
  | .error e => rfl
theorem endR_run {α β : Type} (g : α → β) (r : Px.Res α) : RunK (fun _ a q => some (.ok (g a, q))) r (endR g r) := by
  match r with
  | .ok (a, q) => exact ⟨0, rfl⟩
  | .error e => rfl

/-- DROP. -/
theorem drop_run (sz : Nat) (st : Except (Nat × Nat) (List Lx.Tok)) : RunX (fun _ => Px.drop sz) st (endR (fun t => [(⟨3, t, 0, 0⟩ : Px.Nd)]) (nameX sz (mustX sz Px.kTABLE st))) := by
  have h1 := mustR_run sz Px.kTABLE st
  refine RunX.bind (f := fun _ => Px.must sz Px.kTABLE) (g := fun _ _ q => Px.obind (Px.name sz q) fun t q => some (.ok ([(⟨3, t, 0, 0⟩ : Px.Nd)], q))) (fun q => Px.grows_const _) (fun _ _ => Px.grows_const _) h1 ?_
  refine RunK.of_st (f := fun _ q => Px.obind (Px.name sz q) fun t q => some (.ok ([(⟨3, t, 0, 0⟩ : Px.Nd)], q))) ?_
  rw [mustR_st]
  exact RunX.bind (f := fun _ => Px.name sz) (g := fun _ t q => some (.ok ([(⟨3, t, 0, 0⟩ : Px.Nd)], q))) (fun q => Px.grows_const _) (fun _ _ => Px.grows_const _) (nameX_run sz _) (endR_run _ _)

/-- A reading behind an error is that error. -/
theorem RunX.off {α : Type} {f : Nat → List Lx.Tok → Px.Out α} {e : Nat × Nat} {r : Px.Res α} (h : RunX f (.error e) r) : r = .error e := h

/-- Two readings, one behind the other, made one. -/
def twoR {α β γ : Type} (g : α → β → γ) (r : Px.Res α) (r' : Px.Res β) : Px.Res γ :=
  match r with
  | .error e => .error e
  | .ok (a, _) => match r' with
    | .error e => .error e
    | .ok (b, q) => .ok (g a b, q)

/-- UPDATE: its steps. -/
theorem update_run (sz : Nat) (q0 : List Lx.Tok) (r3 : Px.Res (List Px.Nd × Nat)) (r4 : Px.Res (List Px.Nd × Nat)) (h3 : RunX (fun n => Px.sep (Px.setOne sz) n ([], 0)) (mustX sz Px.kSET (stOf (nameX sz (.ok q0)))) r3) (h4 : RunX (Px.where_ sz) (stOf r3) r4) :
    ∃ r, RunX (Px.update sz) (.ok q0) r ∧ stOf r = stOf r4 ∧ ∀ a q, r = .ok (a, q) → ∃ t q1 x q2 y, nameX sz (.ok q0) = .ok (t, q1) ∧ r3 = .ok (x, q2) ∧ r4 = .ok (y, q) ∧ a = ⟨7, t, 0, x.2 + y.2⟩ :: (x.1 ++ y.1) := by
  have h1 := nameX_run sz (.ok q0)
  generalize nameX sz (.ok q0) = rn at *
  match rn, h1, h3 with
  | .error e, h1, h3 =>
    have e3 : r3 = .error e := h3
    subst e3
    have e4 : r4 = .error e := h4
    subst e4
    refine ⟨.error e, ?_, rfl, fun _ _ e => (by cases e)⟩
    exact RunX.bind (f := fun _ => Px.name sz) (g := fun n t q => Px.obind (Px.must sz Px.kSET q) fun _ q => Px.obind (Px.sep (Px.setOne sz) n ([], 0) q) fun x q => Px.obind (Px.where_ sz n q) fun y q => some (.ok ((⟨7, t, 0, x.2 + y.2⟩ : Px.Nd) :: (x.1 ++ y.1), q)))
      (fun q => Px.grows_const _) (fun _ _ => Px.grows_bind (Px.grows_const _) fun _ _ => Px.grows_bind (Px.sep_grows (Px.setOne_grows sz) _ _) fun _ _ => Px.grows_bind (Px.where_grows sz _) fun _ _ => Px.grows_const _) h1 rfl
  | .ok (t, q1), h1, h3 =>
    have hm := mustR_run sz Px.kSET (.ok q1)
    have hms := mustR_st sz Px.kSET (.ok q1)
    have h3' : RunX (fun n => Px.sep (Px.setOne sz) n ([], 0)) (stOf (mustR sz Px.kSET (.ok q1))) r3 := by rw [hms]; exact h3
    have k5 : RunK (fun n (x : List Px.Nd × Nat) q => Px.obind (Px.where_ sz n q) fun y q => some (.ok ((⟨7, t, 0, x.2 + y.2⟩ : Px.Nd) :: (x.1 ++ y.1), q))) r3
        (twoR (fun x y => (⟨7, t, 0, x.2 + y.2⟩ : Px.Nd) :: (x.1 ++ y.1)) r3 r4) := by
      match r3, h4 with
      | .error e, h4 => rfl
      | .ok (x, q2), h4 =>
        refine RunX.bind (f := Px.where_ sz) (g := fun _ y q => some (.ok ((⟨7, t, 0, x.2 + y.2⟩ : Px.Nd) :: (x.1 ++ y.1), q))) (st := .ok q2) (fun q => Px.where_grows sz q) (fun _ _ => Px.grows_const _) h4 ?_
        match r4 with
        | .error e => rfl
        | .ok (y, q) => exact ⟨0, rfl⟩
    refine ⟨_, RunX.bind (f := fun _ => Px.name sz) (g := fun n t q => Px.obind (Px.must sz Px.kSET q) fun _ q => Px.obind (Px.sep (Px.setOne sz) n ([], 0) q) fun x q => Px.obind (Px.where_ sz n q) fun y q => some (.ok ((⟨7, t, 0, x.2 + y.2⟩ : Px.Nd) :: (x.1 ++ y.1), q)))
      (fun q => Px.grows_const _) (fun _ _ => Px.grows_bind (Px.grows_const _) fun _ _ => Px.grows_bind (Px.sep_grows (Px.setOne_grows sz) _ _) fun _ _ => Px.grows_bind (Px.where_grows sz _) fun _ _ => Px.grows_const _) h1
      (RunX.bind (f := fun _ => Px.must sz Px.kSET) (g := fun n _ q => Px.obind (Px.sep (Px.setOne sz) n ([], 0) q) fun x q => Px.obind (Px.where_ sz n q) fun y q => some (.ok ((⟨7, t, 0, x.2 + y.2⟩ : Px.Nd) :: (x.1 ++ y.1), q))) (st := .ok q1)
        (fun q => Px.grows_const _) (fun _ _ => Px.grows_bind (Px.sep_grows (Px.setOne_grows sz) _ _) fun _ _ => Px.grows_bind (Px.where_grows sz _) fun _ _ => Px.grows_const _) hm
        (RunK.of_st (f := fun n q => Px.obind (Px.sep (Px.setOne sz) n ([], 0) q) fun x q => Px.obind (Px.where_ sz n q) fun y q => some (.ok ((⟨7, t, 0, x.2 + y.2⟩ : Px.Nd) :: (x.1 ++ y.1), q)))
          (RunX.bind (f := fun n => Px.sep (Px.setOne sz) n ([], 0)) (g := fun n x q => Px.obind (Px.where_ sz n q) fun y q => some (.ok ((⟨7, t, 0, x.2 + y.2⟩ : Px.Nd) :: (x.1 ++ y.1), q)))
            (fun q => Px.sep_grows (Px.setOne_grows sz) _ _) (fun _ _ => Px.grows_bind (Px.where_grows sz _) fun _ _ => Px.grows_const _) h3' k5))), ?_, ?_⟩
    · match r3, r4, h4 with
      | .error e, r4, h4 =>
        have e4 : r4 = .error e := h4
        subst e4; rfl
      | .ok (x, q2), .ok (y, q), _ => rfl
      | .ok (x, q2), .error e, _ => rfl
    · intro a q e
      match r3, r4, e with
      | .error e', r4, e => cases e
      | .ok (x, q2), .ok (y, q3), e =>
        cases e
        exact ⟨t, q1, x, q2, y, rfl, rfl, rfl, rfl⟩
      | .ok (x, q2), .error e', e => cases e
end Go.Proofs.YtcdgihdhpaipaaaGreatDoor

namespace Go.Proofs.YtcdgihdhpaipaaaGreatDoor
open Go.RowKit
set_option linter.unusedSimpArgs false
set_option linter.unusedVariables false

/-- One Set: its steps. -/
theorem setOne_run (sz : Nat) (x : List Px.Nd × Nat) (q0 : List Lx.Tok) (r3 : Px.Res (List Px.Nd)) (h3 : exX sz 1 (mustX sz Px.gEq (stOf (nameX sz (.ok q0)))) r3) :
    ∃ r, RunX (fun n => Px.setOne sz n x) (.ok q0) r ∧ stOf r = stOf r3 ∧ ∀ y q, r = .ok (y, q) → ∃ t q1 e, nameX sz (.ok q0) = .ok (t, q1) ∧ r3 = .ok (e, q) ∧ y = (x.1 ++ (⟨8, t, 0, 1⟩ :: e), x.2 + 1) := by
  have h1 := nameX_run sz (.ok q0)
  have h3' : RunX (fun n => Px.ex sz n 1 []) (mustX sz Px.gEq (stOf (nameX sz (.ok q0)))) r3 := by
    generalize mustX sz Px.gEq (stOf (nameX sz (.ok q0))) = st at *
    match st, h3 with
    | .error e, h3 => exact h3
    | .ok q, h3 => exact h3
  clear h3
  generalize nameX sz (.ok q0) = rn at *
  match rn, h1, h3' with
  | .error e, h1, h3 =>
    have e3 : r3 = .error e := h3
    subst e3
    refine ⟨.error e, ?_, rfl, fun _ _ e => (by cases e)⟩
    exact RunX.bind (f := fun _ => Px.name sz) (g := fun n t q => Px.obind (Px.must sz Px.gEq q) fun _ q => Px.obind (Px.ex sz n 1 [] q) fun e q => some (.ok ((x.1 ++ ((⟨8, t, 0, 1⟩ : Px.Nd) :: e), x.2 + 1), q)))
      (fun q => Px.grows_const _) (fun _ _ => Px.grows_bind (Px.grows_const _) fun _ _ => Px.grows_bind (Px.ex_grows sz 1 [] _) fun _ _ => Px.grows_const _) h1 rfl
  | .ok (t, q1), h1, h3 =>
    have hm := mustR_run sz Px.gEq (.ok q1)
    have hms := mustR_st sz Px.gEq (.ok q1)
    have h3' : RunX (fun n => Px.ex sz n 1 []) (stOf (mustR sz Px.gEq (.ok q1))) r3 := by rw [hms]; exact h3
    refine ⟨endR (fun e => (x.1 ++ ((⟨8, t, 0, 1⟩ : Px.Nd) :: e), x.2 + 1)) r3, RunX.bind (f := fun _ => Px.name sz) (g := fun n t q => Px.obind (Px.must sz Px.gEq q) fun _ q => Px.obind (Px.ex sz n 1 [] q) fun e q => some (.ok ((x.1 ++ ((⟨8, t, 0, 1⟩ : Px.Nd) :: e), x.2 + 1), q)))
      (fun q => Px.grows_const _) (fun _ _ => Px.grows_bind (Px.grows_const _) fun _ _ => Px.grows_bind (Px.ex_grows sz 1 [] _) fun _ _ => Px.grows_const _) h1
      (RunX.bind (f := fun _ => Px.must sz Px.gEq) (g := fun n _ q => Px.obind (Px.ex sz n 1 [] q) fun e q => some (.ok ((x.1 ++ ((⟨8, t, 0, 1⟩ : Px.Nd) :: e), x.2 + 1), q))) (st := .ok q1)
        (fun q => Px.grows_const _) (fun _ _ => Px.grows_bind (Px.ex_grows sz 1 [] _) fun _ _ => Px.grows_const _) hm
        (RunK.of_st (f := fun n q => Px.obind (Px.ex sz n 1 [] q) fun e q => some (.ok ((x.1 ++ ((⟨8, t, 0, 1⟩ : Px.Nd) :: e), x.2 + 1), q)))
          (RunX.bind (f := fun n => Px.ex sz n 1 []) (g := fun _ e q => some (.ok ((x.1 ++ ((⟨8, t, 0, 1⟩ : Px.Nd) :: e), x.2 + 1), q)))
            (fun q => Px.ex_grows sz 1 [] _) (fun _ _ => Px.grows_const _) h3' (endR_run _ _)))), endR_st _ _, ?_⟩
    intro y q e
    match r3, e with
    | .error e', e => cases e
    | .ok (e1, q2), e =>
      cases e
      exact ⟨t, q1, e1, rfl, rfl, rfl⟩

/-! How a list goes on: a comma, or none. -/
theorem sep_more {α : Type} {item : Nat → α → List Lx.Tok → Px.Out α} (hg : ∀ b ts, Px.Grows fun n => item n b ts) {a b : α} {q q1 : List Lx.Tok} {r : Px.Res α} (h : RunX (fun n => item n a) (.ok q) (.ok (b, q1))) (hc : Px.sees Px.gComma q1 = true)
    (h' : RunX (fun n => Px.sep item n b) (.ok q1.tail) r) : RunX (fun n => Px.sep item n a) (.ok q) r := by
  obtain ⟨n, hn⟩ := h
  obtain ⟨k, hk⟩ := h'
  refine ⟨max n k + 1, ?_⟩
  show Px.sep item (max n k + 1) a q = _
  unfold Px.sep
  rw [show item (max n k) a q = _ from hg a q n (max n k) _ (Nat.le_max_left _ _) hn]
  show (if Px.sees Px.gComma q1 = true then _ else _) = _
  rw [if_pos hc]
  exact Px.sep_grows hg b q1.tail k (max n k) _ (Nat.le_max_right _ _) hk
theorem sep_last {α : Type} {item : Nat → α → List Lx.Tok → Px.Out α} {a b : α} {q q1 : List Lx.Tok} (h : RunX (fun n => item n a) (.ok q) (.ok (b, q1))) (hc : Px.sees Px.gComma q1 = false) : RunX (fun n => Px.sep item n a) (.ok q) (.ok (b, q1)) := by
  obtain ⟨n, hn⟩ := h
  refine ⟨n + 1, ?_⟩
  show Px.sep item (n + 1) a q = _
  unfold Px.sep
  rw [show item n a q = _ from hn]
  show (if Px.sees Px.gComma q1 = true then _ else _) = _
  rw [if_neg (by simp [hc])]
theorem sep_bad {α : Type} {item : Nat → α → List Lx.Tok → Px.Out α} {a : α} {q : List Lx.Tok} {e : Nat × Nat} (h : RunX (fun n => item n a) (.ok q) (.error e)) : RunX (fun n => Px.sep item n a) (.ok q) (.error e) := by
  obtain ⟨n, hn⟩ := h
  refine ⟨n + 1, ?_⟩
  show Px.sep item (n + 1) a q = _
  unfold Px.sep
  rw [show item n a q = _ from hn]
  rfl
end Go.Proofs.YtcdgihdhpaipaaaGreatDoor

namespace Go.Proofs.YtcdgihdhpaipaaaGreatDoor
open Go.RowKit
set_option linter.unusedSimpArgs false
set_option linter.unusedVariables false

theorem must_eq (sz : Nat) (s : Lx.Bs) (q : List Lx.Tok) : Px.must sz s q = some (mustR sz s (.ok q)) := by
  obtain ⟨n, h⟩ := mustR_run sz s (.ok q)
  exact h
theorem name_eq (sz : Nat) (q : List Lx.Tok) : Px.name sz q = some (nameX sz (.ok q)) := by
  obtain ⟨n, h⟩ := nameX_run sz (.ok q)
  exact h
theorem exX_run {sz : Nat} {st : Except (Nat × Nat) (List Lx.Tok)} {r : Px.Res (List Px.Nd)} (h : exX sz 1 st r) : RunX (fun n => Px.ex sz n 1 []) st r := by
  match st, h with
  | .error e, h => exact h
  | .ok q, h => exact h

/-- DELETE: its steps. -/
theorem delete_run (sz : Nat) (q0 : List Lx.Tok) (r4 : Px.Res (List Px.Nd × Nat)) (h4 : RunX (Px.where_ sz) (stOf (nameX sz (mustX sz Px.kFROM (.ok q0)))) r4) :
    ∃ r, RunX (Px.delete sz) (.ok q0) r ∧ stOf r = stOf r4 ∧ ∀ a q, r = .ok (a, q) → ∃ t q1 y, nameX sz (mustX sz Px.kFROM (.ok q0)) = .ok (t, q1) ∧ r4 = .ok (y, q) ∧ a = ⟨6, t, 0, y.2⟩ :: y.1 := by
  have hm := must_eq sz Px.kFROM q0
  rw [← mustR_st] at h4 ⊢
  generalize mustR sz Px.kFROM (.ok q0) = r1 at *
  match r1, hm, h4 with
  | .error e, hm, h4 =>
    have e4 : r4 = .error e := h4
    subst e4
    exact ⟨.error e, ⟨0, by show Px.delete sz 0 q0 = _; simp only [Px.delete, hm, Px.obind]⟩, rfl, fun _ _ h => by cases h⟩
  | .ok ((), q1), hm, h4 =>
    have hn := name_eq sz q1
    have h4' : RunX (Px.where_ sz) (stOf (nameX sz (.ok q1))) r4 := h4
    show ∃ r, RunX (Px.delete sz) (.ok q0) r ∧ stOf r = stOf r4 ∧ ∀ a q, r = .ok (a, q) → ∃ t q2 y, nameX sz (.ok q1) = .ok (t, q2) ∧ r4 = .ok (y, q) ∧ a = ⟨6, t, 0, y.2⟩ :: y.1
    clear h4
    generalize nameX sz (.ok q1) = r2 at *
    match r2, hn, h4' with
    | .error e, hn, h4 =>
      have e4 : r4 = .error e := h4
      subst e4
      exact ⟨.error e, ⟨0, by show Px.delete sz 0 q0 = _; simp only [Px.delete, hm, hn, Px.obind]⟩, rfl, fun _ _ h => by cases h⟩
    | .ok (t, q2), hn, ⟨n, hn4⟩ =>
      match r4, hn4 with
      | .error e, hn4 => exact ⟨.error e, ⟨n, by show Px.delete sz n q0 = _; simp only [Px.delete, hm, hn, hn4, Px.obind]⟩, rfl, fun _ _ h => by cases h⟩
      | .ok (y, q), hn4 =>
        refine ⟨.ok (⟨6, t, 0, y.2⟩ :: y.1, q), ⟨n, by show Px.delete sz n q0 = _; simp only [Px.delete, hm, hn, hn4, Px.obind]⟩, rfl, fun a q' h => ?_⟩
        cases h
        exact ⟨t, q2, y, rfl, rfl, rfl⟩

/-- The nodes of a column. -/
def colNd (t : Lx.Bs) (k : Int) : Px.Nd := ⟨2, t, k, 0⟩

/-- A column: its steps; kn is the kind with NOT NULL behind it. -/
theorem col_run (sz : Nat) (l : List Px.Nd) (q0 : List Lx.Tok) (st2 : Except (Nat × Nat) (List Lx.Tok)) (hst2 : st2 = if l.length = 6 then stopX 4 (Px.plc sz q0) (stOf (nameX sz (.ok q0))) else stOf (nameX sz (.ok q0)))
    (r3 : Px.Res Int) (h3 : RunX (fun _ => Px.kindP sz) st2 r3) (st4 : Except (Nat × Nat) (List Lx.Tok)) (hst4 : st4 = if seesX Px.kNOT (stOf r3) = true then mustX sz Px.kNULL (takeX Px.kNOT (stOf r3)) else stOf r3) :
    ∃ r, RunX (fun _ => Px.col sz l) (.ok q0) r ∧ stOf r = st4 ∧ ∀ y q, r = .ok (y, q) → ∃ t q1 k q3, nameX sz (.ok q0) = .ok (t, q1) ∧ r3 = .ok (k, q3) ∧ y = l ++ [colNd t (if seesX Px.kNOT (stOf r3) = true then k + 4 else k)] := by
  have hn := name_eq sz q0
  generalize nameX sz (.ok q0) = r1 at *
  match r1, hn with
  | .error e, hn =>
    have e2 : st2 = .error e := by rw [hst2]; simp [stOf, stopX]
    rw [e2] at h3
    have e3 : r3 = .error e := h3
    subst e3
    have e4 : st4 = .error e := by rw [hst4]; simp [stOf, seesX]
    subst e4
    exact ⟨.error e, ⟨0, by show Px.col sz l q0 = _; simp only [Px.col, hn, Px.obind]⟩, rfl, fun _ _ h => by cases h⟩
  | .ok (t, q1), hn =>
    by_cases h6 : l.length = 6
    · have e2 : st2 = .error (Px.plc sz q0, 4) := by rw [hst2]; simp [stOf, stopX, h6]
      rw [e2] at h3
      have e3 : r3 = .error (Px.plc sz q0, 4) := h3
      subst e3
      have e4 : st4 = .error (Px.plc sz q0, 4) := by rw [hst4]; simp [stOf, seesX]
      subst e4
      exact ⟨.error (Px.plc sz q0, 4), ⟨0, by show Px.col sz l q0 = _; simp only [Px.col, hn, Px.obind, if_pos h6]⟩, rfl, fun _ _ h => by cases h⟩
    · have e2 : st2 = .ok q1 := by rw [hst2]; simp [stOf, h6]
      rw [e2] at h3
      obtain ⟨_, hk⟩ := h3
      have hk' : Px.kindP sz q1 = some r3 := hk
      match r3, hk' with
      | .error e, hk' =>
        have e4 : st4 = .error e := by rw [hst4]; simp [stOf, seesX]
        subst e4
        exact ⟨.error e, ⟨0, by show Px.col sz l q0 = _; simp only [Px.col, hn, hk', Px.obind, if_neg h6]⟩, rfl, fun _ _ h => by cases h⟩
      | .ok (k, q3), hk' =>
        by_cases hs : Px.sees Px.kNOT q3 = true
        · have e4 : st4 = mustX sz Px.kNULL (.ok q3.tail) := by rw [hst4]; simp [stOf, seesX, takeX, hs]
          have hm := must_eq sz Px.kNULL q3.tail
          rw [← mustR_st] at e4
          generalize mustR sz Px.kNULL (.ok q3.tail) = r5 at *
          match r5, hm with
          | .error e, hm =>
            exact ⟨.error e, ⟨0, by show Px.col sz l q0 = _; simp only [Px.col, hn, hk', hm, Px.obind, if_neg h6, if_pos hs]⟩, e4.symm, fun _ _ h => by cases h⟩
          | .ok ((), q5), hm =>
            refine ⟨.ok (l ++ [⟨2, t, k + 4, 0⟩], q5), ⟨0, by show Px.col sz l q0 = _; simp only [Px.col, hn, hk', hm, Px.obind, if_neg h6, if_pos hs]⟩, e4.symm, fun y q h => ?_⟩
            cases h
            exact ⟨t, q1, k, q3, rfl, rfl, by simp [stOf, seesX, hs, colNd]⟩
        · have e4 : st4 = .ok q3 := by rw [hst4]; simp [stOf, seesX, hs]
          refine ⟨.ok (l ++ [⟨2, t, k, 0⟩], q3), ⟨0, by show Px.col sz l q0 = _; simp only [Px.col, hn, hk', Px.obind, if_neg h6, if_neg hs]⟩, e4.symm, fun y q h => ?_⟩
          cases h
          exact ⟨t, q1, k, q3, rfl, rfl, by simp [stOf, seesX, hs, colNd]⟩

/-- CREATE: its steps. -/
theorem create_run (sz : Nat) (q0 : List Lx.Tok) (r4 : Px.Res (List Px.Nd)) (h4 : RunX (fun n => Px.sep (fun _ l q => Px.col sz l q) n []) (mustX sz Px.gOpen (stOf (nameX sz (mustX sz Px.kTABLE (.ok q0))))) r4) :
    ∃ r, RunX (Px.create sz) (.ok q0) r ∧ stOf r = mustX sz Px.gShut (stOf r4) ∧ ∀ a q, r = .ok (a, q) → ∃ t q1 l q2, nameX sz (mustX sz Px.kTABLE (.ok q0)) = .ok (t, q1) ∧ r4 = .ok (l, q2) ∧ a = ⟨1, t, 0, l.length⟩ :: l := by
  have hm := must_eq sz Px.kTABLE q0
  rw [← mustR_st sz Px.kTABLE] at h4 ⊢
  generalize mustR sz Px.kTABLE (.ok q0) = r1 at *
  match r1, hm, h4 with
  | .error e, hm, h4 =>
    have e4 : r4 = .error e := h4
    subst e4
    exact ⟨.error e, ⟨0, by show Px.create sz 0 q0 = _; simp only [Px.create, hm, Px.obind]⟩, rfl, fun _ _ h => by cases h⟩
  | .ok ((), q1), hm, h4 =>
    have hn := name_eq sz q1
    have h4' : RunX (fun n => Px.sep (fun _ l q => Px.col sz l q) n []) (mustX sz Px.gOpen (stOf (nameX sz (.ok q1)))) r4 := h4
    show ∃ r, RunX (Px.create sz) (.ok q0) r ∧ stOf r = mustX sz Px.gShut (stOf r4) ∧ ∀ a q, r = .ok (a, q) → ∃ t q2 l q3, nameX sz (.ok q1) = .ok (t, q2) ∧ r4 = .ok (l, q3) ∧ a = ⟨1, t, 0, l.length⟩ :: l
    clear h4
    generalize nameX sz (.ok q1) = r2 at *
    match r2, hn, h4' with
    | .error e, hn, h4 =>
      have e4 : r4 = .error e := h4
      subst e4
      exact ⟨.error e, ⟨0, by show Px.create sz 0 q0 = _; simp only [Px.create, hm, hn, Px.obind]⟩, rfl, fun _ _ h => by cases h⟩
    | .ok (t, q2), hn, h4 =>
      have ho := must_eq sz Px.gOpen q2
      have h4' : RunX (fun n => Px.sep (fun _ l q => Px.col sz l q) n []) (stOf (mustR sz Px.gOpen (.ok q2))) r4 := by rw [mustR_st]; exact h4
      clear h4
      generalize mustR sz Px.gOpen (.ok q2) = r3 at *
      match r3, ho, h4' with
      | .error e, ho, h4 =>
        have e4 : r4 = .error e := h4
        subst e4
        exact ⟨.error e, ⟨0, by show Px.create sz 0 q0 = _; simp only [Px.create, hm, hn, ho, Px.obind]⟩, rfl, fun _ _ h => by cases h⟩
      | .ok ((), q3), ho, ⟨n, hn4⟩ =>
        match r4, hn4 with
        | .error e, hn4 => exact ⟨.error e, ⟨n, by show Px.create sz n q0 = _; simp only [Px.create, hm, hn, ho, hn4, Px.obind]⟩, rfl, fun _ _ h => by cases h⟩
        | .ok (l, q4), hn4 =>
          have hs := must_eq sz Px.gShut q4
          have e5 : mustX sz Px.gShut (stOf (.ok (l, q4))) = stOf (mustR sz Px.gShut (.ok q4)) := (mustR_st _ _ _).symm
          rw [e5]
          generalize mustR sz Px.gShut (.ok q4) = r5 at *
          match r5, hs with
          | .error e, hs => exact ⟨.error e, ⟨n, by show Px.create sz n q0 = _; simp only [Px.create, hm, hn, ho, hn4, hs, Px.obind]⟩, rfl, fun _ _ h => by cases h⟩
          | .ok ((), q5), hs =>
            refine ⟨.ok (⟨1, t, 0, l.length⟩ :: l, q5), ⟨n, by show Px.create sz n q0 = _; simp only [Px.create, hm, hn, ho, hn4, hs, Px.obind]⟩, rfl, fun a q h => ?_⟩
            cases h
            exact ⟨t, q2, l, q4, rfl, rfl, rfl⟩

/-- One more expression: its steps. -/
theorem item_run (sz : Nat) (x : List Px.Nd × Nat) (q0 : List Lx.Tok) (r3 : Px.Res (List Px.Nd)) (h3 : Px.Ex sz 1 [] q0 r3) :
    RunX (fun n => Px.item sz n x) (.ok q0) (endR (fun e => (x.1 ++ e, x.2 + 1)) r3) := by
  obtain ⟨n, hn⟩ := h3
  refine ⟨n, ?_⟩
  show Px.item sz n x q0 = _
  match r3, hn with
  | .error e, hn => simp only [Px.item, hn, Px.obind, endR]
  | .ok (e, q), hn => simp only [Px.item, hn, Px.obind, endR]

/-- A row: its steps. -/
theorem row_run (sz : Nat) (x : List Px.Nd × Nat) (q0 : List Lx.Tok) (r3 : Px.Res (List Px.Nd × Nat)) (h3 : RunX (fun n => Px.sep (Px.item sz) n ([], 0)) (mustX sz Px.gOpen (.ok q0)) r3) :
    ∃ r, RunX (fun n => Px.row sz n x) (.ok q0) r ∧ stOf r = mustX sz Px.gShut (stOf r3) ∧ ∀ y q, r = .ok (y, q) → ∃ z q1, r3 = .ok (z, q1) ∧ y = (x.1 ++ (⟨5, [], 0, z.2⟩ :: z.1), x.2 + 1) := by
  have hm := must_eq sz Px.gOpen q0
  rw [← mustR_st] at h3
  generalize mustR sz Px.gOpen (.ok q0) = r1 at *
  match r1, hm, h3 with
  | .error e, hm, h3 =>
    have e4 : r3 = .error e := h3
    subst e4
    exact ⟨.error e, ⟨0, by show Px.row sz 0 x q0 = _; simp only [Px.row, hm, Px.obind]⟩, rfl, fun _ _ h => by cases h⟩
  | .ok ((), q1), hm, ⟨n, hn⟩ =>
    match r3, hn with
    | .error e, hn => exact ⟨.error e, ⟨n, by show Px.row sz n x q0 = _; simp only [Px.row, hm, hn, Px.obind]⟩, rfl, fun _ _ h => by cases h⟩
    | .ok (z, q4), hn =>
      have hs := must_eq sz Px.gShut q4
      have e5 : mustX sz Px.gShut (stOf (.ok (z, q4))) = stOf (mustR sz Px.gShut (.ok q4)) := (mustR_st _ _ _).symm
      rw [e5]
      generalize mustR sz Px.gShut (.ok q4) = r5 at *
      match r5, hs with
      | .error e, hs => exact ⟨.error e, ⟨n, by show Px.row sz n x q0 = _; simp only [Px.row, hm, hn, hs, Px.obind]⟩, rfl, fun _ _ h => by cases h⟩
      | .ok ((), q5), hs =>
        refine ⟨.ok ((x.1 ++ (⟨5, [], 0, z.2⟩ :: z.1), x.2 + 1), q5), ⟨n, by show Px.row sz n x q0 = _; simp only [Px.row, hm, hn, hs, Px.obind]⟩, rfl, fun y q h => ?_⟩
        cases h
        exact ⟨z, q4, rfl, rfl⟩

/-- INSERT: its steps. -/
theorem insert_run (sz : Nat) (q0 : List Lx.Tok) (r4 : Px.Res (List Px.Nd × Nat)) (h4 : RunX (fun n => Px.sep (Px.row sz) n ([], 0)) (mustX sz Px.kVALUES (stOf (nameX sz (mustX sz Px.kINTO (.ok q0))))) r4) :
    ∃ r, RunX (Px.insert sz) (.ok q0) r ∧ stOf r = stOf r4 ∧ ∀ a q, r = .ok (a, q) → ∃ t q1 x, nameX sz (mustX sz Px.kINTO (.ok q0)) = .ok (t, q1) ∧ r4 = .ok (x, q) ∧ a = ⟨4, t, 0, x.2⟩ :: x.1 := by
  have hm := must_eq sz Px.kINTO q0
  rw [← mustR_st sz Px.kINTO] at h4 ⊢
  generalize mustR sz Px.kINTO (.ok q0) = r1 at *
  match r1, hm, h4 with
  | .error e, hm, h4 =>
    have e4 : r4 = .error e := h4
    subst e4
    exact ⟨.error e, ⟨0, by show Px.insert sz 0 q0 = _; simp only [Px.insert, hm, Px.obind]⟩, rfl, fun _ _ h => by cases h⟩
  | .ok ((), q1), hm, h4 =>
    have hn := name_eq sz q1
    have h4' : RunX (fun n => Px.sep (Px.row sz) n ([], 0)) (mustX sz Px.kVALUES (stOf (nameX sz (.ok q1)))) r4 := h4
    show ∃ r, RunX (Px.insert sz) (.ok q0) r ∧ stOf r = stOf r4 ∧ ∀ a q, r = .ok (a, q) → ∃ t q2 x, nameX sz (.ok q1) = .ok (t, q2) ∧ r4 = .ok (x, q) ∧ a = ⟨4, t, 0, x.2⟩ :: x.1
    clear h4
    generalize nameX sz (.ok q1) = r2 at *
    match r2, hn, h4' with
    | .error e, hn, h4 =>
      have e4 : r4 = .error e := h4
      subst e4
      exact ⟨.error e, ⟨0, by show Px.insert sz 0 q0 = _; simp only [Px.insert, hm, hn, Px.obind]⟩, rfl, fun _ _ h => by cases h⟩
    | .ok (t, q2), hn, h4 =>
      have ho := must_eq sz Px.kVALUES q2
      have h4' : RunX (fun n => Px.sep (Px.row sz) n ([], 0)) (stOf (mustR sz Px.kVALUES (.ok q2))) r4 := by rw [mustR_st]; exact h4
      clear h4
      generalize mustR sz Px.kVALUES (.ok q2) = r3 at *
      match r3, ho, h4' with
      | .error e, ho, h4 =>
        have e4 : r4 = .error e := h4
        subst e4
        exact ⟨.error e, ⟨0, by show Px.insert sz 0 q0 = _; simp only [Px.insert, hm, hn, ho, Px.obind]⟩, rfl, fun _ _ h => by cases h⟩
      | .ok ((), q3), ho, ⟨n, hn4⟩ =>
        match r4, hn4 with
        | .error e, hn4 => exact ⟨.error e, ⟨n, by show Px.insert sz n q0 = _; simp only [Px.insert, hm, hn, ho, hn4, Px.obind]⟩, rfl, fun _ _ h => by cases h⟩
        | .ok (x, q4), hn4 =>
          refine ⟨.ok (⟨4, t, 0, x.2⟩ :: x.1, q4), ⟨n, by show Px.insert sz n q0 = _; simp only [Px.insert, hm, hn, ho, hn4, Px.obind]⟩, rfl, fun a q h => ?_⟩
          cases h
          exact ⟨t, q2, x, rfl, rfl, rfl⟩

/-- An item of a SELECT: a star. -/
theorem pick_star (sz : Nat) (x : List Px.Nd × Nat) (q0 : List Lx.Tok) (hs : Px.sees Px.gStar q0 = true) : RunX (fun n => Px.pick sz n x) (.ok q0) (.ok ((x.1 ++ [⟨10, [], 0, 0⟩], x.2 + 1), q0.tail)) :=
  ⟨0, by show Px.pick sz 0 x q0 = _; simp only [Px.pick, if_pos hs]⟩
theorem pick_item (sz : Nat) (x : List Px.Nd × Nat) (q0 : List Lx.Tok) (hs : Px.sees Px.gStar q0 = false) {r : Px.Res (List Px.Nd × Nat)} (h : RunX (fun n => Px.item sz n x) (.ok q0) r) : RunX (fun n => Px.pick sz n x) (.ok q0) r := by
  obtain ⟨n, hn⟩ := h
  refine ⟨n, ?_⟩
  show Px.pick sz n x q0 = _
  simp only [Px.pick, hs]
  exact hn

/-- What an ORDER leaves behind its expression. -/
def ascX (st : Except (Nat × Nat) (List Lx.Tok)) : Except (Nat × Nat) (List Lx.Tok) := if seesX Px.kASC st = true then takeX Px.kASC st else takeX Px.kDESC st
def descI (st : Except (Nat × Nat) (List Lx.Tok)) : Int := if seesX Px.kASC st = true then 0 else if seesX Px.kDESC st = true then 1 else 0
theorem order_run (sz : Nat) (x : List Px.Nd × Nat) (q0 : List Lx.Tok) (r3 : Px.Res (List Px.Nd)) (h3 : Px.Ex sz 1 [] q0 r3) :
    ∃ r, RunX (fun n => Px.order sz n x) (.ok q0) r ∧ stOf r = ascX (stOf r3) ∧ ∀ y q, r = .ok (y, q) → ∃ e q1, r3 = .ok (e, q1) ∧ y = (x.1 ++ (⟨12, [], descI (stOf r3), 1⟩ :: e), x.2 + 1) := by
  obtain ⟨n, hn⟩ := h3
  match r3, hn with
  | .error e, hn => exact ⟨.error e, ⟨n, by show Px.order sz n x q0 = _; simp only [Px.order, hn, Px.obind]⟩, by simp [stOf, ascX, seesX, takeX], fun _ _ h => by cases h⟩
  | .ok (e, q1), hn =>
    by_cases ha : Px.sees Px.kASC q1 = true
    · refine ⟨.ok ((x.1 ++ (⟨12, [], 0, 1⟩ :: e), x.2 + 1), q1.tail), ⟨n, by show Px.order sz n x q0 = _; simp only [Px.order, hn, Px.obind, if_pos ha]⟩, by simp [stOf, ascX, seesX, takeX, ha], fun y q h => ?_⟩
      cases h
      exact ⟨e, q1, rfl, by simp [stOf, descI, seesX, ha]⟩
    · by_cases hd : Px.sees Px.kDESC q1 = true
      · refine ⟨.ok ((x.1 ++ (⟨12, [], 1, 1⟩ :: e), x.2 + 1), q1.tail), ⟨n, by show Px.order sz n x q0 = _; simp only [Px.order, hn, Px.obind, if_neg ha, if_pos hd]⟩, by simp [stOf, ascX, seesX, takeX, ha, hd], fun y q h => ?_⟩
        cases h
        exact ⟨e, q1, rfl, by simp [stOf, descI, seesX, ha, hd]⟩
      · refine ⟨.ok ((x.1 ++ (⟨12, [], 0, 1⟩ :: e), x.2 + 1), q1), ⟨n, by show Px.order sz n x q0 = _; simp only [Px.order, hn, Px.obind, if_neg ha, if_neg hd]⟩, by simp [stOf, ascX, seesX, takeX, ha, hd], fun y q h => ?_⟩
        cases h
        exact ⟨e, q1, rfl, by simp [stOf, descI, seesX, ha, hd]⟩

/-- SELECT: its steps up to WHERE, then the orders and the limit as readings of their own. -/
theorem choose_run (sz : Nat) (q0 : List Lx.Tok) (r1 : Px.Res (List Px.Nd × Nat)) (h1 : RunX (fun n => Px.sep (Px.pick sz) n ([], 0)) (.ok q0) r1)
    (r4 : Px.Res (List Px.Nd × Nat)) (h4 : RunX (Px.where_ sz) (stOf (nameX sz (mustX sz Px.kFROM (stOf r1)))) r4)
    (r5 : Px.Res (List Px.Nd × Nat)) (h5 : ∀ x y q1 q, r1 = .ok (x, q1) → r4 = .ok (y, q) → RunX (fun n => Px.orders sz n (x.1 ++ y.1, x.2 + y.2)) (.ok q) r5) (h5e : ∀ e, stOf r4 = .error e → r5 = .error e)
    (r6 : Px.Res (List Px.Nd × Nat)) (h6 : ∀ z q, r5 = .ok (z, q) → Px.limits sz z q = some r6) (h6e : ∀ e, stOf r5 = .error e → r6 = .error e) :
    ∃ r, RunX (Px.choose sz) (.ok q0) r ∧ stOf r = stOf r6 ∧ ∀ a q, r = .ok (a, q) → ∃ x q1 t q2 y q3 z q4 u, r1 = .ok (x, q1) ∧ nameX sz (mustX sz Px.kFROM (stOf r1)) = .ok (t, q2) ∧ r4 = .ok (y, q3) ∧ r5 = .ok (z, q4) ∧ r6 = .ok (u, q) ∧ a = ⟨9, t, 0, u.2⟩ :: u.1 := by
  obtain ⟨n1, hn1⟩ := h1
  match r1, hn1, h4, h5 with
  | .error e, hn1, h4, h5 =>
    have e4 : r4 = .error e := h4
    subst e4
    have e5 := h5e e rfl
    subst e5
    have e6 := h6e e rfl
    subst e6
    exact ⟨.error e, ⟨n1, by show Px.choose sz n1 q0 = _; simp only [Px.choose, hn1, Px.obind]⟩, rfl, fun _ _ h => by cases h⟩
  | .ok (x, q1), hn1, h4, h5 =>
    have hm := must_eq sz Px.kFROM q1
    have es : mustX sz Px.kFROM (stOf (.ok (x, q1))) = stOf (mustR sz Px.kFROM (.ok q1)) := (mustR_st _ _ _).symm
    rw [es] at h4
    rw [es]
    clear es
    generalize mustR sz Px.kFROM (.ok q1) = r2 at *
    match r2, hm, h4 with
    | .error e, hm, h4 =>
      have e4 : r4 = .error e := h4
      subst e4
      have e5 := h5e e rfl
      subst e5
      have e6 := h6e e rfl
      subst e6
      exact ⟨.error e, ⟨n1, by show Px.choose sz n1 q0 = _; simp only [Px.choose, hn1, hm, Px.obind]⟩, rfl, fun _ _ h => by cases h⟩
    | .ok ((), q2), hm, h4 =>
      have hn := name_eq sz q2
      have h4' : RunX (Px.where_ sz) (stOf (nameX sz (.ok q2))) r4 := h4
      clear h4
      have en : nameX sz (stOf (.ok ((), q2))) = nameX sz (.ok q2) := rfl
      rw [en]
      clear en
      generalize nameX sz (.ok q2) = r3 at *
      match r3, hn, h4' with
      | .error e, hn, h4 =>
        have e4 : r4 = .error e := h4
        subst e4
        have e5 := h5e e rfl
        subst e5
        have e6 := h6e e rfl
        subst e6
        exact ⟨.error e, ⟨n1, by show Px.choose sz n1 q0 = _; simp only [Px.choose, hn1, hm, hn, Px.obind]⟩, rfl, fun _ _ h => by cases h⟩
      | .ok (t, q3), hn, ⟨n4, hn4⟩ =>
        have up1 : ∀ m, n1 ≤ m → Px.sep (Px.pick sz) m ([], 0) q0 = some (.ok (x, q1)) := fun m hm => Px.sep_grows (Px.pick_grows sz) _ _ n1 m _ hm hn1
        have up4 : ∀ m, n4 ≤ m → Px.where_ sz m q3 = some r4 := fun m hm => Px.where_grows sz q3 n4 m _ hm hn4
        match r4, hn4, up4, h5, h5e with
        | .error e, hn4, up4, h5, h5e =>
          have e5 := h5e e rfl
          subst e5
          have e6 := h6e e rfl
          subst e6
          refine ⟨.error e, ⟨max n1 n4, ?_⟩, rfl, fun _ _ h => by cases h⟩
          show Px.choose sz (max n1 n4) q0 = _
          simp only [Px.choose, up1 _ (Nat.le_max_left _ _), hm, hn, up4 _ (Nat.le_max_right _ _), Px.obind]
        | .ok (y, q4), hn4, up4, h5, h5e =>
          obtain ⟨n5, hn5⟩ := h5 x y q1 q4 rfl rfl
          have up5 : ∀ m, n5 ≤ m → Px.orders sz m (x.1 ++ y.1, x.2 + y.2) q4 = some r5 := fun m hm => Px.orders_grows sz _ q4 n5 m _ hm hn5
          have a1 : n1 ≤ max n1 (max n4 n5) := by omega
          have a4 : n4 ≤ max n1 (max n4 n5) := by omega
          have a5 : n5 ≤ max n1 (max n4 n5) := by omega
          match r5, up5, h6, h6e with
          | .error e, up5, h6, h6e =>
            have e6 := h6e e rfl
            subst e6
            refine ⟨.error e, ⟨max n1 (max n4 n5), ?_⟩, rfl, fun _ _ h => by cases h⟩
            show Px.choose sz (max n1 (max n4 n5)) q0 = _
            simp only [Px.choose, up1 _ a1, hm, hn, up4 _ a4, up5 _ a5, Px.obind]
          | .ok (z, q5), up5, h6, h6e =>
            have hl := h6 z q5 rfl
            match r6, hl with
            | .error e, hl =>
              refine ⟨.error e, ⟨max n1 (max n4 n5), ?_⟩, rfl, fun _ _ h => by cases h⟩
              show Px.choose sz (max n1 (max n4 n5)) q0 = _
              simp only [Px.choose, up1 _ a1, hm, hn, up4 _ a4, up5 _ a5, hl, Px.obind]
            | .ok (u, q6), hl =>
              refine ⟨.ok (⟨9, t, 0, u.2⟩ :: u.1, q6), ⟨max n1 (max n4 n5), ?_⟩, rfl, fun a q h => ?_⟩
              · show Px.choose sz (max n1 (max n4 n5)) q0 = _
                simp only [Px.choose, up1 _ a1, hm, hn, up4 _ a4, up5 _ a5, hl, Px.obind]
              · cases h
                exact ⟨x, q1, t, q3, y, q4, z, q5, u, rfl, rfl, rfl, rfl, rfl, rfl⟩
end Go.Proofs.YtcdgihdhpaipaaaGreatDoor

namespace Go.Proofs.YtcdgihdhpaipaaaGreatDoor
open Go.RowKit
set_option linter.unusedSimpArgs false
set_option linter.unusedVariables false

/-- How far a list may still go. -/
def moreM (B : Nat) (m : Value) (w : World) : Nat := match m with
  | .bool true => leftM B w
  | _ => 0

/-- Where a list stands: st0 is where it began, a what was gathered. -/
def SepAt {α : Type} (item : Nat → α → List Lx.Tok → Px.Out α) (x0 : α) (st0 : Except (Nat × Nat) (List Lx.Tok)) (a : α) (st : Except (Nat × Nat) (List Lx.Tok)) (more : Bool) : Prop :=
  match st with
  | .ok q => if more = true then ∀ r, RunX (fun n => Px.sep item n a) (.ok q) r → RunX (fun n => Px.sep item n x0) st0 r else RunX (fun n => Px.sep item n x0) st0 (.ok (a, q))
  | .error e => RunX (fun n => Px.sep item n x0) st0 (.error e)

theorem SepAt.start {α : Type} {item : Nat → α → List Lx.Tok → Px.Out α} {x0 : α} {st0 : Except (Nat × Nat) (List Lx.Tok)} : SepAt item x0 st0 x0 st0 true := by
  match st0 with
  | .ok q => exact fun r hr => hr
  | .error e => rfl

theorem SepAt.exit {α : Type} {item : Nat → α → List Lx.Tok → Px.Out α} {x0 a : α} {st0 st : Except (Nat × Nat) (List Lx.Tok)} {more : Bool} (h : SepAt item x0 st0 a st more) (hx : more = false ∨ ∃ e, st = .error e) :
    ∃ r3, RunX (fun n => Px.sep item n x0) st0 r3 ∧ stOf r3 = st ∧ ∀ y q, r3 = .ok (y, q) → y = a := by
  match st, h with
  | .error e, h => exact ⟨.error e, h, rfl, fun _ _ h => by cases h⟩
  | .ok q, h =>
    rcases hx with rfl | ⟨e, he⟩
    · exact ⟨.ok (a, q), h, rfl, fun _ _ h => by cases h; rfl⟩
    · cases he

theorem SepAt.next {α : Type} {item : Nat → α → List Lx.Tok → Px.Out α} (hg : ∀ b ts, Px.Grows fun n => item n b ts) {x0 a : α} {st0 : Except (Nat × Nat) (List Lx.Tok)} {q1 : List Lx.Tok} (H : SepAt item x0 st0 a (.ok q1) true)
    {r : Px.Res α} (hr : RunX (fun n => item n a) (.ok q1) r) (a' : α) (hok : ∀ y q, r = .ok (y, q) → y = a') : SepAt item x0 st0 a' (takeX Px.gComma (stOf r)) (seesX Px.gComma (stOf r)) := by
  have H' : ∀ r, RunX (fun n => Px.sep item n a) (.ok q1) r → RunX (fun n => Px.sep item n x0) st0 r := H
  match r, hr, hok with
  | .error e, hr, hok => exact H' _ (sep_bad hr)
  | .ok (y, q), hr, hok =>
    have := hok y q rfl
    subst this
    by_cases hc : Px.sees Px.gComma q = true
    · have e1 : takeX Px.gComma (stOf (.ok (y, q))) = .ok q.tail := if_pos hc
      have e2 : seesX Px.gComma (stOf (.ok (y, q))) = true := hc
      rw [e1, e2]
      exact fun r' hr' => H' _ (sep_more hg hr hc hr')
    · have hc' : Px.sees Px.gComma q = false := by simpa using hc
      have e1 : takeX Px.gComma (stOf (.ok (y, q))) = .ok q := if_neg hc
      have e2 : seesX Px.gComma (stOf (.ok (y, q))) = false := hc'
      rw [e1, e2]
      exact H' _ (sep_last hr hc')

/-- Where a list of nodes and their number stands. -/
def ListI (item : Nat → List Px.Nd × Nat → List Lx.Tok → Px.Out (List Px.Nd × Nat)) (x0 : List Px.Nd × Nat) (st0 : Except (Nat × Nat) (List Lx.Tok)) (c d s : Nat) (w : World) (B : Nat) (lv : Value) (ts : List Lx.Tok) (sz : Nat) (v n m : Value) (wr : World) : Prop :=
  ∃ st l k more, n = .int .i64 (k : Nat) ∧ m = .bool more ∧ k ≤ c + 10 ∧ l.length ≤ d + s ∧ NdIs wr w.heap.size v l ∧ PX wr B lv ts sz st (ts.length + 3) ∧ w.grownBy wr (some B) ∧
    SepAt item x0 st0 (l, k) st more ∧ ∀ q, st = .ok q → k + q.length + more.toNat ≤ c + 1 ∧ l.length + 10 * q.length + 10 * more.toNat ≤ d + 10

/-- A round's end in numbers. -/
theorem comma_len {st : Except (Nat × Nat) (List Lx.Tok)} {q : List Lx.Tok} (h : takeX Px.gComma st = .ok q) (h' : seesX Px.gComma st = true) : ∃ q', st = .ok q' ∧ q.length + 1 = q'.length := by
  match st, h, h' with
  | .ok q', h, h' =>
    have hs : Px.sees Px.gComma q' = true := h'
    have e : takeX Px.gComma (.ok q') = .ok q'.tail := if_pos hs
    rw [e] at h
    cases h
    have := Px.sees_len hs
    exact ⟨q', rfl, by simp; omega⟩
  | .error e, h, h' => cases h'

theorem comma_both {st : Except (Nat × Nat) (List Lx.Tok)} {q : List Lx.Tok} (h : takeX Px.gComma st = .ok q) : ∃ q', st = .ok q' ∧ q.length + (seesX Px.gComma st).toNat = q'.length := by
  cases hs : seesX Px.gComma st with
  | true =>
    obtain ⟨q', e1, e2⟩ := comma_len h hs
    exact ⟨q', e1, e2⟩
  | false =>
    rw [take_same hs] at h
    exact ⟨q, h, rfl⟩

/-- What a statement's reading leaves. -/
def StPost (f : Nat → List Lx.Tok → Px.Out (List Px.Nd)) (w : World) (B : Nat) (lv : Value) (ts : List Lx.Tok) (sz : Nat) (st : Except (Nat × Nat) (List Lx.Tok)) (x : Ending) (w' : World) : Prop :=
  ∃ r v l, x = .returned v ∧ RunX f st r ∧ NdIs w' w.heap.size v l ∧ (∀ a q', r = .ok (a, q') → l = a) ∧ l.length ≤ 80000 ∧ PX w' B lv ts sz (stOf r) (ts.length + 4) ∧ w.grownBy w' (some B)

/-- The measure of a list that goes on. -/
theorem moreM_lt {B : Nat} {lv : Value} {ts : List Lx.Tok} {sz : Nat} {q1 : List Lx.Tok} {b b' : Nat} {w w' : World} {st : Except (Nat × Nat) (List Lx.Tok)} {more : Bool} (h : PX w B lv ts sz (.ok q1) b) (h' : PX w' B lv ts sz st b') (hlt : ∀ q, st = .ok q → more = true → q.length < q1.length) :
    moreM B (.bool more) w' < moreM B (.bool true) w := by
  obtain ⟨k1, hk1, hq1, hp1⟩ := h
  obtain ⟨c0, c1, c2, c3, c4⟩ := hp1.cells
  have e1 : moreM B (.bool true) w = 4001 - k1 := by
    show leftM B w = _
    unfold leftM
    rw [c3, c1]
    simp
  rw [e1]
  have hle := hp1.len
  cases more with
  | false => show 0 < _; omega
  | true =>
    match st, h', hlt with
    | .error (p, c), h', _ =>
      obtain ⟨hc0, k5, hk5, hp5⟩ := h'
      obtain ⟨c0, c1, c2, c3, c4⟩ := hp5.cells
      show leftM B w' < _
      unfold leftM
      rw [c3, c1]
      simp [hc0]
      omega
    | .ok q5, h', hlt =>
      obtain ⟨k5, hk5, hq5, hp5⟩ := h'
      obtain ⟨c0, c1, c2, c3, c4⟩ := hp5.cells
      have := hlt q5 rfl rfl
      rw [hq5, hq1] at this
      simp at this
      show leftM B w' < _
      unfold leftM
      rw [c3, c1]
      simp
      omega
theorem PX.okb {w : World} {B : Nat} {lv : Value} {ts : List Lx.Tok} {sz : Nat} {q : List Lx.Tok} {b : Nat} (h : PX w B lv ts sz (.ok q) b) (b' : Nat) : PX w B lv ts sz (.ok q) b' := h
theorem PX.short {w : World} {B : Nat} {lv : Value} {ts : List Lx.Tok} {sz : Nat} {q : List Lx.Tok} {b : Nat} (h : PX w B lv ts sz (.ok q) b) : q.length ≤ 2000 := by
  obtain ⟨k, _, rfl, hp⟩ := h
  have := hp.len
  simp; omega
/-- An exit of a list's loop: either no more, or an error's cell. -/
theorem PX.errcell {w : World} {B : Nat} {lv : Value} {ts : List Lx.Tok} {sz : Nat} {e : Nat × Nat} {b : Nat} (h : PX w B lv ts sz (.error e) b) : ∃ c : Int, (c == 0) = false ∧ w.cell? ⟨B, 3, none⟩ = some (.int .i64 c) := by
  obtain ⟨p, c⟩ := e
  obtain ⟨h0, k, _, hp⟩ := h
  exact ⟨c, by rw [beq_eq_false_iff_ne]; omega, hp.cells.2.2.2.1⟩
theorem PX.okcell {w : World} {B : Nat} {lv : Value} {ts : List Lx.Tok} {sz : Nat} {q : List Lx.Tok} {b : Nat} (h : PX w B lv ts sz (.ok q) b) : w.cell? ⟨B, 3, none⟩ = some (.int .i64 0) := by
  obtain ⟨k, _, _, hp⟩ := h
  exact hp.cells.2.2.2.1
end Go.Proofs.YtcdgihdhpaipaaaGreatDoor

namespace Go.Proofs.YtcdgihdhpaipaaaGreatDoor
open Go.RowKit
set_option linter.unusedSimpArgs false
set_option linter.unusedVariables false

theorem name_short {sz : Nat} {q1 q2 : List Lx.Tok} {t : Lx.Bs} (h : nameX sz (.ok q1) = .ok (t, q2)) : q2.length + 1 = q1.length := by
  match q1, h with
  | [], h => cases h
  | x :: r, h =>
    rw [name_cons] at h
    split at h
    · cases h
    · split at h
      · cases h
      · cases h; rfl
theorem setOne_len {sz : Nat} {q1 q5 : List Lx.Tok} {l5 : List Px.Nd} (h : exX sz 1 (mustX sz Px.gEq (stOf (nameX sz (.ok q1)))) (.ok (l5, q5))) : l5.length + q5.length ≤ q1.length := by
  cases hn : nameX sz (.ok q1) with
  | error e => rw [hn] at h; cases h
  | ok x =>
    obtain ⟨t, q2⟩ := x
    rw [hn] at h
    by_cases hs : Px.sees Px.gEq q2 = true
    · have e : mustX sz Px.gEq (stOf (.ok (t, q2))) = .ok q2.tail := if_pos hs
      rw [e] at h
      obtain ⟨n, hx⟩ := h
      have h1 := ((Px.ex_len n _ [] _ l5 q5 hx).1 (by omega)).2
      have h2 := name_short hn
      simp at h1
      omega
    · have e : mustX sz Px.gEq (stOf (.ok (t, q2))) = .error (Px.plc sz q2, 4) := if_neg hs
      rw [e] at h
      cases h

set_option maxRecDepth 100000 in
set_option maxHeartbeats 4000000 in
theorem update_any (w : World) (B : Nat) (lv : Value) (ts : List Lx.Tok) (sz : Nat) (q : List Lx.Tok) (h : PX w B lv ts sz (.ok q) ts.length) :
    Calls Tryz.prog 39 #[.pointer (some ⟨B, 0, none⟩)] w (StPost (Px.update sz) w B lv ts sz (.ok q)) := by
  have HX := hd h
  have hB := h.lt
  have hts : ts.length ≤ 2000 := by
    obtain ⟨k, _, _, hp⟩ := h
    exact hp.len
  clear h
  go_enter Tryz.func39, Tryz.ntmps39
  go_wp2_with fail
  refine (name_any w B lv ts sz (.ok q) ts.length HX.out (Nat.le_refl _) (by omega)).mono ?_
  rintro x w1 ⟨tb, rfl, htb, hname, h1, hb1⟩
  have HNM := hd hname
  clear hname
  have hz1 := hb1.size
  go_wp2_with fail
  refine (must_any ⟨#[83, 69, 84]⟩ w1.heap.size _ B lv ts sz _ (ts.length + 1) (h1.below (by go_grown)) (by omega) ((Blk.new w1 _ _).cell 0)).mono ?_
  rintro x w2 ⟨rfl, h2, hb2⟩
  have hz2 := hb2.size
  have G2 := grown_trans hb1 (grown_trans (Below.grownBy (by go_grown)) hb2)
  have HI : Hid (ListI (Px.setOne sz) ([], 0) (mustX sz Px.kSET (stOf (nameX sz (.ok q)))) 2000 20000 2010 w B lv ts sz (.slice none 0 0) (.int .i64 0) (.bool true) w2) := by
    refine ⟨_, [], 0, true, rfl, rfl, by omega, by simp, NdIs.nil _ _, h2.mono (by omega), G2, SepAt.start, ?_⟩
    intro q1 e
    rw [e] at h2
    have := h2.short
    simp
    omega
  clear h1 h2 hb1 hb2
  go_wp2_with fail
  go_loopw [4, 5, 6] (fun v n m wr => Hid (ListI (Px.setOne sz) ([], 0) (mustX sz Px.kSET (stOf (nameX sz (.ok q)))) 2000 20000 2010 w B lv ts sz v n m wr)) (fun _ _ m wr => moreM B m wr)
  case atStart => exact HI
  case round =>
    obtain ⟨st, l, k, more, rfl, rfl, hk, hln, hl, hx, hg, hsep, hbd⟩ := hrel.out
    have HSP := hd hsep
    have HBD := hd hbd
    clear hsep hbd HI hrel
    have hzr := hg.size
    obtain ⟨ao, cap, rfl, _⟩ := hl.slice
    by_cases hgo : more = true ∧ ∃ q1, st = .ok q1
    · obtain ⟨rfl, q1, rfl⟩ := hgo
      have hc3 := hx.okcell
      obtain ⟨hb1, hb2⟩ := HBD.out q1 rfl
      rw [Bool.toNat_true] at hb1 hb2
      go_wp2_with fail
      refine (name_any _ B lv ts sz (.ok q1) ts.length (hx.okb _) (Nat.le_refl _) (by omega)).mono ?_
      rintro x w3 ⟨nb, rfl, hnb, hname3, h3, hg3⟩
      have HNM3 := hd hname3
      clear hname3
      have hz3 := hg3.size
      have hl3 := hl.keep hg3 hB
      go_wp2_with fail
      refine (must_any ⟨#[61]⟩ w3.heap.size _ B lv ts sz _ (ts.length + 1) (h3.below (by go_grown)) (by omega) ((Blk.new w3 _ _).cell 0)).mono ?_
      rintro x w4 ⟨rfl, h4, hg4⟩
      have hz4 := hg4.size
      have hl4 := (hl3.below (by go_grown)).keep hg4 hB
      have G4 := grown_trans hg (grown_trans hg3 (grown_trans (Below.grownBy (by go_grown)) hg4))
      go_wp2_with fail
      refine (expr_any w4 B lv ts sz 1 _ (ts.length + 1) (by omega) (by omega) (by omega) h4).mono ?_
      rintro x w5 ⟨r5, v5, l5, rfl, hr5, hv5, hok5, hln5, hnum5, h5, hg5⟩
      have HR5 := hd hr5
      have HOK5 := hd hok5
      clear hr5 hok5 hnum5
      have hz5 := hg5.size
      have hl5 := hl4.keep hg5 hB
      have G5 := grown_trans G4 hg5
      have hB5 := h5.lt
      have hzG := G5.size
      obtain ⟨ao5, cap5, rfl, _⟩ := hv5.slice
      go_wp2_with fail
      refine (cat_any _ 0 w4.heap.size _ _ [⟨8, nb.data.toList, 0, 1⟩] l5 (NdIs.newAt w5 ⟨8, nb.data.toList, 0, 1⟩ _ rfl) (hv5.below (by go_grown)) (by simp only [List.length_cons, List.length_nil]; omega)).mono ?_
      rintro x w6 ⟨v6, rfl, ho6, hb6⟩
      have hv6 : NdIs w6 _ v6 (⟨8, nb.data.toList, 0, 1⟩ :: l5) := NdIs.of_own ho6
      have B6 : Below w5.heap.size w5 w6 := below_more (by go_grown) hb6 (by simp)
      have hz6 := B6.size
      clear ho6 hb6
      obtain ⟨ao6, cap6, rfl, _⟩ := hv6.slice
      go_wp2_with fail
      refine (cat_any w6 w.heap.size _ _ _ l (⟨8, nb.data.toList, 0, 1⟩ :: l5) (hl5.below B6) hv6 (by simp only [List.length_cons]; omega)).mono ?_
      rintro x w7 ⟨v7, rfl, ho7, hb7⟩
      have hv7 := NdIs.of_own ho7
      have hz7 := hb7.size
      obtain ⟨ao7, cap7, rfl, _⟩ := hv7.slice
      go_wp2_with fail
      refine (takes_any ⟨#[44]⟩ w7 B lv ts sz _ _ ((h5.below B6).below hb7)).mono ?_
      rintro x w8 ⟨rfl, h8, hg8⟩
      have G8 := grown_trans G5 (grown_trans (Below.grownBy B6) (grown_trans (Below.grownBy hb7) hg8))
      have hv8 := hv7.keep hg8 (by omega)
      obtain ⟨r, hr, hrs, hrv⟩ := setOne_run sz (l, k) q1 r5 HR5.out
      have hval : ∀ y q', r = .ok (y, q') → y = (l ++ ⟨8, nb.data.toList, 0, 1⟩ :: l5, k + 1) := by
        intro y q' e
        obtain ⟨t, q2, e5, e1, e2, e3⟩ := hrv y q' e
        rw [e3, HOK5.out e5 q' e2, HNM3.out t q2 e1]
      have hshort : ∀ q', stOf r5 = .ok q' → l5.length + q'.length ≤ q1.length := by
        intro q' e
        match r5, HR5, HOK5, e with
        | .ok (e5, q5), HR5, HOK5, e =>
          cases e
          have hl := HOK5.out e5 q' rfl
          subst hl
          exact setOne_len HR5.out
      have HL8 : Hid (ListI (Px.setOne sz) ([], 0) (mustX sz Px.kSET (stOf (nameX sz (.ok q)))) 2000 20000 2010 w B lv ts sz (.slice ao7 (l ++ ⟨8, nb.data.toList, 0, 1⟩ :: l5).length cap7) (.int .i64 ((k : Int) + 1)) (.bool (seesX Px.gComma (stOf r5))) w8) := by
        refine ⟨takeX Px.gComma (stOf r5), _, k + 1, _, by simp, rfl, by omega, by simp only [List.length_append, List.length_cons]; omega, hv8.lower (by omega), h8.mono (by omega), G8, ?_, ?_⟩
        · rw [← hrs]
          exact SepAt.next (Px.setOne_grows sz) HSP.out hr _ hval
        · intro q' e1
          obtain ⟨q5, e5, e6⟩ := comma_both e1
          have := hshort q5 e5
          simp only [List.length_append, List.length_cons]
          omega
      have HM8 : Hid (moreM B (.bool (seesX Px.gComma (stOf r5))) w8 < moreM B (.bool true) wr) := by
        refine moreM_lt hx h8 (fun q' e1 e2 => ?_)
        obtain ⟨q5, e5, e6⟩ := comma_len e1 e2
        have := hshort q5 e5
        omega
      rw [show (l ++ ⟨8, nb.data.toList, 0, 1⟩ :: l5).length = l.length + (l5.length + 1) from by simp] at HL8
      go_wp2_with fail
      go_roundw
      case rel => exact HL8
      case measure => exact HM8.out
    · have hexit : more = false ∨ ∃ e, st = .error e := by
        cases more with
        | false => exact .inl rfl
        | true =>
          match st, hgo with
          | .ok q1, hgo => exact absurd ⟨rfl, q1, rfl⟩ hgo
          | .error e, _ => exact .inr ⟨e, rfl⟩
      obtain ⟨r3, hr3, hst3, hval3⟩ := HSP.out.exit hexit
      have HR3 := hd hr3
      have HV3 := hd hval3
      have HS3 := hd hst3
      have hcell : more = false ∨ more = true ∧ ∃ c : Int, (c == 0) = false ∧ wr.cell? ⟨B, 3, none⟩ = some (.int .i64 c) := by
        cases more with
        | false => exact .inl rfl
        | true =>
          rcases hexit with h | ⟨e, rfl⟩
          · cases h
          · exact .inr ⟨rfl, hx.errcell⟩
      clear hgo hexit hr3 hval3 hst3 HBD HSP
      rcases hcell with rfl | ⟨rfl, c, hc0, hc3⟩
      all_goals
        go_wp2_with fail
        refine (where_any wr B lv ts sz st (ts.length + 3) (by omega) hx).mono ?_
        rintro x w4 ⟨r4, v4, l4, k4, rfl, hr4, hv4, hok4, hk4, hln4, hnum4, h4, hg4⟩
        have HR4 := hd hr4
        have HOK4 := hd hok4
        have HK4 := hd hk4
        clear hr4 hok4 hnum4 hk4
        have hz4 := hg4.size
        have hl4 := hl.keep hg4 hB
        have G4 := grown_trans hg hg4
        obtain ⟨ao4, cap4, rfl, _⟩ := hv4.slice
        go_wp2_with fail
        refine (cat_any w4 w.heap.size _ _ _ l l4 hl4 hv4 (by omega)).mono ?_
        rintro x w5 ⟨v5, rfl, ho5, hb5⟩
        have hv5 := NdIs.of_own ho5
        have hz5 := hb5.size
        obtain ⟨ao5, cap5, rfl, _⟩ := hv5.slice
        rw [List.length_append] at hv5
        go_wp2_with fail
        refine (headed_any 7 (wrap64 ((k : Int) + k4)) tb w5 _ _ (l ++ l4) hv5 (by simp only [List.length_append]; omega)).mono ?_
        rintro x w6 ⟨v6, rfl, hv6, hb6⟩
        obtain ⟨ao6, cap6, rfl, _⟩ := hv6.slice
        simp only [List.length_cons, List.length_append] at hv6
        go_wp2
        go_ret
        obtain ⟨r, hr, hrs, hrv⟩ := update_run sz q r3 r4 HR3.out (by rw [HS3.out]; exact HR4.out)
        refine ⟨r, _, ⟨7, tb.data.toList, 0, wrap64 ((k : Int) + k4)⟩ :: (l ++ l4), rfl, hr, hv6.lower (by omega), ?_, by simp only [List.length_append, List.length_cons]; omega, ?_, grown_trans G4 (grown_trans (Below.grownBy hb5) (Below.grownBy hb6))⟩
        · intro a q' e
          obtain ⟨t, q1, x, q2, y, e1, e2, e3, e4⟩ := hrv a q' e
          have f1 := HNM.out t q1 e1
          have f2 := HV3.out x q2 e2
          have f3 := HOK4.out y.1 y.2 q' e3
          have f4 : wrap64 ((k : Int) + k4) = ((k + y.2 : Nat) : Int) := by
            have hk4 := HK4.out
            rw [f3.2] at hk4 ⊢
            rw [IntWalk.wrap64_in _ ⟨by omega, by omega⟩]
            omega
          rw [e4, f1, f2, f4, ← f3.1]
          simp
        · rw [hrs]
          exact ((h4.below hb5).below hb6).mono (by omega)
end Go.Proofs.YtcdgihdhpaipaaaGreatDoor

namespace Go.Proofs.YtcdgihdhpaipaaaGreatDoor
open Go.RowKit
set_option linter.unusedSimpArgs false
set_option linter.unusedVariables false

theorem ex_short {sz : Nat} {st : Except (Nat × Nat) (List Lx.Tok)} {r : Px.Res (List Px.Nd)} {q1 q5 : List Lx.Tok} {l5 : List Px.Nd} (h : exX sz 1 st r) (hs : ∀ q, st = .ok q → q.length ≤ q1.length) (hok : ∀ a q', r = .ok (a, q') → l5 = a) (h5 : stOf r = .ok q5) : l5.length + q5.length ≤ q1.length := by
  match st, r, h, hok, h5, hs with
  | .error e, .ok (a, q'), h, hok, h5, hs => cases h
  | .ok q, .ok (a, q'), h, hok, h5, hs =>
    cases h5
    have hl := hok a q5 rfl
    subst hl
    obtain ⟨n, hx⟩ := h
    have h1 := ((Px.ex_len n _ [] _ l5 q5 hx).1 (by omega)).2
    have := hs q rfl
    omega

theorem must_short {sz : Nat} {s : Lx.Bs} {q1 q2 : List Lx.Tok} (e : mustX sz s (.ok q1) = .ok q2) : q2.length + 1 = q1.length := by
  by_cases hs : Px.sees s q1 = true
  · have e' : mustX sz s (.ok q1) = .ok q1.tail := if_pos hs
    rw [e'] at e
    cases e
    have := Px.sees_len hs
    simp; omega
  · have e' : mustX sz s (.ok q1) = .error (Px.plc sz q1, 4) := if_neg hs
    rw [e'] at e
    cases e

/-- The rows within a row of an INSERT. -/
def RowI (q1 : List Lx.Tok) (w : World) (B : Nat) (lv : Value) (ts : List Lx.Tok) (sz : Nat) (v n m : Value) (wr : World) : Prop := ListI (Px.item sz) ([], 0) (mustX sz Px.gOpen (.ok q1)) q1.length (10 * q1.length - 10) 2010 w B lv ts sz v n m wr

set_option maxRecDepth 100000 in
set_option maxHeartbeats 4000000 in
theorem insert_any (w : World) (B : Nat) (lv : Value) (ts : List Lx.Tok) (sz : Nat) (q : List Lx.Tok) (h : PX w B lv ts sz (.ok q) ts.length) :
    Calls Tryz.prog 37 #[.pointer (some ⟨B, 0, none⟩)] w (StPost (Px.insert sz) w B lv ts sz (.ok q)) := by
  have HX := hd h
  have hB := h.lt
  have hts : ts.length ≤ 2000 := by
    obtain ⟨k, _, _, hp⟩ := h
    exact hp.len
  clear h
  go_enter Tryz.func37, Tryz.ntmps37
  go_wp2_with fail
  refine (must_any ⟨#[73, 78, 84, 79]⟩ w.heap.size _ B lv ts sz (.ok q) ts.length (HX.out.below (by go_grown)) (Nat.le_refl _) ((Blk.new w _ _).cell 0)).mono ?_
  rintro x w0 ⟨rfl, h0, hg0⟩
  have hz0 := hg0.size
  have G0 : w.grownBy w0 (some B) := grown_trans (Below.grownBy (by go_grown)) hg0
  go_wp2_with fail
  refine (name_any w0 B lv ts sz _ ts.length h0 (Nat.le_refl _) (by omega)).mono ?_
  rintro x w1 ⟨tb, rfl, htb, hname, h1, hb1⟩
  have HNM := hd hname
  clear hname
  have hz1 := hb1.size
  go_wp2_with fail
  refine (must_any ⟨#[86, 65, 76, 85, 69, 83]⟩ w1.heap.size _ B lv ts sz _ (ts.length + 1) (h1.below (by go_grown)) (by omega) ((Blk.new w1 _ _).cell 0)).mono ?_
  rintro x w2 ⟨rfl, h2, hb2⟩
  have hz2 := hb2.size
  have G2 := grown_trans G0 (grown_trans hb1 (grown_trans (Below.grownBy (by go_grown)) hb2))
  have HI : Hid (ListI (Px.row sz) ([], 0) (mustX sz Px.kVALUES (stOf (nameX sz (mustX sz Px.kINTO (.ok q))))) 2000 20000 2020 w B lv ts sz (.slice none 0 0) (.int .i64 0) (.bool true) w2) := by
    refine ⟨_, [], 0, true, rfl, rfl, by omega, by simp, NdIs.nil _ _, h2.mono (by omega), G2, SepAt.start, ?_⟩
    intro q1 e
    rw [e] at h2
    have := h2.short
    simp
    omega
  clear h0 hg0 G0 h1 h2 hb1 hb2
  go_wp2_with fail
  go_loopw [4, 5, 6] (fun v n m wr => Hid (ListI (Px.row sz) ([], 0) (mustX sz Px.kVALUES (stOf (nameX sz (mustX sz Px.kINTO (.ok q))))) 2000 20000 2020 w B lv ts sz v n m wr)) (fun _ _ m wr => moreM B m wr)
  case atStart => exact HI
  case round =>
    obtain ⟨st, l, k, more, rfl, rfl, hk, hln, hl, hx, hg, hsep, hbd⟩ := hrel.out
    have HSP := hd hsep
    have HBD := hd hbd
    clear hsep hbd HI hrel
    have hzr := hg.size
    obtain ⟨ao, cap, rfl, _⟩ := hl.slice
    by_cases hgo : more = true ∧ ∃ q1, st = .ok q1
    · obtain ⟨rfl, q1, rfl⟩ := hgo
      have hc3 := hx.okcell
      obtain ⟨hb1, hb2⟩ := HBD.out q1 rfl
      rw [Bool.toNat_true] at hb1 hb2
      go_wp2_with fail
      refine (must_any ⟨#[40]⟩ wr.heap.size _ B lv ts sz (.ok q1) ts.length ((hx.okb _).below (by go_grown)) (Nat.le_refl _) ((Blk.new wr _ _).cell 0)).mono ?_
      rintro x w3 ⟨rfl, h3, hg3⟩
      have G3 : wr.grownBy w3 (some B) := grown_trans (Below.grownBy (by go_grown)) hg3
      have hz3 := G3.size
      have HJ : Hid (RowI q1 wr B lv ts sz (.slice none 0 0) (.int .i64 0) (.bool true) w3) := by
        refine ⟨_, [], 0, true, rfl, rfl, by omega, by simp, NdIs.nil _ _, h3.mono (by omega), G3, SepAt.start, ?_⟩
        intro q2 e
        have := must_short e
        simp
        omega
      obtain ⟨wo, rfl⟩ : ∃ wo, wo = wr := ⟨_, rfl⟩
      clear h3 hg3 G3 hc3
      go_wp2_with fail
      go_loopw [7, 8, 9] (fun v n m wr => Hid (RowI q1 wo B lv ts sz v n m wr)) (fun _ _ m wr => moreM B m wr)
      case atStart => exact HJ
      case round =>
        obtain ⟨st5, row, n5, next, rfl, rfl, hk5, hln5, hrow, hx5, hg5, hsep5, hbd5⟩ := hrel.out
        have HSP5 := hd hsep5
        have HBD5 := hd hbd5
        clear hsep5 hbd5 HJ hrel
        have hzr5 := hg5.size
        obtain ⟨ao5, cap5, rfl, _⟩ := hrow.slice
        have hBo := hx.lt
        by_cases hgo : next = true ∧ ∃ q2, st5 = .ok q2
        · obtain ⟨rfl, q2, rfl⟩ := hgo
          have hc3 := hx5.okcell
          obtain ⟨hb3, hb4⟩ := HBD5.out q2 rfl
          rw [Bool.toNat_true] at hb3 hb4
          go_wp2_with fail
          refine (expr_any wr B lv ts sz 1 (.ok q2) ts.length (Nat.le_refl _) (by omega) (by omega) (hx5.okb _)).mono ?_
          rintro x w6 ⟨r6, v6, l6, rfl, hr6, hv6, hok6, hln6, hnum6, h6, hg6⟩
          have HR6 := hd hr6
          have HOK6 := hd hok6
          clear hr6 hok6 hnum6
          have G6 := grown_trans hg5 hg6
          have hz6 := G6.size
          have hrow6 := hrow.keep hg6 hBo
          obtain ⟨ao6, cap6, rfl, _⟩ := hv6.slice
          go_wp2_with fail
          refine (cat_any w6 wo.heap.size _ _ _ row l6 hrow6 hv6 (by omega)).mono ?_
          rintro x w7 ⟨v7, rfl, ho7, hb7⟩
          have hv7 := NdIs.of_own ho7
          have hz7 := hb7.size
          obtain ⟨ao7, cap7, rfl, _⟩ := hv7.slice
          go_wp2_with fail
          refine (takes_any ⟨#[44]⟩ w7 B lv ts sz _ _ (h6.below hb7)).mono ?_
          rintro x w8 ⟨rfl, h8, hg8⟩
          have G8 := grown_trans G6 (grown_trans (Below.grownBy hb7) hg8)
          have hB6 := h6.lt
          have hv8 := hv7.keep hg8 (by omega)
          have hr := item_run sz (row, n5) q2 r6 HR6.out
          have hval : ∀ y q', endR (fun e => (row ++ e, n5 + 1)) r6 = .ok (y, q') → y = (row ++ l6, n5 + 1) := by
            intro y q' e
            match r6, HOK6, e with
            | .ok (e6, q6), HOK6, e =>
              have := HOK6.out e6 q6 rfl
              subst this
              cases e
              rfl
          have hshort : ∀ q', stOf r6 = .ok q' → l6.length + q'.length ≤ q2.length := fun q' e => ex_short HR6.out (fun q e => by cases e; exact Nat.le_refl _) HOK6.out e
          have HL8 : Hid (RowI q1 wo B lv ts sz (.slice ao7 (row ++ l6).length cap7) (.int .i64 ((n5 : Int) + 1)) (.bool (seesX Px.gComma (stOf r6))) w8) := by
            refine ⟨takeX Px.gComma (stOf r6), _, n5 + 1, _, by simp, rfl, by omega, by simp only [List.length_append]; omega, hv8.lower (by omega), h8.mono (by omega), G8, ?_, ?_⟩
            · have := SepAt.next (Px.item_grows sz) HSP5.out hr _ hval
              rw [endR_st] at this
              exact this
            · intro q' e1
              obtain ⟨q5, e5, e6⟩ := comma_both e1
              have := hshort q5 e5
              simp only [List.length_append]
              omega
          have HM8 : Hid (moreM B (.bool (seesX Px.gComma (stOf r6))) w8 < moreM B (.bool true) wr) := by
            refine moreM_lt hx5 h8 (fun q' e1 e2 => ?_)
            obtain ⟨q5, e5, e6⟩ := comma_len e1 e2
            have := hshort q5 e5
            omega
          rw [show (row ++ l6).length = row.length + l6.length from by simp] at HL8
          go_wp2_with fail
          go_roundw
          case rel => exact HL8
          case measure => exact HM8.out
        · have hexit : next = false ∨ ∃ e, st5 = .error e := by
            cases next with
            | false => exact .inl rfl
            | true =>
              match st5, hgo with
              | .ok q1, hgo => exact absurd ⟨rfl, q1, rfl⟩ hgo
              | .error e, _ => exact .inr ⟨e, rfl⟩
          obtain ⟨r3, hr3, hst3, hval3⟩ := HSP5.out.exit hexit
          have HR3 := hd hr3
          have HV3 := hd hval3
          have HS3 := hd hst3
          have hcell : next = false ∨ next = true ∧ ∃ c : Int, (c == 0) = false ∧ wr.cell? ⟨B, 3, none⟩ = some (.int .i64 c) := by
            cases next with
            | false => exact .inl rfl
            | true =>
              rcases hexit with h | ⟨e, rfl⟩
              · cases h
              · exact .inr ⟨rfl, hx5.errcell⟩
          have hshort : ∀ q', st5 = .ok q' → row.length + 10 * q'.length ≤ 10 * q1.length - 10 + 10 := fun q' e => by
            have := (HBD5.out q' e).2
            omega
          have HSH := hd hshort
          clear hgo hexit hr3 hval3 hst3 HBD5 HSP5 hshort
          rcases hcell with rfl | ⟨rfl, c, hc0, hc3⟩
          all_goals
            go_wp2_with fail
            refine (must_any ⟨#[41]⟩ wr.heap.size _ B lv ts sz st5 (ts.length + 3) (hx5.below (by go_grown)) (by omega) ((Blk.new wr _ _).cell 0)).mono ?_
            rintro x w6 ⟨rfl, h6, hg6⟩
            have G6 : wr.grownBy w6 (some B) := grown_trans (Below.grownBy (by go_grown)) hg6
            have hz6 := G6.size
            have hrow6 := hrow.keep G6 hBo
            have hl6 := (hl.keep hg5 hB).keep G6 hB
            have hB6 := h6.lt
            go_wp2_with fail
            refine (cat_any _ 0 wo.heap.size _ _ [⟨5, [], 0, (n5 : Int)⟩] row (NdIs.newAt w6 ⟨5, [], 0, (n5 : Int)⟩ _ rfl) (hrow6.below (by go_grown)) (by simp only [List.length_cons, List.length_nil]; omega)).mono ?_
            rintro x w7 ⟨v7, rfl, ho7, hb7⟩
            have hv7 : NdIs w7 _ v7 (⟨5, [], 0, (n5 : Int)⟩ :: row) := NdIs.of_own ho7
            have B7 : Below w6.heap.size w6 w7 := below_more (by go_grown) hb7 (by simp)
            have hz7 := B7.size
            clear ho7 hb7
            obtain ⟨ao7, cap7, rfl, _⟩ := hv7.slice
            go_wp2_with fail
            refine (cat_any w7 w.heap.size _ _ _ l (⟨5, [], 0, (n5 : Int)⟩ :: row) (hl6.below B7) hv7 (by simp only [List.length_cons]; omega)).mono ?_
            rintro x w8 ⟨v8, rfl, ho8, hb8⟩
            have hv8 := NdIs.of_own ho8
            have hz8 := hb8.size
            obtain ⟨ao8, cap8, rfl, _⟩ := hv8.slice
            go_wp2_with fail
            refine (takes_any ⟨#[44]⟩ w8 B lv ts sz _ _ ((h6.below B7).below hb8)).mono ?_
            rintro x w9 ⟨rfl, h9, hg9⟩
            have G9 := grown_trans hg (grown_trans hg5 (grown_trans G6 (grown_trans (Below.grownBy B7) (grown_trans (Below.grownBy hb8) hg9))))
            have hv9 := hv8.keep hg9 (by omega)
            obtain ⟨r, hr, hrs, hrv⟩ := row_run sz (l, k) q1 r3 HR3.out
            have hrs' : stOf r = mustX sz Px.gShut st5 := by rw [hrs, HS3.out]
            have hval : ∀ y q', r = .ok (y, q') → y = (l ++ ⟨5, [], 0, (n5 : Int)⟩ :: row, k + 1) := by
              intro y q' e
              obtain ⟨z, q2, e1, e2⟩ := hrv y q' e
              have := HV3.out z q2 e1
              rw [e2, this]
            have hlen : ∀ q', mustX sz Px.gShut st5 = .ok q' → row.length + 10 * q'.length ≤ 10 * q1.length - 10 ∧ q'.length < q1.length := by
              intro q' e
              match st5, HSH, HS3, e with
              | .ok q4, HSH, HS3, e =>
                have hpos : 1 ≤ q1.length := by
                  have h1 := HR3.out
                  have h2 := HS3.out
                  cases hm : mustX sz Px.gOpen (.ok q1) with
                  | error e =>
                    rw [hm] at h1
                    have h3 : r3 = .error e := h1
                    rw [h3] at h2
                    cases h2
                  | ok q0 =>
                    have := must_short hm
                    omega
                have := HSH.out q4 rfl
                have := must_short e
                omega
            have HL9 : Hid (ListI (Px.row sz) ([], 0) (mustX sz Px.kVALUES (stOf (nameX sz (mustX sz Px.kINTO (.ok q))))) 2000 20000 2020 w B lv ts sz (.slice ao8 (l ++ ⟨5, [], 0, (n5 : Int)⟩ :: row).length cap8) (.int .i64 ((k : Int) + 1)) (.bool (seesX Px.gComma (mustX sz Px.gShut st5))) w9) := by
              refine ⟨takeX Px.gComma (mustX sz Px.gShut st5), _, k + 1, _, by simp, rfl, by omega, by simp only [List.length_append, List.length_cons]; omega, hv9.lower (by omega), h9.mono (by omega), G9, ?_, ?_⟩
              · rw [← hrs']
                exact SepAt.next (Px.row_grows sz) HSP.out hr _ hval
              · intro q' e1
                obtain ⟨q5, e5, e6⟩ := comma_both e1
                have := hlen q5 e5
                simp only [List.length_append, List.length_cons]
                omega
            have HM9 : Hid (moreM B (.bool (seesX Px.gComma (mustX sz Px.gShut st5))) w9 < moreM B (.bool true) wo) := by
              refine moreM_lt hx h9 (fun q' e1 e2 => ?_)
              obtain ⟨q5, e5, e6⟩ := comma_len e1 e2
              have := hlen q5 e5
              omega
            rw [show (l ++ ⟨5, [], 0, (n5 : Int)⟩ :: row).length = l.length + (row.length + 1) from by simp] at HL9
            go_wp2_with fail
            go_roundw
            case rel => exact HL9
            case measure => exact HM9.out
    · have hexit : more = false ∨ ∃ e, st = .error e := by
        cases more with
        | false => exact .inl rfl
        | true =>
          match st, hgo with
          | .ok q1, hgo => exact absurd ⟨rfl, q1, rfl⟩ hgo
          | .error e, _ => exact .inr ⟨e, rfl⟩
      obtain ⟨r3, hr3, hst3, hval3⟩ := HSP.out.exit hexit
      have HR3 := hd hr3
      have HV3 := hd hval3
      have HS3 := hd hst3
      have hcell : more = false ∨ more = true ∧ ∃ c : Int, (c == 0) = false ∧ wr.cell? ⟨B, 3, none⟩ = some (.int .i64 c) := by
        cases more with
        | false => exact .inl rfl
        | true =>
          rcases hexit with h | ⟨e, rfl⟩
          · cases h
          · exact .inr ⟨rfl, hx.errcell⟩
      clear hgo hexit hr3 hval3 hst3 HBD HSP
      rcases hcell with rfl | ⟨rfl, c, hc0, hc3⟩
      all_goals
        go_wp2_with fail
        refine (headed_any 4 (k : Int) tb wr _ _ l hl (by omega)).mono ?_
        rintro x w6 ⟨v6, rfl, hv6, hb6⟩
        obtain ⟨ao6, cap6, rfl, _⟩ := hv6.slice
        simp only [List.length_cons, List.length_append] at hv6
        go_wp2
        go_ret
        obtain ⟨r, hr, hrs, hrv⟩ := insert_run sz q r3 HR3.out
        refine ⟨r, _, ⟨4, tb.data.toList, 0, (k : Int)⟩ :: l, rfl, hr, hv6.lower (by omega), ?_, by simp only [List.length_cons]; omega, ?_, grown_trans hg (Below.grownBy hb6)⟩
        · intro a q' e
          obtain ⟨t, q1, x, e1, e2, e3⟩ := hrv a q' e
          have f1 := HNM.out t q1 e1
          have f2 := HV3.out x q' e2
          rw [e3, f1, f2]
        · rw [hrs, HS3.out]
          exact (hx.below hb6).mono (by omega)
end Go.Proofs.YtcdgihdhpaipaaaGreatDoor

namespace Go.Proofs.YtcdgihdhpaipaaaGreatDoor
open Go.RowKit
set_option linter.unusedSimpArgs false
set_option linter.unusedVariables false

theorem must_le {sz : Nat} {s : Lx.Bs} {st : Except (Nat × Nat) (List Lx.Tok)} {q' : List Lx.Tok} (h : mustX sz s st = .ok q') : ∃ q, st = .ok q ∧ q'.length + 1 = q.length := by
  match st, h with
  | .ok q, h => exact ⟨q, rfl, must_short h⟩
  | .error e, h => cases h
theorem take_le {s : Lx.Bs} {st : Except (Nat × Nat) (List Lx.Tok)} {q' : List Lx.Tok} (h : takeX s st = .ok q') : ∃ q, st = .ok q ∧ q'.length ≤ q.length := by
  match st, h with
  | .ok q, h =>
    refine ⟨q, rfl, ?_⟩
    by_cases hs : Px.sees s q = true
    · have e : takeX s (.ok q) = .ok q.tail := if_pos hs
      rw [e] at h
      cases h; simp
    · have e : takeX s (.ok q) = .ok q := if_neg hs
      rw [e] at h
      cases h; exact Nat.le_refl _
  | .error e, h => cases h
theorem kindP_le {sz : Nat} {q q' : List Lx.Tok} {k : Int} (h : Px.kindP sz q = some (.ok (k, q'))) : q'.length ≤ q.length := by
  unfold Px.kindP at h
  split at h
  · split at h
    · cases h
    · cases h; simp
  · split at h
    · cases h; simp
    · rw [must_eq] at h
      cases hm : mustR sz Px.kBOOLEAN (.ok q) with
      | error e => rw [hm] at h; cases h
      | ok x =>
        obtain ⟨u, q1⟩ := x
        rw [hm] at h
        cases h
        have e : mustX sz Px.kBOOLEAN (.ok q) = .ok q' := by rw [← mustR_st, hm]; rfl
        have := must_short e
        omega
theorem col_short {sz : Nat} {l : List Px.Nd} {q0 q' : List Lx.Tok} {st2 : Except (Nat × Nat) (List Lx.Tok)} (hst2 : st2 = if l.length = 6 then stopX 4 (Px.plc sz q0) (stOf (nameX sz (.ok q0))) else stOf (nameX sz (.ok q0)))
    {r3 : Px.Res Int} (h3 : RunX (fun _ => Px.kindP sz) st2 r3) (h4 : (if seesX Px.kNOT (stOf r3) = true then mustX sz Px.kNULL (takeX Px.kNOT (stOf r3)) else stOf r3) = .ok q') : q'.length < q0.length ∧ l.length ≠ 6 := by
  have h5 : ∃ q3, stOf r3 = .ok q3 ∧ q'.length ≤ q3.length := by
    split at h4
    · obtain ⟨q5, e1, e2⟩ := must_le h4
      obtain ⟨q6, e3, e4⟩ := take_le e1
      exact ⟨q6, e3, by omega⟩
    · exact ⟨q', h4, Nat.le_refl _⟩
  obtain ⟨q3, e3, hle⟩ := h5
  match r3, h3, e3 with
  | .ok (k, q3'), h3, e3 =>
    cases e3
    match st2, h3, hst2 with
    | .error e, h3, _ => cases h3
    | .ok q2, ⟨_, hk⟩, hst2 =>
      have hk' : Px.kindP sz q2 = some (.ok (k, q3)) := hk
      have := kindP_le hk'
      by_cases h6 : l.length = 6
      · rw [if_pos h6] at hst2
        cases hn : nameX sz (.ok q0) with
        | error e => rw [hn] at hst2; cases hst2
        | ok x => rw [hn] at hst2; cases hst2
      · rw [if_neg h6] at hst2
        cases hn : nameX sz (.ok q0) with
        | error e => rw [hn] at hst2; cases hst2
        | ok x =>
          obtain ⟨t, q1⟩ := x
          rw [hn] at hst2
          cases hst2
          have := name_short hn
          exact ⟨by omega, h6⟩

/-- Where a list of columns stands. -/
def ColI (st0 : Except (Nat × Nat) (List Lx.Tok)) (w : World) (B : Nat) (lv : Value) (ts : List Lx.Tok) (sz : Nat) (v m : Value) (wr : World) : Prop :=
  ∃ st l more, m = .bool more ∧ l.length ≤ 7 ∧ (∀ q, st = .ok q → l.length ≤ 6) ∧ wr.ownsRow w.heap.size 46 4 v l.length (ndsV l) ∧ PX wr B lv ts sz st (ts.length + 3) ∧ w.grownBy wr (some B) ∧
    SepAt (fun _ l q => Px.col sz l q) [] st0 l st more

theorem plc_head (sz : Nat) (q : List Lx.Tok) : (q.headD ⟨0, [], sz⟩).pos = Px.plc sz q := by cases q <;> rfl
theorem own_block_ge {w : World} {b : Nat} {T : TypeId} {s : Nat} {v : Value} {n : Nat} {xs : List Value} (h : w.ownsRow b T s v n xs) : v.ownBlock = none ∨ ∃ g, v.ownBlock = some g ∧ b ≤ g := by
  rcases h.2 with ⟨rfl, _⟩ | ⟨g, cap, cur, rfl, hb, _⟩
  · exact .inl rfl
  · exact .inr ⟨g, rfl, hb⟩
theorem own_grown {w w' : World} {b B : Nat} {T : TypeId} {s : Nat} {v : Value} {n : Nat} {xs : List Value} (h : w.ownsRow b T s v n xs) (hg : w.grownBy w' (some B)) (hB : B < b) : w'.ownsRow b T s v n xs := by
  refine h.kept hg ?_
  rcases own_block_ge h with h1 | ⟨g, h1, h2⟩
  · exact .inl h1
  · right; rw [h1]; intro e; cases e; omega

theorem PX.grow {w w' : World} {B : Nat} {lv : Value} {ts : List Lx.Tok} {sz : Nat} {st : Except (Nat × Nat) (List Lx.Tok)} {b : Nat} {row : Option Nat} (h : PX w B lv ts sz st b) (hg : w.grownBy w' row) (h1 : some B ≠ row) (h2 : lv.ownBlock = none ∨ lv.ownBlock ≠ row) : PX w' B lv ts sz st b := by
  have key : ∀ k e sp, PS w B lv ts sz k e sp → PS w' B lv ts sz k e sp := by
    intro k e sp hp
    obtain ⟨b0, ho⟩ := hp.own
    refine ⟨?_, ⟨b0, ho.kept hg h2⟩, hp.ne, hp.toks, hp.len, hp.size, hp.le, hp.esm, hp.ssm⟩
    have := hp.blk
    unfold Blk at this ⊢
    rw [hg.block B hp.blk.lt h1]; exact this
  match st, h with
  | .ok q, ⟨k, a1, a2, a3⟩ => exact ⟨k, a1, a2, key _ _ _ a3⟩
  | .error (p, c), ⟨h0, k, a1, a3⟩ => exact ⟨h0, k, a1, key _ _ _ a3⟩
theorem PX.lvlt {w : World} {B : Nat} {lv : Value} {ts : List Lx.Tok} {sz : Nat} {st : Except (Nat × Nat) (List Lx.Tok)} {b : Nat} (h : PX w B lv ts sz st b) : ∀ g, lv.ownBlock = some g → g < w.heap.size := by
  intro g hg
  obtain ⟨k, e, sp, hp⟩ := h.ps
  obtain ⟨b0, ho⟩ := hp.own
  exact (ho.lt g hg).2
theorem grown_own {w w1 w2 : World} {B : Nat} {row : Option Nat} (h : w.grownBy w1 (some B)) (hg : w1.grownBy w2 row) (hr : ∀ g, row = some g → w.heap.size ≤ g) : w.grownBy w2 (some B) :=
  ⟨hg.os.trans h.os, hg.tape.trans h.tape, hg.output.trans h.output, Nat.le_trans h.size hg.size, fun i hi hne => (hg.block i (Nat.lt_of_lt_of_le hi h.size) (by intro e; have := hr i e.symm; omega)).trans (h.block i hi hne)⟩

set_option maxRecDepth 100000 in
set_option maxHeartbeats 8000000 in
theorem create_any (w : World) (B : Nat) (lv : Value) (ts : List Lx.Tok) (sz : Nat) (q : List Lx.Tok) (h : PX w B lv ts sz (.ok q) ts.length) :
    Calls Tryz.prog 33 #[.pointer (some ⟨B, 0, none⟩)] w (StPost (Px.create sz) w B lv ts sz (.ok q)) := by
  obtain ⟨i0, hi, hz0', hz1', hz2'⟩ := info_parts Tryz.info46
  have HX := hd h
  have HLV := hd h.lvlt
  have hB := h.lt
  have hts : ts.length ≤ 2000 := by
    obtain ⟨k, _, _, hp⟩ := h
    exact hp.len
  clear h
  go_enter Tryz.func33, Tryz.ntmps33
  go_wp2_with fail
  refine (must_any ⟨#[84, 65, 66, 76, 69]⟩ w.heap.size _ B lv ts sz (.ok q) ts.length (HX.out.below (by go_grown)) (Nat.le_refl _) ((Blk.new w _ _).cell 0)).mono ?_
  rintro x w0 ⟨rfl, h0, hg0⟩
  have G0 : w.grownBy w0 (some B) := grown_trans (Below.grownBy (by go_grown)) hg0
  go_wp2_with fail
  refine (name_any w0 B lv ts sz _ ts.length h0 (Nat.le_refl _) (by omega)).mono ?_
  rintro x w1 ⟨tb, rfl, htb, hname, h1, hb1⟩
  have HNM := hd hname
  clear hname
  go_wp2_with fail
  refine (must_any ⟨#[40]⟩ w1.heap.size _ B lv ts sz _ (ts.length + 1) (h1.below (by go_grown)) (by omega) ((Blk.new w1 _ _).cell 0)).mono ?_
  rintro x w2 ⟨rfl, h2, hb2⟩
  have G2 : w.grownBy w2 (some B) := grown_trans G0 (grown_trans hb1 (grown_trans (Below.grownBy (by go_grown)) hb2))
  have HI : Hid (ColI (mustX sz Px.gOpen (stOf (nameX sz (mustX sz Px.kTABLE (.ok q))))) w B lv ts sz (.slice none 0 0) (.bool true) w2) :=
    ⟨_, [], true, rfl, by simp, by simp, World.ownsRow_nil _ _ _ _, h2.mono (by omega), G2, SepAt.start⟩
  clear h0 hg0 G0 h1 h2 hb1 hb2
  go_wp2_with fail
  go_loopw [4, 5] (fun v m wr => Hid (ColI (mustX sz Px.gOpen (stOf (nameX sz (mustX sz Px.kTABLE (.ok q))))) w B lv ts sz v m wr)) (fun _ m wr => moreM B m wr)
  case atStart => exact HI
  case round =>
    obtain ⟨st, l, more, rfl, hln, hln6, hl, hx, hg, hsep⟩ := hrel.out
    have HSP := hd hsep
    have HL6 := hd hln6
    have HO := hd hl
    clear hsep hln6 HI hrel
    have hzr := hg.size
    have hnd := NdIs.of_own hl
    obtain ⟨ao, cap, rfl, _⟩ := hnd.slice
    clear hl
    by_cases hgo : more = true ∧ ∃ q1, st = .ok q1
    · obtain ⟨rfl, q1, rfl⟩ := hgo
      have hc3 := hx.okcell
      have hl6 := HL6.out q1 rfl
      go_wp2_with fail
      refine (hereX_any wr B lv ts sz (.ok q1) ts.length (hx.okb _)).mono ?_
      rintro x w3 ⟨t, rfl, ht1, ht2, ht3, hb3⟩
      have hpos : t.pos = Px.plc sz q1 := by rw [ht3 q1 rfl, plc_head]
      have HPOS := hd hpos
      obtain ⟨tk, tt, tp⟩ := t
      simp only at ht1 ht2
      clear ht3 hpos
      unfold tokA
      have hx3 := hx.below hb3
      have hz3 := hb3.size
      go_wp2_with fail
      refine (name_any _ B lv ts sz (.ok q1) ts.length ((hx3.okb _).below (by go_grown)) (Nat.le_refl _) (by omega)).mono ?_
      rintro x w4 ⟨nb, rfl, hnb, hname4, h4, hg4⟩
      have HNM4 := hd hname4
      clear hname4
      have hB3 := hx3.lt
      have ct : w4.cell? ⟨w3.heap.size, 2, none⟩ = some (.int .i64 (tp : Int)) := by
        rw [World.cell?_of_block (hg4.block w3.heap.size (by simp) (by simp; omega))]
        exact (Blk.new w3 _ _).cell 2
      have G4 : wr.grownBy w4 (some B) := grown_trans (Below.grownBy hb3) (grown_trans (Below.grownBy (by go_grown)) hg4)
      clear hg4 hx3 hb3
      obtain ⟨st2, hst2⟩ : ∃ st2, st2 = if l.length = 6 then stopX 4 (Px.plc sz q1) (stOf (nameX sz (.ok q1))) else stOf (nameX sz (.ok q1)) := ⟨_, rfl⟩
      have HST2 := hd hst2
      clear hst2
      by_cases h6 : l.length = 6
      · have n6 : ((l.length : Int) == 6) = true := by rw [h6]; rfl
        have e2 : stopX 4 tp (stOf (nameX sz (.ok q1))) = st2 := by rw [HST2.out, if_pos h6, HPOS.out]
        clear h6
        go_wp2_with fail
        refine (stopX_any w4 B lv ts sz _ (ts.length + 1) h4 4 tp (by omega) (by omega) ht1 (by omega)).mono ?_
        rintro x w5 ⟨rfl, h5, hg5⟩
        rw [e2] at h5
        have G5 := grown_trans G4 hg5
        clear e2 n6 ct G4 hg5 h4
        go_wp2_with fail
        refine (kind_any w5 B lv ts sz st2 (ts.length + 1) (by omega) h5).mono ?_
        rintro x w6 ⟨r6, n6, rfl, hr6, hok6, hn1, hn3, h6, hg6⟩
        have HR6 := hd hr6
        have HOK6 := hd hok6
        clear hr6 hok6
        have G6 := grown_trans G5 hg6
        go_wp2_with fail
        refine (takes_any ⟨#[78, 79, 84]⟩ w6 B lv ts sz _ _ h6).mono ?_
        rintro x w7 ⟨rfl, h7, hg7⟩
        have G7 := grown_trans G6 hg7
        clear h6 hg6 G5 h5 G6 hg7
        obtain ⟨st4, hst4⟩ : ∃ st4, st4 = if seesX Px.kNOT (stOf r6) = true then mustX sz Px.kNULL (takeX Px.kNOT (stOf r6)) else stOf r6 := ⟨_, rfl⟩
        obtain ⟨kn, hkn⟩ : ∃ kn : Int, kn = if seesX Px.kNOT (stOf r6) = true then n6 + 4 else n6 := ⟨_, rfl⟩
        have HST4 := hd hst4
        have HKN := hd hkn
        clear hst4 hkn
        cases hs : seesX (ByteArray.mk #[78, 79, 84]).data.toList (stOf r6) with
        | true =>
          have e4 : mustX sz Px.kNULL (takeX Px.kNOT (stOf r6)) = st4 := by rw [HST4.out]; exact (if_pos hs).symm
          have ek : n6 + 4 = kn := by rw [HKN.out]; exact (if_pos hs).symm
          clear hs
          go_wp2_with fail
          refine (must_any ⟨#[78, 85, 76, 76]⟩ w7.heap.size _ B lv ts sz _ (ts.length + 1) (h7.below (by go_grown)) (by omega) ((Blk.new w7 _ _).cell 0)).mono ?_
          rintro x w9 ⟨rfl, h9', hg9⟩
          have h9 : PX w9 B lv ts sz st4 (ts.length + 1) := by rw [← e4]; exact h9'
          have G9 : wr.grownBy w9 (some B) := grown_trans G7 (grown_trans (Below.grownBy (by go_grown)) hg9)
          clear h9' hg9 e4 h7 G7
          have hz9 := G9.size
          have HO9 := hd (own_grown (own_grown HO.out G9 hB) (B := B) (w' := w9) ⟨rfl, rfl, rfl, Nat.le_refl _, fun _ _ _ => rfl⟩ hB)
          have hB9 := h9.lt
          go_wp2_with (first
            | (at_builtin; refine wpList_append_own _ rfl _ _ 33 rfl w.heap.size 46 i0 (.agg #[.int .i64 0, .string ⟨#[]⟩, .int .i64 0, .int .i64 0]) 4 40 Tryz.underlying33 hi hz0' hz1' hz2' rfl (by decide) _ _ _ rfl (HO9.out.alloc _) ⟨w9.heap.size, 0, none⟩ 1 1 [.int .i64 2, .string nb, .int .i64 kn, .int .i64 0] rfl rfl ?c1 ?c2 ?c3 ?c4 ?c5 ?_)
            | fail)
          case c1 => exact four_news w9 _ _ _ _ _ _ rfl
          case c2 => intro u hu; simp at hu; rcases hu with rfl | rfl | rfl | rfl <;> rfl
          case c3 => unfold maxLen; omega
          case c4 => omega
          case c5 => simp; omega
          intro v' w10 hown' hgrow _
          have hrow : ∀ g, Value.ownBlock (.slice ao l.length cap) = some g → w.heap.size ≤ g := fun g hg => by
            rcases own_block_ge HO.out with h1 | ⟨g', h1, h2⟩
            · rw [h1] at hg; cases hg
            · rw [h1] at hg; cases hg; exact h2
          have h10 : PX w10 B lv ts sz st4 (ts.length + 1) := (h9.below (by go_grown)).grow hgrow (by intro e; have := hrow B e.symm; omega) (by
            cases hv : lv.ownBlock with
            | none => exact .inl rfl
            | some g =>
              right
              intro e
              have := hrow g e.symm
              have := HLV.out g hv
              omega)
          have G10 : w.grownBy w10 (some B) := grown_own (grown_trans (grown_trans hg G9) (Below.grownBy (by go_grown))) hgrow hrow
          have HO10 : Hid (w10.ownsRow w.heap.size 46 4 v' (l.length + 1) (ndsV (l ++ [colNd nb.data.toList kn]))) := by
            show World.ownsRow _ _ _ _ _ _ _
            rw [ndsV_append, ndsV_one]
            exact hown'
          have hnd10 : NdIs w10 w.heap.size v' (l ++ [colNd nb.data.toList kn]) := NdIs.of_own (by rw [List.length_append]; exact HO10.out)
          obtain ⟨ao10, cap10, hv10, _⟩ := hnd10.slice
          rw [List.length_append] at hv10
          have hv10' : v' = .slice ao10 (l.length + 1) cap10 := hv10
          subst hv10'
          clear hown' hgrow hnd10 hv10 h9 HO9
          go_wp2_with fail
          refine (takes_any ⟨#[44]⟩ w10 B lv ts sz st4 _ h10).mono ?_
          rintro x w11 ⟨rfl, h11, hg11⟩
          have G11 := grown_trans G10 hg11
          have HO11 := hd (own_grown HO10.out hg11 hB)
          obtain ⟨r, hr, hrs, hrv⟩ := col_run sz l q1 st2 HST2.out r6 HR6.out st4 HST4.out
          have hval : ∀ y q', r = .ok (y, q') → y = l ++ [colNd nb.data.toList kn] := by
            intro y q' e
            obtain ⟨t, q2, k, q3, e1, e2, e3⟩ := hrv y q' e
            have f1 := HNM4.out t q2 e1
            have f2 := HOK6.out k q3 e2
            rw [e3, f1, HKN.out, f2]
          have hshort : ∀ q', st4 = .ok q' → q'.length < q1.length ∧ l.length ≠ 6 := fun q' e => col_short HST2.out HR6.out (HST4.out.symm.trans e)
          have HL11 : Hid (ColI (mustX sz Px.gOpen (stOf (nameX sz (mustX sz Px.kTABLE (.ok q))))) w B lv ts sz (.slice ao10 (l.length + 1) cap10) (.bool (seesX Px.gComma st4)) w11) := by
            refine ⟨takeX Px.gComma st4, l ++ [colNd nb.data.toList kn], _, rfl, by simp only [List.length_append, List.length_cons, List.length_nil]; omega, ?_, ?_, h11.mono (by omega), G11, ?_⟩
            · intro q' e
              obtain ⟨q5, e5, e6⟩ := take_le e
              have := hshort q5 e5
              simp only [List.length_append, List.length_cons, List.length_nil]
              omega
            · rw [List.length_append]; exact HO11.out
            · rw [← hrs]
              exact SepAt.next (Px.col_grows sz) HSP.out hr _ hval
          have HM11 : Hid (moreM B (.bool (seesX Px.gComma st4)) w11 < moreM B (.bool true) wr) := by
            refine moreM_lt hx h11 (fun q' e1 e2 => ?_)
            obtain ⟨q5, e5, e6⟩ := comma_len e1 e2
            have := (hshort q5 e5).1
            omega
          go_wp2_with fail
          go_roundw
          case rel => exact HL11
          case measure => exact HM11.out
        | false =>
          have e4 : stOf r6 = st4 := by rw [HST4.out]; exact (if_neg (by rw [show seesX Px.kNOT (stOf r6) = false from hs]; decide)).symm
          have ek : n6 = kn := by rw [HKN.out]; exact (if_neg (by rw [show seesX Px.kNOT (stOf r6) = false from hs]; decide)).symm
          rw [take_same hs, e4] at h7
          obtain ⟨w9, rfl⟩ : ∃ w9, w9 = w7 := ⟨_, rfl⟩
          have h9 := h7
          have G9 := G7
          clear hs e4 h7 G7
          have hz9 := G9.size
          have HO9 := hd (own_grown (own_grown HO.out G9 hB) (B := B) (w' := w9) ⟨rfl, rfl, rfl, Nat.le_refl _, fun _ _ _ => rfl⟩ hB)
          have hB9 := h9.lt
          go_wp2_with (first
            | (at_builtin; refine wpList_append_own _ rfl _ _ 33 rfl w.heap.size 46 i0 (.agg #[.int .i64 0, .string ⟨#[]⟩, .int .i64 0, .int .i64 0]) 4 40 Tryz.underlying33 hi hz0' hz1' hz2' rfl (by decide) _ _ _ rfl (HO9.out.alloc _) ⟨w9.heap.size, 0, none⟩ 1 1 [.int .i64 2, .string nb, .int .i64 kn, .int .i64 0] rfl rfl ?c1 ?c2 ?c3 ?c4 ?c5 ?_)
            | fail)
          case c1 => exact four_news w9 _ _ _ _ _ _ rfl
          case c2 => intro u hu; simp at hu; rcases hu with rfl | rfl | rfl | rfl <;> rfl
          case c3 => unfold maxLen; omega
          case c4 => omega
          case c5 => simp; omega
          intro v' w10 hown' hgrow _
          have hrow : ∀ g, Value.ownBlock (.slice ao l.length cap) = some g → w.heap.size ≤ g := fun g hg => by
            rcases own_block_ge HO.out with h1 | ⟨g', h1, h2⟩
            · rw [h1] at hg; cases hg
            · rw [h1] at hg; cases hg; exact h2
          have h10 : PX w10 B lv ts sz st4 (ts.length + 1) := (h9.below (by go_grown)).grow hgrow (by intro e; have := hrow B e.symm; omega) (by
            cases hv : lv.ownBlock with
            | none => exact .inl rfl
            | some g =>
              right
              intro e
              have := hrow g e.symm
              have := HLV.out g hv
              omega)
          have G10 : w.grownBy w10 (some B) := grown_own (grown_trans (grown_trans hg G9) (Below.grownBy (by go_grown))) hgrow hrow
          have HO10 : Hid (w10.ownsRow w.heap.size 46 4 v' (l.length + 1) (ndsV (l ++ [colNd nb.data.toList kn]))) := by
            show World.ownsRow _ _ _ _ _ _ _
            rw [ndsV_append, ndsV_one]
            exact hown'
          have hnd10 : NdIs w10 w.heap.size v' (l ++ [colNd nb.data.toList kn]) := NdIs.of_own (by rw [List.length_append]; exact HO10.out)
          obtain ⟨ao10, cap10, hv10, _⟩ := hnd10.slice
          rw [List.length_append] at hv10
          have hv10' : v' = .slice ao10 (l.length + 1) cap10 := hv10
          subst hv10'
          clear hown' hgrow hnd10 hv10 h9 HO9
          go_wp2_with fail
          refine (takes_any ⟨#[44]⟩ w10 B lv ts sz st4 _ h10).mono ?_
          rintro x w11 ⟨rfl, h11, hg11⟩
          have G11 := grown_trans G10 hg11
          have HO11 := hd (own_grown HO10.out hg11 hB)
          obtain ⟨r, hr, hrs, hrv⟩ := col_run sz l q1 st2 HST2.out r6 HR6.out st4 HST4.out
          have hval : ∀ y q', r = .ok (y, q') → y = l ++ [colNd nb.data.toList kn] := by
            intro y q' e
            obtain ⟨t, q2, k, q3, e1, e2, e3⟩ := hrv y q' e
            have f1 := HNM4.out t q2 e1
            have f2 := HOK6.out k q3 e2
            rw [e3, f1, HKN.out, f2]
          have hshort : ∀ q', st4 = .ok q' → q'.length < q1.length ∧ l.length ≠ 6 := fun q' e => col_short HST2.out HR6.out (HST4.out.symm.trans e)
          have HL11 : Hid (ColI (mustX sz Px.gOpen (stOf (nameX sz (mustX sz Px.kTABLE (.ok q))))) w B lv ts sz (.slice ao10 (l.length + 1) cap10) (.bool (seesX Px.gComma st4)) w11) := by
            refine ⟨takeX Px.gComma st4, l ++ [colNd nb.data.toList kn], _, rfl, by simp only [List.length_append, List.length_cons, List.length_nil]; omega, ?_, ?_, h11.mono (by omega), G11, ?_⟩
            · intro q' e
              obtain ⟨q5, e5, e6⟩ := take_le e
              have := hshort q5 e5
              simp only [List.length_append, List.length_cons, List.length_nil]
              omega
            · rw [List.length_append]; exact HO11.out
            · rw [← hrs]
              exact SepAt.next (Px.col_grows sz) HSP.out hr _ hval
          have HM11 : Hid (moreM B (.bool (seesX Px.gComma st4)) w11 < moreM B (.bool true) wr) := by
            refine moreM_lt hx h11 (fun q' e1 e2 => ?_)
            obtain ⟨q5, e5, e6⟩ := comma_len e1 e2
            have := (hshort q5 e5).1
            omega
          go_wp2_with fail
          go_roundw
          case rel => exact HL11
          case measure => exact HM11.out
      · have n6 : ((l.length : Int) == 6) = false := by rw [beq_eq_false_iff_ne]; omega
        have e2 : stOf (nameX sz (.ok q1)) = st2 := by rw [HST2.out, if_neg h6]
        rw [e2] at h4
        obtain ⟨w5, rfl⟩ : ∃ w5, w5 = w4 := ⟨_, rfl⟩
        have h5 := h4
        have G5 := G4
        clear e2 h6 G4 h4
        go_wp2_with fail
        refine (kind_any w5 B lv ts sz st2 (ts.length + 1) (by omega) h5).mono ?_
        rintro x w6 ⟨r6, n6, rfl, hr6, hok6, hn1, hn3, h6, hg6⟩
        have HR6 := hd hr6
        have HOK6 := hd hok6
        clear hr6 hok6
        have G6 := grown_trans G5 hg6
        go_wp2_with fail
        refine (takes_any ⟨#[78, 79, 84]⟩ w6 B lv ts sz _ _ h6).mono ?_
        rintro x w7 ⟨rfl, h7, hg7⟩
        have G7 := grown_trans G6 hg7
        clear h6 hg6 G5 h5 G6 hg7
        obtain ⟨st4, hst4⟩ : ∃ st4, st4 = if seesX Px.kNOT (stOf r6) = true then mustX sz Px.kNULL (takeX Px.kNOT (stOf r6)) else stOf r6 := ⟨_, rfl⟩
        obtain ⟨kn, hkn⟩ : ∃ kn : Int, kn = if seesX Px.kNOT (stOf r6) = true then n6 + 4 else n6 := ⟨_, rfl⟩
        have HST4 := hd hst4
        have HKN := hd hkn
        clear hst4 hkn
        cases hs : seesX (ByteArray.mk #[78, 79, 84]).data.toList (stOf r6) with
        | true =>
          have e4 : mustX sz Px.kNULL (takeX Px.kNOT (stOf r6)) = st4 := by rw [HST4.out]; exact (if_pos hs).symm
          have ek : n6 + 4 = kn := by rw [HKN.out]; exact (if_pos hs).symm
          clear hs
          go_wp2_with fail
          refine (must_any ⟨#[78, 85, 76, 76]⟩ w7.heap.size _ B lv ts sz _ (ts.length + 1) (h7.below (by go_grown)) (by omega) ((Blk.new w7 _ _).cell 0)).mono ?_
          rintro x w9 ⟨rfl, h9', hg9⟩
          have h9 : PX w9 B lv ts sz st4 (ts.length + 1) := by rw [← e4]; exact h9'
          have G9 : wr.grownBy w9 (some B) := grown_trans G7 (grown_trans (Below.grownBy (by go_grown)) hg9)
          clear h9' hg9 e4 h7 G7
          have hz9 := G9.size
          have HO9 := hd (own_grown (own_grown HO.out G9 hB) (B := B) (w' := w9) ⟨rfl, rfl, rfl, Nat.le_refl _, fun _ _ _ => rfl⟩ hB)
          have hB9 := h9.lt
          go_wp2_with (first
            | (at_builtin; refine wpList_append_own _ rfl _ _ 33 rfl w.heap.size 46 i0 (.agg #[.int .i64 0, .string ⟨#[]⟩, .int .i64 0, .int .i64 0]) 4 40 Tryz.underlying33 hi hz0' hz1' hz2' rfl (by decide) _ _ _ rfl (HO9.out.alloc _) ⟨w9.heap.size, 0, none⟩ 1 1 [.int .i64 2, .string nb, .int .i64 kn, .int .i64 0] rfl rfl ?c1 ?c2 ?c3 ?c4 ?c5 ?_)
            | fail)
          case c1 => exact four_news w9 _ _ _ _ _ _ rfl
          case c2 => intro u hu; simp at hu; rcases hu with rfl | rfl | rfl | rfl <;> rfl
          case c3 => unfold maxLen; omega
          case c4 => omega
          case c5 => simp; omega
          intro v' w10 hown' hgrow _
          have hrow : ∀ g, Value.ownBlock (.slice ao l.length cap) = some g → w.heap.size ≤ g := fun g hg => by
            rcases own_block_ge HO.out with h1 | ⟨g', h1, h2⟩
            · rw [h1] at hg; cases hg
            · rw [h1] at hg; cases hg; exact h2
          have h10 : PX w10 B lv ts sz st4 (ts.length + 1) := (h9.below (by go_grown)).grow hgrow (by intro e; have := hrow B e.symm; omega) (by
            cases hv : lv.ownBlock with
            | none => exact .inl rfl
            | some g =>
              right
              intro e
              have := hrow g e.symm
              have := HLV.out g hv
              omega)
          have G10 : w.grownBy w10 (some B) := grown_own (grown_trans (grown_trans hg G9) (Below.grownBy (by go_grown))) hgrow hrow
          have HO10 : Hid (w10.ownsRow w.heap.size 46 4 v' (l.length + 1) (ndsV (l ++ [colNd nb.data.toList kn]))) := by
            show World.ownsRow _ _ _ _ _ _ _
            rw [ndsV_append, ndsV_one]
            exact hown'
          have hnd10 : NdIs w10 w.heap.size v' (l ++ [colNd nb.data.toList kn]) := NdIs.of_own (by rw [List.length_append]; exact HO10.out)
          obtain ⟨ao10, cap10, hv10, _⟩ := hnd10.slice
          rw [List.length_append] at hv10
          have hv10' : v' = .slice ao10 (l.length + 1) cap10 := hv10
          subst hv10'
          clear hown' hgrow hnd10 hv10 h9 HO9
          go_wp2_with fail
          refine (takes_any ⟨#[44]⟩ w10 B lv ts sz st4 _ h10).mono ?_
          rintro x w11 ⟨rfl, h11, hg11⟩
          have G11 := grown_trans G10 hg11
          have HO11 := hd (own_grown HO10.out hg11 hB)
          obtain ⟨r, hr, hrs, hrv⟩ := col_run sz l q1 st2 HST2.out r6 HR6.out st4 HST4.out
          have hval : ∀ y q', r = .ok (y, q') → y = l ++ [colNd nb.data.toList kn] := by
            intro y q' e
            obtain ⟨t, q2, k, q3, e1, e2, e3⟩ := hrv y q' e
            have f1 := HNM4.out t q2 e1
            have f2 := HOK6.out k q3 e2
            rw [e3, f1, HKN.out, f2]
          have hshort : ∀ q', st4 = .ok q' → q'.length < q1.length ∧ l.length ≠ 6 := fun q' e => col_short HST2.out HR6.out (HST4.out.symm.trans e)
          have HL11 : Hid (ColI (mustX sz Px.gOpen (stOf (nameX sz (mustX sz Px.kTABLE (.ok q))))) w B lv ts sz (.slice ao10 (l.length + 1) cap10) (.bool (seesX Px.gComma st4)) w11) := by
            refine ⟨takeX Px.gComma st4, l ++ [colNd nb.data.toList kn], _, rfl, by simp only [List.length_append, List.length_cons, List.length_nil]; omega, ?_, ?_, h11.mono (by omega), G11, ?_⟩
            · intro q' e
              obtain ⟨q5, e5, e6⟩ := take_le e
              have := hshort q5 e5
              simp only [List.length_append, List.length_cons, List.length_nil]
              omega
            · rw [List.length_append]; exact HO11.out
            · rw [← hrs]
              exact SepAt.next (Px.col_grows sz) HSP.out hr _ hval
          have HM11 : Hid (moreM B (.bool (seesX Px.gComma st4)) w11 < moreM B (.bool true) wr) := by
            refine moreM_lt hx h11 (fun q' e1 e2 => ?_)
            obtain ⟨q5, e5, e6⟩ := comma_len e1 e2
            have := (hshort q5 e5).1
            omega
          go_wp2_with fail
          go_roundw
          case rel => exact HL11
          case measure => exact HM11.out
        | false =>
          have e4 : stOf r6 = st4 := by rw [HST4.out]; exact (if_neg (by rw [show seesX Px.kNOT (stOf r6) = false from hs]; decide)).symm
          have ek : n6 = kn := by rw [HKN.out]; exact (if_neg (by rw [show seesX Px.kNOT (stOf r6) = false from hs]; decide)).symm
          rw [take_same hs, e4] at h7
          obtain ⟨w9, rfl⟩ : ∃ w9, w9 = w7 := ⟨_, rfl⟩
          have h9 := h7
          have G9 := G7
          clear hs e4 h7 G7
          have hz9 := G9.size
          have HO9 := hd (own_grown (own_grown HO.out G9 hB) (B := B) (w' := w9) ⟨rfl, rfl, rfl, Nat.le_refl _, fun _ _ _ => rfl⟩ hB)
          have hB9 := h9.lt
          go_wp2_with (first
            | (at_builtin; refine wpList_append_own _ rfl _ _ 33 rfl w.heap.size 46 i0 (.agg #[.int .i64 0, .string ⟨#[]⟩, .int .i64 0, .int .i64 0]) 4 40 Tryz.underlying33 hi hz0' hz1' hz2' rfl (by decide) _ _ _ rfl (HO9.out.alloc _) ⟨w9.heap.size, 0, none⟩ 1 1 [.int .i64 2, .string nb, .int .i64 kn, .int .i64 0] rfl rfl ?c1 ?c2 ?c3 ?c4 ?c5 ?_)
            | fail)
          case c1 => exact four_news w9 _ _ _ _ _ _ rfl
          case c2 => intro u hu; simp at hu; rcases hu with rfl | rfl | rfl | rfl <;> rfl
          case c3 => unfold maxLen; omega
          case c4 => omega
          case c5 => simp; omega
          intro v' w10 hown' hgrow _
          have hrow : ∀ g, Value.ownBlock (.slice ao l.length cap) = some g → w.heap.size ≤ g := fun g hg => by
            rcases own_block_ge HO.out with h1 | ⟨g', h1, h2⟩
            · rw [h1] at hg; cases hg
            · rw [h1] at hg; cases hg; exact h2
          have h10 : PX w10 B lv ts sz st4 (ts.length + 1) := (h9.below (by go_grown)).grow hgrow (by intro e; have := hrow B e.symm; omega) (by
            cases hv : lv.ownBlock with
            | none => exact .inl rfl
            | some g =>
              right
              intro e
              have := hrow g e.symm
              have := HLV.out g hv
              omega)
          have G10 : w.grownBy w10 (some B) := grown_own (grown_trans (grown_trans hg G9) (Below.grownBy (by go_grown))) hgrow hrow
          have HO10 : Hid (w10.ownsRow w.heap.size 46 4 v' (l.length + 1) (ndsV (l ++ [colNd nb.data.toList kn]))) := by
            show World.ownsRow _ _ _ _ _ _ _
            rw [ndsV_append, ndsV_one]
            exact hown'
          have hnd10 : NdIs w10 w.heap.size v' (l ++ [colNd nb.data.toList kn]) := NdIs.of_own (by rw [List.length_append]; exact HO10.out)
          obtain ⟨ao10, cap10, hv10, _⟩ := hnd10.slice
          rw [List.length_append] at hv10
          have hv10' : v' = .slice ao10 (l.length + 1) cap10 := hv10
          subst hv10'
          clear hown' hgrow hnd10 hv10 h9 HO9
          go_wp2_with fail
          refine (takes_any ⟨#[44]⟩ w10 B lv ts sz st4 _ h10).mono ?_
          rintro x w11 ⟨rfl, h11, hg11⟩
          have G11 := grown_trans G10 hg11
          have HO11 := hd (own_grown HO10.out hg11 hB)
          obtain ⟨r, hr, hrs, hrv⟩ := col_run sz l q1 st2 HST2.out r6 HR6.out st4 HST4.out
          have hval : ∀ y q', r = .ok (y, q') → y = l ++ [colNd nb.data.toList kn] := by
            intro y q' e
            obtain ⟨t, q2, k, q3, e1, e2, e3⟩ := hrv y q' e
            have f1 := HNM4.out t q2 e1
            have f2 := HOK6.out k q3 e2
            rw [e3, f1, HKN.out, f2]
          have hshort : ∀ q', st4 = .ok q' → q'.length < q1.length ∧ l.length ≠ 6 := fun q' e => col_short HST2.out HR6.out (HST4.out.symm.trans e)
          have HL11 : Hid (ColI (mustX sz Px.gOpen (stOf (nameX sz (mustX sz Px.kTABLE (.ok q))))) w B lv ts sz (.slice ao10 (l.length + 1) cap10) (.bool (seesX Px.gComma st4)) w11) := by
            refine ⟨takeX Px.gComma st4, l ++ [colNd nb.data.toList kn], _, rfl, by simp only [List.length_append, List.length_cons, List.length_nil]; omega, ?_, ?_, h11.mono (by omega), G11, ?_⟩
            · intro q' e
              obtain ⟨q5, e5, e6⟩ := take_le e
              have := hshort q5 e5
              simp only [List.length_append, List.length_cons, List.length_nil]
              omega
            · rw [List.length_append]; exact HO11.out
            · rw [← hrs]
              exact SepAt.next (Px.col_grows sz) HSP.out hr _ hval
          have HM11 : Hid (moreM B (.bool (seesX Px.gComma st4)) w11 < moreM B (.bool true) wr) := by
            refine moreM_lt hx h11 (fun q' e1 e2 => ?_)
            obtain ⟨q5, e5, e6⟩ := comma_len e1 e2
            have := (hshort q5 e5).1
            omega
          go_wp2_with fail
          go_roundw
          case rel => exact HL11
          case measure => exact HM11.out
    · have hexit : more = false ∨ ∃ e, st = .error e := by
        cases more with
        | false => exact .inl rfl
        | true =>
          match st, hgo with
          | .ok q1, hgo => exact absurd ⟨rfl, q1, rfl⟩ hgo
          | .error e, _ => exact .inr ⟨e, rfl⟩
      obtain ⟨r3, hr3, hst3, hval3⟩ := HSP.out.exit hexit
      have HR3 := hd hr3
      have HV3 := hd hval3
      have HS3 := hd hst3
      have hcell : more = false ∨ more = true ∧ ∃ c : Int, (c == 0) = false ∧ wr.cell? ⟨B, 3, none⟩ = some (.int .i64 c) := by
        cases more with
        | false => exact .inl rfl
        | true =>
          rcases hexit with h | ⟨e, rfl⟩
          · cases h
          · exact .inr ⟨rfl, hx.errcell⟩
      clear hgo hexit hr3 hval3 hst3 HSP
      rcases hcell with rfl | ⟨rfl, c, hc0, hc3⟩
      all_goals
        go_wp2_with fail
        refine (must_any ⟨#[41]⟩ wr.heap.size _ B lv ts sz st (ts.length + 3) (hx.below (by go_grown)) (by omega) ((Blk.new wr _ _).cell 0)).mono ?_
        rintro x w5 ⟨rfl, h5, hg5⟩
        have G5 : w.grownBy w5 (some B) := grown_trans hg (grown_trans (Below.grownBy (by go_grown)) hg5)
        have hnd5 := hnd.keep (grown_trans (Below.grownBy (by go_grown)) hg5) hB
        have hz5 := G5.size
        go_wp2_with fail
        refine (headed_any 1 (l.length : Int) tb w5 _ _ l hnd5 (by omega)).mono ?_
        rintro x w6 ⟨v6, rfl, hv6, hb6⟩
        obtain ⟨ao6, cap6, rfl, _⟩ := hv6.slice
        simp only [List.length_cons] at hv6
        go_wp2
        go_ret
        obtain ⟨r, hr, hrs, hrv⟩ := create_run sz q r3 HR3.out
        refine ⟨r, _, ⟨1, tb.data.toList, 0, (l.length : Int)⟩ :: l, rfl, hr, hv6.lower hz5, ?_, by simp only [List.length_cons]; omega, ?_, grown_trans G5 (Below.grownBy hb6)⟩
        · intro a q' e
          obtain ⟨t, q1, x, q2, e1, e2, e3⟩ := hrv a q' e
          have f1 := HNM.out t q1 e1
          have f2 := HV3.out x q2 e2
          rw [e3, f1, f2]
        · rw [hrs, HS3.out]
          exact (h5.below hb6).mono (by omega)
end Go.Proofs.YtcdgihdhpaipaaaGreatDoor

