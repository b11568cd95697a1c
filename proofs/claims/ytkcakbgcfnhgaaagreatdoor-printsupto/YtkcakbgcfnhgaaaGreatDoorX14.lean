/- Parts of the proof: Wk Wl CpU CpV CpW Wm Wn Wo Wp Wq Ws -/
import Derived.Test.YtkcakbgcfnhgaaaGreatDoorX13
import Derived.Test.YtkcakbgcfnhgaaaGreatDoorX7
import Derived.Test.YtkcakbgcfnhgaaaGreatDoorX5
import Derived.Test.YtkcakbgcfnhgaaaGreatDoorX6
import Derived.Deep.RegionLaw
import Derived.Deep.AppendLies
namespace Go.Proofs.YtkcakbgcfnhgaaaGreatDoor
set_option linter.unusedSimpArgs false
set_option linter.unusedVariables false
set_option maxRecDepth 100000
set_option maxHeartbeats 16000000
open Go.RowKit
theorem k_item_any (w : World) (B : Nat) (l : List Px.Nd) (h : Wks w B l) (he : EnvW w) (hB : 12 ≤ B) :
   Calls Tryz.prog 137 #[.pointer (some ⟨B, 0, none⟩)] w (WOut w B wItemV (Px.rItem l)) := by
 have HW := hd h
 have HE := hd he
 have hBw := h.lt
 have HR0 := hd (Blk.new w #[.bool false, .nilIface] 141)
 clear h he
 go_enter Tryz.func137, Tryz.ntmps137
 go_wp2_with fail
 refine (k_peek_any _ B l (HW.out.below (by go_grown))).mono ?_
 rintro x w1 ⟨rfl, hb1⟩
 have G1 := hd (Below.grownBy (row := some B) (below_more0 (B := w.heap.size) (w := w) (by go_grown) hb1 (by simp)))
 have W1 := hd (HW.out.below (below_more0 (B := w.heap.size) (w := w) (by go_grown) hb1 (by simp)))
 have E1 := hd (HE.out.grown G1.out hB)
 have HR1 := hd (HR0.out.below hb1 HR0.out.lt)
 clear hb1
 by_cases hp : Px.pkN l = 10
 · have hp' : (Px.pkN l != 10) = false := by simp [hp]
   match l, hp, hp', W1 with
   | [], hp, _, _ => exact absurd hp (by simp [Px.pkN])
   | ⟨xk, xt, xn, xc⟩ :: r, hp, hp', W1 =>
    have HR : Hid (Px.rItem (⟨xk, xt, xn, xc⟩ :: r) = if Px.bareN ⟨xk, xt, xn, xc⟩ 0 = true then some (none, r) else none) := by
     show _ = _
     have : xk = 10 := hp
     unfold Px.rItem
     simp [this]
    clear hp
    go_wp2_with fail
    refine (k_take_any _ B _ W1.out).mono ?_
    rintro y w2 ⟨hg2, v, rfl, hv, hw2⟩
    have hv : v = ndA ⟨xk, xt, xn, xc⟩ := hv
    subst hv
    unfold ndA
    simp only
    have G2 := hd (grown_tr G1.out hg2)
    have HR2 := hd (blk_keep HR1.out hg2 (by omega))
    have W2 := hd hw2
    clear hg2 hw2
    go_wp2_with fail
    by_cases hf : xt = [] ∧ xn = 0 ∧ xc = 0
    rotate_left
    · refine (k_fields_no _ B _ _ _ _ [] _ _ hf).mono ?_
      rintro y w4 ⟨rfl, hb4⟩
      exact ⟨rfl, by rw [HR.out, if_neg (fun e => hf ((bare_iff _ _ _ _ _).1 e))]; exact WOut.none (grown_tr G2.out (Below.grownBy hb4))⟩
    have HRR : Hid (Px.rItem (⟨xk, xt, xn, xc⟩ :: r) = some (none, r)) := by show _ = _; rw [HR.out, if_pos ((bare_iff _ _ _ _ _).2 hf)]
    obtain ⟨rfl, rfl, rfl⟩ := hf
    refine (k_fields_yes _ B _ _ _ _).mono ?_
    rintro y w4 ⟨rfl, hb4⟩
    have G4 := hd (grown_tr G2.out (Below.grownBy hb4))
    have HR4 := hd (HR2.out.below hb4 HR2.out.lt)
    have W4 := hd (W2.out.below hb4)
    have s0 := HR4.out.cell 0
    have s1 := HR4.out.cell 1
    simp at s0 s1
    have v0 := HR4.out.free 0
    have v1 := HR4.out.free 1
    clear hb4
    go_wp2_with fail
    have KF := (HR4.out.set 0 (.bool true)).set 1 .nilIface
    have z0 := KF.cell 0
    have z1 := KF.cell 1
    simp at z0 z1
    refine bodyPost_ret (v := .agg #[.bool true, .nilIface]) (by simp [results, Tryz.results137, go_sem, z0, z1]) rfl ?_
    rw [HRR.out]
    exact WOut.some (grown_far (grown_far G4.out _ (Nat.le_refl _) _) _ (Nat.le_refl _) _) rfl ((W4.out.far _ hBw _).far _ hBw _)
 · have hp' : (Px.pkN l != 10) = true := bne_iff_ne.2 hp
   have HR : Hid (Px.rItem l = (Px.rE 40 l).map fun y => (some y.1, y.2)) := by
    show _ = _
    cases l with
    | nil => rfl
    | cons x r => unfold Px.rItem; simp only; rw [if_neg (show ¬ x.kind = 10 from hp)]
   clear hp
   go_wp2_with fail
   refine (k_expr_any _ B l W1.out E1.out hB).mono ?_
   rintro x w6 ho
   obtain ⟨g, ⟨p1, rfl⟩ | ⟨a, l6, v, p1, rfl, hv, hw6⟩⟩ := ho.cases
   · exact ⟨rfl, by rw [HR.out, p1]; exact WOut.none (grown_tr G1.out g)⟩
   have HVA : Hid (v = ev a) := hv
   obtain ⟨et, ex, hev⟩ := ev_iface a
   have hv2 : v = .iface et ex := by rw [HVA.out, hev]
   subst hv2
   have G6 := hd (grown_tr G1.out g)
   have W6 := hd hw6
   have HP1 := hd p1
   have HR6 := hd (blk_keep HR1.out g (by omega))
   have s0 := HR6.out.cell 0
   have s1 := HR6.out.cell 1
   simp at s0 s1
   have v0 := HR6.out.free 0
   have v1 := HR6.out.free 1
   clear ho g hw6 p1 hv hev
   go_wp2_with fail
   have KF := (HR6.out.set 0 (.bool false)).set 1 (.iface et ex)
   have z0 := KF.cell 0
   have z1 := KF.cell 1
   simp at z0 z1
   refine bodyPost_ret (v := .agg #[.bool false, .iface et ex]) (by simp [results, Tryz.results137, go_sem, z0, z1]) rfl ?_
   rw [HR.out, HP1.out]
   refine WOut.some (a := some a) (grown_far (grown_far G6.out _ (Nat.le_refl _) _) _ (Nat.le_refl _) _) ?_ ((W6.out.far _ hBw _).far _ hBw _)
   show _ = Value.agg #[_, ev a]
   rw [← HVA.out]
   rfl
theorem rRow_is (xt : Lx.Bs) (xn xc : Int) (r : List Px.Nd) : Px.rRow (⟨5, xt, xn, xc⟩ :: r) = if xt = [] ∧ xn = 0 ∧ 1 ≤ xc then Px.rN (Px.rE 40) xc.toNat r else none := by
 unfold Px.rRow
 simp only [true_and]
theorem rRow_none (l : List Px.Nd) (h : ∀ x r, l = x :: r → x.kind ≠ 5) : Px.rRow l = none := by
 cases l with
 | nil => rfl
 | cons x r =>
  have h1 := h x r rfl
  unfold Px.rRow
  simp [h1]
theorem Wks.row {w w' : World} {B : Nat} {l : List Px.Nd} {row : Option Nat} (h : Wks w B l) (hg : w.grownBy w' row) (hr : ∀ o, row = some o → B < o) : Wks w' B l := by
 cases row with
 | none => exact h.below ⟨hg.os, hg.tape, hg.output, hg.size, fun k hk => hg.block k hk (by simp)⟩
 | some o => exact h.away hg (hr o rfl)
theorem grown_row {w0 w w' : World} {B : Nat} {row : Option Nat} (h : w0.grownBy w (some B)) (hg : w.grownBy w' row) (hr : ∀ o, row = some o → w0.heap.size ≤ o) : w0.grownBy w' (some B) := by
 refine ⟨hg.os.trans h.os, hg.tape.trans h.tape, hg.output.trans h.output, Nat.le_trans h.size hg.size, fun k hk hne => ?_⟩
 rw [hg.block k (Nat.lt_of_lt_of_le hk h.size) (by
  intro e
  have := hr k e.symm
  omega)]
 exact h.block k hk hne
theorem k_row_any (w : World) (B : Nat) (l : List Px.Nd) (h : Wks w B l) (he : EnvW w) (hB : 12 ≤ B) (hl : l.length ≤ 16777216) :
   Calls Tryz.prog 131 #[.pointer (some ⟨B, 0, none⟩)] w (WOut w B (lsV B 97 1 exC) (Px.rRow l)) := by
 obtain ⟨i0, hi, hz0, hz1, hz2⟩ := info_parts Tryz.info97
 have HW := hd h
 have HE := hd he
 have hBw := h.lt
 clear h he
 go_enter Tryz.func131, Tryz.ntmps131
 go_wp2_with fail
 refine (k_kind_any _ B l 5 (HW.out.below (by go_grown))).mono ?_
 rintro x w1 ho
 have G1 : w.grownBy w1 (some B) := grown_tr (Below.grownBy (by go_grown)) ho.1
 rcases rKind_cases 5 l with ⟨hr, hno⟩ | ⟨xt, xn, xc, r, rfl, hr⟩
 · rw [hr] at ho
   obtain ⟨_, rfl⟩ := ho
   refine ⟨rfl, ?_⟩
   rw [rRow_none l hno]
   exact WOut.none G1
 · rw [hr] at ho
   obtain ⟨_, v, rfl, hv, hw⟩ := ho
   have hv : v = ndA ⟨5, xt, xn, xc⟩ := hv
   subst hv
   have HFX := hd (HW.out.fits ⟨5, xt, xn, xc⟩ (by simp))
   have HR := hd (rRow_is xt xn xc r)
   unfold ndA
   simp only
   have hs1 := G1.size
   have HK2 := hd (Blk.new w1 #[.int .i64 5, .string ⟨xt.toArray⟩, .int .i64 xn, .int .i64 xc] 43)
   have HW2 := hd (hw.below ((Below.refl _ _).alloc (Nat.le_refl _) (.cells #[.int .i64 5, .string ⟨xt.toArray⟩, .int .i64 xn, .int .i64 xc] 43)))
   have HG2 := hd (grownBy_alloc G1 (.cells #[.int .i64 5, .string ⟨xt.toArray⟩, .int .i64 xn, .int .i64 xc] 43))
   clear hw G1 hr
   go_wp2_with fail
   by_cases hf : xt = [] ∧ xn = 0
   rotate_left
   · refine (k_fields_no _ B _ _ _ _ [] _ _ (fun e => hf ⟨e.1, e.2.1⟩)).mono ?_
     rintro y w4 ⟨rfl, hb4⟩
     exact ⟨rfl, by rw [HR.out, if_neg (fun e => hf ⟨e.1, e.2.1⟩)]; exact WOut.none (grown_tr HG2.out (Below.grownBy hb4))⟩
   obtain ⟨rfl, rfl⟩ := hf
   refine (k_fields_yes _ B _ _ _ _).mono ?_
   rintro y w4 ⟨rfl, hb4⟩
   have HK4 := hd (HK2.out.below hb4 HK2.out.lt)
   have G4 := hd (grown_tr HG2.out (Below.grownBy hb4))
   have W4 := hd (HW2.out.below hb4)
   have q3 := HK4.out.cell 3
   simp at q3
   have hK4 := HK4.out.lt
   clear hb4
   by_cases h1 : 1 ≤ xc
   rotate_left
   · have hn : decide (1 ≤ xc) = false := decide_eq_false h1
     go_wp2_with fail
     refine (k_must_false _ B).mono ?_
     rintro y w5 ⟨rfl, hb5⟩
     exact ⟨rfl, by rw [HR.out, if_neg (fun e => by have := e.2.2; omega)]; exact WOut.none (grown_tr G4.out (Below.grownBy hb5))⟩
   have HRR : Hid (Px.rRow (⟨5, [], 0, xc⟩ :: r) = Px.rN (Px.rE 40) xc.toNat r) := by show _ = _; rw [rRow_is, if_pos ⟨rfl, rfl, h1⟩]
   go_wp2_with fail
   refine (k_must_true _ B).mono ?_
   rintro y w5 ⟨rfl, h0⟩
   rw [h0]
   clear h0 w5
   go_wp2_with fail
   have hn0 : xc.toNat ≤ xc.toNat := Nat.le_refl _
   have hxc2 : xc ≤ 9223372036854775807 := HFX.out.2.2.1.2
   obtain ⟨n, hn⟩ : ∃ n : Nat, xc = (n : Int) := ⟨xc.toNat, by omega⟩
   subst hn
   have HNN : Hid (Px.rRow (⟨5, [], 0, (n : Int)⟩ :: r) = Px.rN (Px.rE 40) n r) := HRR.out
   have HLR : Hid (r.length ≤ 16777216) := by simp only [List.length_cons] at hl; show _ ≤ _; omega
   have hgs := G4.out.size
   clear hn0 HRR hl q3
   go_loopw [4, 19] (fun v i wr => ∃ (k : Nat) (acc : List Px.E) (lk : List Px.Nd), k ≤ n ∧ i = .int .i64 k ∧ Hid (wr.ownsRow w.heap.size 97 1 v acc.length (acc.flatMap exC)) ∧ Hid (Wks wr B lk) ∧ Hid (w.grownBy wr (some B)) ∧ Hid (Px.NAt (Px.rE 40) n r acc (n - k) lk) ∧ Hid (acc.length + lk.length ≤ r.length)) (fun _ i _ => n - (intOf i).toNat)
   case atStart => exact ⟨0, [], r, by omega, rfl, ⟨by simp, .inl ⟨rfl, rfl⟩⟩, W4, G4, Px.NAt.start _ _ _, by show _ ≤ _; simp⟩
   case round =>
    clear W4 G4 HK4 hK4
    obtain ⟨k, acc, lk, hkn, rfl, HO, HWk, HG, HN, HLn⟩ := hrel
    have hgk := HG.out.size
    by_cases hlt : k < n
    · have HEk := hd (HE.out.grown HG.out hB)
      go_wp2_with fail
      refine (k_expr_any wr B lk HWk.out HEk.out hB).mono ?_
      rintro x w6 ho
      obtain ⟨k', hk'⟩ : ∃ k', n - k = k' + 1 := ⟨n - k - 1, by omega⟩
      have HNk : Hid (Px.NAt (Px.rE 40) n r acc (k' + 1) lk) := by have := HN.out; rw [hk'] at this; exact this
      obtain ⟨g, ⟨p1, rfl⟩ | ⟨a, l6, v, p1, rfl, hv, hw6⟩⟩ := ho.cases
      · exact ⟨rfl, by rw [HNN.out, HNk.out.fail p1]; exact WOut.none (grown_tr HG.out g)⟩
      have HVA : Hid (v = ev a) := hv
      obtain ⟨et, ex, hev⟩ := ev_iface a
      have hv2 : v = .iface et ex := by rw [HVA.out, hev]
      subst hv2
      have HEA := Px.eats_E 40 _ _ _ p1
      have HN6 := hd (HNk.out.step p1)
      have G6 := hd (grown_tr HG.out g)
      have W6 := hd hw6
      have HO6 := hd (HO.out.kept g (by
       cases hv : u4.ownBlock with
       | none => exact .inl rfl
       | some o => right; have := (HO.out.lt o hv).1; simp; omega))
      have hg6 := G6.out.size
      have hL6 : acc.length + 1 + l6.length ≤ r.length := by have := HLn.out; omega
      have hLR := HLR.out
      clear ho g hw6 p1 hv hev HO HWk HG HN HNk
      have W6' := hd (W6.out.below ((Below.refl _ _).alloc (Nat.le_refl _) (.cells #[.iface et ex] 97)))
      have G6' := hd (grownBy_alloc G6.out (.cells #[.iface et ex] 97))
      go_wp2_with (first
       | (at_builtin; refine wpList_append_own _ rfl _ _ 136 rfl w.heap.size 97 i0 .nilIface 1 16 Tryz.underlying136 hi hz0 hz1 hz2 rfl (by decide) _ _ _ rfl (HO6.out.alloc _) ⟨w6.heap.size, 0, none⟩ 1 1 [.iface et ex] rfl rfl ?c1 ?c2 ?c3 ?c4 ?c5 ?_)
       | fail)
      case c1 => exact one_news w6 (.iface et ex) 97
      case c2 => intro u hu; simp at hu; subst hu; rfl
      case c3 => unfold maxLen; omega
      case c4 => omega
      case c5 => simp; omega
      intro v' w7 hown' hgrow _
      have HO7 : Hid (w7.ownsRow w.heap.size 97 1 v' (acc ++ [a]).length ((acc ++ [a]).flatMap exC)) := by
       rw [List.length_append, List.length_singleton, flat_snoc]
       show World.ownsRow _ _ _ _ _ _ _
       simp only [exC]; rw [← HVA.out]; exact hown'
      have HX7 := hd (W6'.out.row hgrow (fun o ho => by have := (HO6.out.lt o ho).1; omega))
      have HG7 := hd (grown_row G6'.out hgrow (fun o ho => (HO6.out.lt o ho).1))
      clear hown' hgrow W6' G6' HO6
      go_wp2_with fail
      go_roundw
      case rel => exact ⟨k + 1, acc ++ [a], l6, by omega, by go_num, HO7, HX7, HG7, (by have := HN6.out; rwa [show n - (k + 1) = k' by omega]), (by show _ ≤ _; simp only [List.length_append, List.length_singleton]; exact hL6)⟩
      case measure => simp [intOf]; omega
    · have hk0 : n - k = 0 := by omega
      have HD : Hid (Px.rN (Px.rE 40) n r = some (acc, lk)) := by have := HN.out; rw [hk0] at this; exact this.done
      go_wp2_with fail
      go_ret
      rw [HNN.out, HD.out]
      exact WOut.some HG.out (ownBase HO.out (by omega)) HWk.out
structure Grow2 (w w' : World) (B C : Nat) : Prop where
 os : w'.os = w.os
 tape : w'.tape = w.tape
 output : w'.output = w.output
 size : w.heap.size ≤ w'.heap.size
 block : ∀ k, k < w.heap.size → k ≠ B → k ≠ C → w'.heap[k]? = w.heap[k]?

def stV (B : Nat) : Px.St → Value → World → Prop
 | .create t c, v, w => ∃ u, v = .iface 87 (.agg #[.string ⟨t.toArray⟩, u]) ∧ lsV B 135 2 colC c u w
 | .drop t, v, _ => v = .iface 90 (.agg #[.string ⟨t.toArray⟩])
 | .insert t r, v, w => ∃ u, v = .iface 94 (.agg #[.string ⟨t.toArray⟩, u]) ∧ rowsV B r u w
 | .delete t o, v, _ => v = .iface 99 (.agg #[.string ⟨t.toArray⟩, ev? o])
 | .update t s o, v, w => ∃ u, v = .iface 104 (.agg #[.string ⟨t.toArray⟩, u, ev? o]) ∧ lsV B 139 2 setC s u w
 | .select i t o r l, v, w => ∃ u u', v = .iface 109 (.agg #[u, .string ⟨t.toArray⟩, ev? o, u', .bool l.isSome, .int .i64 ((l.getD 0 : Nat) : Int)]) ∧ lsV B 141 2 itemC i u w ∧ lsV B 143 2 orderC r u' w
def partV (B : Nat) (T : TypeId) (s : Px.St) (v : Value) (w : World) : Prop := stV B s (.iface T v) w
theorem ev?_one (o : Option Px.E) : ev? o = .nilIface ∨ ∃ t x, ev? o = .iface t x := by
 cases o with
 | none => exact .inl rfl
 | some e => exact .inr (ev_iface e)
theorem info_col : (Tryz.prog.info? 135).map (fun i => (i.zero, i.size, i.bytes)) = some (some (.agg #[.string ⟨#[]⟩, .int .i64 0]), 2, 24) := by kernel_rfl
theorem blk_row {w w' : World} {N : Nat} {a : Array Value} {T : TypeId} {row : Option Nat} (h : Blk w N a T) (hg : w.grownBy w' row) (hr : ∀ o, row = some o → N ≠ o) : Blk w' N a T := by
 have hl := h.lt
 unfold Blk at *
 rw [hg.block N hl (fun e => hr N e.symm rfl)]
 exact h
theorem own_away {w : World} {N i base : Nat} {e : TypeId} {size : Nat} {v u : Value} {n : Nat} {xs : List Value} (h : w.ownsRow base e size v n xs) (hN : N < base) : (w.setCell ⟨N, i, none⟩ u).ownsRow base e size v n xs :=
 h.kept (grownBy_set w N i u) (by
  cases hv : v.ownBlock with
  | none => exact .inl rfl
  | some g => right; have := (h.lt g hv).1; simp; omega)
theorem grown_at {w w1 : World} {B N i : Nat} {v : Value} (h : w.grownBy w1 (some B)) (hN : w.heap.size ≤ N) : w.grownBy (w1.setCell ⟨N, i, none⟩ v) (some B) := grown_far h ⟨N, i, none⟩ hN v
def createR (t : Lx.Bs) (xc : Int) (l : List Px.Nd) : Option (Px.St × List Px.Nd) := if 1 ≤ xc ∧ xc ≤ 6 then (Px.rN Px.rCol xc.toNat l).map fun y => (.create t y.1, y.2) else none
theorem k_create_any (w : World) (B : Nat) (t : Lx.Bs) (xc : Int) (l : List Px.Nd) (h : Wks w B l) (he : EnvW w) (hB : 12 ≤ B) :
   Calls Tryz.prog 75 #[.pointer (some ⟨B, 0, none⟩), ndA ⟨1, t, 0, xc⟩] w (WOut w B (partV B 87) (createR t xc l)) := by
 obtain ⟨i0, hi, hz0, hz1, hz2⟩ := info_parts info_col
 have HW := hd h
 have HE := hd he
 have hBw := h.lt
 unfold ndA
 simp only
 clear h he
 by_cases h1 : 1 ≤ xc
 rotate_left
 · have HR : Hid (createR t xc l = none) := if_neg (fun e => h1 e.1)
   have hn : decide (1 ≤ xc) = false := decide_eq_false h1
   go_enter Tryz.func75, Tryz.ntmps75
   go_wp2_with fail
   refine (k_must_false _ B).mono ?_
   rintro y w5 ⟨rfl, hb5⟩
   exact ⟨rfl, by rw [HR.out]; exact WOut.none (Below.grownBy (below_more0 (by go_grown) hb5 (by simp; omega)))⟩
 by_cases h6 : xc ≤ 6
 rotate_left
 · have HR : Hid (createR t xc l = none) := if_neg (fun e => h6 e.2)
   have hn : decide (xc ≤ 6) = false := decide_eq_false h6
   go_enter Tryz.func75, Tryz.ntmps75
   go_wp2_with fail
   refine (k_must_false _ B).mono ?_
   rintro y w5 ⟨rfl, hb5⟩
   exact ⟨rfl, by rw [HR.out]; exact WOut.none (Below.grownBy (below_more0 (by go_grown) hb5 (by simp; omega)))⟩
 obtain ⟨n, rfl⟩ : ∃ n : Nat, xc = (n : Int) := ⟨xc.toNat, by omega⟩
 have HR : Hid (createR t (n : Int) l = (Px.rN Px.rCol n l).map fun y => (.create t y.1, y.2)) := if_pos ⟨h1, h6⟩
 go_enter Tryz.func75, Tryz.ntmps75
 go_wp2_with fail
 refine (k_must_true _ B).mono ?_
 rintro y w5 ⟨rfl, h0⟩
 rw [h0]
 clear h0 w5
 go_wp2_with fail
 go_loopw [21] (fun i wr => ∃ (k : Nat) (acc : List (Lx.Bs × Nat)) (lk : List Px.Nd) (v : Value), k ≤ n ∧ i = .int .i64 k ∧ Hid (Blk wr (w.heap.size + 1 + 1) #[.string ⟨t.toArray⟩, v] 87) ∧ Hid (Blk wr (w.heap.size + 1) #[.string ⟨#[]⟩, .slice none 0 0] 87) ∧ Hid (wr.ownsRow (w.heap.size + 3) 135 2 v acc.length (acc.flatMap colC)) ∧ Hid (Wks wr B lk) ∧ Hid (w.grownBy wr (some B)) ∧ Hid (Px.NAt Px.rCol n l acc (n - k) lk) ∧ Hid (acc.length = k)) (fun i _ => n - (intOf i).toNat)
 case atStart =>
  refine ⟨0, [], l, .slice none 0 0, by omega, rfl, ?_, ?_, ⟨by simp, .inl ⟨rfl, rfl⟩⟩, HW.out.below (by go_grown), Below.grownBy (by go_grown), Px.NAt.start _ _ _, rfl⟩
  · show Blk _ _ _ _
    have := Blk.new ((w.alloc (.cells #[.int .i64 1, .string ⟨t.toArray⟩, .int .i64 0, .int .i64 (n : Int)] 43)).alloc (.cells #[.string ⟨#[]⟩, .slice none 0 0] 87)) #[.string ⟨t.toArray⟩, .slice none 0 0] 87
    simpa using this
  · show Blk _ _ _ _
    have := (Blk.new (w.alloc (.cells #[.int .i64 1, .string ⟨t.toArray⟩, .int .i64 0, .int .i64 (n : Int)] 43)) #[.string ⟨#[]⟩, .slice none 0 0] 87).alloc (.cells #[.string ⟨t.toArray⟩, .slice none 0 0] 87)
    simpa using this
 case round =>
  obtain ⟨k, acc, lk, v, hkn, rfl, HC, HZ, HO, HWk, HG, HN, HA⟩ := hrel
  have hgk := HG.out.size
  have c1 := HC.out.cell 1
  simp at c1
  have hCl := HC.out.lt
  by_cases hlt : k < n
  · have HEk := hd (HE.out.grown HG.out hB)
    obtain ⟨k', hk'⟩ : ∃ k', n - k = k' + 1 := ⟨n - k - 1, by omega⟩
    have HNk : Hid (Px.NAt Px.rCol n l acc (k' + 1) lk) := by have := HN.out; rw [hk'] at this; exact this
    have hdr : Below wr.heap.size wr wr.drew := (Below.refl _ _).drew
    go_wp2_with fail
    go_region_law (first
     | (refine step_append_lies _ rfl _ _ 85 rfl (w.heap.size + 3) 135 i0 (.agg #[.string ⟨#[]⟩, .int .i64 0]) 2 24 Tryz.underlying85 hi hz0 hz1 hz2 rfl (by decide) v acc.length _ rfl (HO6.out.alloc _) ⟨w6.heap.size, 0, none⟩ 1 1 [.string ⟨nm.toArray⟩, .int .i64 (ty : Int)] rfl rfl (two_news w6 (.string ⟨nm.toArray⟩) (.int .i64 (ty : Int)) 135) (by intro u hu; simp at hu; rcases hu with rfl | rfl <;> rfl) (by omega) (by unfold maxLen; omega) (by omega) (by simp; omega) _ rfl ?_
        intro g cap w7 hown hgrow hat hltg
        have HO7 := hd hown
        have HC7 := hd (blk_row (HC6.out.alloc _) hgrow (fun o ho => by have := (HO6.out.lt o ho).1; omega))
        have HZ7 := hd (blk_row (HZ6.out.alloc _) hgrow (fun o ho => by have := (HO6.out.lt o ho).1; omega))
        have W7 := hd ((W6.out.below ((Below.refl _ _).alloc (Nat.le_refl _) _)).row hgrow (fun o ho => by have := (HO6.out.lt o ho).1; omega))
        have G7 := hd (grown_row (grownBy_alloc G6.out _) hgrow (fun o ho => by have := (HO6.out.lt o ho).1; omega))
        have d1 := HC7.out.cell 1
        simp at d1
        have e1 := HC7.out.free 1
        clear hown hgrow hat)
     | (go_simp
        go_at_call 130
        refine (k_column_any _ B lk (HWk.out.below hdr) (HEk.out.below hdr) hB).mono ?_
        rintro x w6 ho
        obtain ⟨g, ⟨p1, rfl⟩ | ⟨⟨nm, ty⟩, l6, v6, p1, rfl, hv, hw6⟩⟩ := ho.cases
        · exact ⟨rfl, by rw [HR.out, HNk.out.fail p1]; exact WOut.none (grown_tr HG.out (grown_tr (Below.grownBy hdr) g))⟩
        have hv : v6 = .agg #[.string ⟨nm.toArray⟩, .int .i64 (ty : Int)] := hv
        subst hv
        have HN6 := hd (HNk.out.step p1)
        have G6 := hd (grown_tr HG.out (grown_tr (Below.grownBy hdr) g))
        have W6 := hd hw6
        have HO6 := hd ((owns_below HO.out hdr).kept g (by
         cases hv : v.ownBlock with
         | none => exact .inl rfl
         | some o => right; have := (HO.out.lt o hv).1; simp; omega))
        have HC6 := hd (blk_keep (HC.out.below hdr HC.out.lt) g (by omega))
        have HZ6 := hd (blk_keep (HZ.out.below hdr HZ.out.lt) g (by omega))
        have hg6 := HC6.out.lt
        have c1 := HC6.out.cell 1
        simp at c1
        have hA : acc.length ≤ 6 := by have := HA.out; omega
        clear ho g hw6 p1))
    all_goals
     go_wp2_with fail
     go_roundw
     case rel =>
      refine ⟨k + 1, acc ++ [(nm, ty)], l6, _, by omega, by go_num, HC7.out.set 1 _, HZ7.out.far _ _ (by simp), ?_, W7.out.far ⟨w.heap.size + 1 + 1, 1, none⟩ (show B < w.heap.size + 1 + 1 by omega) _, grown_at G7.out (by omega), (by have := HN6.out; rwa [show n - (k + 1) = k' by omega]), (by show _ = _; have := HA.out; simp only [List.length_append, List.length_singleton]; omega)⟩
      show World.ownsRow _ _ _ _ _ _ _
      rw [List.length_append, List.length_singleton, flat_snoc]
      exact own_away HO7.out (by omega)
     case measure => simp [intOf]; omega
  · have hk0 : n - k = 0 := by omega
    have HD : Hid (Px.rN Px.rCol n l = some (acc, lk)) := by have := HN.out; rw [hk0] at this; exact this.done
    have c0 := HC.out.cell 0
    simp at c0
    have z0 := HZ.out.cell 0
    have z1 := HZ.out.cell 1
    simp at z0 z1
    have y0 := HZ.out.free 0
    have y1 := HZ.out.free 1
    have hZl := HZ.out.lt
    obtain ⟨ao, nn, cp, rfl⟩ := own_slice HO.out
    go_wp2_with fail
    have KF := (HZ.out.set 0 (.string ⟨t.toArray⟩)).set 1 (.slice ao nn cp)
    have r0 := KF.cell 0
    have r1 := KF.cell 1
    simp at r0 r1
    refine bodyPost_ret (v := .agg #[.string ⟨t.toArray⟩, .slice ao nn cp]) (by simp [results, Tryz.results75, go_sem, r0, r1]) rfl ?_
    rw [HR.out, HD.out]
    refine WOut.some (grown_at (grown_at HG.out (by omega)) (by omega)) ?_ ((HWk.out.far ⟨w.heap.size + 1, 0, none⟩ (show B < w.heap.size + 1 by omega) _).far ⟨w.heap.size + 1, 1, none⟩ (show B < w.heap.size + 1 by omega) _)
    exact ⟨_, rfl, ownBase (own_away (own_away HO.out (by omega)) (by omega)) (by omega)⟩
theorem own_apartB {w : World} {base N : Nat} {e : TypeId} {size : Nat} {v : Value} {n : Nat} {xs : List Value} {a : Array Value} {T : TypeId} (h : w.ownsRow base e size v n xs) (hb : Blk w N a T) (hT : T ≠ e) : ∀ g, v.ownBlock = some g → g ≠ N := by
 intro g hg e
 obtain ⟨cur, hc⟩ := own_type h g hg
 subst e
 unfold Blk at hb
 rw [hb] at hc
 simp only [Option.some.injEq, Obj.cells.injEq] at hc
 exact hT hc.2.1
theorem own_setB {w : World} {base N i : Nat} {e : TypeId} {size : Nat} {v u : Value} {n : Nat} {xs : List Value} {a : Array Value} {T : TypeId} (h : w.ownsRow base e size v n xs) (hb : Blk w N a T) (hT : T ≠ e) : (w.setCell ⟨N, i, none⟩ u).ownsRow base e size v n xs :=
 h.kept (grownBy_set w N i u) (by
  cases hv : v.ownBlock with
  | none => exact .inl rfl
  | some g => right; have := own_apartB h hb hT g hv; simp; omega)
def insertR (t : Lx.Bs) (xc : Int) (l : List Px.Nd) : Option (Px.St × List Px.Nd) := if 1 ≤ xc then (Px.rN Px.rRow xc.toNat l).map fun y => (.insert t y.1, y.2) else none
theorem k_insert_any (w : World) (B : Nat) (t : Lx.Bs) (xc : Int) (l : List Px.Nd) (h : Wks w B l) (he : EnvW w) (hB : 12 ≤ B) (hl : l.length ≤ 16777216) (hx : xc ≤ 9223372036854775807) :
   Calls Tryz.prog 76 #[.pointer (some ⟨B, 0, none⟩), ndA ⟨4, t, 0, xc⟩] w (WOut w B (partV B 94) (insertR t xc l)) := by
 obtain ⟨i0, hi, hz0, hz1, hz2⟩ := info_parts Tryz.info136
 have HW := hd h
 have HE := hd he
 have hBw := h.lt
 unfold ndA
 simp only
 clear h he
 by_cases h1 : 1 ≤ xc
 rotate_left
 · have HR : Hid (insertR t xc l = none) := if_neg h1
   have hn : decide (1 ≤ xc) = false := decide_eq_false h1
   go_enter Tryz.func76, Tryz.ntmps76
   go_wp2_with fail
   refine (k_must_false _ B).mono ?_
   rintro y w5 ⟨rfl, hb5⟩
   exact ⟨rfl, by rw [HR.out]; exact WOut.none (Below.grownBy (below_more0 (by go_grown) hb5 (by simp; omega)))⟩
 obtain ⟨n, rfl⟩ : ∃ n : Nat, xc = (n : Int) := ⟨xc.toNat, by omega⟩
 have HR : Hid (insertR t (n : Int) l = (Px.rN Px.rRow n l).map fun y => (.insert t y.1, y.2)) := if_pos h1
 go_enter Tryz.func76, Tryz.ntmps76
 go_wp2_with fail
 refine (k_must_true _ B).mono ?_
 rintro y w5 ⟨rfl, h0⟩
 rw [h0]
 clear h0 w5
 go_wp2_with fail
 go_loopw [16] (fun i wr => ∃ (k : Nat) (acc : List (List Px.E)) (lk : List Px.Nd) (v : Value) (vs : List Value), k ≤ n ∧ i = .int .i64 k ∧ Hid (Blk wr (w.heap.size + 1 + 1) #[.string ⟨t.toArray⟩, v] 94) ∧ Hid (Blk wr (w.heap.size + 1) #[.string ⟨#[]⟩, .slice none 0 0] 94) ∧ Hid (wr.ownsRow (w.heap.size + 3) 136 1 v acc.length vs) ∧ Hid (RowsIs wr (B + 1) acc vs) ∧ Hid (Wks wr B lk) ∧ Hid (w.grownBy wr (some B)) ∧ Hid (Px.NAt Px.rRow n l acc (n - k) lk) ∧ Hid (acc.length + lk.length ≤ l.length)) (fun i _ => n - (intOf i).toNat)
 case atStart =>
  refine ⟨0, [], l, .slice none 0 0, [], by omega, rfl, ?_, ?_, ⟨by simp, .inl ⟨rfl, rfl⟩⟩, trivial, HW.out.below (by go_grown), Below.grownBy (by go_grown), Px.NAt.start _ _ _, (by show _ ≤ _; simp)⟩
  · show Blk _ _ _ _
    have := Blk.new ((w.alloc (.cells #[.int .i64 4, .string ⟨t.toArray⟩, .int .i64 0, .int .i64 (n : Int)] 43)).alloc (.cells #[.string ⟨#[]⟩, .slice none 0 0] 94)) #[.string ⟨t.toArray⟩, .slice none 0 0] 94
    simpa using this
  · show Blk _ _ _ _
    have := (Blk.new (w.alloc (.cells #[.int .i64 4, .string ⟨t.toArray⟩, .int .i64 0, .int .i64 (n : Int)] 43)) #[.string ⟨#[]⟩, .slice none 0 0] 94).alloc (.cells #[.string ⟨t.toArray⟩, .slice none 0 0] 94)
    simpa using this
 case round =>
  obtain ⟨k, acc, lk, v, vs, hkn, rfl, HC, HZ, HO, HRs, HWk, HG, HN, HA⟩ := hrel
  have hgk := HG.out.size
  have c1 := HC.out.cell 1
  simp at c1
  have hCl := HC.out.lt
  by_cases hlt : k < n
  · have HEk := hd (HE.out.grown HG.out hB)
    obtain ⟨k', hk'⟩ : ∃ k', n - k = k' + 1 := ⟨n - k - 1, by omega⟩
    have HNk : Hid (Px.NAt Px.rRow n l acc (k' + 1) lk) := by have := HN.out; rw [hk'] at this; exact this
    have hdr : Below wr.heap.size wr wr.drew := (Below.refl _ _).drew
    go_wp2_with fail
    go_region_law (first
     | (refine step_append_lies _ rfl _ _ 92 rfl (w.heap.size + 3) 136 i0 (.slice none 0 0) 1 24 Tryz.underlying92 hi hz0 hz1 hz2 rfl (by decide) v acc.length _ rfl (HO6.out.alloc _) ⟨w6.heap.size, 0, none⟩ 1 1 [.slice ro rn rc] rfl rfl (one_news w6 (.slice ro rn rc) 136) (by intro u hu; simp at hu; subst hu; rfl) (by omega) (by unfold maxLen; omega) (by omega) (by simp; omega) _ rfl ?_
        intro g cap w7 hown hgrow hat hltg
        have HO7 := hd hown
        have HRs7 := hd (RowsIs.map (w' := w7) (fun r v' hr => hr.kept hgrow (own_apart hr (HO6.out.alloc _) (by decide))) HRs6.out)
        have HC7 := hd (blk_row (HC6.out.alloc _) hgrow (fun o ho => by have := (HO6.out.lt o ho).1; omega))
        have HZ7 := hd (blk_row (HZ6.out.alloc _) hgrow (fun o ho => by have := (HO6.out.lt o ho).1; omega))
        have W7 := hd ((W6.out.below ((Below.refl _ _).alloc (Nat.le_refl _) _)).row hgrow (fun o ho => by have := (HO6.out.lt o ho).1; omega))
        have G7 := hd (grown_row (grownBy_alloc G6.out _) hgrow (fun o ho => by have := (HO6.out.lt o ho).1; omega))
        have d1 := HC7.out.cell 1
        simp at d1
        have e1 := HC7.out.free 1
        clear hown hgrow hat)
     | (go_simp
        go_at_call 131
        refine (k_row_any _ B lk (HWk.out.below hdr) (HEk.out.below hdr) hB (by have := HA.out; omega)).mono ?_
        rintro x w6 ho
        obtain ⟨g, ⟨p1, rfl⟩ | ⟨row, l6, v6, p1, rfl, hv, hw6⟩⟩ := ho.cases
        · exact ⟨rfl, by rw [HR.out, HNk.out.fail p1]; exact WOut.none (grown_tr HG.out (grown_tr (Below.grownBy hdr) g))⟩
        have hv : w6.ownsRow (B + 1) 97 1 v6 row.length (row.flatMap exC) := hv
        obtain ⟨ro, rn, rc, rfl⟩ := own_slice hv
        have hEa := Px.eats_Row _ _ _ p1
        have HN6 := hd (HNk.out.step p1)
        have G6 := hd (grown_tr HG.out (grown_tr (Below.grownBy hdr) g))
        have W6 := hd hw6
        have HO6 := hd ((owns_below HO.out hdr).kept g (by
         cases hv : v.ownBlock with
         | none => exact .inl rfl
         | some o => right; have := (HO.out.lt o hv).1; simp; omega))
        have HRs6 := hd (((RowsIs.map (fun r v' hr => own_far (owns_below hr hdr) g) HRs.out).snoc hv).map (w' := w6.alloc (.cells #[.slice ro rn rc] 136)) (fun r v' hr => hr.alloc _))
        have HC6 := hd (blk_keep (HC.out.below hdr HC.out.lt) g (by omega))
        have HZ6 := hd (blk_keep (HZ.out.below hdr HZ.out.lt) g (by omega))
        have hg6 := HC6.out.lt
        have c1 := HC6.out.cell 1
        simp at c1
        have hA : acc.length + 1 + l6.length ≤ l.length := by have := HA.out; omega
        clear ho g hw6 p1 hv))
    all_goals
     go_wp2_with fail
     go_roundw
     case rel =>
      refine ⟨k + 1, acc ++ [row], l6, _, vs ++ [.slice ro rn rc], by omega, by go_num, HC7.out.set 1 _, HZ7.out.far _ _ (by simp), ?_, RowsIs.map (fun r v' hr => own_setB hr HC7.out (by decide)) HRs7.out, W7.out.far ⟨w.heap.size + 1 + 1, 1, none⟩ (show B < w.heap.size + 1 + 1 by omega) _, grown_at G7.out (by omega), (by have := HN6.out; rwa [show n - (k + 1) = k' by omega]), (by show _ ≤ _; simp only [List.length_append, List.length_singleton]; omega)⟩
      show World.ownsRow _ _ _ _ _ _ _
      rw [List.length_append, List.length_singleton]
      exact own_away HO7.out (by omega)
     case measure => simp [intOf]; omega
  · have hk0 : n - k = 0 := by omega
    have HD : Hid (Px.rN Px.rRow n l = some (acc, lk)) := by have := HN.out; rw [hk0] at this; exact this.done
    have c0 := HC.out.cell 0
    simp at c0
    have z0 := HZ.out.cell 0
    have z1 := HZ.out.cell 1
    simp at z0 z1
    have y0 := HZ.out.free 0
    have y1 := HZ.out.free 1
    have hZl := HZ.out.lt
    obtain ⟨ao, nn, cp, rfl⟩ := own_slice HO.out
    go_wp2_with fail
    have KF := (HZ.out.set 0 (.string ⟨t.toArray⟩)).set 1 (.slice ao nn cp)
    have r0 := KF.cell 0
    have r1 := KF.cell 1
    simp at r0 r1
    refine bodyPost_ret (v := .agg #[.string ⟨t.toArray⟩, .slice ao nn cp]) (by simp [results, Tryz.results76, go_sem, r0, r1]) rfl ?_
    rw [HR.out, HD.out]
    refine WOut.some (grown_at (grown_at HG.out (by omega)) (by omega)) ?_ ((HWk.out.far ⟨w.heap.size + 1, 0, none⟩ (show B < w.heap.size + 1 by omega) _).far ⟨w.heap.size + 1, 1, none⟩ (show B < w.heap.size + 1 by omega) _)
    exact ⟨_, rfl, vs, ownBase (own_away (own_away HO.out (by omega)) (by omega)) (by omega), RowsIs.map (fun r v' hr => own_setB (own_setB hr HZ.out (by decide)) (HZ.out.set 0 _) (by decide)) HRs.out⟩
def deleteR (t : Lx.Bs) (xc : Int) (l : List Px.Nd) : Option (Px.St × List Px.Nd) := (rWh xc l).bind fun y => if y.2.1 = 0 then some (.delete t y.1, y.2.2) else none
theorem WhOut.cases {w : World} {B L : Nat} {r : Option (Option Px.E × Int × List Px.Nd)} {x : Ending} {w' : World} (h : WhOut w B L r x w') :
   Gr2 w w' B L ∧ ((r = none ∧ x = Flt 0 7) ∨ ∃ o k' l', r = some (o, k', l') ∧ x = .returned (ev? o) ∧ Blk w' L #[.int .i64 k'] 3 ∧ Wks w' B l') := by
 obtain ⟨hg, h⟩ := h
 refine ⟨hg, ?_⟩
 match r, h with
 | none, h => exact .inl ⟨rfl, h⟩
 | some (o, k', l'), h => exact .inr ⟨o, k', l', rfl, h.1, h.2.1, h.2.2⟩
theorem rWh_le (k : Int) (l : List Px.Nd) (o : Option Px.E) (k' : Int) (l' : List Px.Nd) (h : rWh k l = some (o, k', l')) : k' ≤ k ∧ l'.length ≤ l.length := by
 unfold rWh at h
 split at h
 · match l, h with
   | [], h => cases h
   | x :: r, h =>
    simp only at h
    split at h
    · simp only [Option.map_eq_some_iff] at h
      obtain ⟨⟨e, r'⟩, h1, h2⟩ := h
      cases h2
      have := Px.eats_E 40 _ _ _ h1
      simp only [List.length_cons]
      omega
    · cases h
 · cases h
   omega
theorem blk3 (w : World) (a b c : Array Value) (ta tb tc : TypeId) :
   Blk (((w.alloc (.cells a ta)).alloc (.cells b tb)).alloc (.cells c tc)) w.heap.size a ta ∧ Blk (((w.alloc (.cells a ta)).alloc (.cells b tb)).alloc (.cells c tc)) (w.heap.size + 1) b tb ∧ Blk (((w.alloc (.cells a ta)).alloc (.cells b tb)).alloc (.cells c tc)) (w.heap.size + 1 + 1) c tc := by
 refine ⟨((Blk.new w a ta).alloc _).alloc _, ?_, ?_⟩
 · have := (Blk.new (w.alloc (.cells a ta)) b tb).alloc (.cells c tc)
   simpa using this
 · have := Blk.new ((w.alloc (.cells a ta)).alloc (.cells b tb)) c tc
   simpa using this
theorem below3 (w : World) (a b c : Obj) : Below w.heap.size w (((w.alloc a).alloc b).alloc c) :=
 (((Below.refl _ _).alloc (Nat.le_refl _) _).alloc (by simp) _).alloc (by simp; omega) _
theorem k_delete_any (w : World) (B : Nat) (t : Lx.Bs) (xc : Int) (l : List Px.Nd) (h : Wks w B l) (he : EnvW w) (hB : 12 ≤ B) (hx : xc ≤ 9223372036854775807) :
   Calls Tryz.prog 77 #[.pointer (some ⟨B, 0, none⟩), ndA ⟨6, t, 0, xc⟩] w (WOut w B (partV B 99) (deleteR t xc l)) := by
 have HW := hd h
 have HE := hd he
 have hBw := h.lt
 unfold ndA
 simp only
 clear h he
 go_enter Tryz.func77, Tryz.ntmps77
 go_wp2_with fail
 obtain ⟨hN, hR, hL⟩ := blk3 w #[.int .i64 6, .string ⟨t.toArray⟩, .int .i64 0, .int .i64 xc] #[.string ⟨#[]⟩, .nilIface] #[.int .i64 xc] 43 99 3
 have hb0 := below3 w (.cells #[.int .i64 6, .string ⟨t.toArray⟩, .int .i64 0, .int .i64 xc] 43) (.cells #[.string ⟨#[]⟩, .nilIface] 99) (.cells #[.int .i64 xc] 3)
 have HE0 := hd (HE.out.below hb0)
 refine (k_where_any _ B _ l xc (HW.out.below hb0) HE0.out hB hL (by omega) hx).mono ?_
 rintro x w1 ho
 obtain ⟨g, ⟨p1, rfl⟩ | ⟨o, k', l', p1, rfl, hL1, hw1⟩⟩ := ho.cases
 · exact ⟨rfl, by rw [show deleteR t xc l = none by unfold deleteR; rw [p1]; rfl]; exact WOut.none (g.more (Below.grownBy hb0) (by omega))⟩
 have HP1 := hd p1
 have G1 := hd (g.more (Below.grownBy hb0) (by omega))
 have W1 := hd hw1
 have HN1 := hd (g.blk hN (by omega) (by omega))
 have HR1 := hd (g.blk hR (by omega) (by omega))
 have l0 := hL1.cell 0
 simp at l0
 have q1 := HN1.out.cell 1
 simp at q1
 have s0 := HR1.out.cell 0
 have s1 := HR1.out.cell 1
 simp at s0 s1
 have v0 := HR1.out.free 0
 have v1 := HR1.out.free 1
 have hlt1 := hL1.lt
 have hv1 := ev?_one o
 obtain ⟨vo, hvo⟩ : ∃ vo, vo = ev? o := ⟨_, rfl⟩
 rw [← hvo] at hv1 ⊢
 have HVO := hd hvo
 clear hN hR hL hb0 HE0 g ho p1 hw1 hL1 hvo
 by_cases hk : k' = 0
 rotate_left
 · have HRR : Hid (deleteR t xc l = none) := by show _ = _; unfold deleteR; rw [HP1.out]; simp [hk]
   have hk' : (k' == 0) = false := beq_eq_false_iff_ne.2 hk
   go_wp2_with fail
   refine (k_must_false _ B).mono ?_
   rintro y w5 ⟨rfl, hb5⟩
   exact ⟨rfl, by rw [HRR.out]; exact WOut.none (grown_tr G1.out (Below.grownBy hb5))⟩
 subst hk
 have HRR : Hid (deleteR t xc l = some (.delete t o, l')) := by show _ = _; unfold deleteR; rw [HP1.out]; rfl
 go_wp2_with fail
 refine (k_must_true _ B).mono ?_
 rintro y w5 ⟨rfl, h0⟩
 rw [h0]
 clear h0 w5
 rcases hv1 with rfl | ⟨et, ex, rfl⟩
 · go_wp2_with fail
   have KF := (HR1.out.set 0 (.string ⟨t.toArray⟩)).set 1 .nilIface
   have r0 := KF.cell 0
   have r1 := KF.cell 1
   simp at r0 r1
   refine bodyPost_ret (v := .agg #[.string ⟨t.toArray⟩, .nilIface]) (by simp [results, Tryz.results77, go_sem, r0, r1]) rfl ?_
   rw [HRR.out]
   refine WOut.some (grown_at (grown_at G1.out (by omega)) (by omega)) ?_ ((W1.out.far ⟨w.heap.size + 1, 0, none⟩ (show B < w.heap.size + 1 by omega) _).far ⟨w.heap.size + 1, 1, none⟩ (show B < w.heap.size + 1 by omega) _)
   show _ = Value.iface _ (.agg #[_, ev? o])
   rw [← HVO.out]
 · go_wp2_with fail
   have KF := (HR1.out.set 0 (.string ⟨t.toArray⟩)).set 1 (.iface et ex)
   have r0 := KF.cell 0
   have r1 := KF.cell 1
   simp at r0 r1
   refine bodyPost_ret (v := .agg #[.string ⟨t.toArray⟩, .iface et ex]) (by simp [results, Tryz.results77, go_sem, r0, r1]) rfl ?_
   rw [HRR.out]
   refine WOut.some (grown_at (grown_at G1.out (by omega)) (by omega)) ?_ ((W1.out.far ⟨w.heap.size + 1, 0, none⟩ (show B < w.heap.size + 1 by omega) _).far ⟨w.heap.size + 1, 1, none⟩ (show B < w.heap.size + 1 by omega) _)
   show _ = Value.iface _ (.agg #[_, ev? o])
   rw [← HVO.out]
def WAtZ {α : Type} (is : Int → Bool) (x : List Px.Nd → Option (α × List Px.Nd)) (k : Int) (l0 : List Px.Nd) (acc : List α) (kk : Int) (lk : List Px.Nd) : Prop :=
 (k < 0 ∧ acc = [] ∧ kk = k ∧ lk = l0) ∨ ∃ n m : Nat, k = n ∧ kk = m ∧ Px.WAt is x n l0 acc m lk
theorem WAtZ.start {α : Type} (is : Int → Bool) (x : List Px.Nd → Option (α × List Px.Nd)) (k : Int) (l : List Px.Nd) : WAtZ is x k l [] k l := by
 by_cases h : k < 0
 · exact .inl ⟨h, rfl, rfl, rfl⟩
 · obtain ⟨n, rfl⟩ : ∃ n : Nat, k = (n : Int) := ⟨k.toNat, by omega⟩
   exact .inr ⟨n, n, rfl, rfl, Px.WAt.start _ _ _ _⟩
theorem WAtZ.step {α : Type} {is : Int → Bool} {x : List Px.Nd → Option (α × List Px.Nd)} {k : Int} {l0 : List Px.Nd} {acc : List α} {kk : Int} {lk l' : List Px.Nd} {a : α} (h : WAtZ is x k l0 acc kk lk) (hk : 0 < kk) (hi : is (Px.pkN lk) = true) (ha : x lk = some (a, l')) : WAtZ is x k l0 (acc ++ [a]) (kk - 1) l' := by
 rcases h with ⟨h1, _, h2, _⟩ | ⟨n, m, h1, h2, h3⟩
 · omega
 · obtain ⟨m', rfl⟩ : ∃ m', m = m' + 1 := ⟨m - 1, by omega⟩
   exact .inr ⟨n, m', h1, by omega, h3.step hi ha⟩
theorem WAtZ.fail {α : Type} {is : Int → Bool} {x : List Px.Nd → Option (α × List Px.Nd)} {k : Int} {l0 : List Px.Nd} {acc : List α} {kk : Int} {lk : List Px.Nd} (h : WAtZ is x k l0 acc kk lk) (hk : 0 < kk) (hi : is (Px.pkN lk) = true) (ha : x lk = none) : 0 ≤ k ∧ Px.rW is x k.toNat l0 = none := by
 rcases h with ⟨h1, _, h2, _⟩ | ⟨n, m, h1, h2, h3⟩
 · omega
 · obtain ⟨m', rfl⟩ : ∃ m', m = m' + 1 := ⟨m - 1, by omega⟩
   refine ⟨by omega, ?_⟩
   rw [show k.toNat = n by omega]
   exact h3.fail hi ha
theorem WAtZ.done {α : Type} {is : Int → Bool} {x : List Px.Nd → Option (α × List Px.Nd)} {k : Int} {l0 : List Px.Nd} {acc : List α} {kk : Int} {lk : List Px.Nd} (h : WAtZ is x k l0 acc kk lk) (hi : ¬ (0 < kk ∧ is (Px.pkN lk) = true)) : (k < 0 ∧ kk < 0) ∨ (0 ≤ k ∧ 0 ≤ kk ∧ Px.rW is x k.toNat l0 = some (acc, kk.toNat, lk)) := by
 rcases h with ⟨h1, _, h2, _⟩ | ⟨n, m, h1, h2, h3⟩
 · exact .inl ⟨h1, by omega⟩
 · refine .inr ⟨by omega, by omega, ?_⟩
   rw [show k.toNat = n by omega, show kk.toNat = m by omega]
   refine h3.done ?_
   by_cases hm : m = 0
   · exact .inl hm
   · right
     cases hb : is (Px.pkN lk) with
     | false => rfl
     | true => exact absurd ⟨by omega, hb⟩ hi
theorem isK_nat (m : Nat) (kind : Int) (l : List Px.Nd) : isK (m : Int) kind l = true ↔ (m ≠ 0 ∧ Px.pkN l = kind) := by
 unfold isK
 simp only [decide_eq_true_eq]
 constructor <;> rintro ⟨h1, h2⟩ <;> exact ⟨by omega, h2⟩
theorem rWh_neg (k : Int) (l : List Px.Nd) (h : k < 0) : rWh k l = some (none, k, l) := by
 unfold rWh
 rw [if_neg (by simp [isK]; omega)]
theorem rWh_nat (m : Nat) (l : List Px.Nd) : Px.rWhere m l = (rWh (m : Int) l).map fun z => (z.1, z.2.1.toNat, z.2.2) := by
 unfold Px.rWhere rWh
 by_cases h : m ≠ 0 ∧ Px.pkN l = 11
 · rw [if_pos h, if_pos ((isK_nat m 11 l).2 h)]
   cases l with
   | nil => rfl
   | cons x r =>
    simp only
    split
    · cases Px.rE 40 r with
      | none => rfl
      | some y =>
       simp only [Option.map_some]
       rw [show ((m : Int) - 1).toNat = m - 1 by omega]
    · rfl
 · rw [if_neg h, if_neg (fun e => h ((isK_nat m 11 l).1 e))]
   simp
theorem rWh_pos (m : Nat) (l : List Px.Nd) (o : Option Px.E) (k' : Int) (l' : List Px.Nd) (h : rWh (m : Int) l = some (o, k', l')) : 0 ≤ k' := by
 unfold rWh at h
 split at h
 · rename_i hi
   have := (isK_nat m 11 l).1 hi
   match l, h with
   | [], h => cases h
   | x :: r, h =>
    simp only at h
    split at h
    · simp only [Option.map_eq_some_iff] at h
      obtain ⟨y, _, h2⟩ := h
      cases h2
      omega
    · cases h
 · cases h
   omega
def updateR (t : Lx.Bs) (xc : Int) (l : List Px.Nd) : Option (Px.St × List Px.Nd) :=
 if xc < 0 then none else (Px.rW (fun k => decide (k = 8)) Px.rSet xc.toNat l).bind fun y => (Px.rWhere y.2.1 y.2.2).bind fun z => if z.2.1 = 0 ∧ y.1 ≠ [] then some (.update t y.1 z.1, z.2.2) else none
theorem update_end {t : Lx.Bs} {xc : Int} {l : List Px.Nd} {acc : List (Lx.Bs × Px.E)} {kk : Int} {lk : List Px.Nd} (h : WAtZ (fun k => decide (k = 8)) Px.rSet xc l acc kk lk) (hi : isK kk 8 lk = false) : updateR t xc l = (rWh kk lk).bind fun z => if z.2.1 = 0 ∧ acc ≠ [] then some (.update t acc z.1, z.2.2) else none := by
 have hi' : ¬ (0 < kk ∧ decide (Px.pkN lk = 8) = true) := by
  intro e
  unfold isK at hi
  simp only [decide_eq_false_iff_not, decide_eq_true_eq] at hi e
  exact hi e
 unfold updateR
 rcases h.done hi' with ⟨h1, h2⟩ | ⟨h1, h2, h3⟩
 · rw [if_pos h1, rWh_neg kk lk h2]
   simp only [Option.bind_some]
   rw [if_neg (fun e => by have := e.1; omega)]
 · rw [if_neg (by omega), h3]
   simp only [Option.bind_some]
   obtain ⟨m, rfl⟩ : ∃ m : Nat, kk = (m : Int) := ⟨kk.toNat, by omega⟩
   rw [Int.toNat_natCast, rWh_nat m lk]
   cases hr : rWh (m : Int) lk with
   | none => rfl
   | some z =>
    obtain ⟨o, k', l'⟩ := z
    have := rWh_pos m lk o k' l' hr
    simp only [Option.map_some, Option.bind_some]
    by_cases hc : k' = 0
    · subst hc; simp
    · rw [if_neg (fun e => by have := e.1; omega), if_neg (fun e => hc e.1)]
theorem update_fail {t : Lx.Bs} {xc : Int} {l : List Px.Nd} {acc : List (Lx.Bs × Px.E)} {kk : Int} {lk : List Px.Nd} (h : WAtZ (fun k => decide (k = 8)) Px.rSet xc l acc kk lk) (hi : isK kk 8 lk = true) (ha : Px.rSet lk = none) : updateR t xc l = none := by
 unfold isK at hi
 simp only [decide_eq_true_eq] at hi
 obtain ⟨h1, h2⟩ := h.fail hi.1 (by simp [hi.2]) ha
 unfold updateR
 rw [if_neg (by omega), h2]
 rfl
theorem blk4 (w : World) (a b c d : Array Value) (ta tb tc td : TypeId) :
   Blk ((((w.alloc (.cells a ta)).alloc (.cells b tb)).alloc (.cells c tc)).alloc (.cells d td)) (w.heap.size + 1) b tb ∧ Blk ((((w.alloc (.cells a ta)).alloc (.cells b tb)).alloc (.cells c tc)).alloc (.cells d td)) (w.heap.size + 1 + 1) c tc ∧ Blk ((((w.alloc (.cells a ta)).alloc (.cells b tb)).alloc (.cells c tc)).alloc (.cells d td)) (w.heap.size + 1 + 1 + 1) d td := by
 obtain ⟨h1, h2, h3⟩ := blk3 w a b c ta tb tc
 refine ⟨h2.alloc _, h3.alloc _, ?_⟩
 have := Blk.new (((w.alloc (.cells a ta)).alloc (.cells b tb)).alloc (.cells c tc)) d td
 simpa using this
theorem below4 (w : World) (a b c d : Obj) : Below w.heap.size w ((((w.alloc a).alloc b).alloc c).alloc d) :=
 (below3 w a b c).alloc (by simp; omega) _
theorem k_update_any (w : World) (B : Nat) (t : Lx.Bs) (xc : Int) (l : List Px.Nd) (h : Wks w B l) (he : EnvW w) (hB : 12 ≤ B) (hx : xc ≤ 9223372036854775807) (hl : l.length ≤ 16777216) :
   Calls Tryz.prog 78 #[.pointer (some ⟨B, 0, none⟩), ndA ⟨7, t, 0, xc⟩] w (WOut w B (partV B 104) (updateR t xc l)) := by
 obtain ⟨i0, hi, hz0, hz1, hz2⟩ := info_parts Tryz.info139
 have HW := hd h
 have HE := hd he
 have hBw := h.lt
 unfold ndA
 simp only
 clear h he
 go_enter Tryz.func78, Tryz.ntmps78
 go_wp2_with fail
 go_loopw [13] (fun _ wr => ∃ (acc : List (Lx.Bs × Px.E)) (lk : List Px.Nd) (v : Value) (kk : Int), Hid (Blk wr (w.heap.size + 1 + 1) #[.string ⟨t.toArray⟩, v, .nilIface] 104) ∧ Hid (Blk wr (w.heap.size + 1) #[.string ⟨#[]⟩, .slice none 0 0, .nilIface] 104) ∧ Hid (Blk wr (w.heap.size + 1 + 1 + 1) #[.int .i64 kk] 3) ∧ kk ≤ xc ∧ Hid (wr.ownsRow (w.heap.size + 4) 139 2 v acc.length (acc.flatMap setC)) ∧ Hid (Wks wr B lk) ∧ Hid (w.grownBy wr (some B)) ∧ Hid (WAtZ (fun k => decide (k = 8)) Px.rSet xc l acc kk lk) ∧ Hid (acc.length + lk.length ≤ l.length)) (fun _ wr => match wr.cell? ⟨w.heap.size + 1 + 1 + 1, 0, none⟩ with | some (.int _ k) => k.toNat | _ => 0)
 case atStart =>
  obtain ⟨hR, hU, hL⟩ := blk4 w #[.int .i64 7, .string ⟨t.toArray⟩, .int .i64 0, .int .i64 xc] #[.string ⟨#[]⟩, .slice none 0 0, .nilIface] #[.string ⟨t.toArray⟩, .slice none 0 0, .nilIface] #[.int .i64 xc] 43 104 104 3
  have hb0 := below4 w (.cells #[.int .i64 7, .string ⟨t.toArray⟩, .int .i64 0, .int .i64 xc] 43) (.cells #[.string ⟨#[]⟩, .slice none 0 0, .nilIface] 104) (.cells #[.string ⟨t.toArray⟩, .slice none 0 0, .nilIface] 104) (.cells #[.int .i64 xc] 3)
  exact ⟨[], l, .slice none 0 0, xc, hU, hR, hL, Int.le_refl _, ⟨by simp, .inl ⟨rfl, rfl⟩⟩, HW.out.below hb0, Below.grownBy hb0, WAtZ.start _ _ _ _, (by show _ ≤ _; simp)⟩
 case round =>
  obtain ⟨acc, lk, v, kk, HC, HZ, HLf, hkx, HO, HWk, HG, HN, HA⟩ := hrel
  have hgk := HG.out.size
  have hCl := HLf.out.lt
  go_wp2_with fail
  refine (k_isKid_any wr B _ lk kk 8 HWk.out HLf.out (by omega) (by omega)).mono ?_
  rintro x w1 ⟨rfl, hg1, hL1⟩
  have hs1 := hg1.size
  have HC1 := hd (blk_keep HC.out hg1 (by omega))
  have HZ1 := hd (blk_keep HZ.out hg1 (by omega))
  have HL1 := hd hL1
  have W1 := hd (HWk.out.away hg1 (by omega))
  have G1 := hd (Gr2.more HG.out (Gr2.snd hg1) (by omega))
  have HO1 := hd (HO.out.kept hg1 (by
   cases hv : v.ownBlock with
   | none => exact .inl rfl
   | some g => right; have := (HO.out.lt g hv).1; simp; omega))
  have HE1 := hd (HE.out.grown G1.out hB)
  have c1 := HC1.out.cell 1
  simp at c1
  have hC1l := HC1.out.lt
  have hL1l := HL1.out.lt
  clear hg1 hL1
  cases hik : isK kk 8 lk with
  | true =>
   have HIK := hd hik
   have HLm : Hid (Blk w1 (w.heap.size + 1 + 1 + 1) #[.int .i64 (kk - 1)] 3) := by have := HL1.out; unfold kidLeft at this; rw [hik] at this; exact this
   have hk0 : 0 < kk ∧ Px.pkN lk = 8 := by unfold isK at hik; simpa using hik
   have HMe : Hid (∃ m, wr.cell? ⟨w.heap.size + 1 + 1 + 1, 0, none⟩ = some (.int m kk)) := ⟨_, by have := HLf.out.cell 0; simpa using this⟩
   have hdr : Below w1.heap.size w1 w1.drew := (Below.refl _ _).drew
   clear hik
   go_wp2_with fail
   go_region_law (first
    | (refine step_append_lies _ rfl _ _ 102 rfl (w.heap.size + 4) 139 i0 (.agg #[.string ⟨#[]⟩, .nilIface]) 2 32 Tryz.underlying102 hi hz0 hz1 hz2 rfl (by decide) v acc.length _ rfl (HO6.out.alloc _) ⟨w6.heap.size, 0, none⟩ 1 1 [.string ⟨nm.toArray⟩, .iface et ex] rfl rfl (two_news w6 (.string ⟨nm.toArray⟩) (.iface et ex) 139) (by intro u hu; simp at hu; rcases hu with rfl | rfl <;> rfl) (by omega) (by unfold maxLen; omega) (by omega) (by simp; omega) _ rfl ?_
       intro g cap w7 hown hgrow hat hltg
       have HO7 := hd hown
       have HC7 := hd (blk_row (HC6.out.alloc _) hgrow (fun o ho => by have := (HO6.out.lt o ho).1; omega))
       have HZ7 := hd (blk_row (HZ6.out.alloc _) hgrow (fun o ho => by have := (HO6.out.lt o ho).1; omega))
       have W7 := hd ((W6.out.below ((Below.refl _ _).alloc (Nat.le_refl _) _)).row hgrow (fun o ho => by have := (HO6.out.lt o ho).1; omega))
       have G7 := hd (grown_row (grownBy_alloc G6.out _) hgrow (fun o ho => by have := (HO6.out.lt o ho).1; omega))
       have HL7 := hd (blk_row (HL6.out.alloc _) hgrow (fun o ho => by have := (HO6.out.lt o ho).1; omega))
       have d1 := HC7.out.cell 1
       simp at d1
       have e1 := HC7.out.free 1
       clear hown hgrow hat)
    | (go_simp
       go_at_call 134
       refine (k_set_any _ B lk (W1.out.below hdr) (HE1.out.below hdr) hB).mono ?_
       rintro x w6 ho
       obtain ⟨g, ⟨p1, rfl⟩ | ⟨⟨nm, e⟩, l6, v6, p1, rfl, hv, hw6⟩⟩ := ho.cases
       · exact ⟨rfl, by rw [update_fail HN.out HIK.out p1]; exact WOut.none (grown_tr G1.out (grown_tr (Below.grownBy hdr) g))⟩
       have hv : v6 = .agg #[.string ⟨nm.toArray⟩, ev e] := hv
       obtain ⟨et, ex, hev⟩ := ev_iface e
       have HEV := hd hev
       rw [hev] at hv
       subst hv
       have hEa := Px.eats_Set _ _ _ p1
       have HN6 := hd (HN.out.step hk0.1 (by simp [hk0.2]) p1)
       have G6 := hd (grown_tr G1.out (grown_tr (Below.grownBy hdr) g))
       have W6 := hd hw6
       have HO6 := hd ((owns_below HO1.out hdr).kept g (by
        cases hv : v.ownBlock with
        | none => exact .inl rfl
        | some o => right; have := (HO1.out.lt o hv).1; simp; omega))
       have HC6 := hd (blk_keep (HC1.out.below hdr HC1.out.lt) g (by omega))
       have HZ6 := hd (blk_keep (HZ1.out.below hdr HZ1.out.lt) g (by omega))
       have HL6 := hd (blk_keep (HLm.out.below hdr HLm.out.lt) g (by omega))
       have hg6 := HL6.out.lt
       have hg6' := HC6.out.lt
       have c1 := HC6.out.cell 1
       simp at c1
       have hA : acc.length + 1 + l6.length ≤ l.length := by have := HA.out; omega
       clear ho g hw6 p1 hev))
   all_goals
    go_wp2_with fail
    go_roundw
    case rel =>
     refine ⟨acc ++ [(nm, e)], l6, _, kk - 1, HC7.out.set 1 _, HZ7.out.far _ _ (by simp), HL7.out.far _ _ (by simp), by omega, ?_, W7.out.far ⟨w.heap.size + 1 + 1, 1, none⟩ (show B < w.heap.size + 1 + 1 by omega) _, grown_at G7.out (by omega), HN6, (by show _ ≤ _; simp only [List.length_append, List.length_singleton]; omega)⟩
     show World.ownsRow _ _ _ _ _ _ _
     rw [List.length_append, List.length_singleton, flat_snoc]
     simp only [setC]
     rw [HEV.out]
     exact own_away HO7.out (by omega)
    case measure =>
     obtain ⟨m, hm⟩ := HMe.out
     have hn := (HL7.out.far (⟨w.heap.size + 1 + 1, 1, none⟩ : Addr) (.slice (some ⟨g, 0, none⟩) (acc.length + 1) cap) (by simp)).cell 0
     rw [hm, hn]
     simp
     omega
  | false =>
   have HIK := hd hik
   have HLm : Hid (Blk w1 (w.heap.size + 1 + 1 + 1) #[.int .i64 kk] 3) := by have := HL1.out; unfold kidLeft at this; rw [hik] at this; exact this
   have HR := hd (update_end (t := t) HN.out hik)
   clear hik
   go_wp2_with fail
   refine (k_where_any w1 B _ lk kk W1.out HE1.out hB HLm.out (by omega) (by omega)).mono ?_
   rintro x w2 ho
   obtain ⟨g, ⟨p1, rfl⟩ | ⟨o, k', l', p1, rfl, hL2, hw2⟩⟩ := ho.cases
   · exact ⟨rfl, by rw [HR.out, p1]; exact WOut.none (g.more G1.out (by omega))⟩
   have HP1 := hd p1
   have G2 := hd (g.more G1.out (by omega))
   have W2 := hd hw2
   have HC2 := hd (g.blk HC1.out (by omega) (by omega))
   have HZ2 := hd (g.blk HZ1.out (by omega) (by omega))
   have HO2 := hd (g.own HO1.out (fun q hq => by have := (HO1.out.lt q hq).1; omega))
   have HL2 := hd hL2
   have l0 := hL2.cell 0
   simp at l0
   have c0 := HC2.out.cell 0
   have c1 := HC2.out.cell 1
   have c2 := HC2.out.cell 2
   simp at c0 c1 c2
   have f2 := HC2.out.free 2
   have z0 := HZ2.out.cell 0
   have z1 := HZ2.out.cell 1
   have z2 := HZ2.out.cell 2
   simp at z0 z1 z2
   have y0 := HZ2.out.free 0
   have y1 := HZ2.out.free 1
   have y2 := HZ2.out.free 2
   have hC2l := HC2.out.lt
   have hZ2l := HZ2.out.lt
   have hL2l := hL2.lt
   have hv1 := ev?_one o
   obtain ⟨vo, hvo⟩ : ∃ vo, vo = ev? o := ⟨_, rfl⟩
   rw [← hvo] at hv1 ⊢
   have HVO := hd hvo
   obtain ⟨ao, nn, cp, rfl⟩ := own_slice HO2.out
   have HNN : Hid (nn = acc.length) := by
    show _ = _
    rcases HO2.out.2 with ⟨e1, e2⟩ | ⟨g', cap', cur', e1, _⟩
    · cases e1; omega
    · cases e1; rfl
   clear g ho p1 hw2 hL2 hvo HG HWk HO HC HZ HLf
   have hcase : k' ≠ 0 ∨ (k' = 0 ∧ nn = 0) ∨ (k' = 0 ∧ 0 < nn) := by omega
   rcases hv1 with rfl | ⟨et, ex, rfl⟩
   · rcases hcase with hc | ⟨rfl, hc⟩ | ⟨rfl, hc⟩
     · have HRR : Hid (updateR t xc l = none) := by show _ = _; rw [HR.out, HP1.out]; simp [hc]
       have hc' : (k' == 0) = false := beq_eq_false_iff_ne.2 hc
       go_wp2_with fail
       refine (k_must_false _ B).mono ?_
       rintro y w5 ⟨rfl, hb5⟩
       exact ⟨rfl, by rw [HRR.out]; exact WOut.none (grown_tr (grown_at G2.out (by omega)) (Below.grownBy hb5))⟩
     · have HRR : Hid (updateR t xc l = none) := by
        show _ = _
        rw [HR.out, HP1.out]
        have : acc = [] := List.length_eq_zero_iff.1 (by have := HNN.out; omega)
        simp [this]
       subst hc
       go_wp2_with fail
       refine (k_must_false _ B).mono ?_
       rintro y w5 ⟨rfl, hb5⟩
       exact ⟨rfl, by rw [HRR.out]; exact WOut.none (grown_tr (grown_at G2.out (by omega)) (Below.grownBy hb5))⟩
     · have HRR : Hid (updateR t xc l = some (.update t acc o, l')) := by
        show _ = _
        rw [HR.out, HP1.out]
        have : acc ≠ [] := fun e => by have := HNN.out; rw [e] at this; simp at this; omega
        simp [this]
       have hc' : (0 : Int) < (nn : Int) := by omega
       go_wp2_with fail
       refine (k_must_true _ B).mono ?_
       rintro y w5 ⟨rfl, h0⟩
       rw [h0]
       clear h0 w5
       go_wp2_with fail
       have HZ3 := HZ2.out.far (⟨w.heap.size + 1 + 1, 2, none⟩ : Addr) .nilIface (by simp)
       have KF := ((HZ3.set 0 (.string ⟨t.toArray⟩)).set 1 (.slice ao nn cp)).set 2 .nilIface
       have r0 := KF.cell 0
       have r1 := KF.cell 1
       have r2 := KF.cell 2
       simp at r0 r1 r2
       refine bodyPost_ret (v := .agg #[.string ⟨t.toArray⟩, .slice ao nn cp, .nilIface]) (by simp [results, Tryz.results78, go_sem, r0, r1, r2]) rfl ?_
       rw [HRR.out]
       refine WOut.some (grown_at (grown_at (grown_at (grown_at G2.out (by omega)) (by omega)) (by omega)) (by omega)) ?_ ((((W2.out.far ⟨w.heap.size + 1 + 1, 2, none⟩ (show B < w.heap.size + 1 + 1 by omega) _).far ⟨w.heap.size + 1, 0, none⟩ (show B < w.heap.size + 1 by omega) _).far ⟨w.heap.size + 1, 1, none⟩ (show B < w.heap.size + 1 by omega) _).far ⟨w.heap.size + 1, 2, none⟩ (show B < w.heap.size + 1 by omega) _)
       refine ⟨_, ?_, ownBase (own_away (own_away (own_away (own_away HO2.out (by omega)) (by omega)) (by omega)) (by omega)) (by omega)⟩
       rw [← HVO.out]
   · rcases hcase with hc | ⟨rfl, hc⟩ | ⟨rfl, hc⟩
     · have HRR : Hid (updateR t xc l = none) := by show _ = _; rw [HR.out, HP1.out]; simp [hc]
       have hc' : (k' == 0) = false := beq_eq_false_iff_ne.2 hc
       go_wp2_with fail
       refine (k_must_false _ B).mono ?_
       rintro y w5 ⟨rfl, hb5⟩
       exact ⟨rfl, by rw [HRR.out]; exact WOut.none (grown_tr (grown_at G2.out (by omega)) (Below.grownBy hb5))⟩
     · have HRR : Hid (updateR t xc l = none) := by
        show _ = _
        rw [HR.out, HP1.out]
        have : acc = [] := List.length_eq_zero_iff.1 (by have := HNN.out; omega)
        simp [this]
       subst hc
       go_wp2_with fail
       refine (k_must_false _ B).mono ?_
       rintro y w5 ⟨rfl, hb5⟩
       exact ⟨rfl, by rw [HRR.out]; exact WOut.none (grown_tr (grown_at G2.out (by omega)) (Below.grownBy hb5))⟩
     · have HRR : Hid (updateR t xc l = some (.update t acc o, l')) := by
        show _ = _
        rw [HR.out, HP1.out]
        have : acc ≠ [] := fun e => by have := HNN.out; rw [e] at this; simp at this; omega
        simp [this]
       have hc' : (0 : Int) < (nn : Int) := by omega
       go_wp2_with fail
       refine (k_must_true _ B).mono ?_
       rintro y w5 ⟨rfl, h0⟩
       rw [h0]
       clear h0 w5
       go_wp2_with fail
       have HZ3 := HZ2.out.far (⟨w.heap.size + 1 + 1, 2, none⟩ : Addr) (.iface et ex) (by simp)
       have KF := ((HZ3.set 0 (.string ⟨t.toArray⟩)).set 1 (.slice ao nn cp)).set 2 (.iface et ex)
       have r0 := KF.cell 0
       have r1 := KF.cell 1
       have r2 := KF.cell 2
       simp at r0 r1 r2
       refine bodyPost_ret (v := .agg #[.string ⟨t.toArray⟩, .slice ao nn cp, (.iface et ex)]) (by simp [results, Tryz.results78, go_sem, r0, r1, r2]) rfl ?_
       rw [HRR.out]
       refine WOut.some (grown_at (grown_at (grown_at (grown_at G2.out (by omega)) (by omega)) (by omega)) (by omega)) ?_ ((((W2.out.far ⟨w.heap.size + 1 + 1, 2, none⟩ (show B < w.heap.size + 1 + 1 by omega) _).far ⟨w.heap.size + 1, 0, none⟩ (show B < w.heap.size + 1 by omega) _).far ⟨w.heap.size + 1, 1, none⟩ (show B < w.heap.size + 1 by omega) _).far ⟨w.heap.size + 1, 2, none⟩ (show B < w.heap.size + 1 by omega) _)
       refine ⟨_, ?_, ownBase (own_away (own_away (own_away (own_away HO2.out (by omega)) (by omega)) (by omega)) (by omega)) (by omega)⟩
       rw [← HVO.out]
def selectR (t : Lx.Bs) (xc : Int) (l : List Px.Nd) : Option (Px.St × List Px.Nd) :=
 if xc < 0 then none else (Px.rW (fun k => !Px.isTail k) Px.rItem xc.toNat l).bind fun y => (Px.rWhere y.2.1 y.2.2).bind fun z => (Px.rW (fun k => decide (k = 12)) Px.rOrder z.2.1 z.2.2).bind fun o =>
  (Px.rLim o.2.1 o.2.2).bind fun u => if u.2.1 = 0 ∧ y.1 ≠ [] then some (.select y.1 t z.1 o.1 u.1, u.2.2) else none
def rLz (k : Int) (l : List Px.Nd) : Option (Option Nat × Int × List Px.Nd) := if isK k 13 l = true then (rLimit l).map fun y => (some y.1, k - 1, y.2) else some (none, k, l)
def sel4 (t : Lx.Bs) (acc : List (Option Px.E)) (wh : Option Px.E) (os : List (Px.E × Bool)) (k : Int) (l : List Px.Nd) : Option (Px.St × List Px.Nd) :=
 (rLz k l).bind fun u => if u.2.1 = 0 ∧ acc ≠ [] then some (.select acc t wh os u.1, u.2.2) else none
def sel3 (t : Lx.Bs) (acc : List (Option Px.E)) (wh : Option Px.E) (k : Int) (l : List Px.Nd) : Option (Px.St × List Px.Nd) :=
 if k < 0 then none else (Px.rW (fun k => decide (k = 12)) Px.rOrder k.toNat l).bind fun o => (Px.rLim o.2.1 o.2.2).bind fun u => if u.2.1 = 0 ∧ acc ≠ [] then some (.select acc t wh o.1 u.1, u.2.2) else none
def sel2 (t : Lx.Bs) (acc : List (Option Px.E)) (k : Int) (l : List Px.Nd) : Option (Px.St × List Px.Nd) := (rWh k l).bind fun z => sel3 t acc z.1 z.2.1 z.2.2
theorem sel1_fail {t : Lx.Bs} {xc : Int} {l : List Px.Nd} {acc : List (Option Px.E)} {kk : Int} {lk : List Px.Nd} (h : WAtZ (fun k => !Px.isTail k) Px.rItem xc l acc kk lk) (hk : 0 < kk) (hi : Px.isTail (Px.pkN lk) = false) (ha : Px.rItem lk = none) : selectR t xc l = none := by
 obtain ⟨h1, h2⟩ := h.fail hk (by simp [hi]) ha
 unfold selectR
 rw [if_neg (by omega), h2]
 rfl
theorem sel1_end {t : Lx.Bs} {xc : Int} {l : List Px.Nd} {acc : List (Option Px.E)} {kk : Int} {lk : List Px.Nd} (h : WAtZ (fun k => !Px.isTail k) Px.rItem xc l acc kk lk) (hi : ¬ (0 < kk ∧ Px.isTail (Px.pkN lk) = false)) : selectR t xc l = sel2 t acc kk lk := by
 unfold selectR sel2
 rcases h.done (fun e => hi ⟨e.1, by simpa using e.2⟩) with ⟨h1, h2⟩ | ⟨h1, h2, h3⟩
 · rw [if_pos h1, rWh_neg kk lk h2]
   simp only [Option.bind_some, sel3]
   rw [if_pos h2]
 · rw [if_neg (by omega), h3]
   simp only [Option.bind_some]
   obtain ⟨m, rfl⟩ : ∃ m : Nat, kk = (m : Int) := ⟨kk.toNat, by omega⟩
   rw [Int.toNat_natCast, rWh_nat m lk]
   cases hr : rWh (m : Int) lk with
   | none => rfl
   | some z =>
    obtain ⟨o, k', l'⟩ := z
    have := rWh_pos m lk o k' l' hr
    simp only [Option.map_some, Option.bind_some, sel3]
    rw [if_neg (by omega)]
theorem sel3_fail {t : Lx.Bs} {items : List (Option Px.E)} {wh : Option Px.E} {xc : Int} {l : List Px.Nd} {acc : List (Px.E × Bool)} {kk : Int} {lk : List Px.Nd} (h : WAtZ (fun k => decide (k = 12)) Px.rOrder xc l acc kk lk) (hi : isK kk 12 lk = true) (ha : Px.rOrder lk = none) : sel3 t items wh xc l = none := by
 unfold isK at hi
 simp only [decide_eq_true_eq] at hi
 obtain ⟨h1, h2⟩ := h.fail hi.1 (by simp [hi.2]) ha
 unfold sel3
 rw [if_neg (by omega), h2]
 rfl
theorem rLz_neg (k : Int) (l : List Px.Nd) (h : k < 0) : rLz k l = some (none, k, l) := by
 unfold rLz
 rw [if_neg (by simp [isK]; omega)]
theorem rLim_nat (m : Nat) (l : List Px.Nd) : Px.rLim m l = (rLz (m : Int) l).map fun z => (z.1, z.2.1.toNat, z.2.2) := by
 unfold Px.rLim rLz
 by_cases h : m ≠ 0 ∧ Px.pkN l = 13
 · rw [if_pos h, if_pos ((isK_nat m 13 l).2 h)]
   cases l with
   | nil => rfl
   | cons x r =>
    simp only [rLimit]
    split
    · simp only [Option.map_some]
      rw [show ((m : Int) - 1).toNat = m - 1 by omega]
    · rfl
 · rw [if_neg h, if_neg (fun e => h ((isK_nat m 13 l).1 e))]
   simp
theorem rLz_pos (m : Nat) (l : List Px.Nd) (o : Option Nat) (k' : Int) (l' : List Px.Nd) (h : rLz (m : Int) l = some (o, k', l')) : 0 ≤ k' := by
 unfold rLz at h
 split at h
 · rename_i hi
   have := (isK_nat m 13 l).1 hi
   simp only [Option.map_eq_some_iff] at h
   obtain ⟨y, _, h2⟩ := h
   cases h2
   omega
 · cases h
   omega
theorem sel3_end {t : Lx.Bs} {items : List (Option Px.E)} {wh : Option Px.E} {xc : Int} {l : List Px.Nd} {acc : List (Px.E × Bool)} {kk : Int} {lk : List Px.Nd} (h : WAtZ (fun k => decide (k = 12)) Px.rOrder xc l acc kk lk) (hi : isK kk 12 lk = false) : sel3 t items wh xc l = sel4 t items wh acc kk lk := by
 have hi' : ¬ (0 < kk ∧ decide (Px.pkN lk = 12) = true) := by
  intro e
  unfold isK at hi
  simp only [decide_eq_false_iff_not, decide_eq_true_eq] at hi e
  exact hi e
 unfold sel3 sel4
 rcases h.done hi' with ⟨h1, h2⟩ | ⟨h1, h2, h3⟩
 · rw [if_pos h1, rLz_neg kk lk h2]
   simp only [Option.bind_some]
   rw [if_neg (fun e => by have := e.1; omega)]
 · rw [if_neg (by omega), h3]
   simp only [Option.bind_some]
   obtain ⟨m, rfl⟩ : ∃ m : Nat, kk = (m : Int) := ⟨kk.toNat, by omega⟩
   rw [Int.toNat_natCast, rLim_nat m lk]
   cases hr : rLz (m : Int) lk with
   | none => rfl
   | some z =>
    obtain ⟨o, k', l'⟩ := z
    have := rLz_pos m lk o k' l' hr
    simp only [Option.map_some, Option.bind_some]
    by_cases hc : k' = 0
    · subst hc; simp
    · rw [if_neg (fun e => by have := e.1; omega), if_neg (fun e => hc e.1)]
theorem k_isTail_any (k : Int) (w : World) : Calls Tryz.prog 135 #[.int .i64 k] w fun x w' => x = .returned (.bool (Px.isTail k)) ∧ w' = w := by
 go_enter Tryz.func135, Tryz.ntmps135
 go_wp2
 all_goals
  go_ret
  refine ⟨ret_bool ?_, rfl⟩
  rw [Bool.eq_iff_iff]; simp [Px.isTail]; try omega
theorem info_item : (Tryz.prog.info? 141).map (fun i => (i.zero, i.size, i.bytes)) = some (some (.agg #[.bool false, .nilIface]), 2, 24) := by kernel_rfl
theorem info_order : (Tryz.prog.info? 143).map (fun i => (i.zero, i.size, i.bytes)) = some (some (.agg #[.nilIface, .bool false]), 2, 24) := by kernel_rfl
end Go.Proofs.YtkcakbgcfnhgaaaGreatDoor
