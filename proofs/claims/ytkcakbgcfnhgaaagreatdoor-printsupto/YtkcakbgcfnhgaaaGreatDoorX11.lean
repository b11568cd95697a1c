/- Parts of the proof: Vb Th Ti Tj Tk Tl Tm Tn -/
import Derived.Test.YtkcakbgcfnhgaaaGreatDoorX9
import Derived.Test.YtkcakbgcfnhgaaaGreatDoorX10
import Derived.Test.YtkcakbgcfnhgaaaGreatDoorX8
namespace Go.Proofs.YtkcakbgcfnhgaaaGreatDoor
set_option linter.unusedSimpArgs false
set_option linter.unusedVariables false
set_option maxRecDepth 100000
set_option maxHeartbeats 16000000
open Go.RowKit
namespace Rf
theorem partText_col (ao : Option Addr) (cap : Nat) (L : List Px.Nd) (hL : L.length ≤ 16777216) (s : Lx.Bs) (k : Nat) (hs : Px.isName s = true) (hk : 1 ≤ k ∧ k ≤ 7 ∧ k ≠ 4) (p : Nat) (r : List Px.Nd) (w : World) (hdr : L.drop p = ⟨2, s, (k : Int), 0⟩ :: r) (hN : NdL w ao L) :
   Calls Tryz.prog 61 #[.slice ao L.length cap, .int .i64 (p : Int)] w (TxOut w (Px.nameT s ++ [32] ++ Px.typeB k ++ (if 4 < k then [32] ++ Px.kNOT ++ [32] ++ Px.kNULL else []))) := by
 have hk' : k = 1 ∨ k = 2 ∨ k = 3 ∨ k = 5 ∨ k = 6 ∨ k = 7 := by omega
 have e4 : (if 4 < k then [32] ++ Px.kNOT ++ [32] ++ Px.kNULL else []) = (if 4 < (k : Int) then [32, 78, 79, 84, 32, 78, 85, 76, 76] else []) := by
  by_cases h : 4 < k
  · rw [if_pos h, if_pos (by omega)]; rfl
  · rw [if_neg h, if_neg (by omega)]
 rw [e4]
 clear e4
 rcases hk' with rfl | rfl | rfl | rfl | rfl | rfl
 · exact partText_colz ao cap L hL s hs _ 1 (by omega) (by decide) ⟨#[73, 78, 84, 69, 71, 69, 82]⟩ rfl (by decide) p r w hdr hN
 · exact partText_colz ao cap L hL s hs _ 2 (by omega) (by decide) ⟨#[84, 69, 88, 84]⟩ rfl (by decide) p r w hdr hN
 · exact partText_colz ao cap L hL s hs _ 3 (by omega) (by decide) ⟨#[66, 79, 79, 76, 69, 65, 78]⟩ rfl (by decide) p r w hdr hN
 · exact partText_colz ao cap L hL s hs _ 1 (by omega) (by decide) ⟨#[73, 78, 84, 69, 71, 69, 82]⟩ rfl (by decide) p r w hdr hN
 · exact partText_colz ao cap L hL s hs _ 2 (by omega) (by decide) ⟨#[84, 69, 88, 84]⟩ rfl (by decide) p r w hdr hN
 · exact partText_colz ao cap L hL s hs _ 3 (by omega) (by decide) ⟨#[66, 79, 79, 76, 69, 65, 78]⟩ rfl (by decide) p r w hdr hN
theorem partText_any (ao : Option Addr) (cap : Nat) (L : List Px.Nd) (hL : L.length ≤ 16777216) (hwid : Px.wid L ≤ 100000000) {N : Nat} (pt : Px.Part) (hp : pt.wf N) (p : Nat) (r : List Px.Nd) (w : World) (hdr : L.drop p = pt.nodes ++ r) (hN : NdL w ao L) :
   Calls Tryz.prog 61 #[.slice ao L.length cap, .int .i64 (p : Int)] w (TxOut w pt.tx) := by
 cases pt with
 | col c => exact partText_col ao cap L hL c.1 c.2 hp.1 hp.2 p r w hdr hN
 | row a => exact partText_row ao cap L hL hwid a hp.2 p r w hdr hN
 | set x => exact partText_set ao cap L hL hwid x.1 x.2 hp.1 hp.2 p r w hdr hN
 | star => exact partText_star ao cap L hL p r w hdr hN
 | ex e => exact partText_ex ao cap L hL hwid e hp p r w hdr hN
 | whr e => exact partText_whr ao cap L hL hwid e hp p r w hdr hN
 | ord e b => exact partText_ord ao cap L hL hwid e b hp p r w hdr hN
 | lim n => exact partText_lim ao cap L hL n hp p r w hdr hN
theorem text_any (ao : Option Addr) (cap : Nat) (L : List Px.Nd) (hL : L.length ≤ 16777216) (hwid : Px.wid L ≤ 100000000) {N : Nat} (s : Px.St) (hs : Px.Wf N s) (hLs : s.nodes = L) (w : World) (hN : NdL w ao L) :
   Calls Tryz.prog 37 #[.slice ao L.length cap] w (TxOut w (Px.text L)) :=
 text_of ao cap L hL hwid s hs hLs (fun pt hp p r w hdr hN => partText_any ao cap L hL hwid pt hp p r w hdr hN) w hN
end Rf
namespace Px
def wk (f : Nat) (l : List Nd) : Nat → Option (List Nd)
 | 0 => some l
 | k + 1 => (wk f l k).bind (wex f)
theorem wk_left (f : Nat) (l : List Nd) : ∀ k, wk f l (k + 1) = (wex f l).bind fun q => wk f q k
 | 0 => by simp only [wk, Option.bind_some]; cases wex f l <;> rfl
 | k + 1 => by
  have ih := wk_left f l k
  rw [wk, ih]
  cases wex f l with
  | none => rfl
  | some q => rfl
theorem wk_none {f : Nat} {l : List Nd} {k m : Nat} (h : wk f l k = none) (hm : k ≤ m) : wk f l m = none := by
 induction m with
 | zero => rw [show k = 0 by omega] at h; exact h
 | succ m ih =>
  rcases Nat.lt_or_ge m k with h1 | h1
  · rw [show m + 1 = k by omega]; exact h
  · rw [wk, ih h1]; rfl
theorem wexs_wk : ∀ (k : Nat) (l : List Nd), wexs k l = wk 40 l k
 | 0, l => rfl
 | k + 1, l => by
  rw [wk_left, wexs]
  cases wex 40 l with
  | none => rfl
  | some q => exact wexs_wk k q
theorem bare_kids {x : Nd} {k : Int} (h : bareN x k = true) : x.kids = k := by
 simp [bareN] at h; exact h.2
theorem ok_kids {x : Nd} {r : List Nd} (h : nodeOk x r = true) : x.kids = 0 ∨ x.kids = 1 ∨ x.kids = 2 := by
 unfold nodeOk at h
 repeat' split at h
 all_goals try simp only [Bool.and_eq_true, decide_eq_true_eq] at h
 · exact .inl (bare_kids h)
 · exact .inl h.2
 · exact .inl h.2
 · exact .inl h.2
 · exact .inl h.2
 · exact .inr (.inl (bare_kids h.1))
 · exact .inr (.inl (bare_kids h.1))
 · exact .inr (.inl (bare_kids h))
 · exact .inr (.inr (bare_kids h.2))
theorem wex_yes {x : Nd} {r : List Nd} (f : Nat) (h : nodeOk x r = true) : wex (f + 1) (x :: r) = wk f r x.kids.toNat := by
 simp only [wex]
 rw [if_pos h]
 rcases ok_kids h with e | e | e
 · rw [if_pos e, e]; rfl
 · rw [if_neg (by omega), if_pos e, e]; simp [wk]
 · rw [if_neg (by omega), if_neg (by omega), e]; simp [wk]
theorem wex_no {x : Nd} {r : List Nd} (f : Nat) (h : nodeOk x r = false) : wex (f + 1) (x :: r) = none := by
 simp only [wex]
 rw [h]; rfl
def notNum : List Nd → Bool
 | [] => true
 | y :: _ => decide (y.kind ≠ 16)
theorem ok_neg (xt : Lx.Bs) (xn xc : Int) (r : List Nd) : nodeOk ⟨19, xt, xn, xc⟩ r = (bareN ⟨19, xt, xn, xc⟩ 1 && notNum r) := by
 unfold nodeOk notNum
 simp only [show ¬ ((19 : Int) = 14) by decide, show ¬ ((19 : Int) = 15) by decide, show ¬ ((19 : Int) = 16) by decide, show ¬ ((19 : Int) = 17) by decide, show ¬ ((19 : Int) = 18) by decide, if_false, if_true]
 cases r <;> rfl
def posZ (L : List Nd) : Option (List Nd) → Int
 | none => -1
 | some r => (L.length : Int) - (r.length : Int)
def Suf (L : List Nd) (o : Option (List Nd)) : Prop := ∀ r, o = some r → ∃ p, p ≤ L.length ∧ r = L.drop p
theorem posZ_at (L : List Nd) (p : Nat) (h : p ≤ L.length) : posZ L (some (L.drop p)) = (p : Int) := by
 show (L.length : Int) - ((L.drop p).length : Int) = p
 rw [List.length_drop]; omega
theorem Suf.at (L : List Nd) (p : Nat) (h : p ≤ L.length) : Suf L (some (L.drop p)) := fun _ e => ⟨p, h, (Option.some.inj e).symm⟩
theorem Suf.none (L : List Nd) : Suf L none := fun _ e => by cases e
theorem Suf.cases {L : List Nd} {o : Option (List Nd)} (h : Suf L o) : o = .none ∨ ∃ p, p ≤ L.length ∧ o = some (L.drop p) := by
 cases o with
 | none => exact .inl rfl
 | some r => obtain ⟨p, h1, h2⟩ := h r rfl; exact .inr ⟨p, h1, by rw [h2]⟩
theorem wex_suf (L : List Nd) : ∀ (f p : Nat), Suf L (wex f (L.drop p))
 | 0, p => Suf.none L
 | f + 1, p => by
  intro q hq
  rcases Nat.lt_or_ge p L.length with hp | hp
  · rw [List.drop_eq_getElem_cons hp] at hq
    cases hok : nodeOk L[p] (L.drop (p + 1)) with
    | false => rw [wex_no f hok] at hq; cases hq
    | true =>
     rw [wex_yes f hok] at hq
     have key : ∀ k, Suf L (wk f (L.drop (p + 1)) k) := by
      intro k
      induction k with
      | zero => exact Suf.at L (p + 1) hp
      | succ k ih =>
       rcases ih.cases with e | ⟨p', hp', e⟩
       · rw [wk, e]; exact Suf.none L
       · rw [wk, e]; exact wex_suf L f p'
     exact key _ q hq
  · rw [List.drop_eq_nil_of_le hp] at hq; cases hq
theorem wk_suf (L : List Nd) (f p : Nat) (hp : p ≤ L.length) : ∀ k, Suf L (wk f (L.drop p) k) := by
 intro k
 induction k with
 | zero => exact Suf.at L p hp
 | succ k ih =>
  rcases ih.cases with e | ⟨p', hp', e⟩
  · rw [wk, e]; exact Suf.none L
  · rw [wk, e]; exact wex_suf L f p'
end Px
namespace Rf
def ExprAt (ao : Option Addr) (cap : Nat) (L : List Px.Nd) (f : Nat) : Prop := ∀ (o : Option (List Px.Nd)) (w : World) (d : Nat), Px.Suf L o → d + f = 41 → NdL w ao L →
   Calls Tryz.prog 100 #[.slice ao L.length cap, .int .i64 (Px.posZ L o), .int .i64 (d : Int)] w fun x w' => x = .returned (.int .i64 (Px.posZ L (o.bind (Px.wex f)))) ∧ Below w.heap.size w w'
def ExprGoal (ao : Option Addr) (cap : Nat) (L : List Px.Nd) (f d p : Nat) (x : Px.Nd) (r : List Px.Nd) (w : World) : Prop :=
   Calls Tryz.prog 100 #[.slice ao L.length cap, .int .i64 (p : Int), .int .i64 (d : Int)] w fun y w' => y = .returned (.int .i64 (Px.posZ L (Px.wex (f + 1) (x :: r)))) ∧ Below w.heap.size w w'
theorem expr_no (ao : Option Addr) (cap : Nat) (L : List Px.Nd) (hL : L.length ≤ 16777216) (p : Int) (d : Nat) (hp : -1 ≤ p ∧ p ≤ L.length) (hd1 : d ≤ 41) (h : p < 0 ∨ p = L.length ∨ d = 41) (w : World) :
   Calls Tryz.prog 100 #[.slice ao L.length cap, .int .i64 p, .int .i64 (d : Int)] w fun x w' => x = .returned (.int .i64 (-1)) ∧ Below w.heap.size w w' := by
 rcases Int.lt_or_le p 0 with h0 | h0
 · go_enter Tryz.func100, Tryz.ntmps100
   go_wp2_with fail
   go_ret
   exact ⟨rfl, Below.refl _ _⟩
 · by_cases h1 : p = L.length
   · subst h1
     go_enter Tryz.func100, Tryz.ntmps100
     go_wp2_with fail
     go_ret
     exact ⟨rfl, Below.refl _ _⟩
   · have h2 : d = 41 := by omega
     subst h2
     have h3 : p < L.length := by omega
     go_enter Tryz.func100, Tryz.ntmps100
     go_wp2_with fail
     go_ret
     exact ⟨rfl, Below.refl _ _⟩
end Rf
namespace Rf
theorem expr_14 (ao : Option Addr) (cap : Nat) (L : List Px.Nd) (hL : L.length ≤ 16777216) (hT : ∀ x ∈ L, x.text.length ≤ 1000000000) (f : Nat) (ih : ExprAt ao cap L f) (d p : Nat) (hd1 : d + (f + 1) = 41) (xt : Lx.Bs) (xn xc : Int) (r : List Px.Nd) (w : World) (hdr : L.drop p = ⟨14, xt, xn, xc⟩ :: r) (hN : NdL w ao L) :
   ExprGoal ao cap L f d p ⟨14, xt, xn, xc⟩ r w := by
 unfold ExprGoal
 obtain ⟨hp, g, off, rfl, hg, c0, c1, c2, c3⟩ := hN.head hdr
 simp only at c0 c1 c2 c3
 have hdr1 : L.drop (p + 1) = r := by rw [← List.drop_drop, hdr]; rfl
 have hx1 : xt.length ≤ 1000000000 := hT ⟨14, xt, xn, xc⟩ (List.mem_of_mem_drop (by rw [hdr]; exact List.mem_cons_self))
 have hts : (⟨xt.toArray⟩ : ByteArray).size = xt.length := by show xt.toArray.size = _; simp
 have hd2 : d ≤ 40 := by omega
 have HNO : Hid (Px.nodeOk ⟨14, xt, xn, xc⟩ r = false → Px.posZ L (Px.wex (f + 1) (⟨14, xt, xn, xc⟩ :: r)) = -1) := fun h => by rw [Px.wex_no f h]; rfl
 have HYES : Hid (Px.nodeOk ⟨14, xt, xn, xc⟩ r = true → Px.wex (f + 1) (⟨14, xt, xn, xc⟩ :: r) = Px.wk f r xc.toNat ∧ (xc = 0 ∨ xc = 1 ∨ xc = 2)) := fun h => ⟨Px.wex_yes f h, Px.ok_kids h⟩
 have HP1 : Hid (∀ k, Px.Suf L (Px.wk f r k)) := fun k => by rw [← hdr1]; exact Px.wk_suf L f (p + 1) (by omega) k
 have HZ : Hid (Px.posZ L (some r) = ((p : Int) + 1)) := by show _ = _; rw [← hdr1, Px.posZ_at L (p + 1) (by omega)]; omega
 have HDR := hd hdr1
 have HN := hd hN
 have HIH := hd ih
 have HD := hd hd1
 clear hN ih hdr hdr1 hd1 hT
 have hB0 : Below w.heap.size w (w.alloc (.cells #[.int .i64 14, .string ⟨xt.toArray⟩, .int .i64 xn, .int .i64 xc] 43)) := by go_grown
 have HB0 := hd hB0
 have HK0 := hd (Blk.new w #[.int .i64 14, .string ⟨xt.toArray⟩, .int .i64 xn, .int .i64 xc] 43)
 have hs0 := hB0.size
 have hl0 := HK0.out.lt
 clear hB0
 have z1 : (0 : Int) ≤ (p : Int) := by omega
 have z4 : decide ((L.length : Int) ≤ (p : Int)) = false := decide_eq_false (by omega)
 have z5 : decide ((p : Int) < 0) = false := decide_eq_false (by omega)
 have z6 : decide (L.length ≤ p) = false := decide_eq_false (by omega)
 have z7 : (L.length ≤ p) = False := eq_false (by omega)
 have z8 : decide (40 < (d : Int)) = false := decide_eq_false (by omega)
 have z9 : decide (40 < d) = false := decide_eq_false (by omega)
 have hpn : p < 16777216 := by omega
 have HOK : Hid (Px.nodeOk ⟨14, xt, xn, xc⟩ r = Px.bareN ⟨14, xt, xn, xc⟩ 0) := by show _ = _; simp [Px.nodeOk]
 go_enter Tryz.func100, Tryz.ntmps100
 go_wp2_with fail
 refine (bare_any ⟨14, xt, xn, xc⟩ 0 _).mono ?_
 rintro e w1 ⟨rfl, hb⟩
 have HB1 : Hid (Below w.heap.size w w1) := HB0.out.trans (hb.mono hs0)
 have HK1 := hd (HK0.out.below hb hl0)
 clear hb HB0 HK0 hs0 hl0
 cases hbv : Px.bareN ⟨14, xt, xn, xc⟩ 0
 · rw [hbv] at HOK
   clear hbv
   go_wp2_with fail
   go_ret
   exact ⟨ret_int (by rw [HNO.out HOK.out]), HB1.out⟩
 · rw [hbv] at HOK
   clear hbv
   go_wp2_with fail
   obtain ⟨HWK, hkx⟩ := HYES.out HOK.out
   obtain ⟨K, rfl⟩ : ∃ K : Nat, xc = (K : Int) := ⟨xc.toNat, by omega⟩
   have HWK2 : Hid (Px.wex (f + 1) (⟨14, xt, xn, (K : Int)⟩ :: r) = Px.wk f r K) := by show _ = _; rw [HWK, Int.toNat_natCast]
   have hK2 : K ≤ 2 := by omega
   have hl1 := HK1.out.lt
   clear HWK hkx HNO HYES HOK
   go_loopw [1, 11] (fun at' i wr => ∃ k : Nat, k ≤ K ∧ i = .int .i64 k ∧ at' = .int .i64 (Px.posZ L (Px.wk f r k)) ∧ Hid (Below w1.heap.size w1 wr)) (fun _ i _ => K - (intOf i).toNat)
   case atStart => exact ⟨0, by omega, rfl, by rw [show Px.wk f r 0 = some r from rfl, HZ.out], Below.refl _ _⟩
   case round =>
    obtain ⟨k, hk, rfl, rfl, HW⟩ := hrel
    have K3 := HK1.out.below HW.out HK1.out.lt
    have b3 := K3.cell 3
    simp at b3
    have hl3 := K3.lt
    clear K3
    by_cases hlt : k < K
    · have hC := HIH.out (Px.wk f r k) wr (d + 1) (HP1.out k) (by have := HD.out; omega) (HN.out.below (HB1.out.trans (HW.out.mono HB1.out.size)))
      rw [show (Px.wk f r k).bind (Px.wex f) = Px.wk f r (k + 1) from rfl] at hC
      have HC := hd hC
      clear hC
      go_wp2_with fail
      refine HC.out.mono ?_
      rintro e w2 ⟨rfl, hb⟩
      have HW1 : Hid (Below w1.heap.size w1 w2) := HW.out.trans (hb.mono HW.out.size)
      clear hb
      go_wp2_with fail
      go_roundw
      case rel => exact ⟨k + 1, by omega, by go_num, rfl, HW1⟩
      case measure => simp [intOf]; omega
    · have hkc : k = K := by omega
      subst hkc
      go_wp2_with fail
      go_ret
      exact ⟨ret_int (by rw [HWK2.out]), HB1.out.trans (HW.out.mono HB1.out.size)⟩
theorem expr_15 (ao : Option Addr) (cap : Nat) (L : List Px.Nd) (hL : L.length ≤ 16777216) (hT : ∀ x ∈ L, x.text.length ≤ 1000000000) (f : Nat) (ih : ExprAt ao cap L f) (d p : Nat) (hd1 : d + (f + 1) = 41) (xt : Lx.Bs) (xn xc : Int) (r : List Px.Nd) (w : World) (hdr : L.drop p = ⟨15, xt, xn, xc⟩ :: r) (hN : NdL w ao L) :
   ExprGoal ao cap L f d p ⟨15, xt, xn, xc⟩ r w := by
 unfold ExprGoal
 obtain ⟨hp, g, off, rfl, hg, c0, c1, c2, c3⟩ := hN.head hdr
 simp only at c0 c1 c2 c3
 have hdr1 : L.drop (p + 1) = r := by rw [← List.drop_drop, hdr]; rfl
 have hx1 : xt.length ≤ 1000000000 := hT ⟨15, xt, xn, xc⟩ (List.mem_of_mem_drop (by rw [hdr]; exact List.mem_cons_self))
 have hts : (⟨xt.toArray⟩ : ByteArray).size = xt.length := by show xt.toArray.size = _; simp
 have hd2 : d ≤ 40 := by omega
 have HNO : Hid (Px.nodeOk ⟨15, xt, xn, xc⟩ r = false → Px.posZ L (Px.wex (f + 1) (⟨15, xt, xn, xc⟩ :: r)) = -1) := fun h => by rw [Px.wex_no f h]; rfl
 have HYES : Hid (Px.nodeOk ⟨15, xt, xn, xc⟩ r = true → Px.wex (f + 1) (⟨15, xt, xn, xc⟩ :: r) = Px.wk f r xc.toNat ∧ (xc = 0 ∨ xc = 1 ∨ xc = 2)) := fun h => ⟨Px.wex_yes f h, Px.ok_kids h⟩
 have HP1 : Hid (∀ k, Px.Suf L (Px.wk f r k)) := fun k => by rw [← hdr1]; exact Px.wk_suf L f (p + 1) (by omega) k
 have HZ : Hid (Px.posZ L (some r) = ((p : Int) + 1)) := by show _ = _; rw [← hdr1, Px.posZ_at L (p + 1) (by omega)]; omega
 have HDR := hd hdr1
 have HN := hd hN
 have HIH := hd ih
 have HD := hd hd1
 clear hN ih hdr hdr1 hd1 hT
 have hB0 : Below w.heap.size w (w.alloc (.cells #[.int .i64 15, .string ⟨xt.toArray⟩, .int .i64 xn, .int .i64 xc] 43)) := by go_grown
 have HB0 := hd hB0
 have HK0 := hd (Blk.new w #[.int .i64 15, .string ⟨xt.toArray⟩, .int .i64 xn, .int .i64 xc] 43)
 have hs0 := hB0.size
 have hl0 := HK0.out.lt
 clear hB0
 have z1 : (0 : Int) ≤ (p : Int) := by omega
 have z4 : decide ((L.length : Int) ≤ (p : Int)) = false := decide_eq_false (by omega)
 have z5 : decide ((p : Int) < 0) = false := decide_eq_false (by omega)
 have z6 : decide (L.length ≤ p) = false := decide_eq_false (by omega)
 have z7 : (L.length ≤ p) = False := eq_false (by omega)
 have z8 : decide (40 < (d : Int)) = false := decide_eq_false (by omega)
 have z9 : decide (40 < d) = false := decide_eq_false (by omega)
 have hpn : p < 16777216 := by omega
 by_cases ht : xt = []
 · have bht : (xt == []) = true := by simpa using ht
   by_cases h0 : xn = 0
   · have bh0 : (xn == 0) = true := by simpa using h0
     by_cases hc : xc = 0
     · have bhc : (xc == 0) = true := by simpa using hc
       have HOK : Hid (Px.nodeOk ⟨15, xt, xn, xc⟩ r = true) := by show _ = _; simp [Px.nodeOk, ht, h0, hc]
       clear ht h0 hc
       go_enter Tryz.func100, Tryz.ntmps100
       go_wp2_with fail
       have HB1 := HB0
       have HK1 := HK0
       clear HB0 HK0 hs0 hl0
       generalize w.alloc (.cells #[.int .i64 15, .string ⟨xt.toArray⟩, .int .i64 xn, .int .i64 xc] 43) = w1 at *
       obtain ⟨HWK, hkx⟩ := HYES.out HOK.out
       obtain ⟨K, rfl⟩ : ∃ K : Nat, xc = (K : Int) := ⟨xc.toNat, by omega⟩
       have HWK2 : Hid (Px.wex (f + 1) (⟨15, xt, xn, (K : Int)⟩ :: r) = Px.wk f r K) := by show _ = _; rw [HWK, Int.toNat_natCast]
       have hK2 : K ≤ 2 := by omega
       have hl1 := HK1.out.lt
       clear HWK hkx HNO HYES HOK
       go_loopw [1, 11] (fun at' i wr => ∃ k : Nat, k ≤ K ∧ i = .int .i64 k ∧ at' = .int .i64 (Px.posZ L (Px.wk f r k)) ∧ Hid (Below w1.heap.size w1 wr)) (fun _ i _ => K - (intOf i).toNat)
       case atStart => exact ⟨0, by omega, rfl, by rw [show Px.wk f r 0 = some r from rfl, HZ.out], Below.refl _ _⟩
       case round =>
        obtain ⟨k, hk, rfl, rfl, HW⟩ := hrel
        have K3 := HK1.out.below HW.out HK1.out.lt
        have b3 := K3.cell 3
        simp at b3
        have hl3 := K3.lt
        clear K3
        by_cases hlt : k < K
        · have hC := HIH.out (Px.wk f r k) wr (d + 1) (HP1.out k) (by have := HD.out; omega) (HN.out.below (HB1.out.trans (HW.out.mono HB1.out.size)))
          rw [show (Px.wk f r k).bind (Px.wex f) = Px.wk f r (k + 1) from rfl] at hC
          have HC := hd hC
          clear hC
          go_wp2_with fail
          refine HC.out.mono ?_
          rintro e w2 ⟨rfl, hb⟩
          have HW1 : Hid (Below w1.heap.size w1 w2) := HW.out.trans (hb.mono HW.out.size)
          clear hb
          go_wp2_with fail
          go_roundw
          case rel => exact ⟨k + 1, by omega, by go_num, rfl, HW1⟩
          case measure => simp [intOf]; omega
        · have hkc : k = K := by omega
          subst hkc
          go_wp2_with fail
          go_ret
          exact ⟨ret_int (by rw [HWK2.out]), HB1.out.trans (HW.out.mono HB1.out.size)⟩
     · have bhc : (xc == 0) = false := by simpa using hc
       have HOK : Hid (Px.nodeOk ⟨15, xt, xn, xc⟩ r = false) := by show _ = _; simp [Px.nodeOk, hc]
       clear ht h0 hc
       go_enter Tryz.func100, Tryz.ntmps100
       go_wp2_with fail
       go_ret
       exact ⟨ret_int (by rw [HNO.out HOK.out]), HB0.out⟩
   · have bh0 : (xn == 0) = false := by simpa using h0
     by_cases h1 : xn = 1
     · have bh1 : (xn == 1) = true := by simpa using h1
       by_cases hc : xc = 0
       · have bhc : (xc == 0) = true := by simpa using hc
         have HOK : Hid (Px.nodeOk ⟨15, xt, xn, xc⟩ r = true) := by show _ = _; simp [Px.nodeOk, ht, h1, hc]
         clear ht h0 h1 hc
         go_enter Tryz.func100, Tryz.ntmps100
         go_wp2_with fail
         have HB1 := HB0
         have HK1 := HK0
         clear HB0 HK0 hs0 hl0
         generalize w.alloc (.cells #[.int .i64 15, .string ⟨xt.toArray⟩, .int .i64 xn, .int .i64 xc] 43) = w1 at *
         obtain ⟨HWK, hkx⟩ := HYES.out HOK.out
         obtain ⟨K, rfl⟩ : ∃ K : Nat, xc = (K : Int) := ⟨xc.toNat, by omega⟩
         have HWK2 : Hid (Px.wex (f + 1) (⟨15, xt, xn, (K : Int)⟩ :: r) = Px.wk f r K) := by show _ = _; rw [HWK, Int.toNat_natCast]
         have hK2 : K ≤ 2 := by omega
         have hl1 := HK1.out.lt
         clear HWK hkx HNO HYES HOK
         go_loopw [1, 11] (fun at' i wr => ∃ k : Nat, k ≤ K ∧ i = .int .i64 k ∧ at' = .int .i64 (Px.posZ L (Px.wk f r k)) ∧ Hid (Below w1.heap.size w1 wr)) (fun _ i _ => K - (intOf i).toNat)
         case atStart => exact ⟨0, by omega, rfl, by rw [show Px.wk f r 0 = some r from rfl, HZ.out], Below.refl _ _⟩
         case round =>
          obtain ⟨k, hk, rfl, rfl, HW⟩ := hrel
          have K3 := HK1.out.below HW.out HK1.out.lt
          have b3 := K3.cell 3
          simp at b3
          have hl3 := K3.lt
          clear K3
          by_cases hlt : k < K
          · have hC := HIH.out (Px.wk f r k) wr (d + 1) (HP1.out k) (by have := HD.out; omega) (HN.out.below (HB1.out.trans (HW.out.mono HB1.out.size)))
            rw [show (Px.wk f r k).bind (Px.wex f) = Px.wk f r (k + 1) from rfl] at hC
            have HC := hd hC
            clear hC
            go_wp2_with fail
            refine HC.out.mono ?_
            rintro e w2 ⟨rfl, hb⟩
            have HW1 : Hid (Below w1.heap.size w1 w2) := HW.out.trans (hb.mono HW.out.size)
            clear hb
            go_wp2_with fail
            go_roundw
            case rel => exact ⟨k + 1, by omega, by go_num, rfl, HW1⟩
            case measure => simp [intOf]; omega
          · have hkc : k = K := by omega
            subst hkc
            go_wp2_with fail
            go_ret
            exact ⟨ret_int (by rw [HWK2.out]), HB1.out.trans (HW.out.mono HB1.out.size)⟩
       · have bhc : (xc == 0) = false := by simpa using hc
         have HOK : Hid (Px.nodeOk ⟨15, xt, xn, xc⟩ r = false) := by show _ = _; simp [Px.nodeOk, hc]
         clear ht h0 h1 hc
         go_enter Tryz.func100, Tryz.ntmps100
         go_wp2_with fail
         go_ret
         exact ⟨ret_int (by rw [HNO.out HOK.out]), HB0.out⟩
     · have bh1 : (xn == 1) = false := by simpa using h1
       have HOK : Hid (Px.nodeOk ⟨15, xt, xn, xc⟩ r = false) := by show _ = _; simp [Px.nodeOk, h0, h1]
       clear ht h0 h1
       go_enter Tryz.func100, Tryz.ntmps100
       go_wp2_with fail
       go_ret
       exact ⟨ret_int (by rw [HNO.out HOK.out]), HB0.out⟩
 · have bht : (xt == []) = false := by simpa using ht
   have HOK : Hid (Px.nodeOk ⟨15, xt, xn, xc⟩ r = false) := by show _ = _; simp [Px.nodeOk, ht]
   clear ht
   go_enter Tryz.func100, Tryz.ntmps100
   go_wp2_with fail
   go_ret
   exact ⟨ret_int (by rw [HNO.out HOK.out]), HB0.out⟩
theorem expr_16 (ao : Option Addr) (cap : Nat) (L : List Px.Nd) (hL : L.length ≤ 16777216) (hT : ∀ x ∈ L, x.text.length ≤ 1000000000) (f : Nat) (ih : ExprAt ao cap L f) (d p : Nat) (hd1 : d + (f + 1) = 41) (xt : Lx.Bs) (xn xc : Int) (r : List Px.Nd) (w : World) (hdr : L.drop p = ⟨16, xt, xn, xc⟩ :: r) (hN : NdL w ao L) :
   ExprGoal ao cap L f d p ⟨16, xt, xn, xc⟩ r w := by
 unfold ExprGoal
 obtain ⟨hp, g, off, rfl, hg, c0, c1, c2, c3⟩ := hN.head hdr
 simp only at c0 c1 c2 c3
 have hdr1 : L.drop (p + 1) = r := by rw [← List.drop_drop, hdr]; rfl
 have hx1 : xt.length ≤ 1000000000 := hT ⟨16, xt, xn, xc⟩ (List.mem_of_mem_drop (by rw [hdr]; exact List.mem_cons_self))
 have hts : (⟨xt.toArray⟩ : ByteArray).size = xt.length := by show xt.toArray.size = _; simp
 have hd2 : d ≤ 40 := by omega
 have HNO : Hid (Px.nodeOk ⟨16, xt, xn, xc⟩ r = false → Px.posZ L (Px.wex (f + 1) (⟨16, xt, xn, xc⟩ :: r)) = -1) := fun h => by rw [Px.wex_no f h]; rfl
 have HYES : Hid (Px.nodeOk ⟨16, xt, xn, xc⟩ r = true → Px.wex (f + 1) (⟨16, xt, xn, xc⟩ :: r) = Px.wk f r xc.toNat ∧ (xc = 0 ∨ xc = 1 ∨ xc = 2)) := fun h => ⟨Px.wex_yes f h, Px.ok_kids h⟩
 have HP1 : Hid (∀ k, Px.Suf L (Px.wk f r k)) := fun k => by rw [← hdr1]; exact Px.wk_suf L f (p + 1) (by omega) k
 have HZ : Hid (Px.posZ L (some r) = ((p : Int) + 1)) := by show _ = _; rw [← hdr1, Px.posZ_at L (p + 1) (by omega)]; omega
 have HDR := hd hdr1
 have HN := hd hN
 have HIH := hd ih
 have HD := hd hd1
 clear hN ih hdr hdr1 hd1 hT
 have hB0 : Below w.heap.size w (w.alloc (.cells #[.int .i64 16, .string ⟨xt.toArray⟩, .int .i64 xn, .int .i64 xc] 43)) := by go_grown
 have HB0 := hd hB0
 have HK0 := hd (Blk.new w #[.int .i64 16, .string ⟨xt.toArray⟩, .int .i64 xn, .int .i64 xc] 43)
 have hs0 := hB0.size
 have hl0 := HK0.out.lt
 clear hB0
 have z1 : (0 : Int) ≤ (p : Int) := by omega
 have z4 : decide ((L.length : Int) ≤ (p : Int)) = false := decide_eq_false (by omega)
 have z5 : decide ((p : Int) < 0) = false := decide_eq_false (by omega)
 have z6 : decide (L.length ≤ p) = false := decide_eq_false (by omega)
 have z7 : (L.length ≤ p) = False := eq_false (by omega)
 have z8 : decide (40 < (d : Int)) = false := decide_eq_false (by omega)
 have z9 : decide (40 < d) = false := decide_eq_false (by omega)
 have hpn : p < 16777216 := by omega
 by_cases ht : xt = []
 · have bht : (xt == []) = true := by simpa using ht
   by_cases hc : xc = 0
   · have bhc : (xc == 0) = true := by simpa using hc
     have HOK : Hid (Px.nodeOk ⟨16, xt, xn, xc⟩ r = true) := by show _ = _; simp [Px.nodeOk, ht, hc]
     clear ht hc
     go_enter Tryz.func100, Tryz.ntmps100
     go_wp2_with fail
     have HB1 := HB0
     have HK1 := HK0
     clear HB0 HK0 hs0 hl0
     generalize w.alloc (.cells #[.int .i64 16, .string ⟨xt.toArray⟩, .int .i64 xn, .int .i64 xc] 43) = w1 at *
     obtain ⟨HWK, hkx⟩ := HYES.out HOK.out
     obtain ⟨K, rfl⟩ : ∃ K : Nat, xc = (K : Int) := ⟨xc.toNat, by omega⟩
     have HWK2 : Hid (Px.wex (f + 1) (⟨16, xt, xn, (K : Int)⟩ :: r) = Px.wk f r K) := by show _ = _; rw [HWK, Int.toNat_natCast]
     have hK2 : K ≤ 2 := by omega
     have hl1 := HK1.out.lt
     clear HWK hkx HNO HYES HOK
     go_loopw [1, 11] (fun at' i wr => ∃ k : Nat, k ≤ K ∧ i = .int .i64 k ∧ at' = .int .i64 (Px.posZ L (Px.wk f r k)) ∧ Hid (Below w1.heap.size w1 wr)) (fun _ i _ => K - (intOf i).toNat)
     case atStart => exact ⟨0, by omega, rfl, by rw [show Px.wk f r 0 = some r from rfl, HZ.out], Below.refl _ _⟩
     case round =>
      obtain ⟨k, hk, rfl, rfl, HW⟩ := hrel
      have K3 := HK1.out.below HW.out HK1.out.lt
      have b3 := K3.cell 3
      simp at b3
      have hl3 := K3.lt
      clear K3
      by_cases hlt : k < K
      · have hC := HIH.out (Px.wk f r k) wr (d + 1) (HP1.out k) (by have := HD.out; omega) (HN.out.below (HB1.out.trans (HW.out.mono HB1.out.size)))
        rw [show (Px.wk f r k).bind (Px.wex f) = Px.wk f r (k + 1) from rfl] at hC
        have HC := hd hC
        clear hC
        go_wp2_with fail
        refine HC.out.mono ?_
        rintro e w2 ⟨rfl, hb⟩
        have HW1 : Hid (Below w1.heap.size w1 w2) := HW.out.trans (hb.mono HW.out.size)
        clear hb
        go_wp2_with fail
        go_roundw
        case rel => exact ⟨k + 1, by omega, by go_num, rfl, HW1⟩
        case measure => simp [intOf]; omega
      · have hkc : k = K := by omega
        subst hkc
        go_wp2_with fail
        go_ret
        exact ⟨ret_int (by rw [HWK2.out]), HB1.out.trans (HW.out.mono HB1.out.size)⟩
   · have bhc : (xc == 0) = false := by simpa using hc
     have HOK : Hid (Px.nodeOk ⟨16, xt, xn, xc⟩ r = false) := by show _ = _; simp [Px.nodeOk, hc]
     clear ht hc
     go_enter Tryz.func100, Tryz.ntmps100
     go_wp2_with fail
     go_ret
     exact ⟨ret_int (by rw [HNO.out HOK.out]), HB0.out⟩
 · have bht : (xt == []) = false := by simpa using ht
   have HOK : Hid (Px.nodeOk ⟨16, xt, xn, xc⟩ r = false) := by show _ = _; simp [Px.nodeOk, ht]
   clear ht
   go_enter Tryz.func100, Tryz.ntmps100
   go_wp2_with fail
   go_ret
   exact ⟨ret_int (by rw [HNO.out HOK.out]), HB0.out⟩
end Rf
namespace Rf
theorem expr_17 (ao : Option Addr) (cap : Nat) (L : List Px.Nd) (hL : L.length ≤ 16777216) (hT : ∀ x ∈ L, x.text.length ≤ 1000000000) (f : Nat) (ih : ExprAt ao cap L f) (d p : Nat) (hd1 : d + (f + 1) = 41) (xt : Lx.Bs) (xn xc : Int) (r : List Px.Nd) (w : World) (hdr : L.drop p = ⟨17, xt, xn, xc⟩ :: r) (hN : NdL w ao L) :
   ExprGoal ao cap L f d p ⟨17, xt, xn, xc⟩ r w := by
 unfold ExprGoal
 obtain ⟨hp, g, off, rfl, hg, c0, c1, c2, c3⟩ := hN.head hdr
 simp only at c0 c1 c2 c3
 have hdr1 : L.drop (p + 1) = r := by rw [← List.drop_drop, hdr]; rfl
 have hx1 : xt.length ≤ 1000000000 := hT ⟨17, xt, xn, xc⟩ (List.mem_of_mem_drop (by rw [hdr]; exact List.mem_cons_self))
 have hts : (⟨xt.toArray⟩ : ByteArray).size = xt.length := by show xt.toArray.size = _; simp
 have hd2 : d ≤ 40 := by omega
 have HNO : Hid (Px.nodeOk ⟨17, xt, xn, xc⟩ r = false → Px.posZ L (Px.wex (f + 1) (⟨17, xt, xn, xc⟩ :: r)) = -1) := fun h => by rw [Px.wex_no f h]; rfl
 have HYES : Hid (Px.nodeOk ⟨17, xt, xn, xc⟩ r = true → Px.wex (f + 1) (⟨17, xt, xn, xc⟩ :: r) = Px.wk f r xc.toNat ∧ (xc = 0 ∨ xc = 1 ∨ xc = 2)) := fun h => ⟨Px.wex_yes f h, Px.ok_kids h⟩
 have HP1 : Hid (∀ k, Px.Suf L (Px.wk f r k)) := fun k => by rw [← hdr1]; exact Px.wk_suf L f (p + 1) (by omega) k
 have HZ : Hid (Px.posZ L (some r) = ((p : Int) + 1)) := by show _ = _; rw [← hdr1, Px.posZ_at L (p + 1) (by omega)]; omega
 have HDR := hd hdr1
 have HN := hd hN
 have HIH := hd ih
 have HD := hd hd1
 clear hN ih hdr hdr1 hd1 hT
 have hB0 : Below w.heap.size w (w.alloc (.cells #[.int .i64 17, .string ⟨xt.toArray⟩, .int .i64 xn, .int .i64 xc] 43)) := by go_grown
 have HB0 := hd hB0
 have HK0 := hd (Blk.new w #[.int .i64 17, .string ⟨xt.toArray⟩, .int .i64 xn, .int .i64 xc] 43)
 have hs0 := hB0.size
 have hl0 := HK0.out.lt
 clear hB0
 have z1 : (0 : Int) ≤ (p : Int) := by omega
 have z4 : decide ((L.length : Int) ≤ (p : Int)) = false := decide_eq_false (by omega)
 have z5 : decide ((p : Int) < 0) = false := decide_eq_false (by omega)
 have z6 : decide (L.length ≤ p) = false := decide_eq_false (by omega)
 have z7 : (L.length ≤ p) = False := eq_false (by omega)
 have z8 : decide (40 < (d : Int)) = false := decide_eq_false (by omega)
 have z9 : decide (40 < d) = false := decide_eq_false (by omega)
 have hpn : p < 16777216 := by omega
 have hV := Valid_any ⟨xt.toArray⟩ (w.alloc (.cells #[.int .i64 17, .string ⟨xt.toArray⟩, .int .i64 xn, .int .i64 xc] 43)) (by omega)
 rw [show (⟨xt.toArray⟩ : ByteArray).data.toList = xt by simp] at hV
 cases hv : Lx.validN xt
 · rw [hv] at hV
   have HV := hd hV
   have HOK : Hid (Px.nodeOk ⟨17, xt, xn, xc⟩ r = false) := by show _ = _; simp [Px.nodeOk, hv]
   clear hV hv
   go_enter Tryz.func100, Tryz.ntmps100
   go_wp2_with fail
   refine HV.out.mono ?_
   rintro e w9 ⟨rfl, rfl⟩
   go_wp2_with fail
   go_ret
   exact ⟨ret_int (by rw [HNO.out HOK.out]), HB0.out⟩
 · rw [hv] at hV
   have HV := hd hV
   clear hV
   by_cases h0 : xn = 0
   · have bh0 : (xn == 0) = true := by simpa using h0
     by_cases hc : xc = 0
     · have bhc : (xc == 0) = true := by simpa using hc
       have HOK : Hid (Px.nodeOk ⟨17, xt, xn, xc⟩ r = true) := by show _ = _; simp [Px.nodeOk, hv, h0, hc]
       clear hv h0 hc
       go_enter Tryz.func100, Tryz.ntmps100
       go_wp2_with fail
       refine HV.out.mono ?_
       rintro e w9 ⟨rfl, rfl⟩
       go_wp2_with fail
       have HB1 := HB0
       have HK1 := HK0
       clear HB0 HK0 hs0 hl0
       generalize w.alloc (.cells #[.int .i64 17, .string ⟨xt.toArray⟩, .int .i64 xn, .int .i64 xc] 43) = w1 at *
       obtain ⟨HWK, hkx⟩ := HYES.out HOK.out
       obtain ⟨K, rfl⟩ : ∃ K : Nat, xc = (K : Int) := ⟨xc.toNat, by omega⟩
       have HWK2 : Hid (Px.wex (f + 1) (⟨17, xt, xn, (K : Int)⟩ :: r) = Px.wk f r K) := by show _ = _; rw [HWK, Int.toNat_natCast]
       have hK2 : K ≤ 2 := by omega
       have hl1 := HK1.out.lt
       clear HWK hkx HNO HYES HOK
       go_loopw [1, 11] (fun at' i wr => ∃ k : Nat, k ≤ K ∧ i = .int .i64 k ∧ at' = .int .i64 (Px.posZ L (Px.wk f r k)) ∧ Hid (Below w1.heap.size w1 wr)) (fun _ i _ => K - (intOf i).toNat)
       case atStart => exact ⟨0, by omega, rfl, by rw [show Px.wk f r 0 = some r from rfl, HZ.out], Below.refl _ _⟩
       case round =>
        obtain ⟨k, hk, rfl, rfl, HW⟩ := hrel
        have K3 := HK1.out.below HW.out HK1.out.lt
        have b3 := K3.cell 3
        simp at b3
        have hl3 := K3.lt
        clear K3
        by_cases hlt : k < K
        · have hC := HIH.out (Px.wk f r k) wr (d + 1) (HP1.out k) (by have := HD.out; omega) (HN.out.below (HB1.out.trans (HW.out.mono HB1.out.size)))
          rw [show (Px.wk f r k).bind (Px.wex f) = Px.wk f r (k + 1) from rfl] at hC
          have HC := hd hC
          clear hC
          go_wp2_with fail
          refine HC.out.mono ?_
          rintro e w2 ⟨rfl, hb⟩
          have HW1 : Hid (Below w1.heap.size w1 w2) := HW.out.trans (hb.mono HW.out.size)
          clear hb
          go_wp2_with fail
          go_roundw
          case rel => exact ⟨k + 1, by omega, by go_num, rfl, HW1⟩
          case measure => simp [intOf]; omega
        · have hkc : k = K := by omega
          subst hkc
          go_wp2_with fail
          go_ret
          exact ⟨ret_int (by rw [HWK2.out]), HB1.out.trans (HW.out.mono HB1.out.size)⟩
     · have bhc : (xc == 0) = false := by simpa using hc
       have HOK : Hid (Px.nodeOk ⟨17, xt, xn, xc⟩ r = false) := by show _ = _; simp [Px.nodeOk, hc]
       clear hv h0 hc
       go_enter Tryz.func100, Tryz.ntmps100
       go_wp2_with fail
       refine HV.out.mono ?_
       rintro e w9 ⟨rfl, rfl⟩
       go_wp2_with fail
       go_ret
       exact ⟨ret_int (by rw [HNO.out HOK.out]), HB0.out⟩
   · have bh0 : (xn == 0) = false := by simpa using h0
     have HOK : Hid (Px.nodeOk ⟨17, xt, xn, xc⟩ r = false) := by show _ = _; simp [Px.nodeOk, h0]
     clear hv h0
     go_enter Tryz.func100, Tryz.ntmps100
     go_wp2_with fail
     refine HV.out.mono ?_
     rintro e w9 ⟨rfl, rfl⟩
     go_wp2_with fail
     go_ret
     exact ⟨ret_int (by rw [HNO.out HOK.out]), HB0.out⟩
theorem expr_18 (ao : Option Addr) (cap : Nat) (L : List Px.Nd) (hL : L.length ≤ 16777216) (hT : ∀ x ∈ L, x.text.length ≤ 1000000000) (f : Nat) (ih : ExprAt ao cap L f) (d p : Nat) (hd1 : d + (f + 1) = 41) (xt : Lx.Bs) (xn xc : Int) (r : List Px.Nd) (w : World) (hdr : L.drop p = ⟨18, xt, xn, xc⟩ :: r) (hN : NdL w ao L) :
   ExprGoal ao cap L f d p ⟨18, xt, xn, xc⟩ r w := by
 unfold ExprGoal
 obtain ⟨hp, g, off, rfl, hg, c0, c1, c2, c3⟩ := hN.head hdr
 simp only at c0 c1 c2 c3
 have hdr1 : L.drop (p + 1) = r := by rw [← List.drop_drop, hdr]; rfl
 have hx1 : xt.length ≤ 1000000000 := hT ⟨18, xt, xn, xc⟩ (List.mem_of_mem_drop (by rw [hdr]; exact List.mem_cons_self))
 have hts : (⟨xt.toArray⟩ : ByteArray).size = xt.length := by show xt.toArray.size = _; simp
 have hd2 : d ≤ 40 := by omega
 have HNO : Hid (Px.nodeOk ⟨18, xt, xn, xc⟩ r = false → Px.posZ L (Px.wex (f + 1) (⟨18, xt, xn, xc⟩ :: r)) = -1) := fun h => by rw [Px.wex_no f h]; rfl
 have HYES : Hid (Px.nodeOk ⟨18, xt, xn, xc⟩ r = true → Px.wex (f + 1) (⟨18, xt, xn, xc⟩ :: r) = Px.wk f r xc.toNat ∧ (xc = 0 ∨ xc = 1 ∨ xc = 2)) := fun h => ⟨Px.wex_yes f h, Px.ok_kids h⟩
 have HP1 : Hid (∀ k, Px.Suf L (Px.wk f r k)) := fun k => by rw [← hdr1]; exact Px.wk_suf L f (p + 1) (by omega) k
 have HZ : Hid (Px.posZ L (some r) = ((p : Int) + 1)) := by show _ = _; rw [← hdr1, Px.posZ_at L (p + 1) (by omega)]; omega
 have HDR := hd hdr1
 have HN := hd hN
 have HIH := hd ih
 have HD := hd hd1
 clear hN ih hdr hdr1 hd1 hT
 have hB0 : Below w.heap.size w (w.alloc (.cells #[.int .i64 18, .string ⟨xt.toArray⟩, .int .i64 xn, .int .i64 xc] 43)) := by go_grown
 have HB0 := hd hB0
 have HK0 := hd (Blk.new w #[.int .i64 18, .string ⟨xt.toArray⟩, .int .i64 xn, .int .i64 xc] 43)
 have hs0 := hB0.size
 have hl0 := HK0.out.lt
 clear hB0
 have z1 : (0 : Int) ≤ (p : Int) := by omega
 have z4 : decide ((L.length : Int) ≤ (p : Int)) = false := decide_eq_false (by omega)
 have z5 : decide ((p : Int) < 0) = false := decide_eq_false (by omega)
 have z6 : decide (L.length ≤ p) = false := decide_eq_false (by omega)
 have z7 : (L.length ≤ p) = False := eq_false (by omega)
 have z8 : decide (40 < (d : Int)) = false := decide_eq_false (by omega)
 have z9 : decide (40 < d) = false := decide_eq_false (by omega)
 have hpn : p < 16777216 := by omega
 have hV := isName_any ⟨xt.toArray⟩ (w.alloc (.cells #[.int .i64 18, .string ⟨xt.toArray⟩, .int .i64 xn, .int .i64 xc] 43)) (by omega)
 rw [show (⟨xt.toArray⟩ : ByteArray).data.toList = xt by simp] at hV
 cases hv : Px.isName xt
 · rw [hv] at hV
   have HV := hd hV
   have HOK : Hid (Px.nodeOk ⟨18, xt, xn, xc⟩ r = false) := by show _ = _; simp [Px.nodeOk, hv]
   clear hV hv
   go_enter Tryz.func100, Tryz.ntmps100
   go_wp2_with fail
   refine HV.out.mono ?_
   rintro e w9 ⟨rfl, rfl⟩
   go_wp2_with fail
   go_ret
   exact ⟨ret_int (by rw [HNO.out HOK.out]), HB0.out⟩
 · rw [hv] at hV
   have HV := hd hV
   clear hV
   by_cases h0 : xn = 0
   · have bh0 : (xn == 0) = true := by simpa using h0
     by_cases hc : xc = 0
     · have bhc : (xc == 0) = true := by simpa using hc
       have HOK : Hid (Px.nodeOk ⟨18, xt, xn, xc⟩ r = true) := by show _ = _; simp [Px.nodeOk, hv, h0, hc]
       clear hv h0 hc
       go_enter Tryz.func100, Tryz.ntmps100
       go_wp2_with fail
       refine HV.out.mono ?_
       rintro e w9 ⟨rfl, rfl⟩
       go_wp2_with fail
       have HB1 := HB0
       have HK1 := HK0
       clear HB0 HK0 hs0 hl0
       generalize w.alloc (.cells #[.int .i64 18, .string ⟨xt.toArray⟩, .int .i64 xn, .int .i64 xc] 43) = w1 at *
       obtain ⟨HWK, hkx⟩ := HYES.out HOK.out
       obtain ⟨K, rfl⟩ : ∃ K : Nat, xc = (K : Int) := ⟨xc.toNat, by omega⟩
       have HWK2 : Hid (Px.wex (f + 1) (⟨18, xt, xn, (K : Int)⟩ :: r) = Px.wk f r K) := by show _ = _; rw [HWK, Int.toNat_natCast]
       have hK2 : K ≤ 2 := by omega
       have hl1 := HK1.out.lt
       clear HWK hkx HNO HYES HOK
       go_loopw [1, 11] (fun at' i wr => ∃ k : Nat, k ≤ K ∧ i = .int .i64 k ∧ at' = .int .i64 (Px.posZ L (Px.wk f r k)) ∧ Hid (Below w1.heap.size w1 wr)) (fun _ i _ => K - (intOf i).toNat)
       case atStart => exact ⟨0, by omega, rfl, by rw [show Px.wk f r 0 = some r from rfl, HZ.out], Below.refl _ _⟩
       case round =>
        obtain ⟨k, hk, rfl, rfl, HW⟩ := hrel
        have K3 := HK1.out.below HW.out HK1.out.lt
        have b3 := K3.cell 3
        simp at b3
        have hl3 := K3.lt
        clear K3
        by_cases hlt : k < K
        · have hC := HIH.out (Px.wk f r k) wr (d + 1) (HP1.out k) (by have := HD.out; omega) (HN.out.below (HB1.out.trans (HW.out.mono HB1.out.size)))
          rw [show (Px.wk f r k).bind (Px.wex f) = Px.wk f r (k + 1) from rfl] at hC
          have HC := hd hC
          clear hC
          go_wp2_with fail
          refine HC.out.mono ?_
          rintro e w2 ⟨rfl, hb⟩
          have HW1 : Hid (Below w1.heap.size w1 w2) := HW.out.trans (hb.mono HW.out.size)
          clear hb
          go_wp2_with fail
          go_roundw
          case rel => exact ⟨k + 1, by omega, by go_num, rfl, HW1⟩
          case measure => simp [intOf]; omega
        · have hkc : k = K := by omega
          subst hkc
          go_wp2_with fail
          go_ret
          exact ⟨ret_int (by rw [HWK2.out]), HB1.out.trans (HW.out.mono HB1.out.size)⟩
     · have bhc : (xc == 0) = false := by simpa using hc
       have HOK : Hid (Px.nodeOk ⟨18, xt, xn, xc⟩ r = false) := by show _ = _; simp [Px.nodeOk, hc]
       clear hv h0 hc
       go_enter Tryz.func100, Tryz.ntmps100
       go_wp2_with fail
       refine HV.out.mono ?_
       rintro e w9 ⟨rfl, rfl⟩
       go_wp2_with fail
       go_ret
       exact ⟨ret_int (by rw [HNO.out HOK.out]), HB0.out⟩
   · have bh0 : (xn == 0) = false := by simpa using h0
     have HOK : Hid (Px.nodeOk ⟨18, xt, xn, xc⟩ r = false) := by show _ = _; simp [Px.nodeOk, h0]
     clear hv h0
     go_enter Tryz.func100, Tryz.ntmps100
     go_wp2_with fail
     refine HV.out.mono ?_
     rintro e w9 ⟨rfl, rfl⟩
     go_wp2_with fail
     go_ret
     exact ⟨ret_int (by rw [HNO.out HOK.out]), HB0.out⟩
end Rf
namespace Rf
theorem expr_19 (ao : Option Addr) (cap : Nat) (L : List Px.Nd) (hL : L.length ≤ 16777216) (hT : ∀ x ∈ L, x.text.length ≤ 1000000000) (f : Nat) (ih : ExprAt ao cap L f) (d p : Nat) (hd1 : d + (f + 1) = 41) (xt : Lx.Bs) (xn xc : Int) (r : List Px.Nd) (w : World) (hdr : L.drop p = ⟨19, xt, xn, xc⟩ :: r) (hN : NdL w ao L) :
   ExprGoal ao cap L f d p ⟨19, xt, xn, xc⟩ r w := by
 unfold ExprGoal
 obtain ⟨hp, g, off, rfl, hg, c0, c1, c2, c3⟩ := hN.head hdr
 simp only at c0 c1 c2 c3
 have hdr1 : L.drop (p + 1) = r := by rw [← List.drop_drop, hdr]; rfl
 have hx1 : xt.length ≤ 1000000000 := hT ⟨19, xt, xn, xc⟩ (List.mem_of_mem_drop (by rw [hdr]; exact List.mem_cons_self))
 have hts : (⟨xt.toArray⟩ : ByteArray).size = xt.length := by show xt.toArray.size = _; simp
 have hd2 : d ≤ 40 := by omega
 have HNO : Hid (Px.nodeOk ⟨19, xt, xn, xc⟩ r = false → Px.posZ L (Px.wex (f + 1) (⟨19, xt, xn, xc⟩ :: r)) = -1) := fun h => by rw [Px.wex_no f h]; rfl
 have HYES : Hid (Px.nodeOk ⟨19, xt, xn, xc⟩ r = true → Px.wex (f + 1) (⟨19, xt, xn, xc⟩ :: r) = Px.wk f r xc.toNat ∧ (xc = 0 ∨ xc = 1 ∨ xc = 2)) := fun h => ⟨Px.wex_yes f h, Px.ok_kids h⟩
 have HP1 : Hid (∀ k, Px.Suf L (Px.wk f r k)) := fun k => by rw [← hdr1]; exact Px.wk_suf L f (p + 1) (by omega) k
 have HZ : Hid (Px.posZ L (some r) = ((p : Int) + 1)) := by show _ = _; rw [← hdr1, Px.posZ_at L (p + 1) (by omega)]; omega
 have HDR := hd hdr1
 have HN := hd hN
 have HIH := hd ih
 have HD := hd hd1
 clear hN ih hdr hdr1 hd1 hT
 have hB0 : Below w.heap.size w (w.alloc (.cells #[.int .i64 19, .string ⟨xt.toArray⟩, .int .i64 xn, .int .i64 xc] 43)) := by go_grown
 have HB0 := hd hB0
 have HK0 := hd (Blk.new w #[.int .i64 19, .string ⟨xt.toArray⟩, .int .i64 xn, .int .i64 xc] 43)
 have hs0 := hB0.size
 have hl0 := HK0.out.lt
 clear hB0
 have z1 : (0 : Int) ≤ (p : Int) := by omega
 have z4 : decide ((L.length : Int) ≤ (p : Int)) = false := decide_eq_false (by omega)
 have z5 : decide ((p : Int) < 0) = false := decide_eq_false (by omega)
 have z6 : decide (L.length ≤ p) = false := decide_eq_false (by omega)
 have z7 : (L.length ≤ p) = False := eq_false (by omega)
 have z8 : decide (40 < (d : Int)) = false := decide_eq_false (by omega)
 have z9 : decide (40 < d) = false := decide_eq_false (by omega)
 have hpn : p < 16777216 := by omega
 have HOK : Hid (Px.nodeOk ⟨19, xt, xn, xc⟩ r = (Px.bareN ⟨19, xt, xn, xc⟩ 1 && Px.notNum r)) := Px.ok_neg xt xn xc r
 go_enter Tryz.func100, Tryz.ntmps100
 go_wp2_with fail
 refine (bare_any ⟨19, xt, xn, xc⟩ 1 _).mono ?_
 rintro e w1 ⟨rfl, hb⟩
 have HB1 : Hid (Below w.heap.size w w1) := HB0.out.trans (hb.mono hs0)
 have HK1 := hd (HK0.out.below hb hl0)
 clear hb HB0 HK0 hs0 hl0
 cases hbv : Px.bareN ⟨19, xt, xn, xc⟩ 1
 · rw [hbv] at HOK
   rw [Bool.false_and] at HOK
   clear hbv
   go_wp2_with fail
   go_ret
   exact ⟨ret_int (by rw [HNO.out HOK.out]), HB1.out⟩
 · rw [hbv, Bool.true_and] at HOK
   clear hbv
   have hNw := HN.out.below HB1.out
   rcases r with _ | ⟨⟨yk, yt, yn, yc⟩, r⟩
   · have hpe : L.length = p + 1 := by
      have h := congrArg List.length HDR.out
      simp at h
      omega
     have z10 : decide ((L.length : Int) ≤ (p : Int) + 1) = true := decide_eq_true (by omega)
     have z11 : decide (L.length ≤ p + 1) = true := decide_eq_true (by omega)
     clear hNw hpe
     go_wp2_with fail
     obtain ⟨HWK, hkx⟩ := HYES.out HOK.out
     obtain ⟨K, rfl⟩ : ∃ K : Nat, xc = (K : Int) := ⟨xc.toNat, by omega⟩
     have HWK2 : Hid (Px.wex (f + 1) (⟨19, xt, xn, (K : Int)⟩ :: []) = Px.wk f [] K) := by show _ = _; rw [HWK, Int.toNat_natCast]
     have hK2 : K ≤ 2 := by omega
     have hl1 := HK1.out.lt
     clear HWK hkx HNO HYES HOK
     go_loopw [1, 11] (fun at' i wr => ∃ k : Nat, k ≤ K ∧ i = .int .i64 k ∧ at' = .int .i64 (Px.posZ L (Px.wk f [] k)) ∧ Hid (Below w1.heap.size w1 wr)) (fun _ i _ => K - (intOf i).toNat)
     case atStart => exact ⟨0, by omega, rfl, by rw [show Px.wk f [] 0 = some [] from rfl, HZ.out], Below.refl _ _⟩
     case round =>
      obtain ⟨k, hk, rfl, rfl, HW⟩ := hrel
      have K3 := HK1.out.below HW.out HK1.out.lt
      have b3 := K3.cell 3
      simp at b3
      have hl3 := K3.lt
      clear K3
      by_cases hlt : k < K
      · have hC := HIH.out (Px.wk f [] k) wr (d + 1) (HP1.out k) (by have := HD.out; omega) (HN.out.below (HB1.out.trans (HW.out.mono HB1.out.size)))
        rw [show (Px.wk f [] k).bind (Px.wex f) = Px.wk f [] (k + 1) from rfl] at hC
        have HC := hd hC
        clear hC
        go_wp2_with fail
        refine HC.out.mono ?_
        rintro e w2 ⟨rfl, hb⟩
        have HW1 : Hid (Below w1.heap.size w1 w2) := HW.out.trans (hb.mono HW.out.size)
        clear hb
        go_wp2_with fail
        go_roundw
        case rel => exact ⟨k + 1, by omega, by go_num, rfl, HW1⟩
        case measure => simp [intOf]; omega
      · have hkc : k = K := by omega
        subst hkc
        go_wp2_with fail
        go_ret
        exact ⟨ret_int (by rw [HWK2.out]), HB1.out.trans (HW.out.mono HB1.out.size)⟩
   · obtain ⟨hp2, g2, off2, e2, hg2, d0, _⟩ := hNw.head HDR.out
     cases e2
     simp only at d0
     have z10 : decide ((L.length : Int) ≤ (p : Int) + 1) = false := decide_eq_false (by omega)
     have z11 : decide (L.length ≤ p + 1) = false := decide_eq_false (by omega)
     have z12 : ((p : Int) + 1) < (L.length : Int) := by omega
     clear hNw
     by_cases hy : yk = 16
     · subst hy
       have HOK2 : Hid (Px.nodeOk ⟨19, xt, xn, xc⟩ (⟨16, yt, yn, yc⟩ :: r) = false) := by show _ = _; rw [HOK.out]; simp [Px.notNum]
       clear HOK
       have HOK := HOK2
       go_wp2_with fail
       go_ret
       exact ⟨ret_int (by rw [HNO.out HOK.out]), HB1.out⟩
     · have by16 : (yk != 16) = true := by simpa using hy
       have HOK2 : Hid (Px.nodeOk ⟨19, xt, xn, xc⟩ (⟨yk, yt, yn, yc⟩ :: r) = true) := by show _ = _; rw [HOK.out]; simp [Px.notNum, hy]
       clear HOK
       have HOK := HOK2
       clear HOK2
       go_wp2_with fail
       clear hp2 z12 d0 hg2
       obtain ⟨HWK, hkx⟩ := HYES.out HOK.out
       obtain ⟨K, rfl⟩ : ∃ K : Nat, xc = (K : Int) := ⟨xc.toNat, by omega⟩
       have HWK2 : Hid (Px.wex (f + 1) (⟨19, xt, xn, (K : Int)⟩ :: ⟨yk, yt, yn, yc⟩ :: r) = Px.wk f (⟨yk, yt, yn, yc⟩ :: r) K) := by show _ = _; rw [HWK, Int.toNat_natCast]
       have hK2 : K ≤ 2 := by omega
       have hl1 := HK1.out.lt
       clear HWK hkx HNO HYES HOK
       go_loopw [1, 11] (fun at' i wr => ∃ k : Nat, k ≤ K ∧ i = .int .i64 k ∧ at' = .int .i64 (Px.posZ L (Px.wk f (⟨yk, yt, yn, yc⟩ :: r) k)) ∧ Hid (Below w1.heap.size w1 wr)) (fun _ i _ => K - (intOf i).toNat)
       case atStart => exact ⟨0, by omega, rfl, by rw [show Px.wk f (⟨yk, yt, yn, yc⟩ :: r) 0 = some (⟨yk, yt, yn, yc⟩ :: r) from rfl, HZ.out], Below.refl _ _⟩
       case round =>
        obtain ⟨k, hk, rfl, rfl, HW⟩ := hrel
        have K3 := HK1.out.below HW.out HK1.out.lt
        have b3 := K3.cell 3
        simp at b3
        have hl3 := K3.lt
        clear K3
        by_cases hlt : k < K
        · have hC := HIH.out (Px.wk f (⟨yk, yt, yn, yc⟩ :: r) k) wr (d + 1) (HP1.out k) (by have := HD.out; omega) (HN.out.below (HB1.out.trans (HW.out.mono HB1.out.size)))
          rw [show (Px.wk f (⟨yk, yt, yn, yc⟩ :: r) k).bind (Px.wex f) = Px.wk f (⟨yk, yt, yn, yc⟩ :: r) (k + 1) from rfl] at hC
          have HC := hd hC
          clear hC
          go_wp2_with fail
          refine HC.out.mono ?_
          rintro e w2 ⟨rfl, hb⟩
          have HW1 : Hid (Below w1.heap.size w1 w2) := HW.out.trans (hb.mono HW.out.size)
          clear hb
          go_wp2_with fail
          go_roundw
          case rel => exact ⟨k + 1, by omega, by go_num, rfl, HW1⟩
          case measure => simp [intOf]; omega
        · have hkc : k = K := by omega
          subst hkc
          go_wp2_with fail
          go_ret
          exact ⟨ret_int (by rw [HWK2.out]), HB1.out.trans (HW.out.mono HB1.out.size)⟩
end Rf
namespace Rf
theorem expr_20 (ao : Option Addr) (cap : Nat) (L : List Px.Nd) (hL : L.length ≤ 16777216) (hT : ∀ x ∈ L, x.text.length ≤ 1000000000) (f : Nat) (ih : ExprAt ao cap L f) (d p : Nat) (hd1 : d + (f + 1) = 41) (xt : Lx.Bs) (xn xc : Int) (r : List Px.Nd) (w : World) (hdr : L.drop p = ⟨20, xt, xn, xc⟩ :: r) (hN : NdL w ao L) :
   ExprGoal ao cap L f d p ⟨20, xt, xn, xc⟩ r w := by
 unfold ExprGoal
 obtain ⟨hp, g, off, rfl, hg, c0, c1, c2, c3⟩ := hN.head hdr
 simp only at c0 c1 c2 c3
 have hdr1 : L.drop (p + 1) = r := by rw [← List.drop_drop, hdr]; rfl
 have hx1 : xt.length ≤ 1000000000 := hT ⟨20, xt, xn, xc⟩ (List.mem_of_mem_drop (by rw [hdr]; exact List.mem_cons_self))
 have hts : (⟨xt.toArray⟩ : ByteArray).size = xt.length := by show xt.toArray.size = _; simp
 have hd2 : d ≤ 40 := by omega
 have HNO : Hid (Px.nodeOk ⟨20, xt, xn, xc⟩ r = false → Px.posZ L (Px.wex (f + 1) (⟨20, xt, xn, xc⟩ :: r)) = -1) := fun h => by rw [Px.wex_no f h]; rfl
 have HYES : Hid (Px.nodeOk ⟨20, xt, xn, xc⟩ r = true → Px.wex (f + 1) (⟨20, xt, xn, xc⟩ :: r) = Px.wk f r xc.toNat ∧ (xc = 0 ∨ xc = 1 ∨ xc = 2)) := fun h => ⟨Px.wex_yes f h, Px.ok_kids h⟩
 have HP1 : Hid (∀ k, Px.Suf L (Px.wk f r k)) := fun k => by rw [← hdr1]; exact Px.wk_suf L f (p + 1) (by omega) k
 have HZ : Hid (Px.posZ L (some r) = ((p : Int) + 1)) := by show _ = _; rw [← hdr1, Px.posZ_at L (p + 1) (by omega)]; omega
 have HDR := hd hdr1
 have HN := hd hN
 have HIH := hd ih
 have HD := hd hd1
 clear hN ih hdr hdr1 hd1 hT
 have hB0 : Below w.heap.size w (w.alloc (.cells #[.int .i64 20, .string ⟨xt.toArray⟩, .int .i64 xn, .int .i64 xc] 43)) := by go_grown
 have HB0 := hd hB0
 have HK0 := hd (Blk.new w #[.int .i64 20, .string ⟨xt.toArray⟩, .int .i64 xn, .int .i64 xc] 43)
 have hs0 := hB0.size
 have hl0 := HK0.out.lt
 clear hB0
 have z1 : (0 : Int) ≤ (p : Int) := by omega
 have z4 : decide ((L.length : Int) ≤ (p : Int)) = false := decide_eq_false (by omega)
 have z5 : decide ((p : Int) < 0) = false := decide_eq_false (by omega)
 have z6 : decide (L.length ≤ p) = false := decide_eq_false (by omega)
 have z7 : (L.length ≤ p) = False := eq_false (by omega)
 have z8 : decide (40 < (d : Int)) = false := decide_eq_false (by omega)
 have z9 : decide (40 < d) = false := decide_eq_false (by omega)
 have hpn : p < 16777216 := by omega
 have HOK : Hid (Px.nodeOk ⟨20, xt, xn, xc⟩ r = Px.bareN ⟨20, xt, xn, xc⟩ 1) := by show _ = _; simp [Px.nodeOk]
 go_enter Tryz.func100, Tryz.ntmps100
 go_wp2_with fail
 refine (bare_any ⟨20, xt, xn, xc⟩ 1 _).mono ?_
 rintro e w1 ⟨rfl, hb⟩
 have HB1 : Hid (Below w.heap.size w w1) := HB0.out.trans (hb.mono hs0)
 have HK1 := hd (HK0.out.below hb hl0)
 clear hb HB0 HK0 hs0 hl0
 cases hbv : Px.bareN ⟨20, xt, xn, xc⟩ 1
 · rw [hbv] at HOK
   clear hbv
   go_wp2_with fail
   go_ret
   exact ⟨ret_int (by rw [HNO.out HOK.out]), HB1.out⟩
 · rw [hbv] at HOK
   clear hbv
   go_wp2_with fail
   obtain ⟨HWK, hkx⟩ := HYES.out HOK.out
   obtain ⟨K, rfl⟩ : ∃ K : Nat, xc = (K : Int) := ⟨xc.toNat, by omega⟩
   have HWK2 : Hid (Px.wex (f + 1) (⟨20, xt, xn, (K : Int)⟩ :: r) = Px.wk f r K) := by show _ = _; rw [HWK, Int.toNat_natCast]
   have hK2 : K ≤ 2 := by omega
   have hl1 := HK1.out.lt
   clear HWK hkx HNO HYES HOK
   go_loopw [1, 11] (fun at' i wr => ∃ k : Nat, k ≤ K ∧ i = .int .i64 k ∧ at' = .int .i64 (Px.posZ L (Px.wk f r k)) ∧ Hid (Below w1.heap.size w1 wr)) (fun _ i _ => K - (intOf i).toNat)
   case atStart => exact ⟨0, by omega, rfl, by rw [show Px.wk f r 0 = some r from rfl, HZ.out], Below.refl _ _⟩
   case round =>
    obtain ⟨k, hk, rfl, rfl, HW⟩ := hrel
    have K3 := HK1.out.below HW.out HK1.out.lt
    have b3 := K3.cell 3
    simp at b3
    have hl3 := K3.lt
    clear K3
    by_cases hlt : k < K
    · have hC := HIH.out (Px.wk f r k) wr (d + 1) (HP1.out k) (by have := HD.out; omega) (HN.out.below (HB1.out.trans (HW.out.mono HB1.out.size)))
      rw [show (Px.wk f r k).bind (Px.wex f) = Px.wk f r (k + 1) from rfl] at hC
      have HC := hd hC
      clear hC
      go_wp2_with fail
      refine HC.out.mono ?_
      rintro e w2 ⟨rfl, hb⟩
      have HW1 : Hid (Below w1.heap.size w1 w2) := HW.out.trans (hb.mono HW.out.size)
      clear hb
      go_wp2_with fail
      go_roundw
      case rel => exact ⟨k + 1, by omega, by go_num, rfl, HW1⟩
      case measure => simp [intOf]; omega
    · have hkc : k = K := by omega
      subst hkc
      go_wp2_with fail
      go_ret
      exact ⟨ret_int (by rw [HWK2.out]), HB1.out.trans (HW.out.mono HB1.out.size)⟩
theorem expr_21 (ao : Option Addr) (cap : Nat) (L : List Px.Nd) (hL : L.length ≤ 16777216) (hT : ∀ x ∈ L, x.text.length ≤ 1000000000) (f : Nat) (ih : ExprAt ao cap L f) (d p : Nat) (hd1 : d + (f + 1) = 41) (xt : Lx.Bs) (xn xc : Int) (r : List Px.Nd) (w : World) (hdr : L.drop p = ⟨21, xt, xn, xc⟩ :: r) (hN : NdL w ao L) :
   ExprGoal ao cap L f d p ⟨21, xt, xn, xc⟩ r w := by
 unfold ExprGoal
 obtain ⟨hp, g, off, rfl, hg, c0, c1, c2, c3⟩ := hN.head hdr
 simp only at c0 c1 c2 c3
 have hdr1 : L.drop (p + 1) = r := by rw [← List.drop_drop, hdr]; rfl
 have hx1 : xt.length ≤ 1000000000 := hT ⟨21, xt, xn, xc⟩ (List.mem_of_mem_drop (by rw [hdr]; exact List.mem_cons_self))
 have hts : (⟨xt.toArray⟩ : ByteArray).size = xt.length := by show xt.toArray.size = _; simp
 have hd2 : d ≤ 40 := by omega
 have HNO : Hid (Px.nodeOk ⟨21, xt, xn, xc⟩ r = false → Px.posZ L (Px.wex (f + 1) (⟨21, xt, xn, xc⟩ :: r)) = -1) := fun h => by rw [Px.wex_no f h]; rfl
 have HYES : Hid (Px.nodeOk ⟨21, xt, xn, xc⟩ r = true → Px.wex (f + 1) (⟨21, xt, xn, xc⟩ :: r) = Px.wk f r xc.toNat ∧ (xc = 0 ∨ xc = 1 ∨ xc = 2)) := fun h => ⟨Px.wex_yes f h, Px.ok_kids h⟩
 have HP1 : Hid (∀ k, Px.Suf L (Px.wk f r k)) := fun k => by rw [← hdr1]; exact Px.wk_suf L f (p + 1) (by omega) k
 have HZ : Hid (Px.posZ L (some r) = ((p : Int) + 1)) := by show _ = _; rw [← hdr1, Px.posZ_at L (p + 1) (by omega)]; omega
 have HDR := hd hdr1
 have HN := hd hN
 have HIH := hd ih
 have HD := hd hd1
 clear hN ih hdr hdr1 hd1 hT
 have hB0 : Below w.heap.size w (w.alloc (.cells #[.int .i64 21, .string ⟨xt.toArray⟩, .int .i64 xn, .int .i64 xc] 43)) := by go_grown
 have HB0 := hd hB0
 have HK0 := hd (Blk.new w #[.int .i64 21, .string ⟨xt.toArray⟩, .int .i64 xn, .int .i64 xc] 43)
 have hs0 := hB0.size
 have hl0 := HK0.out.lt
 clear hB0
 have z1 : (0 : Int) ≤ (p : Int) := by omega
 have z4 : decide ((L.length : Int) ≤ (p : Int)) = false := decide_eq_false (by omega)
 have z5 : decide ((p : Int) < 0) = false := decide_eq_false (by omega)
 have z6 : decide (L.length ≤ p) = false := decide_eq_false (by omega)
 have z7 : (L.length ≤ p) = False := eq_false (by omega)
 have z8 : decide (40 < (d : Int)) = false := decide_eq_false (by omega)
 have z9 : decide (40 < d) = false := decide_eq_false (by omega)
 have hpn : p < 16777216 := by omega
 have HOK : Hid (Px.nodeOk ⟨21, xt, xn, xc⟩ r = Px.bareN ⟨21, xt, xn, xc⟩ 1) := by show _ = _; simp [Px.nodeOk]
 go_enter Tryz.func100, Tryz.ntmps100
 go_wp2_with fail
 refine (bare_any ⟨21, xt, xn, xc⟩ 1 _).mono ?_
 rintro e w1 ⟨rfl, hb⟩
 have HB1 : Hid (Below w.heap.size w w1) := HB0.out.trans (hb.mono hs0)
 have HK1 := hd (HK0.out.below hb hl0)
 clear hb HB0 HK0 hs0 hl0
 cases hbv : Px.bareN ⟨21, xt, xn, xc⟩ 1
 · rw [hbv] at HOK
   clear hbv
   go_wp2_with fail
   go_ret
   exact ⟨ret_int (by rw [HNO.out HOK.out]), HB1.out⟩
 · rw [hbv] at HOK
   clear hbv
   go_wp2_with fail
   obtain ⟨HWK, hkx⟩ := HYES.out HOK.out
   obtain ⟨K, rfl⟩ : ∃ K : Nat, xc = (K : Int) := ⟨xc.toNat, by omega⟩
   have HWK2 : Hid (Px.wex (f + 1) (⟨21, xt, xn, (K : Int)⟩ :: r) = Px.wk f r K) := by show _ = _; rw [HWK, Int.toNat_natCast]
   have hK2 : K ≤ 2 := by omega
   have hl1 := HK1.out.lt
   clear HWK hkx HNO HYES HOK
   go_loopw [1, 11] (fun at' i wr => ∃ k : Nat, k ≤ K ∧ i = .int .i64 k ∧ at' = .int .i64 (Px.posZ L (Px.wk f r k)) ∧ Hid (Below w1.heap.size w1 wr)) (fun _ i _ => K - (intOf i).toNat)
   case atStart => exact ⟨0, by omega, rfl, by rw [show Px.wk f r 0 = some r from rfl, HZ.out], Below.refl _ _⟩
   case round =>
    obtain ⟨k, hk, rfl, rfl, HW⟩ := hrel
    have K3 := HK1.out.below HW.out HK1.out.lt
    have b3 := K3.cell 3
    simp at b3
    have hl3 := K3.lt
    clear K3
    by_cases hlt : k < K
    · have hC := HIH.out (Px.wk f r k) wr (d + 1) (HP1.out k) (by have := HD.out; omega) (HN.out.below (HB1.out.trans (HW.out.mono HB1.out.size)))
      rw [show (Px.wk f r k).bind (Px.wex f) = Px.wk f r (k + 1) from rfl] at hC
      have HC := hd hC
      clear hC
      go_wp2_with fail
      refine HC.out.mono ?_
      rintro e w2 ⟨rfl, hb⟩
      have HW1 : Hid (Below w1.heap.size w1 w2) := HW.out.trans (hb.mono HW.out.size)
      clear hb
      go_wp2_with fail
      go_roundw
      case rel => exact ⟨k + 1, by omega, by go_num, rfl, HW1⟩
      case measure => simp [intOf]; omega
    · have hkc : k = K := by omega
      subst hkc
      go_wp2_with fail
      go_ret
      exact ⟨ret_int (by rw [HWK2.out]), HB1.out.trans (HW.out.mono HB1.out.size)⟩
theorem expr_22 (ao : Option Addr) (cap : Nat) (L : List Px.Nd) (hL : L.length ≤ 16777216) (hT : ∀ x ∈ L, x.text.length ≤ 1000000000) (f : Nat) (ih : ExprAt ao cap L f) (d p : Nat) (hd1 : d + (f + 1) = 41) (xt : Lx.Bs) (xn xc : Int) (r : List Px.Nd) (w : World) (hdr : L.drop p = ⟨22, xt, xn, xc⟩ :: r) (hN : NdL w ao L) :
   ExprGoal ao cap L f d p ⟨22, xt, xn, xc⟩ r w := by
 unfold ExprGoal
 obtain ⟨hp, g, off, rfl, hg, c0, c1, c2, c3⟩ := hN.head hdr
 simp only at c0 c1 c2 c3
 have hdr1 : L.drop (p + 1) = r := by rw [← List.drop_drop, hdr]; rfl
 have hx1 : xt.length ≤ 1000000000 := hT ⟨22, xt, xn, xc⟩ (List.mem_of_mem_drop (by rw [hdr]; exact List.mem_cons_self))
 have hts : (⟨xt.toArray⟩ : ByteArray).size = xt.length := by show xt.toArray.size = _; simp
 have hd2 : d ≤ 40 := by omega
 have HNO : Hid (Px.nodeOk ⟨22, xt, xn, xc⟩ r = false → Px.posZ L (Px.wex (f + 1) (⟨22, xt, xn, xc⟩ :: r)) = -1) := fun h => by rw [Px.wex_no f h]; rfl
 have HYES : Hid (Px.nodeOk ⟨22, xt, xn, xc⟩ r = true → Px.wex (f + 1) (⟨22, xt, xn, xc⟩ :: r) = Px.wk f r xc.toNat ∧ (xc = 0 ∨ xc = 1 ∨ xc = 2)) := fun h => ⟨Px.wex_yes f h, Px.ok_kids h⟩
 have HP1 : Hid (∀ k, Px.Suf L (Px.wk f r k)) := fun k => by rw [← hdr1]; exact Px.wk_suf L f (p + 1) (by omega) k
 have HZ : Hid (Px.posZ L (some r) = ((p : Int) + 1)) := by show _ = _; rw [← hdr1, Px.posZ_at L (p + 1) (by omega)]; omega
 have HDR := hd hdr1
 have HN := hd hN
 have HIH := hd ih
 have HD := hd hd1
 clear hN ih hdr hdr1 hd1 hT
 have hB0 : Below w.heap.size w (w.alloc (.cells #[.int .i64 22, .string ⟨xt.toArray⟩, .int .i64 xn, .int .i64 xc] 43)) := by go_grown
 have HB0 := hd hB0
 have HK0 := hd (Blk.new w #[.int .i64 22, .string ⟨xt.toArray⟩, .int .i64 xn, .int .i64 xc] 43)
 have hs0 := hB0.size
 have hl0 := HK0.out.lt
 clear hB0
 have z1 : (0 : Int) ≤ (p : Int) := by omega
 have z4 : decide ((L.length : Int) ≤ (p : Int)) = false := decide_eq_false (by omega)
 have z5 : decide ((p : Int) < 0) = false := decide_eq_false (by omega)
 have z6 : decide (L.length ≤ p) = false := decide_eq_false (by omega)
 have z7 : (L.length ≤ p) = False := eq_false (by omega)
 have z8 : decide (40 < (d : Int)) = false := decide_eq_false (by omega)
 have z9 : decide (40 < d) = false := decide_eq_false (by omega)
 have hpn : p < 16777216 := by omega
 have HOK : Hid (Px.nodeOk ⟨22, xt, xn, xc⟩ r = Px.bareN ⟨22, xt, xn, xc⟩ 1) := by show _ = _; simp [Px.nodeOk]
 go_enter Tryz.func100, Tryz.ntmps100
 go_wp2_with fail
 refine (bare_any ⟨22, xt, xn, xc⟩ 1 _).mono ?_
 rintro e w1 ⟨rfl, hb⟩
 have HB1 : Hid (Below w.heap.size w w1) := HB0.out.trans (hb.mono hs0)
 have HK1 := hd (HK0.out.below hb hl0)
 clear hb HB0 HK0 hs0 hl0
 cases hbv : Px.bareN ⟨22, xt, xn, xc⟩ 1
 · rw [hbv] at HOK
   clear hbv
   go_wp2_with fail
   go_ret
   exact ⟨ret_int (by rw [HNO.out HOK.out]), HB1.out⟩
 · rw [hbv] at HOK
   clear hbv
   go_wp2_with fail
   obtain ⟨HWK, hkx⟩ := HYES.out HOK.out
   obtain ⟨K, rfl⟩ : ∃ K : Nat, xc = (K : Int) := ⟨xc.toNat, by omega⟩
   have HWK2 : Hid (Px.wex (f + 1) (⟨22, xt, xn, (K : Int)⟩ :: r) = Px.wk f r K) := by show _ = _; rw [HWK, Int.toNat_natCast]
   have hK2 : K ≤ 2 := by omega
   have hl1 := HK1.out.lt
   clear HWK hkx HNO HYES HOK
   go_loopw [1, 11] (fun at' i wr => ∃ k : Nat, k ≤ K ∧ i = .int .i64 k ∧ at' = .int .i64 (Px.posZ L (Px.wk f r k)) ∧ Hid (Below w1.heap.size w1 wr)) (fun _ i _ => K - (intOf i).toNat)
   case atStart => exact ⟨0, by omega, rfl, by rw [show Px.wk f r 0 = some r from rfl, HZ.out], Below.refl _ _⟩
   case round =>
    obtain ⟨k, hk, rfl, rfl, HW⟩ := hrel
    have K3 := HK1.out.below HW.out HK1.out.lt
    have b3 := K3.cell 3
    simp at b3
    have hl3 := K3.lt
    clear K3
    by_cases hlt : k < K
    · have hC := HIH.out (Px.wk f r k) wr (d + 1) (HP1.out k) (by have := HD.out; omega) (HN.out.below (HB1.out.trans (HW.out.mono HB1.out.size)))
      rw [show (Px.wk f r k).bind (Px.wex f) = Px.wk f r (k + 1) from rfl] at hC
      have HC := hd hC
      clear hC
      go_wp2_with fail
      refine HC.out.mono ?_
      rintro e w2 ⟨rfl, hb⟩
      have HW1 : Hid (Below w1.heap.size w1 w2) := HW.out.trans (hb.mono HW.out.size)
      clear hb
      go_wp2_with fail
      go_roundw
      case rel => exact ⟨k + 1, by omega, by go_num, rfl, HW1⟩
      case measure => simp [intOf]; omega
    · have hkc : k = K := by omega
      subst hkc
      go_wp2_with fail
      go_ret
      exact ⟨ret_int (by rw [HWK2.out]), HB1.out.trans (HW.out.mono HB1.out.size)⟩
end Rf
namespace Rf
theorem expr_bin (ao : Option Addr) (cap : Nat) (L : List Px.Nd) (hL : L.length ≤ 16777216) (hT : ∀ x ∈ L, x.text.length ≤ 1000000000) (f : Nat) (ih : ExprAt ao cap L f) (d p : Nat) (hd1 : d + (f + 1) = 41) (kd : Int) (xt : Lx.Bs) (xn xc : Int) (r : List Px.Nd) (w : World) (hdr : L.drop p = ⟨kd, xt, xn, xc⟩ :: r) (hN : NdL w ao L) (hk1 : 23 ≤ kd) (hk2 : kd ≤ 36) :
   ExprGoal ao cap L f d p ⟨kd, xt, xn, xc⟩ r w := by
 unfold ExprGoal
 obtain ⟨hp, g, off, rfl, hg, c0, c1, c2, c3⟩ := hN.head hdr
 simp only at c0 c1 c2 c3
 have hdr1 : L.drop (p + 1) = r := by rw [← List.drop_drop, hdr]; rfl
 have hx1 : xt.length ≤ 1000000000 := hT ⟨kd, xt, xn, xc⟩ (List.mem_of_mem_drop (by rw [hdr]; exact List.mem_cons_self))
 have hts : (⟨xt.toArray⟩ : ByteArray).size = xt.length := by show xt.toArray.size = _; simp
 have hd2 : d ≤ 40 := by omega
 have HNO : Hid (Px.nodeOk ⟨kd, xt, xn, xc⟩ r = false → Px.posZ L (Px.wex (f + 1) (⟨kd, xt, xn, xc⟩ :: r)) = -1) := fun h => by rw [Px.wex_no f h]; rfl
 have HYES : Hid (Px.nodeOk ⟨kd, xt, xn, xc⟩ r = true → Px.wex (f + 1) (⟨kd, xt, xn, xc⟩ :: r) = Px.wk f r xc.toNat ∧ (xc = 0 ∨ xc = 1 ∨ xc = 2)) := fun h => ⟨Px.wex_yes f h, Px.ok_kids h⟩
 have HP1 : Hid (∀ k, Px.Suf L (Px.wk f r k)) := fun k => by rw [← hdr1]; exact Px.wk_suf L f (p + 1) (by omega) k
 have HZ : Hid (Px.posZ L (some r) = ((p : Int) + 1)) := by show _ = _; rw [← hdr1, Px.posZ_at L (p + 1) (by omega)]; omega
 have HDR := hd hdr1
 have HN := hd hN
 have HIH := hd ih
 have HD := hd hd1
 clear hN ih hdr hdr1 hd1 hT
 have hB0 : Below w.heap.size w (w.alloc (.cells #[.int .i64 kd, .string ⟨xt.toArray⟩, .int .i64 xn, .int .i64 xc] 43)) := by go_grown
 have HB0 := hd hB0
 have HK0 := hd (Blk.new w #[.int .i64 kd, .string ⟨xt.toArray⟩, .int .i64 xn, .int .i64 xc] 43)
 have hs0 := hB0.size
 have hl0 := HK0.out.lt
 clear hB0
 have z1 : (0 : Int) ≤ (p : Int) := by omega
 have z4 : decide ((L.length : Int) ≤ (p : Int)) = false := decide_eq_false (by omega)
 have z5 : decide ((p : Int) < 0) = false := decide_eq_false (by omega)
 have z6 : decide (L.length ≤ p) = false := decide_eq_false (by omega)
 have z7 : (L.length ≤ p) = False := eq_false (by omega)
 have z8 : decide (40 < (d : Int)) = false := decide_eq_false (by omega)
 have z9 : decide (40 < d) = false := decide_eq_false (by omega)
 have hpn : p < 16777216 := by omega
 have b14 : (kd == 14) = false := by simp; omega
 have b15 : (kd == 15) = false := by simp; omega
 have b16 : (kd == 16) = false := by simp; omega
 have b17 : (kd == 17) = false := by simp; omega
 have b18 : (kd == 18) = false := by simp; omega
 have b19 : (kd == 19) = false := by simp; omega
 have b20 : (kd == 20) = false := by simp; omega
 have b21 : (kd == 21) = false := by simp; omega
 have b22 : (kd == 22) = false := by simp; omega
 have HOK : Hid (Px.nodeOk ⟨kd, xt, xn, xc⟩ r = Px.bareN ⟨kd, xt, xn, xc⟩ 2) := by show _ = _; unfold Px.nodeOk; dsimp only; rw [if_neg (by omega), if_neg (by omega), if_neg (by omega), if_neg (by omega), if_neg (by omega), if_neg (by omega), if_neg (by omega), decide_eq_true ⟨hk1, hk2⟩, Bool.true_and]
 go_enter Tryz.func100, Tryz.ntmps100
 go_wp2_with fail
 refine (bare_any ⟨kd, xt, xn, xc⟩ 2 _).mono ?_
 rintro e w1 ⟨rfl, hb⟩
 have HB1 : Hid (Below w.heap.size w w1) := HB0.out.trans (hb.mono hs0)
 have HK1 := hd (HK0.out.below hb hl0)
 clear hb HB0 HK0 hs0 hl0
 cases hbv : Px.bareN ⟨kd, xt, xn, xc⟩ 2
 · rw [hbv] at HOK
   clear hbv
   go_wp2_with fail
   go_ret
   exact ⟨ret_int (by rw [HNO.out HOK.out]), HB1.out⟩
 · rw [hbv] at HOK
   clear hbv
   go_wp2_with fail
   obtain ⟨HWK, hkx⟩ := HYES.out HOK.out
   obtain ⟨K, rfl⟩ : ∃ K : Nat, xc = (K : Int) := ⟨xc.toNat, by omega⟩
   have HWK2 : Hid (Px.wex (f + 1) (⟨kd, xt, xn, (K : Int)⟩ :: r) = Px.wk f r K) := by show _ = _; rw [HWK, Int.toNat_natCast]
   have hK2 : K ≤ 2 := by omega
   have hl1 := HK1.out.lt
   clear HWK hkx HNO HYES HOK
   go_loopw [1, 11] (fun at' i wr => ∃ k : Nat, k ≤ K ∧ i = .int .i64 k ∧ at' = .int .i64 (Px.posZ L (Px.wk f r k)) ∧ Hid (Below w1.heap.size w1 wr)) (fun _ i _ => K - (intOf i).toNat)
   case atStart => exact ⟨0, by omega, rfl, by rw [show Px.wk f r 0 = some r from rfl, HZ.out], Below.refl _ _⟩
   case round =>
    obtain ⟨k, hk, rfl, rfl, HW⟩ := hrel
    have K3 := HK1.out.below HW.out HK1.out.lt
    have b3 := K3.cell 3
    simp at b3
    have hl3 := K3.lt
    clear K3
    by_cases hlt : k < K
    · have hC := HIH.out (Px.wk f r k) wr (d + 1) (HP1.out k) (by have := HD.out; omega) (HN.out.below (HB1.out.trans (HW.out.mono HB1.out.size)))
      rw [show (Px.wk f r k).bind (Px.wex f) = Px.wk f r (k + 1) from rfl] at hC
      have HC := hd hC
      clear hC
      go_wp2_with fail
      refine HC.out.mono ?_
      rintro e w2 ⟨rfl, hb⟩
      have HW1 : Hid (Below w1.heap.size w1 w2) := HW.out.trans (hb.mono HW.out.size)
      clear hb
      go_wp2_with fail
      go_roundw
      case rel => exact ⟨k + 1, by omega, by go_num, rfl, HW1⟩
      case measure => simp [intOf]; omega
    · have hkc : k = K := by omega
      subst hkc
      go_wp2_with fail
      go_ret
      exact ⟨ret_int (by rw [HWK2.out]), HB1.out.trans (HW.out.mono HB1.out.size)⟩
theorem expr_other (ao : Option Addr) (cap : Nat) (L : List Px.Nd) (hL : L.length ≤ 16777216) (hT : ∀ x ∈ L, x.text.length ≤ 1000000000) (f : Nat) (ih : ExprAt ao cap L f) (d p : Nat) (hd1 : d + (f + 1) = 41) (kd : Int) (xt : Lx.Bs) (xn xc : Int) (r : List Px.Nd) (w : World) (hdr : L.drop p = ⟨kd, xt, xn, xc⟩ :: r) (hN : NdL w ao L) (hk : kd < 14 ∨ 36 < kd) :
   ExprGoal ao cap L f d p ⟨kd, xt, xn, xc⟩ r w := by
 unfold ExprGoal
 obtain ⟨hp, g, off, rfl, hg, c0, c1, c2, c3⟩ := hN.head hdr
 simp only at c0 c1 c2 c3
 have hdr1 : L.drop (p + 1) = r := by rw [← List.drop_drop, hdr]; rfl
 have hx1 : xt.length ≤ 1000000000 := hT ⟨kd, xt, xn, xc⟩ (List.mem_of_mem_drop (by rw [hdr]; exact List.mem_cons_self))
 have hts : (⟨xt.toArray⟩ : ByteArray).size = xt.length := by show xt.toArray.size = _; simp
 have hd2 : d ≤ 40 := by omega
 have HNO : Hid (Px.nodeOk ⟨kd, xt, xn, xc⟩ r = false → Px.posZ L (Px.wex (f + 1) (⟨kd, xt, xn, xc⟩ :: r)) = -1) := fun h => by rw [Px.wex_no f h]; rfl
 have HYES : Hid (Px.nodeOk ⟨kd, xt, xn, xc⟩ r = true → Px.wex (f + 1) (⟨kd, xt, xn, xc⟩ :: r) = Px.wk f r xc.toNat ∧ (xc = 0 ∨ xc = 1 ∨ xc = 2)) := fun h => ⟨Px.wex_yes f h, Px.ok_kids h⟩
 have HP1 : Hid (∀ k, Px.Suf L (Px.wk f r k)) := fun k => by rw [← hdr1]; exact Px.wk_suf L f (p + 1) (by omega) k
 have HZ : Hid (Px.posZ L (some r) = ((p : Int) + 1)) := by show _ = _; rw [← hdr1, Px.posZ_at L (p + 1) (by omega)]; omega
 have HDR := hd hdr1
 have HN := hd hN
 have HIH := hd ih
 have HD := hd hd1
 clear hN ih hdr hdr1 hd1 hT
 have hB0 : Below w.heap.size w (w.alloc (.cells #[.int .i64 kd, .string ⟨xt.toArray⟩, .int .i64 xn, .int .i64 xc] 43)) := by go_grown
 have HB0 := hd hB0
 have HK0 := hd (Blk.new w #[.int .i64 kd, .string ⟨xt.toArray⟩, .int .i64 xn, .int .i64 xc] 43)
 have hs0 := hB0.size
 have hl0 := HK0.out.lt
 clear hB0
 have z1 : (0 : Int) ≤ (p : Int) := by omega
 have z4 : decide ((L.length : Int) ≤ (p : Int)) = false := decide_eq_false (by omega)
 have z5 : decide ((p : Int) < 0) = false := decide_eq_false (by omega)
 have z6 : decide (L.length ≤ p) = false := decide_eq_false (by omega)
 have z7 : (L.length ≤ p) = False := eq_false (by omega)
 have z8 : decide (40 < (d : Int)) = false := decide_eq_false (by omega)
 have z9 : decide (40 < d) = false := decide_eq_false (by omega)
 have hpn : p < 16777216 := by omega
 have b14 : (kd == 14) = false := by simp; omega
 have b15 : (kd == 15) = false := by simp; omega
 have b16 : (kd == 16) = false := by simp; omega
 have b17 : (kd == 17) = false := by simp; omega
 have b18 : (kd == 18) = false := by simp; omega
 have b19 : (kd == 19) = false := by simp; omega
 have b20 : (kd == 20) = false := by simp; omega
 have b21 : (kd == 21) = false := by simp; omega
 have b22 : (kd == 22) = false := by simp; omega
 have HOK : Hid (Px.nodeOk ⟨kd, xt, xn, xc⟩ r = false) := by show _ = _; unfold Px.nodeOk; dsimp only; rw [if_neg (by omega), if_neg (by omega), if_neg (by omega), if_neg (by omega), if_neg (by omega), if_neg (by omega), if_neg (by omega), decide_eq_false (by omega), Bool.false_and]
 by_cases kl : kd < 23
 · go_enter Tryz.func100, Tryz.ntmps100
   go_wp2_with fail
   go_ret
   exact ⟨ret_int (by rw [HNO.out HOK.out]), HB0.out⟩
 · have kh : 36 < kd := by omega
   go_enter Tryz.func100, Tryz.ntmps100
   go_wp2_with fail
   go_ret
   exact ⟨ret_int (by rw [HNO.out HOK.out]), HB0.out⟩
end Rf
namespace Rf
theorem expr_any (ao : Option Addr) (cap : Nat) (L : List Px.Nd) (hL : L.length ≤ 16777216) (hT : ∀ x ∈ L, x.text.length ≤ 1000000000) : ∀ f, f ≤ 40 → ExprAt ao cap L f := by
 intro f
 induction f with
 | zero =>
  intro hf o w d hs hdf hN
  have e : o.bind (Px.wex 0) = none := by cases o <;> rfl
  rw [e]
  refine expr_no ao cap L hL _ d ?_ (by omega) (.inr (.inr (by omega))) w
  rcases hs.cases with rfl | ⟨p, hp, rfl⟩
  · show -1 ≤ (-1 : Int) ∧ (-1 : Int) ≤ _; omega
  · rw [Px.posZ_at L p hp]; omega
 | succ f ih =>
  intro hf o w d hs hdf hN
  have IH := ih (by omega)
  rcases hs.cases with rfl | ⟨p, hp, rfl⟩
  · exact expr_no ao cap L hL (-1) d (by omega) (by omega) (.inl (by omega)) w
  · rw [Px.posZ_at L p hp]
    simp only [Option.bind_some]
    rcases Nat.lt_or_ge p L.length with h1 | h1
    · have hdr := List.drop_eq_getElem_cons h1
      rw [hdr]
      generalize L[p] = x at hdr
      generalize L.drop (p + 1) = r at hdr
      obtain ⟨kd, xt, xn, xc⟩ := x
      by_cases k14 : kd = 14
      · subst k14; exact expr_14 ao cap L hL hT f IH d p hdf xt xn xc r w hdr hN
      by_cases k15 : kd = 15
      · subst k15; exact expr_15 ao cap L hL hT f IH d p hdf xt xn xc r w hdr hN
      by_cases k16 : kd = 16
      · subst k16; exact expr_16 ao cap L hL hT f IH d p hdf xt xn xc r w hdr hN
      by_cases k17 : kd = 17
      · subst k17; exact expr_17 ao cap L hL hT f IH d p hdf xt xn xc r w hdr hN
      by_cases k18 : kd = 18
      · subst k18; exact expr_18 ao cap L hL hT f IH d p hdf xt xn xc r w hdr hN
      by_cases k19 : kd = 19
      · subst k19; exact expr_19 ao cap L hL hT f IH d p hdf xt xn xc r w hdr hN
      by_cases k20 : kd = 20
      · subst k20; exact expr_20 ao cap L hL hT f IH d p hdf xt xn xc r w hdr hN
      by_cases k21 : kd = 21
      · subst k21; exact expr_21 ao cap L hL hT f IH d p hdf xt xn xc r w hdr hN
      by_cases k22 : kd = 22
      · subst k22; exact expr_22 ao cap L hL hT f IH d p hdf xt xn xc r w hdr hN
      by_cases kr : 23 ≤ kd ∧ kd ≤ 36
      · exact expr_bin ao cap L hL hT f IH d p hdf kd xt xn xc r w hdr hN kr.1 kr.2
      · exact expr_other ao cap L hL hT f IH d p hdf kd xt xn xc r w hdr hN (by omega)
    · have e : L.drop p = [] := List.drop_eq_nil_of_le h1
      rw [e]
      exact expr_no ao cap L hL p d (by omega) (by omega) (.inr (.inl (by omega))) w
def PartGoal (ao : Option Addr) (cap : Nat) (L : List Px.Nd) (p : Nat) (x : Px.Nd) (r : List Px.Nd) (w : World) : Prop :=
   Calls Tryz.prog 60 #[.slice ao L.length cap, .int .i64 (p : Int)] w fun y w' => y = .returned (.int .i64 (Px.posZ L (Px.wpart (x :: r)))) ∧ Below w.heap.size w w'
end Rf
end Go.Proofs.YtkcakbgcfnhgaaaGreatDoor
