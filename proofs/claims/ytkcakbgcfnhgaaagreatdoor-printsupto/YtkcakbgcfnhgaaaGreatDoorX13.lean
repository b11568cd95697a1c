/- Parts of the proof: Ts Va Wg Wh Wi Wj -/
import Derived.Test.YtkcakbgcfnhgaaaGreatDoorX12
import Derived.Test.YtkcakbgcfnhgaaaGreatDoorX11
import Derived.Test.YtkcakbgcfnhgaaaGreatDoorX7
import Derived.Test.YtkcakbgcfnhgaaaGreatDoorX4
import Derived.Deep.RegionHeld
import Derived.Test.YtkcakbgcfnhgaaaGreatDoorX5
namespace Go.Proofs.YtkcakbgcfnhgaaaGreatDoor
set_option linter.unusedSimpArgs false
set_option linter.unusedVariables false
set_option maxRecDepth 100000
set_option maxHeartbeats 16000000
open Go.RowKit
namespace Px
def wfin (kd xc : Int) : Option Nat → Bool
 | none => false
 | some th => if kd = 1 then decide (1 ≤ th ∧ th ≤ 6) else if kd = 3 then decide (xc = 0) else if kd = 4 ∨ kd = 7 ∨ kd = 9 then decide (1 ≤ th) else decide (kd = 6)
theorem well_is (kd : Int) (xt : Lx.Bs) (xn xc : Int) (r : List Nd) (h1 : isName xt = true) (h2 : xn = 0) (h3 : ¬ xc < 0) (h4 : ¬ (r.length : Int) + 1 < xc) : well (⟨kd, xt, xn, xc⟩ :: r) = wfin kd xc (wparts kd xc.toNat 1 0 r) := by
 simp only [well]
 rw [if_neg (by rintro (a | a | a | a) <;> first | (rw [h1] at a; cases a) | omega)]
 cases wparts kd xc.toNat 1 0 r <;> rfl
theorem well_no (kd : Int) (xt : Lx.Bs) (xn xc : Int) (r : List Nd) (h : isName xt = false ∨ xn ≠ 0 ∨ xc < 0 ∨ (r.length : Int) + 1 < xc) : well (⟨kd, xt, xn, xc⟩ :: r) = false := by
 simp only [well]
 rw [if_pos h]
theorem rank_le (k : Int) : 1 ≤ rank k ∧ rank k ≤ 4 := by
 rcases rank_cases k with h | h | h | h <;> omega
theorem wpart_suf (L : List Nd) (p : Nat) (x : Nd) (r : List Nd) (h : L.drop p = x :: r) : Suf L (wpart (x :: r)) := by
 have hp : p < L.length := by
  rcases Nat.lt_or_ge p L.length with h1 | h1
  · exact h1
  · rw [List.drop_eq_nil_of_le h1] at h; cases h
 have hr : L.drop (p + 1) = r := by rw [← List.drop_drop, h]; rfl
 have s1 : Suf L (some r) := by rw [← hr]; exact Suf.at L (p + 1) hp
 have s2 : Suf L (wex 40 r) := by rw [← hr]; exact wex_suf L 40 (p + 1)
 have s3 : ∀ k, Suf L (wexs k r) := fun k => by rw [wexs_wk, ← hr]; exact wk_suf L 40 (p + 1) hp k
 have s4 : Suf L (wex 40 (x :: r)) := by rw [← h]; exact wex_suf L 40 p
 simp only [wpart]
 repeat' split
 all_goals first | exact s1 | exact s2 | exact s3 _ | exact s4 | exact Suf.none L
end Px
namespace Rf
theorem well_nil (ao : Option Addr) (cap : Nat) (w : World) :
   Calls Tryz.prog 36 #[.slice ao 0 cap] w fun y w' => y = .returned (.bool false) ∧ Below w.heap.size w w' := by
 go_enter Tryz.func36, Tryz.ntmps36
 go_wp2_with fail
 go_ret
 exact ⟨rfl, Below.refl _ _⟩
theorem well_cons (ao : Option Addr) (cap : Nat) (L : List Px.Nd) (hL : L.length ≤ 16777216) (hT : ∀ x ∈ L, x.text.length ≤ 1000000000) (hK : ∀ x ∈ L, x.kids ≤ 9223372036854775807) (kd : Int) (xt : Lx.Bs) (xn xc : Int) (r : List Px.Nd) (w : World) (hdr : L = ⟨kd, xt, xn, xc⟩ :: r) (hN : NdL w ao L) :
   Calls Tryz.prog 36 #[.slice ao L.length cap] w fun y w' => y = .returned (.bool (Px.well (⟨kd, xt, xn, xc⟩ :: r))) ∧ Below w.heap.size w w' := by
 have HP := hd (fun p x r w h1 h2 => part_any ao cap L hL hT hK p x r w h1 h2)
 obtain ⟨hp, g, off, rfl, hg, c0, c1, c2, c3⟩ := hN.head (p := 0) (x := ⟨kd, xt, xn, xc⟩) (r := r) (by rw [List.drop_zero]; exact hdr)
 simp only [Nat.zero_mul, Nat.add_zero] at c0 c1 c2 c3
 have hx1 : xt.length ≤ 1000000000 := hT ⟨kd, xt, xn, xc⟩ (by rw [hdr]; exact List.mem_cons_self)
 have hts : (⟨xt.toArray⟩ : ByteArray).size = xt.length := by show xt.toArray.size = _; simp
 have hrl : L.length = r.length + 1 := by rw [hdr]; rfl
 have HRL := hd hrl
 have HDR : Hid (L.drop 1 = r) := by show _ = _; rw [hdr]; rfl
 have HN := hd hN
 have hn0 : ((L.length : Int) == 0) = false := by rw [beq_eq_false_iff_ne]; omega
 have hb0 : (L.length == 0) = false := by rw [beq_eq_false_iff_ne]; omega
 have hB0 : Below w.heap.size w (w.alloc (.cells #[.int .i64 kd, .string ⟨xt.toArray⟩, .int .i64 xn, .int .i64 xc] 43)) := by go_grown
 have HB0 := hd hB0
 have HK0 := hd (Blk.new w #[.int .i64 kd, .string ⟨xt.toArray⟩, .int .i64 xn, .int .i64 xc] 43)
 have hs0 := hB0.size
 have hl0 := HK0.out.lt
 have hlp : 0 < (L.length : Int) := by omega
 clear hN hdr hT hK hrl hB0
 have hV := isName_any ⟨xt.toArray⟩ (w.alloc (.cells #[.int .i64 kd, .string ⟨xt.toArray⟩, .int .i64 xn, .int .i64 xc] 43)) (by omega)
 rw [show (⟨xt.toArray⟩ : ByteArray).data.toList = xt by simp] at hV
 cases hv : Px.isName xt
 · rw [hv] at hV
   have HV := hd hV
   clear hV
   have HR : Hid (Px.well (⟨kd, xt, xn, xc⟩ :: r) = false) := Px.well_no kd xt xn xc r (.inl hv)
   clear hv
   go_enter Tryz.func36, Tryz.ntmps36
   go_wp2_with fail
   refine HV.out.mono ?_
   rintro e w9 ⟨rfl, rfl⟩
   go_wp2_with fail
   go_ret
   exact ⟨ret_bool HR.out.symm, HB0.out⟩
 · rw [hv] at hV
   have HV := hd hV
   clear hV
   by_cases h0 : xn = 0
   · have bh0 : (xn == 0) = true := by simpa using h0
     have nh0 : (xn != 0) = false := by simpa using h0
     by_cases h2 : xc < 0
     · have HR : Hid (Px.well (⟨kd, xt, xn, xc⟩ :: r) = false) := Px.well_no kd xt xn xc r (.inr (.inr (.inl h2)))
       clear hv h0
       go_enter Tryz.func36, Tryz.ntmps36
       go_wp2_with fail
       refine HV.out.mono ?_
       rintro e w9 ⟨rfl, rfl⟩
       go_wp2_with fail
       go_ret
       exact ⟨ret_bool HR.out.symm, HB0.out⟩
     · by_cases h3 : (L.length : Int) < xc
       · have HR : Hid (Px.well (⟨kd, xt, xn, xc⟩ :: r) = false) := Px.well_no kd xt xn xc r (.inr (.inr (.inr (by have := HRL.out; omega))))
         clear hv h0
         have h2' := Int.not_lt.1 h2
         go_enter Tryz.func36, Tryz.ntmps36
         go_wp2_with fail
         refine HV.out.mono ?_
         rintro e w9 ⟨rfl, rfl⟩
         go_wp2_with fail
         go_ret
         exact ⟨ret_bool HR.out.symm, HB0.out⟩
       · have HR : Hid (Px.well (⟨kd, xt, xn, xc⟩ :: r) = Px.wfin kd xc (Px.wparts kd xc.toNat 1 0 r)) := Px.well_is kd xt xn xc r hv h0 h2 (by have := HRL.out; omega)
         clear hv
         clear h0
         obtain ⟨K, rfl⟩ : ∃ K : Nat, xc = (K : Int) := ⟨xc.toNat, by omega⟩
         rw [Int.toNat_natCast] at HR
         have hKL : K ≤ L.length := by omega
         have h2' := Int.not_lt.1 h2
         have h3' := Int.not_lt.1 h3
         have h4' : decide (L.length < K) = false := decide_eq_false (by omega)
         have h5' : (L.length < K) = False := eq_false (by omega)
         have h6' : decide ((K : Int) < 0) = false := decide_eq_false (by omega)
         go_enter Tryz.func36, Tryz.ntmps36
         go_wp2_with fail
         refine HV.out.mono ?_
         rintro e w9 ⟨rfl, rfl⟩
         go_wp2_with fail
         have HB1 := HB0
         have HK1 := HK0
         clear HB0 HK0 hs0 hl0
         generalize w.alloc (.cells #[.int .i64 kd, .string ⟨xt.toArray⟩, .int .i64 xn, .int .i64 (K : Int)] 43) = w1 at *
         have hl1 := HK1.out.lt
         go_loopw [5, 6, 7, 8] (fun at' la' th' i wr => ∃ k q last th : Nat, k ≤ K ∧ i = .int .i64 k ∧ at' = .int .i64 q ∧ la' = .int .i64 last ∧ th' = .int .i64 th ∧ q ≤ L.length ∧ 1 ≤ last ∧ last ≤ 4 ∧ th ≤ k ∧ Hid (Px.wparts kd K 1 0 r = Px.wparts kd (K - k) last th (L.drop q)) ∧ Hid (Below w1.heap.size w1 wr)) (fun _ _ _ i _ => K - (intOf i).toNat)
         case atStart => exact ⟨0, 1, 1, 0, by omega, rfl, rfl, rfl, rfl, by omega, by omega, by omega, by omega, by show _ = _; rw [HDR.out]; rfl, Below.refl _ _⟩
         case round =>
          obtain ⟨k, q, last, th, hk, rfl, rfl, rfl, rfl, hq, hl1', hl4, hth, HG, HW⟩ := hrel
          have K3 := HK1.out.below HW.out HK1.out.lt
          have b0 := K3.cell 0
          have b3 := K3.cell 3
          simp at b0 b3
          have hl3 := K3.lt
          clear K3
          have HBR : Hid (Below w.heap.size w wr) := HB1.out.trans (HW.out.mono HB1.out.size)
          by_cases hlt : k < K
          · have HM : Hid (K - k = K - (k + 1) + 1) := by show _ = _; omega
            by_cases hql : q = L.length
            · have HF : Hid (Px.wparts kd K 1 0 r = none) := by show _ = _; rw [HG.out, HM.out, hql, List.drop_length]; rfl
              have hql2 : (L.length : Int) ≤ (q : Int) := by omega
              clear hql
              go_wp2_with fail
              go_ret
              exact ⟨ret_bool (by rw [HR.out, HF.out]; rfl), HBR.out⟩
            · have hql2 : q < L.length := by omega
              have hdq := List.drop_eq_getElem_cons hql2
              generalize L[q] = y at hdq
              generalize L.drop (q + 1) = r2 at hdq
              obtain ⟨yk, yt, yn, yc⟩ := y
              rw [hdq] at HG
              have HSUF := hd (Px.wpart_suf L q _ _ hdq)
              have hNr := HN.out.below HBR.out
              obtain ⟨_, g2, off2, e2, hg2, d0, _⟩ := hNr.head hdq
              cases e2
              simp only at d0
              have HC := HP.out q _ _ wr hdq hNr
              unfold PartGoal at HC
              have HC := hd HC
              clear hNr hdq
              have hz1 : (q : Int) < (L.length : Int) := by omega
              have hrk4 := Px.rank_le yk
              go_wp2_with fail
              refine (rank_any yk wr).mono ?_
              rintro e w8 ⟨rfl, rfl⟩
              go_wp2_with fail
              refine (fits_any kd yk w8).mono ?_
              rintro e w7 ⟨rfl, rfl⟩
              cases hfit : Px.fits kd yk
              · have HF : Hid (Px.wparts kd K 1 0 r = none) := by show _ = _; rw [HG.out, HM.out]; exact Px.wp_no _ _ _ _ _ _ (.inl hfit)
                clear hfit
                go_wp2_with fail
                go_ret
                exact ⟨ret_bool (by rw [HR.out, HF.out]; rfl), HBR.out⟩
              · generalize hrk : Px.rank yk = rk at *
                by_cases hla : rk < last
                · have HF : Hid (Px.wparts kd K 1 0 r = none) := by show _ = _; rw [HG.out, HM.out]; exact Px.wp_no _ _ _ _ _ _ (.inr (.inl (by rw [hrk]; exact hla)))
                  have hla2 : (rk : Int) < (last : Int) := by omega
                  clear hfit hrk
                  go_wp2_with fail
                  go_ret
                  exact ⟨ret_bool (by rw [HR.out, HF.out]; rfl), HBR.out⟩
                · by_cases hle : rk = last
                  · subst hle
                    clear hla
                    rcases (show rk = 1 ∨ rk = 2 ∨ rk = 3 ∨ rk = 4 by omega) with rfl | rfl | rfl | rfl
                    · have HGO : Hid (Px.wparts kd K 1 0 r = (Px.wpart (⟨yk, yt, yn, yc⟩ :: r2)).bind (Px.wparts kd (K - (k + 1)) 1 (th + 1))) := by
                       show _ = _
                       rw [HG.out, HM.out, Px.wp_go _ _ _ _ _ _ (by dsimp only; rw [hfit, hrk]; rintro (a | a | a) <;> first | omega | cases a)]
                       dsimp only
                       rw [hrk]
                       rfl
                      clear hfit hrk hrk4
                      go_wp2_with fail
                      refine HC.out.mono ?_
                      rintro e w2 ⟨rfl, hb⟩
                      have HW2 : Hid (Below w1.heap.size w1 w2) := HW.out.trans (hb.mono HW.out.size)
                      have HBR2 : Hid (Below w.heap.size w w2) := HBR.out.trans (hb.mono HBR.out.size)
                      clear hb
                      rcases HSUF.out.cases with hno | ⟨q2, hq2, hyes⟩
                      · have HF : Hid (Px.wparts kd K 1 0 r = none) := by show _ = _; rw [HGO.out, hno]; rfl
                        rw [hno, show Px.posZ L none = -1 from rfl]
                        clear hno
                        go_wp2_with fail
                        go_ret
                        exact ⟨ret_bool (by rw [HR.out, HF.out]; rfl), HBR2.out⟩
                      · have HG2 : Hid (Px.wparts kd K 1 0 r = Px.wparts kd (K - (k + 1)) 1 (th + 1) (L.drop q2)) := by show _ = _; rw [HGO.out, hyes]; rfl
                        rw [hyes, Px.posZ_at L q2 hq2]
                        have hq3 : ¬ ((q2 : Int) < 0) := by omega
                        have hq4 : decide ((q2 : Int) < 0) = false := decide_eq_false (by omega)
                        clear hyes
                        go_wp2_with fail
                        go_roundw
                        case rel => exact ⟨k + 1, q2, 1, (th + 1), by omega, by go_num, rfl, rfl, by go_num, hq2, by omega, by omega, by omega, HG2, HW2⟩
                        case measure => simp [intOf]; omega
                    · have HF : Hid (Px.wparts kd K 1 0 r = none) := by show _ = _; rw [HG.out, HM.out]; exact Px.wp_no _ _ _ _ _ _ (.inr (.inr (by rw [hrk]; exact ⟨rfl, .inl rfl⟩)))
                      clear hfit hrk
                      go_wp2_with fail
                      go_ret
                      exact ⟨ret_bool (by rw [HR.out, HF.out]; rfl), HBR.out⟩
                    · have HGO : Hid (Px.wparts kd K 1 0 r = (Px.wpart (⟨yk, yt, yn, yc⟩ :: r2)).bind (Px.wparts kd (K - (k + 1)) 3 th)) := by
                       show _ = _
                       rw [HG.out, HM.out, Px.wp_go _ _ _ _ _ _ (by dsimp only; rw [hfit, hrk]; rintro (a | a | a) <;> first | omega | cases a)]
                       dsimp only
                       rw [hrk]
                       rfl
                      clear hfit hrk hrk4
                      go_wp2_with fail
                      refine HC.out.mono ?_
                      rintro e w2 ⟨rfl, hb⟩
                      have HW2 : Hid (Below w1.heap.size w1 w2) := HW.out.trans (hb.mono HW.out.size)
                      have HBR2 : Hid (Below w.heap.size w w2) := HBR.out.trans (hb.mono HBR.out.size)
                      clear hb
                      rcases HSUF.out.cases with hno | ⟨q2, hq2, hyes⟩
                      · have HF : Hid (Px.wparts kd K 1 0 r = none) := by show _ = _; rw [HGO.out, hno]; rfl
                        rw [hno, show Px.posZ L none = -1 from rfl]
                        clear hno
                        go_wp2_with fail
                        go_ret
                        exact ⟨ret_bool (by rw [HR.out, HF.out]; rfl), HBR2.out⟩
                      · have HG2 : Hid (Px.wparts kd K 1 0 r = Px.wparts kd (K - (k + 1)) 3 th (L.drop q2)) := by show _ = _; rw [HGO.out, hyes]; rfl
                        rw [hyes, Px.posZ_at L q2 hq2]
                        have hq3 : ¬ ((q2 : Int) < 0) := by omega
                        have hq4 : decide ((q2 : Int) < 0) = false := decide_eq_false (by omega)
                        clear hyes
                        go_wp2_with fail
                        go_roundw
                        case rel => exact ⟨k + 1, q2, 3, th, by omega, by go_num, rfl, rfl, rfl, hq2, by omega, by omega, by omega, HG2, HW2⟩
                        case measure => simp [intOf]; omega
                    · have HF : Hid (Px.wparts kd K 1 0 r = none) := by show _ = _; rw [HG.out, HM.out]; exact Px.wp_no _ _ _ _ _ _ (.inr (.inr (by rw [hrk]; exact ⟨rfl, .inr rfl⟩)))
                      clear hfit hrk
                      go_wp2_with fail
                      go_ret
                      exact ⟨ret_bool (by rw [HR.out, HF.out]; rfl), HBR.out⟩
                  · have hgt : last < rk := by omega
                    clear hla hle
                    rcases (show rk = 2 ∨ rk = 3 ∨ rk = 4 by omega) with rfl | rfl | rfl
                    · have hgt2 : (last : Int) < 2 := by omega
                      have hgt3 : ((2 : Int) == (last : Int)) = false := by simp; omega
                      have hgt4 : ¬ ((2 : Int) < (last : Int)) := by omega
                      have HGO : Hid (Px.wparts kd K 1 0 r = (Px.wpart (⟨yk, yt, yn, yc⟩ :: r2)).bind (Px.wparts kd (K - (k + 1)) 2 th)) := by
                       show _ = _
                       rw [HG.out, HM.out, Px.wp_go _ _ _ _ _ _ (by dsimp only; rw [hfit, hrk]; rintro (a | a | a) <;> first | omega | cases a)]
                       dsimp only
                       rw [hrk]
                       rfl
                      clear hfit hrk hrk4
                      go_wp2_with fail
                      refine HC.out.mono ?_
                      rintro e w2 ⟨rfl, hb⟩
                      have HW2 : Hid (Below w1.heap.size w1 w2) := HW.out.trans (hb.mono HW.out.size)
                      have HBR2 : Hid (Below w.heap.size w w2) := HBR.out.trans (hb.mono HBR.out.size)
                      clear hb
                      rcases HSUF.out.cases with hno | ⟨q2, hq2, hyes⟩
                      · have HF : Hid (Px.wparts kd K 1 0 r = none) := by show _ = _; rw [HGO.out, hno]; rfl
                        rw [hno, show Px.posZ L none = -1 from rfl]
                        clear hno
                        go_wp2_with fail
                        go_ret
                        exact ⟨ret_bool (by rw [HR.out, HF.out]; rfl), HBR2.out⟩
                      · have HG2 : Hid (Px.wparts kd K 1 0 r = Px.wparts kd (K - (k + 1)) 2 th (L.drop q2)) := by show _ = _; rw [HGO.out, hyes]; rfl
                        rw [hyes, Px.posZ_at L q2 hq2]
                        have hq3 : ¬ ((q2 : Int) < 0) := by omega
                        have hq4 : decide ((q2 : Int) < 0) = false := decide_eq_false (by omega)
                        clear hyes
                        go_wp2_with fail
                        go_roundw
                        case rel => exact ⟨k + 1, q2, 2, th, by omega, by go_num, rfl, rfl, rfl, hq2, by omega, by omega, by omega, HG2, HW2⟩
                        case measure => simp [intOf]; omega
                    · have hgt2 : (last : Int) < 3 := by omega
                      have hgt3 : ((3 : Int) == (last : Int)) = false := by simp; omega
                      have hgt4 : ¬ ((3 : Int) < (last : Int)) := by omega
                      have HGO : Hid (Px.wparts kd K 1 0 r = (Px.wpart (⟨yk, yt, yn, yc⟩ :: r2)).bind (Px.wparts kd (K - (k + 1)) 3 th)) := by
                       show _ = _
                       rw [HG.out, HM.out, Px.wp_go _ _ _ _ _ _ (by dsimp only; rw [hfit, hrk]; rintro (a | a | a) <;> first | omega | cases a)]
                       dsimp only
                       rw [hrk]
                       rfl
                      clear hfit hrk hrk4
                      go_wp2_with fail
                      refine HC.out.mono ?_
                      rintro e w2 ⟨rfl, hb⟩
                      have HW2 : Hid (Below w1.heap.size w1 w2) := HW.out.trans (hb.mono HW.out.size)
                      have HBR2 : Hid (Below w.heap.size w w2) := HBR.out.trans (hb.mono HBR.out.size)
                      clear hb
                      rcases HSUF.out.cases with hno | ⟨q2, hq2, hyes⟩
                      · have HF : Hid (Px.wparts kd K 1 0 r = none) := by show _ = _; rw [HGO.out, hno]; rfl
                        rw [hno, show Px.posZ L none = -1 from rfl]
                        clear hno
                        go_wp2_with fail
                        go_ret
                        exact ⟨ret_bool (by rw [HR.out, HF.out]; rfl), HBR2.out⟩
                      · have HG2 : Hid (Px.wparts kd K 1 0 r = Px.wparts kd (K - (k + 1)) 3 th (L.drop q2)) := by show _ = _; rw [HGO.out, hyes]; rfl
                        rw [hyes, Px.posZ_at L q2 hq2]
                        have hq3 : ¬ ((q2 : Int) < 0) := by omega
                        have hq4 : decide ((q2 : Int) < 0) = false := decide_eq_false (by omega)
                        clear hyes
                        go_wp2_with fail
                        go_roundw
                        case rel => exact ⟨k + 1, q2, 3, th, by omega, by go_num, rfl, rfl, rfl, hq2, by omega, by omega, by omega, HG2, HW2⟩
                        case measure => simp [intOf]; omega
                    · have hgt2 : (last : Int) < 4 := by omega
                      have hgt3 : ((4 : Int) == (last : Int)) = false := by simp; omega
                      have hgt4 : ¬ ((4 : Int) < (last : Int)) := by omega
                      have HGO : Hid (Px.wparts kd K 1 0 r = (Px.wpart (⟨yk, yt, yn, yc⟩ :: r2)).bind (Px.wparts kd (K - (k + 1)) 4 th)) := by
                       show _ = _
                       rw [HG.out, HM.out, Px.wp_go _ _ _ _ _ _ (by dsimp only; rw [hfit, hrk]; rintro (a | a | a) <;> first | omega | cases a)]
                       dsimp only
                       rw [hrk]
                       rfl
                      clear hfit hrk hrk4
                      go_wp2_with fail
                      refine HC.out.mono ?_
                      rintro e w2 ⟨rfl, hb⟩
                      have HW2 : Hid (Below w1.heap.size w1 w2) := HW.out.trans (hb.mono HW.out.size)
                      have HBR2 : Hid (Below w.heap.size w w2) := HBR.out.trans (hb.mono HBR.out.size)
                      clear hb
                      rcases HSUF.out.cases with hno | ⟨q2, hq2, hyes⟩
                      · have HF : Hid (Px.wparts kd K 1 0 r = none) := by show _ = _; rw [HGO.out, hno]; rfl
                        rw [hno, show Px.posZ L none = -1 from rfl]
                        clear hno
                        go_wp2_with fail
                        go_ret
                        exact ⟨ret_bool (by rw [HR.out, HF.out]; rfl), HBR2.out⟩
                      · have HG2 : Hid (Px.wparts kd K 1 0 r = Px.wparts kd (K - (k + 1)) 4 th (L.drop q2)) := by show _ = _; rw [HGO.out, hyes]; rfl
                        rw [hyes, Px.posZ_at L q2 hq2]
                        have hq3 : ¬ ((q2 : Int) < 0) := by omega
                        have hq4 : decide ((q2 : Int) < 0) = false := decide_eq_false (by omega)
                        clear hyes
                        go_wp2_with fail
                        go_roundw
                        case rel => exact ⟨k + 1, q2, 4, th, by omega, by go_num, rfl, rfl, rfl, hq2, by omega, by omega, by omega, HG2, HW2⟩
                        case measure => simp [intOf]; omega
          · have hkc : k = K := by omega
            subst hkc
            rw [Nat.sub_self, Px.wp_nil] at HG
            by_cases hql : q = L.length
            · have HF : Hid (Px.wparts kd k 1 0 r = some th) := by show _ = _; rw [HG.out, hql, List.drop_length]; rfl
              have hqb : ((q : Int) != (L.length : Int)) = false := by simp; omega
              clear hql HG
              by_cases k1 : kd = 1
              · subst k1
                by_cases t1 : 1 ≤ th
                · by_cases t6 : th ≤ 6
                  · have u1 : (1 : Int) ≤ (th : Int) := by omega
                    have u6 : (th : Int) ≤ 6 := by omega
                    go_wp2_with fail
                    go_ret
                    exact ⟨ret_bool (by rw [HR.out, HF.out]; simp [Px.wfin]; omega), HBR.out⟩
                  · have u1 : (1 : Int) ≤ (th : Int) := by omega
                    have u6 : (6 : Int) < (th : Int) := by omega
                    go_wp2_with fail
                    go_ret
                    exact ⟨ret_bool (by rw [HR.out, HF.out]; rw [decide_eq_false (show ¬ (th : Int) ≤ 6 by omega)]; show false = decide (1 ≤ th ∧ th ≤ 6); rw [decide_eq_false (by omega)]), HBR.out⟩
                · have u1 : (th : Int) < 1 := by omega
                  go_wp2_with fail
                  go_ret
                  exact ⟨ret_bool (by rw [HR.out, HF.out]; simp [Px.wfin]; omega), HBR.out⟩
              by_cases k3 : kd = 3
              · subst k3
                by_cases t0 : (k : Int) = 0
                · have u0 : ((k : Int) == 0) = true := by simpa using t0
                  go_wp2_with fail
                  go_ret
                  exact ⟨ret_bool (by rw [HR.out, HF.out]; simp [Px.wfin]; omega), HBR.out⟩
                · have u0 : ((k : Int) == 0) = false := by simpa using t0
                  go_wp2_with fail
                  go_ret
                  exact ⟨ret_bool (by rw [HR.out, HF.out]; simp [Px.wfin]; omega), HBR.out⟩
              by_cases k4 : kd = 4
              · subst k4
                by_cases t1 : 1 ≤ th
                · have u1 : (1 : Int) ≤ (th : Int) := by omega
                  go_wp2_with fail
                  go_ret
                  exact ⟨ret_bool (by rw [HR.out, HF.out]; simp [Px.wfin]; omega), HBR.out⟩
                · have u1 : (th : Int) < 1 := by omega
                  go_wp2_with fail
                  go_ret
                  exact ⟨ret_bool (by rw [HR.out, HF.out]; simp [Px.wfin]; omega), HBR.out⟩
              by_cases k7 : kd = 7
              · subst k7
                by_cases t1 : 1 ≤ th
                · have u1 : (1 : Int) ≤ (th : Int) := by omega
                  go_wp2_with fail
                  go_ret
                  exact ⟨ret_bool (by rw [HR.out, HF.out]; simp [Px.wfin]; omega), HBR.out⟩
                · have u1 : (th : Int) < 1 := by omega
                  go_wp2_with fail
                  go_ret
                  exact ⟨ret_bool (by rw [HR.out, HF.out]; simp [Px.wfin]; omega), HBR.out⟩
              by_cases k9 : kd = 9
              · subst k9
                by_cases t1 : 1 ≤ th
                · have u1 : (1 : Int) ≤ (th : Int) := by omega
                  go_wp2_with fail
                  go_ret
                  exact ⟨ret_bool (by rw [HR.out, HF.out]; simp [Px.wfin]; omega), HBR.out⟩
                · have u1 : (th : Int) < 1 := by omega
                  go_wp2_with fail
                  go_ret
                  exact ⟨ret_bool (by rw [HR.out, HF.out]; simp [Px.wfin]; omega), HBR.out⟩
              have v1 : (kd == 1) = false := by simpa using k1
              have v3 : (kd == 3) = false := by simpa using k3
              have v4 : (kd == 4) = false := by simpa using k4
              have v7 : (kd == 7) = false := by simpa using k7
              have v9 : (kd == 9) = false := by simpa using k9
              by_cases k6 : kd = 6
              · subst k6
                go_wp2_with fail
                go_ret
                exact ⟨ret_bool (by rw [HR.out, HF.out]; simp [Px.wfin]), HBR.out⟩
              · have v6 : (kd == 6) = false := by simpa using k6
                go_wp2_with fail
                go_ret
                exact ⟨ret_bool (by rw [HR.out, HF.out]; simp [Px.wfin, k1, k3, k4, k7, k9, k6]), HBR.out⟩
            · have HF : Hid (Px.wparts kd k 1 0 r = none) := by
               show _ = _
               rw [HG.out, if_neg (fun e => ?_)]
               have := List.drop_eq_nil_iff.1 e
               omega
              have hqb : ((q : Int) != (L.length : Int)) = true := by simp; omega
              clear hql HG
              go_wp2_with fail
              go_ret
              exact ⟨ret_bool (by rw [HR.out, HF.out]; rfl), HBR.out⟩
   · have bh0 : (xn == 0) = false := by simpa using h0
     have nh0 : (xn != 0) = true := by simpa using h0
     have HR : Hid (Px.well (⟨kd, xt, xn, xc⟩ :: r) = false) := Px.well_no kd xt xn xc r (.inr (.inl h0))
     clear hv
     go_enter Tryz.func36, Tryz.ntmps36
     go_wp2_with fail
     refine HV.out.mono ?_
     rintro e w9 ⟨rfl, rfl⟩
     go_wp2_with fail
     go_ret
     exact ⟨ret_bool HR.out.symm, HB0.out⟩
theorem well_any (ao : Option Addr) (cap : Nat) (L : List Px.Nd) (hL : L.length ≤ 16777216) (hT : ∀ x ∈ L, x.text.length ≤ 1000000000) (hK : ∀ x ∈ L, x.kids ≤ 9223372036854775807) (w : World) (hN : NdL w ao L) :
   Calls Tryz.prog 36 #[.slice ao L.length cap] w fun y w' => y = .returned (.bool (Px.well L)) ∧ Below w.heap.size w w' := by
 cases hL' : L with
 | nil => exact well_nil ao cap w
 | cons x r =>
  obtain ⟨kd, xt, xn, xc⟩ := x
  have := well_cons ao cap L hL hT hK kd xt xn xc r w hL' hN
  rw [hL'] at this
  exact this
end Rf
namespace Rf
theorem rPrint_any (ao : Option Addr) (cap : Nat) (L : List Px.Nd) (hL : L.length ≤ 16777216) (hwid : Px.wid L ≤ 100000000) (hT : ∀ x ∈ L, x.text.length ≤ 1000000000) (hK : ∀ x ∈ L, x.kids ≤ 9223372036854775807) {N : Nat} (hr : Px.Rng N L) (w : World) (hN : NdL w ao L) :
   Calls Tryz.prog 15 #[.slice ao L.length cap] w fun e w' => ∃ t : ByteArray, e = .returned (.tuple #[.string t, .int .i64 ((Px.print L).2 : Int)]) ∧ t.data.toList = (Px.print L).1 ∧ Below w.heap.size w w' := by
 have HWE := hd (well_any ao cap L hL hT hK w hN)
 have HPR : Hid (Px.print L = if Px.well L = false then ([], 7) else if 2000 < (Px.text L).length then ([], 1) else (Px.text L, 0)) := rfl
 have HTX : Hid (Px.well L = true → ∀ w, NdL w ao L → Calls Tryz.prog 37 #[.slice ao L.length cap] w (TxOut w (Px.text L))) := fun h w hN => by
  rw [Px.well_rS] at h
  obtain ⟨s, hs⟩ := Option.isSome_iff_exists.1 h
  obtain ⟨h1, h2⟩ := Px.rS_ok hs hr
  exact text_any ao cap L hL hwid s h2 h1 w hN
 have HN := hd hN
 clear hN hr hT hK
 generalize Px.print L = pr at *
 generalize Px.text L = tx at *
 cases hw : Px.well L with
 | false =>
  rw [hw] at HWE HPR
  clear hw HTX
  go_enter Tryz.func15, Tryz.ntmps15
  go_wp2_with fail
  refine HWE.out.mono ?_
  rintro y w1 ⟨rfl, hb⟩
  have HB := hd hb
  clear hb
  go_wp2_with fail
  go_ret2
  exact ⟨⟨#[]⟩, by rw [HPR.out]; rfl, by rw [HPR.out]; rfl, HB.out⟩
 | true =>
  have HTX2 := hd (HTX.out hw)
  rw [hw] at HWE HPR
  clear hw HTX
  go_enter Tryz.func15, Tryz.ntmps15
  go_wp2_with fail
  refine HWE.out.mono ?_
  rintro y w1 ⟨rfl, hb⟩
  have HB := hd hb
  clear hb
  go_wp2_with fail
  refine (HTX2.out w1 (HN.out.below HB.out)).mono ?_
  rintro y w2 ⟨t, rfl, ht, hb⟩
  have HB2 : Hid (Below w.heap.size w w2) := HB.out.trans (hb.mono HB.out.size)
  have HT := hd ht
  have hts : t.size = tx.length := by rw [size_len, ht]
  clear hb ht
  by_cases hlong : 2000 < tx.length
  · have z1 : decide (2000 < (t.size : Int)) = true := decide_eq_true (by omega)
    have z2 : decide (2000 < t.size) = true := decide_eq_true (by omega)
    have HL := hd hlong
    clear hlong hts
    go_wp2_with fail
    go_ret2
    exact ⟨⟨#[]⟩, by rw [HPR.out, if_neg (by decide), if_pos HL.out]; rfl, by rw [HPR.out, if_neg (by decide), if_pos HL.out], HB2.out⟩
  · have z1 : decide (2000 < (t.size : Int)) = false := decide_eq_false (by omega)
    have z2 : decide (2000 < t.size) = false := decide_eq_false (by omega)
    have HL := hd hlong
    clear hlong hts
    go_wp2_with fail
    go_ret2
    exact ⟨t, by rw [HPR.out, if_neg (by decide), if_neg HL.out]; rfl, by rw [HPR.out, if_neg (by decide), if_neg HL.out]; exact HT.out, HB2.out⟩
end Rf
def wColV (c : Lx.Bs × Nat) (v : Value) (_ : World) : Prop := v = .agg #[.string ⟨c.1.toArray⟩, .int .i64 (c.2 : Int)]
theorem rKind_cases (k : Int) (l : List Px.Nd) : (rKind k l = none ∧ (∀ x r, l = x :: r → x.kind ≠ k)) ∨ ∃ xt xn xc r, l = ⟨k, xt, xn, xc⟩ :: r ∧ rKind k l = some (⟨k, xt, xn, xc⟩, r) := by
 match l with
 | [] => exact .inl ⟨rfl, fun x r e => by cases e⟩
 | ⟨xk, xt, xn, xc⟩ :: r =>
  by_cases h : xk = k
  · subst h
    exact .inr ⟨xt, xn, xc, r, rfl, if_pos rfl⟩
  · refine .inl ⟨if_neg h, fun x r' e => ?_⟩
    cases e
    exact h
def bareC (n : Int) : Int := if 4 < n then n - 4 else n
theorem rCol_is (xt : Lx.Bs) (xn xc : Int) (r : List Px.Nd) : Px.rCol (⟨2, xt, xn, xc⟩ :: r) = if Px.isName xt = true ∧ xc = 0 ∧ 1 ≤ bareC xn ∧ bareC xn ≤ 3 then some ((xt, xn.toNat), r) else none := by
 unfold Px.rCol bareC
 simp only [true_and]
theorem rCol_none (l : List Px.Nd) (h : ∀ x r, l = x :: r → x.kind ≠ 2) : Px.rCol l = none := by
 cases l with
 | nil => rfl
 | cons x r =>
  have h1 := h x r rfl
  unfold Px.rCol
  simp [h1]
theorem k_column_any (w : World) (B : Nat) (l : List Px.Nd) (h : Wks w B l) (he : EnvW w) (hB : 12 ≤ B) :
   Calls Tryz.prog 130 #[.pointer (some ⟨B, 0, none⟩)] w (WOut w B wColV (Px.rCol l)) := by
 have HW := hd h
 have HE := hd he
 have hBw := h.lt
 clear h he
 go_enter Tryz.func130, Tryz.ntmps130
 go_wp2_with fail
 refine (k_kind_any _ B l 2 (HW.out.below (by go_grown))).mono ?_
 rintro x w1 ho
 have G1 : w.grownBy w1 (some B) := grown_tr (Below.grownBy (by go_grown)) ho.1
 have HO1 := hd ho.1
 rcases rKind_cases 2 l with ⟨hr, hno⟩ | ⟨xt, xn, xc, r, rfl, hr⟩
 · rw [hr] at ho
   obtain ⟨_, rfl⟩ := ho
   refine ⟨rfl, ?_⟩
   rw [rCol_none l hno]
   exact WOut.none G1
 · rw [hr] at ho
   obtain ⟨_, v, rfl, hv, hw⟩ := ho
   have hv : v = ndA ⟨2, xt, xn, xc⟩ := hv
   subst hv
   have HFX := hd (HW.out.fits ⟨2, xt, xn, xc⟩ (by simp))
   have HR := hd (rCol_is xt xn xc r)
   unfold ndA
   simp only
   obtain ⟨t, ht⟩ : ∃ t : ByteArray, t = ⟨xt.toArray⟩ := ⟨_, rfl⟩
   have HTL : Hid (t.data.toList = xt) := by show _ = _; rw [ht]
   have HT := hd ht
   rw [← ht]
   have hs1 := G1.size
   have HK2 := hd (Blk.new w1 #[.int .i64 2, .string t, .int .i64 xn, .int .i64 xc] 43)
   have HW2 := hd (hw.below ((Below.refl _ _).alloc (Nat.le_refl _) (.cells #[.int .i64 2, .string t, .int .i64 xn, .int .i64 xc] 43)))
   have HR2 := hd ((blk_keep (Blk.new w #[.string ⟨#[]⟩, .int .i64 0] 135) HO1.out (by omega)).alloc (.cells #[.int .i64 2, .string t, .int .i64 xn, .int .i64 xc] 43))
   have HG2 := hd (grownBy_alloc G1 (.cells #[.int .i64 2, .string t, .int .i64 xn, .int .i64 xc] 43))
   have HE2 := hd (HE.out.grown HG2.out hB)
   clear hw G1 hr ht
   go_wp2_with fail
   go_region_held (fun w' => w'.cell? ⟨w1.heap.size, 0, none⟩ = some (.int .i64 2) ∧ w'.cell? ⟨w1.heap.size, 1, none⟩ = some (.string t) ∧ w'.cell? ⟨w1.heap.size, 2, none⟩ = some (.int .i64 xn) ∧ w'.cell? ⟨w1.heap.size, 3, none⟩ = some (.int .i64 xc)) (go_keep)
     (first
      | (go_at_call 74
         refine (k_name_any _ B t (HE2.out.below (by go_grown))).mono ?_
         rintro y w3 ⟨hb3, hy⟩
         have G3 := hd (grown_tr HG2.out (Below.grownBy (row := some B) ((Below.refl _ _).drew.trans hb3)))
         have W3 := hd (HW2.out.below ((Below.refl _ _).drew.trans hb3))
         have HK3 := hd (HK2.out.below ((Below.refl _ _).drew.trans hb3) HK2.out.lt)
         have HR3 := hd (HR2.out.below ((Below.refl _ _).drew.trans hb3) HR2.out.lt)
         rw [HTL.out] at hy
         rcases Bool.eq_false_or_eq_true (Px.isName xt) with hv | hv
         rotate_left
         · rw [hv] at hy
           have hy : y = Flt 0 7 := hy
           subst hy
           exact ⟨rfl, by rw [HR.out, hv]; exact WOut.none G3.out⟩
         rw [hv] at hy
         have hy : y = .returned (.string t) := hy
         subst hy
         have HV := hd hv
         have q0 := HK3.out.cell 0
         have q1 := HK3.out.cell 1
         have q2 := HK3.out.cell 2
         have q3 := HK3.out.cell 3
         simp at q0 q1 q2 q3
         have hK3 := HK3.out.lt
         clear hb3 hv)
      | (go_at_call 73
         by_cases hf : xc = 0
         rotate_left
         · rw [HT.out]
           refine (k_fields_no _ B _ _ _ _ xt _ _ (fun e => hf e.2.2)).mono ?_
           rintro y w4 ⟨rfl, hb4⟩
           exact ⟨rfl, by rw [HR.out, if_neg (fun e => hf e.2.1)]; exact WOut.none (grown_tr G3.out (Below.grownBy hb4))⟩
         subst hf
         refine (k_fields_yes _ B _ _ _ _).mono ?_
         rintro y w4 ⟨rfl, hb4⟩
         have HK4 := hd (HK3.out.below hb4 HK3.out.lt)
         have HR4 := hd (HR3.out.below hb4 HR3.out.lt)
         have G4 := hd (grown_tr G3.out (Below.grownBy hb4))
         have W4 := hd (W3.out.below hb4)
         have q0 := HK4.out.cell 0
         have q1 := HK4.out.cell 1
         have q2 := HK4.out.cell 2
         have q3 := HK4.out.cell 3
         simp at q0 q1 q2 q3
         have hK4 := HK4.out.lt
         clear hb4))
   have s0 := HR4.out.cell 0
   have s1 := HR4.out.cell 1
   simp at s0 s1
   have v0 := HR4.out.free 0
   have v1 := HR4.out.free 1
   have hx1 := HFX.out.1.1
   have hx2 := HFX.out.1.2
   simp only at hx1 hx2
   by_cases h4 : 4 < xn
   · have HBC : Hid (bareC xn = xn - 4) := if_pos h4
     by_cases h7 : xn - 4 ≤ 3
     · have hge : 1 ≤ xn - 4 := by omega
       go_wp2_with fail
       refine (k_must_true _ B).mono ?_
       rintro y w5 ⟨rfl, h0⟩
       rw [h0]
       clear h0 w5
       go_wp2_with fail
       have KF := (HR4.out.set 0 (.string t)).set 1 (.int .i64 xn)
       have z0 := KF.cell 0
       have z1 := KF.cell 1
       simp at z0 z1
       refine bodyPost_ret (v := .agg #[.string t, .int .i64 xn]) (by simp [results, Tryz.results130, go_sem, z0, z1]) rfl ?_
       rw [HR.out, if_pos ⟨HV.out, (by simp), by rw [HBC.out]; omega, by rw [HBC.out]; omega⟩]
       refine WOut.some (grown_far (grown_far G4.out _ (Nat.le_refl _) _) _ (Nat.le_refl _) _) ?_ ((W4.out.far _ hBw _).far _ hBw _)
       show _ = Value.agg _
       rw [HT.out, show ((xn.toNat : Nat) : Int) = xn by omega]
     · have hn7 : decide (xn - 4 ≤ 3) = false := decide_eq_false h7
       have hge : 1 ≤ xn - 4 := by omega
       go_wp2_with fail
       refine (k_must_false _ B).mono ?_
       rintro y w5 ⟨rfl, hb5⟩
       exact ⟨rfl, by rw [HR.out, if_neg (fun e => by have h1 := e.2.2.1; have h2 := e.2.2.2; rw [HBC.out] at h1 h2; omega)]; exact WOut.none (grown_tr G4.out (Below.grownBy hb5))⟩
   · have HBC : Hid (bareC xn = xn) := if_neg h4
     have hn4 : decide (4 < xn) = false := decide_eq_false h4
     by_cases h1 : 1 ≤ xn
     · by_cases h3 : xn ≤ 3
       · go_wp2_with fail
         refine (k_must_true _ B).mono ?_
         rintro y w5 ⟨rfl, h0⟩
         rw [h0]
         clear h0 w5
         go_wp2_with fail
         have KF := (HR4.out.set 0 (.string t)).set 1 (.int .i64 xn)
         have z0 := KF.cell 0
         have z1 := KF.cell 1
         simp at z0 z1
         refine bodyPost_ret (v := .agg #[.string t, .int .i64 xn]) (by simp [results, Tryz.results130, go_sem, z0, z1]) rfl ?_
         rw [HR.out, if_pos ⟨HV.out, (by simp), by rw [HBC.out]; omega, by rw [HBC.out]; omega⟩]
         refine WOut.some (grown_far (grown_far G4.out _ (Nat.le_refl _) _) _ (Nat.le_refl _) _) ?_ ((W4.out.far _ hBw _).far _ hBw _)
         show _ = Value.agg _
         rw [HT.out, show ((xn.toNat : Nat) : Int) = xn by omega]
       · have hn3 : decide (xn ≤ 3) = false := decide_eq_false h3
         go_wp2_with fail
         refine (k_must_false _ B).mono ?_
         rintro y w5 ⟨rfl, hb5⟩
         exact ⟨rfl, by rw [HR.out, if_neg (fun e => by have h1 := e.2.2.1; have h2 := e.2.2.2; rw [HBC.out] at h1 h2; omega)]; exact WOut.none (grown_tr G4.out (Below.grownBy hb5))⟩
     · have hn1 : decide (1 ≤ xn) = false := decide_eq_false h1
       go_wp2_with fail
       refine (k_must_false _ B).mono ?_
       rintro y w5 ⟨rfl, hb5⟩
       exact ⟨rfl, by rw [HR.out, if_neg (fun e => by have h1 := e.2.2.1; have h2 := e.2.2.2; rw [HBC.out] at h1 h2; omega)]; exact WOut.none (grown_tr G4.out (Below.grownBy hb5))⟩
def wSetV (c : Lx.Bs × Px.E) (v : Value) (_ : World) : Prop := v = .agg #[.string ⟨c.1.toArray⟩, ev c.2]
theorem rSet_is (xt : Lx.Bs) (xn xc : Int) (r : List Px.Nd) : Px.rSet (⟨8, xt, xn, xc⟩ :: r) = if Px.isName xt = true ∧ xn = 0 ∧ xc = 1 then (Px.rE 40 r).map fun y => ((xt, y.1), y.2) else none := by
 unfold Px.rSet
 simp only [true_and]
theorem rSet_none (l : List Px.Nd) (h : ∀ x r, l = x :: r → x.kind ≠ 8) : Px.rSet l = none := by
 cases l with
 | nil => rfl
 | cons x r =>
  have h1 := h x r rfl
  unfold Px.rSet
  simp [h1]
theorem k_set_any (w : World) (B : Nat) (l : List Px.Nd) (h : Wks w B l) (he : EnvW w) (hB : 12 ≤ B) :
   Calls Tryz.prog 134 #[.pointer (some ⟨B, 0, none⟩)] w (WOut w B wSetV (Px.rSet l)) := by
 have HW := hd h
 have HE := hd he
 have hBw := h.lt
 clear h he
 go_enter Tryz.func134, Tryz.ntmps134
 go_wp2_with fail
 refine (k_kind_any _ B l 8 (HW.out.below (by go_grown))).mono ?_
 rintro x w1 ho
 have G1 : w.grownBy w1 (some B) := grown_tr (Below.grownBy (by go_grown)) ho.1
 have HO1 := hd ho.1
 rcases rKind_cases 8 l with ⟨hr, hno⟩ | ⟨xt, xn, xc, r, rfl, hr⟩
 · rw [hr] at ho
   obtain ⟨_, rfl⟩ := ho
   refine ⟨rfl, ?_⟩
   rw [rSet_none l hno]
   exact WOut.none G1
 · rw [hr] at ho
   obtain ⟨_, v, rfl, hv, hw⟩ := ho
   have hv : v = ndA ⟨8, xt, xn, xc⟩ := hv
   subst hv
   have HFX := hd (HW.out.fits ⟨8, xt, xn, xc⟩ (by simp))
   have HR := hd (rSet_is xt xn xc r)
   unfold ndA
   simp only
   obtain ⟨t, ht⟩ : ∃ t : ByteArray, t = ⟨xt.toArray⟩ := ⟨_, rfl⟩
   have HTL : Hid (t.data.toList = xt) := by show _ = _; rw [ht]
   have HT := hd ht
   rw [← ht]
   have hs1 := G1.size
   have HK2 := hd (Blk.new w1 #[.int .i64 8, .string t, .int .i64 xn, .int .i64 xc] 43)
   have HW2 := hd (hw.below ((Below.refl _ _).alloc (Nat.le_refl _) (.cells #[.int .i64 8, .string t, .int .i64 xn, .int .i64 xc] 43)))
   have HR2 := hd ((blk_keep (Blk.new w #[.string ⟨#[]⟩, .nilIface] 139) HO1.out (by omega)).alloc (.cells #[.int .i64 8, .string t, .int .i64 xn, .int .i64 xc] 43))
   have HG2 := hd (grownBy_alloc G1 (.cells #[.int .i64 8, .string t, .int .i64 xn, .int .i64 xc] 43))
   have HE2 := hd (HE.out.grown HG2.out hB)
   clear hw G1 hr ht
   go_wp2_with fail
   go_region_held (fun w' => w'.cell? ⟨w1.heap.size, 0, none⟩ = some (.int .i64 8) ∧ w'.cell? ⟨w1.heap.size, 1, none⟩ = some (.string t) ∧ w'.cell? ⟨w1.heap.size, 2, none⟩ = some (.int .i64 xn) ∧ w'.cell? ⟨w1.heap.size, 3, none⟩ = some (.int .i64 xc)) (go_keep)
     (first
      | (go_at_call 74
         refine (k_name_any _ B t (HE2.out.below (by go_grown))).mono ?_
         rintro y w3 ⟨hb3, hy⟩
         have G3 := hd (grown_tr HG2.out (Below.grownBy (row := some B) ((Below.refl _ _).drew.trans hb3)))
         have W3 := hd (HW2.out.below ((Below.refl _ _).drew.trans hb3))
         have HK3 := hd (HK2.out.below ((Below.refl _ _).drew.trans hb3) HK2.out.lt)
         have HR3 := hd (HR2.out.below ((Below.refl _ _).drew.trans hb3) HR2.out.lt)
         rw [HTL.out] at hy
         rcases Bool.eq_false_or_eq_true (Px.isName xt) with hv | hv
         rotate_left
         · rw [hv] at hy
           have hy : y = Flt 0 7 := hy
           subst hy
           exact ⟨rfl, by rw [HR.out, hv]; exact WOut.none G3.out⟩
         rw [hv] at hy
         have hy : y = .returned (.string t) := hy
         subst hy
         have HV := hd hv
         have q0 := HK3.out.cell 0
         have q1 := HK3.out.cell 1
         have q2 := HK3.out.cell 2
         have q3 := HK3.out.cell 3
         simp at q0 q1 q2 q3
         have hK3 := HK3.out.lt
         clear hb3 hv)
      | (go_at_call 73
         by_cases hf : xn = 0 ∧ xc = 1
         rotate_left
         · rw [HT.out]
           refine (k_fields_no _ B _ _ _ _ xt _ _ (fun e => hf e.2)).mono ?_
           rintro y w4 ⟨rfl, hb4⟩
           exact ⟨rfl, by rw [HR.out, if_neg (fun e => hf e.2)]; exact WOut.none (grown_tr G3.out (Below.grownBy hb4))⟩
         obtain ⟨rfl, rfl⟩ := hf
         refine (k_fields_yes _ B _ _ _ _).mono ?_
         rintro y w4 ⟨rfl, hb4⟩
         have HK4 := hd (HK3.out.below hb4 HK3.out.lt)
         have HR4 := hd (HR3.out.below hb4 HR3.out.lt)
         have G4 := hd (grown_tr G3.out (Below.grownBy hb4))
         have W4 := hd (W3.out.below hb4)
         have q0 := HK4.out.cell 0
         have q1 := HK4.out.cell 1
         have q2 := HK4.out.cell 2
         have q3 := HK4.out.cell 3
         simp at q0 q1 q2 q3
         have hK4 := HK4.out.lt
         clear hb4))
   have s0 := HR4.out.cell 0
   have s1 := HR4.out.cell 1
   simp at s0 s1
   have v0 := HR4.out.free 0
   have v1 := HR4.out.free 1
   have E4 := hd (HE.out.grown G4.out hB)
   have HRR : Hid (Px.rSet (⟨8, xt, 0, 1⟩ :: r) = (Px.rE 40 r).map fun y => ((xt, y.1), y.2)) := by show _ = _; rw [rSet_is, if_pos ⟨HV.out, rfl, rfl⟩]
   have hlt1 : w.heap.size < w1.heap.size := by have := HO1.out.size; simp at this; omega
   have hne1 : w1.heap.size ≠ w.heap.size := by omega
   have hne2 : w.heap.size ≠ w1.heap.size := by omega
   have hd4 : Below w4.heap.size w4 w4.drew := (Below.refl _ _).drew
   clear q0 q2 q3
   go_wp2_with fail
   go_region_held (fun w' => w'.cell? ⟨w1.heap.size, 1, none⟩ = some (.string t)) (go_keep)
     (first
      | (go_at_call 184
         refine (k_expr_any _ B r (W4.out.below hd4) (E4.out.below hd4) hB).mono ?_
         rintro x w5 ho
         obtain ⟨g, ⟨p1, rfl⟩ | ⟨a, l5, v, p1, rfl, hv, hw5⟩⟩ := ho.cases
         · exact ⟨rfl, by rw [HRR.out, p1]; exact WOut.none (grown_tr G4.out (grown_tr (Below.grownBy hd4) g))⟩
         have HVA : Hid (v = ev a) := hv
         obtain ⟨et, ex, hev⟩ := ev_iface a
         have hv2 : v = .iface et ex := by rw [HVA.out, hev]
         subst hv2
         have G5 := hd (grown_tr G4.out (grown_tr (Below.grownBy hd4) g))
         have W5 := hd hw5
         have HP1 := hd p1
         have HK5 := hd (blk_keep (HK4.out.below hd4 HK4.out.lt) g (by omega))
         have HR5 := hd (blk_keep (HR4.out.below hd4 HR4.out.lt) g (by omega))
         have q1 := HK5.out.cell 1
         simp at q1
         have hK5 := HK5.out.lt
         have u0 := HR5.out.cell 0
         have u1 := HR5.out.cell 1
         simp at u0 u1
         have n0 := HR5.out.free 0
         have n1 := HR5.out.free 1
         clear ho g hw5 p1 hv hev))
   go_wp2_with fail
   have KF := (HR5.out.set 0 (.string t)).set 1 (.iface et ex)
   have z0 := KF.cell 0
   have z1 := KF.cell 1
   simp at z0 z1
   refine bodyPost_ret (v := .agg #[.string t, .iface et ex]) (by simp [results, Tryz.results134, go_sem, z0, z1]) rfl ?_
   rw [HRR.out, HP1.out]
   refine WOut.some (a := (xt, a)) (grown_far (grown_far G5.out _ (Nat.le_refl _) _) _ (Nat.le_refl _) _) ?_ ((W5.out.far _ hBw _).far _ hBw _)
   show _ = Value.agg _
   rw [HT.out, ← HVA.out]
def wOrderV (c : Px.E × Bool) (v : Value) (_ : World) : Prop := v = .agg #[ev c.1, .bool c.2]
theorem rOrder_is (xk : Int) (xt : Lx.Bs) (xn xc : Int) (r : List Px.Nd) : Px.rOrder (⟨xk, xt, xn, xc⟩ :: r) = if xt = [] ∧ xc = 1 ∧ (xn = 0 ∨ xn = 1) then (Px.rE 40 r).map fun y => ((y.1, decide (xn = 1)), y.2) else none := rfl
def wLimV (n : Nat) (v : Value) (_ : World) : Prop := v = .int .i64 (n : Int)
def rLimit : List Px.Nd → Option (Nat × List Px.Nd)
 | [] => none
 | x :: r => if x.text = [] ∧ x.kids = 0 ∧ 0 ≤ x.num ∧ x.num ≤ 1000000000 then some (x.num.toNat, r) else none
theorem rLimit_is (xk : Int) (xt : Lx.Bs) (xn xc : Int) (r : List Px.Nd) : rLimit (⟨xk, xt, xn, xc⟩ :: r) = if xt = [] ∧ xc = 0 ∧ 0 ≤ xn ∧ xn ≤ 1000000000 then some (xn.toNat, r) else none := rfl
theorem k_order_any (w : World) (B : Nat) (l : List Px.Nd) (h : Wks w B l) (he : EnvW w) (hB : 12 ≤ B) :
   Calls Tryz.prog 138 #[.pointer (some ⟨B, 0, none⟩)] w (WOut w B wOrderV (Px.rOrder l)) := by
 have HW := hd h
 have HE := hd he
 have hBw := h.lt
 clear h he
 go_enter Tryz.func138, Tryz.ntmps138
 go_wp2_with fail
 refine (k_take_any _ B l (HW.out.below (by go_grown))).mono ?_
 rintro x w1 ho
 have G1 : w.grownBy w1 (some B) := grown_tr (Below.grownBy (by go_grown)) ho.1
 have HO1 := hd ho.1
 match l, ho, HW with
 | [], ho, _ =>
  obtain ⟨_, rfl⟩ := ho
  exact ⟨rfl, WOut.none G1⟩
 | ⟨xk, xt, xn, xc⟩ :: r, ho, HW =>
  obtain ⟨_, v, rfl, hv, hw⟩ := ho
  have hv : v = ndA ⟨xk, xt, xn, xc⟩ := hv
  subst hv
  have HR := hd (rOrder_is xk xt xn xc r)
  unfold ndA
  simp only
  have hs1 := G1.size
  have HK2 := hd (Blk.new w1 #[.int .i64 xk, .string ⟨xt.toArray⟩, .int .i64 xn, .int .i64 xc] 43)
  have HW2 := hd (hw.below ((Below.refl _ _).alloc (Nat.le_refl _) (.cells #[.int .i64 xk, .string ⟨xt.toArray⟩, .int .i64 xn, .int .i64 xc] 43)))
  have HR2 := hd ((blk_keep (Blk.new w #[.nilIface, .bool false] 143) HO1.out (by omega)).alloc (.cells #[.int .i64 xk, .string ⟨xt.toArray⟩, .int .i64 xn, .int .i64 xc] 43))
  have HG2 := hd (grownBy_alloc G1 (.cells #[.int .i64 xk, .string ⟨xt.toArray⟩, .int .i64 xn, .int .i64 xc] 43))
  have HE2 := hd (HE.out.grown HG2.out hB)
  have hlt1 : w.heap.size < w1.heap.size := by have := HO1.out.size; simp at this; omega
  have hne1 : w1.heap.size ≠ w.heap.size := by omega
  have hne2 : w.heap.size ≠ w1.heap.size := by omega
  clear hw G1
  go_wp2_with fail
  by_cases hf : xt = [] ∧ xc = 1
  rotate_left
  · refine (k_fields_no _ B _ _ _ _ [] _ _ (fun e => hf ⟨e.1, e.2.2⟩)).mono ?_
    rintro y w4 ⟨rfl, hb4⟩
    exact ⟨rfl, by rw [HR.out, if_neg (fun e => hf ⟨e.1, e.2.1⟩)]; exact WOut.none (grown_tr HG2.out (Below.grownBy hb4))⟩
  obtain ⟨rfl, rfl⟩ := hf
  refine (k_fields_yes _ B _ _ _ _).mono ?_
  rintro y w4 ⟨rfl, hb4⟩
  have HK4 := hd (HK2.out.below hb4 HK2.out.lt)
  have HR4 := hd (HR2.out.below hb4 HR2.out.lt)
  have G4 := hd (grown_tr HG2.out (Below.grownBy hb4))
  have W4 := hd (HW2.out.below hb4)
  have q0 := HK4.out.cell 0
  have q1 := HK4.out.cell 1
  have q2 := HK4.out.cell 2
  have q3 := HK4.out.cell 3
  simp at q0 q1 q2 q3
  have hK4 := HK4.out.lt
  clear hb4
  clear q0 q1 q3
  go_wp2_with fail
  refine (k_truth_any _ B xn).mono ?_
  rintro y w5 ⟨hb5, hy⟩
  have HK5 := hd (HK4.out.below hb5 HK4.out.lt)
  have HR5 := hd (HR4.out.below hb5 HR4.out.lt)
  have G5 := hd (grown_tr G4.out (Below.grownBy hb5))
  have W5 := hd (W4.out.below hb5)
  have E5 := hd (HE.out.grown G5.out hB)
  have s0 := HR5.out.cell 0
  have s1 := HR5.out.cell 1
  simp at s0 s1
  have v0 := HR5.out.free 0
  have v1 := HR5.out.free 1
  have hK5 := HK5.out.lt
  clear hb5 q2
  by_cases ht : xn = 0 ∨ xn = 1
  · rw [if_pos ht] at hy
    subst hy
    have HRR : Hid (Px.rOrder (⟨xk, [], xn, 1⟩ :: r) = (Px.rE 40 r).map fun y => ((y.1, decide (xn = 1)), y.2)) := by show _ = _; rw [rOrder_is, if_pos ⟨rfl, rfl, ht⟩]
    clear ht
    generalize hbb : decide (xn = 1) = bb at *
    clear hbb
    go_wp2_with fail
    refine (k_expr_any _ B r W5.out E5.out hB).mono ?_
    rintro x w6 ho
    obtain ⟨g, ⟨p1, rfl⟩ | ⟨a, l6, v, p1, rfl, hv, hw6⟩⟩ := ho.cases
    · exact ⟨rfl, by rw [HRR.out, p1]; exact WOut.none (grown_tr G5.out g)⟩
    have HVA : Hid (v = ev a) := hv
    obtain ⟨et, ex, hev⟩ := ev_iface a
    have hv2 : v = .iface et ex := by rw [HVA.out, hev]
    subst hv2
    have G6 := hd (grown_tr G5.out g)
    have W6 := hd hw6
    have HP1 := hd p1
    have HR6 := hd (blk_keep HR5.out g (by omega))
    have u0 := HR6.out.cell 0
    have u1 := HR6.out.cell 1
    simp at u0 u1
    have n0 := HR6.out.free 0
    have n1 := HR6.out.free 1
    clear ho g hw6 p1 hv hev s0 s1 v0 v1
    go_wp2_with fail
    have KF := (HR6.out.set 0 (.iface et ex)).set 1 (.bool bb)
    have z0 := KF.cell 0
    have z1 := KF.cell 1
    simp at z0 z1
    refine bodyPost_ret (v := .agg #[.iface et ex, .bool bb]) (by simp [results, Tryz.results138, go_sem, z0, z1]) rfl ?_
    rw [HRR.out, HP1.out]
    refine WOut.some (a := (a, bb)) (grown_far (grown_far G6.out _ (Nat.le_refl _) _) _ (Nat.le_refl _) _) ?_ ((W6.out.far _ hBw _).far _ hBw _)
    show _ = Value.agg _
    rw [← HVA.out]
  · rw [if_neg ht] at hy
    subst hy
    exact ⟨rfl, by rw [HR.out, if_neg (fun e => ht e.2.2)]; exact WOut.none G5.out⟩
theorem k_limit_any (w : World) (B : Nat) (l : List Px.Nd) (h : Wks w B l) (he : EnvW w) (hB : 12 ≤ B) :
   Calls Tryz.prog 139 #[.pointer (some ⟨B, 0, none⟩)] w (WOut w B wLimV (rLimit l)) := by
 have HW := hd h
 have HE := hd he
 have hBw := h.lt
 clear h he
 go_enter Tryz.func139, Tryz.ntmps139
 go_wp2_with fail
 refine (k_take_any _ B l (HW.out.below (by go_grown))).mono ?_
 rintro x w1 ho
 have G1 : w.grownBy w1 (some B) := grown_tr (Below.grownBy (by go_grown)) ho.1
 have HO1 := hd ho.1
 match l, ho, HW with
 | [], ho, _ =>
  obtain ⟨_, rfl⟩ := ho
  exact ⟨rfl, WOut.none G1⟩
 | ⟨xk, xt, xn, xc⟩ :: r, ho, HW =>
  obtain ⟨_, v, rfl, hv, hw⟩ := ho
  have hv : v = ndA ⟨xk, xt, xn, xc⟩ := hv
  subst hv
  have HR := hd (rLimit_is xk xt xn xc r)
  unfold ndA
  simp only
  have hs1 := G1.size
  have HK2 := hd (Blk.new w1 #[.int .i64 xk, .string ⟨xt.toArray⟩, .int .i64 xn, .int .i64 xc] 43)
  have HW2 := hd (hw.below ((Below.refl _ _).alloc (Nat.le_refl _) (.cells #[.int .i64 xk, .string ⟨xt.toArray⟩, .int .i64 xn, .int .i64 xc] 43)))
  have HG2 := hd (grownBy_alloc G1 (.cells #[.int .i64 xk, .string ⟨xt.toArray⟩, .int .i64 xn, .int .i64 xc] 43))
  have HE2 := hd (HE.out.grown HG2.out hB)
  clear hw G1
  go_wp2_with fail
  by_cases hf : xt = [] ∧ xc = 0
  rotate_left
  · refine (k_fields_no _ B _ _ _ _ [] _ _ (fun e => hf ⟨e.1, e.2.2⟩)).mono ?_
    rintro y w4 ⟨rfl, hb4⟩
    exact ⟨rfl, by rw [HR.out, if_neg (fun e => hf ⟨e.1, e.2.1⟩)]; exact WOut.none (grown_tr HG2.out (Below.grownBy hb4))⟩
  obtain ⟨rfl, rfl⟩ := hf
  refine (k_fields_yes _ B _ _ _ _).mono ?_
  rintro y w4 ⟨rfl, hb4⟩
  have HK4 := hd (HK2.out.below hb4 HK2.out.lt)
  have G4 := hd (grown_tr HG2.out (Below.grownBy hb4))
  have W4 := hd (HW2.out.below hb4)
  have q0 := HK4.out.cell 0
  have q1 := HK4.out.cell 1
  have q2 := HK4.out.cell 2
  have q3 := HK4.out.cell 3
  simp at q0 q1 q2 q3
  have hK4 := HK4.out.lt
  clear hb4
  clear q0 q1 q3
  by_cases h0 : 0 ≤ xn
  · by_cases h9 : xn ≤ 1000000000
    · go_wp2_with fail
      refine (k_must_true _ B).mono ?_
      rintro y w5 ⟨rfl, h0⟩
      rw [h0]
      clear h0 w5
      go_wp2_with fail
      go_ret
      rw [HR.out, if_pos (by simp; omega)]
      refine WOut.some G4.out ?_ W4.out
      show _ = Value.int _ _
      rw [show ((xn.toNat : Nat) : Int) = xn by omega]
      rfl
    · have hn : decide (xn ≤ 1000000000) = false := decide_eq_false h9
      go_wp2_with fail
      refine (k_must_false _ B).mono ?_
      rintro y w5 ⟨rfl, hb5⟩
      exact ⟨rfl, by rw [HR.out, if_neg (fun e => by have := e.2.2.2; omega)]; exact WOut.none (grown_tr G4.out (Below.grownBy hb5))⟩
  · have hn : decide (0 ≤ xn) = false := decide_eq_false h0
    go_wp2_with fail
    refine (k_must_false _ B).mono ?_
    rintro y w5 ⟨rfl, hb5⟩
    exact ⟨rfl, by rw [HR.out, if_neg (fun e => by have := e.2.2.1; omega)]; exact WOut.none (grown_tr G4.out (Below.grownBy hb5))⟩
def isK (k : Int) (kind : Int) (l : List Px.Nd) : Bool := decide (0 < k ∧ Px.pkN l = kind)
theorem Wks.away {w w' : World} {B L : Nat} {l : List Px.Nd} (h : Wks w B l) (hg : w.grownBy w' (some L)) (hBL : B < L) : Wks w' B l := by
 obtain ⟨ao, cap, h1, h2, h3, h4, h5⟩ := h
 refine ⟨ao, cap, blk_keep h1 hg (by omega), h2, h3, h4, fun hne => ?_⟩
 obtain ⟨g, off, e, hgB, ht⟩ := h5 hne
 exact ⟨g, off, e, hgB, ht.keep (hg.block g (by have := h1.lt; omega) (by simp; omega))⟩
def kidLeft (k : Int) (kind : Int) (l : List Px.Nd) : Int := if isK k kind l = true then k - 1 else k
def KidOut (w : World) (L : Nat) (k kind : Int) (l : List Px.Nd) (x : Ending) (w' : World) : Prop := x = .returned (.bool (isK k kind l)) ∧ w.grownBy w' (some L) ∧ Blk w' L #[.int .i64 (kidLeft k kind l)] 3
theorem k_isKid_any (w : World) (B L : Nat) (l : List Px.Nd) (k kind : Int) (h : Wks w B l) (hL : Blk w L #[.int .i64 k] 3) (hBL : B < L) (hk : k ≤ 9223372036854775807) :
   Calls Tryz.prog 133 #[.pointer (some ⟨B, 0, none⟩), .pointer (some ⟨L, 0, none⟩), .int .i64 kind] w (KidOut w L k kind l) := by
 have HW := hd h
 have HL := hd hL
 have c0 := hL.cell 0
 simp at c0
 have f0 := hL.free 0
 have hLw := hL.lt
 clear h hL
 by_cases hk0 : 0 < k
 · have h1 : decide (k ≤ 0) = false := decide_eq_false (by omega)
   go_enter Tryz.func133, Tryz.ntmps133
   go_wp2_with fail
   refine (k_peek_any _ B l (HW.out.below (by go_grown))).mono ?_
   rintro x w1 ⟨rfl, hb1⟩
   have HB1 := hd hb1
   have HL1 := hd (HL.out.below hb1 hLw)
   have d0 := HL1.out.cell 0
   simp at d0
   have g0 := HL1.out.free 0
   have hL1 := HL1.out.lt
   clear hb1
   by_cases hp : Px.pkN l = kind
   · have HI : Hid (isK k kind l = true) := by show _ = _; unfold isK; simp [hk0, hp]
     have hp' : (Px.pkN l != kind) = false := by simp [hp]
     go_wp2_with fail
     go_ret
     unfold KidOut kidLeft
     rw [HI.out]
     exact ⟨rfl, grownBy_trans (Below.grownBy HB1.out) (grownBy_set w1 L 0 _), HL1.out.set 0 _⟩
   · have HI : Hid (isK k kind l = false) := by show _ = _; unfold isK; simp [hp]
     have hp' : (Px.pkN l != kind) = true := bne_iff_ne.2 hp
     go_wp2_with fail
     go_ret
     unfold KidOut kidLeft
     rw [HI.out]
     exact ⟨rfl, Below.grownBy HB1.out, HL1.out⟩
 · have HI : Hid (isK k kind l = false) := by show _ = _; unfold isK; simp [hk0]
   have h1 : k ≤ 0 := by omega
   go_enter Tryz.func133, Tryz.ntmps133
   go_wp2_with fail
   go_ret
   unfold KidOut kidLeft
   rw [HI.out]
   exact ⟨rfl, Below.grownBy (Below.refl _ _), HL.out⟩
def rWh (k : Int) (l : List Px.Nd) : Option (Option Px.E × Int × List Px.Nd) :=
 if isK k 11 l = true then
   match l with
   | [] => none
   | x :: r => if Px.bareN x 1 = true then (Px.rE 40 r).map fun y => (some y.1, k - 1, y.2) else none
 else some (none, k, l)
def WhOut (w : World) (B L : Nat) (r : Option (Option Px.E × Int × List Px.Nd)) (x : Ending) (w' : World) : Prop := Gr2 w w' B L ∧ match r with
 | none => x = Flt 0 7
 | some (o, k', l') => x = .returned (ev? o) ∧ Blk w' L #[.int .i64 k'] 3 ∧ Wks w' B l'
theorem k_where_any (w : World) (B L : Nat) (l : List Px.Nd) (k : Int) (h : Wks w B l) (he : EnvW w) (hB : 12 ≤ B) (hL : Blk w L #[.int .i64 k] 3) (hBL : B < L) (hk : k ≤ 9223372036854775807) :
   Calls Tryz.prog 132 #[.pointer (some ⟨B, 0, none⟩), .pointer (some ⟨L, 0, none⟩)] w (WhOut w B L (rWh k l)) := by
 have HW := hd h
 have HL := hd hL
 have HE := hd he
 have hLw := hL.lt
 clear h hL he
 go_enter Tryz.func132, Tryz.ntmps132
 go_wp2_with fail
 refine (k_isKid_any _ B L l k 11 (HW.out.below (by go_grown)) (HL.out.below (by go_grown) hLw) hBL hk).mono ?_
 rintro x w1 ⟨rfl, hg1, hL1⟩
 unfold kidLeft at hL1
 have G1 := hd (Gr2.snd (B := B) hg1)
 have W1 := hd (HW.out.away hg1 hBL)
 have E1 := hd (G1.out.env HE.out hB (by omega))
 clear hg1
 cases hi : isK k 11 l with
 | false =>
  rw [hi] at hL1
  have HL1 := hd hL1
  have HR : Hid (rWh k l = some (none, k, l)) := by show _ = _; unfold rWh; rw [hi]; rfl
  clear hL1 hi
  go_wp2_with fail
  go_ret
  rw [HR.out]
  exact ⟨G1.out, rfl, HL1.out, W1.out⟩
 | true =>
  rw [hi] at hL1
  have HL1 : Hid (Blk w1 L #[.int .i64 (k - 1)] 3) := hL1
  match l, hi, W1 with
  | [], hi, _ => exact absurd hi (by simp [isK, Px.pkN])
  | ⟨xk, xt, xn, xc⟩ :: r, hi, W1 =>
   have HR : Hid (rWh k (⟨xk, xt, xn, xc⟩ :: r) = if Px.bareN ⟨xk, xt, xn, xc⟩ 1 = true then (Px.rE 40 r).map fun y => (some y.1, k - 1, y.2) else none) := by show _ = _; unfold rWh; rw [hi]; rfl
   clear hL1 hi
   go_wp2_with fail
   refine (k_take_any _ B _ W1.out).mono ?_
   rintro y w2 ⟨hg2, v, rfl, hv, hw2⟩
   have hv : v = ndA ⟨xk, xt, xn, xc⟩ := hv
   subst hv
   unfold ndA
   simp only
   have G2 := hd (G1.out.trans (Gr2.fst (L := L) hg2))
   have HL2 := hd (blk_keep HL1.out hg2 (by omega))
   have W2 := hd hw2
   clear hg2 hw2
   go_wp2_with fail
   by_cases hf : xt = [] ∧ xn = 0 ∧ xc = 1
   rotate_left
   · refine (k_fields_no _ B _ _ _ _ [] _ _ hf).mono ?_
     rintro y w4 ⟨rfl, hb4⟩
     refine ⟨rfl, G2.out.trans (Gr2.below hb4), ?_⟩
     rw [HR.out, if_neg (fun e => hf ((bare_iff _ _ _ _ _).1 e))]
     rfl
   have HRR : Hid (rWh k (⟨xk, xt, xn, xc⟩ :: r) = (Px.rE 40 r).map fun y => (some y.1, k - 1, y.2)) := by show _ = _; rw [HR.out, if_pos ((bare_iff _ _ _ _ _).2 hf)]
   obtain ⟨rfl, rfl, rfl⟩ := hf
   refine (k_fields_yes _ B _ _ _ _).mono ?_
   rintro y w4 ⟨rfl, hb4⟩
   have G4 := hd (G2.out.trans (Gr2.below hb4))
   have HL4 := hd (HL2.out.below hb4 HL2.out.lt)
   have W4 := hd (W2.out.below hb4)
   have E4 := hd (G4.out.env HE.out hB (by omega))
   clear hb4
   go_wp2_with fail
   refine (k_expr_any _ B r W4.out E4.out hB).mono ?_
   rintro x w6 ho
   obtain ⟨g, ⟨p1, rfl⟩ | ⟨a, l6, v, p1, rfl, hv, hw6⟩⟩ := ho.cases
   · refine ⟨rfl, G4.out.trans (Gr2.fst g), ?_⟩
     rw [HRR.out, p1]
     rfl
   have HVA : Hid (v = ev a) := hv
   obtain ⟨et, ex, hev⟩ := ev_iface a
   have hv2 : v = .iface et ex := by rw [HVA.out, hev]
   subst hv2
   have G6 := hd (G4.out.trans (Gr2.fst g))
   have W6 := hd hw6
   have HL6 := hd (blk_keep HL4.out g (by omega))
   have HP1 := hd p1
   clear ho g hw6 p1 hv hev
   go_wp2_with fail
   go_ret
   rw [HRR.out, HP1.out]
   exact ⟨G6.out, congrArg Ending.returned HVA.out, HL6.out, W6.out⟩
def wItemV (c : Option Px.E) (v : Value) (_ : World) : Prop := v = .agg #[.bool c.isNone, ev? c]
end Go.Proofs.YtkcakbgcfnhgaaaGreatDoor
