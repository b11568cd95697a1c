/- Parts of the proof: To Tp Tq Tr -/
import Derived.Test.YtkcakbgcfnhgaaaGreatDoorX11
namespace Go.Proofs.YtkcakbgcfnhgaaaGreatDoor
set_option linter.unusedSimpArgs false
set_option linter.unusedVariables false
set_option maxRecDepth 100000
set_option maxHeartbeats 16000000
open Go.RowKit
namespace Rf
theorem part_2 (ao : Option Addr) (cap : Nat) (L : List Px.Nd) (hL : L.length ≤ 16777216) (hT : ∀ x ∈ L, x.text.length ≤ 1000000000) (p : Nat) (xt : Lx.Bs) (xn xc : Int) (r : List Px.Nd) (w : World) (hdr : L.drop p = ⟨2, xt, xn, xc⟩ :: r) (hN : NdL w ao L) :
   PartGoal ao cap L p ⟨2, xt, xn, xc⟩ r w := by
 unfold PartGoal
 have hE := expr_any ao cap L hL hT 40 (by omega)
 obtain ⟨hp, g, off, rfl, hg, c0, c1, c2, c3⟩ := hN.head hdr
 simp only at c0 c1 c2 c3
 have hdr1 : L.drop (p + 1) = r := by rw [← List.drop_drop, hdr]; rfl
 have hx1 : xt.length ≤ 1000000000 := hT ⟨2, xt, xn, xc⟩ (List.mem_of_mem_drop (by rw [hdr]; exact List.mem_cons_self))
 have hts : (⟨xt.toArray⟩ : ByteArray).size = xt.length := by show xt.toArray.size = _; simp
 have hpn : p < 16777216 := by omega
 have hS1 : Px.Suf L (some r) := by rw [← hdr1]; exact Px.Suf.at L (p + 1) hp
 have hZ : Px.posZ L (some r) = ((p : Int) + 1) := by rw [← hdr1, Px.posZ_at L (p + 1) (by omega)]; omega
 have HZ := hd hZ
 have HE1 : Hid (∀ w', Below w.heap.size w w' → Calls Tryz.prog 100 #[.slice (some ⟨g, off, none⟩) L.length cap, .int .i64 ((p : Int) + 1), .int .i64 1] w' fun x w'' => x = .returned (.int .i64 (Px.posZ L (Px.wex 40 r))) ∧ Below w'.heap.size w' w'') := fun w' hb => by
  have := hE (some r) w' 1 hS1 (by omega) (hN.below hb)
  rw [hZ] at this
  exact this
 have HP1 : Hid (∀ k, Px.Suf L (Px.wk 40 r k)) := fun k => by rw [← hdr1]; exact Px.wk_suf L 40 (p + 1) (by omega) k
 have HE0 : Hid (∀ w', Below w.heap.size w w' → Calls Tryz.prog 100 #[.slice (some ⟨g, off, none⟩) L.length cap, .int .i64 (p : Int), .int .i64 1] w' fun x w'' => x = .returned (.int .i64 (Px.posZ L (Px.wex 40 (⟨2, xt, xn, xc⟩ :: r)))) ∧ Below w'.heap.size w' w'') := fun w' hb => by
  have := hE (some (L.drop p)) w' 1 (Px.Suf.at L p (by omega)) (by omega) (hN.below hb)
  rw [Px.posZ_at L p (by omega), hdr] at this
  exact this
 have HE := hd hE
 have HN := hd hN
 clear hN hE hdr hdr1 hT hZ hS1
 have hB0 : Below w.heap.size w (w.alloc (.cells #[.int .i64 2, .string ⟨xt.toArray⟩, .int .i64 xn, .int .i64 xc] 43)) := by go_grown
 have HB0 := hd hB0
 have HK0 := hd (Blk.new w #[.int .i64 2, .string ⟨xt.toArray⟩, .int .i64 xn, .int .i64 xc] 43)
 have hs0 := hB0.size
 have hl0 := HK0.out.lt
 clear hB0
 have HP : Hid (∀ o, Px.wpart (⟨2, xt, xn, xc⟩ :: r) = o → Px.posZ L o = Px.posZ L (Px.wpart (⟨2, xt, xn, xc⟩ :: r))) := fun o h => by rw [h]
 have hV := isName_any ⟨xt.toArray⟩ (w.alloc (.cells #[.int .i64 2, .string ⟨xt.toArray⟩, .int .i64 xn, .int .i64 xc] 43)) (by omega)
 rw [show (⟨xt.toArray⟩ : ByteArray).data.toList = xt by simp] at hV
 cases hv : Px.isName xt
 · rw [hv] at hV
   have HV := hd hV
   clear hV
   have HR : Hid ((-1 : Int) = Px.posZ L (Px.wpart (⟨2, xt, xn, xc⟩ :: r))) := by
    show _ = _
    rw [show Px.wpart (⟨2, xt, xn, xc⟩ :: r) = none by unfold Px.wpart; simp [hv]]
    rfl
   go_enter Tryz.func60, Tryz.ntmps60
   go_wp2_with fail
   refine HV.out.mono ?_
   rintro e w9 ⟨rfl, rfl⟩
   go_wp2_with fail
   go_ret
   exact ⟨ret_int HR.out, HB0.out⟩
 · rw [hv] at hV
   have HV := hd hV
   clear hV
   by_cases hc : xc = 0
   · have bhc : (xc == 0) = true := by simpa using hc
     have nhc : (xc != 0) = false := by simpa using hc
     by_cases h1 : xn < 1
     · have ih1 := h1
       have HR : Hid ((-1 : Int) = Px.posZ L (Px.wpart (⟨2, xt, xn, xc⟩ :: r))) := by
        show _ = _
        rw [show Px.wpart (⟨2, xt, xn, xc⟩ :: r) = none by unfold Px.wpart; simp [hv, hc]; omega]
        rfl
       clear hc
       go_enter Tryz.func60, Tryz.ntmps60
       go_wp2_with fail
       refine HV.out.mono ?_
       rintro e w9 ⟨rfl, rfl⟩
       go_wp2_with fail
       go_ret
       exact ⟨ret_int HR.out, HB0.out⟩
     · have ih1 := Int.not_lt.1 h1
       by_cases h7 : 7 < xn
       · have ih7 := h7
         have HR : Hid ((-1 : Int) = Px.posZ L (Px.wpart (⟨2, xt, xn, xc⟩ :: r))) := by
          show _ = _
          rw [show Px.wpart (⟨2, xt, xn, xc⟩ :: r) = none by unfold Px.wpart; simp [hv, hc]; omega]
          rfl
         clear hc
         go_enter Tryz.func60, Tryz.ntmps60
         go_wp2_with fail
         refine HV.out.mono ?_
         rintro e w9 ⟨rfl, rfl⟩
         go_wp2_with fail
         go_ret
         exact ⟨ret_int HR.out, HB0.out⟩
       · have ih7 := Int.not_lt.1 h7
         rcases (show xn = 1 ∨ xn = 2 ∨ xn = 3 ∨ xn = 4 ∨ xn = 5 ∨ xn = 6 ∨ xn = 7 by omega) with rfl | rfl | rfl | rfl | rfl | rfl | rfl
         · have HR : Hid (((p : Int) + 1) = Px.posZ L (Px.wpart (⟨2, xt, 1, xc⟩ :: r))) := by
            show _ = _
            rw [show Px.wpart (⟨2, xt, 1, xc⟩ :: r) = some r by unfold Px.wpart; simp [hv, hc]]
            exact HZ.out.symm
           clear hc
           go_enter Tryz.func60, Tryz.ntmps60
           go_wp2_with fail
           refine HV.out.mono ?_
           rintro e w9 ⟨rfl, rfl⟩
           go_wp2_with fail
           go_ret
           exact ⟨ret_int HR.out, HB0.out⟩
         · have HR : Hid (((p : Int) + 1) = Px.posZ L (Px.wpart (⟨2, xt, 2, xc⟩ :: r))) := by
            show _ = _
            rw [show Px.wpart (⟨2, xt, 2, xc⟩ :: r) = some r by unfold Px.wpart; simp [hv, hc]]
            exact HZ.out.symm
           clear hc
           go_enter Tryz.func60, Tryz.ntmps60
           go_wp2_with fail
           refine HV.out.mono ?_
           rintro e w9 ⟨rfl, rfl⟩
           go_wp2_with fail
           go_ret
           exact ⟨ret_int HR.out, HB0.out⟩
         · have HR : Hid (((p : Int) + 1) = Px.posZ L (Px.wpart (⟨2, xt, 3, xc⟩ :: r))) := by
            show _ = _
            rw [show Px.wpart (⟨2, xt, 3, xc⟩ :: r) = some r by unfold Px.wpart; simp [hv, hc]]
            exact HZ.out.symm
           clear hc
           go_enter Tryz.func60, Tryz.ntmps60
           go_wp2_with fail
           refine HV.out.mono ?_
           rintro e w9 ⟨rfl, rfl⟩
           go_wp2_with fail
           go_ret
           exact ⟨ret_int HR.out, HB0.out⟩
         · have HR : Hid ((-1 : Int) = Px.posZ L (Px.wpart (⟨2, xt, 4, xc⟩ :: r))) := by
            show _ = _
            rw [show Px.wpart (⟨2, xt, 4, xc⟩ :: r) = none by unfold Px.wpart; simp [hv, hc]]
            rfl
           clear hc
           go_enter Tryz.func60, Tryz.ntmps60
           go_wp2_with fail
           refine HV.out.mono ?_
           rintro e w9 ⟨rfl, rfl⟩
           go_wp2_with fail
           go_ret
           exact ⟨ret_int HR.out, HB0.out⟩
         · have HR : Hid (((p : Int) + 1) = Px.posZ L (Px.wpart (⟨2, xt, 5, xc⟩ :: r))) := by
            show _ = _
            rw [show Px.wpart (⟨2, xt, 5, xc⟩ :: r) = some r by unfold Px.wpart; simp [hv, hc]]
            exact HZ.out.symm
           clear hc
           go_enter Tryz.func60, Tryz.ntmps60
           go_wp2_with fail
           refine HV.out.mono ?_
           rintro e w9 ⟨rfl, rfl⟩
           go_wp2_with fail
           go_ret
           exact ⟨ret_int HR.out, HB0.out⟩
         · have HR : Hid (((p : Int) + 1) = Px.posZ L (Px.wpart (⟨2, xt, 6, xc⟩ :: r))) := by
            show _ = _
            rw [show Px.wpart (⟨2, xt, 6, xc⟩ :: r) = some r by unfold Px.wpart; simp [hv, hc]]
            exact HZ.out.symm
           clear hc
           go_enter Tryz.func60, Tryz.ntmps60
           go_wp2_with fail
           refine HV.out.mono ?_
           rintro e w9 ⟨rfl, rfl⟩
           go_wp2_with fail
           go_ret
           exact ⟨ret_int HR.out, HB0.out⟩
         · have HR : Hid (((p : Int) + 1) = Px.posZ L (Px.wpart (⟨2, xt, 7, xc⟩ :: r))) := by
            show _ = _
            rw [show Px.wpart (⟨2, xt, 7, xc⟩ :: r) = some r by unfold Px.wpart; simp [hv, hc]]
            exact HZ.out.symm
           clear hc
           go_enter Tryz.func60, Tryz.ntmps60
           go_wp2_with fail
           refine HV.out.mono ?_
           rintro e w9 ⟨rfl, rfl⟩
           go_wp2_with fail
           go_ret
           exact ⟨ret_int HR.out, HB0.out⟩
   · have bhc : (xc == 0) = false := by simpa using hc
     have nhc : (xc != 0) = true := by simpa using hc
     have HR : Hid ((-1 : Int) = Px.posZ L (Px.wpart (⟨2, xt, xn, xc⟩ :: r))) := by
      show _ = _
      rw [show Px.wpart (⟨2, xt, xn, xc⟩ :: r) = none by unfold Px.wpart; simp [hv, hc]]
      rfl
     clear hc
     go_enter Tryz.func60, Tryz.ntmps60
     go_wp2_with fail
     refine HV.out.mono ?_
     rintro e w9 ⟨rfl, rfl⟩
     go_wp2_with fail
     go_ret
     exact ⟨ret_int HR.out, HB0.out⟩
theorem part_8 (ao : Option Addr) (cap : Nat) (L : List Px.Nd) (hL : L.length ≤ 16777216) (hT : ∀ x ∈ L, x.text.length ≤ 1000000000) (p : Nat) (xt : Lx.Bs) (xn xc : Int) (r : List Px.Nd) (w : World) (hdr : L.drop p = ⟨8, xt, xn, xc⟩ :: r) (hN : NdL w ao L) :
   PartGoal ao cap L p ⟨8, xt, xn, xc⟩ r w := by
 unfold PartGoal
 have hE := expr_any ao cap L hL hT 40 (by omega)
 obtain ⟨hp, g, off, rfl, hg, c0, c1, c2, c3⟩ := hN.head hdr
 simp only at c0 c1 c2 c3
 have hdr1 : L.drop (p + 1) = r := by rw [← List.drop_drop, hdr]; rfl
 have hx1 : xt.length ≤ 1000000000 := hT ⟨8, xt, xn, xc⟩ (List.mem_of_mem_drop (by rw [hdr]; exact List.mem_cons_self))
 have hts : (⟨xt.toArray⟩ : ByteArray).size = xt.length := by show xt.toArray.size = _; simp
 have hpn : p < 16777216 := by omega
 have hS1 : Px.Suf L (some r) := by rw [← hdr1]; exact Px.Suf.at L (p + 1) hp
 have hZ : Px.posZ L (some r) = ((p : Int) + 1) := by rw [← hdr1, Px.posZ_at L (p + 1) (by omega)]; omega
 have HZ := hd hZ
 have HE1 : Hid (∀ w', Below w.heap.size w w' → Calls Tryz.prog 100 #[.slice (some ⟨g, off, none⟩) L.length cap, .int .i64 ((p : Int) + 1), .int .i64 1] w' fun x w'' => x = .returned (.int .i64 (Px.posZ L (Px.wex 40 r))) ∧ Below w'.heap.size w' w'') := fun w' hb => by
  have := hE (some r) w' 1 hS1 (by omega) (hN.below hb)
  rw [hZ] at this
  exact this
 have HP1 : Hid (∀ k, Px.Suf L (Px.wk 40 r k)) := fun k => by rw [← hdr1]; exact Px.wk_suf L 40 (p + 1) (by omega) k
 have HE0 : Hid (∀ w', Below w.heap.size w w' → Calls Tryz.prog 100 #[.slice (some ⟨g, off, none⟩) L.length cap, .int .i64 (p : Int), .int .i64 1] w' fun x w'' => x = .returned (.int .i64 (Px.posZ L (Px.wex 40 (⟨8, xt, xn, xc⟩ :: r)))) ∧ Below w'.heap.size w' w'') := fun w' hb => by
  have := hE (some (L.drop p)) w' 1 (Px.Suf.at L p (by omega)) (by omega) (hN.below hb)
  rw [Px.posZ_at L p (by omega), hdr] at this
  exact this
 have HE := hd hE
 have HN := hd hN
 clear hN hE hdr hdr1 hT hZ hS1
 have hB0 : Below w.heap.size w (w.alloc (.cells #[.int .i64 8, .string ⟨xt.toArray⟩, .int .i64 xn, .int .i64 xc] 43)) := by go_grown
 have HB0 := hd hB0
 have HK0 := hd (Blk.new w #[.int .i64 8, .string ⟨xt.toArray⟩, .int .i64 xn, .int .i64 xc] 43)
 have hs0 := hB0.size
 have hl0 := HK0.out.lt
 clear hB0
 have HP : Hid (∀ o, Px.wpart (⟨8, xt, xn, xc⟩ :: r) = o → Px.posZ L o = Px.posZ L (Px.wpart (⟨8, xt, xn, xc⟩ :: r))) := fun o h => by rw [h]
 have hV := isName_any ⟨xt.toArray⟩ (w.alloc (.cells #[.int .i64 8, .string ⟨xt.toArray⟩, .int .i64 xn, .int .i64 xc] 43)) (by omega)
 rw [show (⟨xt.toArray⟩ : ByteArray).data.toList = xt by simp] at hV
 cases hv : Px.isName xt
 · rw [hv] at hV
   have HV := hd hV
   clear hV
   have HR : Hid ((-1 : Int) = Px.posZ L (Px.wpart (⟨8, xt, xn, xc⟩ :: r))) := by
    show _ = _
    rw [show Px.wpart (⟨8, xt, xn, xc⟩ :: r) = none by unfold Px.wpart; simp [hv]]
    rfl
   go_enter Tryz.func60, Tryz.ntmps60
   go_wp2_with fail
   refine HV.out.mono ?_
   rintro e w9 ⟨rfl, rfl⟩
   go_wp2_with fail
   go_ret
   exact ⟨ret_int HR.out, HB0.out⟩
 · rw [hv] at hV
   have HV := hd hV
   clear hV
   by_cases h0 : xn = 0
   · have bh0 : (xn == 0) = true := by simpa using h0
     have nh0 : (xn != 0) = false := by simpa using h0
     by_cases hc : xc = 1
     · have bhc : (xc == 1) = true := by simpa using hc
       have nhc : (xc != 1) = false := by simpa using hc
       have HR : Hid (Px.posZ L (Px.wex 40 r) = Px.posZ L (Px.wpart (⟨8, xt, xn, xc⟩ :: r))) := by
        show _ = _
        rw [show Px.wpart (⟨8, xt, xn, xc⟩ :: r) = Px.wex 40 r by unfold Px.wpart; simp [hv, h0, hc]]
       clear h0 hc
       go_enter Tryz.func60, Tryz.ntmps60
       go_wp2_with fail
       refine HV.out.mono ?_
       rintro e w9 ⟨rfl, rfl⟩
       go_wp2_with fail
       refine (HE1.out _ HB0.out).mono ?_
       rintro e w2 ⟨rfl, hb⟩
       have HB2 : Hid (Below w.heap.size w w2) := HB0.out.trans (hb.mono HB0.out.size)
       clear hb
       go_wp2_with fail
       go_ret
       exact ⟨ret_int HR.out, HB2.out⟩
     · have bhc : (xc == 1) = false := by simpa using hc
       have nhc : (xc != 1) = true := by simpa using hc
       have HR : Hid ((-1 : Int) = Px.posZ L (Px.wpart (⟨8, xt, xn, xc⟩ :: r))) := by
        show _ = _
        rw [show Px.wpart (⟨8, xt, xn, xc⟩ :: r) = none by unfold Px.wpart; simp [hv, h0, hc]]
        rfl
       clear h0 hc
       go_enter Tryz.func60, Tryz.ntmps60
       go_wp2_with fail
       refine HV.out.mono ?_
       rintro e w9 ⟨rfl, rfl⟩
       go_wp2_with fail
       go_ret
       exact ⟨ret_int HR.out, HB0.out⟩
   · have bh0 : (xn == 0) = false := by simpa using h0
     have nh0 : (xn != 0) = true := by simpa using h0
     have HR : Hid ((-1 : Int) = Px.posZ L (Px.wpart (⟨8, xt, xn, xc⟩ :: r))) := by
      show _ = _
      rw [show Px.wpart (⟨8, xt, xn, xc⟩ :: r) = none by unfold Px.wpart; simp [hv, h0]]
      rfl
     clear h0
     go_enter Tryz.func60, Tryz.ntmps60
     go_wp2_with fail
     refine HV.out.mono ?_
     rintro e w9 ⟨rfl, rfl⟩
     go_wp2_with fail
     go_ret
     exact ⟨ret_int HR.out, HB0.out⟩
end Rf
namespace Rf
theorem part_5 (ao : Option Addr) (cap : Nat) (L : List Px.Nd) (hL : L.length ≤ 16777216) (hT : ∀ x ∈ L, x.text.length ≤ 1000000000) (p : Nat) (xt : Lx.Bs) (xn xc : Int) (r : List Px.Nd) (w : World) (hdr : L.drop p = ⟨5, xt, xn, xc⟩ :: r) (hN : NdL w ao L) (hc9 : xc ≤ 9223372036854775807) :
   PartGoal ao cap L p ⟨5, xt, xn, xc⟩ r w := by
 unfold PartGoal
 have hE := expr_any ao cap L hL hT 40 (by omega)
 obtain ⟨hp, g, off, rfl, hg, c0, c1, c2, c3⟩ := hN.head hdr
 simp only at c0 c1 c2 c3
 have hdr1 : L.drop (p + 1) = r := by rw [← List.drop_drop, hdr]; rfl
 have hx1 : xt.length ≤ 1000000000 := hT ⟨5, xt, xn, xc⟩ (List.mem_of_mem_drop (by rw [hdr]; exact List.mem_cons_self))
 have hts : (⟨xt.toArray⟩ : ByteArray).size = xt.length := by show xt.toArray.size = _; simp
 have hpn : p < 16777216 := by omega
 have hS1 : Px.Suf L (some r) := by rw [← hdr1]; exact Px.Suf.at L (p + 1) hp
 have hZ : Px.posZ L (some r) = ((p : Int) + 1) := by rw [← hdr1, Px.posZ_at L (p + 1) (by omega)]; omega
 have HZ := hd hZ
 have HE1 : Hid (∀ w', Below w.heap.size w w' → Calls Tryz.prog 100 #[.slice (some ⟨g, off, none⟩) L.length cap, .int .i64 ((p : Int) + 1), .int .i64 1] w' fun x w'' => x = .returned (.int .i64 (Px.posZ L (Px.wex 40 r))) ∧ Below w'.heap.size w' w'') := fun w' hb => by
  have := hE (some r) w' 1 hS1 (by omega) (hN.below hb)
  rw [hZ] at this
  exact this
 have HP1 : Hid (∀ k, Px.Suf L (Px.wk 40 r k)) := fun k => by rw [← hdr1]; exact Px.wk_suf L 40 (p + 1) (by omega) k
 have HE0 : Hid (∀ w', Below w.heap.size w w' → Calls Tryz.prog 100 #[.slice (some ⟨g, off, none⟩) L.length cap, .int .i64 (p : Int), .int .i64 1] w' fun x w'' => x = .returned (.int .i64 (Px.posZ L (Px.wex 40 (⟨5, xt, xn, xc⟩ :: r)))) ∧ Below w'.heap.size w' w'') := fun w' hb => by
  have := hE (some (L.drop p)) w' 1 (Px.Suf.at L p (by omega)) (by omega) (hN.below hb)
  rw [Px.posZ_at L p (by omega), hdr] at this
  exact this
 have HE := hd hE
 have HN := hd hN
 clear hN hE hdr hdr1 hT hZ hS1
 have hB0 : Below w.heap.size w (w.alloc (.cells #[.int .i64 5, .string ⟨xt.toArray⟩, .int .i64 xn, .int .i64 xc] 43)) := by go_grown
 have HB0 := hd hB0
 have HK0 := hd (Blk.new w #[.int .i64 5, .string ⟨xt.toArray⟩, .int .i64 xn, .int .i64 xc] 43)
 have hs0 := hB0.size
 have hl0 := HK0.out.lt
 clear hB0
 have HP : Hid (∀ o, Px.wpart (⟨5, xt, xn, xc⟩ :: r) = o → Px.posZ L o = Px.posZ L (Px.wpart (⟨5, xt, xn, xc⟩ :: r))) := fun o h => by rw [h]
 by_cases ht : xt = []
 · have bht : (xt == []) = true := by simpa using ht
   have nht : (xt != []) = false := by simpa using ht
   by_cases h0 : xn = 0
   · have bh0 : (xn == 0) = true := by simpa using h0
     have nh0 : (xn != 0) = false := by simpa using h0
     by_cases h1 : xc < 1
     · have ih1 := h1
       have HR : Hid ((-1 : Int) = Px.posZ L (Px.wpart (⟨5, xt, xn, xc⟩ :: r))) := by
        show _ = _
        rw [show Px.wpart (⟨5, xt, xn, xc⟩ :: r) = none by unfold Px.wpart; simp [ht, h0]; omega]
        rfl
       clear ht h0 h1
       go_enter Tryz.func60, Tryz.ntmps60
       go_wp2_with fail
       go_ret
       exact ⟨ret_int HR.out, HB0.out⟩
     · have ih1 := Int.not_lt.1 h1
       have HWK : Hid (Px.wpart (⟨5, xt, xn, xc⟩ :: r) = Px.wexs xc.toNat r) := by
        show _ = _
        unfold Px.wpart
        simp only [show ¬ ((5 : Int) = 2) by decide, if_false, if_true]
        rw [if_pos ⟨ht, h0, by omega⟩]
       clear ht h0 h1
       go_enter Tryz.func60, Tryz.ntmps60
       go_wp2_with fail
       have HB1 := HB0
       have HK1 := HK0
       clear HB0 HK0 hs0 hl0
       generalize w.alloc (.cells #[.int .i64 5, .string ⟨xt.toArray⟩, .int .i64 xn, .int .i64 xc] 43) = w1 at *
       obtain ⟨K, rfl⟩ : ∃ K : Nat, xc = (K : Int) := ⟨xc.toNat, by omega⟩
       have HWK2 : Hid (Px.wpart (⟨5, xt, xn, (K : Int)⟩ :: r) = Px.wk 40 r K) := by show _ = _; rw [HWK.out, Int.toNat_natCast, Px.wexs_wk]
       have hl1 := HK1.out.lt
       clear HWK
       go_loopw [1, 8] (fun at' i wr => ∃ k : Nat, k ≤ K ∧ i = .int .i64 k ∧ at' = .int .i64 (Px.posZ L (Px.wk 40 r k)) ∧ Hid (Below w1.heap.size w1 wr)) (fun _ i _ => K - (intOf i).toNat)
       case atStart => exact ⟨0, by omega, rfl, by rw [show Px.wk 40 r 0 = some r from rfl, HZ.out], Below.refl _ _⟩
       case round =>
        obtain ⟨k, hk, rfl, rfl, HW⟩ := hrel
        have K3 := HK1.out.below HW.out HK1.out.lt
        have b3 := K3.cell 3
        simp at b3
        have hl3 := K3.lt
        clear K3
        by_cases hlt : k < K
        · rcases (HP1.out k).cases with hno | ⟨q, hq, hyes⟩
          · have HNO : Hid (Px.posZ L (Px.wpart (⟨5, xt, xn, (K : Int)⟩ :: r)) = -1) := by
             show _ = _
             rw [HWK2.out, Px.wk_none hno (by omega)]; rfl
            rw [hno, show Px.posZ L none = -1 from rfl]
            clear hno
            go_wp2_with fail
            go_ret
            exact ⟨ret_int (by rw [HNO.out]), HB1.out.trans (HW.out.mono HB1.out.size)⟩
          · have hC := HE.out (Px.wk 40 r k) wr 1 (HP1.out k) (by omega) (HN.out.below (HB1.out.trans (HW.out.mono HB1.out.size)))
            rw [show (Px.wk 40 r k).bind (Px.wex 40) = Px.wk 40 r (k + 1) from rfl] at hC
            rw [hyes, Px.posZ_at L q hq] at hC
            have HC := hd hC
            rw [hyes, Px.posZ_at L q hq]
            clear hC hyes
            go_wp2_with fail
            refine HC.out.mono ?_
            rintro e w2 ⟨rfl, hb⟩
            have HW1 : Hid (Below w1.heap.size w1 w2) := HW.out.trans (hb.mono HW.out.size)
            clear hb
            go_wp2_with fail
            go_roundw
            case rel => exact ⟨k + 1, by omega, by go_num, rfl, HW1⟩
            case measure => simp [intOf]; omega
        · have hkc : k = K := by omega
          subst hkc
          go_wp2_with fail
          go_ret
          exact ⟨ret_int (by rw [HWK2.out]), HB1.out.trans (HW.out.mono HB1.out.size)⟩
   · have bh0 : (xn == 0) = false := by simpa using h0
     have nh0 : (xn != 0) = true := by simpa using h0
     have HR : Hid ((-1 : Int) = Px.posZ L (Px.wpart (⟨5, xt, xn, xc⟩ :: r))) := by
      show _ = _
      rw [show Px.wpart (⟨5, xt, xn, xc⟩ :: r) = none by unfold Px.wpart; simp [ht, h0]]
      rfl
     clear ht h0
     go_enter Tryz.func60, Tryz.ntmps60
     go_wp2_with fail
     go_ret
     exact ⟨ret_int HR.out, HB0.out⟩
 · have bht : (xt == []) = false := by simpa using ht
   have nht : (xt != []) = true := by simpa using ht
   have HR : Hid ((-1 : Int) = Px.posZ L (Px.wpart (⟨5, xt, xn, xc⟩ :: r))) := by
    show _ = _
    rw [show Px.wpart (⟨5, xt, xn, xc⟩ :: r) = none by unfold Px.wpart; simp [ht]]
    rfl
   clear ht
   go_enter Tryz.func60, Tryz.ntmps60
   go_wp2_with fail
   go_ret
   exact ⟨ret_int HR.out, HB0.out⟩
theorem part_other (ao : Option Addr) (cap : Nat) (L : List Px.Nd) (hL : L.length ≤ 16777216) (hT : ∀ x ∈ L, x.text.length ≤ 1000000000) (p : Nat) (kd : Int) (xt : Lx.Bs) (xn xc : Int) (r : List Px.Nd) (w : World) (hdr : L.drop p = ⟨kd, xt, xn, xc⟩ :: r) (hN : NdL w ao L) (k2 : kd ≠ 2) (k5 : kd ≠ 5) (k8 : kd ≠ 8) (k10 : kd ≠ 10) (k11 : kd ≠ 11) (k12 : kd ≠ 12) (k13 : kd ≠ 13) :
   PartGoal ao cap L p ⟨kd, xt, xn, xc⟩ r w := by
 unfold PartGoal
 have hE := expr_any ao cap L hL hT 40 (by omega)
 obtain ⟨hp, g, off, rfl, hg, c0, c1, c2, c3⟩ := hN.head hdr
 simp only at c0 c1 c2 c3
 have hdr1 : L.drop (p + 1) = r := by rw [← List.drop_drop, hdr]; rfl
 have hx1 : xt.length ≤ 1000000000 := hT ⟨kd, xt, xn, xc⟩ (List.mem_of_mem_drop (by rw [hdr]; exact List.mem_cons_self))
 have hts : (⟨xt.toArray⟩ : ByteArray).size = xt.length := by show xt.toArray.size = _; simp
 have hpn : p < 16777216 := by omega
 have hS1 : Px.Suf L (some r) := by rw [← hdr1]; exact Px.Suf.at L (p + 1) hp
 have hZ : Px.posZ L (some r) = ((p : Int) + 1) := by rw [← hdr1, Px.posZ_at L (p + 1) (by omega)]; omega
 have HZ := hd hZ
 have HE1 : Hid (∀ w', Below w.heap.size w w' → Calls Tryz.prog 100 #[.slice (some ⟨g, off, none⟩) L.length cap, .int .i64 ((p : Int) + 1), .int .i64 1] w' fun x w'' => x = .returned (.int .i64 (Px.posZ L (Px.wex 40 r))) ∧ Below w'.heap.size w' w'') := fun w' hb => by
  have := hE (some r) w' 1 hS1 (by omega) (hN.below hb)
  rw [hZ] at this
  exact this
 have HP1 : Hid (∀ k, Px.Suf L (Px.wk 40 r k)) := fun k => by rw [← hdr1]; exact Px.wk_suf L 40 (p + 1) (by omega) k
 have HE0 : Hid (∀ w', Below w.heap.size w w' → Calls Tryz.prog 100 #[.slice (some ⟨g, off, none⟩) L.length cap, .int .i64 (p : Int), .int .i64 1] w' fun x w'' => x = .returned (.int .i64 (Px.posZ L (Px.wex 40 (⟨kd, xt, xn, xc⟩ :: r)))) ∧ Below w'.heap.size w' w'') := fun w' hb => by
  have := hE (some (L.drop p)) w' 1 (Px.Suf.at L p (by omega)) (by omega) (hN.below hb)
  rw [Px.posZ_at L p (by omega), hdr] at this
  exact this
 have HE := hd hE
 have HN := hd hN
 clear hN hE hdr hdr1 hT hZ hS1
 have hB0 : Below w.heap.size w (w.alloc (.cells #[.int .i64 kd, .string ⟨xt.toArray⟩, .int .i64 xn, .int .i64 xc] 43)) := by go_grown
 have HB0 := hd hB0
 have HK0 := hd (Blk.new w #[.int .i64 kd, .string ⟨xt.toArray⟩, .int .i64 xn, .int .i64 xc] 43)
 have hs0 := hB0.size
 have hl0 := HK0.out.lt
 clear hB0
 have HP : Hid (∀ o, Px.wpart (⟨kd, xt, xn, xc⟩ :: r) = o → Px.posZ L o = Px.posZ L (Px.wpart (⟨kd, xt, xn, xc⟩ :: r))) := fun o h => by rw [h]
 have HR : Hid (Px.posZ L (Px.wex 40 (⟨kd, xt, xn, xc⟩ :: r)) = Px.posZ L (Px.wpart (⟨kd, xt, xn, xc⟩ :: r))) := by show _ = _; simp only [Px.wpart]; rw [if_neg k2, if_neg k5, if_neg k8, if_neg k10, if_neg k11, if_neg k12, if_neg k13]
 have b2 : (kd == 2) = false := by simpa using k2
 have b5 : (kd == 5) = false := by simpa using k5
 have b8 : (kd == 8) = false := by simpa using k8
 have b10 : (kd == 10) = false := by simpa using k10
 have b11 : (kd == 11) = false := by simpa using k11
 have b12 : (kd == 12) = false := by simpa using k12
 have b13 : (kd == 13) = false := by simpa using k13
 go_enter Tryz.func60, Tryz.ntmps60
 go_wp2_with fail
 refine (HE0.out _ HB0.out).mono ?_
 rintro e w2 ⟨rfl, hb⟩
 have HB2 : Hid (Below w.heap.size w w2) := HB0.out.trans (hb.mono HB0.out.size)
 clear hb
 go_wp2_with fail
 go_ret
 exact ⟨ret_int HR.out, HB2.out⟩
end Rf
namespace Rf
theorem part_10 (ao : Option Addr) (cap : Nat) (L : List Px.Nd) (hL : L.length ≤ 16777216) (hT : ∀ x ∈ L, x.text.length ≤ 1000000000) (p : Nat) (xt : Lx.Bs) (xn xc : Int) (r : List Px.Nd) (w : World) (hdr : L.drop p = ⟨10, xt, xn, xc⟩ :: r) (hN : NdL w ao L) :
   PartGoal ao cap L p ⟨10, xt, xn, xc⟩ r w := by
 unfold PartGoal
 have hE := expr_any ao cap L hL hT 40 (by omega)
 obtain ⟨hp, g, off, rfl, hg, c0, c1, c2, c3⟩ := hN.head hdr
 simp only at c0 c1 c2 c3
 have hdr1 : L.drop (p + 1) = r := by rw [← List.drop_drop, hdr]; rfl
 have hx1 : xt.length ≤ 1000000000 := hT ⟨10, xt, xn, xc⟩ (List.mem_of_mem_drop (by rw [hdr]; exact List.mem_cons_self))
 have hts : (⟨xt.toArray⟩ : ByteArray).size = xt.length := by show xt.toArray.size = _; simp
 have hpn : p < 16777216 := by omega
 have hS1 : Px.Suf L (some r) := by rw [← hdr1]; exact Px.Suf.at L (p + 1) hp
 have hZ : Px.posZ L (some r) = ((p : Int) + 1) := by rw [← hdr1, Px.posZ_at L (p + 1) (by omega)]; omega
 have HZ := hd hZ
 have HE1 : Hid (∀ w', Below w.heap.size w w' → Calls Tryz.prog 100 #[.slice (some ⟨g, off, none⟩) L.length cap, .int .i64 ((p : Int) + 1), .int .i64 1] w' fun x w'' => x = .returned (.int .i64 (Px.posZ L (Px.wex 40 r))) ∧ Below w'.heap.size w' w'') := fun w' hb => by
  have := hE (some r) w' 1 hS1 (by omega) (hN.below hb)
  rw [hZ] at this
  exact this
 have HP1 : Hid (∀ k, Px.Suf L (Px.wk 40 r k)) := fun k => by rw [← hdr1]; exact Px.wk_suf L 40 (p + 1) (by omega) k
 have HE0 : Hid (∀ w', Below w.heap.size w w' → Calls Tryz.prog 100 #[.slice (some ⟨g, off, none⟩) L.length cap, .int .i64 (p : Int), .int .i64 1] w' fun x w'' => x = .returned (.int .i64 (Px.posZ L (Px.wex 40 (⟨10, xt, xn, xc⟩ :: r)))) ∧ Below w'.heap.size w' w'') := fun w' hb => by
  have := hE (some (L.drop p)) w' 1 (Px.Suf.at L p (by omega)) (by omega) (hN.below hb)
  rw [Px.posZ_at L p (by omega), hdr] at this
  exact this
 have HE := hd hE
 have HN := hd hN
 clear hN hE hdr hdr1 hT hZ hS1
 have hB0 : Below w.heap.size w (w.alloc (.cells #[.int .i64 10, .string ⟨xt.toArray⟩, .int .i64 xn, .int .i64 xc] 43)) := by go_grown
 have HB0 := hd hB0
 have HK0 := hd (Blk.new w #[.int .i64 10, .string ⟨xt.toArray⟩, .int .i64 xn, .int .i64 xc] 43)
 have hs0 := hB0.size
 have hl0 := HK0.out.lt
 clear hB0
 have HP : Hid (∀ o, Px.wpart (⟨10, xt, xn, xc⟩ :: r) = o → Px.posZ L o = Px.posZ L (Px.wpart (⟨10, xt, xn, xc⟩ :: r))) := fun o h => by rw [h]
 cases hbv : Px.bareN ⟨10, xt, xn, xc⟩ 0
 · have HR : Hid ((-1 : Int) = Px.posZ L (Px.wpart (⟨10, xt, xn, xc⟩ :: r))) := by
    show _ = _
    rw [show Px.wpart (⟨10, xt, xn, xc⟩ :: r) = none by unfold Px.wpart; simp [hbv]]
    rfl
   have HV := hd (fun w => bare_any ⟨10, xt, xn, xc⟩ 0 w)
   rw [hbv] at HV
   clear hbv
   go_enter Tryz.func60, Tryz.ntmps60
   go_wp2_with fail
   refine (HV.out _).mono ?_
   rintro e w1 ⟨rfl, hb⟩
   have HB1 : Hid (Below w.heap.size w w1) := HB0.out.trans (hb.mono hs0)
   clear hb
   go_wp2_with fail
   go_ret
   exact ⟨ret_int HR.out, HB1.out⟩
 · have HR : Hid (((p : Int) + 1) = Px.posZ L (Px.wpart (⟨10, xt, xn, xc⟩ :: r))) := by
    show _ = _
    rw [show Px.wpart (⟨10, xt, xn, xc⟩ :: r) = some r by unfold Px.wpart; simp [hbv]]
    exact HZ.out.symm
   have HV := hd (fun w => bare_any ⟨10, xt, xn, xc⟩ 0 w)
   rw [hbv] at HV
   clear hbv
   go_enter Tryz.func60, Tryz.ntmps60
   go_wp2_with fail
   refine (HV.out _).mono ?_
   rintro e w1 ⟨rfl, hb⟩
   have HB1 : Hid (Below w.heap.size w w1) := HB0.out.trans (hb.mono hs0)
   clear hb
   go_wp2_with fail
   go_ret
   exact ⟨ret_int HR.out, HB1.out⟩
theorem part_11 (ao : Option Addr) (cap : Nat) (L : List Px.Nd) (hL : L.length ≤ 16777216) (hT : ∀ x ∈ L, x.text.length ≤ 1000000000) (p : Nat) (xt : Lx.Bs) (xn xc : Int) (r : List Px.Nd) (w : World) (hdr : L.drop p = ⟨11, xt, xn, xc⟩ :: r) (hN : NdL w ao L) :
   PartGoal ao cap L p ⟨11, xt, xn, xc⟩ r w := by
 unfold PartGoal
 have hE := expr_any ao cap L hL hT 40 (by omega)
 obtain ⟨hp, g, off, rfl, hg, c0, c1, c2, c3⟩ := hN.head hdr
 simp only at c0 c1 c2 c3
 have hdr1 : L.drop (p + 1) = r := by rw [← List.drop_drop, hdr]; rfl
 have hx1 : xt.length ≤ 1000000000 := hT ⟨11, xt, xn, xc⟩ (List.mem_of_mem_drop (by rw [hdr]; exact List.mem_cons_self))
 have hts : (⟨xt.toArray⟩ : ByteArray).size = xt.length := by show xt.toArray.size = _; simp
 have hpn : p < 16777216 := by omega
 have hS1 : Px.Suf L (some r) := by rw [← hdr1]; exact Px.Suf.at L (p + 1) hp
 have hZ : Px.posZ L (some r) = ((p : Int) + 1) := by rw [← hdr1, Px.posZ_at L (p + 1) (by omega)]; omega
 have HZ := hd hZ
 have HE1 : Hid (∀ w', Below w.heap.size w w' → Calls Tryz.prog 100 #[.slice (some ⟨g, off, none⟩) L.length cap, .int .i64 ((p : Int) + 1), .int .i64 1] w' fun x w'' => x = .returned (.int .i64 (Px.posZ L (Px.wex 40 r))) ∧ Below w'.heap.size w' w'') := fun w' hb => by
  have := hE (some r) w' 1 hS1 (by omega) (hN.below hb)
  rw [hZ] at this
  exact this
 have HP1 : Hid (∀ k, Px.Suf L (Px.wk 40 r k)) := fun k => by rw [← hdr1]; exact Px.wk_suf L 40 (p + 1) (by omega) k
 have HE0 : Hid (∀ w', Below w.heap.size w w' → Calls Tryz.prog 100 #[.slice (some ⟨g, off, none⟩) L.length cap, .int .i64 (p : Int), .int .i64 1] w' fun x w'' => x = .returned (.int .i64 (Px.posZ L (Px.wex 40 (⟨11, xt, xn, xc⟩ :: r)))) ∧ Below w'.heap.size w' w'') := fun w' hb => by
  have := hE (some (L.drop p)) w' 1 (Px.Suf.at L p (by omega)) (by omega) (hN.below hb)
  rw [Px.posZ_at L p (by omega), hdr] at this
  exact this
 have HE := hd hE
 have HN := hd hN
 clear hN hE hdr hdr1 hT hZ hS1
 have hB0 : Below w.heap.size w (w.alloc (.cells #[.int .i64 11, .string ⟨xt.toArray⟩, .int .i64 xn, .int .i64 xc] 43)) := by go_grown
 have HB0 := hd hB0
 have HK0 := hd (Blk.new w #[.int .i64 11, .string ⟨xt.toArray⟩, .int .i64 xn, .int .i64 xc] 43)
 have hs0 := hB0.size
 have hl0 := HK0.out.lt
 clear hB0
 have HP : Hid (∀ o, Px.wpart (⟨11, xt, xn, xc⟩ :: r) = o → Px.posZ L o = Px.posZ L (Px.wpart (⟨11, xt, xn, xc⟩ :: r))) := fun o h => by rw [h]
 cases hbv : Px.bareN ⟨11, xt, xn, xc⟩ 1
 · have HR : Hid ((-1 : Int) = Px.posZ L (Px.wpart (⟨11, xt, xn, xc⟩ :: r))) := by
    show _ = _
    rw [show Px.wpart (⟨11, xt, xn, xc⟩ :: r) = none by unfold Px.wpart; simp [hbv]]
    rfl
   have HV := hd (fun w => bare_any ⟨11, xt, xn, xc⟩ 1 w)
   rw [hbv] at HV
   clear hbv
   go_enter Tryz.func60, Tryz.ntmps60
   go_wp2_with fail
   refine (HV.out _).mono ?_
   rintro e w1 ⟨rfl, hb⟩
   have HB1 : Hid (Below w.heap.size w w1) := HB0.out.trans (hb.mono hs0)
   clear hb
   go_wp2_with fail
   go_ret
   exact ⟨ret_int HR.out, HB1.out⟩
 · have HR : Hid (Px.posZ L (Px.wex 40 r) = Px.posZ L (Px.wpart (⟨11, xt, xn, xc⟩ :: r))) := by
    show _ = _
    rw [show Px.wpart (⟨11, xt, xn, xc⟩ :: r) = Px.wex 40 r by unfold Px.wpart; simp [hbv]]
   have HV := hd (fun w => bare_any ⟨11, xt, xn, xc⟩ 1 w)
   rw [hbv] at HV
   clear hbv
   go_enter Tryz.func60, Tryz.ntmps60
   go_wp2_with fail
   refine (HV.out _).mono ?_
   rintro e w1 ⟨rfl, hb⟩
   have HB1 : Hid (Below w.heap.size w w1) := HB0.out.trans (hb.mono hs0)
   clear hb
   go_wp2_with fail
   refine (HE1.out _ HB1.out).mono ?_
   rintro e w2 ⟨rfl, hb⟩
   have HB2 : Hid (Below w.heap.size w w2) := HB1.out.trans (hb.mono HB1.out.size)
   clear hb
   go_wp2_with fail
   go_ret
   exact ⟨ret_int HR.out, HB2.out⟩
theorem part_12 (ao : Option Addr) (cap : Nat) (L : List Px.Nd) (hL : L.length ≤ 16777216) (hT : ∀ x ∈ L, x.text.length ≤ 1000000000) (p : Nat) (xt : Lx.Bs) (xn xc : Int) (r : List Px.Nd) (w : World) (hdr : L.drop p = ⟨12, xt, xn, xc⟩ :: r) (hN : NdL w ao L) :
   PartGoal ao cap L p ⟨12, xt, xn, xc⟩ r w := by
 unfold PartGoal
 have hE := expr_any ao cap L hL hT 40 (by omega)
 obtain ⟨hp, g, off, rfl, hg, c0, c1, c2, c3⟩ := hN.head hdr
 simp only at c0 c1 c2 c3
 have hdr1 : L.drop (p + 1) = r := by rw [← List.drop_drop, hdr]; rfl
 have hx1 : xt.length ≤ 1000000000 := hT ⟨12, xt, xn, xc⟩ (List.mem_of_mem_drop (by rw [hdr]; exact List.mem_cons_self))
 have hts : (⟨xt.toArray⟩ : ByteArray).size = xt.length := by show xt.toArray.size = _; simp
 have hpn : p < 16777216 := by omega
 have hS1 : Px.Suf L (some r) := by rw [← hdr1]; exact Px.Suf.at L (p + 1) hp
 have hZ : Px.posZ L (some r) = ((p : Int) + 1) := by rw [← hdr1, Px.posZ_at L (p + 1) (by omega)]; omega
 have HZ := hd hZ
 have HE1 : Hid (∀ w', Below w.heap.size w w' → Calls Tryz.prog 100 #[.slice (some ⟨g, off, none⟩) L.length cap, .int .i64 ((p : Int) + 1), .int .i64 1] w' fun x w'' => x = .returned (.int .i64 (Px.posZ L (Px.wex 40 r))) ∧ Below w'.heap.size w' w'') := fun w' hb => by
  have := hE (some r) w' 1 hS1 (by omega) (hN.below hb)
  rw [hZ] at this
  exact this
 have HP1 : Hid (∀ k, Px.Suf L (Px.wk 40 r k)) := fun k => by rw [← hdr1]; exact Px.wk_suf L 40 (p + 1) (by omega) k
 have HE0 : Hid (∀ w', Below w.heap.size w w' → Calls Tryz.prog 100 #[.slice (some ⟨g, off, none⟩) L.length cap, .int .i64 (p : Int), .int .i64 1] w' fun x w'' => x = .returned (.int .i64 (Px.posZ L (Px.wex 40 (⟨12, xt, xn, xc⟩ :: r)))) ∧ Below w'.heap.size w' w'') := fun w' hb => by
  have := hE (some (L.drop p)) w' 1 (Px.Suf.at L p (by omega)) (by omega) (hN.below hb)
  rw [Px.posZ_at L p (by omega), hdr] at this
  exact this
 have HE := hd hE
 have HN := hd hN
 clear hN hE hdr hdr1 hT hZ hS1
 have hB0 : Below w.heap.size w (w.alloc (.cells #[.int .i64 12, .string ⟨xt.toArray⟩, .int .i64 xn, .int .i64 xc] 43)) := by go_grown
 have HB0 := hd hB0
 have HK0 := hd (Blk.new w #[.int .i64 12, .string ⟨xt.toArray⟩, .int .i64 xn, .int .i64 xc] 43)
 have hs0 := hB0.size
 have hl0 := HK0.out.lt
 clear hB0
 have HP : Hid (∀ o, Px.wpart (⟨12, xt, xn, xc⟩ :: r) = o → Px.posZ L o = Px.posZ L (Px.wpart (⟨12, xt, xn, xc⟩ :: r))) := fun o h => by rw [h]
 by_cases ht : xt = []
 · have bht : (xt == []) = true := by simpa using ht
   have nht : (xt != []) = false := by simpa using ht
   by_cases h1 : xn < 0
   · have ih1 := h1
     have HR : Hid ((-1 : Int) = Px.posZ L (Px.wpart (⟨12, xt, xn, xc⟩ :: r))) := by
      show _ = _
      rw [show Px.wpart (⟨12, xt, xn, xc⟩ :: r) = none by unfold Px.wpart; simp [ht]; omega]
      rfl
     clear ht h1
     go_enter Tryz.func60, Tryz.ntmps60
     go_wp2_with fail
     go_ret
     exact ⟨ret_int HR.out, HB0.out⟩
   · have ih1 := Int.not_lt.1 h1
     by_cases h2 : 1 < xn
     · have ih2 := h2
       have HR : Hid ((-1 : Int) = Px.posZ L (Px.wpart (⟨12, xt, xn, xc⟩ :: r))) := by
        show _ = _
        rw [show Px.wpart (⟨12, xt, xn, xc⟩ :: r) = none by unfold Px.wpart; simp [ht]; omega]
        rfl
       clear ht h1 h2
       go_enter Tryz.func60, Tryz.ntmps60
       go_wp2_with fail
       go_ret
       exact ⟨ret_int HR.out, HB0.out⟩
     · have ih2 := Int.not_lt.1 h2
       by_cases hc : xc = 1
       · have bhc : (xc == 1) = true := by simpa using hc
         have nhc : (xc != 1) = false := by simpa using hc
         have HR : Hid (Px.posZ L (Px.wex 40 r) = Px.posZ L (Px.wpart (⟨12, xt, xn, xc⟩ :: r))) := by
          show _ = _
          rw [show Px.wpart (⟨12, xt, xn, xc⟩ :: r) = Px.wex 40 r by unfold Px.wpart; simp [ht, hc]; omega]
         clear ht h1 h2 hc
         go_enter Tryz.func60, Tryz.ntmps60
         go_wp2_with fail
         refine (HE1.out _ HB0.out).mono ?_
         rintro e w2 ⟨rfl, hb⟩
         have HB2 : Hid (Below w.heap.size w w2) := HB0.out.trans (hb.mono HB0.out.size)
         clear hb
         go_wp2_with fail
         go_ret
         exact ⟨ret_int HR.out, HB2.out⟩
       · have bhc : (xc == 1) = false := by simpa using hc
         have nhc : (xc != 1) = true := by simpa using hc
         have HR : Hid ((-1 : Int) = Px.posZ L (Px.wpart (⟨12, xt, xn, xc⟩ :: r))) := by
          show _ = _
          rw [show Px.wpart (⟨12, xt, xn, xc⟩ :: r) = none by unfold Px.wpart; simp [ht, hc]]
          rfl
         clear ht h1 h2 hc
         go_enter Tryz.func60, Tryz.ntmps60
         go_wp2_with fail
         go_ret
         exact ⟨ret_int HR.out, HB0.out⟩
 · have bht : (xt == []) = false := by simpa using ht
   have nht : (xt != []) = true := by simpa using ht
   have HR : Hid ((-1 : Int) = Px.posZ L (Px.wpart (⟨12, xt, xn, xc⟩ :: r))) := by
    show _ = _
    rw [show Px.wpart (⟨12, xt, xn, xc⟩ :: r) = none by unfold Px.wpart; simp [ht]]
    rfl
   clear ht
   go_enter Tryz.func60, Tryz.ntmps60
   go_wp2_with fail
   go_ret
   exact ⟨ret_int HR.out, HB0.out⟩
theorem part_13 (ao : Option Addr) (cap : Nat) (L : List Px.Nd) (hL : L.length ≤ 16777216) (hT : ∀ x ∈ L, x.text.length ≤ 1000000000) (p : Nat) (xt : Lx.Bs) (xn xc : Int) (r : List Px.Nd) (w : World) (hdr : L.drop p = ⟨13, xt, xn, xc⟩ :: r) (hN : NdL w ao L) :
   PartGoal ao cap L p ⟨13, xt, xn, xc⟩ r w := by
 unfold PartGoal
 have hE := expr_any ao cap L hL hT 40 (by omega)
 obtain ⟨hp, g, off, rfl, hg, c0, c1, c2, c3⟩ := hN.head hdr
 simp only at c0 c1 c2 c3
 have hdr1 : L.drop (p + 1) = r := by rw [← List.drop_drop, hdr]; rfl
 have hx1 : xt.length ≤ 1000000000 := hT ⟨13, xt, xn, xc⟩ (List.mem_of_mem_drop (by rw [hdr]; exact List.mem_cons_self))
 have hts : (⟨xt.toArray⟩ : ByteArray).size = xt.length := by show xt.toArray.size = _; simp
 have hpn : p < 16777216 := by omega
 have hS1 : Px.Suf L (some r) := by rw [← hdr1]; exact Px.Suf.at L (p + 1) hp
 have hZ : Px.posZ L (some r) = ((p : Int) + 1) := by rw [← hdr1, Px.posZ_at L (p + 1) (by omega)]; omega
 have HZ := hd hZ
 have HE1 : Hid (∀ w', Below w.heap.size w w' → Calls Tryz.prog 100 #[.slice (some ⟨g, off, none⟩) L.length cap, .int .i64 ((p : Int) + 1), .int .i64 1] w' fun x w'' => x = .returned (.int .i64 (Px.posZ L (Px.wex 40 r))) ∧ Below w'.heap.size w' w'') := fun w' hb => by
  have := hE (some r) w' 1 hS1 (by omega) (hN.below hb)
  rw [hZ] at this
  exact this
 have HP1 : Hid (∀ k, Px.Suf L (Px.wk 40 r k)) := fun k => by rw [← hdr1]; exact Px.wk_suf L 40 (p + 1) (by omega) k
 have HE0 : Hid (∀ w', Below w.heap.size w w' → Calls Tryz.prog 100 #[.slice (some ⟨g, off, none⟩) L.length cap, .int .i64 (p : Int), .int .i64 1] w' fun x w'' => x = .returned (.int .i64 (Px.posZ L (Px.wex 40 (⟨13, xt, xn, xc⟩ :: r)))) ∧ Below w'.heap.size w' w'') := fun w' hb => by
  have := hE (some (L.drop p)) w' 1 (Px.Suf.at L p (by omega)) (by omega) (hN.below hb)
  rw [Px.posZ_at L p (by omega), hdr] at this
  exact this
 have HE := hd hE
 have HN := hd hN
 clear hN hE hdr hdr1 hT hZ hS1
 have hB0 : Below w.heap.size w (w.alloc (.cells #[.int .i64 13, .string ⟨xt.toArray⟩, .int .i64 xn, .int .i64 xc] 43)) := by go_grown
 have HB0 := hd hB0
 have HK0 := hd (Blk.new w #[.int .i64 13, .string ⟨xt.toArray⟩, .int .i64 xn, .int .i64 xc] 43)
 have hs0 := hB0.size
 have hl0 := HK0.out.lt
 clear hB0
 have HP : Hid (∀ o, Px.wpart (⟨13, xt, xn, xc⟩ :: r) = o → Px.posZ L o = Px.posZ L (Px.wpart (⟨13, xt, xn, xc⟩ :: r))) := fun o h => by rw [h]
 by_cases ht : xt = []
 · have bht : (xt == []) = true := by simpa using ht
   have nht : (xt != []) = false := by simpa using ht
   by_cases h1 : xn < 0
   · have ih1 := h1
     have HR : Hid ((-1 : Int) = Px.posZ L (Px.wpart (⟨13, xt, xn, xc⟩ :: r))) := by
      show _ = _
      rw [show Px.wpart (⟨13, xt, xn, xc⟩ :: r) = none by unfold Px.wpart; simp [ht]; omega]
      rfl
     clear ht h1
     go_enter Tryz.func60, Tryz.ntmps60
     go_wp2_with fail
     go_ret
     exact ⟨ret_int HR.out, HB0.out⟩
   · have ih1 := Int.not_lt.1 h1
     by_cases h2 : 1000000000 < xn
     · have ih2 := h2
       have HR : Hid ((-1 : Int) = Px.posZ L (Px.wpart (⟨13, xt, xn, xc⟩ :: r))) := by
        show _ = _
        rw [show Px.wpart (⟨13, xt, xn, xc⟩ :: r) = none by unfold Px.wpart; simp [ht]; omega]
        rfl
       clear ht h1 h2
       go_enter Tryz.func60, Tryz.ntmps60
       go_wp2_with fail
       go_ret
       exact ⟨ret_int HR.out, HB0.out⟩
     · have ih2 := Int.not_lt.1 h2
       by_cases hc : xc = 0
       · have bhc : (xc == 0) = true := by simpa using hc
         have nhc : (xc != 0) = false := by simpa using hc
         have HR : Hid (((p : Int) + 1) = Px.posZ L (Px.wpart (⟨13, xt, xn, xc⟩ :: r))) := by
          show _ = _
          rw [show Px.wpart (⟨13, xt, xn, xc⟩ :: r) = some r by unfold Px.wpart; simp [ht, hc]; omega]
          exact HZ.out.symm
         clear ht h1 h2 hc
         go_enter Tryz.func60, Tryz.ntmps60
         go_wp2_with fail
         go_ret
         exact ⟨ret_int HR.out, HB0.out⟩
       · have bhc : (xc == 0) = false := by simpa using hc
         have nhc : (xc != 0) = true := by simpa using hc
         have HR : Hid ((-1 : Int) = Px.posZ L (Px.wpart (⟨13, xt, xn, xc⟩ :: r))) := by
          show _ = _
          rw [show Px.wpart (⟨13, xt, xn, xc⟩ :: r) = none by unfold Px.wpart; simp [ht, hc]]
          rfl
         clear ht h1 h2 hc
         go_enter Tryz.func60, Tryz.ntmps60
         go_wp2_with fail
         go_ret
         exact ⟨ret_int HR.out, HB0.out⟩
 · have bht : (xt == []) = false := by simpa using ht
   have nht : (xt != []) = true := by simpa using ht
   have HR : Hid ((-1 : Int) = Px.posZ L (Px.wpart (⟨13, xt, xn, xc⟩ :: r))) := by
    show _ = _
    rw [show Px.wpart (⟨13, xt, xn, xc⟩ :: r) = none by unfold Px.wpart; simp [ht]]
    rfl
   clear ht
   go_enter Tryz.func60, Tryz.ntmps60
   go_wp2_with fail
   go_ret
   exact ⟨ret_int HR.out, HB0.out⟩
end Rf
namespace Rf
theorem part_any (ao : Option Addr) (cap : Nat) (L : List Px.Nd) (hL : L.length ≤ 16777216) (hT : ∀ x ∈ L, x.text.length ≤ 1000000000) (hK : ∀ x ∈ L, x.kids ≤ 9223372036854775807) (p : Nat) (x : Px.Nd) (r : List Px.Nd) (w : World) (hdr : L.drop p = x :: r) (hN : NdL w ao L) : PartGoal ao cap L p x r w := by
 have hx := hK x (List.mem_of_mem_drop (by rw [hdr]; exact List.mem_cons_self))
 obtain ⟨kd, xt, xn, xc⟩ := x
 by_cases k2 : kd = 2
 · subst k2; exact part_2 ao cap L hL hT p xt xn xc r w hdr hN
 by_cases k5 : kd = 5
 · subst k5; exact part_5 ao cap L hL hT p xt xn xc r w hdr hN hx
 by_cases k8 : kd = 8
 · subst k8; exact part_8 ao cap L hL hT p xt xn xc r w hdr hN
 by_cases k10 : kd = 10
 · subst k10; exact part_10 ao cap L hL hT p xt xn xc r w hdr hN
 by_cases k11 : kd = 11
 · subst k11; exact part_11 ao cap L hL hT p xt xn xc r w hdr hN
 by_cases k12 : kd = 12
 · subst k12; exact part_12 ao cap L hL hT p xt xn xc r w hdr hN
 by_cases k13 : kd = 13
 · subst k13; exact part_13 ao cap L hL hT p xt xn xc r w hdr hN
 exact part_other ao cap L hL hT p kd xt xn xc r w hdr hN k2 k5 k8 k10 k11 k12 k13
end Rf
end Go.Proofs.YtkcakbgcfnhgaaaGreatDoor
