/- Parts of the proof: My Kd Ke Pn Sk Sl Sm Kf -/
import Derived.Test.YtkcakbgcfnhgaaaGreatDoorZ15
import Derived.Test.YtkcakbgcfnhgaaaGreatDoorZ14
import Derived.ProofKit
import Derived.OpenShut
import Derived.SliceStrings
import Derived.ChangeSlices
import Derived.ChangeSame
import Derived.WideShapes
import Derived.Test.YtkcakbgcfnhgaaaGreatDoorZ1
namespace Go.Proofs.YtkcakbgcfnhgaaaGreatDoor
set_option linter.unusedSimpArgs false
set_option linter.unusedVariables false
set_option maxRecDepth 100000
set_option maxHeartbeats 16000000
open Go.RowKit
section
namespace Mk
variable {w : World} {b n c m d : Nat} {ao bo : Option Addr} {l : List Px.Nd}
theorem At.own {v : Value} (h : At w b ao n c bo m d l) (hc : w.cell? ⟨b, 4, none⟩ = some v) : w.ownsRow (b + 1) 43 4 v l.length (ndsV l) := by
 obtain ⟨i, j, lv, _, _, hblk, hown⟩ := h.rows
 have : lv = v := Option.some.inj ((hblk.cell 4).symm.trans hc)
 rw [← this]
 exact hown
theorem Pln.mono {w w' : World} {b b' : Nat} (h : Pln w b ao n bo m) (hb : b ≤ b') (hc : ∀ g off v, g < b → w.cell? ⟨g, off, none⟩ = some v → w'.cell? ⟨g, off, none⟩ = some v) : Pln w' b' ao n bo m := by
 refine ⟨h.few, h.few2, fun i hi => ?_, fun i hi => ?_⟩
 · obtain ⟨g, off, z, h1, h2, h3, h4⟩ := h.nums i hi
   exact ⟨g, off, z, h1, by omega, hc _ _ _ h2 h3, h4⟩
 obtain ⟨g, off, z, h1, h2, h3, h4⟩ := h.txts i hi
 exact ⟨g, off, z, h1, by omega, hc _ _ _ h2 h3, h4⟩
theorem At.start (h : Pln w w.heap.size ao n bo m) (c d : Nat) (T : TypeId) (cs : Array Value) :
   At ((w.alloc (.cells cs T)).alloc (.cells #[.slice ao n c, .slice bo m d, .int .i64 0, .int .i64 0, .slice none 0 0] 50)) (w.heap.size + 1) ao n c bo m d [] := by
 have hb : Below w.heap.size w ((w.alloc (.cells cs T)).alloc (.cells #[.slice ao n c, .slice bo m d, .int .i64 0, .int .i64 0, .slice none 0 0] 50)) := by go_grown
 refine ⟨h.mono (by omega) (fun g off v hg hc => by rw [hb.cell (p := ⟨g, off, none⟩) hg]; exact hc), 0, 0, .slice none 0 0, by omega, by omega, ?_, World.ownsRow_nil _ _ _ _⟩
 have := Blk.new (w.alloc (.cells cs T)) #[.slice ao n c, .slice bo m d, .int .i64 0, .int .i64 0, .slice none 0 0] 50
 simpa using this
def BOut (w : World) (x : Ending) (w' : World) : Prop := ∃ (st : Px.St) (v : Value), Px.Sok st ∧ x = .returned v ∧ w'.ownsRow w.heap.size 43 4 v st.nodes.length (ndsV st.nodes) ∧ Below w.heap.size w w'
theorem BOut.mk {w W w' : World} {v : Value} (st : Px.St) (hs : Px.Sok st) (hb : Below w.heap.size w W) (h : At w' (w.heap.size + 1) ao n c bo m d st.nodes) (hk : Kp W w' (w.heap.size + 1)) (hc : w'.cell? ⟨w.heap.size + 1, 4, none⟩ = some v) : BOut w (.returned v) w' := by
 refine ⟨st, v, hs, rfl, ?_, ?_⟩
 · have := h.own hc
   exact ⟨this.1, by
    rcases this.2 with hn | ⟨g, cap, cur, e, hg, r⟩
    · exact .inl hn
    exact .inr ⟨g, cap, cur, e, by omega, r⟩⟩
 refine ⟨hk.os.trans hb.os, hk.tape.trans hb.tape, hk.output.trans hb.output, Nat.le_trans hb.size hk.size, fun k hk' => ?_⟩
 have hlt : k < W.heap.size := Nat.lt_of_lt_of_le hk' hb.size
 rw [← hb.block k hk', Array.getElem?_eq_getElem hlt]
 exact hk.block k _ (Array.getElem?_eq_getElem hlt) (.inl (by omega))
theorem kBuild_any (h : Pln w w.heap.size ao n bo m) : Calls Tryz.prog 8 #[.agg #[.slice ao n c, .slice bo m d]] w (BOut w) := by
 have HS := hd (At.start h c d 27 #[.slice ao n c, .slice bo m d])
 have HB0 : Hid (Below w.heap.size w ((w.alloc (.cells #[.slice ao n c, .slice bo m d] 27)).alloc (.cells #[.slice ao n c, .slice bo m d, .int .i64 0, .int .i64 0, .slice none 0 0] 50))) := by show Below _ _ _; go_grown
 have HW2 : Hid (((w.alloc (.cells #[.slice ao n c, .slice bo m d] 27)).alloc (.cells #[.slice ao n c, .slice bo m d, .int .i64 0, .int .i64 0, .slice none 0 0] 50)).heap.size = w.heap.size + 1 + 1) := by show _ = _; simp
 have hws : w.heap.size + 1 < ((w.alloc (.cells #[.slice ao n c, .slice bo m d] 27)).alloc (.cells #[.slice ao n c, .slice bo m d, .int .i64 0, .int .i64 0, .slice none 0 0] 50)).heap.size := by simp
 clear h
 go_enter Tryz.func8, Tryz.ntmps8
 go_wp2_with fail
 generalize (w.alloc (.cells #[.slice ao n c, .slice bo m d] 27)).alloc (.cells #[.slice ao n c, .slice bo m d, .int .i64 0, .int .i64 0, .slice none 0 0] 50) = W at *
 refine (mOne_any (HS.out.alloc _) 6 (by omega) (by omega)).mono ?_
 rintro x w1 ⟨r, hr, rfl, ho⟩
 have hkinds : ∀ j v, #[Value.int .i64 9, .int .i64 1, .int .i64 3, .int .i64 4, .int .i64 6, .int .i64 7][j]? = some v → w1.cell? ⟨w.heap.size + 1 + 1, j, none⟩ = some v := by
  intro j v hj
  rw [← HW2.out]
  have hb := ho.2.blk (Blk.new W #[.int .i64 9, .int .i64 1, .int .i64 3, .int .i64 4, .int .i64 6, .int .i64 7] 3) (by omega) (by decide)
  rw [hb.cell j]
  exact hj
 have HO : Hid (Out W (w.heap.size + 1) ao n c bo m d [] w1) := ⟨ho.1, ((Kp.refl W _).alloc _).trans ho.2⟩
 clear ho
 have hr6 : r = 0 ∨ r = 1 ∨ r = 2 ∨ r = 3 ∨ r = 4 ∨ r = 5 := by omega
 rcases hr6 with rfl | rfl | rfl | rfl | rfl | rfl
 · have hkd := hkinds 0 _ rfl
   clear hkinds
   go_wp2_with fail
   refine (mName_any HO.out.1).mono ?_
   rintro x w2 ⟨t, rfl, ht, ho⟩
   have HT := hd ht
   have HO2 := hd (HO.out.trans ho)
   clear ho ht
   go_wp2_with fail
   refine (mAdd_any HO2.out.1 (by simp) 9 t 0 0).mono ?_
   rintro x w3 ⟨rfl, ho⟩
   have HO3 := hd (HO2.out.trans ho)
   clear ho
   go_wp2_with fail
   refine (mChoose_any HO3.out.1 (by simp)).mono ?_
   rintro x w4 ⟨i, o, r, lm, hch, rfl, ho⟩
   have HO4 := hd (HO3.out.trans ho)
   have HC := hd hch
   clear hch
   generalize hkk : (i.length + Px.one? o + r.length + Px.one? lm : Nat) = kk at *
   have HKK := hd hkk
   clear hkk
   clear ho
   obtain ⟨g, cp, d4, hg, hbg, hcells, hfr, hput⟩ := HO4.out.1.node (by simp)
   have HPUT := hd hput
   have y3 := (hcells 0 (by simp)).2
   have f3 := hfr 3
   have hlp : 0 < ([] ++ [(⟨9, t.data.toList, 0, 0⟩ : Px.Nd)] ++ (chN i o r lm)).length := by simp
   simp only [Nat.zero_mul, Nat.zero_add] at y3
   generalize (([] ++ [(⟨9, t.data.toList, 0, 0⟩ : Px.Nd)] ++ (chN i o r lm))[0]'(by simp)).kids = y9 at y3
   clear hcells hput hfr
   generalize hLN : ([] ++ [(⟨9, t.data.toList, 0, 0⟩ : Px.Nd)] ++ (chN i o r lm)).length = LN at *
   have HLN := hd hLN
   clear hLN
   have hgb : ¬ g = w.heap.size + 1 := by omega
   have hgb' : ¬ w.heap.size + 1 = g := by omega
   go_wp2_with fail
   go_ret
   obtain ⟨p1, p2⟩ := HPUT.out [] (chN i o r lm) ⟨9, t.data.toList, 0, 0⟩ ⟨9, t.data.toList, 0, (kk : Int)⟩ 3 (.int .i64 ((kk : Int))) (by simp) rfl (by omega)
   refine BOut.mk (.select i t.data.toList o r lm) (Px.select_ok HT.out HC.out.ne HC.out.few HC.out.items HC.out.wh HC.out.few2 HC.out.orders HC.out.lim) HB0.out (by
    have e : (Px.St.select i t.data.toList o r lm).nodes = [] ++ ⟨9, t.data.toList, 0, (kk : Int)⟩ :: chN i o r lm := by
     simp only [Px.St.nodes, chN, List.nil_append, ← HKK.out]
     congr 2
    rw [e]; exact p1) (HO4.out.2.trans p2) ?_
   rw [World.cell?_setCell_other _ _ _ _ (by intro e; simp only [Addr.mk.injEq] at e; omega)]
   exact d4
 · have hkd := hkinds 1 _ rfl
   clear hkinds
   go_wp2_with fail
   refine (mName_any HO.out.1).mono ?_
   rintro x w2 ⟨t, rfl, ht, ho⟩
   have HT := hd ht
   have HO2 := hd (HO.out.trans ho)
   clear ho ht
   go_wp2_with fail
   refine (mAdd_any HO2.out.1 (by simp) 1 t 0 0).mono ?_
   rintro x w3 ⟨rfl, ho⟩
   have HO3 := hd (HO2.out.trans ho)
   clear ho
   go_wp2_with fail
   refine (mColumns_any HO3.out.1 (by simp)).mono ?_
   rintro x w4 ⟨cs, hc1, hc2, hck, rfl, ho⟩
   have HO4 := hd (HO3.out.trans ho)
   have HC := hd hck
   have HCL : Hid (1 ≤ cs.length ∧ cs.length ≤ 6) := ⟨hc1, hc2⟩
   clear hck hc1 hc2
   generalize hkk : (cs.length : Nat) = kk at *
   have HKK := hd hkk
   clear hkk
   clear ho
   obtain ⟨g, cp, d4, hg, hbg, hcells, hfr, hput⟩ := HO4.out.1.node (by simp)
   have HPUT := hd hput
   have y3 := (hcells 0 (by simp)).2
   have f3 := hfr 3
   have hlp : 0 < ([] ++ [(⟨1, t.data.toList, 0, 0⟩ : Px.Nd)] ++ (cs.map Px.colN)).length := by simp
   simp only [Nat.zero_mul, Nat.zero_add] at y3
   generalize (([] ++ [(⟨1, t.data.toList, 0, 0⟩ : Px.Nd)] ++ (cs.map Px.colN))[0]'(by simp)).kids = y9 at y3
   clear hcells hput hfr
   generalize hLN : ([] ++ [(⟨1, t.data.toList, 0, 0⟩ : Px.Nd)] ++ (cs.map Px.colN)).length = LN at *
   have HLN := hd hLN
   clear hLN
   have hgb : ¬ g = w.heap.size + 1 := by omega
   have hgb' : ¬ w.heap.size + 1 = g := by omega
   go_wp2_with fail
   go_ret
   obtain ⟨p1, p2⟩ := HPUT.out [] (cs.map Px.colN) ⟨1, t.data.toList, 0, 0⟩ ⟨1, t.data.toList, 0, (kk : Int)⟩ 3 (.int .i64 ((kk : Int))) (by simp) rfl (by omega)
   refine BOut.mk (.create t.data.toList cs) (Px.create_ok HT.out (by rw [HKK.out]; exact HCL.out.1) (by rw [HKK.out]; exact HCL.out.2) HC.out) HB0.out (by
    have e : (Px.St.create t.data.toList cs).nodes = [] ++ ⟨1, t.data.toList, 0, (kk : Int)⟩ :: cs.map Px.colN := by
     simp only [Px.St.nodes, List.nil_append, ← HKK.out]
    rw [e]; exact p1) (HO4.out.2.trans p2) ?_
   rw [World.cell?_setCell_other _ _ _ _ (by intro e; simp only [Addr.mk.injEq] at e; omega)]
   exact d4
 · have hkd := hkinds 2 _ rfl
   clear hkinds
   go_wp2_with fail
   refine (mName_any HO.out.1).mono ?_
   rintro x w2 ⟨t, rfl, ht, ho⟩
   have HT := hd ht
   have HO2 := hd (HO.out.trans ho)
   clear ho ht
   go_wp2_with fail
   refine (mAdd_any HO2.out.1 (by simp) 3 t 0 0).mono ?_
   rintro x w3 ⟨rfl, ho⟩
   have HO3 := hd (HO2.out.trans ho)
   clear ho
   obtain ⟨g, cp, d4, hg, hbg, hcells, hfr, hput⟩ := HO3.out.1.node (by simp)
   have HPUT := hd hput
   have y3 := (hcells 0 (by simp)).2
   have f3 := hfr 3
   have hlp : 0 < ([] ++ [(⟨3, t.data.toList, 0, 0⟩ : Px.Nd)]).length := by simp
   simp only [Nat.zero_mul, Nat.zero_add] at y3
   generalize (([] ++ [(⟨3, t.data.toList, 0, 0⟩ : Px.Nd)])[0]'(by simp)).kids = y9 at y3
   clear hcells hput hfr
   generalize hLN : ([] ++ [(⟨3, t.data.toList, 0, 0⟩ : Px.Nd)]).length = LN at *
   have HLN := hd hLN
   clear hLN
   have hgb : ¬ g = w.heap.size + 1 := by omega
   have hgb' : ¬ w.heap.size + 1 = g := by omega
   go_wp2_with fail
   go_ret
   obtain ⟨p1, p2⟩ := HPUT.out [] [] ⟨3, t.data.toList, 0, 0⟩ ⟨3, t.data.toList, 0, 0⟩ 3 (.int .i64 (0)) (by simp) rfl (by omega)
   refine BOut.mk (.drop t.data.toList) (Px.drop_ok HT.out) HB0.out p1 (HO3.out.2.trans p2) ?_
   rw [World.cell?_setCell_other _ _ _ _ (by intro e; simp only [Addr.mk.injEq] at e; omega)]
   exact d4
 · have hkd := hkinds 3 _ rfl
   clear hkinds
   go_wp2_with fail
   refine (mName_any HO.out.1).mono ?_
   rintro x w2 ⟨t, rfl, ht, ho⟩
   have HT := hd ht
   have HO2 := hd (HO.out.trans ho)
   clear ho ht
   go_wp2_with fail
   refine (mAdd_any HO2.out.1 (by simp) 4 t 0 0).mono ?_
   rintro x w3 ⟨rfl, ho⟩
   have HO3 := hd (HO2.out.trans ho)
   clear ho
   go_wp2_with fail
   refine (mRows_any HO3.out.1 (by simp)).mono ?_
   rintro x w4 ⟨rs, hc1, hc2, hck, rfl, ho⟩
   have HO4 := hd (HO3.out.trans ho)
   have HC := hd hck
   have HCL : Hid (rs ≠ [] ∧ rs.length ≤ 2) := ⟨hc1, hc2⟩
   clear hck hc1 hc2
   generalize hkk : (rs.length : Nat) = kk at *
   have HKK := hd hkk
   clear hkk
   clear ho
   obtain ⟨g, cp, d4, hg, hbg, hcells, hfr, hput⟩ := HO4.out.1.node (by simp)
   have HPUT := hd hput
   have y3 := (hcells 0 (by simp)).2
   have f3 := hfr 3
   have hlp : 0 < ([] ++ [(⟨4, t.data.toList, 0, 0⟩ : Px.Nd)] ++ (rs.flatMap Px.rowN)).length := by simp
   simp only [Nat.zero_mul, Nat.zero_add] at y3
   generalize (([] ++ [(⟨4, t.data.toList, 0, 0⟩ : Px.Nd)] ++ (rs.flatMap Px.rowN))[0]'(by simp)).kids = y9 at y3
   clear hcells hput hfr
   generalize hLN : ([] ++ [(⟨4, t.data.toList, 0, 0⟩ : Px.Nd)] ++ (rs.flatMap Px.rowN)).length = LN at *
   have HLN := hd hLN
   clear hLN
   have hgb : ¬ g = w.heap.size + 1 := by omega
   have hgb' : ¬ w.heap.size + 1 = g := by omega
   go_wp2_with fail
   go_ret
   obtain ⟨p1, p2⟩ := HPUT.out [] (rs.flatMap Px.rowN) ⟨4, t.data.toList, 0, 0⟩ ⟨4, t.data.toList, 0, (kk : Int)⟩ 3 (.int .i64 ((kk : Int))) (by simp) rfl (by omega)
   refine BOut.mk (.insert t.data.toList rs) (Px.insert_ok HT.out HCL.out.1 (by rw [HKK.out]; exact HCL.out.2) HC.out) HB0.out (by
    have e : (Px.St.insert t.data.toList rs).nodes = [] ++ ⟨4, t.data.toList, 0, (kk : Int)⟩ :: rs.flatMap Px.rowN := by
     simp only [Px.St.nodes, List.nil_append, ← HKK.out]
    rw [e]; exact p1) (HO4.out.2.trans p2) ?_
   rw [World.cell?_setCell_other _ _ _ _ (by intro e; simp only [Addr.mk.injEq] at e; omega)]
   exact d4
 · have hkd := hkinds 4 _ rfl
   clear hkinds
   go_wp2_with fail
   refine (mName_any HO.out.1).mono ?_
   rintro x w2 ⟨t, rfl, ht, ho⟩
   have HT := hd ht
   have HO2 := hd (HO.out.trans ho)
   clear ho ht
   go_wp2_with fail
   refine (mAdd_any HO2.out.1 (by simp) 6 t 0 0).mono ?_
   rintro x w3 ⟨rfl, ho⟩
   have HO3 := hd (HO2.out.trans ho)
   clear ho
   go_wp2_with fail
   refine (mWhere_any HO3.out.1 (by simp)).mono ?_
   rintro x w4 ⟨o, hck, rfl, ho⟩
   have HO4 := hd (HO3.out.trans ho)
   have HC := hd hck
   clear hck
   generalize hkk : Px.one? o = kk at *
   have HKK := hd hkk
   clear hkk
   clear ho
   obtain ⟨g, cp, d4, hg, hbg, hcells, hfr, hput⟩ := HO4.out.1.node (by simp)
   have HPUT := hd hput
   have y3 := (hcells 0 (by simp)).2
   have f3 := hfr 3
   have hlp : 0 < ([] ++ [(⟨6, t.data.toList, 0, 0⟩ : Px.Nd)] ++ (Px.whereN o)).length := by simp
   simp only [Nat.zero_mul, Nat.zero_add] at y3
   generalize (([] ++ [(⟨6, t.data.toList, 0, 0⟩ : Px.Nd)] ++ (Px.whereN o))[0]'(by simp)).kids = y9 at y3
   clear hcells hput hfr
   generalize hLN : ([] ++ [(⟨6, t.data.toList, 0, 0⟩ : Px.Nd)] ++ (Px.whereN o)).length = LN at *
   have HLN := hd hLN
   clear hLN
   have hgb : ¬ g = w.heap.size + 1 := by omega
   have hgb' : ¬ w.heap.size + 1 = g := by omega
   go_wp2_with fail
   go_ret
   obtain ⟨p1, p2⟩ := HPUT.out [] (Px.whereN o) ⟨6, t.data.toList, 0, 0⟩ ⟨6, t.data.toList, 0, (kk : Int)⟩ 3 (.int .i64 ((kk : Int))) (by simp) rfl (by omega)
   refine BOut.mk (.delete t.data.toList o) (Px.delete_ok HT.out HC.out) HB0.out (by
    have e : (Px.St.delete t.data.toList o).nodes = [] ++ ⟨6, t.data.toList, 0, (kk : Int)⟩ :: Px.whereN o := by
     simp only [Px.St.nodes, List.nil_append, ← HKK.out]
    rw [e]; exact p1) (HO4.out.2.trans p2) ?_
   rw [World.cell?_setCell_other _ _ _ _ (by intro e; simp only [Addr.mk.injEq] at e; omega)]
   exact d4
 have hkd := hkinds 5 _ rfl
 clear hkinds
 go_wp2_with fail
 refine (mName_any HO.out.1).mono ?_
 rintro x w2 ⟨t, rfl, ht, ho⟩
 have HT := hd ht
 have HO2 := hd (HO.out.trans ho)
 clear ho ht
 go_wp2_with fail
 refine (mAdd_any HO2.out.1 (by simp) 7 t 0 0).mono ?_
 rintro x w3 ⟨rfl, ho⟩
 have HO3 := hd (HO2.out.trans ho)
 clear ho
 go_wp2_with fail
 refine (mSets_any HO3.out.1 (by simp)).mono ?_
 rintro x w4 ⟨ss, o, hc1, hc2, hck, hwk, rfl, ho⟩
 have HO4 := hd (HO3.out.trans ho)
 have HC := hd hck
 have HWK := hd hwk
 have HCL : Hid (ss ≠ [] ∧ ss.length ≤ 2) := ⟨hc1, hc2⟩
 clear hck hc1 hc2 hwk
 generalize hkk : (ss.length + Px.one? o : Nat) = kk at *
 have HKK := hd hkk
 clear hkk
 clear ho
 obtain ⟨g, cp, d4, hg, hbg, hcells, hfr, hput⟩ := HO4.out.1.node (by simp)
 have HPUT := hd hput
 have y3 := (hcells 0 (by simp)).2
 have f3 := hfr 3
 have hlp : 0 < ([] ++ [(⟨7, t.data.toList, 0, 0⟩ : Px.Nd)] ++ (ss.flatMap Px.setN ++ Px.whereN o)).length := by simp
 simp only [Nat.zero_mul, Nat.zero_add] at y3
 generalize (([] ++ [(⟨7, t.data.toList, 0, 0⟩ : Px.Nd)] ++ (ss.flatMap Px.setN ++ Px.whereN o))[0]'(by simp)).kids = y9 at y3
 clear hcells hput hfr
 generalize hLN : ([] ++ [(⟨7, t.data.toList, 0, 0⟩ : Px.Nd)] ++ (ss.flatMap Px.setN ++ Px.whereN o)).length = LN at *
 have HLN := hd hLN
 clear hLN
 have hgb : ¬ g = w.heap.size + 1 := by omega
 have hgb' : ¬ w.heap.size + 1 = g := by omega
 go_wp2_with fail
 go_ret
 obtain ⟨p1, p2⟩ := HPUT.out [] (ss.flatMap Px.setN ++ Px.whereN o) ⟨7, t.data.toList, 0, 0⟩ ⟨7, t.data.toList, 0, (kk : Int)⟩ 3 (.int .i64 ((kk : Int))) (by simp) rfl (by omega)
 refine BOut.mk (.update t.data.toList ss o) (Px.update_ok HT.out HCL.out.1 HCL.out.2 HC.out HWK.out) HB0.out (by
  have e : (Px.St.update t.data.toList ss o).nodes = [] ++ ⟨7, t.data.toList, 0, (kk : Int)⟩ :: (ss.flatMap Px.setN ++ Px.whereN o) := by
   simp only [Px.St.nodes, List.nil_append, ← HKK.out]
   congr 2
  rw [e]; exact p1) (HO4.out.2.trans p2) ?_
 rw [World.cell?_setCell_other _ _ _ _ (by intro e; simp only [Addr.mk.injEq] at e; omega)]
 exact d4
end Mk
end
namespace Kl
theorem wid_take (l : List Px.Nd) (k : Nat) (h : k < l.length) : Px.wid (l.take (k + 1)) = Px.wid (l.take k) + (40 + 2 * l[k].text.length) := by
 rw [List.take_succ_eq_append_getElem h, Px.wid_app]
 simp [Px.wid]
theorem wid_le (l : List Px.Nd) (h : ∀ x ∈ l, x.text.length ≤ 2000) (k : Nat) : Px.wid (l.take k) ≤ 4040 * k := by
 induction k with
 | zero => simp [Px.wid]
 | succ k ih =>
  by_cases hk : k < l.length
  · have := h _ (List.getElem_mem hk)
    rw [wid_take l k hk]
    omega
  rw [List.take_of_length_le (by omega)] at ih ⊢
  omega
theorem long_any (v : Value) (l : List Px.Nd) (b1 : Nat) (w : World) (hn : l.length ≤ 100000) (ht : ∀ x ∈ l, x.text.length ≤ 2000) (h1 : NdIs w b1 v l) :
   Calls Tryz.prog 10 #[v] w fun e w' => e = .returned (.bool (decide (2000 < Px.wid l))) ∧ Below w.heap.size w w' := by
 obtain ⟨a1, c1, rfl, hk1⟩ := nd_slice h1
 have HK1 := hd hk1
 have HT := hd ht
 clear hk1 h1 ht
 go_enter Tryz.func10, Tryz.ntmps10
 go_wp2
 go_loopw [3, 4] (fun s i wr => ∃ k : Nat, k ≤ l.length ∧ i = .int .i64 k ∧ s = .int .i64 (Px.wid (l.take k) : Int) ∧ Hid (wr.heap = w.heap ∧ Below w.heap.size w wr)) (fun _ i _ => l.length - (intOf i).toNat)
 case atStart => exact ⟨0, by omega, rfl, rfl, rfl, Below.refl _ _⟩
 case round =>
  obtain ⟨k, hk, rfl, rfl, HW⟩ := hrel
  have hwl := wid_le l HT.out k
  by_cases hlt : k < l.length
  · obtain ⟨g1, hg1, _, p0, p1, p2, p3⟩ := HK1.out k hlt
    have hcc : ∀ a, wr.cell? a = w.cell? a := fun a => by simp only [World.cell?, HW.out.1]
    rw [← hcc] at p1
    rw [hg1]
    have htx := HT.out _ (List.getElem_mem hlt)
    have HWT := hd (wid_take l k hlt)
    clear hcc hg1 p0 p2 p3
    generalize l[k].text = t at *
    have hts : (⟨t.toArray⟩ : ByteArray).size = t.length := by show t.toArray.size = _; simp
    generalize (⟨t.toArray⟩ : ByteArray) = tb at *
    generalize Px.wid (l.take k) = s at *
    have z1 : (0 : Int) ≤ (k : Int) := by omega
    go_wp2
    go_roundw
    case rel => exact ⟨k + 1, by omega, by go_num, by rw [HWT.out]; congr 1; omega, HW.out.1, HW.out.2⟩
    case measure => simp [intOf]; omega
  have hkc : k = l.length := by omega
  have hll : Px.wid (l.take k) = Px.wid l := by rw [hkc, List.take_length]
  rw [hll]
  go_wp2
  go_ret
  exact ⟨ret_bool (by rw [decide_eq_decide]; omega), HW.out.2⟩
end Kl
namespace Kl
theorem sok_print {st : Px.St} (h : Px.Sok st) : printR st.nodes = if (Px.render st.pt).length ≤ 2000 then (Px.render st.pt, 0) else ([], 1) := by
 unfold printR
 rw [Px.rS_nodes st h.fit h.good h.deep]
theorem txt_e : ∀ e : Px.E, e.ok 2000 → ∀ x ∈ e.nodes, x.text.length ≤ 2000
 | .null, _, x, hx => by simp [Px.E.nodes, Px.leaf] at hx; subst hx; (first | (simp; done) | (simp; omega) | omega)
 | .bool b, _, x, hx => by simp [Px.E.nodes, Px.leaf] at hx; subst hx; cases b <;> (first | (simp; done) | (simp; omega) | omega)
 | .num z, h, x, hx => by simp [Px.E.nodes, Px.leaf] at hx; subst hx; simp only [Px.E.ok] at h; (first | (simp; done) | (simp; omega) | omega)
 | .str s, h, x, hx => by simp [Px.E.nodes, Px.leaf] at hx; subst hx; simp only [Px.E.ok] at h; (first | (simp; done) | (simp; omega) | omega)
 | .nm s, h, x, hx => by simp [Px.E.nodes, Px.leaf] at hx; subst hx; simp only [Px.E.ok] at h; (first | (simp; done) | (simp; omega) | omega)
 | .un k e, h, x, hx => by
  simp only [Px.E.nodes, Px.over1, List.mem_cons] at hx
  rcases hx with rfl | hx
  · have := h.1; have := h.2.1; (first | (simp; done) | (simp; omega) | omega)
  exact txt_e e h.2.2.2 x hx
 | .bin k a b, h, x, hx => by
  simp only [Px.E.nodes, Px.over2, List.mem_cons, List.mem_append] at hx
  rcases hx with rfl | hx | hx
  · have := h.1; have := h.2.1; (first | (simp; done) | (simp; omega) | omega)
  · exact txt_e a h.2.2.1 x hx
  exact txt_e b h.2.2.2 x hx
theorem txt_where (o : Option Px.E) (h : ∀ e ∈ o.toList, e.ok 2000) : ∀ x ∈ Px.whereN o, x.text.length ≤ 2000 := by
 intro x hx
 cases o with
 | none => simp [Px.whereN] at hx
 | some e =>
  simp only [Px.whereN, Px.over1, List.mem_cons] at hx
  rcases hx with rfl | hx
  · (first | (simp; done) | (simp; omega) | omega)
  exact txt_e e (h e (by simp)) x hx
theorem txt_nodes (s : Px.St) (hf : s.Fit) (hn : s.nodes.length ≤ 80000) : ∀ x ∈ s.nodes, x.text.length ≤ 2000 := by
 have hp := hf.parts
 have he := hf.exprs
 intro x hx
 cases s with
 | create t c =>
  have := Px.isName_len hp.1
  simp only [Px.St.nodes, List.mem_cons, List.mem_map, List.length_cons, List.length_map] at hx hn
  rcases hx with rfl | ⟨a, ha, rfl⟩
  · (first | (simp; done) | (simp; omega) | omega)
  obtain ⟨h1, h2, h3, h4⟩ := hp.2.2.2 a ha
  have := Px.isName_len h1
  (simp only [Px.colN]; omega)
 | drop t =>
  have := Px.isName_len hp
  simp only [Px.St.nodes, List.mem_cons, List.not_mem_nil, or_false] at hx
  subst hx
  (first | (simp; done) | (simp; omega) | omega)
 | insert t r =>
  have := Px.isName_len hp.1
  have h1 : r.length ≤ (r.flatMap Px.rowN).length := flat_len _ (fun a => by simp [Px.rowN]) r
  simp only [Px.St.nodes, List.mem_cons, List.mem_flatMap, List.length_cons] at hx hn
  rcases hx with rfl | ⟨a, ha, hx⟩
  · (first | (simp; done) | (simp; omega) | omega)
  have h2 := flat_mem Px.rowN r a ha
  have h3 : a.length ≤ (a.flatMap Px.E.nodes).length := flat_len _ (fun a => by cases a <;> simp [Px.E.nodes, Px.leaf, Px.over1, Px.over2]) a
  simp only [Px.rowN, List.length_cons] at h2
  simp only [Px.rowN, List.mem_cons, List.mem_flatMap] at hx
  rcases hx with rfl | ⟨e, hea, hx⟩
  · (first | (simp; done) | (simp; omega) | omega)
  exact txt_e e (he e (List.mem_flatten.2 ⟨a, ha, hea⟩)) x hx
 | delete t o =>
  have := Px.isName_len hp
  have := one_le o
  simp only [Px.St.nodes, List.mem_cons] at hx
  rcases hx with rfl | hx
  · (first | (simp; done) | (simp; omega) | omega)
  exact txt_where o (fun e h => he e h) x hx
 | update t s o =>
  have := Px.isName_len hp.1
  have := one_le o
  have h1 : s.length ≤ (s.flatMap Px.setN).length := flat_len _ (fun a => by simp [Px.setN]) s
  simp only [Px.St.nodes, List.mem_cons, List.mem_append, List.mem_flatMap, List.length_cons, List.length_append] at hx hn
  rcases hx with rfl | ⟨a, ha, hx⟩ | hx
  · (first | (simp; done) | (simp; omega) | omega)
  · simp only [Px.setN, List.mem_cons] at hx
    rcases hx with rfl | hx
    · have := Px.isName_len (hp.2.2 a ha)
      (first | (simp; done) | (simp; omega) | omega)
    exact txt_e a.2 (he _ (by simp only [Px.St.exprs, List.mem_append, List.mem_map]; exact .inl ⟨a, ha, rfl⟩)) x hx
  exact txt_where o (fun e h => he e (by simp only [Px.St.exprs, List.mem_append]; exact .inr h)) x hx
 | select i t o r l =>
  have := Px.isName_len hp.1
  have := one_le o
  have := one_le l
  have h1 : i.length ≤ (i.flatMap Px.itemN).length := flat_len _ (fun a => by
   cases a with
   | none => simp [Px.itemN]
   | some e => cases e <;> simp [Px.itemN, Px.E.nodes, Px.leaf, Px.over1, Px.over2]) i
  have h2 : r.length ≤ (r.flatMap Px.orderN).length := flat_len _ (fun a => by simp [Px.orderN]) r
  simp only [Px.St.nodes, List.mem_cons, List.mem_append, List.mem_flatMap, List.length_cons, List.length_append] at hx hn
  rcases hx with rfl | ((⟨a, ha, hx⟩ | hx) | ⟨a, ha, hx⟩) | hx
  · (first | (simp; done) | (simp; omega) | omega)
  · cases a with
    | none => simp [Px.itemN] at hx; subst hx; (first | (simp; done) | (simp; omega) | omega)
    | some e => exact txt_e e (he e (by simp only [Px.St.exprs, List.mem_append, List.mem_filterMap, id]; exact .inl (.inl ⟨some e, ha, rfl⟩))) x hx
  · exact txt_where o (fun e h => he e (by simp only [Px.St.exprs, List.mem_append]; exact .inl (.inr h))) x hx
  · simp only [Px.orderN, List.mem_cons] at hx
    rcases hx with rfl | hx
    · cases a.2 <;> (first | (simp; done) | (simp; omega) | omega)
    exact txt_e a.1 (he _ (by simp only [Px.St.exprs, List.mem_append, List.mem_map]; exact .inr ⟨a, ha, rfl⟩)) x hx
  cases l with
  | none => simp [Px.limN] at hx
  | some n =>
   have := hp.2.2 n rfl
   simp [Px.limN] at hx; subst hx; (first | (simp; done) | (simp; omega) | omega)
theorem sok_texts {st : Px.St} (h : Px.Sok st) : ∀ x ∈ st.nodes, x.text.length ≤ 2000 := txt_nodes st h.fit h.few
end Kl
section
open Go.ChangeShapes Go.WideShapes Go.ChangeAt Go.RowKit Go.Lib
theorem cell_block {w : World} {p : Addr} {v : Value} (h : w.cell? p = some v) : p.block < w.heap.size := by
 unfold World.cell? at h
 split at h
 · rename_i hb
   exact (Array.getElem?_eq_some_iff.1 hb).1
 all_goals simp at h
theorem open_plan {H : Type} {enc : TypeId × Value → H} {W : World} {base : Nat} {v : Value} {d : DataW H} {ps : List MemPlace} (hval : Value.okWide Tryz.prog W .any base 27 v)
   (h : DataW.Trod enc Tryz.prog W 0 (fun _ => true) true 27 v d ps) :
   ∃ ao n c bo m e, v = .agg #[.slice ao n c, .slice bo m e] ∧ Mk.Pln W W.heap.size ao n bo m := by
 obtain ⟨cs, rfl, hcs⟩ := okWide_struct Tryz.underlying27 hval
 have h2 : cs.size = 2 := hcs.trans (by kernel_rfl)
 obtain ⟨x, y, rfl⟩ : ∃ x y, cs = #[x, y] := by
  obtain ⟨l⟩ := cs
  match l, h2 with
  | [x, y], _ => exact ⟨x, y, rfl⟩
 obtain ⟨fuel, hf⟩ := h
 obtain ⟨y0, y1, n, _, _, hf0, hf1⟩ := trod_struct2 Tryz.underlying27 hf
 have c0 : Tryz.prog.cellsOf 24 = 1 := by kernel_rfl
 have c1 : Tryz.prog.cellsOf 25 = 1 := by kernel_rfl
 simp only [Value.cells, c0, c1, List.drop_zero, List.take_succ_cons, List.take_zero, List.drop_succ_cons] at hf0 hf1
 have g0 : DataW.trod enc Tryz.prog W 0 (fun _ => true) true n 24 [x] = some y0 := hf0
 have g1 : DataW.trod enc Tryz.prog W 0 (fun _ => true) true n 25 [y] = some y1 := hf1
 have i0 : ∃ ao n c, x = .slice ao n c ∧ n ≤ maxLen ∧ ∀ k, k < n → ∃ g off z, ao = some ⟨g, off, none⟩ ∧ g < W.heap.size ∧ W.cell? ⟨g, off + k, none⟩ = some (.int .i64 z) ∧ -9223372036854775808 ≤ z ∧ z ≤ 9223372036854775807 := by
  rcases open_ints Tryz.underlying24 Tryz.underlying3 (by kernel_rfl) g0 with ⟨hx, _⟩ | ⟨a, len, cap, zs, hx, _, hl, hm, hz, _, hcell, hwf⟩
  · simp at hx
    subst hx
    exact ⟨none, 0, 0, rfl, by simp [maxLen], fun k hk => by omega⟩
  simp at hx
  subst hx
  simp only [if_true] at hz
  refine ⟨some a, len, cap, rfl, by omega, fun k hk => ?_⟩
  obtain ⟨b, off, spot⟩ := a
  have hspot : spot = none := by simpa [Addr.add] using World.cell?_spot (hcell 0 (by omega))
  subst hspot
  have hc := hcell k (by omega)
  rw [Go.WideShapes.add_plain] at hc
  have hw := hwf (zs.getD k 0) (by
   have : k < zs.length := by omega
   simp only [List.getD, List.getElem?_eq_getElem this, Option.getD_some]
   exact List.getElem_mem this)
  refine ⟨b, off, _, rfl, cell_block hc, hc, ?_⟩
  simp only [Lit.wf, Bool.and_eq_true, decide_eq_true_eq] at hw
  have m1 : IntKind.i64.min = -9223372036854775808 := by decide
  have m2 : IntKind.i64.max = 9223372036854775807 := by decide
  rw [m1, m2] at hw
  exact hw
 have i1 : ∃ bo m e, y = .slice bo m e ∧ m ≤ maxLen ∧ ∀ k, k < m → ∃ g off s, bo = some ⟨g, off, none⟩ ∧ g < W.heap.size ∧ W.cell? ⟨g, off + k, none⟩ = some (.string s) ∧ s.size ≤ maxLen := by
  rcases open_strings Tryz.underlying25 Tryz.underlying9 (by kernel_rfl) g1 with ⟨hx, _⟩ | ⟨a, len, cap, ss, hx, _, hl, hm, hz, _, hcell, hss⟩
  · simp at hx
    subst hx
    exact ⟨none, 0, 0, rfl, by simp [maxLen], fun k hk => by omega⟩
  simp at hx
  subst hx
  simp only [if_true] at hz
  refine ⟨some a, len, cap, rfl, by omega, fun k hk => ?_⟩
  obtain ⟨b, off, spot⟩ := a
  have hspot : spot = none := by simpa [Addr.add] using World.cell?_spot (hcell 0 (by omega))
  subst hspot
  have hc := hcell k (by omega)
  rw [Go.WideShapes.add_plain] at hc
  refine ⟨b, off, _, rfl, cell_block hc, hc, ?_⟩
  have hk' : k < ss.length := by omega
  simp only [List.getD, List.getElem?_eq_getElem hk', Option.getD_some]
  exact hss _ (List.getElem_mem hk')
 obtain ⟨ao, n1, c, rfl, q1, q2⟩ := i0
 obtain ⟨bo, m, e, rfl, q3, q4⟩ := i1
 exact ⟨ao, n1, c, bo, m, e, rfl, q1, q3, q2, q4⟩
end
section
namespace Px
open Lx (Bs Tok)
def ob (t : Tok) : Nat := if (t.kind = 50 ∨ t.kind = 51) ∧ t.text = [40] then 1 else 0
def obt : List Tok → Nat
 | [] => 0
 | t :: r => ob t + obt r
def pb (t : PT) : Nat := if (t.kind = 50 ∨ t.kind = 51) ∧ t.val = [40] then 1 else 0
def bro : List PT → Nat
 | [] => 0
 | t :: r => pb t + bro r
theorem bro_app (a b : List PT) : bro (a ++ b) = bro a + bro b := by
 induction a with
 | nil => simp [bro]
 | cons t a ih => simp only [List.cons_append, bro, ih]; omega
def brc (e : E) (m : Nat) : Nat := bro (brkT e.lvl m e.pt)
theorem brc_is (e : E) (m : Nat) : brc e m = bro e.pt + (if e.lvl < m then 1 else 0) := by
 unfold brc brkT
 split
 · simp [bro, bro_app, sgT, pb]; omega
 simp
theorem brc_mono (e : E) {m n : Nat} (h : m ≤ n) : brc e m ≤ brc e n := by
 rw [brc_is, brc_is]
 split <;> split <;> omega
theorem obt_tail (ts : List Tok) : obt ts.tail ≤ obt ts := by
 cases ts with
 | nil => simp
 | cons t r => simp only [List.tail_cons, obt]; omega
theorem sees_obt {s : Bs} {ts : List Tok} (h : sees s ts = true) : obt ts.tail ≤ obt ts := obt_tail ts
theorem sees_open {ts : List Tok} (h : sees gOpen ts = true) : obt ts = 1 + obt ts.tail := by
 cases ts with
 | nil => simp [sees] at h
 | cons t r =>
  simp only [sees, Bool.and_eq_true, Bool.or_eq_true, decide_eq_true_eq, beq_iff_eq] at h
  simp only [obt, List.tail_cons, ob]
  rw [if_pos ⟨h.1, h.2⟩]
theorem oper_obt {L : Nat} {ts : List Tok} (h : oper L ts ≠ 0) : 23 ≤ oper L ts ∧ oper L ts ≤ 36 ∧ (sgnT (oper L ts : Nat)).2 = L ∧ obt ts.tail ≤ obt ts := by
 obtain ⟨h1, h2, h3, _⟩ := oper_is h
 exact ⟨h1, h2, h3, obt_tail ts⟩
theorem opT_pb {k : Nat} (h1 : 23 ≤ k) (h2 : k ≤ 36) : pb (opT k) = 0 := by
 rcases sgn_cases h1 h2 with rfl | rfl | rfl | rfl | rfl | rfl | rfl | rfl | rfl | rfl | rfl | rfl | rfl | rfl <;> decide
theorem brc_bin (k : Nat) (a b : E) (m : Nat) (h : m ≤ (sgnT k).2) (h1 : 23 ≤ k) (h2 : k ≤ 36) : brc (.bin k a b) m = brc a (leftOf k) + brc b ((sgnT k).2 + 1) := by
 rw [brc_is]
 have hl : (E.bin k a b).lvl = (sgnT k).2 := rfl
 rw [hl, if_neg (by omega)]
 simp only [E.pt, bro_app, bro, opT_pb h1 h2]
 show bro (brkT a.lvl (leftOf k) a.pt) + _ + 0 = bro (brkT a.lvl (leftOf k) a.pt) + bro (brkT b.lvl ((sgnT k).2 + 1) b.pt)
 omega
theorem atom_brk {sz : Nat} {ts q : List Tok} {b : List Nd} (h : atom sz ts = some (.ok (b, q))) : ∃ e : E, e.kd ∧ b = e.nodes ∧ brc e 9 + obt q ≤ obt ts := by
 have z1 : brc .null 9 = 0 := by decide
 have z2 : ∀ x, brc (.bool x) 9 = 0 := by decide
 have z3 : ∀ n : Nat, brc (.num n) 9 = 0 := fun n => by
  rw [brc_is]
  have hl : (E.num (n : Nat)).lvl = 9 := by simp only [E.lvl]; rw [if_neg (by omega)]
  rw [hl]
  simp only [E.pt]
  rw [if_neg (by omega)]
  simp [bro, pb, dgT]
 have z4 : ∀ s, brc (.str s) 9 = 0 := fun s => by rw [brc_is]; simp [E.lvl, E.pt, bro, pb, stT]
 have z5 : ∀ s, brc (.nm s) 9 = 0 := fun s => by rw [brc_is]; simp [E.lvl, E.pt, bro, pb, nmT]
 match ts, h with
 | [], h => simp [atom] at h
 | t :: r, h =>
  have hr := obt_tail (t :: r)
  simp only [List.tail_cons] at hr
  unfold atom at h
  simp only at h
  split at h
  · split at h
    · cases h
    cases h
    exact ⟨.num (dval t.text), trivial, rfl, by rw [z3]; omega⟩
  split at h
  · cases h
    exact ⟨.str t.text, trivial, rfl, by rw [z4]; omega⟩
  split at h
  · split at h
    · cases h
    cases h
    exact ⟨.nm t.text, trivial, rfl, by rw [z5]; omega⟩
  split at h
  · split at h
    · cases h
      exact ⟨.null, trivial, rfl, by rw [z1]; omega⟩
    split at h
    · cases h
      exact ⟨.bool true, trivial, rfl, by rw [z2]; omega⟩
    split at h
    · cases h
      exact ⟨.bool false, trivial, rfl, by rw [z2]; omega⟩
    cases h
  cases h
theorem negate_brk {p : Nat} {b b' : List Nd} {q q' : List Tok} (h : negate p b q = some (.ok (b', q'))) (e : E) (hk : e.kd) (hb : b = e.nodes) : q' = q ∧ ∃ e' : E, e'.kd ∧ b' = e'.nodes ∧ brc e' 8 ≤ brc e 8 := by
 have other : e.isNum = false → q' = q ∧ ∃ e' : E, e'.kd ∧ b' = e'.nodes ∧ brc e' 8 ≤ brc e 8 := by
  intro hn
  have hne : negate p e.nodes q = some (.ok ((E.un 19 e).nodes, q)) := by
   cases e with
   | num z => simp [E.isNum] at hn
   | un k e =>
    have := hk.1; have := hk.2.1
    simp only [E.nodes, over1, negate]
    rw [if_pos (by omega)]; rfl
   | bin k a b =>
    have := hk.1; have := hk.2.1
    simp only [E.nodes, over2, negate]
    rw [if_pos (by omega)]; rfl
   | _ =>
    simp only [E.nodes, leaf, negate]
    rw [if_pos (by decide)]; rfl
  rw [hb, hne] at h
  cases h
  refine ⟨rfl, .un 19 e, ⟨by omega, by omega, hk⟩, rfl, ?_⟩
  rw [brc_is]
  have hl : (E.un 19 e).lvl = 8 := rfl
  rw [hl, if_neg (by omega)]
  show bro (mnT :: brkT e.lvl 8 e.pt) + 0 ≤ bro (brkT e.lvl 8 e.pt)
  simp [bro, mnT, pb]
 cases e with
 | num z =>
  subst hb
  rw [negate_num] at h
  split at h
  · cases h
  cases h
  refine ⟨rfl, .num (-z), trivial, rfl, ?_⟩
  have e8 : ∀ z : Int, brc (.num z) 8 = 0 := by
   intro z
   rw [brc_is]
   have : ¬ (E.num z).lvl < 8 := by simp only [E.lvl]; split <;> omega
   rw [if_neg this]
   simp only [E.pt]
   split <;> simp [bro, pb, mnT, dgT]
  rw [e8, e8]
  omega
 | _ => exact other rfl
theorem ex_brk {sz : Nat} : ∀ n m a ts b q, ex sz n m a ts = some (.ok (b, q)) → AllT ts → AllT q ∧
   (1 ≤ m → m ≤ 9 → ∃ e : E, e.kd ∧ b = e.nodes ∧ brc e m + obt q ≤ obt ts) ∧
   (10 ≤ m → LeftL (m - 10) → ∀ ea : E, ea.kd → a = ea.nodes → ∃ e : E, e.kd ∧ b = e.nodes ∧ brc e (m - 10) + obt q ≤ brc ea (m - 10) + obt ts) := by
 intro n
 induction n with
 | zero => intro m a ts b q h; cases h
 | succ n ih =>
  intro m a ts b q h hv
  unfold ex at h
  split at h
  · rename_i hm
    split at h
    · cases h
      exact ⟨hv, fun _ _ => by omega, fun _ _ ea hk he => ⟨ea, hk, he, nlr _⟩⟩
    rename_i hop
    rcases obs h with ⟨e, _, h2⟩ | ⟨b1, q1, h1, h2⟩
    · cases h2
    have i1 := ih _ _ _ _ _ h1 hv.tail
    have i2 := ih _ _ _ _ _ h2 i1.1
    refine ⟨i2.1, fun _ _ => by omega, fun _ hL ea hk he => ?_⟩
    obtain ⟨e1, k1, n1, c1⟩ := i1.2.1 (by omega) (by unfold LeftL at hL; omega)
    obtain ⟨o1, o2, o3, o4⟩ := oper_obt hop
    obtain ⟨e2, k2, n2, c2⟩ := i2.2.2 hm hL (.bin (oper (m - 10) ts) ea e1) ⟨o1, o2, hk, k1⟩ (by rw [he, n1]; rfl)
    refine ⟨e2, k2, n2, ?_⟩
    rw [brc_bin _ _ _ _ (by omega) o1 o2] at c2
    have hl : leftOf (oper (m - 10) ts) = m - 10 := by unfold leftOf; rw [o3, if_neg (by unfold LeftL at hL; omega)]
    rw [hl, o3] at c2
    have : m - 9 = m - 10 + 1 := by omega
    rw [this] at c1
    omega
  rename_i hm
  suffices hx : AllT q ∧ (1 ≤ m → ∃ e : E, e.kd ∧ b = e.nodes ∧ brc e m + obt q ≤ obt ts) from ⟨hx.1, fun a _ => hx.2 a, fun h10 => absurd h10 hm⟩
  refine ⟨?_, fun h1 => ?_⟩
  all_goals
   split at h
   · rename_i m3
     subst m3
     split at h
     · rename_i hs
       rcases obs h with ⟨e, _, h2⟩ | ⟨b1, q1, h1, h2⟩
       · cases h2
       cases h2
       have i1 := ih _ _ _ _ _ h1 hv.tail
       first
        | exact i1.1
        | (obtain ⟨e1, k1, n1, c1⟩ := i1.2.1 (by omega) (by omega)
           have := sees_obt hs
           refine ⟨.un 20 e1, ⟨by omega, by omega, k1⟩, by rw [n1]; rfl, ?_⟩
           rw [brc_is]
           have hl : (E.un 20 e1).lvl = 3 := rfl
           have hp : bro (E.un 20 e1).pt = brc e1 3 := by show bro (_ :: brkT e1.lvl 3 e1.pt) = _; simp [bro, pb, kwT, brc, kNOT]
           rw [hl, hp, if_neg (by omega)]
           have : kNOT.length = 3 := rfl
           omega)
     have i1 := ih _ _ _ _ _ h hv
     first
      | exact i1.1
      | (obtain ⟨e1, k1, n1, c1⟩ := i1.2.1 (by omega) (by omega)
         have := brc_mono e1 (m := 3) (n := 4) (by omega)
         exact ⟨e1, k1, n1, by omega⟩)
   split at h
   · rename_i m4
     subst m4
     rcases obs h with ⟨e, _, h2⟩ | ⟨b1, q1, h1, h2⟩
     · cases h2
     have i1 := ih _ _ _ _ _ h1 hv
     unfold tail4 at h2
     split at h2
     · rename_i hi
       split at h2
       · rename_i hn
         rcases obs h2 with ⟨e, _, h3⟩ | ⟨b2, q2, h3, h4⟩
         · cases h3
         cases h4
         rcases must_some h3 with ⟨c6, h6⟩ | ⟨_, h6⟩
         · cases h6
           first
            | exact i1.1.tail.tail.tail
            | (obtain ⟨e1, k1, n1, c1⟩ := i1.2.1 (by omega) (by omega)
               have r1 := sees_obt hi
               have r2 := sees_obt hn
               have r3 := sees_obt c6
               refine ⟨.un 22 e1, ⟨by omega, by omega, k1⟩, by rw [n1]; rfl, ?_⟩
               rw [brc_is]
               have hl : (E.un 22 e1).lvl = 4 := rfl
               have hp : bro (E.un 22 e1).pt = brc e1 5 := by
                show bro (brkT e1.lvl 5 e1.pt ++ _) = _
                rw [bro_app]; rfl
               rw [hl, hp, if_neg (by omega)]
               have : kNOT.length = 3 := rfl
               have : kIS.length = 2 := rfl
               have : kNULL.length = 4 := rfl
               omega)
         cases h6
       rcases obs h2 with ⟨e, _, h3⟩ | ⟨b2, q2, h3, h4⟩
       · cases h3
       cases h4
       rcases must_some h3 with ⟨c6, h6⟩ | ⟨_, h6⟩
       · cases h6
         first
          | exact i1.1.tail.tail
          | (obtain ⟨e1, k1, n1, c1⟩ := i1.2.1 (by omega) (by omega)
             have r1 := sees_obt hi
             have r3 := sees_obt c6
             refine ⟨.un 21 e1, ⟨by omega, by omega, k1⟩, by rw [n1]; rfl, ?_⟩
             rw [brc_is]
             have hl : (E.un 21 e1).lvl = 4 := rfl
             have hp : bro (E.un 21 e1).pt = brc e1 5 := by
              show bro (brkT e1.lvl 5 e1.pt ++ _) = _
              rw [bro_app]; rfl
             rw [hl, hp, if_neg (by omega)]
             have : kIS.length = 2 := rfl
             have : kNULL.length = 4 := rfl
             omega)
       cases h6
     split at h2
     · cases h2
       first
        | exact i1.1
        | (obtain ⟨e1, k1, n1, c1⟩ := i1.2.1 (by omega) (by omega)
           have := brc_mono e1 (m := 4) (n := 5) (by omega)
           exact ⟨e1, k1, n1, by omega⟩)
     rename_i hop
     rcases obs h2 with ⟨e, _, h3⟩ | ⟨b2, q2, h3, h4⟩
     · cases h3
     cases h4
     have i2 := ih _ _ _ _ _ h3 i1.1.tail
     first
      | exact i2.1
      | (obtain ⟨e1, k1, n1, c1⟩ := i1.2.1 (by omega) (by omega)
         obtain ⟨e2, k2, n2, c2⟩ := i2.2.1 (by omega) (by omega)
         obtain ⟨o1, o2, o3, o4⟩ := oper_obt hop
         refine ⟨.bin (oper 4 q1) e1 e2, ⟨o1, o2, k1, k2⟩, by rw [n1, n2]; rfl, ?_⟩
         rw [brc_bin _ _ _ _ (by omega) o1 o2]
         have hl : leftOf (oper 4 q1) = 5 := by unfold leftOf; rw [o3, if_pos rfl]
         rw [hl, o3]
         have c2 : brc e2 (4 + 1) + obt q ≤ obt q1.tail := c2
         omega)
   split at h
   · rename_i m8
     subst m8
     split at h
     · rename_i hs
       have r1 := sees_obt hs
       have : gMinus.length = 1 := rfl
       split at h
       · rename_i ht
         cases h
         first
          | exact hv.tail.tail
          | (refine ⟨.num bot, trivial, rfl, ?_⟩
             have hc : brc (.num bot) 8 = 0 := by decide
             rw [hc]
             have h2 := obt_tail ts.tail
             omega)
       rcases obs h with ⟨e, _, h2⟩ | ⟨b1, q1, h1, h2⟩
       · cases h2
       have i1 := ih _ _ _ _ _ h1 hv.tail
       obtain ⟨e1, k1, n1, c1⟩ := i1.2.1 (by omega) (by omega)
       obtain ⟨rfl, e2, k2, n2, c2⟩ := negate_brk h2 e1 k1 n1
       first
        | exact i1.1
        | exact ⟨e2, k2, n2, by omega⟩
     have i1 := ih _ _ _ _ _ h hv
     first
      | exact i1.1
      | (obtain ⟨e1, k1, n1, c1⟩ := i1.2.1 (by omega) (by omega)
         have := brc_mono e1 (m := 8) (n := 9) (by omega)
         exact ⟨e1, k1, n1, by omega⟩)
   split at h
   · rename_i m9
     subst m9
     split at h
     · rename_i hs
       rcases obs h with ⟨e, _, h2⟩ | ⟨b1, q1, h1, h2⟩
       · cases h2
       have i1 := ih _ _ _ _ _ h1 hv.tail
       rcases obs h2 with ⟨e, _, h3⟩ | ⟨b2, q2, h3, h4⟩
       · cases h3
       cases h4
       rcases must_some h3 with ⟨c7, h7⟩ | ⟨_, h7⟩
       · cases h7
         first
          | exact i1.1.tail
          | (obtain ⟨e1, k1, n1, c1⟩ := i1.2.1 (by omega) (by omega)
             have r1 := sees_open hs
             have r2 := sees_obt c7
             have : gOpen.length = 1 := rfl
             have : gShut.length = 1 := rfl
             refine ⟨e1, k1, n1, ?_⟩
             rw [brc_is] at c1 ⊢
             split <;> split at c1 <;> omega)
       cases h7
     first
      | exact atom_brk h
      | (unfold atom at h
         cases ts with
         | nil => simp at h
         | cons t r =>
          have hr : AllT r := hv.tail
          simp only at h
          repeat' split at h
          all_goals first | (cases h; done) | (cases h; exact hr))
   rcases obs h with ⟨e, _, h2⟩ | ⟨b1, q1, h1', h2⟩
   · cases h2
   have i1 := ih _ _ _ _ _ h1' hv
   have i2 := ih _ _ _ _ _ h2 i1.1
   rename_i m3 m4 m8 m9
   clear h h2 h1'
   first
    | exact i2.1
    | (have hm9 : m + 1 ≤ 9 := by clear i1 i2; omega
       have hLL : LeftL m := by clear i1 i2; unfold LeftL; omega
       obtain ⟨e1, k1, n1, c1⟩ := i1.2.1 (Nat.le_add_left 1 m) hm9
       obtain ⟨e2, k2, n2, c2⟩ := i2.2.2 (Nat.le_add_left 10 m) (by rw [Nat.add_sub_cancel]; exact hLL) e1 k1 n1
       have e10 : m + 10 - 10 = m := Nat.add_sub_cancel m 10
       rw [e10] at c2
       have := brc_mono e1 (m := m) (n := m + 1) (Nat.le_succ m)
       exact ⟨e2, k2, n2, by clear i1 i2; omega⟩)
end Px
end
section
namespace Px
open Lx (Bs Tok)
variable {α : Type}
theorem pbz : (∀ s, pb (nmT s) = 0) ∧ (∀ n, pb (dgT n) = 0) ∧ pb (sgT [40]) = 1 ∧ pb (sgT [41]) = 0 ∧ pb (sgT [61]) = 0 ∧ pb (sgT [42]) = 0 ∧ (∀ n, pb (kwT (typeT n)) = 0) ∧ pb (kwT kWHERE) = 0 ∧ pb (kwT kDESC) = 0 ∧ pb (kwT kORDER) = 0 ∧ pb (kwT kBY) = 0 ∧ pb (kwT kLIMIT) = 0 ∧ pb (kwT kNOT) = 0 ∧ pb (kwT kNULL) = 0 ∧ pb (kwT kCREATE) = 0 ∧ pb (kwT kTABLE) = 0 ∧ pb (kwT kDROP) = 0 ∧ pb (kwT kINSERT) = 0 ∧ pb (kwT kINTO) = 0 ∧ pb (kwT kVALUES) = 0 ∧ pb (kwT kDELETE) = 0 ∧ pb (kwT kFROM) = 0 ∧ pb (kwT kUPDATE) = 0 ∧ pb (kwT kSET) = 0 ∧ pb (kwT kSELECT) = 0 := by
 refine ⟨fun s => by simp [pb, nmT], fun n => by simp [pb, dgT], by decide, by decide, by decide, by decide, fun n => ?_, by decide⟩
 unfold typeT
 split
 · decide
 split <;> decide
def RgB (x : Rg α) (f : α → Nat) : Prop := ∀ ts a q, x ts (.ok (a, q)) → AllT ts → AllT q ∧ f a + obt q ≤ obt ts
theorem RgB.ex (sz : Nat) : RgB (exR sz) fun e => bro e.pt := by
 intro ts e q h hv
 obtain ⟨⟨n, hn⟩, h2⟩ := h
 have i := ex_brk n 1 [] ts e.nodes q hn hv
 obtain ⟨e', k', n', c'⟩ := i.2.1 (by omega) (by omega)
 have := (E.nodes_inj e e' [] [] (E.kd_of e (h2 e q rfl).1) k' (by rw [n'])).1
 subst this
 refine ⟨i.1, ?_⟩
 rw [brc_is] at c'
 clear i
 show bro e.pt + obt q ≤ obt ts
 omega
theorem RgB.name (sz : Nat) : RgB (nameR sz) fun _ => 0 := by
 intro ts s q h hv
 unfold nameR Px.name at h
 split at h
 · cases h
 rename_i t r
 split at h
 · cases h
 split at h
 · cases h
 cases h
 refine ⟨hv.tail, ?_⟩
 have := obt_tail (t :: q)
 simp only [List.tail_cons] at this
 show 0 + _ ≤ _
 omega
theorem must_open {sz : Nat} {ts q : List Tok} {u : Unit} (h : mustR sz gOpen ts (.ok (u, q))) (hv : AllT ts) : AllT q ∧ obt ts = 1 + obt q := by
 rcases must_some h with ⟨c, h2⟩ | ⟨_, h2⟩
 · cases h2; exact ⟨hv.tail, sees_open c⟩
 cases h2
theorem must_ob {sz : Nat} {s : Bs} {ts q : List Tok} {u : Unit} (h : mustR sz s ts (.ok (u, q))) (hv : AllT ts) : AllT q ∧ obt q ≤ obt ts := by
 rcases must_some h with ⟨c, h2⟩ | ⟨_, h2⟩
 · cases h2; exact ⟨hv.tail, sees_obt c⟩
 cases h2
theorem sepB_snoc (a : List PT) : ∀ l : List (List PT), l ≠ [] → bro (sepT (l ++ [a])) = bro (sepT l) + bro a
 | [x], _ => by simp [sepT, bro, bro_app, sgT, pb]
 | x :: y :: r, _ => by
  have := sepB_snoc a (y :: r) (by simp)
  simp only [List.cons_append, sepT, bro_app, bro] at this ⊢
  omega
theorem reach_ob {x : Nat → Rg α} {pt : α → List PT} (hx : ∀ i, RgB (x i) fun a => bro (pt a)) {ts : List Tok} {l : List α} {q : List Tok} (h : Reach x ts l q) (hv : AllT ts) : AllT q ∧ l ≠ [] ∧ bro (sepT (l.map pt)) + obt q ≤ obt ts := by
 induction h with
 | first h1 =>
  have := hx 0 _ _ _ h1 hv
  exact ⟨this.1, by simp, by simp only [List.map_cons, List.map_nil, sepT]; exact this.2⟩
 | step h1 h2 h3 ih =>
  have i2 := hx _ _ _ _ h3 ih.1.tail
  have r := sees_obt h2
  refine ⟨i2.1, by simp, ?_⟩
  rw [List.map_append, List.map_singleton, sepB_snoc _ _ (by simp [ih.2.1])]
  have := ih.2.2
  have := i2.2
  simp only at *
  omega
theorem RgB.sep {x : Nat → Rg α} {pt : α → List PT} (hx : ∀ i, RgB (x i) fun a => bro (pt a)) : RgB (Sep x) fun l => bro (sepT (l.map pt)) := by
 intro ts l q h hv
 cases h with
 | stop h1 h2 =>
  have := reach_ob hx h1 hv
  exact ⟨this.1, this.2.2⟩
theorem RgB.row (sz : Nat) : RgB (rowR sz) fun l => bro (rowT l) := by
 intro ts l q h hv
 obtain ⟨u1, q1, h1, h⟩ := sqk h
 obtain ⟨v1, r1⟩ := must_open h1 hv
 obtain ⟨l', q2, h2, h⟩ := sqk h
 obtain ⟨v2, r2⟩ := RgB.sep (pt := E.pt) (fun _ => RgB.ex sz) _ _ _ h2 v1
 obtain ⟨u3, q3, h3, h⟩ := sqk h
 obtain ⟨v3, r3⟩ := must_ob h3 v2
 cases h
 refine ⟨v3, ?_⟩
 simp only [rowT, bro, bro_app, pbz] at *
 omega
theorem RgB.where (sz : Nat) : RgB (whereR sz) fun o => bro (whereT o) := by
 intro ts o q h hv
 unfold whereR at h
 split at h
 · rename_i hs
   have r1 := sees_obt hs
   obtain ⟨e, q1, h1, h⟩ := sqk h
   obtain ⟨v1, r2⟩ := RgB.ex sz _ _ _ h1 hv.tail
   cases h
   refine ⟨v1, ?_⟩
   simp only [whereT, bro, bro_app, pbz] at *
   omega
 cases h
 exact ⟨hv, by simp [whereT, bro]⟩
theorem RgB.set (sz : Nat) : RgB (setR sz) fun x => bro (setT x) := by
 intro ts x q h hv
 obtain ⟨s, q1, h1, h⟩ := sqk h
 obtain ⟨v1, r1⟩ := RgB.name sz _ _ _ h1 hv
 obtain ⟨u2, q2, h2, h⟩ := sqk h
 obtain ⟨v2, r2⟩ := must_ob h2 v1
 obtain ⟨e, q3, h3, h⟩ := sqk h
 obtain ⟨v3, r3⟩ := RgB.ex sz _ _ _ h3 v2
 cases h
 refine ⟨v3, ?_⟩
 simp only [setT, bro, bro_app, pbz] at *
 omega
theorem RgB.item (sz : Nat) : RgB (itemR sz) fun x => bro (itemT x) := by
 intro ts x q h hv
 unfold itemR at h
 split at h
 · rename_i hs
   have r1 := sees_obt hs
   cases h
   refine ⟨hv.tail, ?_⟩
   simp only [itemT, bro, bro_app, pbz] at *
   omega
 obtain ⟨e, q1, h1, h⟩ := sqk h
 obtain ⟨v1, r2⟩ := RgB.ex sz _ _ _ h1 hv
 cases h
 exact ⟨v1, r2⟩
theorem RgB.order (sz : Nat) : RgB (orderR sz) fun x => bro (orderT x) := by
 intro ts x q h hv
 obtain ⟨e, q1, h1, h⟩ := sqk h
 obtain ⟨v1, r1⟩ := RgB.ex sz _ _ _ h1 hv
 unfold descR at h
 split at h
 · rename_i hs
   have r2 := sees_obt hs
   cases h
   refine ⟨v1.tail, ?_⟩
   simp only [orderT, if_true, bro, bro_app, pbz] at *
   omega
 split at h
 · rename_i hs
   have r2 := sees_obt hs
   cases h
   refine ⟨v1.tail, ?_⟩
   simp only [orderT, Bool.false_eq_true, if_false, bro, bro_app, pbz] at *
   omega
 cases h
 refine ⟨v1, ?_⟩
 simp only [orderT, Bool.false_eq_true, if_false, bro, bro_app, pbz] at *
 omega
theorem RgB.orders (sz : Nat) : RgB (ordersR sz) fun l => bro (ordersT l) := by
 intro ts l q h hv
 unfold ordersR at h
 split at h
 · rename_i hs
   have r1 := sees_obt hs
   obtain ⟨u2, q2, h2, h⟩ := sqk h
   obtain ⟨v2, r2⟩ := must_ob h2 hv.tail
   obtain ⟨v3, r3⟩ := RgB.sep (pt := orderT) (fun _ => RgB.order sz) _ _ _ h v2
   refine ⟨v3, ?_⟩
   cases l with
   | nil => simp only [ordersT, bro, bro_app, pbz] at *; omega
   | cons o l =>
    simp only [ordersT, bro, bro_app, pbz] at *
    omega
 cases h
 exact ⟨hv, by simp [ordersT, bro]⟩
theorem RgB.lim (sz : Nat) : RgB (limR sz) fun l => bro (limT l) := by
 intro ts l q h hv
 unfold limR at h
 split at h
 · rename_i hs
   have r1 := sees_obt hs
   obtain ⟨n, q1, h1, h⟩ := sqk h
   cases h
   have hv' := hv.tail
   generalize ts.tail = ts' at *
   unfold limit at h1
   split at h1
   · cases h1
   rename_i t r
   split at h1
   · cases h1
   rename_i hk
   split at h1
   · cases h1
   cases h1
   refine ⟨hv'.tail, ?_⟩
   have := obt_tail (t :: q)
   simp only [List.tail_cons] at this
   simp only [limT, bro, bro_app, pbz] at *
   omega
 cases h
 exact ⟨hv, by simp [limT, bro]⟩
theorem RgB.kind (sz : Nat) : RgB (kindR sz) fun _ => 0 := by
 intro ts k q h hv
 unfold kindR at h
 split at h
 · rename_i hs
   have r1 := sees_obt hs
   cases h
   refine ⟨hv.tail, ?_⟩
   show 0 + _ ≤ _
   omega
 split at h
 · rename_i hs
   have r1 := sees_obt hs
   cases h
   refine ⟨hv.tail, ?_⟩
   show 0 + _ ≤ _
   omega
 obtain ⟨u, q1, h1, h⟩ := sqk h
 obtain ⟨v1, r1⟩ := must_ob h1 hv
 cases h
 refine ⟨v1, ?_⟩
 show 0 + _ ≤ _
 omega
theorem kind_leB {sz : Nat} {ts q : List Tok} {k : Nat} (h : kindR sz ts (.ok (k, q))) : 1 ≤ k ∧ k ≤ 3 := by
 unfold kindR at h
 split at h
 · cases h; omega
 split at h
 · cases h; omega
 obtain ⟨u, q1, h1, h⟩ := sqk h
 cases h; omega
theorem RgB.col (sz i : Nat) : RgB (colR sz i) fun x => bro (colT x) := by
 intro ts x q h hv
 unfold colR at h
 obtain ⟨s, q1, h1, h⟩ := sqk h
 obtain ⟨v1, r1⟩ := RgB.name sz _ _ _ h1 hv
 split at h
 · cases h
 obtain ⟨k, q2, h2, h⟩ := sqk h
 obtain ⟨v2, r2⟩ := RgB.kind sz _ _ _ h2 v1
 have hk := kind_leB h2
 unfold nullR at h
 split at h
 · rename_i hs
   have r3 := sees_obt hs
   obtain ⟨u, q3, h3, h⟩ := sqk h
   obtain ⟨v3, r4⟩ := must_ob h3 v2.tail
   cases h
   refine ⟨v3, ?_⟩
   simp only [colT]
   rw [if_pos (by omega)]
   simp only [bro, bro_app, pbz] at *
   omega
 cases h
 refine ⟨v2, ?_⟩
 simp only [colT]
 rw [if_neg (by omega)]
 simp only [bro, bro_app, pbz] at *
 omega
theorem stmtR_ob (sz : Nat) : RgB (stmtR sz) fun s => bro s.pt := by
 intro ts s q h hv
 unfold stmtR at h
 split at h
 · rename_i hs
   have r0 := sees_obt hs
   obtain ⟨u1, q1, h1, h⟩ := sqk h
   obtain ⟨v1, r1⟩ := must_ob h1 hv.tail
   obtain ⟨t, q2, h2, h⟩ := sqk h
   obtain ⟨v2, r2⟩ := RgB.name sz _ _ _ h2 v1
   obtain ⟨u3, q3, h3, h⟩ := sqk h
   obtain ⟨v3, r3⟩ := must_open h3 v2
   obtain ⟨l, q4, h4, h⟩ := sqk h
   obtain ⟨v4, r4⟩ := RgB.sep (pt := colT) (fun i => RgB.col sz i) _ _ _ h4 v3
   obtain ⟨u5, q5, h5, h⟩ := sqk h
   obtain ⟨v5, r5⟩ := must_ob h5 v4
   cases h
   refine ⟨v5, ?_⟩
   simp only [St.pt, bro, bro_app, pbz] at *
   omega
 split at h
 · rename_i hs
   have r0 := sees_obt hs
   obtain ⟨u1, q1, h1, h⟩ := sqk h
   obtain ⟨v1, r1⟩ := must_ob h1 hv.tail
   obtain ⟨t, q2, h2, h⟩ := sqk h
   obtain ⟨v2, r2⟩ := RgB.name sz _ _ _ h2 v1
   cases h
   refine ⟨v2, ?_⟩
   simp only [St.pt, bro, bro_app, pbz] at *
   omega
 split at h
 · rename_i hs
   have r0 := sees_obt hs
   obtain ⟨u1, q1, h1, h⟩ := sqk h
   obtain ⟨v1, r1⟩ := must_ob h1 hv.tail
   obtain ⟨t, q2, h2, h⟩ := sqk h
   obtain ⟨v2, r2⟩ := RgB.name sz _ _ _ h2 v1
   obtain ⟨u3, q3, h3, h⟩ := sqk h
   obtain ⟨v3, r3⟩ := must_ob h3 v2
   obtain ⟨l, q4, h4, h⟩ := sqk h
   obtain ⟨v4, r4⟩ := RgB.sep (pt := rowT) (fun i => RgB.row sz) _ _ _ h4 v3
   cases h
   refine ⟨v4, ?_⟩
   simp only [St.pt, bro, bro_app, pbz] at *
   omega
 split at h
 · rename_i hs
   have r0 := sees_obt hs
   obtain ⟨u1, q1, h1, h⟩ := sqk h
   obtain ⟨v1, r1⟩ := must_ob h1 hv.tail
   obtain ⟨t, q2, h2, h⟩ := sqk h
   obtain ⟨v2, r2⟩ := RgB.name sz _ _ _ h2 v1
   obtain ⟨o, q3, h3, h⟩ := sqk h
   obtain ⟨v3, r3⟩ := RgB.where sz _ _ _ h3 v2
   cases h
   refine ⟨v3, ?_⟩
   simp only [St.pt, bro, bro_app, pbz] at *
   omega
 split at h
 · rename_i hs
   have r0 := sees_obt hs
   obtain ⟨t, q2, h2, h⟩ := sqk h
   obtain ⟨v2, r2⟩ := RgB.name sz _ _ _ h2 hv.tail
   obtain ⟨u1, q1, h1, h⟩ := sqk h
   obtain ⟨v1, r1⟩ := must_ob h1 v2
   obtain ⟨l, q4, h4, h⟩ := sqk h
   obtain ⟨v4, r4⟩ := RgB.sep (pt := setT) (fun i => RgB.set sz) _ _ _ h4 v1
   obtain ⟨o, q3, h3, h⟩ := sqk h
   obtain ⟨v3, r3⟩ := RgB.where sz _ _ _ h3 v4
   cases h
   refine ⟨v3, ?_⟩
   simp only [St.pt, bro, bro_app, pbz] at *
   omega
 obtain ⟨u0, q0, h0, h⟩ := sqk h
 obtain ⟨v0, r0⟩ := must_ob h0 hv
 obtain ⟨l, q4, h4, h⟩ := sqk h
 obtain ⟨v4, r4⟩ := RgB.sep (pt := itemT) (fun i => RgB.item sz) _ _ _ h4 v0
 obtain ⟨u1, q1, h1, h⟩ := sqk h
 obtain ⟨v1, r1⟩ := must_ob h1 v4
 obtain ⟨t, q2, h2, h⟩ := sqk h
 obtain ⟨v2, r2⟩ := RgB.name sz _ _ _ h2 v1
 obtain ⟨o, q3, h3, h⟩ := sqk h
 obtain ⟨v3, r3⟩ := RgB.where sz _ _ _ h3 v2
 obtain ⟨os, q5, h5, h⟩ := sqk h
 obtain ⟨v5, r5⟩ := RgB.orders sz _ _ _ h5 v3
 obtain ⟨lm, q6, h6, h⟩ := sqk h
 obtain ⟨v6, r6⟩ := RgB.lim sz _ _ _ h6 v5
 cases h
 refine ⟨v6, ?_⟩
 simp only [St.pt, bro, bro_app, pbz] at *
 omega
theorem parse_ob {s : Bs} {st : St} {ts : List Tok} (h : ParseR s (.ok st)) (hl : Lx.lex s = .ok ts) : bro st.pt ≤ obt ts := by
 unfold ParseR at h
 rw [hl] at h
 obtain ⟨q, h1, h2⟩ := h
 match q, h1, h2 with
 | .error e, h1, h2 => cases h2
 | .ok (a, u), h1, h2 =>
  have hs := (stmtR_ob s.length ts a u h1 (fun t ht => ((Lx.lex_ok hl).2.2 t ht).1)).2
  simp only at h2 hs
  split at h2
  · split at h2
    · cases h2
    cases h2
    omega
  cases h2
theorem same_ob : ∀ {ts : List Tok} {l : List PT}, Same ts l → obt ts = bro l
 | [], [], _ => rfl
 | [], _ :: _, h => by simp [Same] at h
 | _ :: _, [], h => by simp [Same] at h
 | t :: ts, a :: l, h => by
  simp only [Same, List.map_cons, List.cons.injEq, Prod.mk.injEq] at h
  obtain ⟨⟨h1, h2⟩, h3⟩ := h
  have := same_ob (ts := ts) (l := l) h3
  simp only [obt, bro, ob, pb, h1, h2, this]
end Px
end
section
namespace Lx
def lexS (pos : Nat) (l : Bs) : Except (Nat × Nat) (List Tok) := lexM 0 (pos + skipN l) (l.drop (skipN l))
theorem lexM_tok {b : UInt8} {r : Bs} {pos k n : Nat} {t : Bs} (h : oneT (b :: r) = .ok (k, t, n)) : lexM 0 pos (b :: r) = match lexS (pos + n) ((b :: r).drop n) with
   | .ok ts => .ok (⟨k, t, pos⟩ :: ts)
   | .error e => .error e := by
 obtain ⟨h1, h2, _⟩ := oneT_len h
 have hs := skipN_le ((b :: r).drop n)
 conv => lhs; unfold lexM
 rw [h]
 simp only
 have e : lexM (n + skipN ((b :: r).drop n) - 1) (pos + 1) r = lexS (pos + n) ((b :: r).drop n) := by
  simp only [List.length_drop, List.length_cons] at hs h2
  rw [lexM_drop _ _ _ (by omega)]
  unfold lexS
  rw [List.drop_drop]
  obtain ⟨m, hm⟩ : ∃ m, n + skipN ((b :: r).drop n) = m + 1 := ⟨n + skipN ((b :: r).drop n) - 1, by omega⟩
  rw [hm, List.drop_succ_cons, Nat.add_sub_cancel]
  congr 1
  omega
 rw [e]
 cases lexS (pos + n) ((b :: r).drop n) <;> rfl
theorem lexM_cut {l : Bs} {pos : Nat} {ts : List Tok} (h : lexM 0 pos l = .ok ts) : (l = [] ∧ ts = []) ∨ ∃ k t n r, oneT l = .ok (k, t, n) ∧ lexS (pos + n) (l.drop n) = .ok r ∧ ts = ⟨k, t, pos⟩ :: r := by
 cases l with
 | nil => simp [lexM] at h; exact .inl ⟨rfl, h⟩
 | cons b r =>
  right
  cases ho : oneT (b :: r) with
  | error e => unfold lexM at h; rw [ho] at h; cases h
  | ok x =>
   obtain ⟨k, t, n⟩ := x
   rw [lexM_tok ho] at h
   cases hr : lexS (pos + n) ((b :: r).drop n) with
   | error e => rw [hr] at h; cases h
   | ok ts' =>
    rw [hr] at h
    simp only [Except.ok.injEq] at h
    exact ⟨k, t, n, ts', rfl, hr, h.symm⟩
theorem lexS_pos : ∀ (m : Nat) (l : Bs) (pos : Nat) (ts : List Tok), l.length ≤ m → lexS pos l = .ok ts → (∀ t ∈ ts, pos + skipN l ≤ t.pos ∧ t.pos < pos + l.length) ∧ ts.Pairwise (fun a b => a.pos < b.pos) ∧ ∀ t ∈ ts, ∃ n, oneT (l.drop (t.pos - pos)) = .ok (t.kind, t.text, n) := by
 intro m
 induction m with
 | zero =>
  intro l pos ts hm h
  have : l = [] := List.length_eq_zero_iff.1 (by omega)
  subst this
  simp [lexS, lexM, skipN, skipM] at h
  subst h
  simp
 | succ m ih =>
  intro l pos ts hm h
  have hs := skipN_le l
  unfold lexS at h
  rcases lexM_cut h with ⟨h1, rfl⟩ | ⟨k, t, n, r, h1, h2, rfl⟩
  · simp
  obtain ⟨n1, n2, _⟩ := oneT_len h1
  simp only [List.length_drop] at n2
  obtain ⟨i1, i2, i3⟩ := ih _ _ _ (by simp only [List.length_drop]; omega) h2
  simp only [List.length_drop] at i1
  refine ⟨fun u hu => ?_, ?_, fun u hu => ?_⟩
  · rcases List.mem_cons.1 hu with rfl | hu
    · simp only; omega
    have := i1 u hu; omega
  · refine List.pairwise_cons.2 ⟨fun u hu => ?_, i2⟩
    have := i1 u hu
    simp only; omega
  rcases List.mem_cons.1 hu with rfl | hu
  · refine ⟨n, ?_⟩
    simp only
    rw [Nat.add_sub_cancel_left]
    exact h1
  obtain ⟨n', hn'⟩ := i3 u hu
  have := i1 u hu
  refine ⟨n', ?_⟩
  rw [List.drop_drop, List.drop_drop] at hn'
  rw [← hn']
  congr 2
  omega
theorem cnt_stop (p : UInt8 → Bool) {c : UInt8} (hc : p c = false) (y : Bs) : ∀ x : Bs, cnt p (x ++ c :: y) = cnt p x
 | [] => by simp [cnt, hc]
 | b :: x => by
  have := cnt_stop p hc y x
  simp only [List.cons_append, cnt, this]
theorem take_app {n : Nat} {x : Bs} (h : n ≤ x.length) (y : Bs) : (x ++ y).take n = x.take n := by
 rw [List.take_append_of_le_length h]
theorem betw_rep (m c d : UInt8) (hc : c ≠ m) (hd : d ≠ m) (y : Bs) : ∀ (r : Bs) (t : Bs) (n : Nat), betw m (r ++ c :: y) = some (t, n) → n ≤ r.length → betw m (r ++ d :: y) = some (t, n)
 | [], t, n, h, hn => by
  have := betw_le m _ _ _ h
  simp at hn
  omega
 | [b], t, n, h, hn => by
  simp only [List.cons_append, List.nil_append, betw] at h ⊢
  by_cases hb : b = m
  · rw [if_pos hb, if_neg hc] at h
    rw [if_pos hb, if_neg hd]
    exact h
  rw [if_neg hb] at h
  simp only [Option.map_eq_some_iff, Prod.exists, Prod.mk.injEq] at h
  obtain ⟨t', n', h1, rfl, rfl⟩ := h
  have := betw_le m _ _ _ h1
  simp at hn
  omega
 | b :: b' :: r, t, n, h, hn => by
  have e1 : (b :: b' :: r) ++ c :: y = b :: b' :: (r ++ c :: y) := rfl
  have e2 : (b :: b' :: r) ++ d :: y = b :: b' :: (r ++ d :: y) := rfl
  rw [e1] at h
  rw [e2]
  unfold betw at h ⊢
  by_cases hb : b = m
  · rw [if_pos hb] at h ⊢
    by_cases hb' : b' = m
    · rw [if_pos hb'] at h ⊢
      simp only [Option.map_eq_some_iff, Prod.exists, Prod.mk.injEq] at h ⊢
      obtain ⟨t', n', h1, rfl, rfl⟩ := h
      simp only [List.length_cons] at hn
      exact ⟨t', n', betw_rep m c d hc hd y r t' n' h1 (by omega), rfl, rfl⟩
    rw [if_neg hb'] at h ⊢
    exact h
  rw [if_neg hb] at h ⊢
  simp only [Option.map_eq_some_iff, Prod.exists, Prod.mk.injEq] at h ⊢
  obtain ⟨t', n', h1, rfl, rfl⟩ := h
  simp only [List.length_cons] at hn
  exact ⟨t', n', betw_rep m c d hc hd y (b' :: r) t' n' h1 (by simp only [List.length_cons]; omega), rfl, rfl⟩
def Gap (c : UInt8) : Prop := c = 40 ∨ c = 41 ∨ c = 32
theorem Gap.facts {c : UInt8} (h : Gap c) : isWd c = false ∧ isDig c = false ∧ c.toNat ≠ 39 ∧ c.toNat ≠ 34 ∧ c.toNat ≠ 45 ∧ ∀ b : UInt8, hasB twos [b, c] = false := by
 rcases h with rfl | rfl | rfl
 all_goals
  refine ⟨by decide, by decide, by decide, by decide, by decide, fun b => ?_⟩
  simp [hasB, twos]
theorem one_rep {x : Bs} (hx : x ≠ []) {c d : UInt8} (hc : Gap c) (hd : Gap d) {y : Bs} {k n : Nat} {t : Bs} (h : oneT (x ++ c :: y) = .ok (k, t, n)) (hn : n ≤ x.length) : oneT (x ++ d :: y) = .ok (k, t, n) := by
 obtain ⟨c1, c2, c3, c4, _, c5⟩ := hc.facts
 obtain ⟨d1, d2, d3, d4, _, d5⟩ := hd.facts
 cases x with
 | nil => exact absurd rfl hx
 | cons b r =>
  have w1 := cnt_stop isWd c1 y (b :: r)
  have w2 := cnt_stop isWd d1 y (b :: r)
  have v1 := cnt_stop isDig c2 y (b :: r)
  have v2 := cnt_stop isDig d2 y (b :: r)
  have l1 := cnt_le isWd (b :: r)
  have l2 := cnt_le isDig (b :: r)
  have t1 := take_app l1 (c :: y)
  have t2 := take_app l1 (d :: y)
  have t3 := take_app l2 (c :: y)
  have t4 := take_app l2 (d :: y)
  have o1 := take_app (n := 1) (x := b :: r) (by simp) (c :: y)
  have o2 := take_app (n := 1) (x := b :: r) (by simp) (d :: y)
  simp only [List.cons_append] at *
  unfold oneT at h ⊢
  simp only [w1, v1, t1, t3, o1] at h
  simp only [w2, v2, t2, t4, o2]
  by_cases q1 : isLet b = true
  · rw [if_pos q1] at h ⊢; exact h
  rw [if_neg q1] at h ⊢
  by_cases q2 : isDig b = true
  · rw [if_pos q2] at h ⊢; exact h
  rw [if_neg q2] at h ⊢
  by_cases q3 : b.toNat = 39 ∨ b.toNat = 34
  · rw [if_pos q3] at h ⊢
    cases hb : betw b (r ++ c :: y) with
    | none => rw [hb] at h; cases h
    | some z =>
     obtain ⟨t', n'⟩ := z
     rw [hb] at h
     simp only at h
     split at h
     · cases h
     rename_i hq
     simp only [Except.ok.injEq, Prod.mk.injEq] at h
     obtain ⟨rfl, rfl, rfl⟩ := h
     have hcb : c ≠ b := by rintro rfl; omega
     have hdb : d ≠ b := by rintro rfl; omega
     rw [betw_rep b c d hcb hdb y r t' n' hb (by simp only [List.length_cons] at hn; omega)]
     simp only
     rw [if_neg hq]
  rw [if_neg q3] at h ⊢
  cases r with
  | nil =>
   have z1 : (b :: ([] ++ c :: y)).take 2 = [b, c] := rfl
   have z2 : (b :: ([] ++ d :: y)).take 2 = [b, d] := rfl
   rw [z1, c5 b] at h
   rw [z2, d5 b]
   simpa using h
  | cons b' r =>
   have z1 : (b :: ((b' :: r) ++ c :: y)).take 2 = [b, b'] := rfl
   have z2 : (b :: ((b' :: r) ++ d :: y)).take 2 = [b, b'] := rfl
   have y1 : 2 ≤ (b :: ((b' :: r) ++ c :: y)).length := by simp
   have y2 : 2 ≤ (b :: ((b' :: r) ++ d :: y)).length := by simp
   rw [z1] at h
   rw [z2]
   simp only [y1, y2, true_and] at h ⊢
   exact h
theorem skip_lt {c d : UInt8} (hc : Gap c) (hd : Gap d) (y : Bs) : ∀ (x : Bs) (m : Bool), skipM m (x ++ c :: y) < x.length → skipM m (x ++ d :: y) = skipM m (x ++ c :: y)
 | [], m, h => by simp at h
 | b :: x, true, h => by
  simp only [List.cons_append, skipM, List.length_cons] at h ⊢
  split at h
  · rename_i hb
    rw [if_pos hb, if_pos hb, skip_lt hc hd y x true (by omega)]
  rename_i hb
  rw [if_neg hb, if_neg hb, skip_lt hc hd y x false (by omega)]
 | b :: x, false, h => by
  have hh : (x ++ c :: y).head? = some 45 ↔ (x ++ d :: y).head? = some 45 := by
   cases x with
   | nil =>
    have h1 : c ≠ 45 := by rintro rfl; exact hc.facts.2.2.2.2.1 rfl
    have h2 : d ≠ 45 := by rintro rfl; exact hd.facts.2.2.2.2.1 rfl
    simp [h1, h2]
   | cons a x => simp
  simp only [List.cons_append, skipM, List.length_cons] at h ⊢
  by_cases q : b.toNat = 45 ∧ (x ++ c :: y).head? = some 45
  · rw [if_pos q] at h ⊢
    rw [if_pos ⟨q.1, hh.1 q.2⟩, skip_lt hc hd y x true (by omega)]
  rw [if_neg q] at h ⊢
  rw [if_neg (fun z => q ⟨z.1, hh.2 z.2⟩)]
  by_cases q2 : isSp b = true
  · rw [if_pos q2] at h ⊢
    rw [if_pos q2, skip_lt hc hd y x false (by omega)]
  rw [if_neg q2, if_neg q2]
theorem skip_eq {c : UInt8} (hc : c = 40 ∨ c = 41) (y : Bs) : ∀ (x : Bs) (m : Bool), skipM m (x ++ c :: y) = x.length → (m = true → x ≠ []) → skipM m (x ++ 32 :: y) = x.length + 1 + skipM false y
 | [], m, h, hm => by
  cases m with
  | true => exact absurd rfl (hm rfl)
  | false =>
   have e : isSp 32 = true := by decide
   simp only [List.nil_append, skipM, List.length_nil]
   rw [if_neg (by rintro ⟨h, _⟩; revert h; decide), if_pos e]
 | b :: x, true, h, _ => by
  simp only [List.cons_append, skipM, List.length_cons] at h ⊢
  split at h
  · rename_i hb
    rw [if_pos hb]
    by_cases hx : x = []
    · subst hx
      simp only [List.nil_append, skipM, List.length_nil] at h
      rw [if_pos (by rcases hc with rfl | rfl <;> decide)] at h
      omega
    rw [skip_eq hc y x true (by omega) (fun _ => hx)]; omega
  rename_i hb
  rw [if_neg hb, skip_eq hc y x false (by omega) (fun e => by cases e)]; omega
 | b :: x, false, h, _ => by
  have hh : (x ++ c :: y).head? = some 45 ↔ (x ++ 32 :: y).head? = some 45 := by
   cases x with
   | nil => rcases hc with rfl | rfl <;> simp
   | cons a x => simp
  simp only [List.cons_append, skipM, List.length_cons] at h ⊢
  by_cases q : b.toNat = 45 ∧ (x ++ c :: y).head? = some 45
  · rw [if_pos q] at h
    rw [if_pos ⟨q.1, hh.1 q.2⟩]
    have hx : x ≠ [] := by
     rintro rfl
     have := q.2
     rcases hc with rfl | rfl <;> simp at this
    rw [skip_eq hc y x true (by omega) (fun _ => hx)]; omega
  rw [if_neg q] at h
  rw [if_neg (fun z => q ⟨z.1, hh.2 z.2⟩)]
  by_cases q2 : isSp b = true
  · rw [if_pos q2] at h
    rw [if_pos q2, skip_eq hc y x false (by omega) (fun e => by cases e)]; omega
  rw [if_neg q2] at h
  omega
theorem lexS_at {c : UInt8} (hc : c = 40 ∨ c = 41) (y : Bs) (x : Bs) (pos : Nat) (ts : List Tok) (hk : skipN (x ++ c :: y) = x.length) (h : lexS pos (x ++ c :: y) = .ok ts) :
   lexS pos (x ++ 32 :: y) = .ok (ts.filter fun t => decide (t.pos ≠ pos + x.length)) := by
 have hk' : skipN (x ++ 32 :: y) = x.length + 1 + skipN y := skip_eq hc y x false hk (fun e => by cases e)
 have ho : oneT (c :: y) = .ok (51, [c], 1) := by
  unfold oneT
  have ht : ∀ b, hasB twos [c, b] = false := by intro b; rcases hc with rfl | rfl <;> simp [hasB, twos]
  have h2 : ¬ (2 ≤ (c :: y).length ∧ hasB twos ((c :: y).take 2) = true) := by
   rintro ⟨_, q⟩
   cases y with
   | nil => simp at *
   | cons b y => rw [show (c :: b :: y).take 2 = [c, b] from rfl, ht b] at q; cases q
  simp only
  rw [if_neg (by rcases hc with rfl | rfl <;> decide), if_neg (by rcases hc with rfl | rfl <;> decide), if_neg (by rcases hc with rfl | rfl <;> decide), if_neg h2, if_pos (by rcases hc with rfl | rfl <;> simp [hasB, ones])]
  rfl
 unfold lexS at h
 rw [hk, List.drop_left, lexM_tok ho] at h
 cases hr : lexS (pos + x.length + 1) ((c :: y).drop 1) with
 | error e => rw [hr] at h; cases h
 | ok r =>
  rw [hr] at h
  simp only [Except.ok.injEq] at h
  subst h
  have hp := (lexS_pos _ _ _ _ (nlr _) hr).1
  have hf : r.filter (fun t => decide (t.pos ≠ pos + x.length)) = r := List.filter_eq_self.2 fun t ht => by
   have := hp t ht
   simp
   omega
  simp only [List.filter_cons]
  rw [if_neg (by simp), hf, ← hr]
  unfold lexS
  rw [hk']
  have e : (x ++ 32 :: y).drop (x.length + 1 + skipN y) = y.drop (skipN y) := by
   rw [← List.drop_drop, ← List.drop_drop, List.drop_left]
   rfl
  rw [e]
  show lexM 0 _ _ = lexM 0 (pos + x.length + 1 + skipN y) (y.drop (skipN y))
  congr 1
  omega
theorem lexS_rep {c : UInt8} (hc : c = 40 ∨ c = 41) (y : Bs) : ∀ (m : Nat) (x : Bs) (pos : Nat) (ts : List Tok), x.length ≤ m → lexS pos (x ++ c :: y) = .ok ts → (∃ t ∈ ts, t.pos = pos + x.length) →
   lexS pos (x ++ 32 :: y) = .ok (ts.filter fun t => decide (t.pos ≠ pos + x.length)) := by
 have gc : Gap c := by rcases hc with h | h <;> simp [Gap, h]
 have gd : Gap 32 := by simp [Gap]
 intro m
 induction m with
 | zero =>
  intro x pos ts hm h ht
  have : x = [] := List.length_eq_zero_iff.1 (by omega)
  subst this
  exact lexS_at hc y [] pos ts (by simp only [List.nil_append, skipN, skipM]; rw [if_neg (by rintro ⟨q, _⟩; exact gc.facts.2.2.2.2.1 q), if_neg (by rcases hc with rfl | rfl <;> decide)]; rfl) h
 | succ m ih =>
  intro x pos ts hm h ht
  obtain ⟨u, hu, hup⟩ := ht
  have hpos := (lexS_pos _ _ _ _ (nlr _) h).1 u hu
  rcases Nat.lt_trichotomy (skipN (x ++ c :: y)) x.length with hk | hk | hk
  · have hk' : skipN (x ++ 32 :: y) = skipN (x ++ c :: y) := skip_lt gc gd y x false hk
    unfold lexS at h ⊢
    rw [hk']
    generalize skipN (x ++ c :: y) = k at *
    rw [List.drop_append_of_le_length (by omega)] at h ⊢
    rcases lexM_cut h with ⟨h1, h2⟩ | ⟨kd, t, n, r, h1, h2, rfl⟩
    · simp at h1
    have hne : x.drop k ≠ [] := by
     intro e
     have := congrArg List.length e
     simp at this
     omega
    have hur : u ∈ r := by
     rcases List.mem_cons.1 hu with rfl | hu
     · simp only at hup; omega
     exact hu
    have hn : n ≤ (x.drop k).length := by
     have := (lexS_pos _ _ _ _ (nlr _) h2).1 u hur
     simp only [List.length_drop]
     omega
    have hn' : n ≤ x.length - k := by simpa using hn
    obtain ⟨n1, _, _⟩ := oneT_len h1
    rw [List.drop_append_of_le_length hn, List.drop_drop] at h2
    have e0 : pos + k + n + (x.drop (k + n)).length = pos + x.length := by simp only [List.length_drop]; omega
    have i := ih (x.drop (k + n)) (pos + k + n) r (by simp only [List.length_drop]; omega) h2 ⟨u, hur, by omega⟩
    rw [e0] at i
    have h1' := one_rep hne gc gd h1 hn
    cases hx : x.drop k with
    | nil => exact absurd hx hne
    | cons b z =>
     rw [hx] at h1'
     rw [List.cons_append] at h1' ⊢
     rw [lexM_tok h1', ← List.cons_append, ← hx, List.drop_append_of_le_length hn, List.drop_drop, i]
     simp only [List.filter_cons]
     rw [if_pos (by simp; omega)]
  · exact lexS_at hc y x pos ts hk h
  omega
theorem lex_rep {c : UInt8} (hc : c = 40 ∨ c = 41) (x y : Bs) {ts : List Tok} (h : lex (x ++ c :: y) = .ok ts) (ht : ∃ t ∈ ts, t.pos = x.length) :
   lex (x ++ 32 :: y) = .ok (ts.filter fun t => decide (t.pos ≠ x.length)) := by
 unfold lex at h ⊢
 split at h
 · cases h
 rename_i hl
 rw [if_neg (by simpa using hl)]
 have := lexS_rep hc y x.length x 0 ts (nlr _) (by unfold lexS; rw [Nat.zero_add]; exact h) (by simpa using ht)
 unfold lexS at this
 rw [Nat.zero_add, Nat.zero_add] at this
 exact this
theorem lex_pos {l : Bs} {ts : List Tok} (h : lex l = .ok ts) : (∀ t ∈ ts, t.pos < l.length) ∧ ts.Pairwise (fun a b => a.pos < b.pos) ∧ ∀ t ∈ ts, ∃ n, oneT (l.drop t.pos) = .ok (t.kind, t.text, n) := by
 unfold lex at h
 split at h
 · cases h
 obtain ⟨h1, h2, h3⟩ := lexS_pos _ _ 0 _ (nlr _) (by unfold lexS; rw [Nat.zero_add]; exact h)
 exact ⟨fun t ht => by have := h1 t ht; omega, h2, fun t ht => by simpa using h3 t ht⟩
theorem sign_at {l : Bs} {c : UInt8} {n : Nat} (h : oneT l = .ok (51, [c], n)) : ∃ r, l = c :: r := by
 cases l with
 | nil => simp [oneT] at h
 | cons b r =>
  refine ⟨r, ?_⟩
  unfold oneT at h
  simp only at h
  split at h
  · split at h <;> simp at h
  split at h
  · split at h
    · cases h
    split at h <;> simp at h
  split at h
  · split at h
    · cases h
    split at h
    · cases h
    simp only [Except.ok.injEq, Prod.mk.injEq] at h
    have := h.1
    split at this <;> omega
  split at h
  · rename_i q
    simp only [Except.ok.injEq, Prod.mk.injEq] at h
    have q0 := congrArg List.length h.2.1
    have q1 := q.1
    simp only [List.length_take, List.length_cons, List.length_nil] at q0 q1
    omega
  split at h
  · simp only [Except.ok.injEq, Prod.mk.injEq, List.take_succ_cons, List.take_zero, List.cons.injEq, and_true] at h
    rw [h.2.1]
  cases h
end Lx
namespace Px
open Lx (Bs Tok)
theorem obt_filter (q : Tok → Bool) : ∀ (ts : List Tok), obt (ts.filter q) ≤ obt ts
 | [] => nlr _
 | t :: ts => by
  have := obt_filter q ts
  simp only [List.filter_cons]
  split <;> simp only [obt] <;> omega
theorem obt_strike (q : Tok → Bool) : ∀ (ts : List Tok) (t : Tok), t ∈ ts → q t = false → obt (ts.filter q) + ob t ≤ obt ts
 | u :: ts, t, h, hq => by
  rcases List.mem_cons.1 h with rfl | h
  · have := obt_filter q ts
    simp only [List.filter_cons, hq, obt]
    simp only [Bool.false_eq_true, if_false]
    omega
  have := obt_strike q ts t h hq
  simp only [List.filter_cons]
  split <;> simp only [obt] <;> omega
theorem needed {x y z : Bs} {ts : List Tok} {st st' : St} (hl : Lx.lex (x ++ 40 :: (y ++ 41 :: z)) = .ok ts) (h0 : obt ts = bro st.pt)
   (hi : ∃ t ∈ ts, t.kind = 51 ∧ t.text = [40] ∧ t.pos = x.length) (hk : ∃ t ∈ ts, t.pos = x.length + 1 + y.length) (h : ParseR (x ++ 32 :: (y ++ 32 :: z)) (.ok st')) : st' ≠ st := by
 rintro rfl
 have l1 := Lx.lex_rep (.inl rfl) x (y ++ 41 :: z) hl (by obtain ⟨t, h1, _, _, h2⟩ := hi; exact ⟨t, h1, h2⟩)
 have e1 : x ++ 32 :: (y ++ 41 :: z) = (x ++ 32 :: y) ++ 41 :: z := by simp
 have e2 : x ++ 32 :: (y ++ 32 :: z) = (x ++ 32 :: y) ++ 32 :: z := by simp
 rw [e1] at l1
 have l2 := Lx.lex_rep (.inr rfl) (x ++ 32 :: y) z l1 (by
  obtain ⟨t, h1, h2⟩ := hk
  refine ⟨t, List.mem_filter.2 ⟨h1, ?_⟩, ?_⟩
  · simp; omega
  simp; omega)
 rw [e2] at h
 have := parse_ob h l2
 have f1 := obt_filter (fun t => decide (t.pos ≠ (x ++ 32 :: y).length)) (ts.filter fun t => decide (t.pos ≠ x.length))
 obtain ⟨t, h1, h2, h3, h4⟩ := hi
 have f2 := obt_strike (fun t => decide (t.pos ≠ x.length)) ts t h1 (by simp [h4])
 have f3 : ob t = 1 := by unfold ob; rw [if_pos ⟨.inr h2, h3⟩]
 omega
end Px
end
namespace Kl
structure TkIs (w : World) (ao : Option Addr) (ts : List Lx.Tok) : Prop where
 cells : ∀ k, (hk : k < ts.length) → ∃ g, ao = some ⟨g, 0, none⟩ ∧ g < w.heap.size ∧ w.cell? ⟨g, k * 3, none⟩ = some (.int .i64 (ts[k].kind : Int)) ∧ w.cell? ⟨g, k * 3 + 1, none⟩ = some (.string ⟨ts[k].text.toArray⟩) ∧ w.cell? ⟨g, k * 3 + 2, none⟩ = some (.int .i64 (ts[k].pos : Int))
theorem TkIs.below {w w' : World} {ao : Option Addr} {ts : List Lx.Tok} (h : TkIs w ao ts) (hb : Below w.heap.size w w') : TkIs w' ao ts :=
 ⟨fun k hk => by
  obtain ⟨g, h1, h2, h3, h4, h5⟩ := h.cells k hk
  refine ⟨g, h1, Nat.lt_of_lt_of_le h2 hb.size, ?_, ?_, ?_⟩
  · rw [hb.cell (p := ⟨g, k * 3, none⟩) h2]; exact h3
  · rw [hb.cell (p := ⟨g, k * 3 + 1, none⟩) h2]; exact h4
  rw [hb.cell (p := ⟨g, k * 3 + 2, none⟩) h2]; exact h5⟩
theorem outer_any (ao : Option Addr) (cap : Nat) (ts : List Lx.Tok) (i : Nat) (K : Int) (hK : K = (i : Int)) (w : World) (hn : ts.length ≤ 100000) (hi : i ≤ ts.length) (h : TkIs w ao ts) :
   Calls Tryz.prog 35 #[.slice ao ts.length cap, .int .i64 K] w fun e w' => ∃ q, e = .returned (.bool q) ∧ Below w.heap.size w w' := by
 subst hK
 have HT := hd h
 clear h
 go_enter Tryz.func35, Tryz.ntmps35
 go_wp2
 go_loopw [5, 6] (fun s j wr => ∃ (k : Nat) (dp : Int), k ≤ i ∧ j = .int .i64 k ∧ s = .int .i64 dp ∧ -(k : Int) ≤ dp ∧ dp ≤ k ∧ Hid (Below w.heap.size w wr)) (fun _ j _ => i - (intOf j).toNat)
 case atStart => exact ⟨0, 0, by omega, rfl, rfl, by omega, by omega, Below.refl _ _⟩
 case round =>
  obtain ⟨k, dp, hk, rfl, rfl, hd1, hd2, HW⟩ := hrel
  by_cases hlt : k < i
  · obtain ⟨g, rfl, _, p0, p1, p2⟩ := (HT.out.below HW.out).cells k (by omega)
    generalize ts[k] = t at *
    obtain ⟨tk, tt, tp⟩ := t
    simp only at p0 p1 p2
    have z1 : (0 : Int) ≤ (k : Int) := by omega
    go_wp2
    all_goals
     go_roundw
     case rel => exact ⟨k + 1, _, by omega, by go_num, rfl, by omega, by omega, HW⟩
     case measure => simp [intOf]; omega
  go_wp2
  go_ret
  exact ⟨_, rfl, HW.out⟩
end Kl
end Go.Proofs.YtkcakbgcfnhgaaaGreatDoor
