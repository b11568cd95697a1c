/- Parts of the proof: My Kd Ke Pn -/
import Derived.Test.YtkcakbgcfnhgaaaGreatDoorX15
import Derived.Test.YtkcakbgcfnhgaaaGreatDoorX14
import Derived.ProofKit
import Derived.OpenShut
import Derived.SliceStrings
import Derived.ChangeSlices
import Derived.ChangeSame
import Derived.WideShapes
namespace Go.Proofs.YtkcakbgcfnhgaaaGreatDoor
set_option linter.unusedSimpArgs false
set_option linter.unusedVariables false
set_option maxRecDepth 100000
set_option maxHeartbeats 16000000
open Go.RowKit
section
namespace Mk
variable {w : World} {b n c m d : Nat} {ao bo : Option Addr} {l : List Px.Nd}
theorem At.own {v : Value} (h : At w b ao n c bo m d l) (hc : w.cell? ⟨b, 4, none⟩ = some v) : w.ownsRow (b + 1) 43 4 v l.length (ndsV l) := by
 obtain ⟨i, j, lv, _, _, hblk, hown⟩ := h.rows
 have : lv = v := Option.some.inj ((hblk.cell 4).symm.trans hc)
 rw [← this]
 exact hown
theorem Pln.mono {w w' : World} {b b' : Nat} (h : Pln w b ao n bo m) (hb : b ≤ b') (hc : ∀ g off v, g < b → w.cell? ⟨g, off, none⟩ = some v → w'.cell? ⟨g, off, none⟩ = some v) : Pln w' b' ao n bo m := by
 refine ⟨h.few, h.few2, fun i hi => ?_, fun i hi => ?_⟩
 · obtain ⟨g, off, z, h1, h2, h3, h4⟩ := h.nums i hi
   exact ⟨g, off, z, h1, by omega, hc _ _ _ h2 h3, h4⟩
 · obtain ⟨g, off, z, h1, h2, h3, h4⟩ := h.txts i hi
   exact ⟨g, off, z, h1, by omega, hc _ _ _ h2 h3, h4⟩
theorem At.start (h : Pln w w.heap.size ao n bo m) (c d : Nat) (T : TypeId) (cs : Array Value) :
   At ((w.alloc (.cells cs T)).alloc (.cells #[.slice ao n c, .slice bo m d, .int .i64 0, .int .i64 0, .slice none 0 0] 50)) (w.heap.size + 1) ao n c bo m d [] := by
 have hb : Below w.heap.size w ((w.alloc (.cells cs T)).alloc (.cells #[.slice ao n c, .slice bo m d, .int .i64 0, .int .i64 0, .slice none 0 0] 50)) := by go_grown
 refine ⟨h.mono (by omega) (fun g off v hg hc => by rw [hb.cell (p := ⟨g, off, none⟩) hg]; exact hc), 0, 0, .slice none 0 0, by omega, by omega, ?_, World.ownsRow_nil _ _ _ _⟩
 have := Blk.new (w.alloc (.cells cs T)) #[.slice ao n c, .slice bo m d, .int .i64 0, .int .i64 0, .slice none 0 0] 50
 simpa using this
def BOut (w : World) (x : Ending) (w' : World) : Prop := ∃ (st : Px.St) (v : Value), Px.Sok st ∧ x = .returned v ∧ w'.ownsRow w.heap.size 43 4 v st.nodes.length (ndsV st.nodes) ∧ Below w.heap.size w w'
theorem BOut.mk {w W w' : World} {v : Value} (st : Px.St) (hs : Px.Sok st) (hb : Below w.heap.size w W) (h : At w' (w.heap.size + 1) ao n c bo m d st.nodes) (hk : Kp W w' (w.heap.size + 1)) (hc : w'.cell? ⟨w.heap.size + 1, 4, none⟩ = some v) : BOut w (.returned v) w' := by
 refine ⟨st, v, hs, rfl, ?_, ?_⟩
 · have := h.own hc
   exact ⟨this.1, by
    rcases this.2 with hn | ⟨g, cap, cur, e, hg, r⟩
    · exact .inl hn
    · exact .inr ⟨g, cap, cur, e, by omega, r⟩⟩
 · refine ⟨hk.os.trans hb.os, hk.tape.trans hb.tape, hk.output.trans hb.output, Nat.le_trans hb.size hk.size, fun k hk' => ?_⟩
   have hlt : k < W.heap.size := Nat.lt_of_lt_of_le hk' hb.size
   rw [← hb.block k hk', Array.getElem?_eq_getElem hlt]
   exact hk.block k _ (Array.getElem?_eq_getElem hlt) (.inl (by omega))
theorem kBuild_any (h : Pln w w.heap.size ao n bo m) : Calls Tryz.prog 8 #[.agg #[.slice ao n c, .slice bo m d]] w (BOut w) := by
 have HS := hd (At.start h c d 27 #[.slice ao n c, .slice bo m d])
 have HB0 : Hid (Below w.heap.size w ((w.alloc (.cells #[.slice ao n c, .slice bo m d] 27)).alloc (.cells #[.slice ao n c, .slice bo m d, .int .i64 0, .int .i64 0, .slice none 0 0] 50))) := by show Below _ _ _; go_grown
 have HW2 : Hid (((w.alloc (.cells #[.slice ao n c, .slice bo m d] 27)).alloc (.cells #[.slice ao n c, .slice bo m d, .int .i64 0, .int .i64 0, .slice none 0 0] 50)).heap.size = w.heap.size + 1 + 1) := by show _ = _; simp
 have hws : w.heap.size + 1 < ((w.alloc (.cells #[.slice ao n c, .slice bo m d] 27)).alloc (.cells #[.slice ao n c, .slice bo m d, .int .i64 0, .int .i64 0, .slice none 0 0] 50)).heap.size := by simp
 clear h
 go_enter Tryz.func8, Tryz.ntmps8
 go_wp2_with fail
 generalize (w.alloc (.cells #[.slice ao n c, .slice bo m d] 27)).alloc (.cells #[.slice ao n c, .slice bo m d, .int .i64 0, .int .i64 0, .slice none 0 0] 50) = W at *
 refine (mOne_any (HS.out.alloc _) 6 (by omega) (by omega)).mono ?_
 rintro x w1 ⟨r, hr, rfl, ho⟩
 have hkinds : ∀ j v, #[Value.int .i64 9, .int .i64 1, .int .i64 3, .int .i64 4, .int .i64 6, .int .i64 7][j]? = some v → w1.cell? ⟨w.heap.size + 1 + 1, j, none⟩ = some v := by
  intro j v hj
  rw [← HW2.out]
  have hb := ho.2.blk (Blk.new W #[.int .i64 9, .int .i64 1, .int .i64 3, .int .i64 4, .int .i64 6, .int .i64 7] 3) (by omega) (by decide)
  rw [hb.cell j]
  exact hj
 have HO : Hid (Out W (w.heap.size + 1) ao n c bo m d [] w1) := ⟨ho.1, ((Kp.refl W _).alloc _).trans ho.2⟩
 clear ho
 have hr6 : r = 0 ∨ r = 1 ∨ r = 2 ∨ r = 3 ∨ r = 4 ∨ r = 5 := by omega
 rcases hr6 with rfl | rfl | rfl | rfl | rfl | rfl
 · have hkd := hkinds 0 _ rfl
   clear hkinds
   go_wp2_with fail
   refine (mName_any HO.out.1).mono ?_
   rintro x w2 ⟨t, rfl, ht, ho⟩
   have HT := hd ht
   have HO2 := hd (HO.out.trans ho)
   clear ho ht
   go_wp2_with fail
   refine (mAdd_any HO2.out.1 (by simp) 9 t 0 0).mono ?_
   rintro x w3 ⟨rfl, ho⟩
   have HO3 := hd (HO2.out.trans ho)
   clear ho
   go_wp2_with fail
   refine (mChoose_any HO3.out.1 (by simp)).mono ?_
   rintro x w4 ⟨i, o, r, lm, hch, rfl, ho⟩
   have HO4 := hd (HO3.out.trans ho)
   have HC := hd hch
   clear hch
   generalize hkk : (i.length + Px.one? o + r.length + Px.one? lm : Nat) = kk at *
   have HKK := hd hkk
   clear hkk
   clear ho
   obtain ⟨g, cp, d4, hg, hbg, hcells, hfr, hput⟩ := HO4.out.1.node (by simp)
   have HPUT := hd hput
   have y3 := (hcells 0 (by simp)).2
   have f3 := hfr 3
   have hlp : 0 < ([] ++ [(⟨9, t.data.toList, 0, 0⟩ : Px.Nd)] ++ (chN i o r lm)).length := by simp
   simp only [Nat.zero_mul, Nat.zero_add] at y3
   generalize (([] ++ [(⟨9, t.data.toList, 0, 0⟩ : Px.Nd)] ++ (chN i o r lm))[0]'(by simp)).kids = y9 at y3
   clear hcells hput hfr
   generalize hLN : ([] ++ [(⟨9, t.data.toList, 0, 0⟩ : Px.Nd)] ++ (chN i o r lm)).length = LN at *
   have HLN := hd hLN
   clear hLN
   have hgb : ¬ g = w.heap.size + 1 := by omega
   have hgb' : ¬ w.heap.size + 1 = g := by omega
   go_wp2_with fail
   go_ret
   obtain ⟨p1, p2⟩ := HPUT.out [] (chN i o r lm) ⟨9, t.data.toList, 0, 0⟩ ⟨9, t.data.toList, 0, (kk : Int)⟩ 3 (.int .i64 ((kk : Int))) (by simp) rfl (by omega)
   refine BOut.mk (.select i t.data.toList o r lm) (Px.select_ok HT.out HC.out.ne HC.out.few HC.out.items HC.out.wh HC.out.few2 HC.out.orders HC.out.lim) HB0.out (by
    have e : (Px.St.select i t.data.toList o r lm).nodes = [] ++ ⟨9, t.data.toList, 0, (kk : Int)⟩ :: chN i o r lm := by
     simp only [Px.St.nodes, chN, List.nil_append, ← HKK.out]
     congr 2
    rw [e]; exact p1) (HO4.out.2.trans p2) ?_
   rw [World.cell?_setCell_other _ _ _ _ (by intro e; simp only [Addr.mk.injEq] at e; omega)]
   exact d4
 · have hkd := hkinds 1 _ rfl
   clear hkinds
   go_wp2_with fail
   refine (mName_any HO.out.1).mono ?_
   rintro x w2 ⟨t, rfl, ht, ho⟩
   have HT := hd ht
   have HO2 := hd (HO.out.trans ho)
   clear ho ht
   go_wp2_with fail
   refine (mAdd_any HO2.out.1 (by simp) 1 t 0 0).mono ?_
   rintro x w3 ⟨rfl, ho⟩
   have HO3 := hd (HO2.out.trans ho)
   clear ho
   go_wp2_with fail
   refine (mColumns_any HO3.out.1 (by simp)).mono ?_
   rintro x w4 ⟨cs, hc1, hc2, hck, rfl, ho⟩
   have HO4 := hd (HO3.out.trans ho)
   have HC := hd hck
   have HCL : Hid (1 ≤ cs.length ∧ cs.length ≤ 6) := ⟨hc1, hc2⟩
   clear hck hc1 hc2
   generalize hkk : (cs.length : Nat) = kk at *
   have HKK := hd hkk
   clear hkk
   clear ho
   obtain ⟨g, cp, d4, hg, hbg, hcells, hfr, hput⟩ := HO4.out.1.node (by simp)
   have HPUT := hd hput
   have y3 := (hcells 0 (by simp)).2
   have f3 := hfr 3
   have hlp : 0 < ([] ++ [(⟨1, t.data.toList, 0, 0⟩ : Px.Nd)] ++ (cs.map Px.colN)).length := by simp
   simp only [Nat.zero_mul, Nat.zero_add] at y3
   generalize (([] ++ [(⟨1, t.data.toList, 0, 0⟩ : Px.Nd)] ++ (cs.map Px.colN))[0]'(by simp)).kids = y9 at y3
   clear hcells hput hfr
   generalize hLN : ([] ++ [(⟨1, t.data.toList, 0, 0⟩ : Px.Nd)] ++ (cs.map Px.colN)).length = LN at *
   have HLN := hd hLN
   clear hLN
   have hgb : ¬ g = w.heap.size + 1 := by omega
   have hgb' : ¬ w.heap.size + 1 = g := by omega
   go_wp2_with fail
   go_ret
   obtain ⟨p1, p2⟩ := HPUT.out [] (cs.map Px.colN) ⟨1, t.data.toList, 0, 0⟩ ⟨1, t.data.toList, 0, (kk : Int)⟩ 3 (.int .i64 ((kk : Int))) (by simp) rfl (by omega)
   refine BOut.mk (.create t.data.toList cs) (Px.create_ok HT.out (by rw [HKK.out]; exact HCL.out.1) (by rw [HKK.out]; exact HCL.out.2) HC.out) HB0.out (by
    have e : (Px.St.create t.data.toList cs).nodes = [] ++ ⟨1, t.data.toList, 0, (kk : Int)⟩ :: cs.map Px.colN := by
     simp only [Px.St.nodes, List.nil_append, ← HKK.out]
    rw [e]; exact p1) (HO4.out.2.trans p2) ?_
   rw [World.cell?_setCell_other _ _ _ _ (by intro e; simp only [Addr.mk.injEq] at e; omega)]
   exact d4
 · have hkd := hkinds 2 _ rfl
   clear hkinds
   go_wp2_with fail
   refine (mName_any HO.out.1).mono ?_
   rintro x w2 ⟨t, rfl, ht, ho⟩
   have HT := hd ht
   have HO2 := hd (HO.out.trans ho)
   clear ho ht
   go_wp2_with fail
   refine (mAdd_any HO2.out.1 (by simp) 3 t 0 0).mono ?_
   rintro x w3 ⟨rfl, ho⟩
   have HO3 := hd (HO2.out.trans ho)
   clear ho
   obtain ⟨g, cp, d4, hg, hbg, hcells, hfr, hput⟩ := HO3.out.1.node (by simp)
   have HPUT := hd hput
   have y3 := (hcells 0 (by simp)).2
   have f3 := hfr 3
   have hlp : 0 < ([] ++ [(⟨3, t.data.toList, 0, 0⟩ : Px.Nd)]).length := by simp
   simp only [Nat.zero_mul, Nat.zero_add] at y3
   generalize (([] ++ [(⟨3, t.data.toList, 0, 0⟩ : Px.Nd)])[0]'(by simp)).kids = y9 at y3
   clear hcells hput hfr
   generalize hLN : ([] ++ [(⟨3, t.data.toList, 0, 0⟩ : Px.Nd)]).length = LN at *
   have HLN := hd hLN
   clear hLN
   have hgb : ¬ g = w.heap.size + 1 := by omega
   have hgb' : ¬ w.heap.size + 1 = g := by omega
   go_wp2_with fail
   go_ret
   obtain ⟨p1, p2⟩ := HPUT.out [] [] ⟨3, t.data.toList, 0, 0⟩ ⟨3, t.data.toList, 0, 0⟩ 3 (.int .i64 (0)) (by simp) rfl (by omega)
   refine BOut.mk (.drop t.data.toList) (Px.drop_ok HT.out) HB0.out p1 (HO3.out.2.trans p2) ?_
   rw [World.cell?_setCell_other _ _ _ _ (by intro e; simp only [Addr.mk.injEq] at e; omega)]
   exact d4
 · have hkd := hkinds 3 _ rfl
   clear hkinds
   go_wp2_with fail
   refine (mName_any HO.out.1).mono ?_
   rintro x w2 ⟨t, rfl, ht, ho⟩
   have HT := hd ht
   have HO2 := hd (HO.out.trans ho)
   clear ho ht
   go_wp2_with fail
   refine (mAdd_any HO2.out.1 (by simp) 4 t 0 0).mono ?_
   rintro x w3 ⟨rfl, ho⟩
   have HO3 := hd (HO2.out.trans ho)
   clear ho
   go_wp2_with fail
   refine (mRows_any HO3.out.1 (by simp)).mono ?_
   rintro x w4 ⟨rs, hc1, hc2, hck, rfl, ho⟩
   have HO4 := hd (HO3.out.trans ho)
   have HC := hd hck
   have HCL : Hid (rs ≠ [] ∧ rs.length ≤ 2) := ⟨hc1, hc2⟩
   clear hck hc1 hc2
   generalize hkk : (rs.length : Nat) = kk at *
   have HKK := hd hkk
   clear hkk
   clear ho
   obtain ⟨g, cp, d4, hg, hbg, hcells, hfr, hput⟩ := HO4.out.1.node (by simp)
   have HPUT := hd hput
   have y3 := (hcells 0 (by simp)).2
   have f3 := hfr 3
   have hlp : 0 < ([] ++ [(⟨4, t.data.toList, 0, 0⟩ : Px.Nd)] ++ (rs.flatMap Px.rowN)).length := by simp
   simp only [Nat.zero_mul, Nat.zero_add] at y3
   generalize (([] ++ [(⟨4, t.data.toList, 0, 0⟩ : Px.Nd)] ++ (rs.flatMap Px.rowN))[0]'(by simp)).kids = y9 at y3
   clear hcells hput hfr
   generalize hLN : ([] ++ [(⟨4, t.data.toList, 0, 0⟩ : Px.Nd)] ++ (rs.flatMap Px.rowN)).length = LN at *
   have HLN := hd hLN
   clear hLN
   have hgb : ¬ g = w.heap.size + 1 := by omega
   have hgb' : ¬ w.heap.size + 1 = g := by omega
   go_wp2_with fail
   go_ret
   obtain ⟨p1, p2⟩ := HPUT.out [] (rs.flatMap Px.rowN) ⟨4, t.data.toList, 0, 0⟩ ⟨4, t.data.toList, 0, (kk : Int)⟩ 3 (.int .i64 ((kk : Int))) (by simp) rfl (by omega)
   refine BOut.mk (.insert t.data.toList rs) (Px.insert_ok HT.out HCL.out.1 (by rw [HKK.out]; exact HCL.out.2) HC.out) HB0.out (by
    have e : (Px.St.insert t.data.toList rs).nodes = [] ++ ⟨4, t.data.toList, 0, (kk : Int)⟩ :: rs.flatMap Px.rowN := by
     simp only [Px.St.nodes, List.nil_append, ← HKK.out]
    rw [e]; exact p1) (HO4.out.2.trans p2) ?_
   rw [World.cell?_setCell_other _ _ _ _ (by intro e; simp only [Addr.mk.injEq] at e; omega)]
   exact d4
 · have hkd := hkinds 4 _ rfl
   clear hkinds
   go_wp2_with fail
   refine (mName_any HO.out.1).mono ?_
   rintro x w2 ⟨t, rfl, ht, ho⟩
   have HT := hd ht
   have HO2 := hd (HO.out.trans ho)
   clear ho ht
   go_wp2_with fail
   refine (mAdd_any HO2.out.1 (by simp) 6 t 0 0).mono ?_
   rintro x w3 ⟨rfl, ho⟩
   have HO3 := hd (HO2.out.trans ho)
   clear ho
   go_wp2_with fail
   refine (mWhere_any HO3.out.1 (by simp)).mono ?_
   rintro x w4 ⟨o, hck, rfl, ho⟩
   have HO4 := hd (HO3.out.trans ho)
   have HC := hd hck
   clear hck
   generalize hkk : Px.one? o = kk at *
   have HKK := hd hkk
   clear hkk
   clear ho
   obtain ⟨g, cp, d4, hg, hbg, hcells, hfr, hput⟩ := HO4.out.1.node (by simp)
   have HPUT := hd hput
   have y3 := (hcells 0 (by simp)).2
   have f3 := hfr 3
   have hlp : 0 < ([] ++ [(⟨6, t.data.toList, 0, 0⟩ : Px.Nd)] ++ (Px.whereN o)).length := by simp
   simp only [Nat.zero_mul, Nat.zero_add] at y3
   generalize (([] ++ [(⟨6, t.data.toList, 0, 0⟩ : Px.Nd)] ++ (Px.whereN o))[0]'(by simp)).kids = y9 at y3
   clear hcells hput hfr
   generalize hLN : ([] ++ [(⟨6, t.data.toList, 0, 0⟩ : Px.Nd)] ++ (Px.whereN o)).length = LN at *
   have HLN := hd hLN
   clear hLN
   have hgb : ¬ g = w.heap.size + 1 := by omega
   have hgb' : ¬ w.heap.size + 1 = g := by omega
   go_wp2_with fail
   go_ret
   obtain ⟨p1, p2⟩ := HPUT.out [] (Px.whereN o) ⟨6, t.data.toList, 0, 0⟩ ⟨6, t.data.toList, 0, (kk : Int)⟩ 3 (.int .i64 ((kk : Int))) (by simp) rfl (by omega)
   refine BOut.mk (.delete t.data.toList o) (Px.delete_ok HT.out HC.out) HB0.out (by
    have e : (Px.St.delete t.data.toList o).nodes = [] ++ ⟨6, t.data.toList, 0, (kk : Int)⟩ :: Px.whereN o := by
     simp only [Px.St.nodes, List.nil_append, ← HKK.out]
    rw [e]; exact p1) (HO4.out.2.trans p2) ?_
   rw [World.cell?_setCell_other _ _ _ _ (by intro e; simp only [Addr.mk.injEq] at e; omega)]
   exact d4
 · have hkd := hkinds 5 _ rfl
   clear hkinds
   go_wp2_with fail
   refine (mName_any HO.out.1).mono ?_
   rintro x w2 ⟨t, rfl, ht, ho⟩
   have HT := hd ht
   have HO2 := hd (HO.out.trans ho)
   clear ho ht
   go_wp2_with fail
   refine (mAdd_any HO2.out.1 (by simp) 7 t 0 0).mono ?_
   rintro x w3 ⟨rfl, ho⟩
   have HO3 := hd (HO2.out.trans ho)
   clear ho
   go_wp2_with fail
   refine (mSets_any HO3.out.1 (by simp)).mono ?_
   rintro x w4 ⟨ss, o, hc1, hc2, hck, hwk, rfl, ho⟩
   have HO4 := hd (HO3.out.trans ho)
   have HC := hd hck
   have HWK := hd hwk
   have HCL : Hid (ss ≠ [] ∧ ss.length ≤ 2) := ⟨hc1, hc2⟩
   clear hck hc1 hc2 hwk
   generalize hkk : (ss.length + Px.one? o : Nat) = kk at *
   have HKK := hd hkk
   clear hkk
   clear ho
   obtain ⟨g, cp, d4, hg, hbg, hcells, hfr, hput⟩ := HO4.out.1.node (by simp)
   have HPUT := hd hput
   have y3 := (hcells 0 (by simp)).2
   have f3 := hfr 3
   have hlp : 0 < ([] ++ [(⟨7, t.data.toList, 0, 0⟩ : Px.Nd)] ++ (ss.flatMap Px.setN ++ Px.whereN o)).length := by simp
   simp only [Nat.zero_mul, Nat.zero_add] at y3
   generalize (([] ++ [(⟨7, t.data.toList, 0, 0⟩ : Px.Nd)] ++ (ss.flatMap Px.setN ++ Px.whereN o))[0]'(by simp)).kids = y9 at y3
   clear hcells hput hfr
   generalize hLN : ([] ++ [(⟨7, t.data.toList, 0, 0⟩ : Px.Nd)] ++ (ss.flatMap Px.setN ++ Px.whereN o)).length = LN at *
   have HLN := hd hLN
   clear hLN
   have hgb : ¬ g = w.heap.size + 1 := by omega
   have hgb' : ¬ w.heap.size + 1 = g := by omega
   go_wp2_with fail
   go_ret
   obtain ⟨p1, p2⟩ := HPUT.out [] (ss.flatMap Px.setN ++ Px.whereN o) ⟨7, t.data.toList, 0, 0⟩ ⟨7, t.data.toList, 0, (kk : Int)⟩ 3 (.int .i64 ((kk : Int))) (by simp) rfl (by omega)
   refine BOut.mk (.update t.data.toList ss o) (Px.update_ok HT.out HCL.out.1 HCL.out.2 HC.out HWK.out) HB0.out (by
    have e : (Px.St.update t.data.toList ss o).nodes = [] ++ ⟨7, t.data.toList, 0, (kk : Int)⟩ :: (ss.flatMap Px.setN ++ Px.whereN o) := by
     simp only [Px.St.nodes, List.nil_append, ← HKK.out]
     congr 2
    rw [e]; exact p1) (HO4.out.2.trans p2) ?_
   rw [World.cell?_setCell_other _ _ _ _ (by intro e; simp only [Addr.mk.injEq] at e; omega)]
   exact d4
end Mk
end
namespace Kl
theorem wid_take (l : List Px.Nd) (k : Nat) (h : k < l.length) : Px.wid (l.take (k + 1)) = Px.wid (l.take k) + (40 + 2 * l[k].text.length) := by
 rw [List.take_succ_eq_append_getElem h, Px.wid_app]
 simp [Px.wid]
theorem wid_le (l : List Px.Nd) (h : ∀ x ∈ l, x.text.length ≤ 2000) (k : Nat) : Px.wid (l.take k) ≤ 4040 * k := by
 induction k with
 | zero => simp [Px.wid]
 | succ k ih =>
  by_cases hk : k < l.length
  · have := h _ (List.getElem_mem hk)
    rw [wid_take l k hk]
    omega
  · rw [List.take_of_length_le (by omega)] at ih ⊢
    omega
theorem long_any (v : Value) (l : List Px.Nd) (b1 : Nat) (w : World) (hn : l.length ≤ 100000) (ht : ∀ x ∈ l, x.text.length ≤ 2000) (h1 : NdIs w b1 v l) :
   Calls Tryz.prog 10 #[v] w fun e w' => e = .returned (.bool (decide (2000 < Px.wid l))) ∧ Below w.heap.size w w' := by
 obtain ⟨a1, c1, rfl, hk1⟩ := nd_slice h1
 have HK1 := hd hk1
 have HT := hd ht
 clear hk1 h1 ht
 go_enter Tryz.func10, Tryz.ntmps10
 go_wp2
 go_loopw [3, 4] (fun s i wr => ∃ k : Nat, k ≤ l.length ∧ i = .int .i64 k ∧ s = .int .i64 (Px.wid (l.take k) : Int) ∧ Hid (wr.heap = w.heap ∧ Below w.heap.size w wr)) (fun _ i _ => l.length - (intOf i).toNat)
 case atStart => exact ⟨0, by omega, rfl, rfl, rfl, Below.refl _ _⟩
 case round =>
  obtain ⟨k, hk, rfl, rfl, HW⟩ := hrel
  have hwl := wid_le l HT.out k
  by_cases hlt : k < l.length
  · obtain ⟨g1, hg1, _, p0, p1, p2, p3⟩ := HK1.out k hlt
    have hcc : ∀ a, wr.cell? a = w.cell? a := fun a => by simp only [World.cell?, HW.out.1]
    rw [← hcc] at p1
    rw [hg1]
    have htx := HT.out _ (List.getElem_mem hlt)
    have HWT := hd (wid_take l k hlt)
    clear hcc hg1 p0 p2 p3
    generalize l[k].text = t at *
    have hts : (⟨t.toArray⟩ : ByteArray).size = t.length := by show t.toArray.size = _; simp
    generalize (⟨t.toArray⟩ : ByteArray) = tb at *
    generalize Px.wid (l.take k) = s at *
    have z1 : (0 : Int) ≤ (k : Int) := by omega
    go_wp2
    go_roundw
    case rel => exact ⟨k + 1, by omega, by go_num, by rw [HWT.out]; congr 1; omega, HW.out.1, HW.out.2⟩
    case measure => simp [intOf]; omega
  · have hkc : k = l.length := by omega
    have hll : Px.wid (l.take k) = Px.wid l := by rw [hkc, List.take_length]
    rw [hll]
    go_wp2
    go_ret
    exact ⟨ret_bool (by rw [decide_eq_decide]; omega), HW.out.2⟩
end Kl
namespace Kl
theorem sok_print {st : Px.St} (h : Px.Sok st) : printR st.nodes = if (Px.render st.pt).length ≤ 2000 then (Px.render st.pt, 0) else ([], 1) := by
 unfold printR
 rw [Px.rS_nodes st h.fit h.good h.deep]
theorem txt_e : ∀ e : Px.E, e.ok 2000 → ∀ x ∈ e.nodes, x.text.length ≤ 2000
 | .null, _, x, hx => by simp [Px.E.nodes, Px.leaf] at hx; subst hx; (first | (simp; done) | (simp; omega) | omega)
 | .bool b, _, x, hx => by simp [Px.E.nodes, Px.leaf] at hx; subst hx; cases b <;> (first | (simp; done) | (simp; omega) | omega)
 | .num z, h, x, hx => by simp [Px.E.nodes, Px.leaf] at hx; subst hx; simp only [Px.E.ok] at h; (first | (simp; done) | (simp; omega) | omega)
 | .str s, h, x, hx => by simp [Px.E.nodes, Px.leaf] at hx; subst hx; simp only [Px.E.ok] at h; (first | (simp; done) | (simp; omega) | omega)
 | .nm s, h, x, hx => by simp [Px.E.nodes, Px.leaf] at hx; subst hx; simp only [Px.E.ok] at h; (first | (simp; done) | (simp; omega) | omega)
 | .un k e, h, x, hx => by
  simp only [Px.E.nodes, Px.over1, List.mem_cons] at hx
  rcases hx with rfl | hx
  · have := h.1; have := h.2.1; (first | (simp; done) | (simp; omega) | omega)
  · exact txt_e e h.2.2.2 x hx
 | .bin k a b, h, x, hx => by
  simp only [Px.E.nodes, Px.over2, List.mem_cons, List.mem_append] at hx
  rcases hx with rfl | hx | hx
  · have := h.1; have := h.2.1; (first | (simp; done) | (simp; omega) | omega)
  · exact txt_e a h.2.2.1 x hx
  · exact txt_e b h.2.2.2 x hx
theorem txt_where (o : Option Px.E) (h : ∀ e ∈ o.toList, e.ok 2000) : ∀ x ∈ Px.whereN o, x.text.length ≤ 2000 := by
 intro x hx
 cases o with
 | none => simp [Px.whereN] at hx
 | some e =>
  simp only [Px.whereN, Px.over1, List.mem_cons] at hx
  rcases hx with rfl | hx
  · (first | (simp; done) | (simp; omega) | omega)
  · exact txt_e e (h e (by simp)) x hx
theorem txt_nodes (s : Px.St) (hf : s.Fit) (hn : s.nodes.length ≤ 80000) : ∀ x ∈ s.nodes, x.text.length ≤ 2000 := by
 have hp := hf.parts
 have he := hf.exprs
 intro x hx
 cases s with
 | create t c =>
  have := Px.isName_len hp.1
  simp only [Px.St.nodes, List.mem_cons, List.mem_map, List.length_cons, List.length_map] at hx hn
  rcases hx with rfl | ⟨a, ha, rfl⟩
  · (first | (simp; done) | (simp; omega) | omega)
  · obtain ⟨h1, h2, h3, h4⟩ := hp.2.2.2 a ha
    have := Px.isName_len h1
    (simp only [Px.colN]; omega)
 | drop t =>
  have := Px.isName_len hp
  simp only [Px.St.nodes, List.mem_cons, List.not_mem_nil, or_false] at hx
  subst hx
  (first | (simp; done) | (simp; omega) | omega)
 | insert t r =>
  have := Px.isName_len hp.1
  have h1 : r.length ≤ (r.flatMap Px.rowN).length := flat_len _ (fun a => by simp [Px.rowN]) r
  simp only [Px.St.nodes, List.mem_cons, List.mem_flatMap, List.length_cons] at hx hn
  rcases hx with rfl | ⟨a, ha, hx⟩
  · (first | (simp; done) | (simp; omega) | omega)
  · have h2 := flat_mem Px.rowN r a ha
    have h3 : a.length ≤ (a.flatMap Px.E.nodes).length := flat_len _ (fun a => by cases a <;> simp [Px.E.nodes, Px.leaf, Px.over1, Px.over2]) a
    simp only [Px.rowN, List.length_cons] at h2
    simp only [Px.rowN, List.mem_cons, List.mem_flatMap] at hx
    rcases hx with rfl | ⟨e, hea, hx⟩
    · (first | (simp; done) | (simp; omega) | omega)
    · exact txt_e e (he e (List.mem_flatten.2 ⟨a, ha, hea⟩)) x hx
 | delete t o =>
  have := Px.isName_len hp
  have := one_le o
  simp only [Px.St.nodes, List.mem_cons] at hx
  rcases hx with rfl | hx
  · (first | (simp; done) | (simp; omega) | omega)
  · exact txt_where o (fun e h => he e h) x hx
 | update t s o =>
  have := Px.isName_len hp.1
  have := one_le o
  have h1 : s.length ≤ (s.flatMap Px.setN).length := flat_len _ (fun a => by simp [Px.setN]) s
  simp only [Px.St.nodes, List.mem_cons, List.mem_append, List.mem_flatMap, List.length_cons, List.length_append] at hx hn
  rcases hx with rfl | ⟨a, ha, hx⟩ | hx
  · (first | (simp; done) | (simp; omega) | omega)
  · simp only [Px.setN, List.mem_cons] at hx
    rcases hx with rfl | hx
    · have := Px.isName_len (hp.2.2 a ha)
      (first | (simp; done) | (simp; omega) | omega)
    · exact txt_e a.2 (he _ (by simp only [Px.St.exprs, List.mem_append, List.mem_map]; exact .inl ⟨a, ha, rfl⟩)) x hx
  · exact txt_where o (fun e h => he e (by simp only [Px.St.exprs, List.mem_append]; exact .inr h)) x hx
 | select i t o r l =>
  have := Px.isName_len hp.1
  have := one_le o
  have := one_le l
  have h1 : i.length ≤ (i.flatMap Px.itemN).length := flat_len _ (fun a => by
   cases a with
   | none => simp [Px.itemN]
   | some e => cases e <;> simp [Px.itemN, Px.E.nodes, Px.leaf, Px.over1, Px.over2]) i
  have h2 : r.length ≤ (r.flatMap Px.orderN).length := flat_len _ (fun a => by simp [Px.orderN]) r
  simp only [Px.St.nodes, List.mem_cons, List.mem_append, List.mem_flatMap, List.length_cons, List.length_append] at hx hn
  rcases hx with rfl | ((⟨a, ha, hx⟩ | hx) | ⟨a, ha, hx⟩) | hx
  · (first | (simp; done) | (simp; omega) | omega)
  · cases a with
    | none => simp [Px.itemN] at hx; subst hx; (first | (simp; done) | (simp; omega) | omega)
    | some e => exact txt_e e (he e (by simp only [Px.St.exprs, List.mem_append, List.mem_filterMap, id]; exact .inl (.inl ⟨some e, ha, rfl⟩))) x hx
  · exact txt_where o (fun e h => he e (by simp only [Px.St.exprs, List.mem_append]; exact .inl (.inr h))) x hx
  · simp only [Px.orderN, List.mem_cons] at hx
    rcases hx with rfl | hx
    · cases a.2 <;> (first | (simp; done) | (simp; omega) | omega)
    · exact txt_e a.1 (he _ (by simp only [Px.St.exprs, List.mem_append, List.mem_map]; exact .inr ⟨a, ha, rfl⟩)) x hx
  · cases l with
    | none => simp [Px.limN] at hx
    | some n =>
     have := hp.2.2 n rfl
     simp [Px.limN] at hx; subst hx; (first | (simp; done) | (simp; omega) | omega)
theorem sok_texts {st : Px.St} (h : Px.Sok st) : ∀ x ∈ st.nodes, x.text.length ≤ 2000 := txt_nodes st h.fit h.few
theorem round_any (w : World) (ao bo : Option Addr) (n c m d : Nat) (he : EnvQ w) (hp : Mk.Pln w w.heap.size ao n bo m) :
   Calls Tryz.prog 4 #[.agg #[.slice ao n c, .slice bo m d]] w fun e w' => e = .returned (.bool true) ∧ Below w.heap.size w w' := by
 have hb0 : Below w.heap.size w (w.alloc (.cells #[.slice ao n c, .slice bo m d] 27)) := by go_grown
 have HP := hd (hp.mono (w' := w.alloc (.cells #[.slice ao n c, .slice bo m d] 27)) (b' := (w.alloc (.cells #[.slice ao n c, .slice bo m d] 27)).heap.size) (by simp) (fun g off v hg hc => by rw [hb0.cell (p := ⟨g, off, none⟩) hg]; exact hc))
 have HE := hd (he.below hb0)
 have HB0 := hd hb0
 have hsz0 := hb0.size
 clear hp he hb0
 go_enter Tryz.func4, Tryz.ntmps4
 go_wp2_with fail
 generalize w.alloc (.cells #[.slice ao n c, .slice bo m d] 27) = w0 at *
 refine (Mk.kBuild_any HP.out).mono ?_
 rintro e w1 ⟨st, v, hs, rfl, ho, hb⟩
 have HS := hd hs
 have hfit := fit_nodes st hs.fit hs.few
 have hpr := sok_print hs
 have hsz1 := hb.size
 have HB1 : Hid (Below w.heap.size w w1) := HB0.out.trans (hb.mono hsz0)
 have HE1 := hd (HE.out.below hb)
 have N1 : NdIs w1 w0.heap.size v st.nodes := NdIs.of_own ho
 have HPC := hd (cPrint_any w1 st.nodes v (tree_of N1 hfit) HE1.out (by have := hs.few; omega) (fun s' h => by rw [Px.rS_nodes st hs.fit hs.good hs.deep] at h; cases h; exact PS_of st hs.fit hs.good hs.few))
 rw [hpr] at HPC
 obtain ⟨a1, p1, rfl, _⟩ := nd_slice N1
 have HN1 := hd N1
 have HW := hd (Px.st_wid st hs.fit)
 have HTX := hd (sok_texts hs)
 have hfew := hs.few
 clear hs ho hb N1 hfit hpr
 go_wp2_with fail
 refine HPC.out.mono ?_
 rintro e w2 ⟨rfl, hb2⟩
 have HB2 : Hid (Below w.heap.size w w2) := HB1.out.trans (hb2.mono (by omega))
 have hsz2 := hb2.size
 have HE2 := hd (HE1.out.below hb2)
 have HN2 := hd (HN1.out.below hb2)
 clear hb2 HPC
 by_cases hle : (Px.render st.pt).length ≤ 2000
 · rw [if_pos hle]
   have HLE := hd hle
   have HPK := hd (Px.round st HS.out.fit HS.out.good HS.out.deep hle)
   clear hle
   simp only
   go_wp2_with fail
   refine (cParse_any ⟨(Px.render st.pt).toArray⟩ w2 HE2.out.envp (by have := HLE.out; show (Px.render st.pt).toArray.size ≤ maxLen; simp [maxLen]; omega)).mono ?_
   rintro e w4 ⟨v4, n4, c4, rfl, ⟨r4, hr4, ht4⟩, hb4⟩
   obtain ⟨st', rfl, hn4⟩ := nodes_one HPK.out (by simpa using hr4)
   obtain ⟨o4, rfl, rfl⟩ := ht4
   rw [hn4] at o4
   have HB4 : Hid (Below w.heap.size w w4) := HB2.out.trans (hb4.mono (by omega))
   have hsz4 := hb4.size
   have HN4 := hd (HN2.out.below hb4)
   have M4 : NdIs w4 w2.heap.size v4 st.nodes := NdIs.of_own o4
   obtain ⟨a4, p4, rfl, _⟩ := nd_slice M4
   have HM4 := hd M4
   clear o4 M4 hr4 hn4 hb4
   go_wp2_with fail
   refine (same_any _ _ st.nodes _ _ w4 (by omega) HM4.out HN4.out).mono ?_
   rintro e w6 ⟨rfl, _, hb6⟩
   have HB6 : Hid (Below w.heap.size w w6) := HB4.out.trans (hb6.mono (by omega))
   clear hb6
   go_wp2_with fail
   go_ret
   exact ⟨by simp, HB6.out⟩
 · rw [if_neg hle]
   have hwid : 2000 < Px.wid st.nodes := by have := HW.out; omega
   simp only
   go_wp2_with fail
   refine (long_any _ st.nodes _ w2 (by omega) HTX.out HN2.out).mono ?_
   rintro e w3 ⟨rfl, hb3⟩
   have HB3 : Hid (Below w.heap.size w w3) := HB2.out.trans (hb3.mono (by omega))
   clear hb3
   rw [decide_eq_true hwid]
   go_wp2_with fail
   go_ret
   exact ⟨by simp, HB3.out⟩
end Kl
section
open Go.ChangeShapes Go.WideShapes Go.ChangeAt Go.RowKit Go.Lib
theorem cell_block {w : World} {p : Addr} {v : Value} (h : w.cell? p = some v) : p.block < w.heap.size := by
 unfold World.cell? at h
 split at h
 · rename_i hb
   exact (Array.getElem?_eq_some_iff.1 hb).1
 all_goals simp at h
theorem open_plan {H : Type} {enc : TypeId × Value → H} {W : World} {base : Nat} {v : Value} {d : DataW H} {ps : List MemPlace} (hval : Value.okWide Tryz.prog W .any base 27 v)
   (h : DataW.Trod enc Tryz.prog W 0 (fun _ => true) true 27 v d ps) :
   ∃ ao n c bo m e, v = .agg #[.slice ao n c, .slice bo m e] ∧ Mk.Pln W W.heap.size ao n bo m := by
 obtain ⟨cs, rfl, hcs⟩ := okWide_struct Tryz.underlying27 hval
 have h2 : cs.size = 2 := hcs.trans (by kernel_rfl)
 obtain ⟨x, y, rfl⟩ : ∃ x y, cs = #[x, y] := by
  obtain ⟨l⟩ := cs
  match l, h2 with
  | [x, y], _ => exact ⟨x, y, rfl⟩
 obtain ⟨fuel, hf⟩ := h
 obtain ⟨y0, y1, n, _, _, hf0, hf1⟩ := trod_struct2 Tryz.underlying27 hf
 have c0 : Tryz.prog.cellsOf 24 = 1 := by kernel_rfl
 have c1 : Tryz.prog.cellsOf 25 = 1 := by kernel_rfl
 simp only [Value.cells, c0, c1, List.drop_zero, List.take_succ_cons, List.take_zero, List.drop_succ_cons] at hf0 hf1
 have g0 : DataW.trod enc Tryz.prog W 0 (fun _ => true) true n 24 [x] = some y0 := hf0
 have g1 : DataW.trod enc Tryz.prog W 0 (fun _ => true) true n 25 [y] = some y1 := hf1
 have i0 : ∃ ao n c, x = .slice ao n c ∧ n ≤ maxLen ∧ ∀ k, k < n → ∃ g off z, ao = some ⟨g, off, none⟩ ∧ g < W.heap.size ∧ W.cell? ⟨g, off + k, none⟩ = some (.int .i64 z) ∧ -9223372036854775808 ≤ z ∧ z ≤ 9223372036854775807 := by
  rcases open_ints Tryz.underlying24 Tryz.underlying3 (by kernel_rfl) g0 with ⟨hx, _⟩ | ⟨a, len, cap, zs, hx, _, hl, hm, hz, _, hcell, hwf⟩
  · simp at hx
    subst hx
    exact ⟨none, 0, 0, rfl, by simp [maxLen], fun k hk => by omega⟩
  · simp at hx
    subst hx
    simp only [if_true] at hz
    refine ⟨some a, len, cap, rfl, by omega, fun k hk => ?_⟩
    obtain ⟨b, off, spot⟩ := a
    have hspot : spot = none := by simpa [Addr.add] using World.cell?_spot (hcell 0 (by omega))
    subst hspot
    have hc := hcell k (by omega)
    rw [Go.WideShapes.add_plain] at hc
    have hw := hwf (zs.getD k 0) (by
     have : k < zs.length := by omega
     simp only [List.getD, List.getElem?_eq_getElem this, Option.getD_some]
     exact List.getElem_mem this)
    refine ⟨b, off, _, rfl, cell_block hc, hc, ?_⟩
    simp only [Lit.wf, Bool.and_eq_true, decide_eq_true_eq] at hw
    have m1 : IntKind.i64.min = -9223372036854775808 := by decide
    have m2 : IntKind.i64.max = 9223372036854775807 := by decide
    rw [m1, m2] at hw
    exact hw
 have i1 : ∃ bo m e, y = .slice bo m e ∧ m ≤ maxLen ∧ ∀ k, k < m → ∃ g off s, bo = some ⟨g, off, none⟩ ∧ g < W.heap.size ∧ W.cell? ⟨g, off + k, none⟩ = some (.string s) ∧ s.size ≤ maxLen := by
  rcases open_strings Tryz.underlying25 Tryz.underlying9 (by kernel_rfl) g1 with ⟨hx, _⟩ | ⟨a, len, cap, ss, hx, _, hl, hm, hz, _, hcell, hss⟩
  · simp at hx
    subst hx
    exact ⟨none, 0, 0, rfl, by simp [maxLen], fun k hk => by omega⟩
  · simp at hx
    subst hx
    simp only [if_true] at hz
    refine ⟨some a, len, cap, rfl, by omega, fun k hk => ?_⟩
    obtain ⟨b, off, spot⟩ := a
    have hspot : spot = none := by simpa [Addr.add] using World.cell?_spot (hcell 0 (by omega))
    subst hspot
    have hc := hcell k (by omega)
    rw [Go.WideShapes.add_plain] at hc
    refine ⟨b, off, _, rfl, cell_block hc, hc, ?_⟩
    have hk' : k < ss.length := by omega
    simp only [List.getD, List.getElem?_eq_getElem hk', Option.getD_some]
    exact hss _ (List.getElem_mem hk')
 obtain ⟨ao, n1, c, rfl, q1, q2⟩ := i0
 obtain ⟨bo, m, e, rfl, q3, q4⟩ := i1
 exact ⟨ao, n1, c, bo, m, e, rfl, q1, q3, q2, q4⟩
end
end Go.Proofs.YtkcakbgcfnhgaaaGreatDoor
