/- The statement's own looks: all lists hold what their owner wrote. -/
import Derived.Test.YtihchcoclncjdaaDoorLawD
import Derived.Deep.RegionHeld3
namespace Go.Proofs.YtihchcoclncjdaaDoor
open Go.RowKit
set_option linter.unusedSimpArgs false
set_option linter.unusedVariables false

theorem row_cells {w : World} {base : Nat} {e : TypeId} {v : Value} {xs : List Value} (h : w.ownsRow base e 1 v xs.length xs) (hne : 0 < xs.length) : ∃ g cap, v = .slice (some ⟨g, 0, none⟩) xs.length cap ∧ xs.length ≤ cap ∧ cap ≤ maxLen ∧ ∀ k u, xs[k]? = some u → w.cell? ⟨g, k, none⟩ = some u := by
  rcases h.2 with ⟨_, hn⟩ | ⟨g, cap, cur, rfl, hb, hg, h1, h2, h3, h4⟩
  · omega
  · refine ⟨g, cap, rfl, h1, h2, fun k u hu => ?_⟩
    have := h.cells (g := g) rfl k u hu
    simpa [Addr.add_lit] using this

theorem full_cells {w : World} {v : Value} {n : Nat} {m : Int} (h : FullV w v n m) : (∃ a c, v = .slice a n c) ∧ ∀ k, k < n → ∃ g cap, v = .slice (some ⟨g, 0, none⟩) n cap ∧ n ≤ cap ∧ cap ≤ maxLen ∧ w.cell? ⟨g, k * 3, none⟩ = some (.int .i64 m) ∧ w.cell? ⟨g, k * 3 + 1, none⟩ = some (.string ⟨#[]⟩) ∧ w.cell? ⟨g, k * 3 + 2, none⟩ = some (.int .i64 m) := by
  rcases h with ⟨rfl, rfl⟩ | ⟨g, cap, cur, rfl, hg, h1, h2, h3, h4⟩
  · exact ⟨⟨_, _, rfl⟩, fun k hk => by omega⟩
  · refine ⟨⟨_, _, rfl⟩, fun k hk => ⟨g, cap, rfl, h1, h2, ?_, ?_, ?_⟩⟩
    · rw [cell_of_row w g _ cur _ _ hg, h4 _ (by omega)]; unfold mcell; rw [if_neg (by omega)]
    · rw [cell_of_row w g _ cur _ _ hg, h4 _ (by omega)]; unfold mcell; rw [if_pos (by omega)]
    · rw [cell_of_row w g _ cur _ _ hg, h4 _ (by omega)]; unfold mcell; rw [if_neg (by omega)]

set_option maxRecDepth 100000 in
set_option maxHeartbeats 2000000 in
theorem looks_any (w : World) (base b : Nat) (es : List En) (nx : Int) (tv mv : Value) (h : Bk w base b es (es.map (·.v)) (es.map fun e => .int .i64 e.m) nx tv mv) (hN : es.length ≤ 10000000) (hne : 0 < es.length) :
    Calls Tryd.prog 5 #[.pointer (some ⟨b, 0, none⟩)] w fun e w' => e = .returned (.bool true) ∧ w'.heap = w.heap ∧ Below w.heap.size w w' := by
  obtain ⟨gt, ct, rfl, hct1, hct2, hct⟩ := row_cells h.toks (by simpa using hne)
  obtain ⟨gm, cm, rfl, hcm1, hcm2, hcm⟩ := row_cells h.mks (by simpa using hne)
  simp only [List.length_map] at *
  have HF := hd h.full
  have HCT := hd hct
  have HCM := hd hcm
  have b0 : w.cell? ⟨b, 0, none⟩ = some (.slice (some ⟨gt, 0, none⟩) es.length ct) := h.blk.cell 0
  have b1 : w.cell? ⟨b, 1, none⟩ = some (.slice (some ⟨gm, 0, none⟩) es.length cm) := h.blk.cell 1
  have b2 : w.cell? ⟨b, 2, none⟩ = some (.slice none 0 0) := h.blk.cell 2
  have b4 : w.cell? ⟨b, 4, none⟩ = some (.slice none 0 0) := h.blk.cell 4
  have HB0 := hd b0
  have HB1 := hd b1
  have HB2 := hd b2
  have HB4 := hd b4
  unfold maxLen at hct2 hcm2
  clear hct hcm b0 b1 b2 b4 h
  go_enter Tryd.func5, Tryd.ntmps5
  go_wp2
  go_loopw [3] (fun i wr => ∃ k : Nat, k ≤ es.length ∧ i = .int .i64 k ∧ Hid (wr.heap = w.heap ∧ Below w.heap.size w wr)) (fun i _ => es.length - (intOf i).toNat)
  case atStart => exact ⟨0, by omega, rfl, rfl, Below.refl _ _⟩
  case round =>
    obtain ⟨i, hi, rfl, HW⟩ := hrel
    have hcc : ∀ a, wr.cell? a = w.cell? a := fun a => by simp only [World.cell?, HW.out.1]
    have HCC := hd hcc
    clear hcc
    have b0 : wr.cell? ⟨b, 0, none⟩ = some (.slice (some ⟨gt, 0, none⟩) es.length ct) := (HCC.out _).trans HB0.out
    by_cases hlt : i < es.length
    · have hfe := HF.out es[i] (List.getElem_mem hlt)
      have ti : w.cell? ⟨gt, i, none⟩ = some es[i].v := HCT.out i _ (by simp [List.getElem?_eq_getElem hlt])
      have mi : w.cell? ⟨gm, i, none⟩ = some (.int .i64 es[i].m) := HCM.out i _ (by simp [List.getElem?_eq_getElem hlt])
      have TI := hd ti
      have MI := hd mi
      clear ti mi
      generalize es[i] = e at *
      obtain ⟨v, m, n⟩ := e
      simp only at hfe TI MI
      obtain ⟨hfull, hn⟩ := hfe
      obtain ⟨⟨ao, cp, rfl⟩, hcells⟩ := full_cells hfull
      have HCs := hd hcells
      clear hfull hcells
      have t1 : wr.cell? ⟨gt, i, none⟩ = some (.slice ao n cp) := (HCC.out _).trans TI.out
      go_wp2
      go_loopw [4] (fun q ws => ∃ k : Nat, k ≤ n ∧ q = .int .i64 k ∧ Hid (ws.heap = w.heap ∧ Below w.heap.size w ws)) (fun q _ => n - (intOf q).toNat)
      case atStart => exact ⟨0, by omega, rfl, HW⟩
      case round =>
        obtain ⟨k, hk, rfl, HS⟩ := hrel
        have hcs : ∀ a, wr.cell? a = w.cell? a := fun a => by simp only [World.cell?, HS.out.1]
        have HCS := hd hcs
        clear hcs b0 t1
        have b0 : wr.cell? ⟨b, 0, none⟩ = some (.slice (some ⟨gt, 0, none⟩) es.length ct) := (HCS.out _).trans HB0.out
        have b1 : wr.cell? ⟨b, 1, none⟩ = some (.slice (some ⟨gm, 0, none⟩) es.length cm) := (HCS.out _).trans HB1.out
        have t1 : wr.cell? ⟨gt, i, none⟩ = some (.slice ao n cp) := (HCS.out _).trans TI.out
        have m1 : wr.cell? ⟨gm, i, none⟩ = some (.int .i64 m) := (HCS.out _).trans MI.out
        have z1 : (0 : Int) ≤ (k : Int) := by omega
        have z2 : (0 : Int) ≤ (i : Int) := by omega
        by_cases hkl : k < n
        · obtain ⟨g, cap, hv, hc1, hc2, q0, q1, q2⟩ := HCs.out k hkl
          simp only [Value.slice.injEq, true_and] at hv
          obtain ⟨rfl, rfl⟩ := hv
          unfold maxLen at hc2
          rw [← HCS.out] at q0 q1 q2
          go_wp2
          go_region
          all_goals
            go_wp2
            go_roundw
            case rel => exact ⟨k + 1, by omega, by go_num, HS.out.1, HS.out.2.drew⟩
            case measure => simp [intOf]; omega
        · go_wp2
          go_roundw
          case rel => exact ⟨i + 1, by omega, by go_num, HS⟩
          case measure => simp [intOf]; omega
    · clear b0
      have b0 : wr.cell? ⟨b, 0, none⟩ = some (.slice (some ⟨gt, 0, none⟩) es.length ct) := (HCC.out _).trans HB0.out
      have b2 : wr.cell? ⟨b, 2, none⟩ = some (.slice none 0 0) := (HCC.out _).trans HB2.out
      have b4 : wr.cell? ⟨b, 4, none⟩ = some (.slice none 0 0) := (HCC.out _).trans HB4.out
      go_wp2
      refine wp_loop_rounds 1 ?_
      rw [rounds_succ]
      go_wp2
      refine wp_loop_rounds 1 ?_
      rw [rounds_succ]
      go_wp2
      go_ret
      exact ⟨rfl, HW.out⟩

end Go.Proofs.YtihchcoclncjdaaDoor
