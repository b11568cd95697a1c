/- The statement's own ownsTokens. -/
import Derived.Test.YtihchcoclncjdaaDoorLawC
namespace Go.Proofs.YtihchcoclncjdaaDoor
open Go.RowKit
set_option linter.unusedSimpArgs false
set_option linter.unusedVariables false

theorem Tryd.info33 : (Tryd.prog.info? 33).map (fun i => (i.zero, i.size, i.bytes)) = some (some (.slice none 0 0), 1, 24) := by kernel_rfl
theorem Tryd.info3 : (Tryd.prog.info? 3).map (fun i => (i.zero, i.size, i.bytes)) = some (some (.int .i64 0), 1, 8) := by kernel_rfl

theorem news_cells (w : World) (xs : List Value) (T : TypeId) (g : Nat) (hg : g = w.heap.size) : ∀ j u, xs[j]? = some u → (w.alloc (.cells xs.toArray T)).cell? ((⟨g, 0, none⟩ : Addr).add j) = some u := by
  intro j u hj
  subst hg
  rw [Addr.add_lit, Nat.zero_add, (Blk.new w xs.toArray T).cell j, ← hj]
  simp

theorem grow_low {w w' : World} {row : Option Nat} {base : Nat} (hg : w.grownBy w' row) (hb : base ≤ w.heap.size) (hr : ∀ k, row = some k → base ≤ k) : Below base w w' := (Below.refl base w).grown hg hb hr

/-- What 'ownsTokens' leaves. -/
def OwnsV (w : World) (base b : Nat) (es : List En) (txs mxs : List Value) (nx : Int) (v : Value) (n : Nat) (w' : World) : Prop :=
  ∃ one two three tv' mv', Bk w' base b (es ++ [⟨v, nx - 1, n⟩, ⟨one, nx - 1, n + 1⟩, ⟨two, nx - 1, n + 2⟩, ⟨three, nx - 1, n + 3⟩]) (txs ++ [v, one, two, three]) (mxs ++ [.int .i64 (nx - 1), .int .i64 (nx - 1), .int .i64 (nx - 1), .int .i64 (nx - 1)]) (nx - 1) tv' mv' ∧ Below base w w'

theorem size_set6 (w : World) (p : Addr) (v : Value) : (w.setCell p v).heap.size = w.heap.size := by simp [World.setCell]

theorem FullV.oneCell {w : World} {v : Value} {n : Nat} {m : Int} (h : FullV w v n m) : v.oneCell' = true := by
  rcases h with ⟨rfl, _⟩ | ⟨g, cap, cur, rfl, _⟩ <;> rfl

theorem grownBy_trans2 {w w1 w2 : World} {row : Option Nat} (h : w.grownBy w1 row) (k : w1.grownBy w2 row) : w.grownBy w2 row :=
  ⟨k.os.trans h.os, k.tape.trans h.tape, k.output.trans h.output, Nat.le_trans h.size k.size, fun i hi hne => (k.block i (Nat.lt_of_lt_of_le hi h.size) hne).trans (h.block i hi hne)⟩

set_option maxRecDepth 100000 in
set_option maxHeartbeats 4000000 in
theorem owns_some (w : World) (base b : Nat) (es : List En) (txs mxs : List Value) (nx : Int) (tv mv : Value) (h : Bk w base b es txs mxs nx tv mv) (gv cap n : Nat) (hn : n ≤ 2000)
    (hv : PartV w (.slice (some ⟨gv, 0, none⟩) n cap) n 0 (nx - 1)) (hlow : ∀ g, Value.ownBlock (.slice (some ⟨gv, 0, none⟩) n cap) = some g → base ≤ g) (hnew : ∀ e ∈ es, ∀ g, e.v.ownBlock = some g → Value.ownBlock (.slice (some ⟨gv, 0, none⟩) n cap) ≠ some g)
    (ht : txs.length ≤ 10000000) (hm : mxs.length ≤ 10000000) (hx1 : -100000000 ≤ nx) (hx2 : nx ≤ 0) (hbw : base ≤ w.heap.size) :
    Calls Tryd.prog 9 #[.pointer (some ⟨b, 0, none⟩), .slice (some ⟨gv, 0, none⟩) n cap] w fun e w' => e = .returned (.tuple #[]) ∧ OwnsV w base b es txs mxs nx (.slice (some ⟨gv, 0, none⟩) n cap) n w' := by
  obtain ⟨i33, hi33, hz33, hs33, hb33⟩ := info_parts Tryd.info33
  obtain ⟨i3, hi3, hz3, hs3, hb3⟩ := info_parts Tryd.info3
  have H := hd h
  have hbl := h.blk.lt
  have HN := hd hnew
  have HLow := hd hlow
  have HBlow := hd h.low
  have HMk := hd (mark_any b tv mv nx w h.blk (by omega) hx2)
  have HB1 := hd (h.count (nx - 1))
  have HV := hd hv
  have HT : Hid (∀ g, Value.ownBlock (.slice (some ⟨gv, 0, none⟩) n cap) = some g → g < w.heap.size ∧ ∃ cur, w.heap[g]? = some (.cells cur 43 (0, 0))) := fun g hg => by
    rcases hv with ⟨q, _⟩ | ⟨g', cap', cur, q, hh, _⟩
    · rw [q] at hg; simp [Value.ownBlock] at hg
    · rw [q] at hg; simp [Value.ownBlock] at hg; subst hg; exact ⟨(Array.getElem?_eq_some_iff.1 hh).1, cur, hh⟩
  clear h hnew hlow hv
  obtain ⟨m, hmm⟩ : ∃ m, m = nx - 1 := ⟨_, rfl⟩
  have HMM := hd hmm
  have hm1 : -100000001 ≤ m := by omega
  have hm2 : m ≤ -1 := by omega
  rw [← hmm] at HMk HB1 HV
  clear hmm
  go_enter Tryd.func9, Tryd.ntmps9
  go_wp2_with fail
  refine HMk.out.mono ?_
  rintro e w' ⟨rfl, rfl⟩
  -- the world behind the mark, a letter
  obtain ⟨w1, hw1⟩ : ∃ w1, w1 = w.setCell ⟨b, 6, none⟩ (.int .i64 m) := ⟨_, rfl⟩
  rw [← hw1]
  have HL1 : Hid (Below base w w1) := by rw [hw1]; exact (Below.refl base w).setCell (p := ⟨b, 6, none⟩) HBlow.out _
  have hsz1 : w1.heap.size ≤ w.heap.size := by rw [hw1]; simp [World.setCell]
  have hsz1' : w.heap.size ≤ w1.heap.size := by rw [hw1]; simp [World.setCell]
  have HT1 : Hid (∀ g, Value.ownBlock (.slice (some ⟨gv, 0, none⟩) n cap) = some g → g < w1.heap.size ∧ ∃ cur, w1.heap[g]? = some (.cells cur 43 (0, 0))) := fun g hg => by
    obtain ⟨q1, cur, q2⟩ := HT.out g hg
    refine ⟨by omega, cur, ?_⟩
    rw [hw1, Below.heap_setCell w _ _ g (fun e => tag_ne q2 H.out.blk (by decide) e)]; exact q2
  have HV1 : Hid (PartV w1 (.slice (some ⟨gv, 0, none⟩) n cap) n 0 m) := HV.out.keep (fun g hg => by
    obtain ⟨q1, cur, q2⟩ := HT.out g hg
    rw [hw1, Below.heap_setCell w _ _ g (fun e => tag_ne q2 H.out.blk (by decide) e)])
  rw [← hw1] at HB1
  have HW1 := hd hw1
  clear hw1
  go_wp2
  have HB2 := hd (HB1.out.alloc (.cells #[.int .i64 m, .string ⟨#[]⟩, .int .i64 m] 43))
  have X2 : Blk (w1.alloc (.cells #[.int .i64 m, .string ⟨#[]⟩, .int .i64 m] 43)) w1.heap.size #[.int .i64 m, .string ⟨#[]⟩, .int .i64 m] 43 := Blk.new _ _ _
  have HV2 : Hid (PartV (w1.alloc (.cells #[.int .i64 m, .string ⟨#[]⟩, .int .i64 m] 43)) (.slice (some ⟨gv, 0, none⟩) n cap) n 0 m) := HV1.out.keep (fun g hg => Below.heap_alloc w1 _ g (HT1.out g hg).1)
  obtain ⟨w2, hw2⟩ : ∃ w2, w2 = w1.alloc (.cells #[.int .i64 m, .string ⟨#[]⟩, .int .i64 m] 43) := ⟨_, rfl⟩
  rw [← hw2] at HB2 X2 HV2 ⊢
  have HL2 : Hid (Below base w w2) := by rw [hw2]; exact HL1.out.alloc (by omega) _
  have hsz2 : w1.heap.size + 1 ≤ w2.heap.size := by rw [hw2]; simp
  have HT2 : Hid (∀ g, Value.ownBlock (.slice (some ⟨gv, 0, none⟩) n cap) = some g → g < w1.heap.size ∧ ∃ cur, w2.heap[g]? = some (.cells cur 43 (0, 0))) := fun g hg => by
    obtain ⟨q1, cur, q2⟩ := HT1.out g hg
    exact ⟨q1, cur, by rw [hw2, Below.heap_alloc w1 _ g q1]; exact q2⟩
  clear hw2
  go_loopw [6] (fun i wr => ∃ k : Nat, k ≤ n ∧ i = .int .i64 k ∧ Hid (PartV wr (.slice (some ⟨gv, 0, none⟩) n cap) n k m) ∧ Hid (w2.grownBy wr (Value.ownBlock (.slice (some ⟨gv, 0, none⟩) n cap)))) (fun i _ => n - (intOf i).toNat)
  case atStart => exact ⟨0, by omega, rfl, HV2, ⟨rfl, rfl, rfl, Nat.le_refl _, fun _ _ _ => rfl⟩⟩
  case round =>
    obtain ⟨k, hk, rfl, HP, HG⟩ := hrel
    have Xr : Blk wr w1.heap.size #[.int .i64 m, .string ⟨#[]⟩, .int .i64 m] 43 := by
      unfold Blk at X2 ⊢
      rw [HG.out.block _ (by omega) (by intro e; have := (HT2.out _ e.symm).1; omega)]; exact X2
    obtain ⟨⟨x0, x1, x2⟩, -⟩ := Xr.three
    have hszr := HG.out.size
    by_cases hlt : k < n
    · obtain ⟨hce, hfr, hcap1, hcap2⟩ := HP.out.cells hlt
      obtain ⟨z0, e0⟩ := hce 0 (by omega)
      obtain ⟨z1, e1⟩ := hce 1 (by omega)
      obtain ⟨z2, e2⟩ := hce 2 (by omega)
      rw [Nat.add_zero] at e0
      have f0 := hfr (k * 3)
      have f1 := hfr (k * 3 + 1)
      have f2 := hfr (k * 3 + 2)
      unfold maxLen at hcap2
      have HPs := hd (HP.out.step hlt)
      clear hfr hce
      go_wp2
      go_roundw
      case rel => exact ⟨k + 1, by omega, by go_num, HPs, grownBy_trans2 HG.out (grownBy_set3 wr gv (k * 3) _ _ _)⟩
      case measure => simp [intOf]; omega
    · have hkn : n = k := by omega
      subst hkn
      have HF := hd HP.out.done
      have HBr := hd (HB2.out.row (v := .slice (some ⟨gv, 0, none⟩) n cap) HG.out (fun g hg => (HT2.out g hg).2) HN.out)
      have HLr : Hid (Below base w wr) := HL2.out.grown HG.out (by omega) HLow.out
      clear HP
      go_wp2_with (first
        | (at_builtin; refine wpList_append_mark rfl (.tmp 25) (.tmp 27) rfl m _ n 1 rfl (HF.out.keep (fun g hg => Below.heap_alloc wr _ g (HF.out.lt g hg).1)) ⟨wr.heap.size, 0, none⟩ 1 rfl (news_cells wr [.int .i64 m, .string ⟨#[]⟩, .int .i64 m] _ _ rfl) (by omega) ?_)
        | fail)
      intro a1 p1 w3 hone hg3 hall3 hown3
      have Xs : Blk w3 w1.heap.size #[.int .i64 m, .string ⟨#[]⟩, .int .i64 m] 43 := by
        have := Xr.alloc (.cells #[.int .i64 m, .string ⟨#[]⟩, .int .i64 m] 43)
        unfold Blk at this ⊢
        rw [hg3.block _ (by simp; omega) (by intro e; have := (HT2.out _ e.symm).1; omega)]; exact this
      obtain ⟨⟨y0, y1, y2⟩, -⟩ := Xs.three
      have hsz3 := hg3.size
      simp only [World.size_alloc] at hsz3
      have HB3 := hd ((HBr.out.alloc (.cells #[.int .i64 m, .string ⟨#[]⟩, .int .i64 m] 43)).row (v := .slice (some ⟨gv, 0, none⟩) n cap) hg3 (fun g hg => by
        obtain ⟨q1, cur, q2⟩ := HF.out.lt g hg
        exact ⟨cur, by rw [Below.heap_alloc wr _ g q1]; exact q2⟩) HN.out)
      have HL3 : Hid (Below base w w3) := (HLr.out.alloc (by omega) _).grown hg3 (by simp; omega) HLow.out
      have HF3 := hd (hall3 _ _ (HF.out.keep (fun g hg => Below.heap_alloc wr _ g (HF.out.lt g hg).1)))
      have HO3 : Hid (FullV w3 (.slice a1 (n + 1) p1) (n + 1) m ∧ ∀ g, Value.ownBlock (.slice a1 (n + 1) p1) = some g → base ≤ g) := ⟨hone, fun g hg => by
        rcases hown3 with q | q
        · exact HLow.out g (q ▸ hg)
        · have := q g hg; try simp only [World.size_alloc] at this
          omega⟩
      clear hone hg3 hall3 hown3 x0 x1 x2
      go_wp2_with (first
        | (at_builtin; refine wpList_append_mark rfl (.tmp 29) (.tmp 32) rfl m _ n 2 rfl (HF3.out.keep (fun g hg => Below.heap_alloc w3 _ g (HF3.out.lt g hg).1)) ⟨w3.heap.size, 0, none⟩ 2 rfl (news_cells w3 [.int .i64 m, .string ⟨#[]⟩, .int .i64 m, .int .i64 m, .string ⟨#[]⟩, .int .i64 m] _ _ rfl) (by omega) ?_)
        | fail)
      intro a2 p2 w4 htwo hg4 hall4 hown4
      have Xt : Blk w4 w1.heap.size #[.int .i64 m, .string ⟨#[]⟩, .int .i64 m] 43 := by
        have := Xs.alloc (.cells #[.int .i64 m, .string ⟨#[]⟩, .int .i64 m, .int .i64 m, .string ⟨#[]⟩, .int .i64 m] 43)
        unfold Blk at this ⊢
        rw [hg4.block _ (by simp only [World.size_alloc]; omega) (by intro e; have := (HT2.out _ e.symm).1; omega)]; exact this
      have hsz4 := hg4.size
      simp only [World.size_alloc] at hsz4
      have HB4 := hd ((HB3.out.alloc (.cells #[.int .i64 m, .string ⟨#[]⟩, .int .i64 m, .int .i64 m, .string ⟨#[]⟩, .int .i64 m] 43)).row (v := .slice (some ⟨gv, 0, none⟩) n cap) hg4 (fun g hg => by
        obtain ⟨q1, cur, q2⟩ := HF3.out.lt g hg
        exact ⟨cur, by rw [Below.heap_alloc w3 _ g q1]; exact q2⟩) HN.out)
      have HL4 : Hid (Below base w w4) := (HL3.out.alloc (by omega) _).grown hg4 (by simp only [World.size_alloc]; omega) HLow.out
      have HF4 := hd (hall4 _ _ (HF3.out.keep (fun g hg => Below.heap_alloc w3 _ g (HF3.out.lt g hg).1)))
      have HO4 : Hid (FullV w4 (.slice a1 (n + 1) p1) (n + 1) m ∧ ∀ g, Value.ownBlock (.slice a1 (n + 1) p1) = some g → base ≤ g) := ⟨hall4 _ _ (HO3.out.1.keep (fun g hg => Below.heap_alloc w3 _ g (HO3.out.1.lt g hg).1)), HO3.out.2⟩
      have HTw4 : Hid (FullV w4 (.slice a2 (n + 2) p2) (n + 2) m ∧ ∀ g, Value.ownBlock (.slice a2 (n + 2) p2) = some g → base ≤ g) := ⟨htwo, fun g hg => by
        rcases hown4 with q | q
        · exact HLow.out g (q ▸ hg)
        · have := q g hg; try simp only [World.size_alloc] at this
          omega⟩
      clear htwo hg4 hall4 hown4 y0 y1 y2
      obtain ⟨⟨x0, x1, x2⟩, -⟩ := Xt.three
      go_wp2_with (first
        | (at_builtin; refine wpList_append_mark rfl (.tmp 34) (.tmp 38) rfl m _ n 3 rfl (HF4.out.keep (fun g hg => Below.heap_alloc w4 _ g (HF4.out.lt g hg).1)) ⟨w4.heap.size, 0, none⟩ 3 rfl (news_cells w4 [.int .i64 m, .string ⟨#[]⟩, .int .i64 m, .int .i64 m, .string ⟨#[]⟩, .int .i64 m, .int .i64 m, .string ⟨#[]⟩, .int .i64 m] _ _ rfl) (by omega) ?_)
        | fail)
      intro a3 p3 w5 hthree hg5 hall5 hown5
      have hsz5 := hg5.size
      simp only [World.size_alloc] at hsz5
      have HB5 := hd ((HB4.out.alloc (.cells #[.int .i64 m, .string ⟨#[]⟩, .int .i64 m, .int .i64 m, .string ⟨#[]⟩, .int .i64 m, .int .i64 m, .string ⟨#[]⟩, .int .i64 m] 43)).row (v := .slice (some ⟨gv, 0, none⟩) n cap) hg5 (fun g hg => by
        obtain ⟨q1, cur, q2⟩ := HF4.out.lt g hg
        exact ⟨cur, by rw [Below.heap_alloc w4 _ g q1]; exact q2⟩) HN.out)
      have HL5 : Hid (Below base w w5) := (HL4.out.alloc (by omega) _).grown hg5 (by simp only [World.size_alloc]; omega) HLow.out
      have HF5 := hd (hall5 _ _ (HF4.out.keep (fun g hg => Below.heap_alloc w4 _ g (HF4.out.lt g hg).1)))
      have HO5 : Hid (FullV w5 (.slice a1 (n + 1) p1) (n + 1) m ∧ ∀ g, Value.ownBlock (.slice a1 (n + 1) p1) = some g → base ≤ g) := ⟨hall5 _ _ (HO4.out.1.keep (fun g hg => Below.heap_alloc w4 _ g (HO4.out.1.lt g hg).1)), HO4.out.2⟩
      have HTw5 : Hid (FullV w5 (.slice a2 (n + 2) p2) (n + 2) m ∧ ∀ g, Value.ownBlock (.slice a2 (n + 2) p2) = some g → base ≤ g) := ⟨hall5 _ _ (HTw4.out.1.keep (fun g hg => Below.heap_alloc w4 _ g (HTw4.out.1.lt g hg).1)), HTw4.out.2⟩
      have HTh5 : Hid (FullV w5 (.slice a3 (n + 3) p3) (n + 3) m ∧ ∀ g, Value.ownBlock (.slice a3 (n + 3) p3) = some g → base ≤ g) := ⟨hthree, fun g hg => by
        rcases hown5 with q | q
        · exact HLow.out g (q ▸ hg)
        · have := q g hg; try simp only [World.size_alloc] at this
          omega⟩
      clear hthree hg5 hall5 hown5 x0 x1 x2
      have d0 : w5.cell? ⟨b, 0, none⟩ = some tv := HB5.out.blk.cell 0
      have o1 := HO5.out.1.oneCell
      have o2 := HTw5.out.1.oneCell
      have o3 := HTh5.out.1.oneCell
      have o0 := HF5.out.oneCell
      have O := hd (And.intro o0 (And.intro o1 (And.intro o2 o3)))
      clear o0 o1 o2 o3
      go_wp2_with (first
        | (at_builtin; refine wpList_append_own _ rfl (.tmp 44) (.tmp 49) 24 rfl base 33 i33 (.slice none 0 0) 1 24 Tryd.underlying24 hi33 hz33 hs33 hb33 rfl (by decide) tv txs.length txs rfl (HB5.out.toks.alloc _) ⟨w5.heap.size, 0, none⟩ 4 4 [.slice (some ⟨gv, 0, none⟩) n cap, (.slice a1 (n + 1) p1), (.slice a2 (n + 2) p2), (.slice a3 (n + 3) p3)] rfl rfl (news_cells w5 [.slice (some ⟨gv, 0, none⟩) n cap, (.slice a1 (n + 1) p1), (.slice a2 (n + 2) p2), (.slice a3 (n + 3) p3)] _ _ rfl) (by intro u hu; simp only [List.mem_cons, List.not_mem_nil, or_false] at hu; rcases hu with rfl | rfl | rfl | rfl; exact O.out.1; exact O.out.2.1; exact O.out.2.2.1; exact O.out.2.2.2) (by unfold maxLen; omega) (by omega) (by simp only [World.size_alloc]; omega) ?_)
        | fail)
      intro tv' w6 hown6 hg6 _
      obtain ⟨ta, tc, htv⟩ : ∃ a c, tv' = .slice a (txs.length + 4) c := by
        rcases hown6.2 with ⟨_, e⟩ | ⟨g, cp, cur, q, _⟩
        · omega
        · exact ⟨_, _, q⟩
      rw [htv] at hown6 ⊢
      clear htv
      have Z5 := HB5.out.alloc (.cells #[.slice (some ⟨gv, 0, none⟩) n cap, .slice a1 (n + 1) p1, .slice a2 (n + 2) p2, .slice a3 (n + 3) p3] 33)
      have P6 := Z5.putToks (txs' := txs ++ [.slice (some ⟨gv, 0, none⟩) n cap, .slice a1 (n + 1) p1, .slice a2 (n + 2) p2, .slice a3 (n + 3) p3]) hg6 (by rw [List.length_append]; exact hown6)
      have hszb := hg6.size
      simp only [World.size_alloc] at hszb
      have B6 : Blk w6 b (bookV tv mv m) 29 := by
        have := Z5.blk
        unfold Blk at this ⊢
        rw [hg6.block b Z5.blk.lt (by
          cases ht : tv.ownBlock with
          | none => simp
          | some g => obtain ⟨cur, hc⟩ := own_tag Z5.toks ht; intro e; exact tag_ne Z5.blk hc (by decide) (Option.some.inj e))]; exact this
      have HL6 : Hid (Below base w w6) := (HL5.out.alloc (by omega) _).grown hg6 (by simp only [World.size_alloc]; omega) (fun q hq => (HB5.out.toks.lt q hq).1)
      have HL7 : Hid (Below base w (w6.setCell ⟨b, 0, none⟩ (.slice ta (txs.length + 4) tc))) := HL6.out.setCell (p := ⟨b, 0, none⟩) HBlow.out _
      have HB7 := hd P6.1
      have HF7 := hd P6.2
      have r0 : w6.cell? ⟨b, 0, none⟩ = some tv := B6.cell 0
      have r1 : w6.cell? ⟨b, 1, none⟩ = some mv := B6.cell 1
      have r2 := B6.free 0
      have r3 := B6.free 1
      have hb6 : b < w6.heap.size := B6.lt
      clear hown6 hg6 P6 Z5 B6 d0
      go_wp2_with (first
        | (at_builtin; refine wpList_append_own _ rfl (.tmp 57) (.tmp 62) 25 rfl base 3 i3 (.int .i64 0) 1 8 Tryd.underlying25 hi3 hz3 hs3 hb3 rfl (by decide) mv mxs.length mxs rfl (HB7.out.mks.alloc _) ⟨w6.heap.size, 0, none⟩ 4 4 [.int .i64 m, .int .i64 m, .int .i64 m, .int .i64 m] rfl rfl (news_cells (w6.setCell ⟨b, 0, none⟩ (.slice ta (txs.length + 4) tc)) [.int .i64 m, .int .i64 m, .int .i64 m, .int .i64 m] _ _ (size_set6 _ _ _).symm) (by intro u hu; simp only [List.mem_cons, List.not_mem_nil, or_false] at hu; rcases hu with rfl | rfl | rfl | rfl <;> rfl) (by unfold maxLen; omega) (by omega) (by simp only [World.size_alloc, size_set6]; omega) ?_)
        | fail)
      intro mv' w8 hown8 hg8 _
      obtain ⟨ma, mc, hmv⟩ : ∃ a c, mv' = .slice a (mxs.length + 4) c := by
        rcases hown8.2 with ⟨_, e⟩ | ⟨g, cp, cur, q, _⟩
        · omega
        · exact ⟨_, _, q⟩
      rw [hmv] at hown8 ⊢
      clear hmv
      have Z7 := HB7.out.alloc (.cells #[.int .i64 m, .int .i64 m, .int .i64 m, .int .i64 m] 3)
      have P8 := Z7.putMks (mxs' := mxs ++ [.int .i64 m, .int .i64 m, .int .i64 m, .int .i64 m]) hg8 (by rw [List.length_append]; exact hown8)
      have B8 : Blk w8 b (bookV (.slice ta (txs.length + 4) tc) mv m) 29 := by
        have := Z7.blk
        unfold Blk at this ⊢
        rw [hg8.block b Z7.blk.lt (by
          cases ht : mv.ownBlock with
          | none => simp
          | some g => obtain ⟨cur, hc⟩ := own_tag Z7.mks ht; intro e; exact tag_ne Z7.blk hc (by decide) (Option.some.inj e))]; exact this
      have HL8 : Hid (Below base w w8) := (HL7.out.alloc (by rw [size_set6]; omega) _).grown hg8 (by simp only [World.size_alloc, size_set6]; omega) (fun q hq => (HB7.out.mks.lt q hq).1)
      have HL9 : Hid (Below base w (w8.setCell ⟨b, 1, none⟩ (.slice ma (mxs.length + 4) mc))) := HL8.out.setCell (p := ⟨b, 1, none⟩) HBlow.out _
      have HB9 := hd P8.1
      have HF9 : Hid (∀ u q, FullV w5 u q m → FullV (w8.setCell ⟨b, 1, none⟩ (.slice ma (mxs.length + 4) mc)) u q m) := fun u q hu => P8.2 u q m ((HF7.out u q m (hu.keep (fun g hg => Below.heap_alloc w5 _ g (hu.lt g hg).1))).keep (fun g hg => Below.heap_alloc _ _ g ((HF7.out u q m (hu.keep (fun g hg => Below.heap_alloc w5 _ g (hu.lt g hg).1))).lt g hg).1))
      have s1 : w8.cell? ⟨b, 1, none⟩ = some mv := B8.cell 1
      have s2 := B8.free 1
      clear hown8 hg8 P8 Z7 B8 r0 r1 r2 r3
      go_wp2
      go_end0
      refine ⟨rfl, .slice a1 (n + 1) p1, .slice a2 (n + 2) p2, .slice a3 (n + 3) p3, .slice ta (txs.length + 4) tc, .slice ma (mxs.length + 4) mc, ?_, HL9.out⟩
      rw [← HMM.out]
      have K := HB9.out
      refine ⟨K.blk, K.low, K.toks, K.mks, ?_, ?_⟩
      · intro e he
        simp only [List.mem_append, List.mem_cons, List.not_mem_nil, or_false] at he
        rcases he with he | rfl | rfl | rfl | rfl
        · exact K.full e he
        · exact ⟨HF9.out _ _ HF5.out, by show n ≤ 2010; omega⟩
        · exact ⟨HF9.out _ _ HO5.out.1, by show n + 1 ≤ 2010; omega⟩
        · exact ⟨HF9.out _ _ HTw5.out.1, by show n + 2 ≤ 2010; omega⟩
        · exact ⟨HF9.out _ _ HTh5.out.1, by show n + 3 ≤ 2010; omega⟩
      · intro e he
        simp only [List.mem_append, List.mem_cons, List.not_mem_nil, or_false] at he
        rcases he with he | rfl | rfl | rfl | rfl
        · exact K.own e he
        · exact HLow.out
        · exact HO5.out.2
        · exact HTw5.out.2
        · exact HTh5.out.2

set_option maxRecDepth 100000 in
set_option maxHeartbeats 4000000 in
theorem owns_nil (w : World) (base b : Nat) (es : List En) (txs mxs : List Value) (nx : Int) (tv mv : Value) (h : Bk w base b es txs mxs nx tv mv) (n : Nat) (hn : n ≤ 2000)
    (hv : PartV w (.slice none 0 0) n 0 (nx - 1)) (hlow : ∀ g, Value.ownBlock (.slice none 0 0) = some g → base ≤ g) (hnew : ∀ e ∈ es, ∀ g, e.v.ownBlock = some g → Value.ownBlock (.slice none 0 0) ≠ some g)
    (ht : txs.length ≤ 10000000) (hm : mxs.length ≤ 10000000) (hx1 : -100000000 ≤ nx) (hx2 : nx ≤ 0) (hbw : base ≤ w.heap.size) (hn0 : n ≤ 0) :
    Calls Tryd.prog 9 #[.pointer (some ⟨b, 0, none⟩), .slice none 0 0] w fun e w' => e = .returned (.tuple #[]) ∧ OwnsV w base b es txs mxs nx (.slice none 0 0) n w' := by
  obtain ⟨i33, hi33, hz33, hs33, hb33⟩ := info_parts Tryd.info33
  obtain ⟨i3, hi3, hz3, hs3, hb3⟩ := info_parts Tryd.info3
  have H := hd h
  have hbl := h.blk.lt
  have HN := hd hnew
  have HLow := hd hlow
  have HBlow := hd h.low
  have HMk := hd (mark_any b tv mv nx w h.blk (by omega) hx2)
  have HB1 := hd (h.count (nx - 1))
  have HV := hd hv
  have HT : Hid (∀ g, Value.ownBlock (.slice none 0 0) = some g → g < w.heap.size ∧ ∃ cur, w.heap[g]? = some (.cells cur 43 (0, 0))) := fun g hg => by
    rcases hv with ⟨q, _⟩ | ⟨g', cap', cur, q, hh, _⟩
    · rw [q] at hg; simp [Value.ownBlock] at hg
    · rw [q] at hg; simp [Value.ownBlock] at hg; subst hg; exact ⟨(Array.getElem?_eq_some_iff.1 hh).1, cur, hh⟩
  clear h hnew hlow hv
  obtain ⟨m, hmm⟩ : ∃ m, m = nx - 1 := ⟨_, rfl⟩
  have HMM := hd hmm
  have hm1 : -100000001 ≤ m := by omega
  have hm2 : m ≤ -1 := by omega
  rw [← hmm] at HMk HB1 HV
  clear hmm
  go_enter Tryd.func9, Tryd.ntmps9
  go_wp2_with fail
  refine HMk.out.mono ?_
  rintro e w' ⟨rfl, rfl⟩
  -- the world behind the mark, a letter
  obtain ⟨w1, hw1⟩ : ∃ w1, w1 = w.setCell ⟨b, 6, none⟩ (.int .i64 m) := ⟨_, rfl⟩
  rw [← hw1]
  have HL1 : Hid (Below base w w1) := by rw [hw1]; exact (Below.refl base w).setCell (p := ⟨b, 6, none⟩) HBlow.out _
  have hsz1 : w1.heap.size ≤ w.heap.size := by rw [hw1]; simp [World.setCell]
  have hsz1' : w.heap.size ≤ w1.heap.size := by rw [hw1]; simp [World.setCell]
  have HT1 : Hid (∀ g, Value.ownBlock (.slice none 0 0) = some g → g < w1.heap.size ∧ ∃ cur, w1.heap[g]? = some (.cells cur 43 (0, 0))) := fun g hg => by
    obtain ⟨q1, cur, q2⟩ := HT.out g hg
    refine ⟨by omega, cur, ?_⟩
    rw [hw1, Below.heap_setCell w _ _ g (fun e => tag_ne q2 H.out.blk (by decide) e)]; exact q2
  have HV1 : Hid (PartV w1 (.slice none 0 0) n 0 m) := HV.out.keep (fun g hg => by
    obtain ⟨q1, cur, q2⟩ := HT.out g hg
    rw [hw1, Below.heap_setCell w _ _ g (fun e => tag_ne q2 H.out.blk (by decide) e)])
  rw [← hw1] at HB1
  have HW1 := hd hw1
  clear hw1
  go_wp2
  have HB2 := hd (HB1.out.alloc (.cells #[.int .i64 m, .string ⟨#[]⟩, .int .i64 m] 43))
  have X2 : Blk (w1.alloc (.cells #[.int .i64 m, .string ⟨#[]⟩, .int .i64 m] 43)) w1.heap.size #[.int .i64 m, .string ⟨#[]⟩, .int .i64 m] 43 := Blk.new _ _ _
  have HV2 : Hid (PartV (w1.alloc (.cells #[.int .i64 m, .string ⟨#[]⟩, .int .i64 m] 43)) (.slice none 0 0) n 0 m) := HV1.out.keep (fun g hg => Below.heap_alloc w1 _ g (HT1.out g hg).1)
  obtain ⟨w2, hw2⟩ : ∃ w2, w2 = w1.alloc (.cells #[.int .i64 m, .string ⟨#[]⟩, .int .i64 m] 43) := ⟨_, rfl⟩
  rw [← hw2] at HB2 X2 HV2 ⊢
  have HL2 : Hid (Below base w w2) := by rw [hw2]; exact HL1.out.alloc (by omega) _
  have hsz2 : w1.heap.size + 1 ≤ w2.heap.size := by rw [hw2]; simp
  have HT2 : Hid (∀ g, Value.ownBlock (.slice none 0 0) = some g → g < w1.heap.size ∧ ∃ cur, w2.heap[g]? = some (.cells cur 43 (0, 0))) := fun g hg => by
    obtain ⟨q1, cur, q2⟩ := HT1.out g hg
    exact ⟨q1, cur, by rw [hw2, Below.heap_alloc w1 _ g q1]; exact q2⟩
  clear hw2
  go_loopw [6] (fun i wr => ∃ k : Nat, k ≤ n ∧ i = .int .i64 k ∧ Hid (PartV wr (.slice none 0 0) n k m) ∧ Hid (w2.grownBy wr (Value.ownBlock (.slice none 0 0)))) (fun i _ => n - (intOf i).toNat)
  case atStart => exact ⟨0, by omega, rfl, HV2, ⟨rfl, rfl, rfl, Nat.le_refl _, fun _ _ _ => rfl⟩⟩
  case round =>
    obtain ⟨k, hk, rfl, HP, HG⟩ := hrel
    have Xr : Blk wr w1.heap.size #[.int .i64 m, .string ⟨#[]⟩, .int .i64 m] 43 := by
      unfold Blk at X2 ⊢
      rw [HG.out.block _ (by omega) (by intro e; have := (HT2.out _ e.symm).1; omega)]; exact X2
    obtain ⟨⟨x0, x1, x2⟩, -⟩ := Xr.three
    have hszr := HG.out.size
    by_cases hlt : k < n
    · exact absurd hlt (by omega)
    · have hkn : n = k := by omega
      subst hkn
      have HF := hd HP.out.done
      have HBr := hd (HB2.out.row (v := .slice none 0 0) HG.out (fun g hg => (HT2.out g hg).2) HN.out)
      have HLr : Hid (Below base w wr) := HL2.out.grown HG.out (by omega) HLow.out
      clear HP
      go_wp2_with (first
        | (at_builtin; refine wpList_append_mark rfl (.tmp 25) (.tmp 27) rfl m _ n 1 rfl (HF.out.keep (fun g hg => Below.heap_alloc wr _ g (HF.out.lt g hg).1)) ⟨wr.heap.size, 0, none⟩ 1 rfl (news_cells wr [.int .i64 m, .string ⟨#[]⟩, .int .i64 m] _ _ rfl) (by omega) ?_)
        | fail)
      intro a1 p1 w3 hone hg3 hall3 hown3
      have Xs : Blk w3 w1.heap.size #[.int .i64 m, .string ⟨#[]⟩, .int .i64 m] 43 := by
        have := Xr.alloc (.cells #[.int .i64 m, .string ⟨#[]⟩, .int .i64 m] 43)
        unfold Blk at this ⊢
        rw [hg3.block _ (by simp; omega) (by intro e; have := (HT2.out _ e.symm).1; omega)]; exact this
      obtain ⟨⟨y0, y1, y2⟩, -⟩ := Xs.three
      have hsz3 := hg3.size
      simp only [World.size_alloc] at hsz3
      have HB3 := hd ((HBr.out.alloc (.cells #[.int .i64 m, .string ⟨#[]⟩, .int .i64 m] 43)).row (v := .slice none 0 0) hg3 (fun g hg => by
        obtain ⟨q1, cur, q2⟩ := HF.out.lt g hg
        exact ⟨cur, by rw [Below.heap_alloc wr _ g q1]; exact q2⟩) HN.out)
      have HL3 : Hid (Below base w w3) := (HLr.out.alloc (by omega) _).grown hg3 (by simp; omega) HLow.out
      have HF3 := hd (hall3 _ _ (HF.out.keep (fun g hg => Below.heap_alloc wr _ g (HF.out.lt g hg).1)))
      have HO3 : Hid (FullV w3 (.slice a1 (n + 1) p1) (n + 1) m ∧ ∀ g, Value.ownBlock (.slice a1 (n + 1) p1) = some g → base ≤ g) := ⟨hone, fun g hg => by
        rcases hown3 with q | q
        · exact HLow.out g (q ▸ hg)
        · have := q g hg; try simp only [World.size_alloc] at this
          omega⟩
      clear hone hg3 hall3 hown3 x0 x1 x2
      go_wp2_with (first
        | (at_builtin; refine wpList_append_mark rfl (.tmp 29) (.tmp 32) rfl m _ n 2 rfl (HF3.out.keep (fun g hg => Below.heap_alloc w3 _ g (HF3.out.lt g hg).1)) ⟨w3.heap.size, 0, none⟩ 2 rfl (news_cells w3 [.int .i64 m, .string ⟨#[]⟩, .int .i64 m, .int .i64 m, .string ⟨#[]⟩, .int .i64 m] _ _ rfl) (by omega) ?_)
        | fail)
      intro a2 p2 w4 htwo hg4 hall4 hown4
      have Xt : Blk w4 w1.heap.size #[.int .i64 m, .string ⟨#[]⟩, .int .i64 m] 43 := by
        have := Xs.alloc (.cells #[.int .i64 m, .string ⟨#[]⟩, .int .i64 m, .int .i64 m, .string ⟨#[]⟩, .int .i64 m] 43)
        unfold Blk at this ⊢
        rw [hg4.block _ (by simp only [World.size_alloc]; omega) (by intro e; have := (HT2.out _ e.symm).1; omega)]; exact this
      have hsz4 := hg4.size
      simp only [World.size_alloc] at hsz4
      have HB4 := hd ((HB3.out.alloc (.cells #[.int .i64 m, .string ⟨#[]⟩, .int .i64 m, .int .i64 m, .string ⟨#[]⟩, .int .i64 m] 43)).row (v := .slice none 0 0) hg4 (fun g hg => by
        obtain ⟨q1, cur, q2⟩ := HF3.out.lt g hg
        exact ⟨cur, by rw [Below.heap_alloc w3 _ g q1]; exact q2⟩) HN.out)
      have HL4 : Hid (Below base w w4) := (HL3.out.alloc (by omega) _).grown hg4 (by simp only [World.size_alloc]; omega) HLow.out
      have HF4 := hd (hall4 _ _ (HF3.out.keep (fun g hg => Below.heap_alloc w3 _ g (HF3.out.lt g hg).1)))
      have HO4 : Hid (FullV w4 (.slice a1 (n + 1) p1) (n + 1) m ∧ ∀ g, Value.ownBlock (.slice a1 (n + 1) p1) = some g → base ≤ g) := ⟨hall4 _ _ (HO3.out.1.keep (fun g hg => Below.heap_alloc w3 _ g (HO3.out.1.lt g hg).1)), HO3.out.2⟩
      have HTw4 : Hid (FullV w4 (.slice a2 (n + 2) p2) (n + 2) m ∧ ∀ g, Value.ownBlock (.slice a2 (n + 2) p2) = some g → base ≤ g) := ⟨htwo, fun g hg => by
        rcases hown4 with q | q
        · exact HLow.out g (q ▸ hg)
        · have := q g hg; try simp only [World.size_alloc] at this
          omega⟩
      clear htwo hg4 hall4 hown4 y0 y1 y2
      obtain ⟨⟨x0, x1, x2⟩, -⟩ := Xt.three
      go_wp2_with (first
        | (at_builtin; refine wpList_append_mark rfl (.tmp 34) (.tmp 38) rfl m _ n 3 rfl (HF4.out.keep (fun g hg => Below.heap_alloc w4 _ g (HF4.out.lt g hg).1)) ⟨w4.heap.size, 0, none⟩ 3 rfl (news_cells w4 [.int .i64 m, .string ⟨#[]⟩, .int .i64 m, .int .i64 m, .string ⟨#[]⟩, .int .i64 m, .int .i64 m, .string ⟨#[]⟩, .int .i64 m] _ _ rfl) (by omega) ?_)
        | fail)
      intro a3 p3 w5 hthree hg5 hall5 hown5
      have hsz5 := hg5.size
      simp only [World.size_alloc] at hsz5
      have HB5 := hd ((HB4.out.alloc (.cells #[.int .i64 m, .string ⟨#[]⟩, .int .i64 m, .int .i64 m, .string ⟨#[]⟩, .int .i64 m, .int .i64 m, .string ⟨#[]⟩, .int .i64 m] 43)).row (v := .slice none 0 0) hg5 (fun g hg => by
        obtain ⟨q1, cur, q2⟩ := HF4.out.lt g hg
        exact ⟨cur, by rw [Below.heap_alloc w4 _ g q1]; exact q2⟩) HN.out)
      have HL5 : Hid (Below base w w5) := (HL4.out.alloc (by omega) _).grown hg5 (by simp only [World.size_alloc]; omega) HLow.out
      have HF5 := hd (hall5 _ _ (HF4.out.keep (fun g hg => Below.heap_alloc w4 _ g (HF4.out.lt g hg).1)))
      have HO5 : Hid (FullV w5 (.slice a1 (n + 1) p1) (n + 1) m ∧ ∀ g, Value.ownBlock (.slice a1 (n + 1) p1) = some g → base ≤ g) := ⟨hall5 _ _ (HO4.out.1.keep (fun g hg => Below.heap_alloc w4 _ g (HO4.out.1.lt g hg).1)), HO4.out.2⟩
      have HTw5 : Hid (FullV w5 (.slice a2 (n + 2) p2) (n + 2) m ∧ ∀ g, Value.ownBlock (.slice a2 (n + 2) p2) = some g → base ≤ g) := ⟨hall5 _ _ (HTw4.out.1.keep (fun g hg => Below.heap_alloc w4 _ g (HTw4.out.1.lt g hg).1)), HTw4.out.2⟩
      have HTh5 : Hid (FullV w5 (.slice a3 (n + 3) p3) (n + 3) m ∧ ∀ g, Value.ownBlock (.slice a3 (n + 3) p3) = some g → base ≤ g) := ⟨hthree, fun g hg => by
        rcases hown5 with q | q
        · exact HLow.out g (q ▸ hg)
        · have := q g hg; try simp only [World.size_alloc] at this
          omega⟩
      clear hthree hg5 hall5 hown5 x0 x1 x2
      have d0 : w5.cell? ⟨b, 0, none⟩ = some tv := HB5.out.blk.cell 0
      have o1 := HO5.out.1.oneCell
      have o2 := HTw5.out.1.oneCell
      have o3 := HTh5.out.1.oneCell
      have o0 := HF5.out.oneCell
      have O := hd (And.intro o0 (And.intro o1 (And.intro o2 o3)))
      clear o0 o1 o2 o3
      go_wp2_with (first
        | (at_builtin; refine wpList_append_own _ rfl (.tmp 44) (.tmp 49) 24 rfl base 33 i33 (.slice none 0 0) 1 24 Tryd.underlying24 hi33 hz33 hs33 hb33 rfl (by decide) tv txs.length txs rfl (HB5.out.toks.alloc _) ⟨w5.heap.size, 0, none⟩ 4 4 [.slice none 0 0, (.slice a1 (n + 1) p1), (.slice a2 (n + 2) p2), (.slice a3 (n + 3) p3)] rfl rfl (news_cells w5 [.slice none 0 0, (.slice a1 (n + 1) p1), (.slice a2 (n + 2) p2), (.slice a3 (n + 3) p3)] _ _ rfl) (by intro u hu; simp only [List.mem_cons, List.not_mem_nil, or_false] at hu; rcases hu with rfl | rfl | rfl | rfl; exact O.out.1; exact O.out.2.1; exact O.out.2.2.1; exact O.out.2.2.2) (by unfold maxLen; omega) (by omega) (by simp only [World.size_alloc]; omega) ?_)
        | fail)
      intro tv' w6 hown6 hg6 _
      obtain ⟨ta, tc, htv⟩ : ∃ a c, tv' = .slice a (txs.length + 4) c := by
        rcases hown6.2 with ⟨_, e⟩ | ⟨g, cp, cur, q, _⟩
        · omega
        · exact ⟨_, _, q⟩
      rw [htv] at hown6 ⊢
      clear htv
      have Z5 := HB5.out.alloc (.cells #[.slice none 0 0, .slice a1 (n + 1) p1, .slice a2 (n + 2) p2, .slice a3 (n + 3) p3] 33)
      have P6 := Z5.putToks (txs' := txs ++ [.slice none 0 0, .slice a1 (n + 1) p1, .slice a2 (n + 2) p2, .slice a3 (n + 3) p3]) hg6 (by rw [List.length_append]; exact hown6)
      have hszb := hg6.size
      simp only [World.size_alloc] at hszb
      have B6 : Blk w6 b (bookV tv mv m) 29 := by
        have := Z5.blk
        unfold Blk at this ⊢
        rw [hg6.block b Z5.blk.lt (by
          cases ht : tv.ownBlock with
          | none => simp
          | some g => obtain ⟨cur, hc⟩ := own_tag Z5.toks ht; intro e; exact tag_ne Z5.blk hc (by decide) (Option.some.inj e))]; exact this
      have HL6 : Hid (Below base w w6) := (HL5.out.alloc (by omega) _).grown hg6 (by simp only [World.size_alloc]; omega) (fun q hq => (HB5.out.toks.lt q hq).1)
      have HL7 : Hid (Below base w (w6.setCell ⟨b, 0, none⟩ (.slice ta (txs.length + 4) tc))) := HL6.out.setCell (p := ⟨b, 0, none⟩) HBlow.out _
      have HB7 := hd P6.1
      have HF7 := hd P6.2
      have r0 : w6.cell? ⟨b, 0, none⟩ = some tv := B6.cell 0
      have r1 : w6.cell? ⟨b, 1, none⟩ = some mv := B6.cell 1
      have r2 := B6.free 0
      have r3 := B6.free 1
      have hb6 : b < w6.heap.size := B6.lt
      clear hown6 hg6 P6 Z5 B6 d0
      go_wp2_with (first
        | (at_builtin; refine wpList_append_own _ rfl (.tmp 57) (.tmp 62) 25 rfl base 3 i3 (.int .i64 0) 1 8 Tryd.underlying25 hi3 hz3 hs3 hb3 rfl (by decide) mv mxs.length mxs rfl (HB7.out.mks.alloc _) ⟨w6.heap.size, 0, none⟩ 4 4 [.int .i64 m, .int .i64 m, .int .i64 m, .int .i64 m] rfl rfl (news_cells (w6.setCell ⟨b, 0, none⟩ (.slice ta (txs.length + 4) tc)) [.int .i64 m, .int .i64 m, .int .i64 m, .int .i64 m] _ _ (size_set6 _ _ _).symm) (by intro u hu; simp only [List.mem_cons, List.not_mem_nil, or_false] at hu; rcases hu with rfl | rfl | rfl | rfl <;> rfl) (by unfold maxLen; omega) (by omega) (by simp only [World.size_alloc, size_set6]; omega) ?_)
        | fail)
      intro mv' w8 hown8 hg8 _
      obtain ⟨ma, mc, hmv⟩ : ∃ a c, mv' = .slice a (mxs.length + 4) c := by
        rcases hown8.2 with ⟨_, e⟩ | ⟨g, cp, cur, q, _⟩
        · omega
        · exact ⟨_, _, q⟩
      rw [hmv] at hown8 ⊢
      clear hmv
      have Z7 := HB7.out.alloc (.cells #[.int .i64 m, .int .i64 m, .int .i64 m, .int .i64 m] 3)
      have P8 := Z7.putMks (mxs' := mxs ++ [.int .i64 m, .int .i64 m, .int .i64 m, .int .i64 m]) hg8 (by rw [List.length_append]; exact hown8)
      have B8 : Blk w8 b (bookV (.slice ta (txs.length + 4) tc) mv m) 29 := by
        have := Z7.blk
        unfold Blk at this ⊢
        rw [hg8.block b Z7.blk.lt (by
          cases ht : mv.ownBlock with
          | none => simp
          | some g => obtain ⟨cur, hc⟩ := own_tag Z7.mks ht; intro e; exact tag_ne Z7.blk hc (by decide) (Option.some.inj e))]; exact this
      have HL8 : Hid (Below base w w8) := (HL7.out.alloc (by rw [size_set6]; omega) _).grown hg8 (by simp only [World.size_alloc, size_set6]; omega) (fun q hq => (HB7.out.mks.lt q hq).1)
      have HL9 : Hid (Below base w (w8.setCell ⟨b, 1, none⟩ (.slice ma (mxs.length + 4) mc))) := HL8.out.setCell (p := ⟨b, 1, none⟩) HBlow.out _
      have HB9 := hd P8.1
      have HF9 : Hid (∀ u q, FullV w5 u q m → FullV (w8.setCell ⟨b, 1, none⟩ (.slice ma (mxs.length + 4) mc)) u q m) := fun u q hu => P8.2 u q m ((HF7.out u q m (hu.keep (fun g hg => Below.heap_alloc w5 _ g (hu.lt g hg).1))).keep (fun g hg => Below.heap_alloc _ _ g ((HF7.out u q m (hu.keep (fun g hg => Below.heap_alloc w5 _ g (hu.lt g hg).1))).lt g hg).1))
      have s1 : w8.cell? ⟨b, 1, none⟩ = some mv := B8.cell 1
      have s2 := B8.free 1
      clear hown8 hg8 P8 Z7 B8 r0 r1 r2 r3
      go_wp2
      go_end0
      refine ⟨rfl, .slice a1 (n + 1) p1, .slice a2 (n + 2) p2, .slice a3 (n + 3) p3, .slice ta (txs.length + 4) tc, .slice ma (mxs.length + 4) mc, ?_, HL9.out⟩
      rw [← HMM.out]
      have K := HB9.out
      refine ⟨K.blk, K.low, K.toks, K.mks, ?_, ?_⟩
      · intro e he
        simp only [List.mem_append, List.mem_cons, List.not_mem_nil, or_false] at he
        rcases he with he | rfl | rfl | rfl | rfl
        · exact K.full e he
        · exact ⟨HF9.out _ _ HF5.out, by show n ≤ 2010; omega⟩
        · exact ⟨HF9.out _ _ HO5.out.1, by show n + 1 ≤ 2010; omega⟩
        · exact ⟨HF9.out _ _ HTw5.out.1, by show n + 2 ≤ 2010; omega⟩
        · exact ⟨HF9.out _ _ HTh5.out.1, by show n + 3 ≤ 2010; omega⟩
      · intro e he
        simp only [List.mem_append, List.mem_cons, List.not_mem_nil, or_false] at he
        rcases he with he | rfl | rfl | rfl | rfl
        · exact K.own e he
        · exact HLow.out
        · exact HO5.out.2
        · exact HTw5.out.2
        · exact HTh5.out.2

/-- 'ownsTokens': whatever the list. -/
theorem owns_any (w : World) (base b : Nat) (es : List En) (txs mxs : List Value) (nx : Int) (tv mv : Value) (h : Bk w base b es txs mxs nx tv mv) (v : Value) (n : Nat) (xs : List Value) (hn : n ≤ 2000)
    (hv : w.ownsRow base 43 3 v n xs) (hnew : ∀ e ∈ es, ∀ g, e.v.ownBlock = some g → v.ownBlock ≠ some g)
    (ht : txs.length ≤ 10000000) (hm : mxs.length ≤ 10000000) (hx1 : -100000000 ≤ nx) (hx2 : nx ≤ 0) (hbw : base ≤ w.heap.size) :
    Calls Tryd.prog 9 #[.pointer (some ⟨b, 0, none⟩), v] w fun e w' => e = .returned (.tuple #[]) ∧ OwnsV w base b es txs mxs nx v n w' := by
  have hp := PartV.start hv (nx - 1)
  have hl := fun g hg => (hv.lt g hg).1
  rcases hv.2 with ⟨rfl, hn0⟩ | ⟨g, cap, cur, rfl, _⟩
  · exact owns_nil w base b es txs mxs nx tv mv h n hn hp hl hnew ht hm hx1 hx2 hbw (by omega)
  · exact owns_some w base b es txs mxs nx tv mv h g cap n hn hp hl hnew ht hm hx1 hx2 hbw

end Go.Proofs.YtihchcoclncjdaaDoor
