/- The statement's own ownsTokens: a list is written full, and the book holds it. -/
import Derived.Test.YtihchcoclncjdaaDoorLawB
import Derived.WalkLawsBesides
namespace Go.Proofs.YtihchcoclncjdaaDoor
open Go.RowKit
set_option linter.unusedSimpArgs false
set_option linter.unusedVariables false

/-- A law for the walk: append of marks. -/
theorem wpList_append_mark {ops : Array Oper} {rest : List Oper} {o : Oper} {a : Act} {w : World} {Q : Exit → Act → World → Prop} (hgd : o.guard = none) (s x : Operand)
    (ho : o.op = .call { callee := .builtin .append, args := #[s, x], argTypes := #[33, 33] })
    (m : Int) (v : Value) (n k : Nat) (hs : a.eval s = v) (hv : FullV w v n m) (ad : Addr) (c : Nat) (hx : a.eval x = .slice (some ad) k c) (hnews : ∀ j u, (marks m k)[j]? = some u → w.cell? (ad.add j) = some u) (hn : n + k ≤ 1000000)
    (h : ∀ (ao : Option Addr) (cp : Nat) w', FullV w' (.slice ao (n + k) cp) (n + k) m → w.grownBy w' v.ownBlock → (∀ u q, FullV w u q m → FullV w' u q m) → (Value.ownBlock (.slice ao (n + k) cp) = v.ownBlock ∨ ∀ g, Value.ownBlock (.slice ao (n + k) cp) = some g → w.heap.size ≤ g) → wpList Tryd.prog ops Q rest (a.put o.dst (.slice ao (n + k) cp)) w') : wpList Tryd.prog ops Q (o :: rest) a w := by
  refine wpList_plain hgd fun K hK => ?_
  obtain ⟨v', w', hr, h1, h2, h3, h4⟩ := run_append_mark w o.type m v n k hv ad c hnews hn
  obtain ⟨ao, cp, rfl⟩ : ∃ ao cp, v' = .slice ao (n + k) cp := by
    rcases h1 with ⟨q, e⟩ | ⟨g, cap, cur, q, _⟩
    · exact ⟨none, 0, by rw [q, e]⟩
    · exact ⟨_, _, q⟩
  unfold Oper.wp execOp
  simp only [ho, resolve, invoke, builtin, Sem.run_bind, Sem.run_pure, Result.andThen_ok, List.map_toArray, List.map_cons, List.map_nil, hs, hx, hr]
  exact hK _ _ (h ao cp w' h1 h2 h3 h4)

theorem tag_ne {w : World} {g g' : Nat} {cur cur' : Array Value} {e e' : TypeId} {fr fr' : Nat × Nat} (h : w.heap[g]? = some (.cells cur e fr)) (h' : w.heap[g']? = some (.cells cur' e' fr')) (hne : e ≠ e') : g ≠ g' := by
  rintro rfl
  rw [h] at h'
  simp at h'
  exact hne h'.2.1

theorem own_tag {w : World} {base : Nat} {e : TypeId} {size : Nat} {v : Value} {n : Nat} {xs : List Value} (h : w.ownsRow base e size v n xs) {g : Nat} (hg : v.ownBlock = some g) : ∃ cur, w.heap[g]? = some (.cells cur e (0, 0)) := by
  rcases h.2 with ⟨rfl, _⟩ | ⟨g', cap, cur, rfl, _, hh, _⟩
  · simp [Value.ownBlock] at hg
  · simp [Value.ownBlock] at hg
    subst hg
    exact ⟨cur, hh⟩

/-- A list that the book holds: the slice, its mark, how many. -/
structure En where
  v : Value
  m : Int
  n : Nat

/-- The book in block b, its two rows being whatever. -/
structure Bk (w : World) (base b : Nat) (es : List En) (txs mxs : List Value) (nx : Int) (tv mv : Value) : Prop where
  blk : Blk w b (bookV tv mv nx) 29
  low : base ≤ b
  toks : w.ownsRow base 33 1 tv txs.length txs
  mks : w.ownsRow base 3 1 mv mxs.length mxs
  full : ∀ e ∈ es, FullV w e.v e.n e.m ∧ e.n ≤ 2010
  own : ∀ e ∈ es, ∀ g, e.v.ownBlock = some g → base ≤ g

section
variable {w w' : World} {base b : Nat} {es : List En} {txs mxs : List Value} {nx : Int} {tv mv : Value}

theorem Bk.kept {row : Option Nat} (h : Bk w base b es txs mxs nx tv mv) (hg : w.grownBy w' row) (h0 : some b ≠ row) (h1 : tv.ownBlock = none ∨ tv.ownBlock ≠ row) (h2 : mv.ownBlock = none ∨ mv.ownBlock ≠ row) (h3 : ∀ e ∈ es, ∀ g, e.v.ownBlock = some g → some g ≠ row) : Bk w' base b es txs mxs nx tv mv := by
  refine ⟨?_, h.low, h.toks.kept hg h1, h.mks.kept hg h2, fun e he => ⟨(h.full e he).1.keep (fun g hgg => ?_), (h.full e he).2⟩, h.own⟩
  · have := h.blk
    unfold Blk at this ⊢
    rw [hg.block b h.blk.lt h0]; exact this
  · exact hg.block g ((h.full e he).1.lt g hgg).1 (h3 e he g hgg)

theorem Bk.below (h : Bk w base b es txs mxs nx tv mv) (hb : Below w.heap.size w w') : Bk w' base b es txs mxs nx tv mv :=
  h.kept (row := none) (Below.grownBy hb) (by simp) (by cases tv.ownBlock <;> simp) (by cases mv.ownBlock <;> simp) (fun _ _ _ _ => by simp)
theorem Bk.alloc (h : Bk w base b es txs mxs nx tv mv) (o : Obj) : Bk (w.alloc o) base b es txs mxs nx tv mv := h.below ((Below.refl _ _).alloc (Nat.le_refl _) _)
theorem Bk.drew (h : Bk w base b es txs mxs nx tv mv) : Bk w.drew base b es txs mxs nx tv mv := h.below (Below.refl _ _).drew

theorem Bk.tv_ne (h : Bk w base b es txs mxs nx tv mv) {g : Nat} {cur : Array Value} {e : TypeId} {fr : Nat × Nat} (hc : w.heap[g]? = some (.cells cur e fr)) (he : e ≠ 33) : tv.ownBlock = none ∨ tv.ownBlock ≠ some g := by
  cases ht : tv.ownBlock with
  | none => exact .inl rfl
  | some g' =>
    right; intro q
    obtain rfl := Option.some.inj q
    obtain ⟨cur', hc'⟩ := own_tag h.toks ht
    exact tag_ne hc hc' he rfl
theorem Bk.mv_ne (h : Bk w base b es txs mxs nx tv mv) {g : Nat} {cur : Array Value} {e : TypeId} {fr : Nat × Nat} (hc : w.heap[g]? = some (.cells cur e fr)) (he : e ≠ 3) : mv.ownBlock = none ∨ mv.ownBlock ≠ some g := by
  cases ht : mv.ownBlock with
  | none => exact .inl rfl
  | some g' =>
    right; intro q
    obtain rfl := Option.some.inj q
    obtain ⟨cur', hc'⟩ := own_tag h.mks ht
    exact tag_ne hc hc' he rfl
theorem Bk.es_ne (h : Bk w base b es txs mxs nx tv mv) {g' : Nat} {cur : Array Value} {e : TypeId} {fr : Nat × Nat} (hc : w.heap[g']? = some (.cells cur e fr)) (he : e ≠ 43) : ∀ x ∈ es, ∀ g, x.v.ownBlock = some g → some g ≠ some g' := by
  intro x hx g hg q
  obtain rfl := Option.some.inj q
  obtain ⟨_, cur', hc'⟩ := (h.full x hx).1.lt g hg
  exact tag_ne hc hc' he rfl

/-- A row of tokens that no entry holds: writes there leave the book. -/
theorem Bk.row {v : Value} (h : Bk w base b es txs mxs nx tv mv) (hg : w.grownBy w' v.ownBlock) (hv : ∀ g, v.ownBlock = some g → ∃ cur, w.heap[g]? = some (.cells cur 43 (0, 0))) (h3 : ∀ e ∈ es, ∀ g, e.v.ownBlock = some g → v.ownBlock ≠ some g) : Bk w' base b es txs mxs nx tv mv := by
  cases hvb : v.ownBlock with
  | none =>
    rw [hvb] at hg
    exact h.kept hg (by simp) (by cases tv.ownBlock <;> simp) (by cases mv.ownBlock <;> simp) (fun _ _ _ _ => by simp)
  | some gv =>
    rw [hvb] at hg h3
    obtain ⟨cur, hc⟩ := hv gv hvb
    refine h.kept hg ?_ (h.tv_ne hc (by decide)) (h.mv_ne hc (by decide)) (fun e he g hgg => Ne.symm (h3 e he g hgg))
    intro e
    obtain rfl := Option.some.inj e
    exact tag_ne h.blk hc (by decide) rfl

/-- The book's own cells are written. -/
theorem Bk.count (h : Bk w base b es txs mxs nx tv mv) (nx' : Int) : Bk (w.setCell ⟨b, 6, none⟩ (.int .i64 nx')) base b es txs mxs nx' tv mv := by
  have hk := h.kept (row := some b) (w' := w.setCell ⟨b, 6, none⟩ (.int .i64 nx'))
    ⟨rfl, rfl, rfl, by simp [World.setCell], fun k _ hne => Below.heap_setCell w _ _ k (by simpa using hne)⟩
  have hb := h.blk
  have ht := h.toks.kept (row := some b) (w' := w.setCell ⟨b, 6, none⟩ (.int .i64 nx')) ⟨rfl, rfl, rfl, by simp [World.setCell], fun k _ hne => Below.heap_setCell w _ _ k (by simpa using hne)⟩ (h.tv_ne hb (by decide))
  have hm := h.mks.kept (row := some b) (w' := w.setCell ⟨b, 6, none⟩ (.int .i64 nx')) ⟨rfl, rfl, rfl, by simp [World.setCell], fun k _ hne => Below.heap_setCell w _ _ k (by simpa using hne)⟩ (h.mv_ne hb (by decide))
  refine ⟨hb.set 6 _, h.low, ht, hm, fun e he => ⟨(h.full e he).1.keep (fun g hgg => ?_), (h.full e he).2⟩, h.own⟩
  exact Below.heap_setCell w _ _ g (by have := h.es_ne hb (by decide) e he g hgg; simpa using this)

theorem Bk.putToks (h : Bk w base b es txs mxs nx tv mv) {tv' : Value} {txs' : List Value} (hg : w.grownBy w' tv.ownBlock) (ho : w'.ownsRow base 33 1 tv' txs'.length txs') :
    Bk (w'.setCell ⟨b, 0, none⟩ tv') base b es txs' mxs nx tv' mv ∧ ∀ u q m, FullV w u q m → FullV (w'.setCell ⟨b, 0, none⟩ tv') u q m := by
  have hbb : w'.heap[b]? = w.heap[b]? := hg.block b h.blk.lt (by
    cases ht : tv.ownBlock with
    | none => simp
    | some g => obtain ⟨cur, hc⟩ := own_tag h.toks ht; intro e; exact tag_ne h.blk hc (by decide) (Option.some.inj e))
  have hb' : Blk w' b (bookV tv mv nx) 29 := by unfold Blk; rw [hbb]; exact h.blk
  have hm' := h.mks.kept hg (by
    cases ht : tv.ownBlock with
    | none => cases mv.ownBlock <;> simp
    | some g => obtain ⟨cur, hc⟩ := own_tag h.toks ht; exact h.mv_ne hc (by decide))
  have hset : w'.grownBy (w'.setCell ⟨b, 0, none⟩ tv') (some b) := ⟨rfl, rfl, rfl, by simp [World.setCell], fun k _ hne => Below.heap_setCell w' _ _ k (by simpa using hne)⟩
  have hfull : ∀ u q m, FullV w u q m → FullV (w'.setCell ⟨b, 0, none⟩ tv') u q m := by
    intro u q m hu
    refine hu.keep (fun g hgg => ?_)
    obtain ⟨hlt, cur, hc⟩ := hu.lt g hgg
    rw [Below.heap_setCell w' _ _ g (fun e => tag_ne hc h.blk (by decide) e)]
    exact hg.block g hlt (by
      cases ht : tv.ownBlock with
      | none => simp
      | some g' => obtain ⟨cur', hc'⟩ := own_tag h.toks ht; intro e; exact tag_ne hc hc' (by decide) (Option.some.inj e))
  refine ⟨⟨hb'.set 0 _, h.low, ?_, ?_, fun e he => ⟨hfull _ _ _ (h.full e he).1, (h.full e he).2⟩, h.own⟩, hfull⟩
  · refine ho.kept hset ?_
    cases ht : tv'.ownBlock with
    | none => exact .inl rfl
    | some g => right; intro e; obtain ⟨cur, hc⟩ := own_tag ho ht; exact tag_ne hc hb' (by decide) (Option.some.inj e)
  · refine hm'.kept hset ?_
    cases ht : mv.ownBlock with
    | none => exact .inl rfl
    | some g => right; intro e; obtain ⟨cur, hc⟩ := own_tag hm' ht; exact tag_ne hc hb' (by decide) (Option.some.inj e)

theorem Bk.putMks (h : Bk w base b es txs mxs nx tv mv) {mv' : Value} {mxs' : List Value} (hg : w.grownBy w' mv.ownBlock) (ho : w'.ownsRow base 3 1 mv' mxs'.length mxs') :
    Bk (w'.setCell ⟨b, 1, none⟩ mv') base b es txs mxs' nx tv mv' ∧ ∀ u q m, FullV w u q m → FullV (w'.setCell ⟨b, 1, none⟩ mv') u q m := by
  have hbb : w'.heap[b]? = w.heap[b]? := hg.block b h.blk.lt (by
    cases ht : mv.ownBlock with
    | none => simp
    | some g => obtain ⟨cur, hc⟩ := own_tag h.mks ht; intro e; exact tag_ne h.blk hc (by decide) (Option.some.inj e))
  have hb' : Blk w' b (bookV tv mv nx) 29 := by unfold Blk; rw [hbb]; exact h.blk
  have hm' := h.toks.kept hg (by
    cases ht : mv.ownBlock with
    | none => cases tv.ownBlock <;> simp
    | some g => obtain ⟨cur, hc⟩ := own_tag h.mks ht; exact h.tv_ne hc (by decide))
  have hset : w'.grownBy (w'.setCell ⟨b, 1, none⟩ mv') (some b) := ⟨rfl, rfl, rfl, by simp [World.setCell], fun k _ hne => Below.heap_setCell w' _ _ k (by simpa using hne)⟩
  have hfull : ∀ u q m, FullV w u q m → FullV (w'.setCell ⟨b, 1, none⟩ mv') u q m := by
    intro u q m hu
    refine hu.keep (fun g hgg => ?_)
    obtain ⟨hlt, cur, hc⟩ := hu.lt g hgg
    rw [Below.heap_setCell w' _ _ g (fun e => tag_ne hc h.blk (by decide) e)]
    exact hg.block g hlt (by
      cases ht : mv.ownBlock with
      | none => simp
      | some g' => obtain ⟨cur', hc'⟩ := own_tag h.mks ht; intro e; exact tag_ne hc hc' (by decide) (Option.some.inj e))
  refine ⟨⟨hb'.set 1 _, h.low, ?_, ?_, fun e he => ⟨hfull _ _ _ (h.full e he).1, (h.full e he).2⟩, h.own⟩, hfull⟩
  · refine hm'.kept hset ?_
    cases ht : tv.ownBlock with
    | none => exact .inl rfl
    | some g => right; intro e; obtain ⟨cur, hc⟩ := own_tag hm' ht; exact tag_ne hc hb' (by decide) (Option.some.inj e)
  · refine ho.kept hset ?_
    cases ht : mv'.ownBlock with
    | none => exact .inl rfl
    | some g => right; intro e; obtain ⟨cur, hc⟩ := own_tag ho ht; exact tag_ne hc hb' (by decide) (Option.some.inj e)
end

/-- A list of which the first k tokens are the mark. -/
def PartV (w : World) (v : Value) (n k : Nat) (m : Int) : Prop :=
  (v = .slice none 0 0 ∧ n = 0) ∨ ∃ g cap cur, v = .slice (some ⟨g, 0, none⟩) n cap ∧ w.heap[g]? = some (.cells cur 43 (0, 0)) ∧ n ≤ cap ∧ cap ≤ maxLen ∧ cur.size = cap * 3 ∧ ∀ j, j < k * 3 → cur[j]? = some (mcell m j)

theorem PartV.start {w : World} {base n : Nat} {v : Value} {xs : List Value} (h : w.ownsRow base 43 3 v n xs) (m : Int) : PartV w v n 0 m := by
  rcases h.2 with hn | ⟨g, cap, cur, rfl, hb, hg, h1, h2, h3, h4⟩
  · exact .inl hn
  · exact .inr ⟨g, cap, cur, rfl, hg, h1, h2, h3, fun j hj => by omega⟩
theorem PartV.done {w : World} {n : Nat} {v : Value} {m : Int} (h : PartV w v n n m) : FullV w v n m := h
theorem PartV.keep {w w' : World} {v : Value} {n k : Nat} {m : Int} (h : PartV w v n k m) (hk : ∀ g, v.ownBlock = some g → w'.heap[g]? = w.heap[g]?) : PartV w' v n k m := by
  rcases h with h | ⟨g, cap, cur, rfl, hg, r⟩
  · exact .inl h
  · exact .inr ⟨g, cap, cur, rfl, by rw [hk g rfl]; exact hg, r⟩

/-- One token more is written. -/
theorem PartV.step {w : World} {n k : Nat} {g cap : Nat} {m : Int} (h : PartV w (.slice (some ⟨g, 0, none⟩) n cap) n k m) (hk : k < n) :
    PartV (((w.setCell ⟨g, k * 3, none⟩ (.int .i64 m)).setCell ⟨g, k * 3 + 1, none⟩ (.string ⟨#[]⟩)).setCell ⟨g, k * 3 + 2, none⟩ (.int .i64 m)) (.slice (some ⟨g, 0, none⟩) n cap) n (k + 1) m := by
  rcases h with ⟨h, _⟩ | ⟨g', cap', cur, e, hg, h1, h2, h3, h4⟩
  · simp at h
  · simp only [Value.slice.injEq, Option.some.injEq, Addr.mk.injEq, true_and, and_true] at e
    obtain ⟨rfl, rfl⟩ := e
    have hb : Blk w g cur 43 := hg
    have hb3 := ((hb.set (k * 3) (.int .i64 m)).set (k * 3 + 1) (.string ⟨#[]⟩)).set (k * 3 + 2) (.int .i64 m)
    refine .inr ⟨g, cap, _, rfl, hb3, h1, h2, by simp [h3], fun j hj => ?_⟩
    rw [Array.getElem?_setIfInBounds, Array.getElem?_setIfInBounds, Array.getElem?_setIfInBounds]
    simp only [Array.size_setIfInBounds]
    by_cases j2 : k * 3 + 2 = j
    · subst j2
      rw [if_pos rfl, if_pos (by omega)]; unfold mcell; rw [if_neg (by omega)]
    · rw [if_neg j2]
      by_cases j1 : k * 3 + 1 = j
      · subst j1
        rw [if_pos rfl, if_pos (by omega)]; unfold mcell; rw [if_pos (by omega)]
      · rw [if_neg j1]
        by_cases j0 : k * 3 = j
        · subst j0
          rw [if_pos rfl, if_pos (by omega)]; unfold mcell; rw [if_neg (by omega)]
        · rw [if_neg j0]; exact h4 j (by omega)

theorem PartV.cells {w : World} {n k : Nat} {g cap : Nat} {m : Int} (h : PartV w (.slice (some ⟨g, 0, none⟩) n cap) n k m) (hk : k < n) : (∀ i, i < 3 → ∃ x, w.cell? ⟨g, k * 3 + i, none⟩ = some x) ∧ (∀ i, w.frozen? ⟨g, i, none⟩ = false) ∧ n ≤ cap ∧ cap ≤ maxLen := by
  rcases h with ⟨h, _⟩ | ⟨g', cap', cur, e, hg, h1, h2, h3, h4⟩
  · simp at h
  · simp only [Value.slice.injEq, Option.some.injEq, Addr.mk.injEq, true_and, and_true] at e
    obtain ⟨rfl, rfl⟩ := e
    have hb : Blk w g cur 43 := hg
    refine ⟨fun i hi => ?_, fun i => hb.free i, h1, h2⟩
    rw [hb.cell, Array.getElem?_eq_getElem (by omega)]
    exact ⟨_, rfl⟩

theorem grownBy_set3 (w : World) (g i : Nat) (x y z : Value) : w.grownBy (((w.setCell ⟨g, i, none⟩ x).setCell ⟨g, i + 1, none⟩ y).setCell ⟨g, i + 2, none⟩ z) (some g) :=
  ⟨rfl, rfl, rfl, by simp [World.setCell], fun k _ hne => by
    have hk : k ≠ g := by simpa using hne
    rw [Below.heap_setCell _ _ _ _ hk, Below.heap_setCell _ _ _ _ hk, Below.heap_setCell _ _ _ _ hk]⟩

end Go.Proofs.YtihchcoclncjdaaDoor
