/- What the listed package variables hold, off the row's own list: the tables of unicode/utf8, the keywords, the signs. -/
import Derived.Test.YtihchcoclncjdaaDoorLawF
import Derived.Test.YtihchcoclncjdaaDoorRows
import Derived.Lib.LaidU8T
import Derived.PinnedBridge
namespace Go.Proofs.YtihchcoclncjdaaDoor
open Go.RowKit Go.Shelf Go.Lib
set_option linter.unusedSimpArgs false

theorem bytes_eq {s : ByteArray} {x : List UInt8} (h : s.data.toList = x) : s = ⟨x.toArray⟩ := by
  cases s with
  | mk d => cases d with
    | mk l => simp at h; subst h; rfl

/-- An array of strings that reads as these texts holds them, cell for cell. -/
theorem strs_of_reads {P : Program} {w : World} {nm : String} {g m : Nat} {t e : TypeId} (ss : List (List UInt8)) (hg : P.globalNamed nm = some g) (hty : (P.globals[g]?).map (·.type) = some t)
    (ht : P.underlying t = some (.array m e)) (he : P.underlying e = some .string) (hce : P.cellsOf e = 1) (hct : P.cellsOf t = m)
    (h : VarReads P w nm (.agg (ss.map fun x => .lit (.string x)))) : ∃ t' fr, w.heap[g]? = some (.cells (strRow ss) t' fr) := by
  obtain ⟨g', t', cs, fuel, p, hg', hty', hvar, hd⟩ := h
  obtain rfl := Option.some.inj (hg.symm.trans hg')
  obtain rfl := Option.some.inj (hty.symm.trans hty')
  have hcs : cs = strRow ss := by
    cases fuel with
    | zero => simp [DataW.trod] at hd
    | succ fuel =>
      simp only [DataW.trod, ht, hce, hct, Nat.mul_one] at hd
      split at hd
      · rename_i hl
        obtain ⟨xs, hm, hx⟩ := Option.map_eq_some_iff.1 hd
        have hxs : xs.map (·.1) = ss.map fun x => (DataW.lit (.string x) : DataW Unit) := by
          have := congrArg Prod.fst hx
          simpa using this
        have hxl : xs.length = m := by simpa using mapM_length hm
        have hzl : ss.length = m := by
          have := congrArg List.length hxs
          simp at this
          omega
        apply Array.ext'
        apply List.ext_getElem?
        intro i
        by_cases hi : i < m
        · obtain ⟨b, hb, hf⟩ := mapM_at hm i i (by simp [hi])
          obtain ⟨s, hc, rfl, _⟩ := DataW.trod_string he hf
          have h1 : cs.toList[i]? = some (.string s) := by
            have := congrArg (·[0]?) hc
            simpa [List.getElem?_take, List.getElem?_drop] using this
          have h2 : (xs.map (·.1))[i]? = some (DataW.lit (.string s.data.toList) : DataW Unit) := by simp [hb]
          rw [hxs] at h2
          simp only [List.getElem?_map, Option.map_eq_some_iff, DataW.lit.injEq, Lit.string.injEq] at h2
          obtain ⟨x, hx', hxx⟩ := h2
          rw [h1, bytes_eq hxx.symm]
          simp [strRow, hx']
        · rw [List.getElem?_eq_none (by omega), List.getElem?_eq_none (by simp [strRow]; omega)]
      · cases hd
  subst hcs
  simp only [World.var?, hg, Option.bind_some] at hvar
  split at hvar
  · rename_i c t2 fr hh
    cases hvar
    exact ⟨t2, fr, hh⟩
  · cases hvar

theorem u8types : U8Types Tryd.prog Tryd.lays197_ren := ⟨by kernel_rfl, by kernel_rfl, by kernel_rfl, by kernel_rfl⟩
theorem u8extra : U8Extra Tryd.prog Tryd.lays197_ren := ⟨by kernel_rfl, by kernel_rfl, by kernel_rfl, by kernel_rfl, by kernel_rfl, by kernel_rfl, by kernel_rfl⟩
set_option maxRecDepth 100000 in
theorem accept_eq : (Rows.laid_unicode_utf8_acceptRanges : DataW Unit) = acceptData := by kernel_rfl
theorem first_eq : Rows.laid_unicode_utf8_first = firstData := Pinned.utf8First_eq
theorem keys_eq : (Rows.laid_clause_reader_keywords : DataW Unit) = .agg (Lx.keys.map fun x => .lit (.string x)) := by kernel_rfl
theorem signs_eq : (Rows.laid_clause_reader_signs : DataW Unit) = .agg (sgns.map fun x => .lit (.string x)) := by kernel_rfl

theorem room_of_shape {W : World} (h : W.ShapedOpen Tryd.prog) : 6 ≤ W.heap.size := by
  have hz : (((begin Tryd.prog (fun _ _ => 0) default).world.heap[5]?).bind Obj.row?).isSome = true := by kernel_rfl
  obtain ⟨⟨zero, t⟩, he⟩ := Option.isSome_iff_exists.1 hz
  obtain ⟨cs, hc, _⟩ := h.1 5 zero t (of_decide_eq_true (by kernel_rfl)) he
  obtain ⟨hlt, _⟩ := Array.getElem?_eq_some_iff.1 hc
  exact hlt

theorem env_of_reads {W : World} (ha : VarReads Tryd.prog W "unicode/utf8.acceptRanges" Rows.laid_unicode_utf8_acceptRanges) (hk : VarReads Tryd.prog W "clause/reader.keywords" Rows.laid_clause_reader_keywords)
    (hs : VarReads Tryd.prog W "clause/reader.signs" Rows.laid_clause_reader_signs) (hf : VarReads Tryd.prog W "unicode/utf8.first" Rows.laid_unicode_utf8_first) (hsh : W.ShapedOpen Tryd.prog) : Env W where
  tabs := utf8Tabs_of_readsT u8types u8extra (first_eq ▸ hf) (accept_eq ▸ ha)
  kws := strs_of_reads (t := 106) (e := 9) (m := 27) Lx.keys (by kernel_rfl) (by kernel_rfl) (by kernel_rfl) (by kernel_rfl) (by kernel_rfl) (by kernel_rfl) (keys_eq ▸ hk)
  sgs := strs_of_reads (t := 92) (e := 9) (m := 16) sgns (by kernel_rfl) (by kernel_rfl) (by kernel_rfl) (by kernel_rfl) (by kernel_rfl) (by kernel_rfl) (signs_eq ▸ hs)
  room := room_of_shape hsh
end Go.Proofs.YtihchcoclncjdaaDoor
