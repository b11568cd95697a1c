/- Contracts of the program's own reader: quoted, quotedName. -/
import Derived.Test.YtihchcoclncjdaaDoorCodeD
import Derived.Test.YtihchcoclncjdaaDoorCodeC
import Derived.Test.YtihchcoclncjdaaDoorQuote
namespace Go.Proofs.YtihchcoclncjdaaDoor
open Go.RowKit
set_option linter.unusedSimpArgs false
set_option linter.unusedVariables false

theorem Rd.under {w w' : World} {B N : Nat} {s : ByteArray} {k st : Nat} (h : Rd w B s k st) (hb : Below N w w') (hB : B < N) : Rd w' B s k st := by
  have hlow := h.low
  have hk : ∀ i, i < 6 → w'.heap[i]? = w.heap[i]? := fun i hi => hb.block i (by omega)
  refine ⟨h.blk.below hb hB, h.low, ⟨⟨fun c hc => ?_, fun i hi => ?_⟩, ?_, ?_, Nat.le_trans h.env.room hb.size⟩, h.le, h.small⟩
  · rw [World.cell?_of_block (w := w) (hk _ (by simp))]; exact h.env.tabs.1 c hc
  · rw [World.cell?_of_block (w := w) (hk _ (by simp)), World.cell?_of_block (w := w) (hk _ (by simp))]; exact h.env.tabs.2 i hi
  · rw [hk _ (by simp)]; exact h.env.kws
  · rw [hk _ (by simp)]; exact h.env.sgs

theorem grownBy_under {w w1 w2 : World} {N : Nat} {row : Option Nat} (h : w.grownBy w1 row) (hb : Below N w1 w2) (hN : w.heap.size ≤ N) : w.grownBy w2 row :=
  ⟨hb.os.trans h.os, hb.tape.trans h.tape, hb.output.trans h.output, Nat.le_trans h.size hb.size, fun k hk hne => (hb.block k (by omega)).trans (h.block k hk hne)⟩

theorem builder_kept {T e : TypeId} {N b B : Nat} {bs : List Value} {w w' : World} (h : Lib.IsBuilderF T e N b bs w) (hg : w.grownBy w' (some B)) (hB : B < N) : Lib.IsBuilderF T e N b bs w' := by
  have one : ∀ p, Lib.BuilderAtF T e N b p bs w → Lib.BuilderAtF T e N b p bs w' := by
    rintro p ⟨hNb, v, hb, hown, hne⟩
    refine ⟨hNb, v, ?_, hown.kept hg ?_, hne⟩
    · rw [hg.block b (Array.getElem?_eq_some_iff.1 hb).1 (by simp; omega)]; exact hb
    · cases hv : v.ownBlock with
      | none => exact .inl rfl
      | some g => right; have := (hown.lt g hv).1; simp; omega
  exact h.elim (fun x => .inl (one _ x)) (fun x => .inr (one _ x))

theorem builder_new (w : World) (T e : TypeId) : Lib.IsBuilderF T e w.heap.size w.heap.size [] (w.alloc (.cells #[.pointer none, .slice none 0 0] T)) :=
  .inl ⟨Nat.le_refl _, .slice none 0 0, heap_alloc_new w _, World.ownsRowF_nil _ _ _ _, by simp [Value.ownBlock]⟩

/-- The rune next is the mark just where the byte is. -/
theorem peek_mark (s : ByteArray) (k : Nat) (m : UInt8) (hm : m.toNat < 128) : (peekN s k).1 = (m.toNat : Int) ↔ (s.data.toList.drop k).head? = some m := by
  unfold peekN
  by_cases hk : k < s.size
  · rw [if_pos hk, drop_at s k hk, List.head?_cons, ← drop_at s k hk]
    by_cases hc : Lx.charN (s.data.toList.drop k) = 0
    · rw [if_pos hc]
      have := (dec_bad s k hk hc).2
      constructor
      · intro e; simp at e
      · intro e; simp at e; rw [e] at this; omega
    · rw [if_neg hc]
      rcases (dec_good s k hk hc).2.2 with ⟨_, q2, q3⟩ | ⟨_, q2, q3⟩
      · simp only
        rw [q2]
        constructor
        · intro e; congr 1; exact UInt8.toNat_inj.1 (by omega)
        · intro e; simp at e; rw [e]
      · simp only
        constructor
        · intro e; omega
        · intro e; simp at e; rw [e] at q3; omega
  · rw [if_neg hk, List.drop_eq_nil_of_le (by simp; have : s.data.size = s.size := rfl; omega)]
    simp

theorem enc_mark (m : UInt8) (hm : m.toNat < 128) : Lib.byteCells [m] = Lib.runeCells (m.toNat : Int) := by
  rw [← Lib.byteCells_encodeRune]
  unfold Lib.encodeRune
  rw [Lib.encodeRuneZ_one (by omega) (by omega)]
  simp

set_option maxRecDepth 100000 in
set_option maxHeartbeats 4000000 in
theorem quoted_any (w : World) (B : Nat) (s : ByteArray) (k st : Nat) (h : Rd w B s k st) (hk : k < s.size) (hm : s[k].toNat < 128) (hm0 : s[k].toNat ≠ 0) :
    Calls Tryd.prog 43 #[.pointer (some ⟨B, 0, none⟩)] w (Told (quoteR s k s[k]) w B s k st outOne) := by
  have hsm := h.small
  have hpk : peekN s k = ((s[k].toNat : Int), 1) := by
    have hc : Lx.charN (s.data.toList.drop k) = 1 := by rw [drop_at s k hk]; simp [Lx.charN, hm]
    unfold peekN
    rw [if_pos hk, hc, if_neg (by simp), decode_ascii s k hk hm]
  obtain ⟨m, hmm⟩ : ∃ m, m = s[k] := ⟨_, rfl⟩
  rw [← hmm] at hm hm0 hpk ⊢
  clear hmm
  have HPK := hd hpk
  clear hpk
  go_enter Tryd.func43, Tryd.ntmps43
  go_wp2_with fail
  refine (take_any w B s k st h).mono ?_
  rintro e w1 ⟨rfl, h1, g1⟩
  rw [HPK.out] at h1 ⊢
  simp only at h1 ⊢
  have hBlt : B < w1.heap.size := h1.blk.lt
  have hwle : w.heap.size ≤ w1.heap.size := g1.size
  have HG1 := hd g1
  clear g1
  go_wp2
  go_loopw [5] (fun _ wr => ∃ (j : Nat) (acc : Lx.Bs), Hid (Quo s k m j acc) ∧ Hid (Rd wr B s j st) ∧ Hid (w.grownBy wr (some B)) ∧ Hid (Lib.IsBuilderF 87 5 w1.heap.size w1.heap.size (Lib.byteCells acc) wr) ∧ w1.heap.size ≤ wr.heap.size) (fun _ wr => s.size - atOf wr B)
  case atStart => exact ⟨k + 1, [], Quo.start _ _ _, h1.below ((Below.refl _ _).alloc (Nat.le_refl _) _), grownBy_trans HG1.out (Below.grownBy ((Below.refl _ _).alloc (Nat.le_refl _) _)), builder_new _ _ _, by simp⟩
  case round =>
    obtain ⟨j, acc, HQ, HR, HG, HBd, hsz⟩ := hrel
    have hjle := HR.out.le
    have haccl := HQ.out.len
    go_wp2_with fail
    refine (take_any wr B s j st HR.out).mono ?_
    rintro e w2 ⟨rfl, h2, g2⟩
    have HG2 := hd (grownBy_trans HG.out g2)
    have HB2 := hd (builder_kept HBd.out g2 hBlt)
    have hsz2 : w1.heap.size ≤ w2.heap.size := Nat.le_trans hsz g2.size
    clear g2
    by_cases hjs : j < s.size
    · by_cases hc : Lx.charN (s.data.toList.drop j) = 0
      · have hp : peekN s j = (-2, 1) := by unfold peekN; rw [if_pos hjs, if_pos hc]
        have HF := hd (HQ.out.fail hm hm0 (.inr (.inl hc)))
        rw [hp] at h2 ⊢
        simp only at h2 ⊢
        clear hp hc
        go_wp2_with fail
        refine (fail_any _ B s (j + 1) st 2 h2).mono ?_
        rintro e w3 ⟨rfl, rfl⟩
        refine ⟨rfl, HG2.out, ?_⟩
        rw [HF.out]
        rfl
      · obtain ⟨d1, d2, d3⟩ := dec_good s j hjs hc
        have hp : peekN s j = (((Utf8.decode s j).1 : Int), Lx.charN (s.data.toList.drop j)) := by unfold peekN; rw [if_pos hjs, if_neg hc]
        by_cases h0 : s[j].toNat = 0
        · have hp0 : peekN s j = (0, 1) := by
            rw [hp]
            rcases d3 with ⟨q1, q2, _⟩ | ⟨_, _, q3⟩
            · rw [q1, q2, h0]; rfl
            · omega
          have HF := hd (HQ.out.fail hm hm0 (.inr (.inr (by rw [drop_at s j hjs, List.head?_cons]; congr 1; exact UInt8.toNat_inj.1 (by rw [h0]; rfl)))))
          rw [hp0] at h2 ⊢
          simp only at h2 ⊢
          clear hp hp0 hc d1 d2 d3 h0
          go_wp2_with fail
          refine (fail_any _ B s (j + 1) st 2 h2).mono ?_
          rintro e w3 ⟨rfl, rfl⟩
          refine ⟨rfl, HG2.out, ?_⟩
          rw [HF.out]
          rfl
        · by_cases hmk : s[j] = m
          · have hp0 : peekN s j = ((m.toNat : Int), 1) := by
              rw [hp]
              rcases d3 with ⟨q1, q2, _⟩ | ⟨_, _, q3⟩
              · rw [q1, q2, hmk]
              · rw [hmk] at q3; omega
            have HD : Hid (s.data.toList.drop j = m :: s.data.toList.drop (j + 1)) := (drop_at s j hjs).trans (by rw [hmk])
            rw [hp0] at h2 ⊢
            simp only at h2 ⊢
            clear hp hp0 hc d1 d2 d3 h0 hmk
            have n1 : ¬ (m.toNat : Int) = 0 := by omega
            go_wp2_with fail
            refine (peek_any _ B s (j + 1) st h2).mono ?_
            rintro e w3 ⟨rfl, hb3⟩
            have h3 := h2.below hb3
            have HG3 := hd (grownBy_trans HG2.out (Below.grownBy hb3))
            have HB3 := hd (builder_kept HB2.out (Below.grownBy (row := some B) hb3) hBlt)
            have hsz3 : w1.heap.size ≤ w3.heap.size := Nat.le_trans hsz2 hb3.size
            clear hb3
            have HM := hd (peek_mark s (j + 1) m hm)
            by_cases hnx : (s.data.toList.drop (j + 1)).head? = some m
            · have hj1 : j + 1 < s.size := by
                rcases Nat.lt_or_ge (j + 1) s.size with q | q
                · exact q
                · rw [List.drop_eq_nil_of_le (by simp; have : s.data.size = s.size := rfl; omega)] at hnx; simp at hnx
              have hsj : s[j + 1] = m := by rw [drop_at s (j + 1) hj1] at hnx; simpa using hnx
              have hc1 : Lx.charN (s.data.toList.drop (j + 1)) = 1 := by rw [drop_at s (j + 1) hj1, hsj]; simp [Lx.charN, hm]
              have hp1 : peekN s (j + 1) = ((m.toNat : Int), 1) := by
                unfold peekN
                rw [if_pos hj1, hc1, if_neg (by simp), decode_ascii s (j + 1) hj1 (by rw [hsj]; exact hm), hsj]
              have HQ2 := hd (HQ.out.double (r := s.data.toList.drop (j + 2)) hm hm0 (by rw [HD.out, drop_at s (j + 1) hj1, hsj]))
              have HP1 := hd hp1
              rw [hp1]
              simp only
              clear hnx hsj hc1 hp1
              go_wp2_with fail
              refine (take_any w3 B s (j + 1) st h3).mono ?_
              rintro e w4 ⟨rfl, h4, g4⟩
              rw [HP1.out] at h4 ⊢
              simp only at h4 ⊢
              have HG4 := hd (grownBy_trans HG3.out g4)
              have HB4 := hd (builder_kept HB3.out g4 hBlt)
              have hsz4 : w1.heap.size ≤ w4.heap.size := Nat.le_trans hsz3 g4.size
              clear g4
              go_wp2_with fail
              refine (Tryd.Builder_WriteRune_k w1.heap.size w1.heap.size (Lib.byteCells acc) (m.toNat : Int) (by omega) (by omega) w4 HB4.out (by rw [Lib.byteCells_length]; omega) hsz4).mono ?_
              rintro e w5 ⟨rfl, hbd5, hb5, -⟩
              go_wp2_with fail
              refine ⟨⟨j + 2, acc ++ [m], HQ2.out, h4.under hb5 hBlt, grownBy_under HG4.out hb5 hwle, ?_, Nat.le_trans hsz4 hb5.size⟩, ?_⟩
              · right
                rw [Lib.byteCells_append, enc_mark m hm]; exact hbd5
              · rw [(h4.under hb5 hBlt).atOf, HR.out.atOf]; omega
            · have hne : ¬ (peekN s (j + 1)).1 = (m.toNat : Int) := fun q => hnx (HM.out.1 q)
              have HDn := hd (HQ.out.done HD.out hnx)
              generalize peekN s (j + 1) = pk at *
              obtain ⟨c', n'⟩ := pk
              simp only at hne ⊢
              have hne2 : (c' != (m.toNat : Int)) = true := by rw [bne_iff_ne]; exact hne
              clear hne hnx HM
              go_wp2_with fail
              refine (Tryd.Builder_String_any_k w1.heap.size w1.heap.size acc w3 HB3.out hsz3).mono ?_
              rintro e w4 ⟨rfl, -, hb4, -⟩
              go_wp2
              go_ret
              refine ⟨grownBy_under HG3.out hb4 hwle, ?_⟩
              rw [HDn.out]
              refine ⟨⟨acc.toArray⟩, by simp, rfl, ?_⟩
              have hge := HQ.out.ge
              rw [show k + (j - k + 1) = j + 1 from by omega]
              exact h3.under hb4 hBlt
          · have HQ2 := hd (HQ.out.char hjs hm hc h0 hmk)
            have hcm : ¬ ((Utf8.decode s j).1 : Int) = (m.toNat : Int) := by
              intro q
              rcases d3 with ⟨_, q2, _⟩ | ⟨_, q2, _⟩
              · exact hmk (UInt8.toNat_inj.1 (by omega))
              · omega
            have hc0 : ¬ ((Utf8.decode s j).1 : Int) = 0 := by
              intro q
              rcases d3 with ⟨_, q2, _⟩ | ⟨_, q2, _⟩ <;> omega
            have hcle := decode_le s j
            have hcN := Lx.charN_le (s.data.toList.drop j)
            rw [List.length_drop, show s.data.toList.length = s.size from by simp] at hcN
            rw [hp] at h2 ⊢
            simp only at h2 ⊢
            have HD2 := hd d2
            clear d1 d2 d3 hp h0 hmk
            generalize Lx.charN (s.data.toList.drop j) = n at *
            generalize (Utf8.decode s j).1 = c at *
            go_wp2_with fail
            refine (Tryd.Builder_WriteRune_k w1.heap.size w1.heap.size (Lib.byteCells acc) (c : Int) (by omega) (by omega) w2 HB2.out (by rw [Lib.byteCells_length]; omega) hsz2).mono ?_
            rintro e w5 ⟨rfl, hbd5, hb5, -⟩
            go_wp2_with fail
            refine ⟨⟨j + n, acc ++ (s.data.toList.drop j).take n, HQ2.out, h2.under hb5 hBlt, grownBy_under HG2.out hb5 hwle, ?_, Nat.le_trans hsz2 hb5.size⟩, ?_⟩
            · right
              rw [Lib.byteCells_append, ← HD2.out, Lib.byteCells_encodeRune]; exact hbd5
            · rw [(h2.under hb5 hBlt).atOf, HR.out.atOf]; omega
    · have hp : peekN s j = (-1, 0) := by unfold peekN; rw [if_neg hjs]
      have HF := hd (HQ.out.fail hm hm0 (.inl (List.drop_eq_nil_of_le (by simp; have : s.data.size = s.size := rfl; omega))))
      rw [hp] at h2 ⊢
      simp only at h2 ⊢
      clear hp
      go_wp2_with fail
      refine (fail_any _ B s (j + 0) st 2 h2).mono ?_
      rintro e w3 ⟨rfl, rfl⟩
      refine ⟨rfl, HG2.out, ?_⟩
      rw [HF.out]
      rfl

end Go.Proofs.YtihchcoclncjdaaDoor
