/- Parts of the proof: RqC Utf -/
import Derived.Test.YtcdgihdhpaipaaaGreatDoorX5
import Derived.Test.YtcdgihdhpaipaaaGreatDoorX1
import Derived.Test.YtcdgihdhpaipaaaGreatDoorX2
import Derived.Lib.Strings
import Derived.Lib.DecodeN
import Derived.Lib.RuneBytes
namespace Go.Proofs.YtcdgihdhpaipaaaGreatDoor
open Go.RowKit
set_option linter.unusedSimpArgs false
set_option linter.unusedVariables false

/-- What the document's Parse answers. -/
def RParV (r : Except (Nat × Nat) (List Px.Nd)) (base : Nat) (w : World) (v : Value) (n c : Int) : Prop :=
  match r with
  | .error (p, e) => v = .slice none 0 0 ∧ n = (p : Int) ∧ c = (e : Int)
  | .ok a => NdIs w base v a ∧ a.length ≤ 80000 ∧ n = 0 ∧ c = 0

theorem oneT_err {l : Lx.Bs} {c : Nat} (h : Lx.oneT l = .error c) : c ≠ 0 := by
  unfold Lx.oneT at h
  split at h
  · cases h; decide
  · split at h
    · split at h <;> cases h
    · split at h
      · split at h
        · cases h; decide
        · split at h
          · cases h; decide
          · cases h
      · split at h
        · split at h
          · cases h; decide
          · split at h
            · cases h; decide
            · cases h
        · split at h
          · cases h
          · split at h
            · cases h
            · cases h; decide
theorem lexM_err : ∀ (m : Nat) (l : Lx.Bs) (pos : Nat) (e : Nat × Nat), l.length ≤ m → Lx.lexM 0 pos l = .error e → e.2 ≠ 0 := by
  intro m
  induction m with
  | zero =>
    intro l pos e hl h
    obtain rfl := List.length_eq_zero_iff.1 (Nat.le_zero.1 hl)
    cases h
  | succ m ih =>
    intro l pos e hl h
    cases l with
    | nil => cases h
    | cons b r =>
      rw [Lx.lexM_cons] at h
      split at h
      · rename_i c hc
        cases h
        exact oneT_err hc
      · rename_i k t n h1
        have hn := Lx.oneT_len h1
        split at h
        · cases h
        · rename_i e' h2
          cases h
          refine ih _ _ _ ?_ h2
          simp only [List.length_drop, List.length_cons] at hl hn ⊢
          omega
theorem lex_err {l : Lx.Bs} {p c : Nat} (h : Lx.lex l = .error (p, c)) : c ≠ 0 := by
  unfold Lx.lex at h
  split at h
  · cases h; decide
  · exact lexM_err _ _ _ _ (Nat.le_refl _) h

theorem NdIs.nodes {w : World} {b : Nat} {v : Value} {l : List Px.Nd} (h : NdIs w b v l) : ∃ ao cap, v = .slice ao l.length cap ∧ Nodes w ao l := by
  obtain ⟨ao, cap, e, hk⟩ := h.slice
  refine ⟨ao, cap, e, fun k hk' => ?_⟩
  obtain ⟨g, e1, _, c0, c1, c2, c3⟩ := hk k hk'
  exact ⟨g, e1, c0, c3⟩

/-- A statement's reading, and the whole text's. -/
theorem parse_of_stmt {s : Lx.Bs} {ts : List Lx.Tok} (hl : Lx.lex s = .ok ts) {r0 : Except (Nat × Nat) (List Px.Nd)} (h0 : Px.Parse s r0) {r : Px.Res (List Px.Nd)} (hr : RunX (Px.stmt s.length) (.ok ts) r) :
    (∀ e, r = .error e → r0 = .error e) ∧ (∀ a q, r = .ok (a, q) → (q ≠ [] → r0 = .error (Px.plc s.length q, 4)) ∧ (q = [] → ∃ d, Px.deep (a.length + 1) a = some d ∧ r0 = if 40 < d then .error (0, 6) else .ok a)) := by
  unfold Px.Parse at h0
  rw [hl] at h0
  obtain ⟨n, q, hw, hq⟩ := h0
  obtain ⟨k, hk⟩ := hr
  have hk' := Px.stmt_grows s.length ts k (max n k) r (Nat.le_max_right _ _) hk
  have hw' := Px.whole_grows s.length ts n (max n k) q (Nat.le_max_left _ _) hw
  unfold Px.whole at hw'
  simp only at hw'
  rw [show Px.stmt s.length (max n k) ts = some r from hk'] at hw'
  constructor
  · rintro e rfl
    cases hw'
    exact hq
  · rintro a u rfl
    constructor
    · intro hu
      simp only [Px.obind, if_neg hu] at hw'
      cases hw'
      exact hq
    · intro hu
      simp only [Px.obind, if_pos hu] at hw'
      cases hw'
      exact hq

set_option maxRecDepth 100000 in
set_option maxHeartbeats 4000000 in
/-- THE DOCUMENT's OWN PARSE answers what the plain reading says. -/
theorem rParse_any (s : ByteArray) (w : World) (hm : s.size ≤ maxLen) (r0 : Except (Nat × Nat) (List Px.Nd)) (h0 : Px.Parse s.data.toList r0) :
    Calls Tryz.prog 7 #[.string s] w fun e w' => ∃ (v : Value) (n c : Int), e = .returned (.tuple #[v, .int .i64 n, .int .i64 c]) ∧ RParV r0 w.heap.size w' v n c ∧ Below w.heap.size w w' := by
  have hsl : s.data.toList.length = s.size := (Lib.size_eq s).symm
  have HSL := hd hsl
  have H0 := hd h0
  have hmm := hm
  unfold maxLen at hmm
  clear hsl h0
  rcases hlx : Lx.lex s.data.toList with ⟨p, c⟩ | ts
  · have HLX := hd hlx
    have hc0 : c ≠ 0 := lex_err hlx
    clear hlx
    go_enter Tryz.func7, Tryz.ntmps7
    go_wp2_with fail
    refine (rTokens_any s w hm).mono ?_
    rintro e w1 ⟨v, n, c', rfl, ht, hb⟩
    rw [HLX.out] at ht
    obtain ⟨rfl, rfl, rfl⟩ := ht
    have n0 : ((c : Int) != 0) = true := by rw [bne_iff_ne]; omega
    go_wp2
    go_ret3
    have e0 : r0 = .error (p, c) := by
      have := H0.out
      unfold Px.Parse at this
      rw [HLX.out] at this
      exact this
    rw [e0]
    exact ⟨_, _, _, rfl, ⟨rfl, rfl, rfl⟩, hb⟩
  · have HLX := hd hlx
    obtain ⟨hl1, hl2, hl3⟩ := Lx.lex_ok hlx
    rw [HSL.out] at hl1 hl2 hl3
    have HL3 := hd hl3
    clear hlx hl3
    go_enter Tryz.func7, Tryz.ntmps7
    go_wp2_with fail
    refine (rTokens_any s w hm).mono ?_
    rintro e w1 ⟨v, n, c', rfl, ht, hb⟩
    rw [HLX.out] at ht
    obtain ⟨ho, rfl, rfl⟩ := ht
    have HO := hd ho
    have hz1 := hb.size
    obtain ⟨ao, cap, hv⟩ : ∃ ao cap, v = .slice ao ts.length cap := by
      rcases ho.2 with ⟨q, e⟩ | ⟨g, cap, cur, q, _⟩
      · exact ⟨none, 0, by rw [q, e]⟩
      · exact ⟨_, _, q⟩
    subst hv
    have hlt : ∀ g, Value.ownBlock (.slice ao ts.length cap) = some g → g < w1.heap.size := fun g hg => (ho.lt g hg).2
    have HPX : Hid (PX (w1.alloc (.cells #[.slice ao ts.length cap, .int .i64 0, .int .i64 (s.size : Int), .int .i64 0, .int .i64 0] 60)) w1.heap.size (.slice ao ts.length cap) ts s.size (.ok ts) ts.length) := by
      refine ⟨0, by omega, rfl, Blk.new _ _ _, ⟨_, ho.alloc _⟩, ?_, fun t ht => ?_, by omega, by omega, by omega, by omega, by omega⟩
      · intro e
        have := hlt _ e
        omega
      · obtain ⟨q1, q2, q3⟩ := HL3.out t ht
        exact ⟨q1, by omega, by omega⟩
    clear ho hlt
    go_wp2_with fail
    refine (statement_any _ w1.heap.size _ ts s.size HPX.out).mono ?_
    rintro e w2 ⟨r, v2, l2, rfl, hr, hv2, hok, hln, h2, hg2⟩
    have B2 : Below w1.heap.size w1 w2 := ⟨hg2.os, hg2.tape, hg2.output, by have := hg2.size; simp at this; omega, fun i hi => by
      rw [hg2.block i (by simp; omega) (by simp; omega), Below.heap_alloc w1 _ i hi]⟩
    have HP2 : Hid ((∀ e, r = .error e → r0 = .error e) ∧ (∀ a q, r = .ok (a, q) → (q ≠ [] → r0 = .error (Px.plc s.size q, 4)) ∧ (q = [] → ∃ d, Px.deep (a.length + 1) a = some d ∧ r0 = if 40 < d then .error (0, 6) else .ok a))) := by
      have h1 := HSL.out
      have hr' : RunX (Px.stmt s.data.toList.length) (.ok ts) r := by rw [h1]; exact hr
      have := parse_of_stmt HLX.out H0.out hr'
      rw [h1] at this
      exact this
    have BW : Below w.heap.size w w2 := hb.trans (B2.mono hz1)
    have hz2 := B2.size
    have hz2' : w1.heap.size < w2.heap.size := h2.lt
    clear hr hg2
    obtain ⟨ao2, cap2, rfl, hnodes⟩ := hv2.nodes
    have HND := hd hnodes
    clear hnodes
    match r, h2, hok, HP2 with
    | .error (p, c), ⟨hc0, k, hk, hp⟩, hok, HP2 =>
      have e0 : r0 = .error (p, c) := HP2.out.1 _ rfl
      clear HP2 hok HPX H0
      subst e0
      have n0 : ((c : Int) != 0) = true := by rw [bne_iff_ne]; omega
      obtain ⟨c0, c1, c2, c3, c4⟩ := hp.cells
      have hple := hp.le
      by_cases hlt : k < ts.length
      · obtain ⟨ao', cap', hv', htok⟩ := hp.tok
        obtain ⟨g, hg, hgl, k0, k1, k2⟩ := htok k hlt
        cases hv'
        subst hg
        have HP := hd hp
        clear htok hp
        generalize ts[k].pos = tp at *
        generalize ts[k].kind = tk at *
        generalize ts[k].text = tt at *
        go_wp2_with fail
        go_region
        all_goals go_wp2_with fail
        all_goals go_region_with (go_at_call 17; refine (stop_off _ w1.heap.size _ ts s.size k c p (HP.out.below (by go_grown)) hc0 _ _).mono ?_; rintro x w3 ⟨rfl, rfl⟩)
        all_goals go_wp2_with fail
        all_goals go_region
        all_goals go_wp2
        all_goals go_ret3
        all_goals exact ⟨_, _, _, rfl, ⟨rfl, rfl, rfl⟩, (by first | exact BW | exact BW.drew | exact BW.drew.drew | exact BW.drew.drew.drew | exact BW.drew.drew.drew.drew)⟩
      · go_wp2_with fail
        go_region
        all_goals go_wp2_with fail
        all_goals go_region
        all_goals go_wp2
        all_goals go_ret3
        all_goals exact ⟨_, _, _, rfl, ⟨rfl, rfl, rfl⟩, (by first | exact BW | exact BW.drew | exact BW.drew.drew | exact BW.drew.drew.drew | exact BW.drew.drew.drew.drew)⟩
    | .ok (a, q), ⟨k, hk, hq, hp⟩, hok, HP2 =>
      have hla := hok a q rfl
      subst hla
      obtain ⟨c0, c1, c2, c3, c4⟩ := hp.cells
      have hple := hp.le
      by_cases hlt : k < ts.length
      · have e0 : r0 = .error (Px.plc s.size q, 4) := (HP2.out.2 _ _ rfl).1 (by rw [hq]; intro e; have := congrArg List.length e; simp at this; omega)
        obtain ⟨ao', cap', hv', htok⟩ := hp.tok
        obtain ⟨g, hg, hgl, k0, k1, k2⟩ := htok k hlt
        have epl : Px.plc s.size q = ts[k].pos := by rw [hq, List.drop_eq_getElem_cons hlt]; rfl
        have hpos := (hp.toks _ (List.getElem_mem hlt)).2.1
        rw [epl] at e0
        cases hv'
        subst hg
        have HP := hd hp
        have E0 := hd e0
        clear htok hp HP2 hok HPX H0 epl e0
        generalize ts[k].pos = tp at *
        generalize ts[k].kind = tk at *
        generalize ts[k].text = tt at *
        go_wp2_with fail
        go_region
        all_goals go_wp2_with fail
        all_goals go_region_with (go_at_call 17; refine (stop_ps _ w1.heap.size _ ts s.size k 0 (HP.out.below (by go_grown)) 4 tp (by omega) hpos).mono ?_; rintro x w3 ⟨rfl, h3, hb3⟩)
        all_goals
          obtain ⟨d0, d1, d2, d3, d4⟩ := h3.cells
          have BW3 : Below w.heap.size w w3 := BW.drew.drew.grown hb3 (by show _ ≤ w2.heap.size; omega) (fun i e => by cases e; exact hz1)
          go_wp2_with fail
        all_goals go_region
        all_goals go_wp2
        all_goals go_ret3
        all_goals rw [E0.out]
        all_goals exact ⟨_, _, _, rfl, ⟨rfl, rfl, rfl⟩, (by first | exact BW3 | exact BW3.drew | exact BW3.drew.drew | exact BW3.drew.drew.drew | exact BW3.drew.drew.drew.drew)⟩
      · obtain ⟨d, hdp, e0⟩ := (HP2.out.2 _ _ rfl).2 (by rw [hq]; exact List.drop_eq_nil_of_le (by omega))
        have HDP := hd hdp
        have hv2' := hv2.lower (b1 := w.heap.size) (by simp; omega)
        have HV2 := hd hv2'
        clear HP2 hok HPX H0 hdp hv2 hv2'
        by_cases h40 : 40 < d
        · rw [if_pos h40] at e0
          subst e0
          have h40' : (d : Int) > 40 := by omega
          go_wp2_with fail
          go_region
          all_goals go_wp2_with fail
          all_goals refine (deepest_any _ _ l2 (by omega) d HDP.out _ (by first | exact HND.out | exact fun k hk => HND.out k hk)).mono ?_
          all_goals rintro x w3 ⟨rfl, hs3⟩
          all_goals go_wp2
          all_goals go_ret3
          all_goals exact ⟨_, _, _, rfl, ⟨rfl, rfl, rfl⟩, BW.drew.trans (hs3.2.mono (by show _ ≤ w2.heap.size; omega))⟩
        · rw [if_neg h40] at e0
          subst e0
          have h40' : ¬ (d : Int) > 40 := by omega
          go_wp2_with fail
          go_region
          all_goals go_wp2_with fail
          all_goals refine (deepest_any _ _ l2 (by omega) d HDP.out _ (by first | exact HND.out | exact fun k hk => HND.out k hk)).mono ?_
          all_goals rintro x w3 ⟨rfl, hs3⟩
          all_goals go_wp2
          all_goals go_ret3
          all_goals exact ⟨_, _, _, rfl, ⟨HV2.out.below ((Below.refl _ _).drew.trans hs3.2), hln, rfl, rfl⟩, BW.drew.trans (hs3.2.mono (by show _ ≤ w2.heap.size; omega))⟩
end Go.Proofs.YtcdgihdhpaipaaaGreatDoor

namespace Go.Proofs.YtcdgihdhpaipaaaGreatDoor
open Go.RowKit
set_option linter.unusedSimpArgs false
set_option linter.unusedVariables false

theorem folB_get (s : ByteArray) (k lo hi : Nat) : Lx.folB s.data.toList k lo hi = decide (k < s.size ∧ lo ≤ (s.get! k).toNat ∧ (s.get! k).toNat ≤ hi) := by
  unfold Lx.folB
  by_cases h : k < s.size
  · rw [List.getElem?_eq_getElem (by simpa using h)]
    have e : s.get! k = s[k] := by
      simp [ByteArray.get!, getElem!_pos, h]
      rfl
    rw [e]
    simp [h]
    rfl
  · rw [List.getElem?_eq_none (by simpa using h)]
    simp [h]

theorem get_here (s : ByteArray) (k : Nat) (h : k < s.size) : s.get! k = s[k] := by
  simp [ByteArray.get!, getElem!_pos, h]
  rfl

/-- The class of a character by its bytes. -/
def clsN (n b0 b1 b2 b3 : Nat) : Nat :=
  if b0 < 128 then 1
  else if (194 ≤ b0 ∧ b0 ≤ 223) ∧ (1 < n ∧ 128 ≤ b1 ∧ b1 ≤ 191) then 2
  else if (224 ≤ b0 ∧ b0 ≤ 239) ∧ (1 < n ∧ Lx.loOf b0 ≤ b1 ∧ b1 ≤ Lx.hiOf b0) ∧ (2 < n ∧ 128 ≤ b2 ∧ b2 ≤ 191) then 3
  else if (240 ≤ b0 ∧ b0 ≤ 244) ∧ (1 < n ∧ Lx.loOf b0 ≤ b1 ∧ b1 ≤ Lx.hiOf b0) ∧ (2 < n ∧ 128 ≤ b2 ∧ b2 ≤ 191) ∧ (3 < n ∧ 128 ≤ b3 ∧ b3 ≤ 191) then 4
  else 0

theorem charN_cls (s : ByteArray) (i : Nat) (h : i < s.size) : Lx.charN (s.data.toList.drop i) = clsN (s.size - i) (s.get! i).toNat (s.get! (i + 1)).toNat (s.get! (i + 2)).toNat (s.get! (i + 3)).toNat := by
  rw [charN_at s i h, get_here s i h]
  unfold charB clsN
  simp only [folB_get, decide_eq_true_eq]
  have c1 : (i + 1 < s.size) = (1 < s.size - i) := propext ⟨fun h => by omega, fun h => by omega⟩
  have c2 : (i + 2 < s.size) = (2 < s.size - i) := propext ⟨fun h => by omega, fun h => by omega⟩
  have c3 : (i + 3 < s.size) = (3 < s.size - i) := propext ⟨fun h => by omega, fun h => by omega⟩
  simp only [c1, c2, c3]

theorem cls_bad (n b0 b1 b2 b3 : Nat) (h0 : b0 < 256) (h1 : b1 < 256) (h2 : b2 < 256) (h3 : b3 < 256) (h : clsN n b0 b1 b2 b3 = 0) : Lib.decodeN n b0 b1 b2 b3 = (65533, 1) ∧ 128 ≤ b0 := by
  unfold clsN Lx.loOf Lx.hiOf at h
  unfold Lib.decodeN
  repeat' split at h
  all_goals (try (exfalso; omega))
  all_goals
    refine ⟨?_, by omega⟩
    repeat' split
    all_goals first | rfl | (exfalso; omega)

theorem cls_one (n b0 b1 b2 b3 : Nat) (h : clsN n b0 b1 b2 b3 = 1) : b0 < 128 ∧ Lib.decodeN n b0 b1 b2 b3 = (b0, 1) := by
  unfold clsN at h
  repeat' split at h
  all_goals (try (exfalso; omega))
  rename_i hb
  exact ⟨hb, by simp [Lib.decodeN, hb]⟩

theorem cls_two (n b0 b1 b2 b3 : Nat) (h : clsN n b0 b1 b2 b3 = 2) : (194 ≤ b0 ∧ b0 ≤ 223) ∧ (1 < n ∧ 128 ≤ b1 ∧ b1 ≤ 191) ∧ Lib.decodeN n b0 b1 b2 b3 = (b0 % 32 * 64 + b1 % 64, 2) := by
  unfold clsN at h
  repeat' split at h
  all_goals (try (exfalso; omega))
  rename_i hb
  refine ⟨hb.1, hb.2, ?_⟩
  unfold Lib.decodeN
  rw [if_neg (by omega), if_pos (by omega), if_pos (by omega)]

theorem cls_three (n b0 b1 b2 b3 : Nat) (h : clsN n b0 b1 b2 b3 = 3) : (224 ≤ b0 ∧ b0 ≤ 239) ∧ (1 < n ∧ Lx.loOf b0 ≤ b1 ∧ b1 ≤ Lx.hiOf b0) ∧ (2 < n ∧ 128 ≤ b2 ∧ b2 ≤ 191) ∧ Lib.decodeN n b0 b1 b2 b3 = (b0 % 16 * 4096 + b1 % 64 * 64 + b2 % 64, 3) := by
  unfold clsN at h
  repeat' split at h
  all_goals (try (exfalso; omega))
  rename_i hb
  refine ⟨hb.1, hb.2.1, hb.2.2, ?_⟩
  have hl := hb.2.1
  unfold Lx.loOf Lx.hiOf at hl
  unfold Lib.decodeN
  repeat' split at hl
  all_goals rw [if_neg (by omega), if_neg (by omega), if_pos (by omega), if_pos (by omega)]

theorem cls_four (n b0 b1 b2 b3 : Nat) (h : clsN n b0 b1 b2 b3 = 4) : (240 ≤ b0 ∧ b0 ≤ 244) ∧ (1 < n ∧ Lx.loOf b0 ≤ b1 ∧ b1 ≤ Lx.hiOf b0) ∧ (2 < n ∧ 128 ≤ b2 ∧ b2 ≤ 191) ∧ (3 < n ∧ 128 ≤ b3 ∧ b3 ≤ 191) ∧ Lib.decodeN n b0 b1 b2 b3 = (b0 % 8 * 262144 + b1 % 64 * 4096 + b2 % 64 * 64 + b3 % 64, 4) := by
  unfold clsN at h
  repeat' split at h
  all_goals (try (exfalso; omega))
  rename_i hb
  refine ⟨hb.1, hb.2.1, hb.2.2.1, hb.2.2.2, ?_⟩
  have hl := hb.2.1
  unfold Lx.loOf Lx.hiOf at hl
  unfold Lib.decodeN
  repeat' split at hl
  all_goals rw [if_neg (by omega), if_neg (by omega), if_neg (by omega), if_pos (by omega), if_pos (by omega)]

theorem byte_back (b : UInt8) (x : Int) (h : x = (b.toNat : Int)) : x.toNat.toUInt8 = b := by
  subst h
  simp

/-- A byte that begins no valid character is decoded as the error, one byte wide. -/
theorem dec_bad (s : ByteArray) (i : Nat) (h : i < s.size) (hc : Lx.charN (s.data.toList.drop i) = 0) : Utf8.decode s i = (65533, 1) ∧ 128 ≤ s[i].toNat := by
  rw [charN_cls s i h] at hc
  have := cls_bad _ _ _ _ _ (UInt8.toNat_lt _) (UInt8.toNat_lt _) (UInt8.toNat_lt _) (UInt8.toNat_lt _) hc
  rw [get_here s i h] at this
  rw [Lib.decode_at, get_here s i h]
  exact this

theorem drop_take (s : ByteArray) (i n : Nat) (h : i + n ≤ s.size) (l : Lx.Bs) (hl : l.length = n) (hg : ∀ k, k < n → l[k]? = some (s.get! (i + k))) : (s.data.toList.drop i).take n = l := by
  apply List.ext_getElem?
  intro k
  by_cases hk : k < n
  · rw [List.getElem?_take_of_lt hk, List.getElem?_drop, hg k hk, get_here s (i + k) (by omega), List.getElem?_eq_getElem (by simp; have : s.data.size = s.size := rfl; omega)]
    rfl
  · rw [List.getElem?_eq_none (by simp; omega), List.getElem?_eq_none (by omega)]

/-- A valid character is decoded as a rune whose bytes are just those. -/
theorem dec_good (s : ByteArray) (i : Nat) (h : i < s.size) (hc : Lx.charN (s.data.toList.drop i) ≠ 0) :
    (Utf8.decode s i).2 = Lx.charN (s.data.toList.drop i) ∧ Lib.encodeRune ((Utf8.decode s i).1 : Int) = (s.data.toList.drop i).take (Lx.charN (s.data.toList.drop i)) ∧
      ((Lx.charN (s.data.toList.drop i) = 1 ∧ (Utf8.decode s i).1 = s[i].toNat ∧ s[i].toNat < 128) ∨ (1 < Lx.charN (s.data.toList.drop i) ∧ 128 ≤ (Utf8.decode s i).1 ∧ 128 ≤ s[i].toNat)) := by
  have hle := Lx.charN_le (s.data.toList.drop i)
  rw [List.length_drop, show s.data.toList.length = s.size from by simp] at hle
  have hcls := charN_cls s i h
  rw [Lib.decode_at]
  rw [get_here s i h] at hcls ⊢
  have B0 := s[i].toNat_lt
  have hcase : Lx.charN (s.data.toList.drop i) = 1 ∨ Lx.charN (s.data.toList.drop i) = 2 ∨ Lx.charN (s.data.toList.drop i) = 3 ∨ Lx.charN (s.data.toList.drop i) = 4 := by
    have : ∀ n b0 b1 b2 b3, clsN n b0 b1 b2 b3 = 0 ∨ clsN n b0 b1 b2 b3 = 1 ∨ clsN n b0 b1 b2 b3 = 2 ∨ clsN n b0 b1 b2 b3 = 3 ∨ clsN n b0 b1 b2 b3 = 4 := by
      intro n b0 b1 b2 b3
      unfold clsN
      repeat' split
      all_goals omega
    have := this (s.size - i) s[i].toNat (s.get! (i + 1)).toNat (s.get! (i + 2)).toNat (s.get! (i + 3)).toNat
    rw [← hcls] at this
    omega
  rcases hcase with e | e | e | e
  · rw [e] at hcls hle ⊢
    obtain ⟨q, d⟩ := cls_one _ _ _ _ _ hcls.symm
    rw [d]
    refine ⟨rfl, ?_, .inl ⟨rfl, rfl, q⟩⟩
    rw [drop_take s i 1 (by omega) [s.get! i] rfl (by intro k hk; have : k = 0 := by omega
                                                      subst this; rfl)]
    unfold Lib.encodeRune
    rw [Lib.encodeRuneZ_one (by omega) (by simp; omega)]
    simp only [List.map_cons, List.map_nil]
    rw [byte_back s[i] _ rfl, get_here s i h]
  · rw [e] at hcls hle ⊢
    obtain ⟨q, q1, d⟩ := cls_two _ _ _ _ _ hcls.symm
    rw [d]
    refine ⟨rfl, ?_, .inr ⟨by omega, by simp only; omega, by omega⟩⟩
    rw [drop_take s i 2 (by omega) [s.get! i, s.get! (i + 1)] rfl (by intro k hk; have : k = 0 ∨ k = 1 := by omega
                                                                      rcases this with rfl | rfl <;> rfl)]
    unfold Lib.encodeRune
    rw [Lib.encodeRuneZ_two (by simp only; omega) (by simp only; omega)]
    simp only [List.map_cons, List.map_nil]
    rw [byte_back s[i] _ (by omega), byte_back (s.get! (i + 1)) _ (by omega), get_here s i h]
  · rw [e] at hcls hle ⊢
    obtain ⟨q, q1, q2, d⟩ := cls_three _ _ _ _ _ hcls.symm
    unfold Lx.loOf Lx.hiOf at q1
    have B1 := (s.get! (i + 1)).toNat_lt
    have hr : ((2048 : Int) ≤ ((s[i].toNat % 16 * 4096 + (s.get! (i + 1)).toNat % 64 * 64 + (s.get! (i + 2)).toNat % 64 : Nat) : Int) ∧ ((s[i].toNat % 16 * 4096 + (s.get! (i + 1)).toNat % 64 * 64 + (s.get! (i + 2)).toNat % 64 : Nat) : Int) < 55296) ∨ ((57343 : Int) < ((s[i].toNat % 16 * 4096 + (s.get! (i + 1)).toNat % 64 * 64 + (s.get! (i + 2)).toNat % 64 : Nat) : Int) ∧ ((s[i].toNat % 16 * 4096 + (s.get! (i + 1)).toNat % 64 * 64 + (s.get! (i + 2)).toNat % 64 : Nat) : Int) ≤ 65535) := by
      repeat' split at q1
      all_goals omega
    have hb1 : 128 ≤ (s.get! (i + 1)).toNat ∧ (s.get! (i + 1)).toNat ≤ 191 := by
      repeat' split at q1
      all_goals omega
    rw [d]
    refine ⟨rfl, ?_, .inr ⟨by omega, by simp only; omega, by omega⟩⟩
    rw [drop_take s i 3 (by omega) [s.get! i, s.get! (i + 1), s.get! (i + 2)] rfl (by intro k hk; have : k = 0 ∨ k = 1 ∨ k = 2 := by omega
                                                                                      rcases this with rfl | rfl | rfl <;> rfl)]
    unfold Lib.encodeRune
    rw [Lib.encodeRuneZ_three hr]
    simp only [List.map_cons, List.map_nil]
    rw [byte_back s[i] _ (by omega), byte_back (s.get! (i + 1)) _ (by omega), byte_back (s.get! (i + 2)) _ (by omega), get_here s i h]
  · rw [e] at hcls hle ⊢
    obtain ⟨q, q1, q2, q3, d⟩ := cls_four _ _ _ _ _ hcls.symm
    unfold Lx.loOf Lx.hiOf at q1
    have B1 := (s.get! (i + 1)).toNat_lt
    have hb1 : 128 ≤ (s.get! (i + 1)).toNat ∧ (s.get! (i + 1)).toNat ≤ 191 := by
      repeat' split at q1
      all_goals omega
    have hr : (65536 : Int) ≤ ((s[i].toNat % 8 * 262144 + (s.get! (i + 1)).toNat % 64 * 4096 + (s.get! (i + 2)).toNat % 64 * 64 + (s.get! (i + 3)).toNat % 64 : Nat) : Int) ∧ ((s[i].toNat % 8 * 262144 + (s.get! (i + 1)).toNat % 64 * 4096 + (s.get! (i + 2)).toNat % 64 * 64 + (s.get! (i + 3)).toNat % 64 : Nat) : Int) ≤ 1114111 := by
      repeat' split at q1
      all_goals omega
    rw [d]
    refine ⟨rfl, ?_, .inr ⟨by omega, by simp only; omega, by omega⟩⟩
    rw [drop_take s i 4 (by omega) [s.get! i, s.get! (i + 1), s.get! (i + 2), s.get! (i + 3)] rfl (by intro k hk; have : k = 0 ∨ k = 1 ∨ k = 2 ∨ k = 3 := by omega
                                                                                                      rcases this with rfl | rfl | rfl | rfl <;> rfl)]
    unfold Lib.encodeRune
    rw [Lib.encodeRuneZ_four hr.1 hr.2]
    simp only [List.map_cons, List.map_nil]
    rw [byte_back s[i] _ (by omega), byte_back (s.get! (i + 1)) _ (by omega), byte_back (s.get! (i + 2)) _ (by omega), byte_back (s.get! (i + 3)) _ (by omega), get_here s i h]

end Go.Proofs.YtcdgihdhpaipaaaGreatDoor

