/- Parts of the proof: Ta Rc Rd Ua Ub Uc Ud Ue Sa Sb Sc Se Sf Uf Ug Uh Mo Tb Quote Tc Td Te -/
import Derived.Test.YtkcakbgcfnhgaaaGreatDoorX1
import Derived.Test.YtkcakbgcfnhgaaaGreatDoorX3
import Derived.Test.YtkcakbgcfnhgaaaGreatDoorX6
import Derived.Test.YtkcakbgcfnhgaaaGreatDoorX2
namespace Go.Proofs.YtkcakbgcfnhgaaaGreatDoor
set_option linter.unusedSimpArgs false
set_option linter.unusedVariables false
set_option maxRecDepth 100000
set_option maxHeartbeats 16000000
open Go.RowKit
theorem digit_any (b : UInt8) (w : World) :
   Calls Tryz.prog 169 #[.int .u8 (b.toNat : Int)] w fun e w' => e = .returned (.bool (Lx.isDig b)) ∧ w' = w := by
 go_enter Tryz.func169, Tryz.ntmps169
 go_wp2
 all_goals
  go_ret
  refine ⟨ret_bool ?_, rfl⟩
  rw [Bool.eq_iff_iff]; simp [Lx.isDig]; omega
theorem letter_any (b : UInt8) (w : World) :
   Calls Tryz.prog 104 #[.int .u8 (b.toNat : Int)] w fun e w' => e = .returned (.bool (Lx.isLet b)) ∧ w' = w := by
 go_enter Tryz.func104, Tryz.ntmps104
 go_wp2
 all_goals
  go_ret
  refine ⟨ret_bool ?_, rfl⟩
  rw [Bool.eq_iff_iff]; simp [Lx.isLet]; omega
theorem run_any (s : ByteArray) (a : Nat) (lets : Bool) (w : World) (hs : s.size ≤ maxLen) (ha : a ≤ s.size) :
   Calls Tryz.prog 105 #[.string s, .int .i64 a, .bool lets] w fun e w' => e = .returned (.int .i64 (a + Lx.cnt (if lets then Lx.isWd else Lx.isDig) (s.data.toList.drop a) : Nat)) ∧ w' = w := by
 unfold maxLen at hs
 obtain ⟨p, hp⟩ : ∃ p, p = (if lets = true then Lx.isWd else Lx.isDig) := ⟨_, rfl⟩
 have hpp : ∀ b, p b = (Lx.isDig b || (lets && Lx.isLet b)) := by
  intro b; subst hp; cases lets <;> simp [Lx.isWd]
 rw [← hp]
 have HP : Hid (∀ b, p b = (Lx.isDig b || (lets && Lx.isLet b))) := hpp
 clear hpp hp
 go_enter Tryz.func105, Tryz.ntmps105
 go_wp2
 go_loop [1] (fun i => ∃ k : Nat, k ≤ s.size ∧ i = .int .i64 k ∧ Hid (a + Lx.cnt p (s.data.toList.drop a) = k + Lx.cnt p (s.data.toList.drop k))) (fun i => s.size - (intOf i).toNat)
 case atStart => exact ⟨a, ha, rfl, rfl⟩
 case round =>
  obtain ⟨k, hk, rfl, HK⟩ := hrel
  by_cases hlt : k < s.size
  · have HC : Hid (Lx.cnt p (s.data.toList.drop k) = if p s[k] = true then Lx.cnt p (s.data.toList.drop (k + 1)) + 1 else 0) := cnt_at p s k hlt
    cases hd : Lx.isDig s[k] <;> cases hl : Lx.isLet s[k] <;> cases lets
    all_goals
     have HQ := HP.out s[k]
     simp only [hd, hl, Bool.or_true, Bool.true_or, Bool.or_false, Bool.false_or, Bool.and_true, Bool.and_false] at HQ
     have HQ' : Hid _ := HQ
     clear HQ
     go_wp2_with (first | (go_at_call 169; refine (digit_any _ _).mono ?_; rintro e w' ⟨rfl, rfl⟩) | (go_at_call 104; refine (letter_any _ _).mono ?_; rintro e w' ⟨rfl, rfl⟩))
    all_goals first
     | (go_round
        case rel => exact ⟨k + 1, by omega, by go_num, by have h1 := HK.out; have h2 := HC.out; rw [HQ'.out] at h2; simp at h2; show _ = _; omega⟩
        case measure => simp [intOf]; omega)
     | (go_ret
        exact ⟨ret_int (by have h1 := HK.out; have h2 := HC.out; rw [HQ'.out] at h2; simp at h2; omega), rfl⟩)
  · go_wp2
    go_ret
    exact ⟨ret_int (by have h1 := HK.out; rw [cnt_end p s k (by omega)] at h1; omega), rfl⟩
theorem follows_any (s : ByteArray) (a lo hi : Int) (w : World) (hs : s.size ≤ maxLen) (ha : 0 ≤ a) (hl : 0 ≤ lo) (hh : 0 ≤ hi) :
   Calls Tryz.prog 196 #[.string s, .int .i64 a, .int .u8 lo, .int .u8 hi] w fun e w' => e = .returned (.bool (Lx.folB s.data.toList a.toNat lo.toNat hi.toNat)) ∧ w' = w := by
 unfold maxLen at hs
 obtain ⟨k, rfl⟩ := Int.eq_ofNat_of_zero_le ha
 rw [Int.toNat_natCast]
 by_cases hlt : k < s.size
 · have hf : Lx.folB s.data.toList k lo.toNat hi.toNat = decide (lo.toNat ≤ s[k].toNat ∧ s[k].toNat ≤ hi.toNat) := by
    unfold Lx.folB
    rw [List.getElem?_eq_getElem (by simpa using hlt)]
    rfl
   have HF : Hid _ := hf
   clear hf
   go_enter Tryz.func196, Tryz.ntmps196
   go_wp2
   all_goals
    go_ret
    refine ⟨ret_bool ?_, rfl⟩
    rw [HF.out, Bool.eq_iff_iff]; simp; omega
 · have hf : Lx.folB s.data.toList k lo.toNat hi.toNat = false := by
    unfold Lx.folB
    rw [List.getElem?_eq_none (by simpa using hlt)]
   rw [hf]
   go_enter Tryz.func196, Tryz.ntmps196
   go_wp2
   all_goals
    go_ret
    exact ⟨ret_bool rfl, rfl⟩
theorem char_any (s : ByteArray) (a : Nat) (w : World) (ha : a < s.size) (hs : s.size ≤ 1000000000) :
   Calls Tryz.prog 165 #[.string s, .int .i64 a] w fun e w' => e = .returned (.int .i64 (Lx.charN (s.data.toList.drop a) : Nat)) ∧ w' = w := by
 have hm : s.size ≤ maxLen := by unfold maxLen; omega
 have hB : Hid (Lx.charN (s.data.toList.drop a) = _) := charN_at s a ha
 have hlo : Hid (Lx.loOf s[a].toNat = if s[a].toNat = 224 then 160 else if s[a].toNat = 240 then 144 else 128) := rfl
 have hhi : Hid (Lx.hiOf s[a].toNat = if s[a].toNat = 237 then 159 else if s[a].toNat = 244 then 143 else 191) := rfl
 have hb : s[a].toNat < 256 := s[a].toNat_lt
 go_enter Tryz.func165, Tryz.ntmps165
 go_wp2_with fail
 refine (follows_any s _ _ _ _ hm (by omega) (by omega) (by omega)).mono ?_
 rintro e w' ⟨rfl, rfl⟩
 rw [show ((a : Int) + 1).toNat = a + 1 from by omega]
 go_wp2_with fail
 refine (follows_any s _ _ _ _ hm (by omega) (by omega) (by omega)).mono ?_
 rintro e w' ⟨rfl, rfl⟩
 rw [show ((a : Int) + 2).toNat = a + 2 from by omega]
 go_wp2_with fail
 refine (follows_any s _ _ _ _ hm (by omega) (by omega) (by omega)).mono ?_
 rintro e w' ⟨rfl, rfl⟩
 rw [show ((a : Int) + 3).toNat = a + 3 from by omega]
 generalize s[a].toNat = c at *
 go_wp2_with fail
 all_goals
  have hN : ∀ lo hi : Int, lo = Lx.loOf c → hi = Lx.hiOf c → Lx.folB s.data.toList ((a : Int) + 1).toNat lo.toNat hi.toNat = Lx.folB s.data.toList (a + 1) (Lx.loOf c) (Lx.hiOf c) := by
   intro lo hi e1 e2; rw [e1, e2, Int.toNat_natCast, Int.toNat_natCast, show ((a : Int) + 1).toNat = a + 1 from by omega]
  have HN : Hid _ := hN
  clear hN
  refine (follows_any s _ _ _ _ hm (by omega) (by omega) (by omega)).mono ?_
  rintro e w' ⟨rfl, rfl⟩
  first
   | (have q := beq_yes (c := c) (n := 224) (by assumption)
      rw [HN.out _ _ (by rw [hlo.out, if_pos q]; rfl) (by rw [hhi.out, if_neg (by omega), if_neg (by omega)]; rfl)])
   | (have q0 := beq_no (c := c) (n := 224) (by assumption)
      have q := beq_yes (c := c) (n := 237) (by assumption)
      rw [HN.out _ _ (by rw [hlo.out, if_neg q0, if_neg (by omega)]; rfl) (by rw [hhi.out, if_pos q]; rfl)])
   | (have q0 := beq_no (c := c) (n := 224) (by assumption)
      have q := beq_yes (c := c) (n := 240) (by assumption)
      rw [HN.out _ _ (by rw [hlo.out, if_neg q0, if_pos q]; rfl) (by rw [hhi.out, if_neg (by omega), if_neg (by omega)]; rfl)])
   | (have q0 := beq_no (c := c) (n := 224) (by assumption)
      have q := beq_yes (c := c) (n := 244) (by assumption)
      rw [HN.out _ _ (by rw [hlo.out, if_neg q0, if_neg (by omega)]; rfl) (by rw [hhi.out, if_neg (by omega), if_pos q]; rfl)])
   | (have q1 := beq_no (c := c) (n := 224) (by assumption)
      have q2 := beq_no (c := c) (n := 237) (by assumption)
      have q3 := beq_no (c := c) (n := 240) (by assumption)
      have q4 := beq_no (c := c) (n := 244) (by assumption)
      rw [HN.out _ _ (by rw [hlo.out, if_neg q1, if_neg q3]; rfl) (by rw [hhi.out, if_neg q2, if_neg q4]; rfl)])
  clear HN
 all_goals
  generalize Lx.folB s.data.toList (a + 1) 128 191 = f1 at *
  generalize Lx.folB s.data.toList (a + 1) (Lx.loOf c) (Lx.hiOf c) = fn at *
  generalize Lx.folB s.data.toList (a + 2) 128 191 = f2 at *
  generalize Lx.folB s.data.toList (a + 3) 128 191 = f3 at *
  go_wp2_with fail
 all_goals
  go_ret
  refine ⟨ret_int ?_, rfl⟩
  go_light
  rw [hB.out]
  clear hB hlo hhi
  simp only [beq_iff_eq, beq_eq_false_iff_ne, ne_eq] at *
  unfold charB
  try simp only [*]
  repeat' (split)
  all_goals (first | rfl | omega | (simp at * <;> omega))
theorem Valid_any (s : ByteArray) (w : World) (hs : s.size ≤ 1000000000) :
   Calls Tryz.prog 98 #[.string s] w fun e w' => e = .returned (.bool (Lx.validN s.data.toList)) ∧ w' = w := by
 go_enter Tryz.func98, Tryz.ntmps98
 go_wp2
 go_loop [3] (fun i => ∃ k : Nat, k ≤ s.size ∧ i = .int .i64 k ∧ Hid (Lx.validN s.data.toList = Lx.validN (s.data.toList.drop k))) (fun i => s.size - (intOf i).toNat)
 case atStart => exact ⟨0, by omega, rfl, by show _ = _; simp⟩
 case round =>
  obtain ⟨k, hk, rfl, HK⟩ := hrel
  by_cases hlt : k < s.size
  · have HC : Hid (Lx.validN (s.data.toList.drop k) = _) := valid_at s k hlt
    have hle := Lx.charN_le (s.data.toList.drop k)
    simp only [List.length_drop, Array.length_toList] at hle
    have hle2 : Lx.charN (s.data.toList.drop k) ≤ s.size - k := hle
    clear hle
    go_wp2_with (go_at_call 165; refine (char_any _ _ _ hlt hs).mono ?_; rintro e w' ⟨rfl, rfl⟩; generalize Lx.charN (List.drop k s.data.toList) = n at *)
    · go_ret
      exact ⟨ret_bool (by rw [HK.out, HC.out, if_pos (.inl ‹_›)]), rfl⟩
    · go_ret
      exact ⟨ret_bool (by rw [HK.out, HC.out, if_pos (or_zero ‹_›)]), rfl⟩
    · go_round
      case rel => exact ⟨k + n, by omega, by go_num, by show _ = _; rw [HK.out, HC.out, if_neg (and_zero ‹_›)]⟩
      case measure => have := and_zero ‹_›; simp [intOf]; omega
  · go_wp2
    go_ret
    exact ⟨ret_bool (by rw [HK.out, valid_end s k (by omega)]), rfl⟩
theorem In_any (s : ByteArray) (g cap : Nat) (ss : List Lx.Bs) (w : World) (hn : ss.length ≤ 1000)
   (hc : ∀ i, i < ss.length → ∃ t : ByteArray, w.cell? ⟨g, i, none⟩ = some (.string t) ∧ t.data.toList = ss.getD i []) :
   Calls Tryz.prog 106 #[.string s, .slice (some ⟨g, 0, none⟩) ss.length cap] w fun e w' => e = .returned (.bool (Lx.hasB ss s.data.toList)) ∧ w' = w := by
 have HC : Hid _ := hc
 clear hc
 go_enter Tryz.func106, Tryz.ntmps106
 go_wp2
 go_loop [5] (fun i => ∃ k : Nat, k ≤ ss.length ∧ i = .int .i64 k ∧ Hid (Lx.hasB ss s.data.toList = Lx.hasB (ss.drop k) s.data.toList)) (fun i => ss.length - (intOf i).toNat)
 case atStart => exact ⟨0, by omega, rfl, by show _ = _; simp⟩
 case round =>
  obtain ⟨k, hk, rfl, HK⟩ := hrel
  by_cases hlt : k < ss.length
  · obtain ⟨t, ht, ht2⟩ := HC.out k hlt
    have HT : Hid (t.data.toList = ss.getD k []) := ht2
    clear ht2
    have HS : Hid _ := contains_at ss s.data.toList k hlt
    go_wp2
    · go_ret
      have q : (t.toList == s.toList) = true := by assumption
      exact ⟨ret_bool (by rw [HK.out, HS.out, ← HT.out, ← Lib.toList_data, ← Lib.toList_data, q]; simp), rfl⟩
    · go_round
      case rel =>
       have q : (t.toList == s.toList) = false := by assumption
       exact ⟨k + 1, by omega, by go_num, by show _ = _; rw [HK.out, HS.out, ← HT.out]; rw [Lib.toList_data, Lib.toList_data] at q; rw [q]; simp⟩
      case measure => simp [intOf]; omega
  · go_wp2
    go_ret
    exact ⟨ret_bool (by rw [HK.out, List.drop_eq_nil_of_le (by omega)]; rfl), rfl⟩
theorem keywords_any (w : World) :
   Calls Tryz.prog 108 #[] w fun e w' => e = .returned (.slice (some ⟨w.heap.size, 0, none⟩) 27 27) ∧ w' = w.alloc (.cells (strRow Lx.keys) 9) := by
 go_enter Tryz.func108, Tryz.ntmps108
 go_wp2
 go_ret
 exact ⟨rfl, rfl⟩
theorem upper_any (s : ByteArray) (w : World) (hs : s.size ≤ 1000000000) :
   Calls Tryz.prog 107 #[.string s] w fun e w' => ∃ t : ByteArray, e = .returned (.string t) ∧ t.data.toList = s.data.toList.map Lx.upB ∧ Below w.heap.size w w' := by
 have hcv := fun (w : World) => run_bytes_of_string (P := Tryz.prog) w 9 73 5 s Tryz.underlying9 Tryz.underlying73 Tryz.underlying5
 go_enter Tryz.func107, Tryz.ntmps107
 go_wp2
 clear hcv
 generalize hcap : grownCap w s.size 0 5 = cap
 clear hcap
 go_loopw [4] (fun i wr => ∃ k : Nat, k ≤ s.size ∧ i = .int .i64 k ∧ Hid (Cased Lx.upB s w.heap.size k wr ∧ Below w.heap.size w wr)) (fun i _ => s.size - (intOf i).toNat)
 case atStart => exact ⟨0, by omega, rfl, Cased.start _ _ _ _, Below.cased _ _⟩
 case round =>
  obtain ⟨k, hk, rfl, HK⟩ := hrel
  by_cases hlt : k < s.size
  · obtain ⟨hck, hfk⟩ := HK.out.1 k hlt
    simp only [Nat.lt_irrefl, if_false] at hck
    have hb : s[k].toNat < 256 := s[k].toNat_lt
    go_wp2
    all_goals
     go_roundw
     case rel =>
      refine ⟨k + 1, by omega, by go_num, ?_⟩
      first
       | exact ⟨HK.out.1.set hlt _ (upper_num ‹_› ‹_›), HK.out.2.setCell (by simp) _⟩
       | exact ⟨HK.out.1.keep hlt (upper_same (by omega)), HK.out.2⟩
     case measure => simp [intOf]; omega
  · have e : k = s.size := by omega
    subst e
    obtain ⟨t, ht⟩ : ∃ t : ByteArray, t = ⟨(s.data.toList.map Lx.upB).toArray⟩ := ⟨_, rfl⟩
    have hcv : ∀ cap, (convert 73 9 (.slice (some ⟨w.heap.size, 0, none⟩) s.size cap)).run Tryz.prog wr = .ok (.string t) wr := by
     intro cap
     have h := run_convert_bytes_back (P := Tryz.prog) wr 73 9 5 ⟨w.heap.size, 0, none⟩ cap (s.data.toList.map Lx.upB) Tryz.underlying73 Tryz.underlying5 Tryz.underlying9 HK.out.1.done
     rw [ht, ← h]
     simp only [List.length_map, Array.length_toList]
     rfl
    have HT : Hid (t.data.toList = s.data.toList.map Lx.upB) := by rw [ht]; show _ = _; simp
    clear ht
    go_wp2
    go_ret
    exact ⟨t, rfl, HT.out, HK.out.2⟩
theorem lower_any (s : ByteArray) (w : World) (hs : s.size ≤ 1000000000) :
   Calls Tryz.prog 109 #[.string s] w fun e w' => ∃ t : ByteArray, e = .returned (.string t) ∧ t.data.toList = s.data.toList.map Lx.lowB ∧ Below w.heap.size w w' := by
 have hcv := fun (w : World) => run_bytes_of_string (P := Tryz.prog) w 9 73 5 s Tryz.underlying9 Tryz.underlying73 Tryz.underlying5
 go_enter Tryz.func109, Tryz.ntmps109
 go_wp2
 clear hcv
 generalize hcap : grownCap w s.size 0 5 = cap
 clear hcap
 go_loopw [4] (fun i wr => ∃ k : Nat, k ≤ s.size ∧ i = .int .i64 k ∧ Hid (Cased Lx.lowB s w.heap.size k wr ∧ Below w.heap.size w wr)) (fun i _ => s.size - (intOf i).toNat)
 case atStart => exact ⟨0, by omega, rfl, Cased.start _ _ _ _, Below.cased _ _⟩
 case round =>
  obtain ⟨k, hk, rfl, HK⟩ := hrel
  by_cases hlt : k < s.size
  · obtain ⟨hck, hfk⟩ := HK.out.1 k hlt
    simp only [Nat.lt_irrefl, if_false] at hck
    have hb : s[k].toNat < 256 := s[k].toNat_lt
    go_wp2
    all_goals
     go_roundw
     case rel =>
      refine ⟨k + 1, by omega, by go_num, ?_⟩
      first
       | exact ⟨HK.out.1.set hlt _ (lower_num ‹_› ‹_›), HK.out.2.setCell (by simp) _⟩
       | exact ⟨HK.out.1.keep hlt (lower_same (by omega)), HK.out.2⟩
     case measure => simp [intOf]; omega
  · have e : k = s.size := by omega
    subst e
    obtain ⟨t, ht⟩ : ∃ t : ByteArray, t = ⟨(s.data.toList.map Lx.lowB).toArray⟩ := ⟨_, rfl⟩
    have hcv : ∀ cap, (convert 73 9 (.slice (some ⟨w.heap.size, 0, none⟩) s.size cap)).run Tryz.prog wr = .ok (.string t) wr := by
     intro cap
     have h := run_convert_bytes_back (P := Tryz.prog) wr 73 9 5 ⟨w.heap.size, 0, none⟩ cap (s.data.toList.map Lx.lowB) Tryz.underlying73 Tryz.underlying5 Tryz.underlying9 HK.out.1.done
     rw [ht, ← h]
     simp only [List.length_map, Array.length_toList]
     rfl
    have HT : Hid (t.data.toList = s.data.toList.map Lx.lowB) := by rw [ht]; show _ = _; simp
    clear ht
    go_wp2
    go_ret
    exact ⟨t, rfl, HT.out, HK.out.2⟩
section
namespace Px
variable {α : Type}
def NAt (x : List Nd → Option (α × List Nd)) (n : Nat) (l0 : List Nd) (acc : List α) (k : Nat) (l : List Nd) : Prop := rN x n l0 = (rN x k l).map fun z => (acc ++ z.1, z.2)
theorem NAt.start (x : List Nd → Option (α × List Nd)) (n : Nat) (l : List Nd) : NAt x n l [] n l := by
 unfold NAt
 cases rN x n l <;> simp
theorem NAt.step {x : List Nd → Option (α × List Nd)} {n : Nat} {l0 : List Nd} {acc : List α} {k : Nat} {l l' : List Nd} {a : α} (h : NAt x n l0 acc (k + 1) l) (ha : x l = some (a, l')) : NAt x n l0 (acc ++ [a]) k l' := by
 unfold NAt at *
 rw [h]
 simp only [rN, ha, Option.bind_some]
 cases rN x k l' <;> simp
theorem NAt.fail {x : List Nd → Option (α × List Nd)} {n : Nat} {l0 : List Nd} {acc : List α} {k : Nat} {l : List Nd} (h : NAt x n l0 acc (k + 1) l) (ha : x l = none) : rN x n l0 = none := by
 unfold NAt at h
 rw [h]
 simp [rN, ha]
theorem NAt.done {x : List Nd → Option (α × List Nd)} {n : Nat} {l0 : List Nd} {acc : List α} {l : List Nd} (h : NAt x n l0 acc 0 l) : rN x n l0 = some (acc, l) := by
 unfold NAt at h
 rw [h]
 simp [rN]
def WAt (is : Int → Bool) (x : List Nd → Option (α × List Nd)) (n : Nat) (l0 : List Nd) (acc : List α) (k : Nat) (l : List Nd) : Prop := rW is x n l0 = (rW is x k l).map fun z => (acc ++ z.1, z.2)
theorem WAt.start (is : Int → Bool) (x : List Nd → Option (α × List Nd)) (n : Nat) (l : List Nd) : WAt is x n l [] n l := by
 unfold WAt
 cases rW is x n l <;> simp
theorem WAt.step {is : Int → Bool} {x : List Nd → Option (α × List Nd)} {n : Nat} {l0 : List Nd} {acc : List α} {k : Nat} {l l' : List Nd} {a : α} (h : WAt is x n l0 acc (k + 1) l) (hi : is (pkN l) = true) (ha : x l = some (a, l')) : WAt is x n l0 (acc ++ [a]) k l' := by
 unfold WAt at *
 rw [h]
 simp only [rW, hi, if_true, ha, Option.bind_some]
 cases rW is x k l' <;> simp
theorem WAt.fail {is : Int → Bool} {x : List Nd → Option (α × List Nd)} {n : Nat} {l0 : List Nd} {acc : List α} {k : Nat} {l : List Nd} (h : WAt is x n l0 acc (k + 1) l) (hi : is (pkN l) = true) (ha : x l = none) : rW is x n l0 = none := by
 unfold WAt at h
 rw [h]
 simp [rW, hi, ha]
theorem WAt.done {is : Int → Bool} {x : List Nd → Option (α × List Nd)} {n : Nat} {l0 : List Nd} {acc : List α} {k : Nat} {l : List Nd} (h : WAt is x n l0 acc k l) (hi : k = 0 ∨ is (pkN l) = false) : rW is x n l0 = some (acc, k, l) := by
 unfold WAt at h
 rw [h]
 cases k with
 | zero => simp [rW]
 | succ k =>
  have : is (pkN l) = false := by rcases hi with h | h; · cases h
                                  · exact h
  simp [rW, this]
end Px
end
section
namespace Px
open Lx (Bs)
def Eats {α : Type} (x : List Nd → Option (α × List Nd)) : Prop := ∀ l a r, x l = some (a, r) → r.length < l.length
theorem eats_E : ∀ f, Eats (rE f)
 | 0 => fun l a r h => by simp [rE] at h
 | f + 1 => fun l a r h => by
  match l, h with
  | [], h => simp [rE] at h
  | x :: q, h =>
   have ih := eats_E f
   unfold rE at h
   split at h
   · split at h
     · simp only [Option.map_eq_some_iff] at h
       obtain ⟨⟨e, r'⟩, h1, h2⟩ := h
       cases h2
       have := ih _ _ _ h1
       simp only [List.length_cons]
       omega
     · cases h
   · split at h
     · split at h
       · simp only [Option.bind_eq_some_iff, Option.map_eq_some_iff] at h
         obtain ⟨⟨e1, r1⟩, h1, ⟨e2, r2⟩, h2, h3⟩ := h
         cases h3
         have q1 := ih _ _ _ h1
         have q2 := ih _ _ _ h2
         simp only [List.length_cons] at *
         omega
       · cases h
     · simp only [Option.map_eq_some_iff] at h
       obtain ⟨e, _, h2⟩ := h
       cases h2
       simp
theorem rN_len {α : Type} {x : List Nd → Option (α × List Nd)} (hx : Eats x) : ∀ (n : Nat) (l : List Nd) (a : List α) (r : List Nd), rN x n l = some (a, r) → r.length + a.length ≤ l.length
 | 0, l, a, r, h => by
  simp only [rN, Option.some.injEq] at h
  cases h
  simp
 | n + 1, l, a, r, h => by
  simp only [rN, Option.bind_eq_some_iff, Option.map_eq_some_iff] at h
  obtain ⟨⟨e1, r1⟩, h1, ⟨e2, r2⟩, h2, h3⟩ := h
  cases h3
  have q1 := hx _ _ _ h1
  have q2 := rN_len hx n _ _ _ h2
  simp only [List.length_cons] at *
  omega
theorem eats_Row : Eats rRow := fun l a r h => by
 match l, h with
 | [], h => simp [rRow] at h
 | x :: q, h =>
  unfold rRow at h
  simp only at h
  split at h
  · have := rN_len (eats_E 40) _ _ _ _ h
    simp only [List.length_cons]
    omega
  · cases h
theorem eats_Set : Eats rSet := fun l a r h => by
 match l, h with
 | [], h => simp [rSet] at h
 | x :: q, h =>
  unfold rSet at h
  simp only at h
  split at h
  · simp only [Option.map_eq_some_iff] at h
    obtain ⟨⟨e, r'⟩, h1, h2⟩ := h
    cases h2
    have := eats_E 40 _ _ _ h1
    simp only [List.length_cons]
    omega
  · cases h
theorem eats_Order : Eats rOrder := fun l a r h => by
 match l, h with
 | [], h => simp [rOrder] at h
 | x :: q, h =>
  unfold rOrder at h
  simp only at h
  split at h
  · simp only [Option.map_eq_some_iff] at h
    obtain ⟨⟨e, r'⟩, h1, h2⟩ := h
    cases h2
    have := eats_E 40 _ _ _ h1
    simp only [List.length_cons]
    omega
  · cases h
theorem eats_Item : Eats rItem := fun l a r h => by
 match l, h with
 | [], h => simp [rItem] at h
 | x :: q, h =>
  unfold rItem at h
  simp only at h
  split at h
  · split at h
    · cases h; simp
    · cases h
  · simp only [Option.map_eq_some_iff] at h
    obtain ⟨⟨e, r'⟩, h1, h2⟩ := h
    cases h2
    exact eats_E 40 _ _ _ h1
end Px
end
section
namespace Px
open Lx (Bs Tok)
variable {α : Type}
theorem bare_iff (x : Nd) (k : Int) : bareN x k = true ↔ x.text = [] ∧ x.num = 0 ∧ x.kids = k := by
 simp [bareN, and_assoc]
theorem wex_rE : ∀ (f : Nat) (l : List Nd), wex f l = (rE f l).map Prod.snd
 | 0, l => rfl
 | f + 1, [] => rfl
 | f + 1, x :: r => by
  have ih := wex_rE f
  unfold wex rE
  by_cases h1 : x.kind = 19 ∨ x.kind = 20 ∨ x.kind = 21 ∨ x.kind = 22
  · rw [if_pos h1]
    have hn : nodeOk x r = true ↔ bareN x 1 = true ∧ ¬ (x.kind = 19 ∧ pkN r = 16) := by
     unfold nodeOk
     rw [if_neg (by omega), if_neg (by omega), if_neg (by omega), if_neg (by omega), if_neg (by omega)]
     by_cases h19 : x.kind = 19
     · rw [if_pos h19]
       cases r with
       | nil => simp [pkN]
       | cons y r => simp [pkN, h19]
     · rw [if_neg h19, if_pos (by omega)]
       constructor
       · intro a; exact ⟨a, fun c => h19 c.1⟩
       · rintro ⟨a, _⟩; exact a
    by_cases hc : bareN x 1 = true ∧ ¬ (x.kind = 19 ∧ pkN r = 16)
    · rw [if_pos (hn.2 hc), if_pos hc]
      have hk := ((bare_iff x 1).1 hc.1).2.2
      rw [if_neg (by omega), if_pos hk, ih]
      cases rE f r <;> rfl
    · rw [if_neg (fun e => hc (hn.1 e)), if_neg hc]; rfl
  · rw [if_neg h1]
    by_cases h2 : 23 ≤ x.kind ∧ x.kind ≤ 36
    · rw [if_pos h2]
      have hn : nodeOk x r = true ↔ bareN x 2 = true := by
       unfold nodeOk
       rw [if_neg (by omega), if_neg (by omega), if_neg (by omega), if_neg (by omega), if_neg (by omega), if_neg (by omega), if_neg (by omega)]
       simp [h2]
      by_cases hc : bareN x 2 = true
      · rw [if_pos (hn.2 hc), if_pos hc]
        have hk := ((bare_iff x 2).1 hc).2.2
        rw [if_neg (by omega), if_neg (by omega), ih]
        cases hr : rE f r with
        | none => rfl
        | some y =>
         simp only [Option.map_some, Option.bind_some]
         rw [ih]
         cases rE f y.2 <;> rfl
      · rw [if_neg (fun e => hc (hn.1 e)), if_neg hc]; rfl
    · rw [if_neg h2]
      have key : (if nodeOk x r = true then (if x.kids = 0 then some r else if x.kids = 1 then wex f r else (wex f r).bind (wex f)) else none) = (if (rA x).isSome = true then some r else none) := by
       have hn : nodeOk x r = true ↔ (rA x).isSome = true ∧ x.kids = 0 := by
        unfold nodeOk rA
        by_cases k14 : x.kind = 14
        · rw [if_pos k14, if_pos k14]
          by_cases hb : bareN x 0 = true
          · rw [if_pos hb]; have := (bare_iff x 0).1 hb; simp [hb, this.2.2]
          · rw [if_neg hb]; simp [hb]
        · rw [if_neg k14, if_neg k14]
          by_cases k15 : x.kind = 15
          · rw [if_pos k15, if_pos k15]
            by_cases hb : x.text = [] ∧ x.kids = 0 ∧ (x.num = 0 ∨ x.num = 1)
            · rw [if_pos hb]; simp [hb]
            · rw [if_neg hb]
              simp only [Bool.and_eq_true, List.isEmpty_iff, Bool.or_eq_true, decide_eq_true_eq]
              constructor
              · rintro ⟨⟨a, b⟩, c⟩; exact absurd ⟨a, c, b⟩ hb
              · rintro ⟨h, _⟩; cases h
          · rw [if_neg k15, if_neg k15]
            by_cases k16 : x.kind = 16
            · rw [if_pos k16, if_pos k16]
              by_cases hb : x.text = [] ∧ x.kids = 0
              · rw [if_pos hb]; simp [hb]
              · rw [if_neg hb]
                simp only [Bool.and_eq_true, List.isEmpty_iff, decide_eq_true_eq]
                constructor
                · intro h; exact absurd h hb
                · rintro ⟨h, _⟩; cases h
            · rw [if_neg k16, if_neg k16]
              by_cases k17 : x.kind = 17
              · rw [if_pos k17, if_pos k17]
                by_cases hb : Lx.validN x.text = true ∧ x.num = 0 ∧ x.kids = 0
                · rw [if_pos hb]; simp [hb]
                · rw [if_neg hb]
                  simp only [Bool.and_eq_true, decide_eq_true_eq]
                  constructor
                  · rintro ⟨⟨a, b⟩, c⟩; exact absurd ⟨a, b, c⟩ hb
                  · rintro ⟨h, _⟩; cases h
              · rw [if_neg k17, if_neg k17]
                by_cases k18 : x.kind = 18
                · rw [if_pos k18, if_pos k18]
                  by_cases hb : isName x.text = true ∧ x.num = 0 ∧ x.kids = 0
                  · rw [if_pos hb]; simp [hb]
                  · rw [if_neg hb]
                    simp only [Bool.and_eq_true, decide_eq_true_eq]
                    constructor
                    · rintro ⟨⟨a, b⟩, c⟩; exact absurd ⟨a, b, c⟩ hb
                    · rintro ⟨h, _⟩; cases h
                · rw [if_neg k18, if_neg k18, if_neg (by omega), if_neg (by omega)]
                  simp [h2]
       have hkid : (rA x).isSome = true → x.kids = 0 := by
        intro h
        unfold rA at h
        repeat' split at h
        all_goals first
         | (cases h; done)
         | (rename_i hb; exact ((bare_iff x 0).1 hb).2.2)
         | (rename_i hb; exact hb.2.1)
         | (rename_i hb; exact hb.2)
         | (rename_i hb; exact hb.2.2)
       by_cases hs : (rA x).isSome = true
       · rw [if_pos (hn.2 ⟨hs, hkid hs⟩), if_pos (hkid hs), if_pos hs]
       · rw [if_neg (fun e => hs (hn.1 e).1), if_neg hs]
      rw [key]
      cases rA x <;> rfl
theorem wexs_rN : ∀ (k : Nat) (l : List Nd), wexs k l = (rN (rE 40) k l).map Prod.snd
 | 0, l => rfl
 | k + 1, l => by
  have ih := wexs_rN k
  unfold wexs rN
  rw [wex_rE]
  cases hr : rE 40 l with
  | none => rfl
  | some y =>
   simp only [Option.map_some, Option.bind_some]
   rw [ih]
   cases rN (rE 40) k y.2 <;> rfl
theorem wpart_col (x : Nd) (r : List Nd) (h : x.kind = 2) : wpart (x :: r) = (rCol (x :: r)).map Prod.snd := by
 simp only [wpart, rCol]
 rw [if_pos h]
 by_cases hc : isName x.text = true ∧ x.kids = 0 ∧ 1 ≤ x.num ∧ x.num ≤ 7 ∧ x.num ≠ 4
 · rw [if_pos hc, if_pos ⟨h, hc.1, hc.2.1, by split <;> omega, by split <;> omega⟩]; rfl
 · rw [if_neg hc, if_neg]
   · rfl
   · rintro ⟨_, a, b, c, d⟩
     refine hc ⟨a, b, ?_, ?_, ?_⟩
     · split at c <;> omega
     · split at d <;> omega
     · intro e; rw [e] at c d; simp at d
theorem wpart_row (x : Nd) (r : List Nd) (h : x.kind = 5) : wpart (x :: r) = (rRow (x :: r)).map Prod.snd := by
 simp only [wpart, rRow]
 rw [if_neg (by omega), if_pos h]
 by_cases hc : x.text = [] ∧ x.num = 0 ∧ 1 ≤ x.kids
 · rw [if_pos hc, if_pos ⟨h, hc⟩, wexs_rN]
 · rw [if_neg hc, if_neg (fun e => hc e.2)]; rfl
theorem wpart_set (x : Nd) (r : List Nd) (h : x.kind = 8) : wpart (x :: r) = (rSet (x :: r)).map Prod.snd := by
 simp only [wpart, rSet]
 rw [if_neg (by omega), if_neg (by omega), if_pos h]
 by_cases hc : isName x.text = true ∧ x.num = 0 ∧ x.kids = 1
 · rw [if_pos hc, if_pos ⟨h, hc⟩, wex_rE]
   cases rE 40 r <;> rfl
 · rw [if_neg hc, if_neg (fun e => hc e.2)]; rfl
theorem wpart_where (x : Nd) (r : List Nd) (k : Nat) (h : x.kind = 11) : wpart (x :: r) = (rWhere (k + 1) (x :: r)).map fun z => z.2.2 := by
 have e : rWhere (k + 1) (x :: r) = if bareN x 1 = true then (rE 40 r).map fun y => (some y.1, k, y.2) else none := by simp [rWhere, pkN, h]
 simp only [wpart]
 rw [e, if_neg (by omega), if_neg (by omega), if_neg (by omega), if_neg (by omega), if_pos h]
 by_cases hc : bareN x 1 = true
 · rw [if_pos hc, if_pos hc, wex_rE]
   cases rE 40 r <;> rfl
 · rw [if_neg hc, if_neg hc]; rfl
theorem wpart_order (x : Nd) (r : List Nd) (h : x.kind = 12) : wpart (x :: r) = (rOrder (x :: r)).map Prod.snd := by
 simp only [wpart, rOrder]
 rw [if_neg (by omega), if_neg (by omega), if_neg (by omega), if_neg (by omega), if_neg (by omega), if_pos h]
 by_cases hc : x.text = [] ∧ x.kids = 1 ∧ (x.num = 0 ∨ x.num = 1)
 · rw [if_pos hc, if_pos ⟨hc.1, by omega, by omega, hc.2.1⟩, wex_rE]
   cases rE 40 r <;> rfl
 · rw [if_neg hc, if_neg (fun e => hc ⟨e.1, e.2.2.2, by omega⟩)]; rfl
theorem wpart_lim (x : Nd) (r : List Nd) (k : Nat) (h : x.kind = 13) : wpart (x :: r) = (rLim (k + 1) (x :: r)).map fun z => z.2.2 := by
 have e : rLim (k + 1) (x :: r) = if x.text = [] ∧ x.kids = 0 ∧ 0 ≤ x.num ∧ x.num ≤ 1000000000 then some (some x.num.toNat, k, r) else none := by simp [rLim, pkN, h]
 simp only [wpart]
 rw [e, if_neg (by omega), if_neg (by omega), if_neg (by omega), if_neg (by omega), if_neg (by omega), if_neg (by omega), if_pos h]
 by_cases hc : x.text = [] ∧ x.kids = 0 ∧ 0 ≤ x.num ∧ x.num ≤ 1000000000
 · rw [if_pos hc, if_pos ⟨hc.1, hc.2.2.1, hc.2.2.2, hc.2.1⟩]; rfl
 · rw [if_neg hc, if_neg (fun e => hc ⟨e.1, e.2.2.2, e.2.1, e.2.2.1⟩)]; rfl
theorem wpart_item (x : Nd) (r : List Nd) (h : isExpr x.kind = true ∨ x.kind = 10) : wpart (x :: r) = (rItem (x :: r)).map Prod.snd := by
 simp only [wpart, rItem]
 simp only [isExpr, decide_eq_true_eq] at h
 rw [if_neg (by omega), if_neg (by omega), if_neg (by omega)]
 by_cases h10 : x.kind = 10
 · rw [if_pos h10, if_pos h10]
   by_cases hc : bareN x 0 = true
   · rw [if_pos hc, if_pos hc]; rfl
   · rw [if_neg hc, if_neg hc]; rfl
 · rw [if_neg h10, if_neg h10, if_neg (by omega), if_neg (by omega), if_neg (by omega), wex_rE]
   cases rE 40 (x :: r) <;> rfl
end Px
end
section
namespace Px
open Lx (Bs Tok)
theorem wp_no (top : Int) (k last t : Nat) (x : Nd) (r : List Nd) (h : fits top x.kind = false ∨ rank x.kind < last ∨ (rank x.kind = last ∧ (rank x.kind = 2 ∨ rank x.kind = 4))) : wparts top (k + 1) last t (x :: r) = none := by
 simp only [wparts]
 rw [if_pos h]
theorem wp_go (top : Int) (k last t : Nat) (x : Nd) (r : List Nd) (h : ¬ (fits top x.kind = false ∨ rank x.kind < last ∨ (rank x.kind = last ∧ (rank x.kind = 2 ∨ rank x.kind = 4)))) :
   wparts top (k + 1) last t (x :: r) = (wpart (x :: r)).bind (wparts top k (rank x.kind) (if rank x.kind = 1 then t + 1 else t)) := by
 simp only [wparts]
 rw [if_neg h]
theorem rank_11 : rank 11 = 2 := rfl
theorem rank_13 : rank 13 = 4 := rfl
theorem rank_1 {k : Int} (h1 : k ≠ 11) (h2 : k ≠ 12) (h3 : k ≠ 13) : rank k = 1 := by unfold rank; rw [if_neg h1, if_neg h2, if_neg h3]
theorem wp_nil (top : Int) (last t : Nat) (l : List Nd) : wparts top 0 last t l = if l = [] then some t else none := by cases l <;> rfl
theorem wp_all {α : Type} (top kd : Int) (x : List Nd → Option (α × List Nd)) (hf : ∀ k, fits top k = decide (k = kd)) (hkd : kd ≠ 11 ∧ kd ≠ 12 ∧ kd ≠ 13) (hn : x [] = none) (hx : ∀ y r, y.kind ≠ kd → x (y :: r) = none) (hw : ∀ y r, y.kind = kd → wpart (y :: r) = (x (y :: r)).map Prod.snd) :
   ∀ (k t : Nat) (l : List Nd), wparts top k 1 t l = (rN x k l).bind fun y => if y.2 = [] then some (t + k) else none := by
 intro k
 induction k with
 | zero => intro t l; rw [wp_nil]; simp [rN]
 | succ k ih =>
  intro t l
  cases l with
  | nil => simp [wparts, rN, hn]
  | cons y r =>
   by_cases hy : y.kind = kd
   · rw [wp_go _ _ _ _ _ _ (by rw [hf, hy, rank_1 hkd.1 hkd.2.1 hkd.2.2]; simp), hw y r hy, hy, rank_1 hkd.1 hkd.2.1 hkd.2.2, if_pos rfl]
     simp only [rN]
     cases x (y :: r) with
     | none => rfl
     | some z =>
      simp only [Option.map_some, Option.bind_some]
      rw [ih]
      cases rN x k z.2 with
      | none => rfl
      | some q => simp only [Option.map_some, Option.bind_some]; rw [show t + 1 + k = t + (k + 1) by omega]
   · rw [wp_no _ _ _ _ _ _ (.inl (by rw [hf]; simpa using hy))]
     simp [rN, hx y r hy]
theorem wp_create : ∀ (k t : Nat) (l : List Nd), wparts 1 k 1 t l = (rN rCol k l).bind fun y => if y.2 = [] then some (t + k) else none :=
 wp_all 1 2 rCol (fun k => by simp [fits]) (by decide) rfl (fun y r h => by simp [rCol, h]) (fun y r h => wpart_col y r h)
theorem wp_insert : ∀ (k t : Nat) (l : List Nd), wparts 4 k 1 t l = (rN rRow k l).bind fun y => if y.2 = [] then some (t + k) else none :=
 wp_all 4 5 rRow (fun k => by simp [fits]) (by decide) rfl (fun y r h => by simp [rRow, h]) (fun y r h => wpart_row y r h)
theorem wp_end (top : Int) (last : Nat) (h : ∀ k : Int, fits top k = false ∨ rank k < last ∨ (rank k = last ∧ (rank k = 2 ∨ rank k = 4))) (k t : Nat) (l : List Nd) : wparts top k last t l = if k = 0 ∧ l = [] then some t else none := by
 cases k with
 | zero => rw [wp_nil]; simp
 | succ k =>
  rw [if_neg (by omega)]
  cases l with
  | nil => rfl
  | cons y r => exact wp_no _ _ _ _ _ _ (h y.kind)
theorem rank_cases (k : Int) : (k = 11 ∧ rank k = 2) ∨ (k = 12 ∧ rank k = 3) ∨ (k = 13 ∧ rank k = 4) ∨ (k ≠ 11 ∧ k ≠ 12 ∧ k ≠ 13 ∧ rank k = 1) := by
 by_cases h1 : k = 11
 · subst h1; exact .inl ⟨rfl, rfl⟩
 · by_cases h2 : k = 12
   · subst h2; exact .inr (.inl ⟨rfl, rfl⟩)
   · by_cases h3 : k = 13
     · subst h3; exact .inr (.inr (.inl ⟨rfl, rfl⟩))
     · exact .inr (.inr (.inr ⟨h1, h2, h3, rank_1 h1 h2 h3⟩))
theorem wp_62 (k t : Nat) (l : List Nd) : wparts 6 k 2 t l = if k = 0 ∧ l = [] then some t else none :=
 wp_end 6 2 (fun k => by
  by_cases h : k = 11
  · subst h; exact .inr (.inr ⟨rfl, .inl rfl⟩)
  · exact .inl (by simp [fits, h])) k t l
theorem wp_72 (k t : Nat) (l : List Nd) : wparts 7 k 2 t l = if k = 0 ∧ l = [] then some t else none :=
 wp_end 7 2 (fun k => by
  rcases rank_cases k with ⟨h, hr⟩ | ⟨h, hr⟩ | ⟨h, hr⟩ | ⟨_, _, _, hr⟩
  · exact .inr (.inr ⟨hr, .inl hr⟩)
  · exact .inl (by simp [fits, h])
  · exact .inl (by simp [fits, h])
  · exact .inr (.inl (by omega))) k t l
theorem wp_94 (k t : Nat) (l : List Nd) : wparts 9 k 4 t l = if k = 0 ∧ l = [] then some t else none :=
 wp_end 9 4 (fun k => by
  rcases rank_cases k with ⟨h, hr⟩ | ⟨h, hr⟩ | ⟨h, hr⟩ | ⟨_, _, _, hr⟩
  · exact .inr (.inl (by omega))
  · exact .inr (.inl (by omega))
  · exact .inr (.inr ⟨hr, .inr hr⟩)
  · exact .inr (.inl (by omega))) k t l
theorem rWhere_no (k : Nat) (l : List Nd) (h : pkN l ≠ 11) : rWhere k l = some (none, k, l) := by
 unfold rWhere
 rw [if_neg (fun e => h e.2)]
theorem rWhere_0 (l : List Nd) : rWhere 0 l = some (none, 0, l) := by
 unfold rWhere
 rw [if_neg (fun e => e.1 rfl)]
theorem rLim_no (k : Nat) (l : List Nd) (h : pkN l ≠ 13) : rLim k l = some (none, k, l) := by
 unfold rLim
 rw [if_neg (fun e => h e.2)]
theorem rLim_0 (l : List Nd) : rLim 0 l = some (none, 0, l) := by
 unfold rLim
 rw [if_neg (fun e => e.1 rfl)]
theorem rWhere_yes (k : Nat) (x : Nd) (r : List Nd) (h : x.kind = 11) : rWhere (k + 1) (x :: r) = if bareN x 1 = true then (rE 40 r).map fun y => (some y.1, k, y.2) else none := by simp [rWhere, pkN, h]
theorem rLim_yes (k : Nat) (x : Nd) (r : List Nd) (h : x.kind = 13) : rLim (k + 1) (x :: r) = if x.text = [] ∧ x.kids = 0 ∧ 0 ≤ x.num ∧ x.num ≤ 1000000000 then some (some x.num.toNat, k, r) else none := by simp [rLim, pkN, h]
theorem go_where (k : Nat) (x : Nd) (r : List Nd) (h : x.kind = 11) (f : Nat → List Nd → Option Nat) (g : Option E → Nat → List Nd → Option Nat) (hfg : ∀ e l, f k l = g (some e) k l) :
   (wpart (x :: r)).bind (f k) = (rWhere (k + 1) (x :: r)).bind fun z => g z.1 z.2.1 z.2.2 := by
 rw [wpart_where x r k h, rWhere_yes k x r h]
 by_cases hc : bareN x 1 = true
 · rw [if_pos hc]
   cases rE 40 r with
   | none => rfl
   | some y => simp only [Option.map_some, Option.bind_some]; exact hfg _ _
 · rw [if_neg hc]; rfl
theorem wp_delete (k t : Nat) (l : List Nd) : wparts 6 k 1 t l = (rWhere k l).bind fun y => if y.2.1 = 0 ∧ y.2.2 = [] then some t else none := by
 cases k with
 | zero => rw [wp_nil, rWhere_0]; simp
 | succ k =>
  cases l with
  | nil => rw [rWhere_no _ _ (by simp [pkN])]; simp [wparts]
  | cons x r =>
   by_cases hx : x.kind = 11
   · rw [wp_go _ _ _ _ _ _ (by rw [hx]; simp [fits, rank_11]), hx, rank_11, if_neg (by omega)]
     exact go_where k x r hx (fun k l => wparts 6 k 2 t l) (fun _ k l => if k = 0 ∧ l = [] then some t else none) (fun e l => wp_62 k t l)
   · rw [wp_no _ _ _ _ _ _ (.inl (by simp [fits, hx])), rWhere_no _ _ (by simpa [pkN] using hx)]; simp
theorem wp_update : ∀ (k t : Nat) (l : List Nd), wparts 7 k 1 t l = (rW (fun k => decide (k = 8)) rSet k l).bind fun y => (rWhere y.2.1 y.2.2).bind fun z => if z.2.1 = 0 ∧ z.2.2 = [] then some (t + y.1.length) else none := by
 intro k
 induction k with
 | zero => intro t l; rw [wp_nil]; simp [rW, rWhere_0]
 | succ k ih =>
  intro t l
  cases l with
  | nil =>
   have h0 := rWhere_no (k + 1) [] (by simp [pkN])
   simp [wparts, rW, pkN, h0]
  | cons x r =>
   by_cases h8 : x.kind = 8
   · rw [wp_go _ _ _ _ _ _ (by rw [h8]; simp [fits, rank]), wpart_set x r h8, h8]
     have hr : rank 8 = 1 := rfl
     rw [hr, if_pos rfl]
     simp only [rW, pkN, h8, decide_true, if_true]
     cases rSet (x :: r) with
     | none => rfl
     | some z =>
      simp only [Option.map_some, Option.bind_some]
      rw [ih]
      cases rW (fun k => decide (k = 8)) rSet k z.2 with
      | none => rfl
      | some q => simp only [Option.map_some, Option.bind_some, List.length_cons]; rw [show t + 1 + q.1.length = t + (q.1.length + 1) by omega]
   · have hstop : rW (fun k => decide (k = 8)) rSet (k + 1) (x :: r) = some ([], k + 1, x :: r) := by simp [rW, pkN, h8]
     rw [hstop]
     simp only [Option.bind_some, List.length_nil, Nat.add_zero]
     by_cases hx : x.kind = 11
     · rw [wp_go _ _ _ _ _ _ (by rw [hx]; simp [fits, rank_11]), hx, rank_11, if_neg (by omega)]
       exact go_where k x r hx (fun k l => wparts 7 k 2 t l) (fun _ k l => if k = 0 ∧ l = [] then some t else none) (fun e l => wp_72 k t l)
     · rw [wp_no _ _ _ _ _ _ (.inl (by simp [fits, h8, hx])), rWhere_no _ _ (by simpa [pkN] using hx)]; simp
def tailO (k t : Nat) (l : List Nd) : Option Nat := (rW (fun k => decide (k = 12)) rOrder k l).bind fun o => (rLim o.2.1 o.2.2).bind fun u => if u.2.1 = 0 ∧ u.2.2 = [] then some t else none
theorem tailO_0 (t : Nat) (l : List Nd) : tailO 0 t l = if l = [] then some t else none := by simp [tailO, rW, rLim_0]
theorem tailO_nil (k t : Nat) : tailO (k + 1) t [] = none := by
 have h0 := rLim_no (k + 1) [] (by simp [pkN])
 simp [tailO, rW, pkN, h0]
theorem tailO_12 (k t : Nat) (x : Nd) (r : List Nd) (h : x.kind = 12) : tailO (k + 1) t (x :: r) = (wpart (x :: r)).bind (tailO k t) := by
 rw [wpart_order x r h]
 simp only [tailO, rW, pkN, h, decide_true, if_true]
 cases rOrder (x :: r) with
 | none => rfl
 | some z =>
  simp only [Option.map_some, Option.bind_some]
  unfold tailO
  cases rW (fun k => decide (k = 12)) rOrder k z.2 <;> rfl
theorem tailO_13 (k t : Nat) (x : Nd) (r : List Nd) (h : x.kind = 13) : tailO (k + 1) t (x :: r) = (wpart (x :: r)).bind fun l => if k = 0 ∧ l = [] then some t else none := by
 rw [wpart_lim x r k h, tailO]
 have hs : rW (fun k => decide (k = 12)) rOrder (k + 1) (x :: r) = some ([], k + 1, x :: r) := by simp [rW, pkN, h]
 rw [hs]
 simp only [Option.bind_some]
 rw [rLim_yes k x r h]
 by_cases hc : x.text = [] ∧ x.kids = 0 ∧ 0 ≤ x.num ∧ x.num ≤ 1000000000
 · rw [if_pos hc]; rfl
 · rw [if_neg hc]; rfl
theorem tailO_no (k t : Nat) (x : Nd) (r : List Nd) (h : x.kind ≠ 12) (h' : x.kind ≠ 13) : tailO (k + 1) t (x :: r) = none := by
 have hs : rW (fun k => decide (k = 12)) rOrder (k + 1) (x :: r) = some ([], k + 1, x :: r) := by simp [rW, pkN, h]
 rw [tailO, hs]
 simp only [Option.bind_some]
 rw [rLim_no _ _ (by simpa [pkN] using h')]
 simp
theorem wp_93 : ∀ (k t : Nat) (l : List Nd), wparts 9 k 3 t l = tailO k t l := by
 intro k
 induction k with
 | zero => intro t l; rw [wp_nil, tailO_0]
 | succ k ih =>
  intro t l
  cases l with
  | nil => rw [tailO_nil]; rfl
  | cons x r =>
   rcases rank_cases x.kind with ⟨h, hr⟩ | ⟨h, hr⟩ | ⟨h, hr⟩ | ⟨h1, h2, h3, hr⟩
   · rw [wp_no _ _ _ _ _ _ (.inr (.inl (by omega))), tailO_no _ _ _ _ (by omega) (by omega)]
   · rw [wp_go _ _ _ _ _ _ (by rw [hr]; simp [fits, h]), tailO_12 k t x r h, hr, if_neg (by omega)]
     congr 1
     funext l
     exact ih t l
   · rw [wp_go _ _ _ _ _ _ (by rw [hr]; simp [fits, h]), tailO_13 k t x r h, hr, if_neg (by omega)]
     congr 1
     funext l
     exact wp_94 k t l
   · rw [wp_no _ _ _ _ _ _ (.inr (.inl (by omega))), tailO_no _ _ _ _ h2 h3]
theorem wp_92 (k t : Nat) (l : List Nd) : wparts 9 k 2 t l = tailO k t l := by
 cases k with
 | zero => rw [wp_nil, tailO_0]
 | succ k =>
  cases l with
  | nil => rw [tailO_nil]; rfl
  | cons x r =>
   rcases rank_cases x.kind with ⟨h, hr⟩ | ⟨h, hr⟩ | ⟨h, hr⟩ | ⟨h1, h2, h3, hr⟩
   · rw [wp_no _ _ _ _ _ _ (.inr (.inr ⟨hr, .inl hr⟩)), tailO_no _ _ _ _ (by omega) (by omega)]
   · rw [wp_go _ _ _ _ _ _ (by rw [hr]; simp [fits, h]), tailO_12 k t x r h, hr, if_neg (by omega)]
     congr 1
     funext l
     exact wp_93 k t l
   · rw [wp_go _ _ _ _ _ _ (by rw [hr]; simp [fits, h]), tailO_13 k t x r h, hr, if_neg (by omega)]
     congr 1
     funext l
     exact wp_94 k t l
   · rw [wp_no _ _ _ _ _ _ (.inr (.inl (by omega))), tailO_no _ _ _ _ h2 h3]
theorem rE_none (f : Nat) (x : Nd) (r : List Nd) (h : isExpr x.kind = false) : rE f (x :: r) = none := by
 simp only [isExpr, decide_eq_false_iff_not] at h
 cases f with
 | zero => rfl
 | succ f =>
  simp only [rE]
  rw [if_neg (by omega), if_neg (by omega)]
  simp only [rA]
  rw [if_neg (by omega), if_neg (by omega), if_neg (by omega), if_neg (by omega), if_neg (by omega)]
  rfl
theorem wp_select : ∀ (k t : Nat) (l : List Nd), wparts 9 k 1 t l = (rW (fun k => !isTail k) rItem k l).bind fun y => (rWhere y.2.1 y.2.2).bind fun z => tailO z.2.1 (t + y.1.length) z.2.2 := by
 intro k
 induction k with
 | zero => intro t l; rw [wp_nil]; simp [rW, rWhere_0, tailO_0]
 | succ k ih =>
  intro t l
  cases l with
  | nil =>
   have hi : rItem [] = none := rfl
   simp [wparts, rW, pkN, isTail, hi]
  | cons x r =>
   have stop : isTail x.kind = true → rW (fun k => !isTail k) rItem (k + 1) (x :: r) = some ([], k + 1, x :: r) := fun h => by simp [rW, pkN, h]
   rcases rank_cases x.kind with ⟨h, hr⟩ | ⟨h, hr⟩ | ⟨h, hr⟩ | ⟨h1, h2, h3, hr⟩
   · rw [stop (by rw [h]; rfl)]
     simp only [Option.bind_some, List.length_nil, Nat.add_zero]
     rw [wp_go _ _ _ _ _ _ (by rw [hr]; simp [fits, h]), hr, if_neg (by omega)]
     exact go_where k x r h (fun k l => wparts 9 k 2 t l) (fun _ k l => tailO k t l) (fun e l => wp_92 k t l)
   · rw [stop (by rw [h]; rfl)]
     simp only [Option.bind_some, List.length_nil, Nat.add_zero]
     rw [rWhere_no _ _ (by rw [pkN, h]; decide)]
     simp only [Option.bind_some]
     rw [wp_go _ _ _ _ _ _ (by rw [hr]; simp [fits, h]), tailO_12 k t x r h, hr, if_neg (by omega)]
     congr 1
     funext l
     exact wp_93 k t l
   · rw [stop (by rw [h]; rfl)]
     simp only [Option.bind_some, List.length_nil, Nat.add_zero]
     rw [rWhere_no _ _ (by rw [pkN, h]; decide)]
     simp only [Option.bind_some]
     rw [wp_go _ _ _ _ _ _ (by rw [hr]; simp [fits, h]), tailO_13 k t x r h, hr, if_neg (by omega)]
     congr 1
     funext l
     exact wp_94 k t l
   · have ht : isTail x.kind = false := by simp [isTail, h1, h2, h3]
     simp only [rW, pkN, ht, Bool.not_false, if_true]
     by_cases hf : isExpr x.kind = true ∨ x.kind = 10
     · rw [wp_go _ _ _ _ _ _ (by rw [hr]; rcases hf with hf | hf <;> simp [fits, hf]), wpart_item x r hf, hr, if_pos rfl]
       cases rItem (x :: r) with
       | none => rfl
       | some z =>
        simp only [Option.map_some, Option.bind_some]
        rw [ih]
        cases rW (fun k => !isTail k) rItem k z.2 with
        | none => rfl
        | some q => simp only [Option.map_some, Option.bind_some, List.length_cons]; rw [show t + 1 + q.1.length = t + (q.1.length + 1) by omega]
     · have hf1 : isExpr x.kind = false := by
        cases hh : isExpr x.kind with
        | false => rfl
        | true => exact absurd (.inl hh) hf
       have hf2 : x.kind ≠ 10 := fun e => hf (.inr e)
       rw [wp_no _ _ _ _ _ _ (.inl (by simp [fits, hf1, hf2, h1, h2, h3]))]
       have : rItem (x :: r) = none := by simp only [rItem]; rw [if_neg hf2, rE_none 40 x r hf1]; rfl
       rw [this]; rfl
end Px
end
section
namespace Px
open Lx (Bs Tok)
theorem wex_len {f : Nat} {l r : List Nd} (h : wex f l = some r) : r.length < l.length := by
 rw [wex_rE] at h
 cases he : rE f l with
 | none => rw [he] at h; cases h
 | some y =>
  rw [he] at h
  cases h
  exact eats_E f l y.1 y.2 he
theorem wexs_len : ∀ (k : Nat) {l r : List Nd}, wexs k l = some r → r.length ≤ l.length
 | 0, l, r, h => by cases h; exact Nat.le_refl _
 | k + 1, l, r, h => by
  unfold wexs at h
  cases he : wex 40 l with
  | none => rw [he] at h; cases h
  | some y =>
   rw [he] at h
   have := wexs_len k h
   have := wex_len he
   omega
theorem wpart_len {x : Nd} {r q : List Nd} (h : wpart (x :: r) = some q) : q.length ≤ r.length := by
 simp only [wpart] at h
 split at h
 · split at h
   · cases h; exact Nat.le_refl _
   · cases h
 · split at h
   · split at h
     · exact wexs_len _ h
     · cases h
   · split at h
     · split at h
       · exact Nat.le_of_lt (wex_len h)
       · cases h
     · split at h
       · split at h
         · cases h; exact Nat.le_refl _
         · cases h
       · split at h
         · split at h
           · exact Nat.le_of_lt (wex_len h)
           · cases h
         · split at h
           · split at h
             · exact Nat.le_of_lt (wex_len h)
             · cases h
           · split at h
             · split at h
               · cases h; exact Nat.le_refl _
               · cases h
             · have := wex_len h
               simp only [List.length_cons] at this
               omega
theorem wparts_len (top : Int) : ∀ (k last t : Nat) (l : List Nd) (q : Nat), wparts top k last t l = some q → k ≤ l.length
 | 0, _, _, _, _, _ => Nat.zero_le _
 | k + 1, last, t, [], q, h => by cases h
 | k + 1, last, t, x :: r, q, h => by
  simp only [wparts] at h
  split at h
  · cases h
  · cases hp : wpart (x :: r) with
    | none => rw [hp] at h; cases h
    | some l' =>
     rw [hp] at h
     have := wparts_len top k _ _ _ _ h
     have := wpart_len hp
     simp only [List.length_cons]
     omega
def wellK (x : Nd) : Option Nat → Bool
 | none => false
 | some things => if x.kind = 1 then decide (1 ≤ things ∧ things ≤ 6) else if x.kind = 3 then decide (x.kids = 0) else if x.kind = 4 ∨ x.kind = 7 ∨ x.kind = 9 then decide (1 ≤ things) else decide (x.kind = 6)
theorem wk1 {x : Nd} (h : x.kind = 1) (t : Nat) : wellK x (some t) = decide (1 ≤ t ∧ t ≤ 6) := by simp [wellK, h]
theorem wk3 {x : Nd} (h : x.kind = 3) (t : Nat) : wellK x (some t) = decide (x.kids = 0) := by simp [wellK, h]
theorem wk4 {x : Nd} (h : x.kind = 4 ∨ x.kind = 7 ∨ x.kind = 9) (t : Nat) : wellK x (some t) = decide (1 ≤ t) := by
 unfold wellK
 simp only
 rw [if_neg (by omega), if_neg (by omega), if_pos h]
theorem wk6 {x : Nd} (h : x.kind = 6) (t : Nat) : wellK x (some t) = true := by simp [wellK, h]
theorem well_eq (x : Nd) (r : List Nd) : well (x :: r) = if isName x.text = false ∨ x.num ≠ 0 ∨ x.kids < 0 ∨ (r.length : Int) + 1 < x.kids then false else wellK x (wparts x.kind x.kids.toNat 1 0 r) := by
 simp only [well]
 split
 · rfl
 · cases wparts x.kind x.kids.toNat 1 0 r <;> rfl
theorem well_rS (l : List Nd) : well l = (rS l).isSome := by
 cases l with
 | nil => rfl
 | cons x r =>
  rw [well_eq]
  simp only [rS, rSt]
  by_cases h0 : x.num = 0 ∧ isName x.text = true
  rotate_left
  · rw [if_neg h0, if_pos]
    · rfl
    · by_cases hn : isName x.text = true
      · exact .inr (.inl (fun e => h0 ⟨e, hn⟩))
      · exact .inl (by simpa using hn)
  rw [if_pos h0]
  by_cases hk : x.kids < 0
  · rw [if_pos (.inr (.inr (.inl hk)))]
    by_cases k1 : x.kind = 1
    · rw [if_pos k1, if_neg (by omega)]; rfl
    · rw [if_neg k1]
      by_cases k3 : x.kind = 3
      · rw [if_pos k3, if_neg (by omega)]; rfl
      · rw [if_neg k3]
        by_cases k4 : x.kind = 4
        · rw [if_pos k4, if_neg (by omega)]; rfl
        · rw [if_neg k4]
          by_cases k6 : x.kind = 6
          · rw [if_pos k6, if_pos hk]; rfl
          · rw [if_neg k6]
            by_cases k7 : x.kind = 7
            · rw [if_pos k7, if_pos hk]; rfl
            · rw [if_neg k7]
              by_cases k9 : x.kind = 9
              · rw [if_pos k9, if_pos hk]; rfl
              · rw [if_neg k9]; rfl
  · obtain ⟨k, hkk⟩ := Int.eq_ofNat_of_zero_le (show 0 ≤ x.kids by omega)
    have hkn : x.kids.toNat = k := by omega
    have big : ∀ top, (r.length : Int) + 1 < x.kids → wparts top x.kids.toNat 1 0 r = none := fun top hb => by
     cases hw : wparts top x.kids.toNat 1 0 r with
     | none => rfl
     | some q => have := wparts_len top _ _ _ _ _ hw; omega
    have hmain : (if isName x.text = false ∨ x.num ≠ 0 ∨ x.kids < 0 ∨ (r.length : Int) + 1 < x.kids then false else wellK x (wparts x.kind x.kids.toNat 1 0 r)) = wellK x (wparts x.kind x.kids.toNat 1 0 r) := by
     by_cases hb : (r.length : Int) + 1 < x.kids
     · rw [if_pos (.inr (.inr (.inr hb))), big x.kind hb]; rfl
     · rw [if_neg]
       rintro (e | e | e | e)
       · rw [h0.2] at e; cases e
       · exact e h0.1
       · exact hk e
       · exact hb e
    rw [hmain, hkn]
    by_cases k1 : x.kind = 1
    · rw [if_pos k1, k1, wp_create]
      cases rN rCol k r with
      | none => split <;> rfl
      | some y =>
       simp only [Option.bind_some, Option.map_some]
       by_cases hy : y.2 = []
       · rw [if_pos hy, wk1 k1]
         by_cases hc : 1 ≤ x.kids ∧ x.kids ≤ 6
         · rw [if_pos hc, decide_eq_true (by omega)]
           simp [hy]
         · rw [if_neg hc, decide_eq_false (by omega)]
           rfl
       · rw [if_neg hy]
         split
         · simp [hy, wellK]
         · rfl
    · rw [if_neg k1]
      by_cases k3 : x.kind = 3
      · rw [if_pos k3, k3]
        by_cases hc : x.kids = 0
        · rw [if_pos hc]
          have : k = 0 := by omega
          subst this
          rw [wp_nil]
          simp only [Option.bind_some]
          by_cases hy : r = []
          · rw [if_pos hy, if_pos hy, wk3 k3, decide_eq_true hc]; rfl
          · rw [if_neg hy, if_neg hy]; rfl
        · rw [if_neg hc]
          cases wparts 3 k 1 0 r with
          | none => rfl
          | some q => rw [wk3 k3, decide_eq_false hc]; rfl
      · rw [if_neg k3]
        by_cases k4 : x.kind = 4
        · rw [if_pos k4, k4, wp_insert]
          cases rN rRow k r with
          | none => split <;> rfl
          | some y =>
           simp only [Option.bind_some, Option.map_some]
           by_cases hy : y.2 = []
           · rw [if_pos hy, wk4 (.inl k4)]
             by_cases hc : 1 ≤ x.kids
             · rw [if_pos hc, decide_eq_true (by omega)]
               simp [hy]
             · rw [if_neg hc, decide_eq_false (by omega)]
               rfl
           · rw [if_neg hy]
             split
             · simp [hy, wellK]
             · rfl
        · rw [if_neg k4]
          by_cases k6 : x.kind = 6
          · rw [if_pos k6, if_neg hk, k6, wp_delete]
            cases rWhere k r with
            | none => rfl
            | some y =>
             simp only [Option.bind_some]
             by_cases hy : y.2.1 = 0
             · by_cases hz : y.2.2 = []
               · rw [if_pos ⟨hy, hz⟩, wk6 k6, if_pos hy]; simp [hz]
               · rw [if_neg (fun e => hz e.2), if_pos hy]; simp [hz, wellK]
             · rw [if_neg (fun e => hy e.1), if_neg hy]; rfl
          · rw [if_neg k6]
            by_cases k7 : x.kind = 7
            · rw [if_pos k7, if_neg hk, k7, wp_update]
              cases rW (fun k => decide (k = 8)) rSet k r with
              | none => rfl
              | some y =>
               simp only [Option.bind_some]
               cases rWhere y.2.1 y.2.2 with
               | none => rfl
               | some z =>
                simp only [Option.bind_some]
                have hl : 1 ≤ 0 + y.1.length ↔ y.1 ≠ [] := by cases y.1 <;> simp
                by_cases hz : z.2.1 = 0
                · by_cases hy : z.2.2 = []
                  · rw [if_pos ⟨hz, hy⟩, wk4 (.inr (.inl k7))]
                    by_cases hn : y.1 = []
                    · rw [decide_eq_false (fun e => hl.1 e hn), if_neg (fun e => e.2 hn)]; rfl
                    · rw [decide_eq_true (hl.2 hn), if_pos ⟨hz, hn⟩]; simp [hy]
                  · rw [if_neg (fun e => hy e.2)]
                    split
                    · simp [hy, wellK]
                    · rfl
                · rw [if_neg (fun e => hz e.1), if_neg (fun e => hz e.1)]; rfl
            · rw [if_neg k7]
              by_cases k9 : x.kind = 9
              · rw [if_pos k9, if_neg hk, k9, wp_select]
                cases rW (fun k => !isTail k) rItem k r with
                | none => rfl
                | some y =>
                 simp only [Option.bind_some]
                 cases rWhere y.2.1 y.2.2 with
                 | none => rfl
                 | some z =>
                  simp only [Option.bind_some, tailO]
                  cases rW (fun k => decide (k = 12)) rOrder z.2.1 z.2.2 with
                  | none => rfl
                  | some o =>
                   simp only [Option.bind_some]
                   cases rLim o.2.1 o.2.2 with
                   | none => rfl
                   | some u =>
                    simp only [Option.bind_some]
                    have hl : 1 ≤ 0 + y.1.length ↔ y.1 ≠ [] := by cases y.1 <;> simp
                    by_cases hz : u.2.1 = 0
                    · by_cases hy : u.2.2 = []
                      · rw [if_pos ⟨hz, hy⟩, wk4 (.inr (.inr k9))]
                        by_cases hn : y.1 = []
                        · rw [decide_eq_false (fun e => hl.1 e hn), if_neg (fun e => e.2 hn)]; rfl
                        · rw [decide_eq_true (hl.2 hn), if_pos ⟨hz, hn⟩]; simp [hy]
                      · rw [if_neg (fun e => hy e.2)]
                        split
                        · simp [hy, wellK]
                        · rfl
                    · rw [if_neg (fun e => hz e.1), if_neg (fun e => hz e.1)]; rfl
              · rw [if_neg k9]
                cases wparts x.kind k 1 0 r with
                | none => rfl
                | some q => simp [wellK, k1, k3, k4, k7, k9, k6]
end Px
end
section
namespace Px
open Lx (Bs Tok)
def Rng (N : Nat) (l : List Nd) : Prop := ∀ x ∈ l, x.text.length ≤ N ∧ -9223372036854775808 ≤ x.num ∧ x.num ≤ 9223372036854775807
theorem Rng.right {N : Nat} {a b : List Nd} (h : Rng N (a ++ b)) : Rng N b := fun x hx => h x (List.mem_append.2 (.inr hx))
theorem Rng.tail {N : Nat} {x : Nd} {b : List Nd} (h : Rng N (x :: b)) : Rng N b := fun y hy => h y (List.mem_cons.2 (.inr hy))
structure EW (N f : Nat) (e : E) : Prop where
 ok : e.ok N
 good : e.good
 dep : e.depth ≤ f
theorem rA_ok {N f : Nat} {x : Nd} {e : E} (h : rA x = some e) (hx : x.text.length ≤ N ∧ -9223372036854775808 ≤ x.num ∧ x.num ≤ 9223372036854775807) : e.nodes = [x] ∧ EW N (f + 1) e := by
 obtain ⟨kd, tx, nu, ks⟩ := x
 simp only [rA] at h
 simp only at hx
 split at h
 · rename_i hk
   split at h
   · rename_i hb
     have := (bare_iff _ _).1 hb
     simp only at this hk
     cases h
     exact ⟨by simp [E.nodes, leaf, hk, this], trivial, trivial, by simp [E.depth]⟩
   · cases h
 · split at h
   · rename_i hk
     split at h
     · rename_i hb
       try simp only at hb hk
       cases h
       refine ⟨?_, trivial, trivial, by simp [E.depth]⟩
       rcases hb.2.2 with h0 | h0 <;> simp [E.nodes, leaf, hk, hb.1, hb.2.1, h0]
     · cases h
   · split at h
     · rename_i hk
       split at h
       · rename_i hb
         try simp only at hb hk
         cases h
         exact ⟨by simp [E.nodes, leaf, hk, hb], hx.2, trivial, by simp [E.depth]⟩
       · cases h
     · split at h
       · rename_i hk
         split at h
         · rename_i hb
           try simp only at hb hk
           cases h
           exact ⟨by simp [E.nodes, leaf, hk, hb], hx.1, hb.1, by simp [E.depth]⟩
         · cases h
       · split at h
         · rename_i hk
           split at h
           · rename_i hb
             try simp only at hb hk
             cases h
             exact ⟨by simp [E.nodes, leaf, hk, hb], isName_len hb.1, hb.1, by simp [E.depth]⟩
           · cases h
         · cases h
theorem isNum_head (e : E) (r : List Nd) (h : e.isNum = true) : pkN (e.nodes ++ r) = 16 := by
 cases e with
 | num z => rfl
 | _ => simp [E.isNum] at h
theorem rE_ok {N : Nat} : ∀ (f : Nat) (l : List Nd) (e : E) (r : List Nd), rE f l = some (e, r) → Rng N l → l = e.nodes ++ r ∧ EW N f e
 | 0, l, e, r, h, _ => by cases h
 | f + 1, [], e, r, h, _ => by cases h
 | f + 1, x :: q, e, r, h, hr => by
  have ih := rE_ok (N := N) f
  have hx := hr x (by simp)
  have hq := hr.tail
  simp only [rE] at h
  split at h
  · rename_i hk
    split at h
    · rename_i hb
      have hbb := (bare_iff _ _).1 hb.1
      cases he : rE f q with
      | none => rw [he] at h; cases h
      | some y =>
       rw [he] at h
       simp only [Option.map_some, Option.some.injEq, Prod.mk.injEq] at h
       obtain ⟨rfl, rfl⟩ := h
       obtain ⟨i1, i2⟩ := ih q y.1 y.2 he hq
       have hn : ((x.kind.toNat : Nat) : Int) = x.kind := by omega
       refine ⟨?_, ⟨by omega, by omega, ?_, i2.ok⟩, i2.good, by have := i2.dep; simp only [E.depth]; omega⟩
       · simp only [E.nodes, over1, List.cons_append, hn]
         rw [← i1]
         obtain ⟨kd, tx, nu, ks⟩ := x
         simp only at hbb
         simp [hbb]
       · intro h19
         cases hi : y.1.isNum with
         | false => rfl
         | true =>
          have := isNum_head y.1 y.2 hi
          rw [← i1] at this
          exact absurd ⟨by omega, this⟩ hb.2
    · cases h
  · split at h
    · rename_i hk
      split at h
      · rename_i hb
        have hbb := (bare_iff _ _).1 hb
        cases he : rE f q with
        | none => rw [he] at h; cases h
        | some y =>
         rw [he] at h
         simp only [Option.bind_some] at h
         obtain ⟨i1, i2⟩ := ih q y.1 y.2 he hq
         have hy2 : Rng N y.2 := by rw [i1] at hq; exact hq.right
         cases he2 : rE f y.2 with
         | none => rw [he2] at h; cases h
         | some z =>
          rw [he2] at h
          simp only [Option.map_some, Option.some.injEq, Prod.mk.injEq] at h
          obtain ⟨rfl, rfl⟩ := h
          obtain ⟨j1, j2⟩ := ih y.2 z.1 z.2 he2 hy2
          have hn : ((x.kind.toNat : Nat) : Int) = x.kind := by omega
          refine ⟨?_, ⟨by omega, by omega, i2.ok, j2.ok⟩, ⟨i2.good, j2.good⟩, by have := i2.dep; have := j2.dep; simp only [E.depth]; omega⟩
          simp only [E.nodes, over2, List.cons_append, List.append_assoc, hn]
          rw [← j1, ← i1]
          obtain ⟨kd, tx, nu, ks⟩ := x
          simp only at hbb
          simp [hbb]
      · cases h
    · cases ha : rA x with
      | none => rw [ha] at h; cases h
      | some e' =>
       rw [ha] at h
       simp only [Option.map_some, Option.some.injEq, Prod.mk.injEq] at h
       obtain ⟨rfl, rfl⟩ := h
       obtain ⟨i1, i2⟩ := rA_ok (N := N) (f := f) ha hx
       exact ⟨by rw [i1]; rfl, i2⟩
def Rd1 {α : Type} (N : Nat) (x : List Nd → Option (α × List Nd)) (nd : α → List Nd) (P : α → Prop) : Prop := ∀ l a r, x l = some (a, r) → Rng N l → l = nd a ++ r ∧ P a
theorem rd_E (N : Nat) : Rd1 N (rE 40) E.nodes (EW N 40) := fun l a r h hr => rE_ok 40 l a r h hr
theorem rN_ok {α : Type} {N : Nat} {x : List Nd → Option (α × List Nd)} {nd : α → List Nd} {P : α → Prop} (hx : Rd1 N x nd P) : ∀ (k : Nat) (l : List Nd) (a : List α) (r : List Nd), rN x k l = some (a, r) → Rng N l → l = a.flatMap nd ++ r ∧ a.length = k ∧ ∀ b ∈ a, P b
 | 0, l, a, r, h, _ => by cases h; exact ⟨rfl, rfl, fun b hb => by cases hb⟩
 | k + 1, l, a, r, h, hr => by
  simp only [rN] at h
  cases he : x l with
  | none => rw [he] at h; cases h
  | some y =>
   rw [he] at h
   simp only [Option.bind_some] at h
   obtain ⟨i1, i2⟩ := hx l y.1 y.2 he hr
   have hy : Rng N y.2 := by rw [i1] at hr; exact hr.right
   cases he2 : rN x k y.2 with
   | none => rw [he2] at h; cases h
   | some z =>
    rw [he2] at h
    simp only [Option.map_some, Option.some.injEq, Prod.mk.injEq] at h
    obtain ⟨rfl, rfl⟩ := h
    obtain ⟨j1, j2, j3⟩ := rN_ok hx k y.2 z.1 z.2 he2 hy
    refine ⟨?_, by simp [j2], fun b hb => ?_⟩
    · rw [List.flatMap_cons, List.append_assoc, ← j1]; exact i1
    · rcases List.mem_cons.1 hb with rfl | hb
      · exact i2
      · exact j3 b hb
theorem rW_ok {α : Type} {N : Nat} {is : Int → Bool} {x : List Nd → Option (α × List Nd)} {nd : α → List Nd} {P : α → Prop} (hx : ∀ l a r, is (pkN l) = true → x l = some (a, r) → Rng N l → l = nd a ++ r ∧ P a) : ∀ (k : Nat) (l : List Nd) (a : List α) (m : Nat) (r : List Nd), rW is x k l = some (a, m, r) → Rng N l → l = a.flatMap nd ++ r ∧ a.length + m = k ∧ (∀ b ∈ a, P b) ∧ (m = 0 ∨ is (pkN r) = false)
 | 0, l, a, m, r, h, _ => by cases h; exact ⟨rfl, rfl, fun b hb => (by cases hb), .inl rfl⟩
 | k + 1, l, a, m, r, h, hr => by
  simp only [rW] at h
  split at h
  · rename_i hi
    cases he : x l with
    | none => rw [he] at h; cases h
    | some y =>
     rw [he] at h
     simp only [Option.bind_some] at h
     obtain ⟨i1, i2⟩ := hx l y.1 y.2 hi he hr
     have hy : Rng N y.2 := by rw [i1] at hr; exact hr.right
     cases he2 : rW is x k y.2 with
     | none => rw [he2] at h; cases h
     | some z =>
      rw [he2] at h
      simp only [Option.map_some, Option.some.injEq, Prod.mk.injEq] at h
      obtain ⟨rfl, h2⟩ := h
      obtain ⟨j1, j2, j3, j4⟩ := rW_ok hx k y.2 z.1 m r (by rw [he2, ← h2]) hy
      refine ⟨?_, by simp only [List.length_cons]; omega, fun b hb => ?_, j4⟩
      · rw [List.flatMap_cons, List.append_assoc, ← j1]; exact i1
      · rcases List.mem_cons.1 hb with rfl | hb
        · exact i2
        · exact j3 b hb
  · rename_i hi
    cases h
    exact ⟨rfl, by simp, fun b hb => (by cases hb), .inr (by simpa using hi)⟩
def ColW (x : Bs × Nat) : Prop := isName x.1 = true ∧ 1 ≤ x.2 ∧ x.2 ≤ 7 ∧ x.2 ≠ 4
theorem rd_Col (N : Nat) : Rd1 N rCol (fun c => [colN c]) ColW := by
 intro l a r h hr
 cases l with
 | nil => cases h
 | cons x q =>
  simp only [rCol] at h
  by_cases hc : x.kind = 2 ∧ isName x.text = true ∧ x.kids = 0 ∧ 1 ≤ (if 4 < x.num then x.num - 4 else x.num) ∧ (if 4 < x.num then x.num - 4 else x.num) ≤ 3
  · rw [if_pos hc] at h
    cases h
    obtain ⟨kd, tx, nu, ks⟩ := x
    simp only at hc
    have h1 : 1 ≤ nu := by have := hc.2.2.2.1; split at this <;> omega
    have h2 : nu ≤ 7 := by have := hc.2.2.2.2; split at this <;> omega
    have h3 : nu ≠ 4 := by intro e; have := hc.2.2.2.2; rw [e] at this; simp at this
    refine ⟨?_, hc.2.1, by simp only; omega, by simp only; omega, by simp only; omega⟩
    have : ((nu.toNat : Nat) : Int) = nu := by omega
    simp [colN, hc.1, hc.2.2.1, this]
  · rw [if_neg hc] at h
    cases h
def RowW (N : Nat) (x : List E) : Prop := x ≠ [] ∧ ∀ e ∈ x, EW N 40 e
theorem rd_Row (N : Nat) : Rd1 N rRow rowN (RowW N) := by
 intro l a r h hr
 cases l with
 | nil => cases h
 | cons x q =>
  simp only [rRow] at h
  split at h
  · rename_i hc
    obtain ⟨i1, i2, i3⟩ := rN_ok (rd_E N) _ _ _ _ h hr.tail
    obtain ⟨kd, tx, nu, ks⟩ := x
    simp only at hc i2
    have hl : ((a.length : Nat) : Int) = ks := by omega
    refine ⟨?_, ?_, i3⟩
    · simp only [rowN, List.cons_append, hl]
      rw [← i1]
      simp [hc]
    · intro e
      rw [e] at hl
      simp at hl
      omega
  · cases h
theorem rd_Set (N : Nat) : Rd1 N rSet setN (fun x => isName x.1 = true ∧ EW N 40 x.2) := by
 intro l a r h hr
 cases l with
 | nil => cases h
 | cons x q =>
  simp only [rSet] at h
  split at h
  · rename_i hc
    cases he : rE 40 q with
    | none => rw [he] at h; cases h
    | some y =>
     rw [he] at h
     cases h
     obtain ⟨i1, i2⟩ := rE_ok (N := N) 40 q y.1 y.2 he hr.tail
     obtain ⟨kd, tx, nu, ks⟩ := x
     simp only at hc
     refine ⟨?_, hc.2.1, i2⟩
     simp only [setN, List.cons_append]
     rw [← i1]
     simp [hc]
  · cases h
def ItW (N : Nat) (x : Option E) : Prop := ∀ e ∈ x.toList, EW N 40 e
theorem rd_Item (N : Nat) : Rd1 N rItem itemN (ItW N) := by
 intro l a r h hr
 cases l with
 | nil => cases h
 | cons x q =>
  simp only [rItem] at h
  split at h
  · rename_i hk
    split at h
    · rename_i hb
      have hbb := (bare_iff _ _).1 hb
      cases h
      obtain ⟨kd, tx, nu, ks⟩ := x
      simp only at hbb hk
      exact ⟨by simp [itemN, hbb, hk], fun e he => by simp at he⟩
    · cases h
  · cases he : rE 40 (x :: q) with
    | none => rw [he] at h; cases h
    | some y =>
     rw [he] at h
     cases h
     obtain ⟨i1, i2⟩ := rE_ok (N := N) 40 _ y.1 y.2 he hr
     exact ⟨i1, fun e he' => by simp at he'; subst he'; exact i2⟩
theorem rd_Order (N : Nat) (l : List Nd) (hk : pkN l = 12) (a : E × Bool) (r : List Nd) (h : rOrder l = some (a, r)) (hr : Rng N l) : l = orderN a ++ r ∧ EW N 40 a.1 := by
 cases l with
 | nil => cases h
 | cons x q =>
  simp only [rOrder] at h
  split at h
  · rename_i hc
    cases he : rE 40 q with
    | none => rw [he] at h; cases h
    | some y =>
     rw [he] at h
     cases h
     obtain ⟨i1, i2⟩ := rE_ok (N := N) 40 q y.1 y.2 he hr.tail
     obtain ⟨kd, tx, nu, ks⟩ := x
     simp only [pkN] at hc hk
     refine ⟨?_, i2⟩
     simp only [orderN, List.cons_append]
     rw [← i1]
     rcases hc.2.2 with h0 | h0 <;> simp [hc, hk, h0]
  · cases h
end Px
end
section
namespace Px
open Lx (Bs Tok)
structure Wf (N : Nat) (s : St) : Prop where
 exprs : ∀ e ∈ s.exprs, EW N 40 e
 parts : match s with
  | .create t c => isName t = true ∧ 1 ≤ c.length ∧ c.length ≤ 6 ∧ ∀ x ∈ c, isName x.1 = true ∧ 1 ≤ x.2 ∧ x.2 ≤ 7 ∧ x.2 ≠ 4
  | .drop t => isName t = true
  | .insert t r => isName t = true ∧ r ≠ [] ∧ ∀ x ∈ r, x ≠ []
  | .delete t w => isName t = true
  | .update t s w => isName t = true ∧ s ≠ [] ∧ ∀ x ∈ s, isName x.1 = true
  | .select i t w o l => isName t = true ∧ i ≠ [] ∧ ∀ n, l = some n → n ≤ 1000000000
theorem rWhere_ok {N k m : Nat} {l r : List Nd} {o : Option E} (h : rWhere k l = some (o, m, r)) (hr : Rng N l) : l = whereN o ++ r ∧ one? o + m = k ∧ ∀ e ∈ o.toList, EW N 40 e := by
 cases k with
 | zero => rw [rWhere_0] at h; cases h; exact ⟨rfl, rfl, fun e he => by simp at he⟩
 | succ k =>
  by_cases hp : pkN l = 11
  · cases l with
    | nil => simp [pkN] at hp
    | cons x q =>
     rw [rWhere_yes k x q hp] at h
     split at h
     · rename_i hb
       have hbb := (bare_iff _ _).1 hb
       cases he : rE 40 q with
       | none => rw [he] at h; cases h
       | some y =>
        rw [he] at h
        cases h
        obtain ⟨i1, i2⟩ := rE_ok (N := N) 40 q y.1 y.2 he hr.tail
        obtain ⟨kd, tx, nu, ks⟩ := x
        simp only [pkN] at hbb hp
        refine ⟨?_, by simp [one?]; omega, fun e he' => by simp at he'; subst he'; exact i2⟩
        simp only [whereN, over1, List.cons_append]
        rw [← i1]
        simp [hbb, hp]
     · cases h
  · rw [rWhere_no _ _ hp] at h
    cases h
    exact ⟨rfl, by simp [one?], fun e he => by simp at he⟩
theorem rLim_ok {k m : Nat} {l r : List Nd} {o : Option Nat} (h : rLim k l = some (o, m, r)) : l = limN o ++ r ∧ one? o + m = k ∧ ∀ n, o = some n → n ≤ 1000000000 := by
 cases k with
 | zero => rw [rLim_0] at h; cases h; exact ⟨rfl, rfl, fun e he => by cases he⟩
 | succ k =>
  by_cases hp : pkN l = 13
  · cases l with
    | nil => simp [pkN] at hp
    | cons x q =>
     rw [rLim_yes k x q hp] at h
     split at h
     · rename_i hb
       cases h
       obtain ⟨kd, tx, nu, ks⟩ := x
       simp only [pkN] at hb hp
       have : ((nu.toNat : Nat) : Int) = nu := by omega
       exact ⟨by simp [limN, hb, hp, this], by simp [one?]; omega, fun n e => by cases e; show nu.toNat ≤ 1000000000; omega⟩
     · cases h
  · rw [rLim_no _ _ hp] at h
    cases h
    exact ⟨rfl, by simp [one?], fun e he => by cases he⟩
theorem rS_ok {N : Nat} {l : List Nd} {s : St} (h : rS l = some s) (hr : Rng N l) : s.nodes = l ∧ Wf N s := by
 cases l with
 | nil => cases h
 | cons x r =>
  have ht := hr.tail
  obtain ⟨kd, tx, nu, ks⟩ := x
  simp only [rS, rSt] at h
  by_cases h0 : nu = 0 ∧ isName tx = true
  rotate_left
  · rw [if_neg h0] at h; cases h
  rw [if_pos h0] at h
  by_cases k1 : kd = 1
  · rw [if_pos k1] at h
    split at h
    · rename_i hc
      cases hy : rN rCol ks.toNat r with
      | none => rw [hy] at h; cases h
      | some y =>
       rw [hy] at h
       simp only [Option.map_some, Option.bind_some] at h
       split at h
       · rename_i hn
         cases h
         obtain ⟨i1, i2, i3⟩ := rN_ok (rd_Col N) _ _ _ _ hy ht
         have hl : ((y.1.length : Nat) : Int) = ks := by omega
         refine ⟨?_, ⟨fun e he => (by cases he), h0.2, by omega, by omega, i3⟩⟩
         rw [hn, List.append_nil, flat_cols] at i1
         simp [St.nodes, i1, h0.1, k1, hl]
       · cases h
    · cases h
  rw [if_neg k1] at h
  by_cases k3 : kd = 3
  · rw [if_pos k3] at h
    split at h
    · rename_i hc
      simp only [Option.bind_some] at h
      split at h
      · rename_i hn
        cases h
        exact ⟨by simp [St.nodes, k3, h0.1, hc, hn], ⟨fun e he => (by cases he), h0.2⟩⟩
      · cases h
    · cases h
  rw [if_neg k3] at h
  by_cases k4 : kd = 4
  · rw [if_pos k4] at h
    split at h
    · rename_i hc
      cases hy : rN rRow ks.toNat r with
      | none => rw [hy] at h; cases h
      | some y =>
       rw [hy] at h
       simp only [Option.map_some, Option.bind_some] at h
       split at h
       · rename_i hn
         cases h
         obtain ⟨i1, i2, i3⟩ := rN_ok (rd_Row N) _ _ _ _ hy ht
         have hl : ((y.1.length : Nat) : Int) = ks := by omega
         refine ⟨?_, ⟨fun e he => ?_, h0.2, ?_, fun x hx => (i3 x hx).1⟩⟩
         · rw [hn, List.append_nil] at i1
           simp [St.nodes, i1, h0.1, k4, hl]
         · obtain ⟨z, hz, hez⟩ := List.mem_flatten.1 he
           exact (i3 z hz).2 e hez
         · intro e
           rw [e] at hl
           simp at hl
           omega
       · cases h
    · cases h
  rw [if_neg k4] at h
  by_cases k6 : kd = 6
  · rw [if_pos k6] at h
    split at h
    · cases h
    · rename_i hc
      cases hy : rWhere ks.toNat r with
      | none => rw [hy] at h; cases h
      | some y =>
       rw [hy] at h
       simp only [Option.bind_some] at h
       split at h
       · rename_i hm
         simp only [Option.bind_some] at h
         split at h
         · rename_i hn
           cases h
           obtain ⟨i1, i2, i3⟩ := rWhere_ok (N := N) (o := y.1) (m := y.2.1) (r := y.2.2) hy ht
           have hl : ((one? y.1 : Nat) : Int) = ks := by omega
           refine ⟨?_, ⟨fun e he => i3 e he, h0.2⟩⟩
           rw [hn, List.append_nil] at i1
           simp [St.nodes, ← i1, h0.1, k6, hl]
         · cases h
       · cases h
  rw [if_neg k6] at h
  by_cases k7 : kd = 7
  · rw [if_pos k7] at h
    split at h
    · cases h
    · rename_i hc
      cases hy : rW (fun k => decide (k = 8)) rSet ks.toNat r with
      | none => rw [hy] at h; cases h
      | some y =>
       rw [hy] at h
       simp only [Option.bind_some] at h
       obtain ⟨i1, i2, i3, _⟩ := rW_ok (N := N) (fun l a r _ h hr => rd_Set N l a r h hr) _ _ y.1 y.2.1 y.2.2 hy ht
       have hy2 : Rng N y.2.2 := by rw [i1] at ht; exact ht.right
       cases hz : rWhere y.2.1 y.2.2 with
       | none => rw [hz] at h; cases h
       | some z =>
        rw [hz] at h
        simp only [Option.bind_some] at h
        split at h
        · rename_i hm
          simp only [Option.bind_some] at h
          split at h
          · rename_i hn
            cases h
            obtain ⟨j1, j2, j3⟩ := rWhere_ok (N := N) (o := z.1) (m := z.2.1) (r := z.2.2) hz hy2
            have hl : ((y.1.length : Nat) : Int) + ((one? z.1 : Nat) : Int) = ks := by omega
            refine ⟨?_, ⟨fun e he => ?_, h0.2, hm.2, fun x hx => (i3 x hx).1⟩⟩
            · rw [hn, List.append_nil] at j1
              rw [j1] at i1
              simp [St.nodes, ← i1, h0.1, k7, hl]
            · simp only [St.exprs, List.mem_append, List.mem_map] at he
              rcases he with ⟨q, hq, rfl⟩ | he
              · exact (i3 q hq).2
              · exact j3 e he
          · cases h
        · cases h
  rw [if_neg k7] at h
  by_cases k9 : kd = 9
  · rw [if_pos k9] at h
    split at h
    · cases h
    · rename_i hc
      cases hy : rW (fun k => !isTail k) rItem ks.toNat r with
      | none => rw [hy] at h; cases h
      | some y =>
       rw [hy] at h
       simp only [Option.bind_some] at h
       obtain ⟨i1, i2, i3, _⟩ := rW_ok (N := N) (fun l a r _ h hr => rd_Item N l a r h hr) _ _ y.1 y.2.1 y.2.2 hy ht
       have hy2 : Rng N y.2.2 := by rw [i1] at ht; exact ht.right
       cases hz : rWhere y.2.1 y.2.2 with
       | none => rw [hz] at h; cases h
       | some z =>
        rw [hz] at h
        simp only [Option.bind_some] at h
        obtain ⟨j1, j2, j3⟩ := rWhere_ok (N := N) (o := z.1) (m := z.2.1) (r := z.2.2) hz hy2
        have hz2 : Rng N z.2.2 := by rw [j1] at hy2; exact hy2.right
        cases ho : rW (fun k => decide (k = 12)) rOrder z.2.1 z.2.2 with
        | none => rw [ho] at h; cases h
        | some o =>
         rw [ho] at h
         simp only [Option.bind_some] at h
         obtain ⟨m1, m2, m3, _⟩ := rW_ok (N := N) (fun l a r hi h hr => rd_Order N l (by simpa using hi) a r h hr) _ _ o.1 o.2.1 o.2.2 ho hz2
         cases hu : rLim o.2.1 o.2.2 with
         | none => rw [hu] at h; cases h
         | some u =>
          rw [hu] at h
          simp only [Option.bind_some] at h
          split at h
          · rename_i hm
            simp only [Option.bind_some] at h
            split at h
            · rename_i hn
              cases h
              obtain ⟨n1, n2, n3⟩ := rLim_ok (o := u.1) (m := u.2.1) (r := u.2.2) hu
              have hl : ((y.1.length : Nat) : Int) + ((one? z.1 : Nat) : Int) + ((o.1.length : Nat) : Int) + ((one? u.1 : Nat) : Int) = ks := by omega
              refine ⟨?_, ⟨fun e he => ?_, h0.2, hm.2, n3⟩⟩
              · rw [hn, List.append_nil] at n1
                rw [n1] at m1
                rw [m1] at j1
                rw [j1] at i1
                simp [St.nodes, i1, h0.1, k9, hl]
              · simp only [St.exprs, List.mem_append, List.mem_map, List.mem_filterMap, id] at he
                rcases he with (⟨q, hq, rfl⟩ | he) | ⟨q, hq, rfl⟩
                · exact i3 _ hq e (by simp)
                · exact j3 e he
                · exact m3 q hq
            · cases h
          · cases h
  rw [if_neg k9] at h
  cases h
end Px
end
namespace Lx
structure TokVal (t : Tok) : Prop where
 str : t.kind = 17 → validN t.text = true
 name : t.kind = 18 → validN t.text = true ∧ t.text ≠ []
end Lx
section
namespace Px
open Lx (Bs Tok TokVal)
end Px
end
section
namespace Px
open Lx (Bs Tok TokVal)
variable {α β : Type}
end Px
end
section
namespace Px
open Lx (Bs Tok)
theorem nameT_le (s : Bs) : (nameT s).length ≤ (dbl 34 s).length := by
 unfold nameT
 split
 · rw [dbl_len]
   have : ∀ s : Bs, s.length ≤ (s.flatMap fun b => if b = 34 then [b, b] else [b]).length := by
    intro s
    induction s with
    | nil => simp
    | cons b s ih =>
     rw [List.flatMap_cons, List.length_append, List.length_cons]
     have : 1 ≤ (if b = 34 then [b, b] else [b]).length := by split <;> simp
     omega
   have := this s
   omega
 · exact Nat.le_refl _
def pls : List PT → Nat
 | [] => 0
 | t :: r => t.out.length + 1 + pls r
theorem pls_app (a b : List PT) : pls (a ++ b) = pls a + pls b := by
 induction a with
 | nil => simp [pls]
 | cons t a ih => simp only [List.cons_append, pls, ih]; omega
theorem render_pls : ∀ l : List PT, (render l).length ≤ pls l
 | [] => by simp [render, pls]
 | [a] => by simp [render, pls]
 | a :: b :: r => by
  have := render_pls (b :: r)
  simp only [render, pls, List.length_append] at this ⊢
  have : (gap a b).length ≤ 1 := by unfold gap; split <;> simp
  omega
end Px
end
section
namespace Px
open Lx (Bs Tok)
def E.kd : E → Prop
 | .un k e => 19 ≤ k ∧ k ≤ 22 ∧ e.kd
 | .bin k a b => 23 ≤ k ∧ k ≤ 36 ∧ a.kd ∧ b.kd
 | _ => True
theorem E.kd_of {n : Nat} : ∀ e : E, e.ok n → e.kd
 | .un k e, h => ⟨h.1, h.2.1, E.kd_of e h.2.2.2⟩
 | .bin k a b, h => ⟨h.1, h.2.1, E.kd_of a h.2.2.1, E.kd_of b h.2.2.2⟩
 | .null, _ => trivial
 | .bool _, _ => trivial
 | .num _, _ => trivial
 | .str _, _ => trivial
 | .nm _, _ => trivial
theorem decF_len : ∀ (f n k : Nat), n < 10 ^ k → 1 ≤ k → (decF f n).length ≤ k
 | 0, n, k, _, _ => by simp [decF]
 | f + 1, n, k, h, hk => by
  unfold decF
  split
  · simp; omega
  · rename_i hn
    obtain ⟨k', rfl⟩ : ∃ k', k = k' + 1 := ⟨k - 1, by omega⟩
    have hk' : 1 ≤ k' := by
     rcases Nat.eq_zero_or_pos k' with rfl | h'
     · simp at h; omega
     · exact h'
    have := decF_len f (n / 10) k' (by rw [Nat.pow_succ] at h; omega) hk'
    simp only [List.length_append, List.length_singleton]
    omega
end Px
end
section
namespace Px
open Lx (Bs Tok)
def Fst (l : List PT) : Prop := ∃ t r, l = t :: r ∧ t.out ≠ [] ∧ t.out ≠ [41] ∧ t.out ≠ [44]
def Lst (l : List PT) : Prop := ∃ r t, l = r ++ [t] ∧ t.out ≠ [40] ∧ t.pre = false
theorem render_join : ∀ (a : List PT) (x y : PT) (b : List PT), render (a ++ [x] ++ y :: b) = render (a ++ [x]) ++ gap x y ++ render (y :: b)
 | [], x, y, b => by simp [render]
 | [z], x, y, b => by simp [render]
 | z :: z' :: a, x, y, b => by
  have ih := render_join (z' :: a) x y b
  simp only [List.cons_append, render] at ih ⊢
  rw [ih]
  simp [List.append_assoc]
theorem join {a b : List PT} (ha : Lst a) (hb : Fst b) : render (a ++ b) = render a ++ [32] ++ render b := by
 obtain ⟨r, x, rfl, h1, h2⟩ := ha
 obtain ⟨y, q, rfl, _, h3, h4⟩ := hb
 rw [render_join]
 have ha : apart x y = true := by
  unfold apart
  rw [if_neg (by rintro (e | e | e); exact h1 e; exact h3 e; exact h4 e), if_neg (by simp [h2])]
 have : gap x y = [32] := by simp [gap, ha]
 rw [this]
theorem shut {a : List PT} (ha : Lst a) (t : PT) (ht : t.out = [41] ∨ t.out = [44]) : render (a ++ [t]) = render a ++ t.out := by
 obtain ⟨r, x, rfl, h1, h2⟩ := ha
 rw [render_join]
 have ha : apart x t = false := by
  unfold apart
  rw [if_pos (Or.inr ht)]
 have : gap x t = [] := by simp [gap, ha]
 rw [this]
 simp [render]
theorem opens (t : PT) (ht : t.out = [40]) {b : List PT} (hb : b ≠ []) : render (t :: b) = [40] ++ render b := by
 cases b with
 | nil => exact absurd rfl hb
 | cons y q =>
  have := render_join [] t y q
  simp only [List.nil_append, List.singleton_append] at this
  rw [this]
  have ha : apart t y = false := by
   unfold apart
   rw [if_pos (Or.inl ht)]
  have hg : gap t y = [] := by simp [gap, ha]
  rw [hg]
  simp [render, ht]
theorem Fst.ne {l : List PT} (h : Fst l) : l ≠ [] := by obtain ⟨t, r, rfl, _⟩ := h; simp
theorem Fst.app {l : List PT} (h : Fst l) (m : List PT) : Fst (l ++ m) := by obtain ⟨t, r, rfl, h1⟩ := h; exact ⟨t, r ++ m, rfl, h1⟩
theorem Lst.app {m : List PT} (h : Lst m) (l : List PT) : Lst (l ++ m) := by obtain ⟨r, t, rfl, h1⟩ := h; exact ⟨l ++ r, t, by simp, h1⟩
theorem Fst.one {t : PT} (h0 : t.out ≠ []) (h1 : t.out ≠ [41]) (h2 : t.out ≠ [44]) (r : List PT) : Fst (t :: r) := ⟨t, r, rfl, h0, h1, h2⟩
theorem Lst.one {t : PT} (h1 : t.out ≠ [40]) (h2 : t.pre = false) : Lst [t] := ⟨[], t, rfl, h1, h2⟩
theorem kw_ne (s : Bs) (h : s ≠ []) (h1 : s ≠ [41]) (h2 : s ≠ [44]) (h3 : s ≠ [40]) : Fst [kwT s] ∧ Lst [kwT s] := ⟨Fst.one h h1 h2 [], Lst.one h3 rfl⟩
theorem dg_ne (n : Nat) : Fst [dgT n] ∧ Lst [dgT n] := by
 have hd := decF_digs 20 n
 have hne := decF_ne 19 n
 have hx : ∀ c : UInt8, Lx.isDig c = false → (dgT n).out ≠ [c] := by
  intro c hc e
  have : Lx.isDig c = true := hd c (by show c ∈ decF 20 n; rw [show decF 20 n = [c] from e]; simp)
  rw [hc] at this; cases this
 exact ⟨Fst.one hne (hx 41 (by decide)) (hx 44 (by decide)) [], Lst.one (hx 40 (by decide)) rfl⟩
theorem name_head (s : Bs) : ∃ c r, nameT s = c :: r ∧ c ≠ 40 ∧ c ≠ 41 ∧ c ≠ 44 ∧ c ≠ 45 := by
 unfold nameT
 split
 · rename_i h
   cases s with
   | nil => simp [lowWord] at h
   | cons b r =>
    refine ⟨b, r, rfl, ?_, ?_, ?_, ?_⟩
    all_goals
     rintro rfl
     simp [lowWord, Lx.isLet] at h
 · exact ⟨34, _, rfl, by decide, by decide, by decide, by decide⟩
theorem nm_ne (s : Bs) : Fst [nmT s] ∧ Lst [nmT s] := by
 obtain ⟨c, r, e, h1, h2, h3, h4⟩ := name_head s
 have hx : ∀ d : UInt8, c ≠ d → (nmT s).out ≠ [d] := by
  intro d hd e'
  have : nameT s = [d] := e'
  rw [e] at this
  simp at this
  exact hd this.1
 exact ⟨Fst.one (by show nameT s ≠ []; rw [e]; simp) (hx 41 h2) (hx 44 h3) [], Lst.one (hx 40 h1) rfl⟩
theorem st_ne (s : Bs) : Fst [stT s] ∧ Lst [stT s] := by
 have hx : ∀ d : UInt8, d ≠ 39 → (stT s).out ≠ [d] := by
  intro d hd e'
  have : dbl 39 s = [d] := e'
  simp [dbl] at this
 exact ⟨Fst.one (by simp [stT, dbl]) (hx 41 (by decide)) (hx 44 (by decide)) [], Lst.one (hx 40 (by decide)) rfl⟩
theorem brk_fst {l : List PT} (h : Fst l) (a b : Nat) : Fst (brkT a b l) := by
 unfold brkT
 split
 · exact Fst.one (by decide) (by decide) (by decide) _
 · exact h
theorem brk_lst {l : List PT} (h : Lst l) (a b : Nat) : Lst (brkT a b l) := by
 unfold brkT
 split
 · exact ⟨sgT [40] :: l, sgT [41], rfl, by decide, rfl⟩
 · exact h
theorem brk_render {l : List PT} (h : Lst l) (a b : Nat) : render (brkT a b l) = brk (render l) a b := by
 unfold brkT brk
 split
 · rw [opens _ rfl (by simp), shut h _ (.inl rfl)]
   rfl
 · rfl
theorem op_ne {k : Nat} (h1 : 23 ≤ k) (h2 : k ≤ 36) : Fst [opT k] ∧ Lst [opT k] := by
 rcases sgn_cases h1 h2 with rfl | rfl | rfl | rfl | rfl | rfl | rfl | rfl | rfl | rfl | rfl | rfl | rfl | rfl
 all_goals exact ⟨Fst.one (by decide) (by decide) (by decide) [], Lst.one (by decide) (by decide)⟩
theorem e_ends : ∀ e : E, e.kd → Fst e.pt ∧ Lst e.pt
 | .null, _ => kw_ne _ (by decide) (by decide) (by decide) (by decide)
 | .bool b, _ => by cases b <;> exact kw_ne _ (by decide) (by decide) (by decide) (by decide)
 | .num z, _ => by
  simp only [E.pt]
  split
  · exact ⟨Fst.one (by decide) (by decide) (by decide) _, (dg_ne _).2.app [mnT]⟩
  · exact dg_ne _
 | .str s, _ => st_ne s
 | .nm s, _ => nm_ne s
 | .un k e, h => by
  obtain ⟨f, l⟩ := e_ends e h.2.2
  have hn := kw_ne kNOT (by decide) (by decide) (by decide) (by decide)
  have hl := kw_ne kNULL (by decide) (by decide) (by decide) (by decide)
  simp only [E.pt]
  split
  · exact ⟨hn.1.app _, (brk_lst l _ _).app [kwT kNOT]⟩
  · split
    · exact ⟨Fst.one (by decide) (by decide) (by decide) _, (brk_lst l _ _).app [mnT]⟩
    · split
      · exact ⟨(brk_fst f _ _).app _, ⟨brkT e.lvl 5 e.pt ++ [kwT kIS], kwT kNULL, by simp, by decide, rfl⟩⟩
      · exact ⟨(brk_fst f _ _).app _, ⟨brkT e.lvl 5 e.pt ++ [kwT kIS, kwT kNOT], kwT kNULL, by simp, by decide, rfl⟩⟩
 | .bin k a b, h => by
  obtain ⟨f, l⟩ := e_ends a h.2.2.1
  obtain ⟨f', l'⟩ := e_ends b h.2.2.2
  simp only [E.pt]
  refine ⟨(brk_fst f _ _).app _, ?_⟩
  have := (brk_lst l' b.lvl ((sgnT k).2 + 1)).app (brkT a.lvl (leftOf k) a.pt ++ [opT k])
  simpa using this
theorem fst_head {l : List PT} (h : Fst l) : ∃ t r, l = t :: r ∧ (render l).head? = t.out.head? := by
 obtain ⟨t, r, rfl, h0, _⟩ := h
 refine ⟨t, r, rfl, ?_⟩
 cases ho : t.out with
 | nil => exact absurd ho h0
 | cons c q => cases r <;> simp [render, ho]
theorem minus_render {l : List PT} (h : Fst l) : render (mnT :: l) = minusT (render l) := by
 obtain ⟨t, r, rfl, hh⟩ := fst_head h
 obtain ⟨t', r', e, h0, h1, h2⟩ := h
 cases e
 have := render_join [] mnT t r
 simp only [List.nil_append, List.singleton_append] at this
 rw [this]
 have ha : apart mnT t = decide (t.out.head? = some 45) := by
  unfold apart
  have hn : ¬ (mnT.out = [40] ∨ t.out = [41] ∨ t.out = [44]) := by
   rintro (e | e | e)
   · revert e; decide
   · exact h1 e
   · exact h2 e
  rw [if_neg hn]
  have hp : mnT.pre = true := rfl
  rw [if_pos hp]
 have hg : gap mnT t = if t.out.head? = some 45 then [32] else [] := by
  unfold gap
  rw [ha]
  by_cases h45 : t.out.head? = some 45 <;> simp [h45]
 rw [hg, ← hh]
 have hr : render [mnT] = [45] := rfl
 rw [hr]
 generalize render (t :: r) = s
 cases s with
 | nil => rfl
 | cons c s =>
  by_cases hc : c = 45
  · subst hc; rfl
  · simp only [List.head?_cons, Option.some.injEq, hc, if_false, minusT]
    split
    · rename_i e; simp at e; exact absurd e.1 hc
    · rfl
theorem ext_nodes {N : Nat} : ∀ (e : E) (f : Nat) (r : List Nd), EW N f e → ext f (e.nodes ++ r) = ((render e.pt, e.lvl), r)
 | .null, f, r, h => by
  obtain ⟨g, rfl⟩ : ∃ g, f = g + 1 := ⟨f - 1, by have := h.dep; simp only [E.depth] at this; omega⟩
  simp [E.nodes, leaf, ext, atomT, E.pt, render, kwT, E.lvl]
 | .bool b, f, r, h => by
  obtain ⟨g, rfl⟩ : ∃ g, f = g + 1 := ⟨f - 1, by have := h.dep; simp only [E.depth] at this; omega⟩
  cases b <;> simp [E.nodes, leaf, ext, atomT, E.pt, render, kwT, E.lvl]
 | .num z, f, r, h => by
  obtain ⟨g, rfl⟩ : ∃ g, f = g + 1 := ⟨f - 1, by have := h.dep; simp only [E.depth] at this; omega⟩
  simp only [E.nodes, leaf, List.singleton_append, ext, atomT, E.pt, E.lvl]
  rw [if_pos (by omega), if_neg (by omega), if_neg (by omega), if_pos trivial]
  by_cases hz : z < 0
  · rw [if_pos hz, if_pos ⟨trivial, hz⟩, if_pos hz, minus_render (dg_ne _).1]
    unfold dec
    rw [if_pos hz]
    have hd := decF_digs 20 z.natAbs
    show ((45 :: decF 20 z.natAbs, 8), r) = ((minusT (decF 20 z.natAbs), 8), r)
    cases hq : decF 20 z.natAbs with
    | nil => rfl
    | cons c q =>
     rw [hq] at hd
     have hc : c ≠ 45 := by rintro rfl; have := hd 45 (by simp); revert this; decide
     simp only [minusT]
     split
     · rename_i e; simp at e; exact absurd e.1 hc
     · rfl
  · rw [if_neg hz, if_neg (fun e => hz e.2), if_neg hz]
    unfold dec
    rw [if_neg hz]
    rfl
 | .str s, f, r, h => by
  obtain ⟨g, rfl⟩ : ∃ g, f = g + 1 := ⟨f - 1, by have := h.dep; simp only [E.depth] at this; omega⟩
  simp [E.nodes, leaf, ext, atomT, E.pt, render, stT, E.lvl]
 | .nm s, f, r, h => by
  obtain ⟨g, rfl⟩ : ∃ g, f = g + 1 := ⟨f - 1, by have := h.dep; simp only [E.depth] at this; omega⟩
  simp [E.nodes, leaf, ext, atomT, E.pt, render, nmT, E.lvl]
 | .un k e, f, r, h => by
  obtain ⟨g, rfl⟩ : ∃ g, f = g + 1 := ⟨f - 1, by have := h.dep; simp only [E.depth] at this; omega⟩
  have hok := h.ok
  have hk1 := hok.1
  have hk2 := hok.2.1
  have he : EW N g e := ⟨hok.2.2.2, h.good, by have := h.dep; simp only [E.depth] at this; omega⟩
  have ih := ext_nodes e g r he
  obtain ⟨f1, l1⟩ := e_ends e (E.kd_of e he.ok)
  simp only [E.nodes, over1, List.cons_append, ext]
  rw [if_neg (by omega), if_pos (by omega), ih]
  have hcases : k = 20 ∨ k = 19 ∨ k = 21 ∨ k = 22 := by omega
  have hn := kw_ne kNOT (by decide) (by decide) (by decide) (by decide)
  have hi := kw_ne kIS (by decide) (by decide) (by decide) (by decide)
  have hl := kw_ne kNULL (by decide) (by decide) (by decide) (by decide)
  have r1 : render [kwT kIS, kwT kNULL] = [73, 83, 32, 78, 85, 76, 76] := by decide
  have r2 : render [kwT kIS, kwT kNOT, kwT kNULL] = [73, 83, 32, 78, 79, 84, 32, 78, 85, 76, 76] := by decide
  rcases hcases with rfl | rfl | rfl | rfl
  · have := join hn.2 (brk_fst f1 e.lvl 3)
    rw [brk_render l1] at this
    have e1 : (E.un 20 e).pt = [kwT kNOT] ++ brkT e.lvl 3 e.pt := rfl
    rw [e1, this]
    simp [pre1, render, kwT, E.lvl]
  · have e1 : (E.un 19 e).pt = mnT :: brkT e.lvl 8 e.pt := rfl
    rw [e1, minus_render (brk_fst f1 _ _), brk_render l1]
    simp [pre1, E.lvl]
  · have e1 : (E.un 21 e).pt = brkT e.lvl 5 e.pt ++ [kwT kIS, kwT kNULL] := rfl
    have fj : Fst [kwT kIS, kwT kNULL] := hi.1.app [kwT kNULL]
    rw [e1, join (brk_lst l1 _ _) fj, brk_render l1]
    rw [r1]
    simp [pre1, E.lvl]
  · have e1 : (E.un 22 e).pt = brkT e.lvl 5 e.pt ++ [kwT kIS, kwT kNOT, kwT kNULL] := rfl
    have fj : Fst [kwT kIS, kwT kNOT, kwT kNULL] := hi.1.app [kwT kNOT, kwT kNULL]
    rw [e1, join (brk_lst l1 _ _) fj, brk_render l1]
    rw [r2]
    simp [pre1, E.lvl]
 | .bin k a b, f, r, h => by
  obtain ⟨g, rfl⟩ : ∃ g, f = g + 1 := ⟨f - 1, by have := h.dep; simp only [E.depth] at this; omega⟩
  have hok := h.ok
  have hk1 := hok.1
  have hk2 := hok.2.1
  have hd := h.dep
  simp only [E.depth] at hd
  have ha : EW N g a := ⟨hok.2.2.1, h.good.1, by omega⟩
  have hb : EW N g b := ⟨hok.2.2.2, h.good.2, by omega⟩
  have iha := ext_nodes a g (b.nodes ++ r) ha
  have ihb := ext_nodes b g r hb
  obtain ⟨f1, l1⟩ := e_ends a (E.kd_of a ha.ok)
  obtain ⟨f2, l2⟩ := e_ends b (E.kd_of b hb.ok)
  obtain ⟨f3, l3⟩ := op_ne hk1 hk2
  simp only [E.nodes, over2, List.cons_append, List.append_assoc, ext]
  rw [if_neg (by omega), if_neg (by omega), iha]
  simp only
  rw [ihb]
  have e1 : (E.bin k a b).pt = brkT a.lvl (leftOf k) a.pt ++ ([opT k] ++ brkT b.lvl ((sgnT k).2 + 1) b.pt) := rfl
  rw [e1, join (brk_lst l1 _ _) (f3.app _), join l3 (brk_fst f2 _ _), brk_render l1, brk_render l2]
  have e2 : render [opT k] = (sgnT k).1 := by show (opT k).out = _; unfold opT; split <;> rfl
  rw [e2]
  simp [pre2, E.lvl, leftOf]
end Px
end
section
namespace Px
open Lx (Bs Tok)
def joinB : List Bs → Bs
 | [] => []
 | [a] => a
 | a :: b :: r => a ++ [44, 32] ++ joinB (b :: r)
theorem sep_ends : ∀ (ls : List (List PT)), ls ≠ [] → (∀ l ∈ ls, Fst l ∧ Lst l) → Fst (sepT ls) ∧ Lst (sepT ls) ∧ render (sepT ls) = joinB (ls.map render)
 | [], h, _ => absurd rfl h
 | [a], _, h => ⟨(h a (by simp)).1, (h a (by simp)).2, rfl⟩
 | a :: b :: r, _, h => by
  obtain ⟨f, l⟩ := h a (by simp)
  obtain ⟨i1, i2, i3⟩ := sep_ends (b :: r) (by simp) (fun x hx => h x (by simp [hx]))
  have e : sepT (a :: b :: r) = (a ++ [sgT [44]]) ++ sepT (b :: r) := by simp [sepT]
  rw [e]
  refine ⟨(f.app _).app _, i2.app _, ?_⟩
  rw [join ⟨a, sgT [44], rfl, by decide, rfl⟩ i1, shut l _ (.inr rfl), i3]
  simp [joinB, sgT]
theorem render_ne {l : List PT} (h : Fst l) : render l ≠ [] := by
 obtain ⟨t, r, rfl, hh⟩ := fst_head h
 obtain ⟨t', r', e, h0, _⟩ := h
 cases e
 intro e
 rw [e] at hh
 cases ho : t.out with
 | nil => exact h0 ho
 | cons c q => rw [ho] at hh; cases hh
def addAll : Bs → List Bs → Bs
 | t, [] => t
 | t, s :: r => addAll ((if t = [] then [] else t ++ [44, 32]) ++ s) r
theorem addAll_more : ∀ (ss : List Bs) (t : Bs), t ≠ [] → ss ≠ [] → addAll t ss = t ++ [44, 32] ++ joinB ss
 | [], t, _, h => absurd rfl h
 | [a], t, ht, _ => by simp [addAll, ht, joinB]
 | a :: b :: r, t, ht, _ => by
  have := addAll_more (b :: r) (t ++ [44, 32] ++ a) (by simp) (by simp)
  simp only [addAll, ht, if_false] at this ⊢
  rw [this]
  simp [joinB]
theorem addAll_join : ∀ (ss : List Bs), (∀ s ∈ ss, s ≠ []) → addAll [] ss = joinB ss
 | [], _ => rfl
 | [a], _ => by simp [addAll, joinB]
 | a :: b :: r, h => by
  have := addAll_more (b :: r) a (h a (by simp)) (by simp)
  simp only [addAll, if_true, List.nil_append] at this ⊢
  rw [this]
  simp [joinB]
theorem exts_ok {N : Nat} : ∀ (a : List E) (r : List Nd), (∀ e ∈ a, EW N 40 e) → exts a.length (a.flatMap E.nodes ++ r) = (joinB (a.map fun e => render e.pt), r)
 | [], r, _ => rfl
 | [e], r, h => by
  have := ext_nodes e 40 r (h e (by simp))
  simp only [List.length_singleton, List.flatMap_cons, List.flatMap_nil, List.append_nil, exts, List.map_cons, List.map_nil, joinB]
  rw [this]
 | e :: e' :: a, r, h => by
  have i := exts_ok (e' :: a) r (fun x hx => h x (by simp [hx]))
  have := ext_nodes e 40 ((e' :: a).flatMap E.nodes ++ r) (h e (by simp))
  have hl : (e :: e' :: a).length = a.length + 2 := rfl
  have hl' : (e' :: a).length = a.length + 1 := rfl
  rw [hl'] at i
  rw [hl, List.flatMap_cons, List.append_assoc]
  simp only [exts]
  rw [this]
  simp only
  rw [i]
  simp [joinB]
theorem gath_things {α : Type} (nd : α → List Nd) (tx : α → Bs) : ∀ (a : List α) (g : Gath) (m : Nat) (r : List Nd), (∀ x ∈ a, ∀ r, ∃ y q, nd x ++ r = y :: q ∧ rank y.kind = 1 ∧ partT (nd x ++ r) = (tx x, r)) →
   gath (a.length + m) g (a.flatMap nd ++ r) = gath m { g with things := addAll g.things (a.map tx) } r
 | [], g, m, r, _ => by simp [addAll]
 | x :: a, g, m, r, h => by
  obtain ⟨y, q, e, hr, hp⟩ := h x (by simp) (a.flatMap nd ++ r)
  have hl : (x :: a).length + m = (a.length + m) + 1 := by simp; omega
  rw [hl, List.flatMap_cons, List.append_assoc]
  rw [e] at hp ⊢
  simp only [gath]
  rw [hp]
  simp only [gath1, hr, if_true]
  rw [gath_things nd tx a _ m r (fun z hz => h z (by simp [hz]))]
  simp [addAll]
def addOrd : Bs → List Bs → Bs
 | t, [] => t
 | t, s :: r => addOrd ((if t = [] then [32] ++ kORDER ++ [32] ++ kBY ++ [32] else t ++ [44, 32]) ++ s) r
theorem addOrd_more : ∀ (ss : List Bs) (t : Bs), t ≠ [] → ss ≠ [] → addOrd t ss = t ++ [44, 32] ++ joinB ss
 | [], t, _, h => absurd rfl h
 | [a], t, ht, _ => by simp [addOrd, ht, joinB]
 | a :: b :: r, t, ht, _ => by
  have := addOrd_more (b :: r) (t ++ [44, 32] ++ a) (by simp) (by simp)
  simp only [addOrd, ht, if_false] at this ⊢
  rw [this]
  simp [joinB]
theorem addOrd_join (s : Bs) (ss : List Bs) : addOrd [] (s :: ss) = [32] ++ kORDER ++ [32] ++ kBY ++ [32] ++ joinB (s :: ss) := by
 cases ss with
 | nil => simp [addOrd, joinB]
 | cons b r =>
  have := addOrd_more (b :: r) ([32] ++ kORDER ++ [32] ++ kBY ++ [32] ++ s) (by simp) (by simp)
  simp only [addOrd, if_true] at this ⊢
  rw [this]
  simp [joinB]
theorem gath_orders {α : Type} (nd : α → List Nd) (tx : α → Bs) : ∀ (a : List α) (g : Gath) (m : Nat) (r : List Nd), (∀ x ∈ a, ∀ r, ∃ y q, nd x ++ r = y :: q ∧ rank y.kind = 3 ∧ partT (nd x ++ r) = (tx x, r)) →
   gath (a.length + m) g (a.flatMap nd ++ r) = gath m { g with orders := addOrd g.orders (a.map tx) } r
 | [], g, m, r, _ => by simp [addOrd]
 | x :: a, g, m, r, h => by
  obtain ⟨y, q, e, hr, hp⟩ := h x (by simp) (a.flatMap nd ++ r)
  have hl : (x :: a).length + m = (a.length + m) + 1 := by simp; omega
  rw [hl, List.flatMap_cons, List.append_assoc]
  rw [e] at hp ⊢
  simp only [gath]
  rw [hp]
  simp only [gath1, hr]
  rw [if_neg (by omega), if_neg (by omega), if_pos trivial]
  rw [gath_orders nd tx a _ m r (fun z hz => h z (by simp [hz]))]
  simp [addOrd]
def spc (l : List PT) : Bs := if l.isEmpty = true then [] else 32 :: render l
theorem app_spc {a : List PT} (ha : Lst a) (l : List PT) (h : l = [] ∨ Fst l) : render (a ++ l) = render a ++ spc l := by
 rcases h with rfl | h
 · simp [spc]
 · rw [join ha h]
   have : l.isEmpty = false := by cases l with | nil => exact absurd rfl h.ne | cons => rfl
   simp [spc, this]
theorem gath_where {N : Nat} (o : Option E) (g : Gath) (m : Nat) (r : List Nd) (h : ∀ e ∈ o.toList, EW N 40 e) (hg : g.where_ = []) : gath (one? o + m) g (whereN o ++ r) = gath m { g with where_ := spc (whereT o) } r ∧ (whereT o = [] ∨ Fst (whereT o)) ∧ (whereT o = [] ∨ Lst (whereT o)) := by
 cases o with
 | none =>
  refine ⟨?_, .inl rfl, .inl rfl⟩
  simp only [one?, Nat.zero_add, whereN, List.nil_append, spc, whereT, List.isEmpty_nil, if_true]
  rw [← hg]
 | some e =>
  have he := h e (by simp)
  obtain ⟨f, l⟩ := e_ends e (E.kd_of e he.ok)
  have hk := kw_ne kWHERE (by decide) (by decide) (by decide) (by decide)
  refine ⟨?_, .inr (hk.1.app e.pt), .inr (l.app [kwT kWHERE])⟩
  have hx := ext_nodes e 40 r he
  have hj := join hk.2 f
  simp only [one?, whereN, over1, List.cons_append]
  rw [Nat.add_comm]
  simp only [gath, partT]
  rw [if_neg (by omega), if_neg (by omega), if_neg (by omega), if_neg (by omega), if_pos trivial, hx]
  simp only [gath1]
  rw [rank_11, if_neg (by omega), if_pos rfl]
  congr 2
  have hs : spc (whereT (some e)) = 32 :: render ([kwT kWHERE] ++ e.pt) := rfl
  rw [hs, hj]
  simp [render, kwT]
theorem gath_lim (o : Option Nat) (g : Gath) (hg : g.limit = []) : gath (one? o) g (limN o) = { g with limit := spc (limT o) } ∧ (limT o = [] ∨ Fst (limT o)) := by
 cases o with
 | none =>
  refine ⟨?_, .inl rfl⟩
  simp only [one?, gath, spc, limT, List.isEmpty_nil, if_true]
  rw [← hg]
 | some n =>
  have hk := kw_ne kLIMIT (by decide) (by decide) (by decide) (by decide)
  refine ⟨?_, .inr (hk.1.app [dgT n])⟩
  have hj := join hk.2 (dg_ne n).1
  simp only [one?, limN, gath, partT]
  rw [if_neg (by omega), if_neg (by omega), if_neg (by omega), if_neg (by omega), if_neg (by omega), if_neg (by omega), if_pos trivial]
  simp only [gath1]
  rw [rank_13, if_neg (by omega), if_neg (by omega), if_neg (by omega)]
  congr 1
  have hs : spc (limT (some n)) = 32 :: render ([kwT kLIMIT] ++ [dgT n]) := rfl
  rw [hs, hj]
  have hd : dec (n : Int) = decF 20 n := by unfold dec; rw [if_neg (by omega)]; rfl
  simp [render, kwT, dgT, hd]
end Px
end
section
namespace Px
open Lx (Bs Tok)
theorem lst2 (a b : Bs) (h : b ≠ [40]) : Lst [kwT a, kwT b] := ⟨[kwT a], kwT b, rfl, h, rfl⟩
theorem col_part (c : Bs × Nat) (hc : 1 ≤ c.2 ∧ c.2 ≤ 7 ∧ c.2 ≠ 4) (r : List Nd) : partT (colN c :: r) = (render (colT c), r) ∧ Fst (colT c) ∧ Lst (colT c) := by
 obtain ⟨n, k⟩ := c
 simp only at hc
 obtain ⟨f, l⟩ := nm_ne n
 have hk : k = 1 ∨ k = 2 ∨ k = 3 ∨ k = 5 ∨ k = 6 ∨ k = 7 := by omega
 have ht : ∀ s, s ≠ [] → s ≠ [41] → s ≠ [44] → s ≠ [40] → render ([nmT n] ++ [kwT s]) = nameT n ++ [32] ++ s := fun s a b c d => by
  rw [join l (kw_ne s a b c d).1]; rfl
 have hn := kw_ne kNOT (by decide) (by decide) (by decide) (by decide)
 have hu := kw_ne kNULL (by decide) (by decide) (by decide) (by decide)
 have hnn : render [kwT kNOT, kwT kNULL] = kNOT ++ [32] ++ kNULL := by decide
 have fnn : Fst [kwT kNOT, kwT kNULL] := hn.1.app _
 rcases hk with rfl | rfl | rfl | rfl | rfl | rfl
 · refine ⟨?_, f.app [kwT (typeT 1)], (kw_ne kINTEGER (by decide) (by decide) (by decide) (by decide)).2.app [nmT n]⟩
   have := ht kINTEGER (by decide) (by decide) (by decide) (by decide)
   show partT (⟨2, n, 1, 0⟩ :: r) = (render ([nmT n] ++ [kwT kINTEGER]), r)
   rw [this]
   simp [partT]
 · refine ⟨?_, f.app [kwT (typeT 2)], (kw_ne kTEXT (by decide) (by decide) (by decide) (by decide)).2.app [nmT n]⟩
   have := ht kTEXT (by decide) (by decide) (by decide) (by decide)
   show partT (⟨2, n, 2, 0⟩ :: r) = (render ([nmT n] ++ [kwT kTEXT]), r)
   rw [this]
   simp [partT]
 · refine ⟨?_, f.app [kwT (typeT 3)], (kw_ne kBOOLEAN (by decide) (by decide) (by decide) (by decide)).2.app [nmT n]⟩
   have := ht kBOOLEAN (by decide) (by decide) (by decide) (by decide)
   show partT (⟨2, n, 3, 0⟩ :: r) = (render ([nmT n] ++ [kwT kBOOLEAN]), r)
   rw [this]
   simp [partT]
 · refine ⟨?_, f.app [kwT (typeT 5), kwT kNOT, kwT kNULL], hu.2.app [nmT n, kwT (typeT 5), kwT kNOT]⟩
   have h1 := ht kINTEGER (by decide) (by decide) (by decide) (by decide)
   have h2 := join (a := [nmT n] ++ [kwT kINTEGER]) ((kw_ne kINTEGER (by decide) (by decide) (by decide) (by decide)).2.app [nmT n]) fnn
   rw [h1, hnn] at h2
   have ec : colT (n, 5) = ([nmT n] ++ [kwT kINTEGER]) ++ [kwT kNOT, kwT kNULL] := by simp [colT, typeT]
   rw [ec]
   show partT (⟨2, n, 5, 0⟩ :: r) = _
   rw [h2]
   simp [partT]
 · refine ⟨?_, f.app [kwT (typeT 6), kwT kNOT, kwT kNULL], hu.2.app [nmT n, kwT (typeT 6), kwT kNOT]⟩
   have h1 := ht kTEXT (by decide) (by decide) (by decide) (by decide)
   have h2 := join (a := [nmT n] ++ [kwT kTEXT]) ((kw_ne kTEXT (by decide) (by decide) (by decide) (by decide)).2.app [nmT n]) fnn
   rw [h1, hnn] at h2
   have ec : colT (n, 6) = ([nmT n] ++ [kwT kTEXT]) ++ [kwT kNOT, kwT kNULL] := by simp [colT, typeT]
   rw [ec]
   show partT (⟨2, n, 6, 0⟩ :: r) = _
   rw [h2]
   simp [partT]
 · refine ⟨?_, f.app [kwT (typeT 7), kwT kNOT, kwT kNULL], hu.2.app [nmT n, kwT (typeT 7), kwT kNOT]⟩
   have h1 := ht kBOOLEAN (by decide) (by decide) (by decide) (by decide)
   have h2 := join (a := [nmT n] ++ [kwT kBOOLEAN]) ((kw_ne kBOOLEAN (by decide) (by decide) (by decide) (by decide)).2.app [nmT n]) fnn
   rw [h1, hnn] at h2
   have ec : colT (n, 7) = ([nmT n] ++ [kwT kBOOLEAN]) ++ [kwT kNOT, kwT kNULL] := by simp [colT, typeT]
   rw [ec]
   show partT (⟨2, n, 7, 0⟩ :: r) = _
   rw [h2]
   simp [partT]
theorem row_part {N : Nat} (a : List E) (ha : RowW N a) (r : List Nd) : (∃ y q, rowN a ++ r = y :: q ∧ rank y.kind = 1 ∧ partT (rowN a ++ r) = (render (rowT a), r)) ∧ Fst (rowT a) ∧ Lst (rowT a) := by
 have hs := sep_ends (a.map E.pt) (by simpa using ha.1) (fun l hl => by
  obtain ⟨e, he, rfl⟩ := List.mem_map.1 hl
  exact e_ends e (E.kd_of e (ha.2 e he).ok))
 refine ⟨⟨_, _, rfl, rfl, ?_⟩, Fst.one (by decide) (by decide) (by decide) _, ⟨sgT [40] :: sepT (a.map E.pt), sgT [41], rfl, by decide, rfl⟩⟩
 have hx := exts_ok a r ha.2
 have hk : ((a.length : Nat) : Int).toNat = a.length := by omega
 show partT (⟨5, [], 0, (a.length : Int)⟩ :: (a.flatMap E.nodes ++ r)) = _
 simp only [partT]
 rw [if_neg (by omega), if_pos trivial, hk, hx]
 simp only [rowT]
 rw [opens _ rfl (by simp), shut hs.2.1 _ (.inl rfl), hs.2.2]
 simp [sgT, List.map_map, Function.comp_def]
theorem set_part {N : Nat} (x : Bs × E) (he : EW N 40 x.2) (r : List Nd) : (∃ y q, setN x ++ r = y :: q ∧ rank y.kind = 1 ∧ partT (setN x ++ r) = (render (setT x), r)) ∧ Fst (setT x) ∧ Lst (setT x) := by
 obtain ⟨f, l⟩ := e_ends x.2 (E.kd_of _ he.ok)
 obtain ⟨f1, l1⟩ := nm_ne x.1
 have fe : Fst ([sgT [61]] ++ x.2.pt) := Fst.one (by decide) (by decide) (by decide) _
 have le : Lst [sgT [61]] := Lst.one (by decide) rfl
 refine ⟨⟨_, _, rfl, rfl, ?_⟩, f1.app _, l.app [nmT x.1, sgT [61]]⟩
 have hx := ext_nodes x.2 40 r he
 show partT (⟨8, x.1, 0, 1⟩ :: (x.2.nodes ++ r)) = (render ([nmT x.1] ++ ([sgT [61]] ++ x.2.pt)), r)
 rw [join l1 fe, join le f]
 simp only [partT]
 rw [if_neg (by omega), if_neg (by omega), if_pos trivial, hx]
 simp [render, nmT, sgT]
theorem e_head (e : E) (n : Nat) (ho : e.ok n) (r : List Nd) : ∃ y q, e.nodes ++ r = y :: q ∧ 14 ≤ y.kind ∧ y.kind ≤ 36 := by
 have h := E.head e n ho r
 cases hq : e.nodes ++ r with
 | nil => rw [hq] at h; simp [pkN] at h
 | cons y q => rw [hq] at h; exact ⟨y, q, rfl, h⟩
theorem item_part {N : Nat} (x : Option E) (hx : ItW N x) (r : List Nd) : (∃ y q, itemN x ++ r = y :: q ∧ rank y.kind = 1 ∧ partT (itemN x ++ r) = (render (itemT x), r)) ∧ Fst (itemT x) ∧ Lst (itemT x) := by
 cases x with
 | none => exact ⟨⟨_, _, rfl, rfl, by simp [itemN, partT, itemT, render, sgT]⟩, Fst.one (by decide) (by decide) (by decide) [], Lst.one (by decide) rfl⟩
 | some e =>
  have he := hx e (by simp)
  obtain ⟨f, l⟩ := e_ends e (E.kd_of _ he.ok)
  obtain ⟨y, q, e1, h1, h2⟩ := e_head e N he.ok r
  refine ⟨⟨y, q, e1, rank_1 (by omega) (by omega) (by omega), ?_⟩, f, l⟩
  have hx := ext_nodes e 40 r he
  show partT (e.nodes ++ r) = _
  rw [e1] at hx ⊢
  simp only [partT]
  rw [if_neg (by omega), if_neg (by omega), if_neg (by omega), if_neg (by omega), if_neg (by omega), if_neg (by omega), if_neg (by omega), hx]
  rfl
theorem order_part {N : Nat} (x : E × Bool) (he : EW N 40 x.1) (r : List Nd) : (∃ y q, orderN x ++ r = y :: q ∧ rank y.kind = 3 ∧ partT (orderN x ++ r) = (render (orderT x), r)) ∧ Fst (orderT x) ∧ Lst (orderT x) := by
 obtain ⟨e, b⟩ := x
 obtain ⟨f, l⟩ := e_ends e (E.kd_of _ he.ok)
 have hk := kw_ne kDESC (by decide) (by decide) (by decide) (by decide)
 have hx := ext_nodes e 40 r he
 have hj := join l hk.1
 cases b with
 | false =>
  have e1 : orderT (e, false) = e.pt := by simp [orderT]
  rw [e1]
  refine ⟨⟨_, _, rfl, rfl, ?_⟩, f, l⟩
  show partT (⟨12, [], 0, 1⟩ :: (e.nodes ++ r)) = _
  simp only [partT]
  rw [if_neg (by omega), if_neg (by omega), if_neg (by omega), if_neg (by omega), if_neg (by omega), if_pos trivial, hx]
  simp
 | true =>
  have e1 : orderT (e, true) = e.pt ++ [kwT kDESC] := by simp [orderT]
  rw [e1]
  refine ⟨⟨_, _, rfl, rfl, ?_⟩, f.app _, hk.2.app _⟩
  show partT (⟨12, [], 1, 1⟩ :: (e.nodes ++ r)) = _
  simp only [partT]
  rw [if_neg (by omega), if_neg (by omega), if_neg (by omega), if_neg (by omega), if_neg (by omega), if_pos trivial, hx, hj]
  simp [render, kwT]
theorem tx_join {α : Type} (pt : α → List PT) (a : List α) (hne : a ≠ []) (h : ∀ x ∈ a, Fst (pt x) ∧ Lst (pt x)) : addAll [] (a.map fun x => render (pt x)) = render (sepT (a.map pt)) ∧ Fst (sepT (a.map pt)) ∧ Lst (sepT (a.map pt)) := by
 have hs := sep_ends (a.map pt) (by simpa using hne) (fun l hl => by
  obtain ⟨x, hx, rfl⟩ := List.mem_map.1 hl
  exact h x hx)
 refine ⟨?_, hs.1, hs.2.1⟩
 rw [addAll_join, hs.2.2, List.map_map]
 · rfl
 · intro s hs'
   obtain ⟨x, hx, rfl⟩ := List.mem_map.1 hs'
   exact render_ne (h x hx).1
theorem text_nodes {N : Nat} (s : St) (hw : Wf N s) : text s.nodes = render s.pt := by
 have he := hw.exprs
 have hp := hw.parts
 have gz : ∀ g r, gath 0 g r = g := fun g r => by cases r <;> rfl
 cases s with
 | create t c =>
  obtain ⟨ht, h1, h2, h3⟩ := hp
  have hne : c ≠ [] := by rintro rfl; simp at h1
  obtain ⟨j1, j2, j3⟩ := tx_join colT c hne (fun x hx => (col_part x (h3 x hx).2 []).2)
  have hg := gath_things (fun x => [colN x]) (fun x => render (colT x)) c ⟨[], [], [], []⟩ 0 [] (fun x hx r => ⟨_, _, rfl, rfl, (col_part x (h3 x hx).2 r).1⟩)
  rw [List.append_nil, Nat.add_zero, flat_cols] at hg
  obtain ⟨f, l⟩ := nm_ne t
  have hk : ((c.length : Nat) : Int).toNat = c.length := by omega
  show text (⟨1, t, 0, (c.length : Int)⟩ :: c.map colN) = _
  simp only [text]
  rw [if_pos trivial, hk, hg, gz]
  simp only
  rw [j1]
  have e1 : (St.create t c).pt = ([kwT kCREATE, kwT kTABLE] ++ [nmT t]) ++ (sgT [40] :: (sepT (c.map colT) ++ [sgT [41]])) := rfl
  rw [e1, join (l.app _) (Fst.one (by decide) (by decide) (by decide) _), opens _ rfl (by simp), shut j3 _ (.inl rfl), join (lst2 kCREATE kTABLE (by decide)) f]
  have r1 : render [kwT kCREATE, kwT kTABLE] = kCREATE ++ [32] ++ kTABLE := by decide
  rw [r1]
  simp [render, nmT, sgT]
 | drop t =>
  obtain ⟨f, l⟩ := nm_ne t
  show text [⟨3, t, 0, 0⟩] = _
  simp only [text]
  rw [if_neg (by omega), if_pos trivial]
  have e1 : (St.drop t).pt = [kwT kDROP, kwT kTABLE] ++ [nmT t] := rfl
  rw [e1, join (lst2 kDROP kTABLE (by decide)) f]
  have r1 : render [kwT kDROP, kwT kTABLE] = kDROP ++ [32] ++ kTABLE := by decide
  rw [r1]
  simp [render, nmT]
 | insert t r =>
  obtain ⟨ht, hne, h3⟩ := hp
  have hr : ∀ x ∈ r, RowW N x := fun x hx => ⟨h3 x hx, fun e h => he e (List.mem_flatten.2 ⟨x, hx, h⟩)⟩
  obtain ⟨j1, j2, j3⟩ := tx_join rowT r hne (fun x hx => (row_part x (hr x hx) []).2)
  have hg := gath_things rowN (fun x => render (rowT x)) r ⟨[], [], [], []⟩ 0 [] (fun x hx q => (row_part x (hr x hx) q).1)
  rw [List.append_nil, Nat.add_zero] at hg
  obtain ⟨f, l⟩ := nm_ne t
  have hk : ((r.length : Nat) : Int).toNat = r.length := by omega
  show text (⟨4, t, 0, (r.length : Int)⟩ :: r.flatMap rowN) = _
  simp only [text]
  rw [if_neg (by omega), if_neg (by omega), if_pos trivial, hk, hg, gz]
  simp only
  rw [j1]
  have e1 : (St.insert t r).pt = ([kwT kINSERT, kwT kINTO] ++ [nmT t]) ++ ([kwT kVALUES] ++ sepT (r.map rowT)) := rfl
  have hv := kw_ne kVALUES (by decide) (by decide) (by decide) (by decide)
  rw [e1, join (l.app _) (hv.1.app _), join hv.2 j2, join (lst2 kINSERT kINTO (by decide)) f]
  have r1 : render [kwT kINSERT, kwT kINTO] = kINSERT ++ [32] ++ kINTO := by decide
  rw [r1]
  simp [render, nmT, kwT]
 | delete t o =>
  obtain ⟨f, l⟩ := nm_ne t
  obtain ⟨g1, g2, g3⟩ := gath_where (N := N) o ⟨[], [], [], []⟩ 0 [] (fun e h => he e h) rfl
  rw [List.append_nil, Nat.add_zero] at g1
  have hk : ((one? o : Nat) : Int).toNat = one? o := by omega
  show text (⟨6, t, 0, ((one? o : Nat) : Int)⟩ :: whereN o) = _
  simp only [text]
  rw [if_neg (by omega), if_neg (by omega), if_neg (by omega), if_pos trivial, hk, g1, gz]
  simp only
  have e1 : (St.delete t o).pt = ([kwT kDELETE, kwT kFROM] ++ [nmT t]) ++ whereT o := rfl
  rw [e1, app_spc (l.app _) _ g2, join (lst2 kDELETE kFROM (by decide)) f]
  have r1 : render [kwT kDELETE, kwT kFROM] = kDELETE ++ [32] ++ kFROM := by decide
  rw [r1]
  simp [render, nmT]
 | update t s o =>
  obtain ⟨ht, hne, h3⟩ := hp
  have hs : ∀ x ∈ s, EW N 40 x.2 := fun x hx => he _ (by simp only [St.exprs, List.mem_append, List.mem_map]; exact .inl ⟨x, hx, rfl⟩)
  obtain ⟨j1, j2, j3⟩ := tx_join setT s hne (fun x hx => (set_part x (hs x hx) []).2)
  have hg := gath_things setN (fun x => render (setT x)) s ⟨[], [], [], []⟩ (one? o) (whereN o) (fun x hx q => (set_part x (hs x hx) q).1)
  obtain ⟨g1, g2, g3⟩ := gath_where (N := N) o ⟨addAll [] (s.map fun x => render (setT x)), [], [], []⟩ 0 [] (fun e h => he e (by simp only [St.exprs, List.mem_append]; exact .inr h)) rfl
  rw [List.append_nil, Nat.add_zero] at g1
  obtain ⟨f, l⟩ := nm_ne t
  have hk : (((s.length : Nat) : Int) + ((one? o : Nat) : Int)).toNat = s.length + one? o := by omega
  show text (⟨7, t, 0, ((s.length : Nat) : Int) + ((one? o : Nat) : Int)⟩ :: (s.flatMap setN ++ whereN o)) = _
  simp only [text]
  rw [if_neg (by omega), if_neg (by omega), if_neg (by omega), if_neg (by omega), if_pos trivial, hk, hg, g1, gz]
  simp only
  rw [j1]
  have hu := kw_ne kUPDATE (by decide) (by decide) (by decide) (by decide)
  have hset := kw_ne kSET (by decide) (by decide) (by decide) (by decide)
  have e1 : (St.update t s o).pt = ([kwT kUPDATE] ++ ([nmT t] ++ ([kwT kSET] ++ sepT (s.map setT)))) ++ whereT o := by simp [St.pt]
  rw [e1, app_spc (((j3.app _).app _).app _) _ g2, join hu.2 (f.app _), join l (hset.1.app _), join hset.2 j2]
  simp [render, nmT, kwT]
 | select i t o r lm =>
  obtain ⟨ht, hne, h3⟩ := hp
  have hi : ∀ x ∈ i, ItW N x := fun x hx e h => he e (by
   simp only [St.exprs, List.mem_append, List.mem_filterMap, id]
   cases x with
   | none => simp at h
   | some e' => simp at h; subst h; exact .inl (.inl ⟨some e, hx, rfl⟩))
  have hr : ∀ x ∈ r, EW N 40 x.1 := fun x hx => he _ (by simp only [St.exprs, List.mem_append, List.mem_map]; exact .inr ⟨x, hx, rfl⟩)
  obtain ⟨j1, j2, j3⟩ := tx_join itemT i hne (fun x hx => (item_part x (hi x hx) []).2)
  have hg := gath_things itemN (fun x => render (itemT x)) i ⟨[], [], [], []⟩ (one? o + (r.length + one? lm)) (whereN o ++ (r.flatMap orderN ++ limN lm)) (fun x hx q => (item_part x (hi x hx) q).1)
  obtain ⟨g1, g2, g3⟩ := gath_where (N := N) o ⟨addAll [] (i.map fun x => render (itemT x)), [], [], []⟩ (r.length + one? lm) (r.flatMap orderN ++ limN lm) (fun e h => he e (by simp only [St.exprs, List.mem_append]; exact .inl (.inr h))) rfl
  have g4 := gath_orders orderN (fun x => render (orderT x)) r ⟨addAll [] (i.map fun x => render (itemT x)), spc (whereT o), [], []⟩ (one? lm) (limN lm) (fun x hx q => (order_part x (hr x hx) q).1)
  obtain ⟨g5, g6⟩ := gath_lim lm ⟨addAll [] (i.map fun x => render (itemT x)), spc (whereT o), addOrd [] (r.map fun x => render (orderT x)), []⟩ rfl
  obtain ⟨f, l⟩ := nm_ne t
  have ho : addOrd [] (r.map fun x => render (orderT x)) = spc (ordersT r) ∧ (ordersT r = [] ∨ Fst (ordersT r)) ∧ (ordersT r = [] ∨ Lst (ordersT r)) := by
   cases r with
   | nil => exact ⟨rfl, .inl rfl, .inl rfl⟩
   | cons x r =>
    have hs := sep_ends ((x :: r).map orderT) (by simp) (fun l hl => by
     obtain ⟨y, hy, rfl⟩ := List.mem_map.1 hl
     exact (order_part y (hr y hy) []).2)
    have e1 : ordersT (x :: r) = [kwT kORDER, kwT kBY] ++ sepT ((x :: r).map orderT) := rfl
    refine ⟨?_, .inr (by rw [e1]; exact Fst.one (by decide) (by decide) (by decide) _), .inr (by rw [e1]; exact hs.2.1.app _)⟩
    rw [List.map_cons, addOrd_join]
    have e2 : spc (ordersT (x :: r)) = 32 :: render ([kwT kORDER, kwT kBY] ++ sepT ((x :: r).map orderT)) := rfl
    rw [e2, join (lst2 kORDER kBY (by decide)) hs.1, hs.2.2]
    have r1 : render [kwT kORDER, kwT kBY] = kORDER ++ [32] ++ kBY := by decide
    rw [r1]
    simp [List.map_map, Function.comp_def]
  obtain ⟨o1, o2, o3⟩ := ho
  have hk : (((i.length : Nat) : Int) + ((one? o : Nat) : Int) + ((r.length : Nat) : Int) + ((one? lm : Nat) : Int)).toNat = i.length + (one? o + (r.length + one? lm)) := by omega
  have ea : i.flatMap itemN ++ whereN o ++ r.flatMap orderN ++ limN lm = i.flatMap itemN ++ (whereN o ++ (r.flatMap orderN ++ limN lm)) := by simp
  show text (⟨9, t, 0, ((i.length : Nat) : Int) + ((one? o : Nat) : Int) + ((r.length : Nat) : Int) + ((one? lm : Nat) : Int)⟩ :: (i.flatMap itemN ++ whereN o ++ r.flatMap orderN ++ limN lm)) = _
  simp only [text]
  rw [if_neg (by omega), if_neg (by omega), if_neg (by omega), if_neg (by omega), if_neg (by omega), hk, ea, hg]
  simp only
  rw [g1, g4]
  simp only
  rw [g5]
  simp only
  rw [j1, o1]
  have hs := kw_ne kSELECT (by decide) (by decide) (by decide) (by decide)
  have hf := kw_ne kFROM (by decide) (by decide) (by decide) (by decide)
  have base : Lst ([kwT kSELECT] ++ (sepT (i.map itemT) ++ ([kwT kFROM] ++ [nmT t]))) := ((l.app _).app _).app _
  have e1 : (St.select i t o r lm).pt = ((([kwT kSELECT] ++ (sepT (i.map itemT) ++ ([kwT kFROM] ++ [nmT t]))) ++ whereT o) ++ ordersT r) ++ limT lm := by simp [St.pt]
  have l1 : Lst (([kwT kSELECT] ++ (sepT (i.map itemT) ++ ([kwT kFROM] ++ [nmT t]))) ++ whereT o) := by
   rcases g3 with h | h
   · rw [h, List.append_nil]; exact base
   · exact h.app _
  have l2 : Lst ((([kwT kSELECT] ++ (sepT (i.map itemT) ++ ([kwT kFROM] ++ [nmT t]))) ++ whereT o) ++ ordersT r) := by
   rcases o3 with h | h
   · rw [h, List.append_nil]; exact l1
   · exact h.app _
  rw [e1, app_spc l2 _ g6, app_spc l1 _ o2, app_spc base _ g2, join hs.2 (j2.app _), join j3 (hf.1.app _), join hf.2 f]
  simp [render, nmT, kwT]
end Px
end
namespace Mk
end Mk
namespace Rf
def nodeA (x : Px.Nd) : Value := .agg #[.int .i64 x.kind, .string ⟨x.text.toArray⟩, .int .i64 x.num, .int .i64 x.kids]
theorem expression_any (k : Int) (w : World) : Calls Tryz.prog 99 #[.int .i64 k] w fun e w' => e = .returned (.bool (Px.isExpr k)) ∧ w' = w := by
 go_enter Tryz.func99, Tryz.ntmps99
 go_wp2
 all_goals
  go_ret
  refine ⟨ret_bool ?_, rfl⟩
  rw [Bool.eq_iff_iff]; simp [Px.isExpr]; omega
theorem bare_any (x : Px.Nd) (k : Int) (w : World) : Calls Tryz.prog 101 #[nodeA x, .int .i64 k] w fun e w' => e = .returned (.bool (Px.bareN x k)) ∧ Below w.heap.size w w' := by
 obtain ⟨kd, tx, nu, ks⟩ := x
 have HB : Hid (Below w.heap.size w (w.alloc (.cells #[.int .i64 kd, .string ⟨tx.toArray⟩, .int .i64 nu, .int .i64 ks] 43))) := by show Below _ _ _; go_grown
 unfold nodeA
 by_cases h1 : tx = []
 · subst h1
   by_cases h2 : nu = 0
   · subst h2
     by_cases h3 : ks = k
     · subst h3
       go_enter Tryz.func101, Tryz.ntmps101
       go_wp2
       go_ret
       exact ⟨ret_bool (by simp [Px.bareN]), HB.out⟩
     · have hb : (ks == k) = false := by simpa using h3
       go_enter Tryz.func101, Tryz.ntmps101
       go_wp2
       go_ret
       exact ⟨ret_bool (by simp [Px.bareN, h3]), HB.out⟩
   · have hb : (nu == 0) = false := by simpa using h2
     go_enter Tryz.func101, Tryz.ntmps101
     go_wp2
     go_ret
     exact ⟨ret_bool (by simp [Px.bareN, h2]), HB.out⟩
 · have hb : (tx == []) = false := by simpa using h1
   go_enter Tryz.func101, Tryz.ntmps101
   go_wp2
   go_ret
   exact ⟨ret_bool (by simp [Px.bareN, h1]), HB.out⟩
theorem isName_any (s : ByteArray) (w : World) (hs : s.size ≤ 1000000000) : Calls Tryz.prog 57 #[.string s] w fun e w' => e = .returned (.bool (Px.isName s.data.toList)) ∧ w' = w := by
 have HV := hd (Valid_any s w hs)
 have hl : s.data.toList.length = s.size := by simp
 have hx : (s.toList == []) = s.data.toList.isEmpty := by rw [Lib.toList_data]; cases s.data.toList <;> rfl
 have hP : Px.isName s.data.toList = (Lx.validN s.data.toList && !s.data.toList.isEmpty && decide (s.size ≤ 30)) := by unfold Px.isName; rw [hl]
 rw [hP]
 generalize Lx.validN s.data.toList = v at *
 generalize s.data.toList.isEmpty = em at *
 have HX := hd hx
 go_enter Tryz.func57, Tryz.ntmps57
 go_wp2_with fail
 refine HV.out.mono ?_
 rintro e w1 ⟨rfl, rfl⟩
 cases v
 · go_wp2_with fail
   go_ret
   exact ⟨ret_bool (by simp), rfl⟩
 · cases em
   · by_cases h30 : s.size ≤ 30
     · go_wp2_with fail
       go_ret
       exact ⟨ret_bool (by simp [h30]; omega), rfl⟩
     · go_wp2_with fail
       go_ret
       exact ⟨ret_bool (by simp [h30]; omega), rfl⟩
   · go_wp2_with fail
     go_ret
     exact ⟨ret_bool (by simp), rfl⟩
theorem rank_any (k : Int) (w : World) : Calls Tryz.prog 58 #[.int .i64 k] w fun e w' => e = .returned (.int .i64 (Px.rank k : Int)) ∧ w' = w := by
 rcases Px.rank_cases k with ⟨rfl, hr⟩ | ⟨rfl, hr⟩ | ⟨rfl, hr⟩ | ⟨h1, h2, h3, hr⟩
 · rw [hr]
   go_enter Tryz.func58, Tryz.ntmps58
   go_wp2
   go_ret
   exact ⟨rfl, rfl⟩
 · rw [hr]
   go_enter Tryz.func58, Tryz.ntmps58
   go_wp2
   go_ret
   exact ⟨rfl, rfl⟩
 · rw [hr]
   go_enter Tryz.func58, Tryz.ntmps58
   go_wp2
   go_ret
   exact ⟨rfl, rfl⟩
 · rw [hr]
   have b1 : (k == 11) = false := by simpa using h1
   have b2 : (k == 12) = false := by simpa using h2
   have b3 : (k == 13) = false := by simpa using h3
   go_enter Tryz.func58, Tryz.ntmps58
   go_wp2
   go_ret
   exact ⟨rfl, rfl⟩
theorem inside_any (s : ByteArray) (a b : Nat) (w : World) (ha : a ≤ 100) (hb : b ≤ 100) (hs : s.size ≤ 1000000000) : Calls Tryz.prog 167 #[.string s, .int .i64 (a : Int), .int .i64 (b : Int)] w fun e w' => (∃ t, e = .returned (.string t) ∧ t.data.toList = Px.brk s.data.toList a b) ∧ w' = w := by
 by_cases h : a < b
 · have h' : (a : Int) < (b : Int) := by omega
   have s1 : (⟨#[40]⟩ ++ s : ByteArray).size ≤ 1000000001 := by rw [ByteArray.size_append]; show 1 + s.size ≤ _; omega
   go_enter Tryz.func167, Tryz.ntmps167
   go_wp2
   go_ret
   refine ⟨⟨_, rfl, ?_⟩, rfl⟩
   unfold Px.brk
   rw [if_pos h]
   simp
 · have h' : (b : Int) ≤ (a : Int) := by omega
   go_enter Tryz.func167, Tryz.ntmps167
   go_wp2
   go_ret
   refine ⟨⟨_, rfl, ?_⟩, rfl⟩
   unfold Px.brk
   rw [if_neg h]
end Rf
structure Quo (s : ByteArray) (k : Nat) (m : UInt8) (j : Nat) (acc : Lx.Bs) : Prop where
 at_ : BetwAt m (s.data.toList.drop (k + 1)) (j - (k + 1)) acc
 ge : k + 1 ≤ j
 ok : ∀ x, Lx.validN (acc ++ x) = Lx.validN x
namespace Rf
theorem fits_any (top k : Int) (w : World) : Calls Tryz.prog 59 #[.int .i64 top, .int .i64 k] w fun e w' => e = .returned (.bool (Px.fits top k)) ∧ w' = w := by
 have HE := hd (expression_any k w)
 generalize hx : Px.isExpr k = x at HE
 have HX := hd hx
 clear hx
 go_enter Tryz.func59, Tryz.ntmps59
 go_wp2_with fail
 refine HE.out.mono ?_
 rintro e w1 ⟨rfl, rfl⟩
 by_cases h1 : top = 1
 · subst h1
   go_wp2_with fail
   go_ret
   exact ⟨ret_bool (by rw [Bool.eq_iff_iff]; simp [Px.fits]), rfl⟩
 have b1 : (top == 1) = false := by simpa using h1
 by_cases h4 : top = 4
 · subst h4
   go_wp2_with fail
   go_ret
   exact ⟨ret_bool (by rw [Bool.eq_iff_iff]; simp [Px.fits]), rfl⟩
 have b4 : (top == 4) = false := by simpa using h4
 by_cases h6 : top = 6
 · subst h6
   go_wp2_with fail
   go_ret
   exact ⟨ret_bool (by rw [Bool.eq_iff_iff]; simp [Px.fits]), rfl⟩
 have b6 : (top == 6) = false := by simpa using h6
 by_cases h7 : top = 7
 · subst h7
   go_wp2_with fail
   all_goals
    go_ret
    exact ⟨ret_bool (by rw [Bool.eq_iff_iff]; simp_all [Px.fits]), rfl⟩
 have b7 : (top == 7) = false := by simpa using h7
 by_cases h9 : top = 9
 · subst h9
   cases x
   all_goals
    go_wp2_with fail
    all_goals
     go_ret
     have := HX.out
     exact ⟨ret_bool (by rw [Bool.eq_iff_iff]; simp_all [Px.fits]), rfl⟩
 · have b9 : (top == 9) = false := by simpa using h9
   go_wp2_with fail
   go_ret
   exact ⟨ret_bool (by simp [Px.fits, h1, h4, h6, h7, h9]), rfl⟩
theorem dbl_flat (m : UInt8) (l : Lx.Bs) (k : Nat) (h : k < l.length) : (l.take (k + 1)).flatMap (fun b => if b = m then [b, b] else [b]) = (l.take k).flatMap (fun b => if b = m then [b, b] else [b]) ++ (if l[k] = m then [l[k], l[k]] else [l[k]]) := by
 rw [List.take_succ_eq_append_getElem h, List.flatMap_append]
 simp
theorem app_l (a b : ByteArray) : (a ++ b).data.toList = a.data.toList ++ b.data.toList := by simp
theorem one_ext (s : ByteArray) (k : Nat) (h : k < s.size) : (s.extract k (k + 1)).data.toList = [s[k]] := by
 rw [← Lib.toList_data, Lib.extract_toList, drop_at s k h]
 simp
theorem doubled_any (s : ByteArray) (m : UInt8) (w : World) (hs : s.size ≤ 100000000) : Calls Tryz.prog 110 #[.string s, .string ⟨#[m]⟩] w fun e w' => (∃ t, e = .returned (.string t) ∧ t.data.toList = Px.dbl m s.data.toList) ∧ w' = w := by
 have hms : (⟨#[m]⟩ : ByteArray).size = 1 := rfl
 have hml : (⟨#[m]⟩ : ByteArray).data.toList = [m] := rfl
 have hmt : (⟨#[m]⟩ : ByteArray).toList = [m] := by rw [Lib.toList_data]
 generalize hmb : (⟨#[m]⟩ : ByteArray) = mb at *
 go_enter Tryz.func110, Tryz.ntmps110
 go_wp2
 go_loop [5, 6] (fun t i => ∃ (k : Nat) (tb : ByteArray), k ≤ s.size ∧ i = .int .i64 k ∧ t = .string tb ∧ tb.size ≤ 2 * k + 1 ∧ Hid (tb.data.toList = m :: (s.data.toList.take k).flatMap (fun b => if b = m then [b, b] else [b]))) (fun _ i => s.size - (intOf i).toNat)
 case atStart => exact ⟨0, mb, by omega, rfl, rfl, by omega, by show _ = _; rw [hml]; simp⟩
 case round =>
  obtain ⟨k, tb, hk, rfl, rfl, htb, HT⟩ := hrel
  by_cases hlt : k < s.size
  · have z1 : (0 : Int) ≤ (k : Int) := by omega
    have hx := one_ext s k hlt
    have hxs : (s.extract k (k + 1)).size = 1 := by simp; omega
    have HD := hd (dbl_flat m s.data.toList k (by simpa using hlt))
    have hxt : (s.extract k (k + 1)).toList = [s[k]] := by rw [Lib.toList_data]; exact hx
    have hcat : (tb ++ s.extract k (k + 1)).size ≤ 2 * k + 2 := by rw [ByteArray.size_append]; omega
    have hsk : s.data.toList[k]'(by simpa using hlt) = s[k] := rfl
    by_cases hm : s[k] = m
    · have hcmp : (s[k] == m) = true := by simpa using hm
      go_wp2
      go_round
      case rel => exact ⟨k + 1, _, by omega, by go_num, rfl, by rw [ByteArray.size_append]; omega, by show _ = _; rw [HD.out, hsk, if_pos hm, app_l, app_l, hx, hml, HT.out]; simp [hm]⟩
      case measure => simp [intOf]; omega
    · have hcmp : (s[k] == m) = false := by simpa using hm
      go_wp2
      go_round
      case rel => exact ⟨k + 1, _, by omega, by go_num, rfl, by omega, by show _ = _; rw [HD.out, hsk, if_neg hm, app_l, hx, HT.out]; simp⟩
      case measure => simp [intOf]; omega
  · go_wp2
    go_ret
    refine ⟨⟨_, rfl, ?_⟩, rfl⟩
    have hkk : k = s.size := by omega
    have := HT.out
    rw [hkk, List.take_of_length_le (by simp)] at this
    simp only [Px.dbl]
    simp [this, hml]
end Rf
namespace Rf
theorem conv_one (w : World) (g : Nat) (hg : g = w.heap.size) (x : Int) :
   (convert 73 9 (.slice (some ⟨g, 0, none⟩) 1 1)).run Tryz.prog (w.alloc (.cells #[.int .u8 x] 5)) = .ok (.string ⟨#[UInt8.ofNat x.toNat]⟩) (w.alloc (.cells #[.int .u8 x] 5)) := by
 subst hg
 refine (run_convert_bytes_arg (P := Tryz.prog) (w.alloc (.cells #[.int .u8 x] 5)) 73 5 Tryz.underlying73 Tryz.underlying5 w.heap.size 0 1 1 [x] rfl ?_ 9 Tryz.underlying9).trans ?_
 · intro i hi
   have h0 : i = 0 := by omega
   subst h0
   exact (Blk.new w #[.int .u8 x] 5).cell 0
 · rfl
theorem dec_step (n : Nat) (h : 10 ≤ n) (hn : n ≤ 9223372036854775808) : Px.decF 20 n = Px.decF 20 (n / 10) ++ [(48 + n % 10).toUInt8] := by
 have h1 : Px.decF 19 (n / 10) = Px.decF 20 (n / 10) := by
  rw [decF_lib 18 (n / 10) (by omega), decF_lib 19 (n / 10) (by omega)]
 show (if n < 10 then _ else Px.decF 19 (n / 10) ++ _) = _
 rw [if_neg (by omega), h1]
theorem dec_one (n : Nat) (h : n < 10) : Px.decF 20 n = [(48 + n % 10).toUInt8] := by
 show (if n < 10 then [(48 + n).toUInt8] else _) = _
 rw [if_pos h, Nat.mod_eq_of_lt h]
theorem digit_byte (n : Nat) : (⟨#[UInt8.ofNat ((48 : Int) + (n : Int) % 10).toNat]⟩ : ByteArray).data.toList = [(48 + n % 10).toUInt8] := by
 have : ((48 : Int) + (n : Int) % 10).toNat = 48 + n % 10 := by omega
 rw [this]
def DecOut (w : World) (z : Int) (e : Ending) (w' : World) : Prop := ∃ t : ByteArray, e = .returned (.string t) ∧ t.data.toList = Px.dec z ∧ t.size ≤ 30 ∧ Below w.heap.size w w'
theorem decimal_any : ∀ (f : Nat) (z : Int) (w : World), f ≤ 19 → z.natAbs < 10 ^ f → 1 ≤ f → z.natAbs ≤ 9223372036854775808 → z ≤ 9223372036854775807 → Calls Tryz.prog 103 #[.int .i64 z] w (DecOut w z) := by
 intro f
 induction f with
 | zero => intro z w _ _ h; omega
 | succ f ih =>
  intro z w hf hz _ hb hb2
  have HIH := hd ih
  clear ih
  obtain ⟨n, hn⟩ : ∃ n, z.natAbs = n := ⟨_, rfl⟩
  have hr10 : n % 10 < 10 := Nat.mod_lt _ (by omega)
  by_cases h0 : z < 0
  · have hzn : z = -(n : Int) := by omega
    have hm : Int.tmod z 10 = -((n % 10 : Nat) : Int) := by rw [hzn, Int.neg_tmod]; rfl
    have hq : Int.tdiv z 10 = -((n / 10 : Nat) : Int) := by rw [hzn, Int.neg_tdiv]; rfl
    have HB0 : Hid (Below w.heap.size w (w.alloc (.cells #[.int .u8 ((48 : Int) + (n : Int) % 10)] 5))) := by show Below _ _ _; go_grown
    have hsz0 := HB0.out.size
    obtain ⟨db, hdef⟩ : ∃ db : ByteArray, db = ⟨#[UInt8.ofNat ((48 : Int) + (n : Int) % 10).toNat]⟩ := ⟨_, rfl⟩
    have hdb : Hid (db.data.toList = [(48 + n % 10).toUInt8]) := by rw [hdef]; exact digit_byte n
    have hds' : Hid (db.size = 1) := by rw [hdef]; rfl
    have HDEF := hd hdef
    clear hdef
    have HZ := hd hzn
    go_enter Tryz.func103, Tryz.ntmps103
    go_wp2_with fail
    rw [conv_one _ _ (by simp)]
    rw [← HDEF.out]
    generalize w.alloc (.cells #[.int .u8 ((48 : Int) + (n : Int) % 10)] 5) = w1 at *
    have hds : db.size = 1 := hds'.out
    by_cases h10 : n < 10
    · have e0 : (n : Int) / 10 = 0 := by omega
      go_wp2_with fail
      go_ret
      refine ⟨_, rfl, ?_, ?_, HB0.out⟩
      · rw [app_l, hdb.out, HZ.out]
        unfold Px.dec
        rw [if_pos (by omega), show (-(n : Int)).natAbs = n by omega, dec_one n h10]
        rfl
      · rw [ByteArray.size_append, hds]; decide
    · have e0 : (-((n : Int) / 10) == 0) = false := by rw [beq_eq_false_iff_ne]; omega
      have hf1 : 1 ≤ f := by
       rcases Nat.eq_zero_or_pos f with rfl | h
       · simp at hz; omega
       · exact h
      have hpw : 10 ^ (f + 1) = 10 ^ f * 10 := Nat.pow_succ ..
      go_wp2_with fail
      refine (HIH.out (-((n : Int) / 10)) w1 (by omega) (by omega) hf1 (by omega) (by omega)).mono ?_
      rintro e w2 ⟨t, rfl, ht, hts, hb⟩
      have HB2 : Hid (Below w.heap.size w w2) := HB0.out.trans (hb.mono hsz0)
      have HT := hd ht
      clear hb ht
      go_wp2_with fail
      go_ret
      have hdec : Px.dec (-(n : Int)) = Px.dec (-((n : Int) / 10)) ++ [(48 + n % 10).toUInt8] := by
       unfold Px.dec
       rw [if_pos (by omega), if_pos (by omega), show (-(n : Int)).natAbs = n by omega, show (-((n : Int) / 10)).natAbs = n / 10 by omega, dec_step n (by omega) (by omega)]
       rfl
      have hlen : (Px.dec (-(n : Int))).length ≤ 30 := by
       unfold Px.dec
       rw [if_pos (by omega), show (-(n : Int)).natAbs = n by omega]
       have := Px.decF_len 20 n 19 (by omega) (by omega)
       simp only [List.length_cons]
       omega
      refine ⟨_, rfl, ?_, ?_, HB2.out⟩
      · rw [app_l, hdb.out, HT.out, HZ.out, hdec]
      · have e1 : (t ++ db).size = (t ++ db).data.toList.length := by simp
        rw [e1, app_l, hdb.out, HT.out, ← hdec]
        exact hlen
  · have hzn : z = (n : Int) := by omega
    subst hzn
    have hm : Int.tmod (n : Int) 10 = ((n % 10 : Nat) : Int) := rfl
    have hq : Int.tdiv (n : Int) 10 = ((n / 10 : Nat) : Int) := rfl
    have HB0 : Hid (Below w.heap.size w (w.alloc (.cells #[.int .u8 ((48 : Int) + (n : Int) % 10)] 5))) := by show Below _ _ _; go_grown
    have hsz0 := HB0.out.size
    obtain ⟨db, hdef⟩ : ∃ db : ByteArray, db = ⟨#[UInt8.ofNat ((48 : Int) + (n : Int) % 10).toNat]⟩ := ⟨_, rfl⟩
    have hdb : Hid (db.data.toList = [(48 + n % 10).toUInt8]) := by rw [hdef]; exact digit_byte n
    have hds' : Hid (db.size = 1) := by rw [hdef]; rfl
    have HDEF := hd hdef
    clear hdef
    go_enter Tryz.func103, Tryz.ntmps103
    go_wp2_with fail
    rw [conv_one _ _ (by simp)]
    rw [← HDEF.out]
    generalize w.alloc (.cells #[.int .u8 ((48 : Int) + (n : Int) % 10)] 5) = w1 at *
    have hds : db.size = 1 := hds'.out
    by_cases h10 : n < 10
    · have e0 : (n : Int) < 10 := by omega
      go_wp2_with fail
      go_ret
      refine ⟨_, rfl, ?_, by omega, HB0.out⟩
      rw [hdb.out]
      unfold Px.dec
      rw [if_neg (by omega), show (n : Int).natAbs = n by omega, dec_one n h10]
    · have e0 : (10 : Int) ≤ (n : Int) := by omega
      have hf1 : 1 ≤ f := by
       rcases Nat.eq_zero_or_pos f with rfl | h
       · simp at hz; omega
       · exact h
      have hpw : 10 ^ (f + 1) = 10 ^ f * 10 := Nat.pow_succ ..
      go_wp2_with fail
      refine (HIH.out ((n : Int) / 10) w1 (by omega) (by omega) hf1 (by omega) (by omega)).mono ?_
      rintro e w2 ⟨t, rfl, ht, hts, hb⟩
      have HB2 : Hid (Below w.heap.size w w2) := HB0.out.trans (hb.mono hsz0)
      have HT := hd ht
      clear hb ht
      go_wp2_with fail
      go_ret
      have hdec : Px.dec (n : Int) = Px.dec ((n : Int) / 10) ++ [(48 + n % 10).toUInt8] := by
       unfold Px.dec
       rw [if_neg (by omega), if_neg (by omega), show (n : Int).natAbs = n by omega, show ((n : Int) / 10).natAbs = n / 10 by omega, dec_step n (by omega) (by omega)]
      have hlen : (Px.dec (n : Int)).length ≤ 30 := by
       unfold Px.dec
       rw [if_neg (by omega), show (n : Int).natAbs = n by omega]
       have := Px.decF_len 20 n 19 (by omega) (by omega)
       omega
      refine ⟨_, rfl, ?_, ?_, HB2.out⟩
      · rw [app_l, hdb.out, HT.out, hdec]
      · have e1 : (t ++ db).size = (t ++ db).data.toList.length := by simp
        rw [e1, app_l, hdb.out, HT.out, ← hdec]
        exact hlen
end Rf
namespace Rf
def TxOut (w : World) (b : Lx.Bs) (e : Ending) (w' : World) : Prop := ∃ t : ByteArray, e = .returned (.string t) ∧ t.data.toList = b ∧ Below w.heap.size w w'
theorem low_is (s : ByteArray) (h0 : 0 < s.size) : Px.lowWord s.data.toList = (Lx.isLet s[0] && decide (Lx.cnt Lx.isWd s.data.toList = s.size) && !Lx.hasB Lx.keys (s.data.toList.map Lx.upB) && (s.data.toList.map Lx.lowB == s.data.toList)) := by
 have hd := drop_at s 0 h0
 rw [List.drop_zero] at hd
 have hl : s.data.toList.length = s.size := by simp
 unfold Px.lowWord
 rw [hl]
 conv => lhs; arg 1; arg 1; arg 1; rw [hd]
theorem nameText_any (s : ByteArray) (w : World) (h0 : 0 < s.size) (hs : s.size ≤ 30) : Calls Tryz.prog 63 #[.string s] w (TxOut w (Px.nameT s.data.toList)) := by
 have hsm : s.size ≤ maxLen := by unfold maxLen; omega
 have hr := run_any s 0 true
 have HL := hd (low_is s h0)
 have HD := hd (doubled_any s 34)
 have hlen : s.data.toList.length = s.size := by simp
 have hcl := Lx.cnt_le Lx.isWd s.data.toList
 go_enter Tryz.func63, Tryz.ntmps63
 go_wp2_with fail
 refine (letter_any s[0] w).mono ?_
 rintro e w1 ⟨rfl, rfl⟩
 go_wp2_with fail
 refine (run_any s 0 true w1 hsm (by omega)).mono ?_
 rintro e w2 ⟨rfl, rfl⟩
 simp only [if_true, List.drop_zero, Nat.zero_add]
 go_wp2_with fail
 refine (upper_any s w2 (by omega)).mono ?_
 rintro e w3 ⟨up, rfl, hup, hb3⟩
 have HUP := hd hup
 have HB3 := hd hb3
 have hsz3 := hb3.size
 clear hup hb3
 go_wp2_with fail
 refine (keywords_any _).mono ?_
 rintro e w4 ⟨rfl, rfl⟩
 go_wp2_with fail
 refine (In_any up _ 27 Lx.keys _ (by decide) (strRow_cell _ _ _)).mono ?_
 rintro e w5 ⟨rfl, rfl⟩
 have HB5 : Hid (Below w2.heap.size w2 (w3.alloc (.cells (strRow Lx.keys) 9))) := HB3.out.alloc hsz3 _
 have hsz5 := HB5.out.size
 generalize w3.alloc (.cells (strRow Lx.keys) 9) = w6 at *
 go_wp2_with fail
 refine (lower_any s w6 (by omega)).mono ?_
 rintro e w7 ⟨lo, rfl, hlo, hb7⟩
 have HB7 : Hid (Below w2.heap.size w2 w7) := HB5.out.trans (hb7.mono hsz5)
 have hsz7 := HB7.out.size
 have hcmp : (lo.toList == s.toList) = (s.data.toList.map Lx.lowB == s.data.toList) := by rw [Lib.toList_data, Lib.toList_data, hlo]
 have HLO := hd hlo
 rw [HUP.out]
 clear hlo hb7
 have HN : Hid (Px.nameT s.data.toList = if Px.lowWord s.data.toList = true then s.data.toList else Px.dbl 34 s.data.toList) := rfl
 rw [HL.out] at HN
 have hcs : ((Lx.cnt Lx.isWd s.data.toList : Nat) : Int) ≤ 30 := by omega
 generalize Lx.hasB Lx.keys (s.data.toList.map Lx.upB) = bk at *
 generalize (s.data.toList.map Lx.lowB == s.data.toList) = bl at *
 generalize Lx.cnt Lx.isWd s.data.toList = cn at *
 generalize Lx.isLet s[0] = bf at *
 have HCM := hd hcmp
 cases bf
 · go_wp2_with fail
   refine (HD.out w7 (by omega)).mono ?_
   rintro e w8 ⟨⟨t, rfl, ht⟩, rfl⟩
   have HT := hd ht
   go_wp2_with fail
   go_ret
   exact ⟨t, rfl, by rw [HT.out, HN.out]; simp, HB7.out⟩
 by_cases hc : cn = s.size
 rotate_left
 · have hcb : ((cn : Int) == (s.size : Int)) = false := by rw [beq_eq_false_iff_ne]; omega
   go_wp2_with fail
   refine (HD.out w7 (by omega)).mono ?_
   rintro e w8 ⟨⟨t, rfl, ht⟩, rfl⟩
   have HT := hd ht
   go_wp2_with fail
   go_ret
   exact ⟨t, rfl, by rw [HT.out, HN.out]; simp [hc], HB7.out⟩
 have HC := hd hc
 subst hc
 cases bk
 rotate_left
 · go_wp2_with fail
   refine (HD.out w7 (by omega)).mono ?_
   rintro e w8 ⟨⟨t, rfl, ht⟩, rfl⟩
   have HT := hd ht
   go_wp2_with fail
   go_ret
   exact ⟨t, rfl, by rw [HT.out, HN.out]; simp, HB7.out⟩
 cases bl
 · go_wp2_with fail
   refine (HD.out w7 (by omega)).mono ?_
   rintro e w8 ⟨⟨t, rfl, ht⟩, rfl⟩
   have HT := hd ht
   go_wp2_with fail
   go_ret
   exact ⟨t, rfl, by rw [HT.out, HN.out]; simp, HB7.out⟩
 · go_wp2_with fail
   go_ret
   exact ⟨s, rfl, by rw [HN.out]; simp, HB7.out⟩
end Rf
end Go.Proofs.YtkcakbgcfnhgaaaGreatDoor
