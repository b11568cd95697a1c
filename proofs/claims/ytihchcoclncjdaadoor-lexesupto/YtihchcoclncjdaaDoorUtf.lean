/- How the machine's own decoding of UTF-8 stands to the document's characters: plain arithmetic. -/
import Derived.Test.YtihchcoclncjdaaDoorBas
import Derived.Lib.Strings
import Derived.Lib.DecodeN
import Derived.Lib.RuneBytes
namespace Go.Proofs.YtihchcoclncjdaaDoor
open Go.RowKit
set_option linter.unusedSimpArgs false
set_option linter.unusedVariables false

theorem folB_get (s : ByteArray) (k lo hi : Nat) : Lx.folB s.data.toList k lo hi = decide (k < s.size ∧ lo ≤ (s.get! k).toNat ∧ (s.get! k).toNat ≤ hi) := by
  unfold Lx.folB
  by_cases h : k < s.size
  · rw [List.getElem?_eq_getElem (by simpa using h)]
    have e : s.get! k = s[k] := by
      simp [ByteArray.get!, getElem!_pos, h]
      rfl
    rw [e]
    simp [h]
    rfl
  · rw [List.getElem?_eq_none (by simpa using h)]
    simp [h]

theorem get_here (s : ByteArray) (k : Nat) (h : k < s.size) : s.get! k = s[k] := by
  simp [ByteArray.get!, getElem!_pos, h]
  rfl

/-- The class of a character by its bytes. -/
def clsN (n b0 b1 b2 b3 : Nat) : Nat :=
  if b0 < 128 then 1
  else if (194 ≤ b0 ∧ b0 ≤ 223) ∧ (1 < n ∧ 128 ≤ b1 ∧ b1 ≤ 191) then 2
  else if (224 ≤ b0 ∧ b0 ≤ 239) ∧ (1 < n ∧ Lx.loOf b0 ≤ b1 ∧ b1 ≤ Lx.hiOf b0) ∧ (2 < n ∧ 128 ≤ b2 ∧ b2 ≤ 191) then 3
  else if (240 ≤ b0 ∧ b0 ≤ 244) ∧ (1 < n ∧ Lx.loOf b0 ≤ b1 ∧ b1 ≤ Lx.hiOf b0) ∧ (2 < n ∧ 128 ≤ b2 ∧ b2 ≤ 191) ∧ (3 < n ∧ 128 ≤ b3 ∧ b3 ≤ 191) then 4
  else 0

theorem charN_cls (s : ByteArray) (i : Nat) (h : i < s.size) : Lx.charN (s.data.toList.drop i) = clsN (s.size - i) (s.get! i).toNat (s.get! (i + 1)).toNat (s.get! (i + 2)).toNat (s.get! (i + 3)).toNat := by
  rw [charN_at s i h, get_here s i h]
  unfold charB clsN
  simp only [folB_get, decide_eq_true_eq]
  have c1 : (i + 1 < s.size) = (1 < s.size - i) := propext ⟨fun h => by omega, fun h => by omega⟩
  have c2 : (i + 2 < s.size) = (2 < s.size - i) := propext ⟨fun h => by omega, fun h => by omega⟩
  have c3 : (i + 3 < s.size) = (3 < s.size - i) := propext ⟨fun h => by omega, fun h => by omega⟩
  simp only [c1, c2, c3]

theorem cls_bad (n b0 b1 b2 b3 : Nat) (h0 : b0 < 256) (h1 : b1 < 256) (h2 : b2 < 256) (h3 : b3 < 256) (h : clsN n b0 b1 b2 b3 = 0) : Lib.decodeN n b0 b1 b2 b3 = (65533, 1) ∧ 128 ≤ b0 := by
  unfold clsN Lx.loOf Lx.hiOf at h
  unfold Lib.decodeN
  repeat' split at h
  all_goals (try (exfalso; omega))
  all_goals
    refine ⟨?_, by omega⟩
    repeat' split
    all_goals first | rfl | (exfalso; omega)

theorem cls_one (n b0 b1 b2 b3 : Nat) (h : clsN n b0 b1 b2 b3 = 1) : b0 < 128 ∧ Lib.decodeN n b0 b1 b2 b3 = (b0, 1) := by
  unfold clsN at h
  repeat' split at h
  all_goals (try (exfalso; omega))
  rename_i hb
  exact ⟨hb, by simp [Lib.decodeN, hb]⟩

theorem cls_two (n b0 b1 b2 b3 : Nat) (h : clsN n b0 b1 b2 b3 = 2) : (194 ≤ b0 ∧ b0 ≤ 223) ∧ (1 < n ∧ 128 ≤ b1 ∧ b1 ≤ 191) ∧ Lib.decodeN n b0 b1 b2 b3 = (b0 % 32 * 64 + b1 % 64, 2) := by
  unfold clsN at h
  repeat' split at h
  all_goals (try (exfalso; omega))
  rename_i hb
  refine ⟨hb.1, hb.2, ?_⟩
  unfold Lib.decodeN
  rw [if_neg (by omega), if_pos (by omega), if_pos (by omega)]

theorem cls_three (n b0 b1 b2 b3 : Nat) (h : clsN n b0 b1 b2 b3 = 3) : (224 ≤ b0 ∧ b0 ≤ 239) ∧ (1 < n ∧ Lx.loOf b0 ≤ b1 ∧ b1 ≤ Lx.hiOf b0) ∧ (2 < n ∧ 128 ≤ b2 ∧ b2 ≤ 191) ∧ Lib.decodeN n b0 b1 b2 b3 = (b0 % 16 * 4096 + b1 % 64 * 64 + b2 % 64, 3) := by
  unfold clsN at h
  repeat' split at h
  all_goals (try (exfalso; omega))
  rename_i hb
  refine ⟨hb.1, hb.2.1, hb.2.2, ?_⟩
  have hl := hb.2.1
  unfold Lx.loOf Lx.hiOf at hl
  unfold Lib.decodeN
  repeat' split at hl
  all_goals rw [if_neg (by omega), if_neg (by omega), if_pos (by omega), if_pos (by omega)]

theorem cls_four (n b0 b1 b2 b3 : Nat) (h : clsN n b0 b1 b2 b3 = 4) : (240 ≤ b0 ∧ b0 ≤ 244) ∧ (1 < n ∧ Lx.loOf b0 ≤ b1 ∧ b1 ≤ Lx.hiOf b0) ∧ (2 < n ∧ 128 ≤ b2 ∧ b2 ≤ 191) ∧ (3 < n ∧ 128 ≤ b3 ∧ b3 ≤ 191) ∧ Lib.decodeN n b0 b1 b2 b3 = (b0 % 8 * 262144 + b1 % 64 * 4096 + b2 % 64 * 64 + b3 % 64, 4) := by
  unfold clsN at h
  repeat' split at h
  all_goals (try (exfalso; omega))
  rename_i hb
  refine ⟨hb.1, hb.2.1, hb.2.2.1, hb.2.2.2, ?_⟩
  have hl := hb.2.1
  unfold Lx.loOf Lx.hiOf at hl
  unfold Lib.decodeN
  repeat' split at hl
  all_goals rw [if_neg (by omega), if_neg (by omega), if_neg (by omega), if_pos (by omega), if_pos (by omega)]

theorem byte_back (b : UInt8) (x : Int) (h : x = (b.toNat : Int)) : x.toNat.toUInt8 = b := by
  subst h
  simp

/-- A byte that begins no valid character is decoded as the error, one byte wide. -/
theorem dec_bad (s : ByteArray) (i : Nat) (h : i < s.size) (hc : Lx.charN (s.data.toList.drop i) = 0) : Utf8.decode s i = (65533, 1) ∧ 128 ≤ s[i].toNat := by
  rw [charN_cls s i h] at hc
  have := cls_bad _ _ _ _ _ (UInt8.toNat_lt _) (UInt8.toNat_lt _) (UInt8.toNat_lt _) (UInt8.toNat_lt _) hc
  rw [get_here s i h] at this
  rw [Lib.decode_at, get_here s i h]
  exact this

theorem drop_take (s : ByteArray) (i n : Nat) (h : i + n ≤ s.size) (l : Lx.Bs) (hl : l.length = n) (hg : ∀ k, k < n → l[k]? = some (s.get! (i + k))) : (s.data.toList.drop i).take n = l := by
  apply List.ext_getElem?
  intro k
  by_cases hk : k < n
  · rw [List.getElem?_take_of_lt hk, List.getElem?_drop, hg k hk, get_here s (i + k) (by omega), List.getElem?_eq_getElem (by simp; have : s.data.size = s.size := rfl; omega)]
    rfl
  · rw [List.getElem?_eq_none (by simp; omega), List.getElem?_eq_none (by omega)]

/-- A valid character is decoded as a rune whose bytes are just those. -/
theorem dec_good (s : ByteArray) (i : Nat) (h : i < s.size) (hc : Lx.charN (s.data.toList.drop i) ≠ 0) :
    (Utf8.decode s i).2 = Lx.charN (s.data.toList.drop i) ∧ Lib.encodeRune ((Utf8.decode s i).1 : Int) = (s.data.toList.drop i).take (Lx.charN (s.data.toList.drop i)) ∧
      ((Lx.charN (s.data.toList.drop i) = 1 ∧ (Utf8.decode s i).1 = s[i].toNat ∧ s[i].toNat < 128) ∨ (1 < Lx.charN (s.data.toList.drop i) ∧ 128 ≤ (Utf8.decode s i).1 ∧ 128 ≤ s[i].toNat)) := by
  have hle := Lx.charN_le (s.data.toList.drop i)
  rw [List.length_drop, show s.data.toList.length = s.size from by simp] at hle
  have hcls := charN_cls s i h
  rw [Lib.decode_at]
  rw [get_here s i h] at hcls ⊢
  have B0 := s[i].toNat_lt
  have hcase : Lx.charN (s.data.toList.drop i) = 1 ∨ Lx.charN (s.data.toList.drop i) = 2 ∨ Lx.charN (s.data.toList.drop i) = 3 ∨ Lx.charN (s.data.toList.drop i) = 4 := by
    have : ∀ n b0 b1 b2 b3, clsN n b0 b1 b2 b3 = 0 ∨ clsN n b0 b1 b2 b3 = 1 ∨ clsN n b0 b1 b2 b3 = 2 ∨ clsN n b0 b1 b2 b3 = 3 ∨ clsN n b0 b1 b2 b3 = 4 := by
      intro n b0 b1 b2 b3
      unfold clsN
      repeat' split
      all_goals omega
    have := this (s.size - i) s[i].toNat (s.get! (i + 1)).toNat (s.get! (i + 2)).toNat (s.get! (i + 3)).toNat
    rw [← hcls] at this
    omega
  rcases hcase with e | e | e | e
  · rw [e] at hcls hle ⊢
    obtain ⟨q, d⟩ := cls_one _ _ _ _ _ hcls.symm
    rw [d]
    refine ⟨rfl, ?_, .inl ⟨rfl, rfl, q⟩⟩
    rw [drop_take s i 1 (by omega) [s.get! i] rfl (by intro k hk; have : k = 0 := by omega
                                                      subst this; rfl)]
    unfold Lib.encodeRune
    rw [Lib.encodeRuneZ_one (by omega) (by simp; omega)]
    simp only [List.map_cons, List.map_nil]
    rw [byte_back s[i] _ rfl, get_here s i h]
  · rw [e] at hcls hle ⊢
    obtain ⟨q, q1, d⟩ := cls_two _ _ _ _ _ hcls.symm
    rw [d]
    refine ⟨rfl, ?_, .inr ⟨by omega, by simp only; omega, by omega⟩⟩
    rw [drop_take s i 2 (by omega) [s.get! i, s.get! (i + 1)] rfl (by intro k hk; have : k = 0 ∨ k = 1 := by omega
                                                                      rcases this with rfl | rfl <;> rfl)]
    unfold Lib.encodeRune
    rw [Lib.encodeRuneZ_two (by simp only; omega) (by simp only; omega)]
    simp only [List.map_cons, List.map_nil]
    rw [byte_back s[i] _ (by omega), byte_back (s.get! (i + 1)) _ (by omega), get_here s i h]
  · rw [e] at hcls hle ⊢
    obtain ⟨q, q1, q2, d⟩ := cls_three _ _ _ _ _ hcls.symm
    unfold Lx.loOf Lx.hiOf at q1
    have B1 := (s.get! (i + 1)).toNat_lt
    have hr : ((2048 : Int) ≤ ((s[i].toNat % 16 * 4096 + (s.get! (i + 1)).toNat % 64 * 64 + (s.get! (i + 2)).toNat % 64 : Nat) : Int) ∧ ((s[i].toNat % 16 * 4096 + (s.get! (i + 1)).toNat % 64 * 64 + (s.get! (i + 2)).toNat % 64 : Nat) : Int) < 55296) ∨ ((57343 : Int) < ((s[i].toNat % 16 * 4096 + (s.get! (i + 1)).toNat % 64 * 64 + (s.get! (i + 2)).toNat % 64 : Nat) : Int) ∧ ((s[i].toNat % 16 * 4096 + (s.get! (i + 1)).toNat % 64 * 64 + (s.get! (i + 2)).toNat % 64 : Nat) : Int) ≤ 65535) := by
      repeat' split at q1
      all_goals omega
    have hb1 : 128 ≤ (s.get! (i + 1)).toNat ∧ (s.get! (i + 1)).toNat ≤ 191 := by
      repeat' split at q1
      all_goals omega
    rw [d]
    refine ⟨rfl, ?_, .inr ⟨by omega, by simp only; omega, by omega⟩⟩
    rw [drop_take s i 3 (by omega) [s.get! i, s.get! (i + 1), s.get! (i + 2)] rfl (by intro k hk; have : k = 0 ∨ k = 1 ∨ k = 2 := by omega
                                                                                      rcases this with rfl | rfl | rfl <;> rfl)]
    unfold Lib.encodeRune
    rw [Lib.encodeRuneZ_three hr]
    simp only [List.map_cons, List.map_nil]
    rw [byte_back s[i] _ (by omega), byte_back (s.get! (i + 1)) _ (by omega), byte_back (s.get! (i + 2)) _ (by omega), get_here s i h]
  · rw [e] at hcls hle ⊢
    obtain ⟨q, q1, q2, q3, d⟩ := cls_four _ _ _ _ _ hcls.symm
    unfold Lx.loOf Lx.hiOf at q1
    have B1 := (s.get! (i + 1)).toNat_lt
    have hb1 : 128 ≤ (s.get! (i + 1)).toNat ∧ (s.get! (i + 1)).toNat ≤ 191 := by
      repeat' split at q1
      all_goals omega
    have hr : (65536 : Int) ≤ ((s[i].toNat % 8 * 262144 + (s.get! (i + 1)).toNat % 64 * 4096 + (s.get! (i + 2)).toNat % 64 * 64 + (s.get! (i + 3)).toNat % 64 : Nat) : Int) ∧ ((s[i].toNat % 8 * 262144 + (s.get! (i + 1)).toNat % 64 * 4096 + (s.get! (i + 2)).toNat % 64 * 64 + (s.get! (i + 3)).toNat % 64 : Nat) : Int) ≤ 1114111 := by
      repeat' split at q1
      all_goals omega
    rw [d]
    refine ⟨rfl, ?_, .inr ⟨by omega, by simp only; omega, by omega⟩⟩
    rw [drop_take s i 4 (by omega) [s.get! i, s.get! (i + 1), s.get! (i + 2), s.get! (i + 3)] rfl (by intro k hk; have : k = 0 ∨ k = 1 ∨ k = 2 ∨ k = 3 := by omega
                                                                                                      rcases this with rfl | rfl | rfl | rfl <;> rfl)]
    unfold Lib.encodeRune
    rw [Lib.encodeRuneZ_four hr.1 hr.2]
    simp only [List.map_cons, List.map_nil]
    rw [byte_back s[i] _ (by omega), byte_back (s.get! (i + 1)) _ (by omega), byte_back (s.get! (i + 2)) _ (by omega), byte_back (s.get! (i + 3)) _ (by omega), get_here s i h]

end Go.Proofs.YtihchcoclncjdaaDoor
