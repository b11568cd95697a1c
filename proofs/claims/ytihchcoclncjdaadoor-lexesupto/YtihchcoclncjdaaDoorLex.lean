/- What a text's tokens are, as plain functions on lists of bytes: no program is named here. -/
import GoSem.Claim
namespace Go.Proofs.YtihchcoclncjdaaDoor
namespace Lx

abbrev Bs := List UInt8

def isDig (b : UInt8) : Bool := decide (48 ≤ b.toNat ∧ b.toNat ≤ 57)
def isLet (b : UInt8) : Bool := decide ((97 ≤ b.toNat ∧ b.toNat ≤ 122) ∨ (65 ≤ b.toNat ∧ b.toNat ≤ 90) ∨ b.toNat = 95)
def isSp (b : UInt8) : Bool := decide (b.toNat = 9 ∨ b.toNat = 10 ∨ b.toNat = 13 ∨ b.toNat = 32)
def isWd (b : UInt8) : Bool := isDig b || isLet b
def notNl (b : UInt8) : Bool := decide (b.toNat ≠ 10)

/-- How many bytes at the head meet a test. -/
def cnt (p : UInt8 → Bool) : Bs → Nat
  | [] => 0
  | b :: r => if p b then cnt p r + 1 else 0

theorem cnt_le (p : UInt8 → Bool) : ∀ l : Bs, cnt p l ≤ l.length
  | [] => by simp [cnt]
  | b :: r => by
    have := cnt_le p r
    unfold cnt; split <;> simp <;> omega

/-- How many bytes of space and comments stand at the head ('true': within a comment). -/
def skipM : Bool → Bs → Nat
  | _, [] => 0
  | true, b :: r => if notNl b then 1 + skipM true r else 1 + skipM false r
  | false, b :: r => if b.toNat = 45 ∧ r.head? = some 45 then 1 + skipM true r else if isSp b then 1 + skipM false r else 0
def skipN (l : Bs) : Nat := skipM false l

def folB (l : Bs) (i lo hi : Nat) : Bool :=
  match l[i]? with
  | some b => decide (lo ≤ b.toNat ∧ b.toNat ≤ hi)
  | none => false

def loOf (b : Nat) : Nat := if b = 224 then 160 else if b = 240 then 144 else 128
def hiOf (b : Nat) : Nat := if b = 237 then 159 else if b = 244 then 143 else 191

/-- How many bytes the character at the head has; 0: there is no valid one. -/
def charN (l : Bs) : Nat :=
  match l with
  | [] => 0
  | b :: _ =>
    if b.toNat < 128 then 1
    else if (194 ≤ b.toNat ∧ b.toNat ≤ 223) ∧ folB l 1 128 191 = true then 2
    else if (224 ≤ b.toNat ∧ b.toNat ≤ 239) ∧ folB l 1 (loOf b.toNat) (hiOf b.toNat) = true ∧ folB l 2 128 191 = true then 3
    else if (240 ≤ b.toNat ∧ b.toNat ≤ 244) ∧ folB l 1 (loOf b.toNat) (hiOf b.toNat) = true ∧ folB l 2 128 191 = true ∧ folB l 3 128 191 = true then 4
    else 0

/-- Valid UTF-8 without the byte 0, behind so many bytes that are passed. -/
def validM : Nat → Bs → Bool
  | _, [] => true
  | n + 1, _ :: r => validM n r
  | 0, b :: r => if charN (b :: r) = 0 ∨ b.toNat = 0 then false else validM (charN (b :: r) - 1) r
def validN (l : Bs) : Bool := validM 0 l

/-- What stands between two marks (its head is behind the first), and how many bytes with the last mark. -/
def betw (m : UInt8) : Bs → Option (Bs × Nat)
  | [] => none
  | [b] => if b = m then some ([], 1) else none
  | b :: c :: r =>
    if b = m then
      if c = m then (betw m r).map (fun x => (m :: x.1, x.2 + 2)) else some ([], 1)
    else (betw m (c :: r)).map (fun x => (b :: x.1, x.2 + 1))

def leastB : Bs → Bs
  | b :: c :: r => if b.toNat = 48 then leastB (c :: r) else b :: c :: r
  | l => l

def top : Bs := [57, 50, 50, 51, 51, 55, 50, 48, 51, 54, 56, 53, 52, 55, 55, 53, 56, 48, 56]

def overTop (t : Bs) : Bool := decide (19 < t.length) || (decide (t.length = 19) && (!Op.bytesLess t top && !(t == top)))

def upB (b : UInt8) : UInt8 := if 97 ≤ b.toNat ∧ b.toNat ≤ 122 then b - 32 else b
def lowB (b : UInt8) : UInt8 := if 65 ≤ b.toNat ∧ b.toNat ≤ 90 then b + 32 else b

def keys : List Bs := [[65, 78, 68], [65, 83, 67], [66, 79, 79, 76, 69, 65, 78], [66, 89], [67, 82, 69, 65, 84, 69], [68, 69, 76, 69, 84, 69], [68, 69, 83, 67], [68, 82, 79, 80], [70, 65, 76, 83, 69], [70, 82, 79, 77], [73, 78, 83, 69, 82, 84], [73, 78, 84, 69, 71, 69, 82], [73, 78, 84, 79], [73, 83], [76, 73, 77, 73, 84], [78, 79, 84], [78, 85, 76, 76], [79, 82], [79, 82, 68, 69, 82], [83, 69, 76, 69, 67, 84], [83, 69, 84], [84, 65, 66, 76, 69], [84, 69, 88, 84], [84, 82, 85, 69], [85, 80, 68, 65, 84, 69], [86, 65, 76, 85, 69, 83], [87, 72, 69, 82, 69]]
def twos : List Bs := [[60, 62], [60, 61], [62, 61], [124, 124]]
def ones : List Bs := [[40], [41], [44], [59], [42], [43], [45], [47], [37], [61], [60], [62]]

/-- Is a text one of a list? -/
def hasB : List Bs → Bs → Bool
  | [], _ => false
  | a :: r, x => a == x || hasB r x

/-- The token at the head of a text that is not empty: its kind, its text, how many bytes; or an error. -/
def oneT (l : Bs) : Except Nat (Nat × Bs × Nat) :=
  match l with
  | [] => .error 2
  | b :: r =>
    if isLet b then
      if hasB keys ((l.take (cnt isWd l)).map upB) then .ok (50, (l.take (cnt isWd l)).map upB, cnt isWd l) else .ok (18, (l.take (cnt isWd l)).map lowB, cnt isWd l)
    else if isDig b then
      if cnt isDig l < cnt isWd l then .error 2
      else if overTop (leastB (l.take (cnt isDig l))) then .error 3
      else .ok (16, leastB (l.take (cnt isDig l)), cnt isDig l)
    else if b.toNat = 39 ∨ b.toNat = 34 then
      match betw b r with
      | none => .error 2
      | some (t, n) =>
        if validN t = false ∨ (b.toNat = 34 ∧ t = []) then .error 2
        else .ok (if b.toNat = 34 then 18 else 17, t, n + 1)
    else if 2 ≤ l.length ∧ hasB twos (l.take 2) = true then .ok (51, l.take 2, 2)
    else if hasB ones (l.take 1) = true then .ok (51, l.take 1, 1)
    else .error 2

structure Tok where
  kind : Nat
  text : Bs
  pos : Nat

theorem cnt_pos {p : UInt8 → Bool} {b : UInt8} {r : Bs} (h : p b = true) : 0 < cnt p (b :: r) := by
  simp [cnt, h]

/-- All tokens, behind so many bytes that are passed; an error: its place and its number. -/
def lexM : Nat → Nat → Bs → Except (Nat × Nat) (List Tok)
  | _, _, [] => .ok []
  | n + 1, pos, _ :: r => lexM n (pos + 1) r
  | 0, pos, b :: r =>
    match oneT (b :: r) with
    | .error e => .error (pos, e)
    | .ok (k, t, n) =>
      match lexM (n + skipN ((b :: r).drop n) - 1) (pos + 1) r with
      | .ok ts => .ok (⟨k, t, pos⟩ :: ts)
      | .error e => .error e

/-- P3 of the document: all tokens of a text. -/
def lex (l : Bs) : Except (Nat × Nat) (List Tok) :=
  if 2000 < l.length then .error (0, 1) else lexM 0 (skipN l) (l.drop (skipN l))

theorem skipM_le : ∀ (m : Bool) (l : Bs), skipM m l ≤ l.length
  | _, [] => by simp [skipM]
  | true, b :: r => by
    have h1 := skipM_le true r; have h2 := skipM_le false r
    unfold skipM; split <;> simp <;> omega
  | false, b :: r => by
    have h1 := skipM_le true r; have h2 := skipM_le false r
    unfold skipM; split
    · simp; omega
    · split <;> simp <;> omega
theorem skipN_le (l : Bs) : skipN l ≤ l.length := skipM_le false l

theorem charN_le : ∀ l : Bs, charN l ≤ l.length
  | [] => by simp [charN]
  | b :: r => by
    have f1 : ∀ i lo hi, folB (b :: r) i lo hi = true → i < (b :: r).length := by
      intro i lo hi h
      unfold folB at h
      split at h
      · rename_i x hx
        exact (List.getElem?_eq_some_iff.1 hx).1
      · simp at h
    simp only [charN]
    split
    · simp
    · split
      · rename_i h; have := f1 _ _ _ h.2; omega
      · split
        · rename_i h; have := f1 _ _ _ h.2.2; omega
        · split
          · rename_i h; have := f1 _ _ _ h.2.2.2; omega
          · omega

theorem validM_drop : ∀ (n : Nat) (l : Bs), n ≤ l.length → validM n l = validM 0 (l.drop n)
  | 0, l, _ => by simp
  | n + 1, [], h => by simp at h
  | n + 1, b :: r, h => by
    simp only [validM, List.drop_succ_cons]
    exact validM_drop n r (by simpa using h)

theorem validN_cons (b : UInt8) (r : Bs) : validN (b :: r) = if charN (b :: r) = 0 ∨ b.toNat = 0 then false else validN ((b :: r).drop (charN (b :: r))) := by
  have hle := charN_le (b :: r)
  simp only [validN]
  conv => lhs; unfold validM
  split
  · rfl
  · rename_i h
    rw [validM_drop _ _ (by simp at hle; omega)]
    obtain ⟨n, hn⟩ : ∃ n, charN (b :: r) = n + 1 := ⟨charN (b :: r) - 1, by omega⟩
    rw [hn]; simp

theorem lexM_drop : ∀ (n pos : Nat) (l : Bs), n ≤ l.length → lexM n pos l = lexM 0 (pos + n) (l.drop n)
  | 0, pos, l, _ => by simp
  | n + 1, pos, [], h => by simp at h
  | n + 1, pos, b :: r, h => by
    simp only [lexM, List.drop_succ_cons]
    rw [lexM_drop n (pos + 1) r (by simpa using h)]
    congr 1; omega

theorem betw_le (m : UInt8) : ∀ (l t : Bs) (n : Nat), betw m l = some (t, n) → 0 < n ∧ n ≤ l.length ∧ t.length < n
  | [], t, n, h => by simp [betw] at h
  | [b], t, n, h => by
    simp only [betw] at h
    split at h
    · simp at h; obtain ⟨rfl, rfl⟩ := h; simp
    · simp at h
  | b :: c :: r, t, n, h => by
    unfold betw at h
    split at h
    · split at h
      · simp only [Option.map_eq_some_iff, Prod.exists, Prod.mk.injEq] at h
        obtain ⟨t', n', h1, rfl, rfl⟩ := h
        have := betw_le m r t' n' h1
        simp; omega
      · simp at h; obtain ⟨rfl, rfl⟩ := h; simp
    · simp only [Option.map_eq_some_iff, Prod.exists, Prod.mk.injEq] at h
      obtain ⟨t', n', h1, rfl, rfl⟩ := h
      have := betw_le m (c :: r) t' n' h1
      simp at this ⊢; omega

theorem leastB_le : ∀ l : Bs, (leastB l).length ≤ l.length
  | [] => by simp [leastB]
  | [b] => by simp [leastB]
  | b :: c :: r => by
    have := leastB_le (c :: r)
    unfold leastB; split
    · simp at this ⊢; omega
    · simp

theorem oneT_len {l : Bs} {k : Nat} {t : Bs} {n : Nat} (h : oneT l = .ok (k, t, n)) : 0 < n ∧ n ≤ l.length ∧ t.length ≤ n := by
  unfold oneT at h
  split at h
  · simp at h
  · rename_i b r
    have h1 := cnt_le isWd (b :: r)
    have h2 := cnt_le isDig (b :: r)
    split at h
    · rename_i hl
      have : 0 < cnt isWd (b :: r) := cnt_pos (by simp [isWd, hl])
      split at h
      · simp only [Except.ok.injEq, Prod.mk.injEq] at h
        obtain ⟨-, rfl, rfl⟩ := h
        exact ⟨this, h1, by simp; omega⟩
      · simp only [Except.ok.injEq, Prod.mk.injEq] at h
        obtain ⟨-, rfl, rfl⟩ := h
        exact ⟨this, h1, by simp; omega⟩
    · split at h
      · rename_i hd
        have : 0 < cnt isDig (b :: r) := cnt_pos hd
        have h3 := leastB_le ((b :: r).take (cnt isDig (b :: r)))
        split at h
        · simp at h
        · split at h
          · simp at h
          · simp only [Except.ok.injEq, Prod.mk.injEq] at h
            obtain ⟨-, rfl, rfl⟩ := h
            refine ⟨this, h2, ?_⟩
            have := List.length_take_le (cnt isDig (b :: r)) (b :: r)
            omega
      · split at h
        · split at h
          · simp at h
          · rename_i t' n' hb
            have := betw_le _ _ _ _ hb
            split at h
            · simp at h
            · simp only [Except.ok.injEq, Prod.mk.injEq] at h
              obtain ⟨-, rfl, rfl⟩ := h
              simp; omega
        · split at h
          · rename_i h3
            simp only [Except.ok.injEq, Prod.mk.injEq] at h
            obtain ⟨-, rfl, rfl⟩ := h
            exact ⟨by omega, h3.1, List.length_take_le _ _⟩
          · split at h
            · simp only [Except.ok.injEq, Prod.mk.injEq] at h
              obtain ⟨-, rfl, rfl⟩ := h
              exact ⟨by omega, by simp, List.length_take_le _ _⟩
            · simp at h

/-- One step of the reading: at a place where no space stands. -/
theorem lexM_cons (pos : Nat) (b : UInt8) (r : Bs) : lexM 0 pos (b :: r) =
    match oneT (b :: r) with
    | .error e => .error (pos, e)
    | .ok (k, t, n) =>
      match lexM 0 (pos + n + skipN ((b :: r).drop n)) (((b :: r).drop n).drop (skipN ((b :: r).drop n))) with
      | .ok ts => .ok (⟨k, t, pos⟩ :: ts)
      | .error e => .error e := by
  conv => lhs; unfold lexM
  split
  · rfl
  · rename_i k t n h
    have hl := oneT_len h
    have hs := skipN_le ((b :: r).drop n)
    simp only [List.length_drop, List.length_cons] at hs hl
    rw [lexM_drop _ _ _ (by omega)]
    rw [List.drop_drop]
    have e1 : n + skipN ((b :: r).drop n) = (n + skipN ((b :: r).drop n) - 1) + 1 := by omega
    rw [show (b :: r).drop (n + skipN ((b :: r).drop n)) = r.drop (n + skipN ((b :: r).drop n) - 1) from by conv => lhs; rw [e1]; simp]
    rw [show pos + 1 + (n + skipN ((b :: r).drop n) - 1) = pos + n + skipN ((b :: r).drop n) from by omega]

end Lx
end Go.Proofs.YtihchcoclncjdaaDoor
