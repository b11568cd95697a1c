/- Parts of the proof: Lex Px Py Pt Pz Pw Bas Pe Pf Pg Ph Pi Qa Qb Qc Qd Utf -/
import GoSem.Claim
import Derived.Test.YtaiebhhommgnbaaGreatDoorRows
import Derived.WalkKit
import Derived.WalkSpells
import Derived.WalkLawsBesides
import Derived.Deep.Light
import Derived.Lib.Strings
import Derived.Lib.IndexBytes
import Derived.Laws.IdiomStrings
import Derived.BigQuiet
import Derived.Deep.QuietTactic
import Derived.Handy
import Derived.Lib.DecodeN
import Derived.Lib.RuneBytes
namespace Go.Proofs.YtaiebhhommgnbaaGreatDoor
set_option linter.unusedSimpArgs false
set_option linter.unusedVariables false
set_option maxRecDepth 100000
set_option maxHeartbeats 16000000
open Go.RowKit
namespace Lx
abbrev Bs := List UInt8
def isDig (b : UInt8) : Bool := decide (48 ≤ b.toNat ∧ b.toNat ≤ 57)
def isLet (b : UInt8) : Bool := decide ((97 ≤ b.toNat ∧ b.toNat ≤ 122) ∨ (65 ≤ b.toNat ∧ b.toNat ≤ 90) ∨ b.toNat = 95)
def isSp (b : UInt8) : Bool := decide (b.toNat = 9 ∨ b.toNat = 10 ∨ b.toNat = 13 ∨ b.toNat = 32)
def isWd (b : UInt8) : Bool := isDig b || isLet b
def notNl (b : UInt8) : Bool := decide (b.toNat ≠ 10)
def cnt (p : UInt8 → Bool) : Bs → Nat
 | [] => 0
 | b :: r => if p b then cnt p r + 1 else 0
theorem cnt_le (p : UInt8 → Bool) : ∀ l : Bs, cnt p l ≤ l.length
 | [] => by simp [cnt]
 | b :: r => by
  have := cnt_le p r
  unfold cnt; split <;> simp <;> omega
def skipM : Bool → Bs → Nat
 | _, [] => 0
 | true, b :: r => if notNl b then 1 + skipM true r else 1 + skipM false r
 | false, b :: r => if b.toNat = 45 ∧ r.head? = some 45 then 1 + skipM true r else if isSp b then 1 + skipM false r else 0
def skipN (l : Bs) : Nat := skipM false l
def folB (l : Bs) (i lo hi : Nat) : Bool :=
 match l[i]? with
 | some b => decide (lo ≤ b.toNat ∧ b.toNat ≤ hi)
 | none => false
def loOf (b : Nat) : Nat := if b = 224 then 160 else if b = 240 then 144 else 128
def hiOf (b : Nat) : Nat := if b = 237 then 159 else if b = 244 then 143 else 191
def charN (l : Bs) : Nat :=
 match l with
 | [] => 0
 | b :: _ =>
  if b.toNat < 128 then 1
  else if (194 ≤ b.toNat ∧ b.toNat ≤ 223) ∧ folB l 1 128 191 = true then 2
  else if (224 ≤ b.toNat ∧ b.toNat ≤ 239) ∧ folB l 1 (loOf b.toNat) (hiOf b.toNat) = true ∧ folB l 2 128 191 = true then 3
  else if (240 ≤ b.toNat ∧ b.toNat ≤ 244) ∧ folB l 1 (loOf b.toNat) (hiOf b.toNat) = true ∧ folB l 2 128 191 = true ∧ folB l 3 128 191 = true then 4
  else 0
def validM : Nat → Bs → Bool
 | _, [] => true
 | n + 1, _ :: r => validM n r
 | 0, b :: r => if charN (b :: r) = 0 ∨ b.toNat = 0 then false else validM (charN (b :: r) - 1) r
def validN (l : Bs) : Bool := validM 0 l
def betw (m : UInt8) : Bs → Option (Bs × Nat)
 | [] => none
 | [b] => if b = m then some ([], 1) else none
 | b :: c :: r =>
  if b = m then
    if c = m then (betw m r).map (fun x => (m :: x.1, x.2 + 2)) else some ([], 1)
  else (betw m (c :: r)).map (fun x => (b :: x.1, x.2 + 1))
def leastB : Bs → Bs
 | b :: c :: r => if b.toNat = 48 then leastB (c :: r) else b :: c :: r
 | l => l
def top : Bs := [57, 50, 50, 51, 51, 55, 50, 48, 51, 54, 56, 53, 52, 55, 55, 53, 56, 48, 56]
def overTop (t : Bs) : Bool := decide (19 < t.length) || (decide (t.length = 19) && (!Op.bytesLess t top && !(t == top)))
def upB (b : UInt8) : UInt8 := if 97 ≤ b.toNat ∧ b.toNat ≤ 122 then b - 32 else b
def lowB (b : UInt8) : UInt8 := if 65 ≤ b.toNat ∧ b.toNat ≤ 90 then b + 32 else b
def keys : List Bs := [[65, 78, 68], [65, 83, 67], [66, 79, 79, 76, 69, 65, 78], [66, 89], [67, 82, 69, 65, 84, 69], [68, 69, 76, 69, 84, 69], [68, 69, 83, 67], [68, 82, 79, 80], [70, 65, 76, 83, 69], [70, 82, 79, 77], [73, 78, 83, 69, 82, 84], [73, 78, 84, 69, 71, 69, 82], [73, 78, 84, 79], [73, 83], [76, 73, 77, 73, 84], [78, 79, 84], [78, 85, 76, 76], [79, 82], [79, 82, 68, 69, 82], [83, 69, 76, 69, 67, 84], [83, 69, 84], [84, 65, 66, 76, 69], [84, 69, 88, 84], [84, 82, 85, 69], [85, 80, 68, 65, 84, 69], [86, 65, 76, 85, 69, 83], [87, 72, 69, 82, 69]]
def twos : List Bs := [[60, 62], [60, 61], [62, 61], [124, 124]]
def ones : List Bs := [[40], [41], [44], [59], [42], [43], [45], [47], [37], [61], [60], [62]]
def hasB : List Bs → Bs → Bool
 | [], _ => false
 | a :: r, x => a == x || hasB r x
def oneT (l : Bs) : Except Nat (Nat × Bs × Nat) :=
 match l with
 | [] => .error 2
 | b :: r =>
  if isLet b then
    if hasB keys ((l.take (cnt isWd l)).map upB) then .ok (50, (l.take (cnt isWd l)).map upB, cnt isWd l) else .ok (18, (l.take (cnt isWd l)).map lowB, cnt isWd l)
  else if isDig b then
    if cnt isDig l < cnt isWd l then .error 2
    else if overTop (leastB (l.take (cnt isDig l))) then .error 3
    else .ok (16, leastB (l.take (cnt isDig l)), cnt isDig l)
  else if b.toNat = 39 ∨ b.toNat = 34 then
    match betw b r with
    | none => .error 2
    | some (t, n) =>
     if validN t = false ∨ (b.toNat = 34 ∧ t = []) then .error 2
     else .ok (if b.toNat = 34 then 18 else 17, t, n + 1)
  else if 2 ≤ l.length ∧ hasB twos (l.take 2) = true then .ok (51, l.take 2, 2)
  else if hasB ones (l.take 1) = true then .ok (51, l.take 1, 1)
  else .error 2
structure Tok where
 kind : Nat
 text : Bs
 pos : Nat
theorem cnt_pos {p : UInt8 → Bool} {b : UInt8} {r : Bs} (h : p b = true) : 0 < cnt p (b :: r) := by
 simp [cnt, h]
def lexM : Nat → Nat → Bs → Except (Nat × Nat) (List Tok)
 | _, _, [] => .ok []
 | n + 1, pos, _ :: r => lexM n (pos + 1) r
 | 0, pos, b :: r =>
  match oneT (b :: r) with
  | .error e => .error (pos, e)
  | .ok (k, t, n) =>
   match lexM (n + skipN ((b :: r).drop n) - 1) (pos + 1) r with
   | .ok ts => .ok (⟨k, t, pos⟩ :: ts)
   | .error e => .error e
def lex (l : Bs) : Except (Nat × Nat) (List Tok) :=
 if 2000 < l.length then .error (0, 1) else lexM 0 (skipN l) (l.drop (skipN l))
theorem skipM_le : ∀ (m : Bool) (l : Bs), skipM m l ≤ l.length
 | _, [] => by simp [skipM]
 | true, b :: r => by
  have h1 := skipM_le true r; have h2 := skipM_le false r
  unfold skipM; split <;> simp <;> omega
 | false, b :: r => by
  have h1 := skipM_le true r; have h2 := skipM_le false r
  unfold skipM; split
  · simp; omega
  · split <;> simp <;> omega
theorem skipN_le (l : Bs) : skipN l ≤ l.length := skipM_le false l
theorem charN_le : ∀ l : Bs, charN l ≤ l.length
 | [] => by simp [charN]
 | b :: r => by
  have f1 : ∀ i lo hi, folB (b :: r) i lo hi = true → i < (b :: r).length := by
   intro i lo hi h
   unfold folB at h
   split at h
   · rename_i x hx
     exact (List.getElem?_eq_some_iff.1 hx).1
   · simp at h
  simp only [charN]
  split
  · simp
  · split
    · rename_i h; have := f1 _ _ _ h.2; omega
    · split
      · rename_i h; have := f1 _ _ _ h.2.2; omega
      · split
        · rename_i h; have := f1 _ _ _ h.2.2.2; omega
        · omega
theorem validM_drop : ∀ (n : Nat) (l : Bs), n ≤ l.length → validM n l = validM 0 (l.drop n)
 | 0, l, _ => by simp
 | n + 1, [], h => by simp at h
 | n + 1, b :: r, h => by
  simp only [validM, List.drop_succ_cons]
  exact validM_drop n r (by simpa using h)
theorem validN_cons (b : UInt8) (r : Bs) : validN (b :: r) = if charN (b :: r) = 0 ∨ b.toNat = 0 then false else validN ((b :: r).drop (charN (b :: r))) := by
 have hle := charN_le (b :: r)
 simp only [validN]
 conv => lhs; unfold validM
 split
 · rfl
 · rename_i h
   rw [validM_drop _ _ (by simp at hle; omega)]
   obtain ⟨n, hn⟩ : ∃ n, charN (b :: r) = n + 1 := ⟨charN (b :: r) - 1, by omega⟩
   rw [hn]; simp
theorem lexM_drop : ∀ (n pos : Nat) (l : Bs), n ≤ l.length → lexM n pos l = lexM 0 (pos + n) (l.drop n)
 | 0, pos, l, _ => by simp
 | n + 1, pos, [], h => by simp at h
 | n + 1, pos, b :: r, h => by
  simp only [lexM, List.drop_succ_cons]
  rw [lexM_drop n (pos + 1) r (by simpa using h)]
  congr 1; omega
theorem betw_le (m : UInt8) : ∀ (l t : Bs) (n : Nat), betw m l = some (t, n) → 0 < n ∧ n ≤ l.length ∧ t.length < n
 | [], t, n, h => by simp [betw] at h
 | [b], t, n, h => by
  simp only [betw] at h
  split at h
  · simp at h; obtain ⟨rfl, rfl⟩ := h; simp
  · simp at h
 | b :: c :: r, t, n, h => by
  unfold betw at h
  split at h
  · split at h
    · simp only [Option.map_eq_some_iff, Prod.exists, Prod.mk.injEq] at h
      obtain ⟨t', n', h1, rfl, rfl⟩ := h
      have := betw_le m r t' n' h1
      simp; omega
    · simp at h; obtain ⟨rfl, rfl⟩ := h; simp
  · simp only [Option.map_eq_some_iff, Prod.exists, Prod.mk.injEq] at h
    obtain ⟨t', n', h1, rfl, rfl⟩ := h
    have := betw_le m (c :: r) t' n' h1
    simp at this ⊢; omega
theorem leastB_le : ∀ l : Bs, (leastB l).length ≤ l.length
 | [] => by simp [leastB]
 | [b] => by simp [leastB]
 | b :: c :: r => by
  have := leastB_le (c :: r)
  unfold leastB; split
  · simp at this ⊢; omega
  · simp
theorem oneT_len {l : Bs} {k : Nat} {t : Bs} {n : Nat} (h : oneT l = .ok (k, t, n)) : 0 < n ∧ n ≤ l.length ∧ t.length ≤ n := by
 unfold oneT at h
 split at h
 · simp at h
 · rename_i b r
   have h1 := cnt_le isWd (b :: r)
   have h2 := cnt_le isDig (b :: r)
   split at h
   · rename_i hl
     have : 0 < cnt isWd (b :: r) := cnt_pos (by simp [isWd, hl])
     split at h
     · simp only [Except.ok.injEq, Prod.mk.injEq] at h
       obtain ⟨-, rfl, rfl⟩ := h
       exact ⟨this, h1, by simp; omega⟩
     · simp only [Except.ok.injEq, Prod.mk.injEq] at h
       obtain ⟨-, rfl, rfl⟩ := h
       exact ⟨this, h1, by simp; omega⟩
   · split at h
     · rename_i hd
       have : 0 < cnt isDig (b :: r) := cnt_pos hd
       have h3 := leastB_le ((b :: r).take (cnt isDig (b :: r)))
       split at h
       · simp at h
       · split at h
         · simp at h
         · simp only [Except.ok.injEq, Prod.mk.injEq] at h
           obtain ⟨-, rfl, rfl⟩ := h
           refine ⟨this, h2, ?_⟩
           have := List.length_take_le (cnt isDig (b :: r)) (b :: r)
           omega
     · split at h
       · split at h
         · simp at h
         · rename_i t' n' hb
           have := betw_le _ _ _ _ hb
           split at h
           · simp at h
           · simp only [Except.ok.injEq, Prod.mk.injEq] at h
             obtain ⟨-, rfl, rfl⟩ := h
             simp; omega
       · split at h
         · rename_i h3
           simp only [Except.ok.injEq, Prod.mk.injEq] at h
           obtain ⟨-, rfl, rfl⟩ := h
           exact ⟨by omega, h3.1, List.length_take_le _ _⟩
         · split at h
           · simp only [Except.ok.injEq, Prod.mk.injEq] at h
             obtain ⟨-, rfl, rfl⟩ := h
             exact ⟨by omega, by simp, List.length_take_le _ _⟩
           · simp at h
theorem lexM_cons (pos : Nat) (b : UInt8) (r : Bs) : lexM 0 pos (b :: r) =
   match oneT (b :: r) with
   | .error e => .error (pos, e)
   | .ok (k, t, n) =>
    match lexM 0 (pos + n + skipN ((b :: r).drop n)) (((b :: r).drop n).drop (skipN ((b :: r).drop n))) with
    | .ok ts => .ok (⟨k, t, pos⟩ :: ts)
    | .error e => .error e := by
 conv => lhs; unfold lexM
 split
 · rfl
 · rename_i k t n h
   have hl := oneT_len h
   have hs := skipN_le ((b :: r).drop n)
   simp only [List.length_drop, List.length_cons] at hs hl
   rw [lexM_drop _ _ _ (by omega)]
   rw [List.drop_drop]
   have e1 : n + skipN ((b :: r).drop n) = (n + skipN ((b :: r).drop n) - 1) + 1 := by omega
   rw [show (b :: r).drop (n + skipN ((b :: r).drop n)) = r.drop (n + skipN ((b :: r).drop n) - 1) from by conv => lhs; rw [e1]; simp]
   rw [show pos + 1 + (n + skipN ((b :: r).drop n) - 1) = pos + n + skipN ((b :: r).drop n) from by omega]
end Lx
section
namespace Px
open Lx (Bs Tok)
structure Nd where
 kind : Int
 text : Bs
 num : Int
 kids : Int
abbrev Out (α : Type) := Option (Except (Nat × Nat) (α × List Tok))
def obind {α β : Type} (x : Out α) (f : α → List Tok → Out β) : Out β :=
 match x with
 | none => none
 | some (.error e) => some (.error e)
 | some (.ok (a, ts)) => f a ts
def plc (sz : Nat) : List Tok → Nat
 | [] => sz
 | t :: _ => t.pos
def sees (s : Bs) : List Tok → Bool
 | [] => false
 | t :: _ => (decide (t.kind = 50) || decide (t.kind = 51)) && t.text == s
def must (sz : Nat) (s : Bs) (ts : List Tok) : Out Unit :=
 if sees s ts = true then some (.ok ((), ts.tail)) else some (.error (plc sz ts, 4))
def name (sz : Nat) : List Tok → Out Bs
 | [] => some (.error (sz, 4))
 | t :: r => if t.kind ≠ 18 then some (.error (t.pos, 4)) else if 30 < t.text.length then some (.error (t.pos, 5)) else some (.ok (t.text, r))
def kOR : Bs := [79, 82]
def kAND : Bs := [65, 78, 68]
def kNOT : Bs := [78, 79, 84]
def kIS : Bs := [73, 83]
def kNULL : Bs := [78, 85, 76, 76]
def kTRUE : Bs := [84, 82, 85, 69]
def kFALSE : Bs := [70, 65, 76, 83, 69]
def kTABLE : Bs := [84, 65, 66, 76, 69]
def kINTEGER : Bs := [73, 78, 84, 69, 71, 69, 82]
def kTEXT : Bs := [84, 69, 88, 84]
def kBOOLEAN : Bs := [66, 79, 79, 76, 69, 65, 78]
def kINTO : Bs := [73, 78, 84, 79]
def kVALUES : Bs := [86, 65, 76, 85, 69, 83]
def kSET : Bs := [83, 69, 84]
def kWHERE : Bs := [87, 72, 69, 82, 69]
def kFROM : Bs := [70, 82, 79, 77]
def kORDER : Bs := [79, 82, 68, 69, 82]
def kBY : Bs := [66, 89]
def kASC : Bs := [65, 83, 67]
def kDESC : Bs := [68, 69, 83, 67]
def kLIMIT : Bs := [76, 73, 77, 73, 84]
def kCREATE : Bs := [67, 82, 69, 65, 84, 69]
def kDROP : Bs := [68, 82, 79, 80]
def kINSERT : Bs := [73, 78, 83, 69, 82, 84]
def kDELETE : Bs := [68, 69, 76, 69, 84, 69]
def kUPDATE : Bs := [85, 80, 68, 65, 84, 69]
def kSELECT : Bs := [83, 69, 76, 69, 67, 84]
def gOpen : Bs := [40]
def gShut : Bs := [41]
def gComma : Bs := [44]
def gMinus : Bs := [45]
def gStar : Bs := [42]
def gEq : Bs := [61]
def opTab : List (Nat × Bs × Nat) := [(1, kOR, 23), (2, kAND, 24), (4, [61], 25), (4, [60, 62], 26), (4, [60], 27), (4, [60, 61], 28), (4, [62], 29), (4, [62, 61], 30), (5, [124, 124], 31), (6, [43], 32), (6, [45], 33), (7, [42], 34), (7, [47], 35), (7, [37], 36)]
def opIn : List (Nat × Bs × Nat) → Nat → Bs → Nat
 | [], _, _ => 0
 | x :: r, l, s => if x.1 = l ∧ x.2.1 = s then x.2.2 else opIn r l s
def oper (l : Nat) : List Tok → Nat
 | [] => 0
 | t :: _ => if t.kind = 50 ∨ t.kind = 51 then opIn opTab l t.text else 0
def over1 (k : Int) (a : List Nd) : List Nd := ⟨k, [], 0, 1⟩ :: a
def over2 (k : Int) (a b : List Nd) : List Nd := ⟨k, [], 0, 2⟩ :: (a ++ b)
def leaf (k : Int) (t : Bs) (n : Int) : List Nd := [⟨k, t, n, 0⟩]
def dval (s : Bs) : Nat := s.foldl (fun n c => 10 * n + (c.toNat - 48)) 0
def bot : Int := -9223372036854775808
def negate (at_ : Nat) (a : List Nd) (r : List Tok) : Out (List Nd) :=
 match a with
 | [] => some (.ok (over1 19 a, r))
 | x :: _ => if x.kind ≠ 16 then some (.ok (over1 19 a, r)) else if x.num = bot then some (.error (at_, 3)) else some (.ok (leaf 16 [] (-x.num), r))
def atom (sz : Nat) : List Tok → Out (List Nd)
 | [] => some (.error (sz, 4))
 | t :: r =>
  if t.kind = 16 then if t.text = Lx.top then some (.error (t.pos, 3)) else some (.ok (leaf 16 [] (dval t.text), r))
  else if t.kind = 17 then some (.ok (leaf 17 t.text 0, r))
  else if t.kind = 18 then if 30 < t.text.length then some (.error (t.pos, 5)) else some (.ok (leaf 18 t.text 0, r))
  else if t.kind = 50 then
    if t.text = kNULL then some (.ok (leaf 14 [] 0, r)) else if t.text = kTRUE then some (.ok (leaf 15 [] 1, r)) else if t.text = kFALSE then some (.ok (leaf 15 [] 0, r))
    else some (.error (t.pos, 4))
  else some (.error (t.pos, 4))
def isTop : List Tok → Bool
 | [] => false
 | t :: _ => decide (t.kind = 16) && t.text == Lx.top
def tail4 (sz : Nat) (rec5 : List Tok → Out (List Nd)) (a : List Nd) (r : List Tok) : Out (List Nd) :=
 if sees kIS r = true then
   if sees kNOT r.tail = true then obind (must sz kNULL r.tail.tail) fun _ q => some (.ok (over1 22 a, q))
   else obind (must sz kNULL r.tail) fun _ q => some (.ok (over1 21 a, q))
 else if oper 4 r = 0 then some (.ok (a, r))
 else obind (rec5 r.tail) fun b q => some (.ok (over2 (oper 4 r) a b, q))
def ex (sz : Nat) : Nat → Nat → List Nd → List Tok → Out (List Nd)
 | 0, _, _, _ => none
 | n + 1, m, a, ts =>
  if 10 ≤ m then
    if oper (m - 10) ts = 0 then some (.ok (a, ts))
    else obind (ex sz n (m - 9) [] ts.tail) fun b q => ex sz n m (over2 (oper (m - 10) ts) a b) q
  else if m = 3 then
    if sees kNOT ts = true then obind (ex sz n 3 [] ts.tail) fun b q => some (.ok (over1 20 b, q))
    else ex sz n 4 [] ts
  else if m = 4 then obind (ex sz n 5 [] ts) fun b q => tail4 sz (ex sz n 5 []) b q
  else if m = 8 then
    if sees gMinus ts = true then
      if isTop ts.tail = true then some (.ok (leaf 16 [] bot, ts.tail.tail))
      else obind (ex sz n 8 [] ts.tail) fun b q => negate (plc sz ts) b q
    else ex sz n 9 [] ts
  else if m = 9 then
    if sees gOpen ts = true then obind (ex sz n 1 [] ts.tail) fun b q => obind (must sz gShut q) fun _ q => some (.ok (b, q))
    else atom sz ts
  else obind (ex sz n (m + 1) [] ts) fun b q => ex sz n (m + 10) b q
def sep {α : Type} (item : Nat → α → List Tok → Out α) : Nat → α → List Tok → Out α
 | 0, _, _ => none
 | n + 1, a, ts => obind (item n a ts) fun b q => if sees gComma q = true then sep item n b q.tail else some (.ok (b, q))
def kindP (sz : Nat) (ts : List Tok) : Out Int :=
 if sees kINTEGER ts = true then if sees kTEXT ts.tail = true then some (.error (plc sz ts.tail, 4)) else some (.ok (1, ts.tail))
 else if sees kTEXT ts = true then some (.ok (2, ts.tail))
 else obind (must sz kBOOLEAN ts) fun _ q => some (.ok (3, q))
def col (sz : Nat) (l : List Nd) (ts : List Tok) : Out (List Nd) :=
 obind (name sz ts) fun nm q =>
 if l.length = 6 then some (.error (plc sz ts, 4))
 else obind (kindP sz q) fun k q =>
 if sees kNOT q = true then obind (must sz kNULL q.tail) fun _ q => some (.ok (l ++ [⟨2, nm, k + 4, 0⟩], q))
 else some (.ok (l ++ [⟨2, nm, k, 0⟩], q))
def create (sz n : Nat) (ts : List Tok) : Out (List Nd) :=
 obind (must sz kTABLE ts) fun _ q => obind (name sz q) fun t q => obind (must sz gOpen q) fun _ q =>
 obind (sep (fun _ l q => col sz l q) n [] q) fun l q => obind (must sz gShut q) fun _ q =>
 some (.ok (⟨1, t, 0, l.length⟩ :: l, q))
def item (sz n : Nat) (x : List Nd × Nat) (ts : List Tok) : Out (List Nd × Nat) :=
 obind (ex sz n 1 [] ts) fun e q => some (.ok ((x.1 ++ e, x.2 + 1), q))
def row (sz n : Nat) (x : List Nd × Nat) (ts : List Tok) : Out (List Nd × Nat) :=
 obind (must sz gOpen ts) fun _ q => obind (sep (item sz) n ([], 0) q) fun y q => obind (must sz gShut q) fun _ q =>
 some (.ok ((x.1 ++ (⟨5, [], 0, y.2⟩ :: y.1), x.2 + 1), q))
def insert (sz n : Nat) (ts : List Tok) : Out (List Nd) :=
 obind (must sz kINTO ts) fun _ q => obind (name sz q) fun t q => obind (must sz kVALUES q) fun _ q =>
 obind (sep (row sz) n ([], 0) q) fun x q => some (.ok (⟨4, t, 0, x.2⟩ :: x.1, q))
def where_ (sz n : Nat) (ts : List Tok) : Out (List Nd × Nat) :=
 if sees kWHERE ts = true then obind (ex sz n 1 [] ts.tail) fun e q => some (.ok ((over1 11 e, 1), q)) else some (.ok (([], 0), ts))
def setOne (sz n : Nat) (x : List Nd × Nat) (ts : List Tok) : Out (List Nd × Nat) :=
 obind (name sz ts) fun nm q => obind (must sz gEq q) fun _ q => obind (ex sz n 1 [] q) fun e q =>
 some (.ok ((x.1 ++ (⟨8, nm, 0, 1⟩ :: e), x.2 + 1), q))
def update (sz n : Nat) (ts : List Tok) : Out (List Nd) :=
 obind (name sz ts) fun t q => obind (must sz kSET q) fun _ q => obind (sep (setOne sz) n ([], 0) q) fun x q =>
 obind (where_ sz n q) fun y q => some (.ok (⟨7, t, 0, x.2 + y.2⟩ :: (x.1 ++ y.1), q))
def pick (sz n : Nat) (x : List Nd × Nat) (ts : List Tok) : Out (List Nd × Nat) :=
 if sees gStar ts = true then some (.ok ((x.1 ++ [⟨10, [], 0, 0⟩], x.2 + 1), ts.tail)) else item sz n x ts
def order (sz n : Nat) (x : List Nd × Nat) (ts : List Tok) : Out (List Nd × Nat) :=
 obind (ex sz n 1 [] ts) fun e q =>
 if sees kASC q = true then some (.ok ((x.1 ++ (⟨12, [], 0, 1⟩ :: e), x.2 + 1), q.tail))
 else if sees kDESC q = true then some (.ok ((x.1 ++ (⟨12, [], 1, 1⟩ :: e), x.2 + 1), q.tail))
 else some (.ok ((x.1 ++ (⟨12, [], 0, 1⟩ :: e), x.2 + 1), q))
def limit (sz : Nat) : List Tok → Out Nat
 | [] => some (.error (sz, 4))
 | t :: r => if t.kind ≠ 16 then some (.error (t.pos, 4)) else if t.text = Lx.top ∨ 1000000000 < dval t.text then some (.error (t.pos, 3)) else some (.ok (dval t.text, r))
def orders (sz n : Nat) (x : List Nd × Nat) (ts : List Tok) : Out (List Nd × Nat) :=
 if sees kORDER ts = true then obind (must sz kBY ts.tail) fun _ q => sep (order sz) n x q else some (.ok (x, ts))
def limits (sz : Nat) (x : List Nd × Nat) (ts : List Tok) : Out (List Nd × Nat) :=
 if sees kLIMIT ts = true then obind (limit sz ts.tail) fun m q => some (.ok ((x.1 ++ [⟨13, [], m, 0⟩], x.2 + 1), q)) else some (.ok (x, ts))
def choose (sz n : Nat) (ts : List Tok) : Out (List Nd) :=
 obind (sep (pick sz) n ([], 0) ts) fun x q => obind (must sz kFROM q) fun _ q => obind (name sz q) fun t q =>
 obind (where_ sz n q) fun y q => obind (orders sz n (x.1 ++ y.1, x.2 + y.2) q) fun z q => obind (limits sz z q) fun u q =>
 some (.ok (⟨9, t, 0, u.2⟩ :: u.1, q))
def drop (sz : Nat) (ts : List Tok) : Out (List Nd) :=
 obind (must sz kTABLE ts) fun _ q => obind (name sz q) fun t q => some (.ok ([⟨3, t, 0, 0⟩], q))
def delete (sz n : Nat) (ts : List Tok) : Out (List Nd) :=
 obind (must sz kFROM ts) fun _ q => obind (name sz q) fun t q => obind (where_ sz n q) fun y q => some (.ok (⟨6, t, 0, y.2⟩ :: y.1, q))
def stmt (sz n : Nat) : List Tok → Out (List Nd)
 | [] => some (.error (sz, 4))
 | t :: r =>
  if t.kind ≠ 50 then some (.error (t.pos, 4))
  else if t.text = kCREATE then create sz n r
  else if t.text = kDROP then drop sz r
  else if t.text = kINSERT then insert sz n r
  else if t.text = kDELETE then delete sz n r
  else if t.text = kUPDATE then update sz n r
  else if t.text = kSELECT then choose sz n r
  else some (.error (t.pos, 4))
def whole (sz n : Nat) (ts : List Tok) : Out (List Nd) :=
 obind (stmt sz n ts) fun a q => if q = [] then some (.ok (a, [])) else some (.error (plc sz q, 4))
def Grows {α : Type} (f : Nat → Out α) : Prop := ∀ n m r, n ≤ m → f n = some r → f m = some r
theorem obind_some {α β : Type} {x : Out α} {f : α → List Tok → Out β} {r : Except (Nat × Nat) (β × List Tok)} (h : obind x f = some r) :
   (∃ e, x = some (.error e) ∧ r = .error e) ∨ ∃ a ts, x = some (.ok (a, ts)) ∧ f a ts = some r := by
 unfold obind at h
 split at h
 · cases h
 · rename_i e; cases h; exact Or.inl ⟨_, rfl, rfl⟩
 · rename_i a ts; exact Or.inr ⟨a, ts, rfl, h⟩
theorem grows_const {α : Type} (x : Out α) : Grows fun _ => x := fun _ _ _ _ h => h
theorem grows_bind {α β : Type} {x : Nat → Out α} {f : Nat → α → List Tok → Out β} (hx : Grows x) (hf : ∀ a ts, Grows fun n => f n a ts) : Grows fun n => obind (x n) (f n) := by
 intro n m r hnm h
 rcases obind_some h with ⟨e, h1, rfl⟩ | ⟨a, ts, h1, h2⟩
 · show obind (x m) (f m) = _
   rw [hx n m _ hnm h1]; rfl
 · show obind (x m) (f m) = _
   rw [hx n m _ hnm h1]
   exact hf a ts n m r hnm h2
theorem grows_if {α : Type} {c : Prop} [Decidable c] {x y : Nat → Out α} (hx : Grows x) (hy : Grows y) : Grows fun n => if c then x n else y n := by
 intro n m r hnm h
 by_cases hc : c
 · simp only [if_pos hc] at h ⊢; exact hx n m r hnm h
 · simp only [if_neg hc] at h ⊢; exact hy n m r hnm h
theorem ex_grows (sz : Nat) : ∀ m a ts, Grows fun n => ex sz n m a ts := by
 have key : ∀ n k m a ts r, n ≤ k → ex sz n m a ts = some r → ex sz k m a ts = some r := by
  intro n
  induction n with
  | zero => intro k m a ts r _ h; cases h
  | succ n ih =>
   intro k m a ts r hk h
   cases k with
   | zero => omega
   | succ k =>
    have hk' : n ≤ k := by omega
    have B : ∀ {m a ts r} {g : Nat → List Nd → List Tok → Out (List Nd)}, (∀ b q r, g n b q = some r → g k b q = some r) → obind (ex sz n m a ts) (g n) = some r → obind (ex sz k m a ts) (g k) = some r := by
     intro m a ts r g hg hh
     rcases obind_some hh with ⟨e, h1, rfl⟩ | ⟨b, q, h1, h2⟩
     · rw [ih k _ _ _ _ hk' h1]; rfl
     · rw [ih k _ _ _ _ hk' h1]; exact hg b q r h2
    unfold ex at h ⊢
    split at h
    · rename_i c1
      rw [if_pos c1]
      split at h
      · rename_i c2; rw [if_pos c2]; exact h
      · rename_i c2
        rw [if_neg c2]
        exact B (g := fun n b q => ex sz n m (over2 (oper (m - 10) ts) a b) q) (fun b q r hh => ih k _ _ _ _ hk' hh) h
    · rename_i c1
      rw [if_neg c1]
      split at h
      · rename_i c2
        rw [if_pos c2]
        split at h
        · rename_i c3; rw [if_pos c3]; exact B (g := fun _ b q => some (.ok (over1 20 b, q))) (fun _ _ _ hh => hh) h
        · rename_i c3; rw [if_neg c3]; exact ih k _ _ _ _ hk' h
      · rename_i c2
        rw [if_neg c2]
        split at h
        · rename_i c3
          rw [if_pos c3]
          refine B (g := fun n b q => tail4 sz (ex sz n 5 []) b q) (fun b q r hh => ?_) h
          unfold tail4 at hh ⊢
          split at hh
          · rename_i c4; rw [if_pos c4]; exact hh
          · rename_i c4
            rw [if_neg c4]
            split at hh
            · rename_i c5; rw [if_pos c5]; exact hh
            · rename_i c5; rw [if_neg c5]; exact B (g := fun _ b' q' => some (.ok (over2 (oper 4 q) b b', q'))) (fun _ _ _ h3 => h3) hh
        · rename_i c3
          rw [if_neg c3]
          split at h
          · rename_i c4
            rw [if_pos c4]
            split at h
            · rename_i c5
              rw [if_pos c5]
              split at h
              · rename_i c6; rw [if_pos c6]; exact h
              · rename_i c6; rw [if_neg c6]; exact B (g := fun _ b q => negate (plc sz ts) b q) (fun _ _ _ hh => hh) h
            · rename_i c5; rw [if_neg c5]; exact ih k _ _ _ _ hk' h
          · rename_i c4
            rw [if_neg c4]
            split at h
            · rename_i c5
              rw [if_pos c5]
              split at h
              · rename_i c6; rw [if_pos c6]; exact B (g := fun _ b q => obind (must sz gShut q) fun _ q => some (.ok (b, q))) (fun _ _ _ hh => hh) h
              · rename_i c6; rw [if_neg c6]; exact h
            · rename_i c5
              rw [if_neg c5]
              exact B (g := fun n b q => ex sz n (m + 10) b q) (fun b q r hh => ih k _ _ _ _ hk' hh) h
 intro m a ts n k r hnk h
 exact key n k m a ts r hnk h
def Ex (sz m : Nat) (a : List Nd) (ts : List Tok) (r : Except (Nat × Nat) (List Nd × List Tok)) : Prop := ∃ n, ex sz n m a ts = some r
end Px
end
section
namespace Px
open Lx (Bs Tok)
abbrev Res (α : Type) := Except (Nat × Nat) (α × List Tok)
def Then {α β : Type} (r : Res α) (f : α → List Tok → Res β → Prop) (r' : Res β) : Prop :=
 match r with
 | .error e => r' = .error e
 | .ok (b, q) => f b q r'
theorem ex_bind {sz m : Nat} {a : List Nd} {ts : List Tok} {r r' : Res (List Nd)} {g : Nat → List Nd → List Tok → Out (List Nd)} (hg : ∀ b q, Grows fun n => g n b q)
   (h : Ex sz m a ts r) (h' : Then r (fun b q s => ∃ n, g n b q = some s) r') : ∃ n, obind (ex sz n m a ts) (g n) = some r' := by
 obtain ⟨n, hn⟩ := h
 match r, h' with
 | .error e, h' =>
  refine ⟨n, ?_⟩
  rw [hn]
  simp only [Then] at h'
  rw [h']; rfl
 | .ok (b, q), h' =>
  obtain ⟨k, hk⟩ := h'
  refine ⟨max n k, ?_⟩
  rw [show ex sz (max n k) m a ts = _ from ex_grows sz m a ts n (max n k) _ (Nat.le_max_left _ _) hn]
  exact hg b q k (max n k) r' (Nat.le_max_right _ _) hk
theorem Ex.not {sz : Nat} {a : List Nd} {ts : List Tok} {r r' : Res (List Nd)} (hs : sees kNOT ts = true) (h : Ex sz 3 [] ts.tail r) (h' : Then r (fun b q s => s = .ok (over1 20 b, q)) r') : Ex sz 3 a ts r' := by
 obtain ⟨n, hn⟩ := ex_bind (g := fun _ b q => some (.ok (over1 20 b, q))) (fun b q => grows_const _) h (r' := r') (by
  match r, h' with
  | .error e, h' => exact h'
  | .ok (b, q), h' => exact ⟨0, by rw [show r' = _ from h']⟩)
 refine ⟨n + 1, ?_⟩
 unfold ex
 rw [if_neg (by omega), if_pos rfl, if_pos hs]
 exact hn
theorem Ex.up3 {sz : Nat} {a : List Nd} {ts : List Tok} {r : Res (List Nd)} (hs : sees kNOT ts = false) (h : Ex sz 4 [] ts r) : Ex sz 3 a ts r := by
 obtain ⟨n, hn⟩ := h
 refine ⟨n + 1, ?_⟩
 unfold ex
 rw [if_neg (by omega), if_pos rfl, if_neg (by simp [hs])]
 exact hn
theorem tail4_grows (sz : Nat) (b : List Nd) (q : List Tok) : Grows fun n => tail4 sz (ex sz n 5 []) b q := by
 unfold tail4
 refine grows_if (grows_const _) (grows_if (grows_const _) (grows_bind (ex_grows sz 5 [] _) fun _ _ => grows_const _))
theorem Ex.cmp {sz : Nat} {a : List Nd} {ts : List Tok} {r r' : Res (List Nd)} (h : Ex sz 5 [] ts r) (h' : Then r (fun b q s => ∃ n, tail4 sz (ex sz n 5 []) b q = some s) r') : Ex sz 4 a ts r' := by
 obtain ⟨n, hn⟩ := ex_bind (g := fun n b q => tail4 sz (ex sz n 5 []) b q) (fun b q => tail4_grows sz b q) h h'
 refine ⟨n + 1, ?_⟩
 unfold ex
 rw [if_neg (by omega), if_neg (by omega), if_pos rfl]
 exact hn
theorem tail4_is {sz : Nat} {b : List Nd} {q : List Tok} (hs : sees kIS q = true) (hn : sees kNOT q.tail = false) :
   ∃ n, tail4 sz (ex sz n 5 []) b q = some (if sees kNULL q.tail = true then .ok (over1 21 b, q.tail.tail) else .error (plc sz q.tail, 4)) := by
 refine ⟨0, ?_⟩
 unfold tail4 must
 rw [if_pos hs, if_neg (by simp [hn])]
 split <;> simp [obind, *]
theorem tail4_isnot {sz : Nat} {b : List Nd} {q : List Tok} (hs : sees kIS q = true) (hn : sees kNOT q.tail = true) :
   ∃ n, tail4 sz (ex sz n 5 []) b q = some (if sees kNULL q.tail.tail = true then .ok (over1 22 b, q.tail.tail.tail) else .error (plc sz q.tail.tail, 4)) := by
 refine ⟨0, ?_⟩
 unfold tail4 must
 rw [if_pos hs, if_pos hn]
 split <;> simp [obind, *]
theorem tail4_none {sz : Nat} {b : List Nd} {q : List Tok} (hs : sees kIS q = false) (ho : oper 4 q = 0) : ∃ n, tail4 sz (ex sz n 5 []) b q = some (.ok (b, q)) := by
 refine ⟨0, ?_⟩
 unfold tail4
 rw [if_neg (by simp [hs]), if_pos ho]
theorem tail4_op {sz : Nat} {b : List Nd} {q : List Tok} {r r' : Res (List Nd)} (hs : sees kIS q = false) (ho : oper 4 q ≠ 0) (h : Ex sz 5 [] q.tail r) (h' : Then r (fun c p s => s = .ok (over2 (oper 4 q) b c, p)) r') :
   ∃ n, tail4 sz (ex sz n 5 []) b q = some r' := by
 obtain ⟨n, hn⟩ := ex_bind (g := fun _ c p => some (.ok (over2 (oper 4 q) b c, p))) (fun _ _ => grows_const _) h (r' := r') (by
  match r, h' with
  | .error e, h' => exact h'
  | .ok (c, p), h' => exact ⟨0, by rw [show r' = _ from h']⟩)
 refine ⟨n, ?_⟩
 unfold tail4
 rw [if_neg (by simp [hs]), if_neg ho]
 exact hn
theorem Ex.top {sz : Nat} {a : List Nd} {ts : List Tok} (hs : sees gMinus ts = true) (ht : isTop ts.tail = true) : Ex sz 8 a ts (.ok (leaf 16 [] bot, ts.tail.tail)) := by
 refine ⟨1, ?_⟩
 unfold ex
 rw [if_neg (by omega), if_neg (by omega), if_neg (by omega), if_pos rfl, if_pos hs, if_pos ht]
theorem Ex.neg {sz : Nat} {a : List Nd} {ts : List Tok} {r r' : Res (List Nd)} (hs : sees gMinus ts = true) (ht : isTop ts.tail = false) (h : Ex sz 8 [] ts.tail r) (h' : Then r (fun b q s => negate (plc sz ts) b q = some s) r') : Ex sz 8 a ts r' := by
 obtain ⟨n, hn⟩ := ex_bind (g := fun _ b q => negate (plc sz ts) b q) (fun _ _ => grows_const _) h (r' := r') (by
  match r, h' with
  | .error e, h' => exact h'
  | .ok (b, q), h' => exact ⟨0, h'⟩)
 refine ⟨n + 1, ?_⟩
 unfold ex
 rw [if_neg (by omega), if_neg (by omega), if_neg (by omega), if_pos rfl, if_pos hs, if_neg (by simp [ht])]
 exact hn
theorem Ex.up8 {sz : Nat} {a : List Nd} {ts : List Tok} {r : Res (List Nd)} (hs : sees gMinus ts = false) (h : Ex sz 9 [] ts r) : Ex sz 8 a ts r := by
 obtain ⟨n, hn⟩ := h
 refine ⟨n + 1, ?_⟩
 unfold ex
 rw [if_neg (by omega), if_neg (by omega), if_neg (by omega), if_pos rfl, if_neg (by simp [hs])]
 exact hn
theorem Ex.bra {sz : Nat} {a : List Nd} {ts : List Tok} {r r' : Res (List Nd)} (hs : sees gOpen ts = true) (h : Ex sz 1 [] ts.tail r)
   (h' : Then r (fun b q s => s = if sees gShut q = true then .ok (b, q.tail) else .error (plc sz q, 4)) r') : Ex sz 9 a ts r' := by
 obtain ⟨n, hn⟩ := ex_bind (g := fun _ b q => obind (must sz gShut q) fun _ q => some (.ok (b, q))) (fun _ _ => grows_const _) h (r' := r') (by
  match r, h' with
  | .error e, h' => exact h'
  | .ok (b, q), h' =>
   refine ⟨0, ?_⟩
   rw [show r' = _ from h']
   unfold must
   split <;> simp [obind, *])
 refine ⟨n + 1, ?_⟩
 unfold ex
 rw [if_neg (by omega), if_neg (by omega), if_neg (by omega), if_neg (by omega), if_pos rfl, if_pos hs]
 exact hn
theorem Ex.atom {sz : Nat} {a : List Nd} {ts : List Tok} {r : Res (List Nd)} (hs : sees gOpen ts = false) (h : atom sz ts = some r) : Ex sz 9 a ts r := by
 refine ⟨1, ?_⟩
 unfold ex
 rw [if_neg (by omega), if_neg (by omega), if_neg (by omega), if_neg (by omega), if_pos rfl, if_neg (by simp [hs])]
 exact h
theorem Ex.left {sz m : Nat} {a : List Nd} {ts : List Tok} {r r' : Res (List Nd)} (hm : m < 8) (h3 : m ≠ 3) (h4 : m ≠ 4) (h : Ex sz (m + 1) [] ts r) (h' : Then r (fun b q s => Ex sz (m + 10) b q s) r') : Ex sz m a ts r' := by
 obtain ⟨n, hn⟩ := ex_bind (g := fun n b q => ex sz n (m + 10) b q) (fun b q => ex_grows sz _ b q) h h'
 refine ⟨n + 1, ?_⟩
 unfold ex
 rw [if_neg (by omega), if_neg h3, if_neg h4, if_neg (by omega), if_neg (by omega)]
 exact hn
theorem Ex.end_ {sz m : Nat} {a : List Nd} {ts : List Tok} (ho : oper m ts = 0) : Ex sz (m + 10) a ts (.ok (a, ts)) := by
 refine ⟨1, ?_⟩
 unfold ex
 rw [if_pos (by omega), if_pos (by rw [Nat.add_sub_cancel]; exact ho)]
theorem Ex.more {sz m : Nat} {a : List Nd} {ts : List Tok} {r r' : Res (List Nd)} (ho : oper m ts ≠ 0) (h : Ex sz (m + 1) [] ts.tail r) (h' : Then r (fun b q s => Ex sz (m + 10) (over2 (oper m ts) a b) q s) r') : Ex sz (m + 10) a ts r' := by
 obtain ⟨n, hn⟩ := ex_bind (g := fun n b q => ex sz n (m + 10) (over2 (oper m ts) a b) q) (fun b q => ex_grows sz _ _ q) h h'
 refine ⟨n + 1, ?_⟩
 unfold ex
 rw [if_pos (by omega), if_neg (by rw [Nat.add_sub_cancel]; exact ho)]
 rw [Nat.add_sub_cancel, show m + 10 - 9 = m + 1 by omega]
 exact hn
theorem sees_cons {s : Bs} {ts : List Tok} (h : sees s ts = true) : ∃ t r, ts = t :: r := by
 cases ts with
 | nil => cases h
 | cons t r => exact ⟨t, r, rfl⟩
theorem oper_cons {m : Nat} {ts : List Tok} (h : oper m ts ≠ 0) : ∃ t r, ts = t :: r := by
 cases ts with
 | nil => exact absurd rfl h
 | cons t r => exact ⟨t, r, rfl⟩
theorem sees_len {s : Bs} {ts : List Tok} (h : sees s ts = true) : ts.tail.length + 1 = ts.length := by
 obtain ⟨t, r, rfl⟩ := sees_cons h; rfl
theorem oper_len {m : Nat} {ts : List Tok} (h : oper m ts ≠ 0) : ts.tail.length + 1 = ts.length := by
 obtain ⟨t, r, rfl⟩ := oper_cons h; rfl
theorem must_some {sz : Nat} {s : Bs} {ts : List Tok} {r : Res Unit} (h : must sz s ts = some r) : (sees s ts = true ∧ r = .ok ((), ts.tail)) ∨ (sees s ts = false ∧ r = .error (plc sz ts, 4)) := by
 unfold must at h
 split at h
 · rename_i c; cases h; exact Or.inl ⟨c, rfl⟩
 · rename_i c; cases h; exact Or.inr ⟨by simpa using c, rfl⟩
theorem ex_len {sz : Nat} : ∀ n m a ts b q, ex sz n m a ts = some (.ok (b, q)) → (m < 10 → b ≠ [] ∧ b.length + q.length ≤ ts.length) ∧ (10 ≤ m → (a ≠ [] → b ≠ []) ∧ b.length + q.length ≤ a.length + ts.length) := by
 intro n
 induction n with
 | zero => intro m a ts b q h; cases h
 | succ n ih =>
  intro m a ts b q h
  unfold ex at h
  split at h
  · rename_i c1
    refine ⟨fun h => by omega, fun _ => ?_⟩
    split at h
    · cases h; exact ⟨fun h => h, Nat.le_refl _⟩
    · rename_i c2
      rcases obind_some h with ⟨e, _, h2⟩ | ⟨b1, q1, h1, h2⟩
      · cases h2
      · have i1 := (ih _ _ _ _ _ h1).1
        have i2 := (ih _ _ _ _ _ h2).2 c1
        have hl := oper_len c2
        by_cases hm : m - 9 < 10
        · have := (i1 hm).2
          refine ⟨fun _ => i2.1 (by simp [over2]), ?_⟩
          have i3 := i2.2
          simp [over2] at i3
          omega
        · have := ((ih _ _ _ _ _ h1).2 (by omega)).2
          refine ⟨fun _ => i2.1 (by simp [over2]), ?_⟩
          have i3 := i2.2
          simp [over2] at i3 this
          omega
  · rename_i c1
    refine ⟨fun _ => ?_, fun h => by omega⟩
    split at h
    · split at h
      · rename_i c3
        rcases obind_some h with ⟨e, _, h2⟩ | ⟨b1, q1, h1, h2⟩
        · cases h2
        · cases h2
          have i1 := (ih _ _ _ _ _ h1).1 (by omega)
          have hl := sees_len c3
          refine ⟨by simp [over1], ?_⟩
          have := i1.2
          simp [over1]
          omega
      · exact (ih _ _ _ _ _ h).1 (by omega)
    · split at h
      · rcases obind_some h with ⟨e, _, h2⟩ | ⟨b1, q1, h1, h2⟩
        · cases h2
        · have i1 := (ih _ _ _ _ _ h1).1 (by omega)
          unfold tail4 at h2
          split at h2
          · rename_i c4
            have hl := sees_len c4
            split at h2
            · rename_i c5
              have hl2 := sees_len c5
              rcases obind_some h2 with ⟨e, _, h3⟩ | ⟨b2, q2, h3, h4⟩
              · cases h3
              · cases h4
                rcases must_some h3 with ⟨c6, h6⟩ | ⟨_, h6⟩
                · cases h6
                  have hl3 := sees_len c6
                  refine ⟨by simp [over1], ?_⟩
                  have := i1.2
                  simp [over1] at *
                  omega
                · cases h6
            · rcases obind_some h2 with ⟨e, _, h3⟩ | ⟨b2, q2, h3, h4⟩
              · cases h3
              · cases h4
                rcases must_some h3 with ⟨c6, h6⟩ | ⟨_, h6⟩
                · cases h6
                  have hl3 := sees_len c6
                  refine ⟨by simp [over1], ?_⟩
                  have := i1.2
                  simp [over1] at *
                  omega
                · cases h6
          · split at h2
            · cases h2; exact i1
            · rename_i c5
              have hl := oper_len c5
              rcases obind_some h2 with ⟨e, _, h3⟩ | ⟨b2, q2, h3, h4⟩
              · cases h3
              · cases h4
                have i2 := (ih _ _ _ _ _ h3).1 (by omega)
                refine ⟨by simp [over2], ?_⟩
                have := i1.2
                have := i2.2
                simp [over2] at *
                omega
      · split at h
        · split at h
          · rename_i c5
            have hl := sees_len c5
            split at h
            · rename_i c6
              cases h
              have hl2 : ts.tail.tail.length + 1 = ts.tail.length := by
               cases h7 : ts.tail with
               | nil => rw [h7] at c6; cases c6
               | cons t r => simp
              refine ⟨by simp [leaf], ?_⟩
              simp [leaf] at *
              omega
            · rcases obind_some h with ⟨e, _, h2⟩ | ⟨b1, q1, h1, h2⟩
              · cases h2
              · have i1 := (ih _ _ _ _ _ h1).1 (by omega)
                unfold negate at h2
                split at h2
                · cases h2
                  refine ⟨by simp [over1], ?_⟩
                  have := i1.2
                  simp [over1] at *
                · split at h2
                  · cases h2
                    refine ⟨by simp [over1], ?_⟩
                    have := i1.2
                    simp [over1] at *
                    omega
                  · split at h2
                    · cases h2
                    · cases h2
                      refine ⟨by simp [leaf], ?_⟩
                      have := i1.2
                      simp [leaf] at *
                      omega
          · exact (ih _ _ _ _ _ h).1 (by omega)
        · split at h
          · split at h
            · rename_i c6
              have hl := sees_len c6
              rcases obind_some h with ⟨e, _, h2⟩ | ⟨b1, q1, h1, h2⟩
              · cases h2
              · have i1 := (ih _ _ _ _ _ h1).1 (by omega)
                rcases obind_some h2 with ⟨e, _, h3⟩ | ⟨b2, q2, h3, h4⟩
                · cases h3
                · cases h4
                  rcases must_some h3 with ⟨c7, h7⟩ | ⟨_, h7⟩
                  · cases h7
                    have hl3 := sees_len c7
                    refine ⟨i1.1, ?_⟩
                    have := i1.2
                    omega
                  · cases h7
            · unfold Px.atom at h
              repeat' split at h
              all_goals first | (cases h; done) | (cases h; simp [leaf]; omega)
          · rcases obind_some h with ⟨e, _, h2⟩ | ⟨b1, q1, h1, h2⟩
            · cases h2
            · rename_i c2 c3 c4 c5
              have i2 := (ih _ _ _ _ _ h2).2 (by omega)
              by_cases hm : m + 1 < 10
              · have i1 := (ih _ _ _ _ _ h1).1 hm
                exact ⟨i2.1 i1.1, by have := i1.2; have := i2.2; omega⟩
              · omega
theorem Ex.len {sz m : Nat} {a b : List Nd} {ts q : List Tok} (hm : m < 10) (h : Ex sz m a ts (.ok (b, q))) : b ≠ [] ∧ b.length + q.length ≤ ts.length := by
 obtain ⟨n, hn⟩ := h
 exact (ex_len n m a ts b q hn).1 hm
end Px
end
section
namespace Px
open Lx (Bs Tok)
def isExpr (k : Int) : Bool := decide (14 ≤ k ∧ k ≤ 36)
def isName (s : Bs) : Bool := Lx.validN s && !s.isEmpty && decide (s.length ≤ 30)
def bareN (x : Nd) (k : Int) : Bool := x.text.isEmpty && decide (x.num = 0) && decide (x.kids = k)
def nodeOk (x : Nd) (r : List Nd) : Bool :=
 if x.kind = 14 then bareN x 0
 else if x.kind = 15 then x.text.isEmpty && (decide (x.num = 0) || decide (x.num = 1)) && decide (x.kids = 0)
 else if x.kind = 16 then x.text.isEmpty && decide (x.kids = 0)
 else if x.kind = 17 then Lx.validN x.text && decide (x.num = 0) && decide (x.kids = 0)
 else if x.kind = 18 then isName x.text && decide (x.num = 0) && decide (x.kids = 0)
 else if x.kind = 19 then bareN x 1 && (match r with | [] => true | y :: _ => decide (y.kind ≠ 16))
 else if x.kind = 20 ∨ x.kind = 21 ∨ x.kind = 22 then bareN x 1
 else decide (23 ≤ x.kind ∧ x.kind ≤ 36) && bareN x 2
def wex : Nat → List Nd → Option (List Nd)
 | 0, _ => none
 | _ + 1, [] => none
 | d + 1, x :: r => if nodeOk x r = true then (if x.kids = 0 then some r else if x.kids = 1 then wex d r else (wex d r).bind (wex d)) else none
def wexs : Nat → List Nd → Option (List Nd)
 | 0, l => some l
 | k + 1, l => (wex 40 l).bind (wexs k)
def wpart : List Nd → Option (List Nd)
 | [] => none
 | x :: r =>
  if x.kind = 2 then if isName x.text = true ∧ x.kids = 0 ∧ 1 ≤ x.num ∧ x.num ≤ 7 ∧ x.num ≠ 4 then some r else none
  else if x.kind = 5 then if x.text = [] ∧ x.num = 0 ∧ 1 ≤ x.kids then wexs x.kids.toNat r else none
  else if x.kind = 8 then if isName x.text = true ∧ x.num = 0 ∧ x.kids = 1 then wex 40 r else none
  else if x.kind = 10 then if bareN x 0 = true then some r else none
  else if x.kind = 11 then if bareN x 1 = true then wex 40 r else none
  else if x.kind = 12 then if x.text = [] ∧ 0 ≤ x.num ∧ x.num ≤ 1 ∧ x.kids = 1 then wex 40 r else none
  else if x.kind = 13 then if x.text = [] ∧ 0 ≤ x.num ∧ x.num ≤ 1000000000 ∧ x.kids = 0 then some r else none
  else wex 40 (x :: r)
def rank (k : Int) : Nat := if k = 11 then 2 else if k = 12 then 3 else if k = 13 then 4 else 1
def fits (top k : Int) : Bool :=
 if top = 1 then decide (k = 2) else if top = 4 then decide (k = 5) else if top = 6 then decide (k = 11)
 else if top = 7 then decide (k = 8) || decide (k = 11)
 else if top = 9 then isExpr k || decide (k = 10) || decide (k = 11) || decide (k = 12) || decide (k = 13)
 else false
def wparts (top : Int) : Nat → Nat → Nat → List Nd → Option Nat
 | 0, _, things, l => if l = [] then some things else none
 | _ + 1, _, _, [] => none
 | k + 1, last, things, x :: r =>
  if fits top x.kind = false ∨ rank x.kind < last ∨ (rank x.kind = last ∧ (rank x.kind = 2 ∨ rank x.kind = 4)) then none
  else (wpart (x :: r)).bind (wparts top k (rank x.kind) (if rank x.kind = 1 then things + 1 else things))
def well : List Nd → Bool
 | [] => false
 | x :: r =>
  if isName x.text = false ∨ x.num ≠ 0 ∨ x.kids < 0 ∨ (r.length : Int) + 1 < x.kids then false
  else match wparts x.kind x.kids.toNat 1 0 r with
   | none => false
   | some things =>
    if x.kind = 1 then decide (1 ≤ things ∧ things ≤ 6)
    else if x.kind = 3 then decide (x.kids = 0)
    else if x.kind = 4 ∨ x.kind = 7 ∨ x.kind = 9 then decide (1 ≤ things)
    else decide (x.kind = 6)
def decF : Nat → Nat → Bs
 | 0, _ => []
 | f + 1, n => if n < 10 then [(48 + n).toUInt8] else decF f (n / 10) ++ [(48 + n % 10).toUInt8]
def dec (z : Int) : Bs := if z < 0 then 45 :: decF 20 z.natAbs else decF 20 z.natAbs
def dbl (m : UInt8) (s : Bs) : Bs := m :: (s.flatMap fun b => if b = m then [b, b] else [b]) ++ [m]
def lowWord (s : Bs) : Bool := (match s with | [] => false | b :: _ => Lx.isLet b) && decide (Lx.cnt Lx.isWd s = s.length) && !Lx.hasB Lx.keys (s.map Lx.upB) && s.map Lx.lowB == s
def nameT (s : Bs) : Bs := if lowWord s = true then s else dbl 34 s
def atomT (x : Nd) : Bs :=
 if x.kind = 18 then nameT x.text else if x.kind = 14 then kNULL else if x.kind = 16 then dec x.num else if x.kind = 17 then dbl 39 x.text else if x.num = 1 then kTRUE else kFALSE
def brk (s : Bs) (lvl least : Nat) : Bs := if lvl < least then 40 :: (s ++ [41]) else s
def sgnT (k : Int) : Bs × Nat :=
 if k = 23 then (kOR, 1) else if k = 24 then (kAND, 2) else if k = 25 then ([61], 4) else if k = 26 then ([60, 62], 4) else if k = 27 then ([60], 4) else if k = 28 then ([60, 61], 4)
 else if k = 29 then ([62], 4) else if k = 30 then ([62, 61], 4) else if k = 31 then ([124, 124], 5) else if k = 32 then ([43], 6) else if k = 33 then ([45], 6) else if k = 34 then ([42], 7)
 else if k = 35 then ([47], 7) else ([37], 7)
def minusT (s : Bs) : Bs := match s with | 45 :: _ => 45 :: 32 :: s | _ => 45 :: s
def pre1 (k : Int) (a : Bs) (lvl : Nat) : Bs × Nat :=
 if k = 20 then (kNOT ++ [32] ++ brk a lvl 3, 3)
 else if k = 19 then (minusT (brk a lvl 8), 8)
 else if k = 21 then (brk a lvl 5 ++ [32, 73, 83, 32, 78, 85, 76, 76], 4)
 else (brk a lvl 5 ++ [32, 73, 83, 32, 78, 79, 84, 32, 78, 85, 76, 76], 4)
def pre2 (k : Int) (a : Bs) (la : Nat) (b : Bs) (lb : Nat) : Bs × Nat :=
 (brk a la (if (sgnT k).2 = 4 then 5 else (sgnT k).2) ++ [32] ++ (sgnT k).1 ++ [32] ++ brk b lb ((sgnT k).2 + 1), (sgnT k).2)
def ext : Nat → List Nd → (Bs × Nat) × List Nd
 | 0, l => (([], 0), l)
 | _ + 1, [] => (([], 0), [])
 | d + 1, x :: r =>
  if x.kind ≤ 18 then ((atomT x, if x.kind = 16 ∧ x.num < 0 then 8 else 9), r)
  else if x.kind ≤ 22 then (pre1 x.kind (ext d r).1.1 (ext d r).1.2, (ext d r).2)
  else (pre2 x.kind (ext d r).1.1 (ext d r).1.2 (ext d (ext d r).2).1.1 (ext d (ext d r).2).1.2, (ext d (ext d r).2).2)
def exts : Nat → List Nd → Bs × List Nd
 | 0, l => ([], l)
 | 1, l => ((ext 40 l).1.1, (ext 40 l).2)
 | k + 2, l => ((ext 40 l).1.1 ++ [44, 32] ++ (exts (k + 1) (ext 40 l).2).1, (exts (k + 1) (ext 40 l).2).2)
def partT : List Nd → Bs × List Nd
 | [] => ([], [])
 | x :: r =>
  if x.kind = 2 then (nameT x.text ++ [32] ++ (if x.num % 4 = 1 then kINTEGER else if x.num % 4 = 2 then kTEXT else kBOOLEAN) ++ (if 4 < x.num then [32] ++ kNOT ++ [32] ++ kNULL else []), r)
  else if x.kind = 5 then (40 :: ((exts x.kids.toNat r).1 ++ [41]), (exts x.kids.toNat r).2)
  else if x.kind = 8 then (nameT x.text ++ [32, 61, 32] ++ (ext 40 r).1.1, (ext 40 r).2)
  else if x.kind = 10 then ([42], r)
  else if x.kind = 11 then ([32] ++ kWHERE ++ [32] ++ (ext 40 r).1.1, (ext 40 r).2)
  else if x.kind = 12 then ((ext 40 r).1.1 ++ (if x.num = 1 then [32] ++ kDESC else []), (ext 40 r).2)
  else if x.kind = 13 then ([32] ++ kLIMIT ++ [32] ++ dec x.num, r)
  else ((ext 40 (x :: r)).1.1, (ext 40 (x :: r)).2)
structure Gath where
 things : Bs
 where_ : Bs
 orders : Bs
 limit : Bs
def gath1 (g : Gath) (k : Int) (s : Bs) : Gath :=
 if rank k = 1 then { g with things := (if g.things = [] then [] else g.things ++ [44, 32]) ++ s }
 else if rank k = 2 then { g with where_ := s }
 else if rank k = 3 then { g with orders := (if g.orders = [] then [32] ++ kORDER ++ [32] ++ kBY ++ [32] else g.orders ++ [44, 32]) ++ s }
 else { g with limit := s }
def gath : Nat → Gath → List Nd → Gath
 | 0, g, _ => g
 | _ + 1, g, [] => g
 | k + 1, g, x :: r => gath k (gath1 g x.kind (partT (x :: r)).1) (partT (x :: r)).2
def text : List Nd → Bs
 | [] => []
 | x :: r =>
  let g := gath x.kids.toNat ⟨[], [], [], []⟩ r
  if x.kind = 1 then kCREATE ++ [32] ++ kTABLE ++ [32] ++ nameT x.text ++ [32, 40] ++ g.things ++ [41]
  else if x.kind = 3 then kDROP ++ [32] ++ kTABLE ++ [32] ++ nameT x.text
  else if x.kind = 4 then kINSERT ++ [32] ++ kINTO ++ [32] ++ nameT x.text ++ [32] ++ kVALUES ++ [32] ++ g.things
  else if x.kind = 6 then kDELETE ++ [32] ++ kFROM ++ [32] ++ nameT x.text ++ g.where_
  else if x.kind = 7 then kUPDATE ++ [32] ++ nameT x.text ++ [32] ++ kSET ++ [32] ++ g.things ++ g.where_
  else kSELECT ++ [32] ++ g.things ++ [32] ++ kFROM ++ [32] ++ nameT x.text ++ g.where_ ++ g.orders ++ g.limit
def print (l : List Nd) : Bs × Nat := if well l = false then ([], 7) else if 2000 < (text l).length then ([], 1) else (text l, 0)
def tr : Nat → List Nd → Option (Nat × List Nd)
 | 0, _ => none
 | _ + 1, [] => none
 | n + 1, x :: r =>
  if x.kids = 0 then some (1, r)
  else if x.kids = 1 then (tr n r).bind fun y => some (y.1 + 1, y.2)
  else if x.kids = 2 then (tr n r).bind fun y => (tr n y.2).bind fun z => some (max y.1 z.1 + 1, z.2)
  else none
def deep : Nat → List Nd → Option Nat
 | 0, _ => none
 | _ + 1, [] => some 0
 | n + 1, x :: r => if isExpr x.kind = true then (tr (n + 1) (x :: r)).bind fun y => (deep n y.2).bind fun d => some (max y.1 d) else deep n r
def Parse (s : Bs) (r : Except (Nat × Nat) (List Nd)) : Prop :=
 match Lx.lex s with
 | .error e => r = .error e
 | .ok ts => ∃ n q, whole s.length n ts = some q ∧ match q with
  | .error e => r = .error e
  | .ok (a, _) => ∃ d, deep (a.length + 1) a = some d ∧ r = if 40 < d then .error (0, 6) else .ok a
end Px
end
section
namespace Lx
structure TokOk (t : Tok) : Prop where
 kind : t.kind = 16 ∨ t.kind = 17 ∨ t.kind = 18 ∨ t.kind = 50 ∨ t.kind = 51
 digs : t.kind = 16 → t.text ≠ [] ∧ (∀ b ∈ t.text, isDig b = true) ∧ overTop t.text = false
theorem leastB_mem : ∀ (l : Bs) (b : UInt8), b ∈ leastB l → b ∈ l
 | [], b, h => h
 | [x], b, h => h
 | x :: c :: r, b, h => by
  unfold leastB at h
  split at h
  · exact List.mem_cons_of_mem _ (leastB_mem (c :: r) b h)
  · exact h
theorem leastB_ne : ∀ l : Bs, l ≠ [] → leastB l ≠ []
 | [], h => absurd rfl h
 | [x], _ => by simp [leastB]
 | x :: c :: r, _ => by
  unfold leastB
  split
  · exact leastB_ne (c :: r) (by simp)
  · simp
theorem cnt_all (p : UInt8 → Bool) : ∀ l : Bs, ∀ b ∈ l.take (cnt p l), p b = true
 | [], b, h => by simp at h
 | x :: r, b, h => by
  unfold cnt at h
  split at h
  · rename_i hx
    rw [List.take_succ_cons] at h
    rcases List.mem_cons.1 h with rfl | h
    · exact hx
    · exact cnt_all p r b h
  · simp at h
theorem oneT_ok {l : Bs} {k : Nat} {t : Bs} {n : Nat} (h : oneT l = .ok (k, t, n)) (p : Nat) : TokOk ⟨k, t, p⟩ := by
 unfold oneT at h
 split at h
 · simp at h
 · rename_i b r
   split at h
   · split at h
     · simp only [Except.ok.injEq, Prod.mk.injEq] at h
       obtain ⟨rfl, rfl, rfl⟩ := h
       exact ⟨by simp, fun e => by simp at e⟩
     · simp only [Except.ok.injEq, Prod.mk.injEq] at h
       obtain ⟨rfl, rfl, rfl⟩ := h
       exact ⟨by simp, fun e => by simp at e⟩
   · split at h
     · rename_i hd
       split at h
       · simp at h
       · split at h
         · simp at h
         · rename_i h3
           simp only [Except.ok.injEq, Prod.mk.injEq] at h
           obtain ⟨rfl, rfl, rfl⟩ := h
           refine ⟨by simp, fun _ => ⟨leastB_ne _ ?_, fun b hb => ?_, by simpa using h3⟩⟩
           · have : 0 < cnt isDig (b :: r) := cnt_pos hd
             intro e
             have := congrArg List.length e
             simp at this
             omega
           · exact cnt_all isDig _ b (leastB_mem _ b hb)
     · split at h
       · split at h
         · simp at h
         · split at h
           · simp at h
           · simp only [Except.ok.injEq, Prod.mk.injEq] at h
             obtain ⟨rfl, rfl, rfl⟩ := h
             refine ⟨?_, fun e => ?_⟩
             · dsimp only; split <;> simp
             · dsimp only at e; split at e <;> simp at e
       · split at h
         · simp only [Except.ok.injEq, Prod.mk.injEq] at h
           obtain ⟨rfl, rfl, rfl⟩ := h
           exact ⟨by simp, fun e => by simp at e⟩
         · split at h
           · simp only [Except.ok.injEq, Prod.mk.injEq] at h
             obtain ⟨rfl, rfl, rfl⟩ := h
             exact ⟨by simp, fun e => by simp at e⟩
           · simp at h
theorem lexM_ok : ∀ (m : Nat) (l : Bs) (pos : Nat) (ts : List Tok), l.length ≤ m → lexM 0 pos l = .ok ts → ts.length ≤ l.length ∧ ∀ t ∈ ts, TokOk t ∧ pos ≤ t.pos ∧ t.pos < pos + l.length ∧ t.text.length ≤ l.length := by
 intro m
 induction m with
 | zero =>
  intro l pos ts hl h
  obtain rfl := List.length_eq_zero_iff.1 (Nat.le_zero.1 hl)
  simp only [lexM, Except.ok.injEq] at h
  subst h
  exact ⟨by simp, fun t ht => by cases ht⟩
 | succ m ih =>
  intro l pos ts hl h
  cases l with
  | nil =>
   simp only [lexM, Except.ok.injEq] at h
   subst h
   exact ⟨by simp, fun t ht => by cases ht⟩
  | cons b r =>
   rw [lexM_cons] at h
   split at h
   · simp at h
   · rename_i k t n h1
     have hn := oneT_len h1
     have hs := skipN_le ((b :: r).drop n)
     simp only [List.length_drop, List.length_cons] at hs hn hl
     split at h
     · rename_i us h2
       simp only [Except.ok.injEq] at h
       subst h
       have i := ih _ _ _ (by simp; omega) h2
       simp only [List.length_drop, List.length_cons] at i
       refine ⟨by simp; omega, fun x hx => ?_⟩
       rcases List.mem_cons.1 hx with rfl | hx
       · exact ⟨oneT_ok h1 pos, Nat.le_refl _, by simp, by simp; omega⟩
       · obtain ⟨j1, j2, j3, j4⟩ := i.2 x hx
         exact ⟨j1, by omega, by simp; omega, by simp; omega⟩
     · simp at h
theorem lex_ok {l : Bs} {ts : List Tok} (h : lex l = .ok ts) : l.length ≤ 2000 ∧ ts.length ≤ l.length ∧ ∀ t ∈ ts, TokOk t ∧ t.pos < l.length ∧ t.text.length ≤ l.length := by
 unfold lex at h
 split at h
 · simp at h
 · rename_i hl
   have hs := skipN_le l
   have i := lexM_ok _ _ _ _ (Nat.le_refl _) h
   simp only [List.length_drop] at i
   refine ⟨by omega, by omega, fun t ht => ?_⟩
   obtain ⟨j1, j2, j3, j4⟩ := i.2 t ht
   exact ⟨j1, by omega, by omega⟩
end Lx
namespace Px
open Lx (Bs Tok)
def dfold (s : Bs) (a : Nat) : Nat := s.foldl (fun n c => 10 * n + (c.toNat - 48)) a
theorem dval_fold (s : Bs) : dval s = dfold s 0 := by unfold dval dfold; exact Eq.refl _
theorem dfold_cons (c : UInt8) (s : Bs) (a : Nat) : dfold (c :: s) a = dfold s (10 * a + (c.toNat - 48)) := by unfold dfold; rw [List.foldl_cons]
theorem dfold_append (s t : Bs) (a : Nat) : dfold (s ++ t) a = dfold t (dfold s a) := by unfold dfold; rw [List.foldl_append]
theorem dfold_ge : ∀ (s : Bs) (a : Nat), a ≤ dfold s a
 | [], a => Nat.le_refl _
 | c :: s, a => by rw [dfold_cons]; exact Nat.le_trans (by omega) (dfold_ge s _)
theorem dfold_lt : ∀ (s t : Bs) (a b : Nat), s.length = t.length → (∀ c ∈ s, Lx.isDig c = true) → a < b → dfold s a < dfold t b
 | [], [], a, b, _, _, h => h
 | [], _ :: _, _, _, h, _, _ => by simp at h
 | _ :: _, [], _, _, h, _, _ => by simp at h
 | c :: s, d :: t, a, b, hl, hd, h => by
  rw [dfold_cons, dfold_cons]
  have hc := hd c (by simp)
  simp only [Lx.isDig, decide_eq_true_eq] at hc
  exact dfold_lt s t _ _ (by simpa using hl) (fun x hx => hd x (by simp [hx])) (by omega)
theorem dfold_less : ∀ (s t : Bs) (a : Nat), s.length = t.length → (∀ c ∈ s, Lx.isDig c = true) → (∀ c ∈ t, Lx.isDig c = true) → Op.bytesLess s t = true → dfold s a < dfold t a
 | [], [], _, _, _, _, h => by simp [Op.bytesLess] at h
 | [], _ :: _, _, h, _, _, _ => by simp at h
 | _ :: _, [], _, h, _, _, _ => by simp at h
 | c :: s, d :: t, a, hl, hs, ht, h => by
  rw [dfold_cons, dfold_cons]
  have hc := hs c (by simp)
  have hd := ht d (by simp)
  simp only [Lx.isDig, decide_eq_true_eq] at hc hd
  simp only [Op.bytesLess, Bool.or_eq_true, decide_eq_true_eq, Bool.and_eq_true, beq_iff_eq] at h
  rcases h with h | ⟨rfl, h⟩
  · have : c.toNat < d.toNat := UInt8.lt_iff_toNat_lt.1 h
    exact dfold_lt s t _ _ (by simpa using hl) (fun x hx => hs x (by simp [hx])) (by omega)
  · exact dfold_less s t _ (by simpa using hl) (fun x hx => hs x (by simp [hx])) (fun x hx => ht x (by simp [hx])) h
theorem dfold_pow : ∀ (s : Bs) (a : Nat), (∀ c ∈ s, Lx.isDig c = true) → dfold s a + 1 ≤ (a + 1) * 10 ^ s.length
 | [], a, _ => by simp [dfold]
 | c :: s, a, h => by
  rw [dfold_cons]
  have hc := h c (by simp)
  simp only [Lx.isDig, decide_eq_true_eq] at hc
  have i := dfold_pow s (10 * a + (c.toNat - 48)) (fun x hx => h x (by simp [hx]))
  have e : (10 * a + (c.toNat - 48) + 1) * 10 ^ s.length ≤ (10 * (a + 1)) * 10 ^ s.length := Nat.mul_le_mul_right _ (by omega)
  rw [List.length_cons, Nat.pow_succ, show (a + 1) * (10 ^ s.length * 10) = (10 * (a + 1)) * 10 ^ s.length from by rw [Nat.mul_comm (10 ^ s.length) 10, ← Nat.mul_assoc, Nat.mul_comm (a + 1) 10]]
  omega
theorem dval_topv : dval Lx.top = 9223372036854775808 := by decide
theorem top_digs : ∀ c ∈ Lx.top, Lx.isDig c = true := by decide
theorem dval_lt {t : Bs} (hd : ∀ b ∈ t, Lx.isDig b = true) (ho : Lx.overTop t = false) (hne : t ≠ Lx.top) : dval t < 9223372036854775808 := by
 simp only [Lx.overTop, Bool.or_eq_false_iff, Bool.and_eq_false_iff, decide_eq_false_iff_not, Bool.not_eq_eq_eq_not, Bool.not_false] at ho
 obtain ⟨h1, h2⟩ := ho
 rcases h2 with h2 | h2
 · have i := dfold_pow t 0 hd
   have hl : t.length ≤ 18 := by omega
   have e : 10 ^ t.length ≤ 10 ^ 18 := Nat.pow_le_pow_right (by omega) hl
   rw [dval_fold]
   have : (10 : Nat) ^ 18 = 1000000000000000000 := by decide
   omega
 · by_cases hl : t.length = 19
   · rcases h2 with h2 | h2
     · have := dfold_less t Lx.top 0 hl hd top_digs h2
       rw [← dval_fold, ← dval_fold, dval_topv] at this
       exact this
     · exact absurd (by simpa using h2) hne
   · have i := dfold_pow t 0 hd
     have e : 10 ^ t.length ≤ 10 ^ 18 := Nat.pow_le_pow_right (by omega) (by omega)
     rw [dval_fold]
     have : (10 : Nat) ^ 18 = 1000000000000000000 := by decide
     omega
end Px
end
section
namespace Px
open Lx (Bs Tok)
theorem tr_grows : ∀ n l, ∀ m r, n ≤ m → tr n l = some r → tr m l = some r := by
 intro n
 induction n with
 | zero => intro l m r _ h; cases h
 | succ n ih =>
  intro l m r hm h
  cases m with
  | zero => omega
  | succ m =>
   cases l with
   | nil => cases h
   | cons x t =>
    unfold tr at h ⊢
    split at h
    · rename_i c; rw [if_pos c]; exact h
    · rename_i c
      rw [if_neg c]
      split at h
      · rename_i c2
        rw [if_pos c2]
        obtain ⟨y, h1, h2⟩ := Option.bind_eq_some_iff.1 h
        rw [ih t m y (by omega) h1]; exact h2
      · rename_i c2
        rw [if_neg c2]
        split at h
        · rename_i c3
          rw [if_pos c3]
          obtain ⟨y, h1, h2⟩ := Option.bind_eq_some_iff.1 h
          obtain ⟨z, h3, h4⟩ := Option.bind_eq_some_iff.1 h2
          rw [ih t m y (by omega) h1]
          show (tr m y.2).bind _ = _
          rw [ih y.2 m z (by omega) h3]; exact h4
        · cases h
def IsT (b : List Nd) (d : Nat) : Prop := (∀ q, ∃ n, n ≤ b.length ∧ tr n (b ++ q) = some (d, q)) ∧ d ≤ b.length ∧ ∃ x r, b = x :: r ∧ isExpr x.kind = true
theorem IsT.leaf (k : Int) (t : Bs) (n : Int) (h : isExpr k = true) : IsT (leaf k t n) 1 := by
 refine ⟨fun q => ⟨1, by simp [Px.leaf], ?_⟩, by simp [Px.leaf], _, _, rfl, h⟩
 simp [Px.leaf, tr]
theorem IsT.over1 {a : List Nd} {d : Nat} (k : Int) (hk : isExpr k = true) (h : IsT a d) : IsT (over1 k a) (d + 1) := by
 refine ⟨fun q => ?_, by have := h.2.1; simp [Px.over1]; omega, _, _, rfl, hk⟩
 obtain ⟨n, hl, hn⟩ := h.1 q
 refine ⟨n + 1, by simp [Px.over1]; omega, ?_⟩
 simp only [Px.over1, List.cons_append]
 unfold tr
 rw [if_neg (by show ¬ (1 : Int) = 0; decide), if_pos rfl, hn]
 rfl
theorem IsT.over2 {a b : List Nd} {d e : Nat} (k : Int) (hk : isExpr k = true) (h : IsT a d) (h' : IsT b e) : IsT (over2 k a b) (max d e + 1) := by
 refine ⟨fun q => ?_, by have := h.2.1; have := h'.2.1; simp [Px.over2]; omega, _, _, rfl, hk⟩
 obtain ⟨n, hl, hn⟩ := h.1 (b ++ q)
 obtain ⟨m, hl', hm⟩ := h'.1 q
 refine ⟨max n m + 1, by simp [Px.over2]; omega, ?_⟩
 simp only [Px.over2, List.cons_append, List.append_assoc]
 unfold tr
 rw [if_neg (by show ¬ (2 : Int) = 0; decide), if_neg (by show ¬ (2 : Int) = 1; decide), if_pos rfl, tr_grows n _ (max n m) _ (Nat.le_max_left _ _) hn]
 show (tr (max n m) (b ++ q)).bind _ = _
 rw [tr_grows m _ (max n m) _ (Nat.le_max_right _ _) hm]
 rfl
theorem opIn_expr : ∀ (l : List (Nat × Bs × Nat)) (lv : Nat) (s : Bs), (∀ x ∈ l, 23 ≤ x.2.2 ∧ x.2.2 ≤ 36) → opIn l lv s ≠ 0 → 23 ≤ opIn l lv s ∧ opIn l lv s ≤ 36
 | [], _, _, _, h => absurd rfl h
 | x :: r, lv, s, hx, h => by
  unfold opIn at h ⊢
  split
  · exact hx x (by simp)
  · rename_i c
    rw [if_neg c] at h
    exact opIn_expr r lv s (fun y hy => hx y (by simp [hy])) h
theorem oper_one (m : Nat) (t : Tok) (r : List Tok) : oper m (t :: r) = if t.kind = 50 ∨ t.kind = 51 then opIn opTab m t.text else 0 := rfl
theorem oper_range {m : Nat} {ts : List Tok} (h : oper m ts ≠ 0) : 23 ≤ oper m ts ∧ oper m ts ≤ 36 := by
 cases ts with
 | nil => exact absurd rfl h
 | cons t r =>
  rw [oper_one] at h ⊢
  split
  · rename_i c
    rw [if_pos c] at h
    exact opIn_expr opTab m t.text (by decide) h
  · rename_i c
    rw [if_neg c] at h
    exact absurd rfl h
def IsS (l : List Nd) (d : Nat) : Prop := ∀ q e, (∃ n, n ≤ q.length + 1 ∧ deep n q = some e) → ∃ n, n ≤ (l ++ q).length + 1 ∧ deep n (l ++ q) = some (max d e)
theorem deep_grows : ∀ n l, ∀ m r, n ≤ m → deep n l = some r → deep m l = some r := by
 intro n
 induction n with
 | zero => intro l m r _ h; cases h
 | succ n ih =>
  intro l m r hm h
  cases m with
  | zero => omega
  | succ m =>
   cases l with
   | nil => exact h
   | cons x t =>
    unfold deep at h ⊢
    split at h
    · rename_i c
      rw [if_pos c]
      obtain ⟨y, h1, h2⟩ := Option.bind_eq_some_iff.1 h
      obtain ⟨z, h3, h4⟩ := Option.bind_eq_some_iff.1 h2
      rw [tr_grows (n + 1) _ (m + 1) y (by omega) h1]
      show (deep m y.2).bind _ = _
      rw [ih y.2 m z (by omega) h3]; exact h4
    · rename_i c
      rw [if_neg c]
      exact ih t m r (by omega) h
theorem IsS.nil : IsS [] 0 := fun q e ⟨n, h1, h2⟩ => ⟨n, h1, by simpa using h2⟩
theorem IsS.append {a b : List Nd} {d e : Nat} (h : IsS a d) (h' : IsS b e) : IsS (a ++ b) (max d e) := by
 intro q f hq
 have := h (b ++ q) _ (h' q f hq)
 rw [List.append_assoc, Nat.max_assoc]
 exact this
theorem IsS.plain (x : Nd) (h : isExpr x.kind = false) : IsS [x] 0 := by
 intro q e ⟨n, h1, h2⟩
 refine ⟨n + 1, by simp; omega, ?_⟩
 simp only [List.cons_append, List.nil_append]
 unfold deep
 rw [if_neg (by simp [h]), h2]
 simp
theorem IsS.tree {b : List Nd} {d : Nat} (h : IsT b d) : IsS b d := by
 intro q e ⟨n, h1, h2⟩
 obtain ⟨n1, hl, hn⟩ := h.1 q
 obtain ⟨x, r, rfl, hx⟩ := h.2.2
 refine ⟨max n n1 + 1, ?_, ?_⟩
 · rw [List.length_append]
   simp only [List.length_cons] at *
   omega
 · simp only [List.cons_append]
   unfold deep
   rw [if_pos hx]
   have : tr (max n n1 + 1) (x :: (r ++ q)) = some (d, q) := tr_grows n1 _ _ _ (by omega) hn
   rw [this]
   show (deep (max n n1) q).bind _ = _
   rw [deep_grows n q _ _ (Nat.le_max_left _ _) h2]
   rfl
theorem IsS.deep {l : List Nd} {d : Nat} (h : IsS l d) : Px.deep (l.length + 1) l = some d := by
 obtain ⟨n, h1, h2⟩ := h [] 0 ⟨1, by simp, rfl⟩
 rw [List.append_nil, Nat.max_zero] at h2
 exact deep_grows n l _ _ (by simpa using h1) h2
theorem IsS.cons {x : Nd} {l : List Nd} {d : Nat} (hx : isExpr x.kind = false) (h : IsS l d) : IsS (x :: l) d := by
 have := (IsS.plain x hx).append h
 rwa [Nat.zero_max] at this
end Px
end
theorem hd {p : Prop} (h : p) : Hid p := h
theorem ret_bool {a b : Bool} (h : a = b) : Ending.returned (.bool a) = .returned (.bool b) := by rw [h]
theorem drop_at (s : ByteArray) (k : Nat) (h : k < s.size) : s.data.toList.drop k = s[k] :: s.data.toList.drop (k + 1) := by
 rw [List.drop_eq_getElem_cons (by simpa using h)]; rfl
theorem cnt_at (p : UInt8 → Bool) (s : ByteArray) (k : Nat) (h : k < s.size) : Lx.cnt p (s.data.toList.drop k) = if p s[k] = true then Lx.cnt p (s.data.toList.drop (k + 1)) + 1 else 0 := by
 rw [drop_at s k h]; rfl
theorem cnt_end (p : UInt8 → Bool) (s : ByteArray) (k : Nat) (h : s.size ≤ k) : Lx.cnt p (s.data.toList.drop k) = 0 := by
 rw [List.drop_eq_nil_of_le (by simpa using h)]; rfl
theorem folB_drop (l : Lx.Bs) (a i lo hi : Nat) : Lx.folB (l.drop a) i lo hi = Lx.folB l (a + i) lo hi := by
 unfold Lx.folB; rw [List.getElem?_drop]
def charB (b : Nat) (two near three four : Bool) : Nat :=
 if b < 128 then 1
 else if (194 ≤ b ∧ b ≤ 223) ∧ two = true then 2
 else if (224 ≤ b ∧ b ≤ 239) ∧ near = true ∧ three = true then 3
 else if (240 ≤ b ∧ b ≤ 244) ∧ near = true ∧ three = true ∧ four = true then 4
 else 0
theorem charN_at (s : ByteArray) (a : Nat) (h : a < s.size) : Lx.charN (s.data.toList.drop a) =
   charB s[a].toNat (Lx.folB s.data.toList (a + 1) 128 191) (Lx.folB s.data.toList (a + 1) (Lx.loOf s[a].toNat) (Lx.hiOf s[a].toNat)) (Lx.folB s.data.toList (a + 2) 128 191) (Lx.folB s.data.toList (a + 3) 128 191) := by
 have e := drop_at s a h
 have f : ∀ i lo hi, Lx.folB (s[a] :: s.data.toList.drop (a + 1)) i lo hi = Lx.folB s.data.toList (a + i) lo hi := by
  intro i lo hi; rw [← e, folB_drop]
 rw [e]
 simp only [Lx.charN, charB, f]
theorem contains_at (ss : List Lx.Bs) (x : Lx.Bs) (k : Nat) (h : k < ss.length) : Lx.hasB (ss.drop k) x = (ss.getD k [] == x || Lx.hasB (ss.drop (k + 1)) x) := by
 rw [List.drop_eq_getElem_cons h, List.getD_eq_getElem?_getD, List.getElem?_eq_getElem h]
 rfl
def strRow (ss : List Lx.Bs) : Array Value := (ss.map fun x => Value.string ⟨x.toArray⟩).toArray
theorem betw_other (m : UInt8) (b : UInt8) (r : Lx.Bs) (h : b ≠ m) : Lx.betw m (b :: r) = (Lx.betw m r).map (fun x => (b :: x.1, x.2 + 1)) := by
 cases r with
 | nil => simp [Lx.betw, h]
 | cons c r => simp [Lx.betw, h]
def BetwAt (m : UInt8) (l : Lx.Bs) (k : Nat) (acc : Lx.Bs) : Prop :=
 Lx.betw m l = (Lx.betw m (l.drop k)).map (fun x => (acc ++ x.1, x.2 + k)) ∧ acc.length ≤ k
theorem BetwAt.start (m : UInt8) (l : Lx.Bs) : BetwAt m l 0 [] := by
 unfold BetwAt
 simp
theorem BetwAt.other {m : UInt8} {l : Lx.Bs} {k : Nat} {acc : Lx.Bs} {b : UInt8} {r : Lx.Bs} (h : BetwAt m l k acc) (e : l.drop k = b :: r) (hb : b ≠ m) : BetwAt m l (k + 1) (acc ++ [b]) := by
 unfold BetwAt at *
 have e2 : l.drop (k + 1) = r := by rw [← List.drop_drop, e]; rfl
 refine ⟨?_, by simp; omega⟩
 rw [h.1, e, betw_other m b r hb, e2, Option.map_map]
 congr 1
 funext x
 simp; omega
theorem BetwAt.double {m : UInt8} {l : Lx.Bs} {k : Nat} {acc : Lx.Bs} {r : Lx.Bs} (h : BetwAt m l k acc) (e : l.drop k = m :: m :: r) : BetwAt m l (k + 2) (acc ++ [m]) := by
 unfold BetwAt at *
 have e2 : l.drop (k + 2) = r := by rw [← List.drop_drop, e]; rfl
 refine ⟨?_, by simp; omega⟩
 rw [h.1, e, e2]
 simp only [Lx.betw, if_true, Option.map_map]
 congr 1
 funext x
 simp; omega
theorem BetwAt.last {m : UInt8} {l : Lx.Bs} {k : Nat} {acc : Lx.Bs} {r : Lx.Bs} (h : BetwAt m l k acc) (e : l.drop k = m :: r) (hr : r.head? ≠ some m) : Lx.betw m l = some (acc, k + 1) := by
 unfold BetwAt at *
 rw [h.1, e]
 cases r with
 | nil => simp [Lx.betw]; omega
 | cons c r =>
  have : c ≠ m := by simpa using hr
  simp [Lx.betw, this]; omega
def Blk (w : World) (b : Nat) (cs : Array Value) (t : TypeId) : Prop := w.heap[b]? = some (.cells cs t (0, 0))
theorem Blk.cell {w : World} {b : Nat} {cs : Array Value} {t : TypeId} (h : Blk w b cs t) (i : Nat) : w.cell? ⟨b, i, none⟩ = cs[i]? := cell_of_row w b i cs t (0, 0) h
theorem Blk.free {w : World} {b : Nat} {cs : Array Value} {t : TypeId} (h : Blk w b cs t) (i : Nat) : w.frozen? ⟨b, i, none⟩ = false := by
 unfold Blk at h
 simp [World.frozen?, h]
theorem Blk.lt {w : World} {b : Nat} {cs : Array Value} {t : TypeId} (h : Blk w b cs t) : b < w.heap.size := (Array.getElem?_eq_some_iff.1 h).1
theorem Blk.new (w : World) (cs : Array Value) (t : TypeId) : Blk (w.alloc (.cells cs t)) w.heap.size cs t := heap_alloc_new w _
theorem Blk.alloc {w : World} {b : Nat} {cs : Array Value} {t : TypeId} (h : Blk w b cs t) (o : Obj) : Blk (w.alloc o) b cs t := by
 unfold Blk at *
 show (w.heap.push o)[b]? = _
 rw [Array.getElem?_push_lt (Array.getElem?_eq_some_iff.1 h).1, ← Array.getElem?_eq_getElem]; exact h
theorem Blk.below {W w1 : World} {b B : Nat} {cs : Array Value} {t : TypeId} (h : Blk W b cs t) (hb : Below B W w1) (hlt : b < B) : Blk w1 b cs t := by
 unfold Blk at *
 rw [hb.block b hlt]; exact h
theorem Blk.drew {w : World} {b : Nat} {cs : Array Value} {t : TypeId} (h : Blk w b cs t) : Blk w.drew b cs t := h
theorem Blk.set {w : World} {b : Nat} {cs : Array Value} {t : TypeId} (h : Blk w b cs t) (i : Nat) (v : Value) : Blk (w.setCell ⟨b, i, none⟩ v) b (cs.setIfInBounds i v) t := by
 unfold Blk at *
 simp only [World.setCell, Array.getElem?_modify, if_true, h]
 rfl
theorem Blk.far {w : World} {b : Nat} {cs : Array Value} {t : TypeId} (h : Blk w b cs t) (p : Addr) (v : Value) (hp : p.block ≠ b) : Blk (w.setCell p v) b cs t := by
 unfold Blk at *
 rw [Below.heap_setCell _ _ _ _ (Ne.symm hp)]; exact h
theorem Blk.three {w : World} {b : Nat} {x y z : Value} {t : TypeId} (h : Blk w b #[x, y, z] t) :
   (w.cell? ⟨b, 0, none⟩ = some x ∧ w.cell? ⟨b, 1, none⟩ = some y ∧ w.cell? ⟨b, 2, none⟩ = some z) ∧ w.frozen? ⟨b, 0, none⟩ = false ∧ w.frozen? ⟨b, 1, none⟩ = false ∧ w.frozen? ⟨b, 2, none⟩ = false :=
 ⟨⟨h.cell 0, h.cell 1, h.cell 2⟩, h.free 0, h.free 1, h.free 2⟩
theorem oneT_letter (s : ByteArray) (a : Nat) (h : a < s.size) (hl : Lx.isLet s[a] = true) : Lx.oneT (s.data.toList.drop a) =
   if Lx.hasB Lx.keys (((s.data.toList.drop a).take (Lx.cnt Lx.isWd (s.data.toList.drop a))).map Lx.upB) then .ok (50, ((s.data.toList.drop a).take (Lx.cnt Lx.isWd (s.data.toList.drop a))).map Lx.upB, Lx.cnt Lx.isWd (s.data.toList.drop a))
   else .ok (18, ((s.data.toList.drop a).take (Lx.cnt Lx.isWd (s.data.toList.drop a))).map Lx.lowB, Lx.cnt Lx.isWd (s.data.toList.drop a)) := by
 have e := drop_at s a h
 rw [e]
 simp only [Lx.oneT, hl, if_true]
theorem oneT_digit (s : ByteArray) (a : Nat) (h : a < s.size) (hl : Lx.isLet s[a] = false) (hd : Lx.isDig s[a] = true) : Lx.oneT (s.data.toList.drop a) =
   if Lx.cnt Lx.isDig (s.data.toList.drop a) < Lx.cnt Lx.isWd (s.data.toList.drop a) then .error 2
   else if Lx.overTop (Lx.leastB ((s.data.toList.drop a).take (Lx.cnt Lx.isDig (s.data.toList.drop a)))) then .error 3
   else .ok (16, Lx.leastB ((s.data.toList.drop a).take (Lx.cnt Lx.isDig (s.data.toList.drop a))), Lx.cnt Lx.isDig (s.data.toList.drop a)) := by
 have e := drop_at s a h
 rw [e]
 simp only [Lx.oneT, hl, hd, if_true, if_false, Bool.false_eq_true]
theorem oneT_quote (s : ByteArray) (a : Nat) (h : a < s.size) (hl : Lx.isLet s[a] = false) (hd : Lx.isDig s[a] = false) (hq : s[a].toNat = 39 ∨ s[a].toNat = 34) : Lx.oneT (s.data.toList.drop a) =
   match Lx.betw s[a] (s.data.toList.drop (a + 1)) with
    | none => .error 2
    | some (t, n) =>
     if Lx.validN t = false ∨ (s[a].toNat = 34 ∧ t = []) then .error 2
     else .ok (if s[a].toNat = 34 then 18 else 17, t, n + 1) := by
 have e := drop_at s a h
 rw [e]
 simp only [Lx.oneT, hl, hd, if_true, if_false, Bool.false_eq_true]
 rw [if_pos hq]
 all_goals (rcases Lx.betw s[a] (s.data.toList.drop (a + 1)) with _ | ⟨t, n⟩ <;> rfl)
theorem oneT_sign (s : ByteArray) (a : Nat) (h : a < s.size) (hl : Lx.isLet s[a] = false) (hd : Lx.isDig s[a] = false) (hq : ¬ (s[a].toNat = 39 ∨ s[a].toNat = 34)) : Lx.oneT (s.data.toList.drop a) =
   if 2 ≤ s.size - a ∧ Lx.hasB Lx.twos ((s.data.toList.drop a).take 2) = true then .ok (51, (s.data.toList.drop a).take 2, 2)
   else if Lx.hasB Lx.ones ((s.data.toList.drop a).take 1) = true then .ok (51, (s.data.toList.drop a).take 1, 1)
   else .error 2 := by
 have e := drop_at s a h
 have el : (s.data.toList.drop a).length = s.size - a := by simp
 rw [← el, e]
 simp only [Lx.oneT, hl, hd, if_true, if_false, Bool.false_eq_true]
 rw [if_neg hq]
def tokV (t : Lx.Tok) : List Value := [.int .i64 (t.kind : Int), .string ⟨t.text.toArray⟩, .int .i64 (t.pos : Int)]
def toksV : List Lx.Tok → List Value
 | [] => []
 | t :: ts => tokV t ++ toksV ts
theorem toksV_append : ∀ a b : List Lx.Tok, toksV (a ++ b) = toksV a ++ toksV b
 | [], b => rfl
 | t :: a, b => by simp [toksV, toksV_append a b]
theorem toksV_one (t : Lx.Tok) : toksV [t] = tokV t := by simp [toksV]
def LexAt (l : Lx.Bs) (k : Nat) (ts : List Lx.Tok) : Prop :=
 ts.length ≤ k ∧ Lx.lexM 0 (Lx.skipN l) (l.drop (Lx.skipN l)) = match Lx.lexM 0 k (l.drop k) with
  | .ok r => .ok (ts ++ r)
  | .error e => .error e
theorem LexAt.start (l : Lx.Bs) : LexAt l (Lx.skipN l) [] := by
 refine ⟨by simp, ?_⟩
 cases Lx.lexM 0 (Lx.skipN l) (l.drop (Lx.skipN l)) <;> simp
theorem LexAt.done {l : Lx.Bs} {k : Nat} {ts : List Lx.Tok} (h : LexAt l k ts) (hk : l.length ≤ k) : Lx.lexM 0 (Lx.skipN l) (l.drop (Lx.skipN l)) = .ok ts := by
 rw [h.2, List.drop_eq_nil_of_le hk]
 simp [Lx.lexM]
theorem LexAt.fail {l : Lx.Bs} {k e : Nat} {ts : List Lx.Tok} (h : LexAt l k ts) (hk : k < l.length) (h1 : Lx.oneT (l.drop k) = .error e) : Lx.lexM 0 (Lx.skipN l) (l.drop (Lx.skipN l)) = .error (k, e) := by
 rw [h.2]
 have e1 := List.drop_eq_getElem_cons hk
 rw [e1] at h1 ⊢
 rw [Lx.lexM_cons, h1]
theorem LexAt.step {l : Lx.Bs} {k c n : Nat} {t : Lx.Bs} {ts : List Lx.Tok} (h : LexAt l k ts) (hk : k < l.length) (h1 : Lx.oneT (l.drop k) = .ok (c, t, n)) : LexAt l (k + n + Lx.skipN (l.drop (k + n))) (ts ++ [⟨c, t, k⟩]) := by
 have hl := Lx.oneT_len h1
 refine ⟨by have := h.1; simp; omega, ?_⟩
 rw [h.2]
 have e1 := List.drop_eq_getElem_cons hk
 rw [e1] at h1 ⊢
 rw [Lx.lexM_cons, h1]
 dsimp only
 rw [← e1, List.drop_drop, List.drop_drop]
 cases Lx.lexM 0 (k + n + Lx.skipN (l.drop (k + n))) (l.drop (k + n + Lx.skipN (l.drop (k + n)))) <;> simp
theorem Below.grownBy {w w' : World} {row : Option Nat} (h : Below w.heap.size w w') : w.grownBy w' row := ⟨h.os, h.tape, h.output, h.size, fun k hk _ => h.block k hk⟩
theorem owns_below {w w1 : World} {base : Nat} {e : TypeId} {size : Nat} {v : Value} {n : Nat} {xs : List Value} (h : w.ownsRow base e size v n xs) (hb : Below w.heap.size w w1) : w1.ownsRow base e size v n xs :=
 h.kept (row := none) (Below.grownBy hb) (by cases v.ownBlock <;> simp)
theorem Tryz.info109 : (Tryz.prog.info? 109).map (fun i => (i.zero, i.size, i.bytes)) = some (some (.agg #[.int .i64 0, .string ⟨#[]⟩, .int .i64 0]), 3, 32) := by kernel_rfl
theorem three_news (w : World) (x y z : Value) (T : TypeId) (g : Nat) (hg : g = w.heap.size) : ∀ j u, [x, y, z][j]? = some u → (w.alloc (.cells #[x, y, z] T)).cell? ((⟨g, 0, none⟩ : Addr).add j) = some u := by
 intro j u hj
 subst hg
 rw [Addr.add_lit, Nat.zero_add, (Blk.new w #[x, y, z] T).cell j]
 rw [← hj]
 simp
theorem toksV_nth : ∀ (ts : List Lx.Tok) (k : Nat) (h : k < ts.length), (toksV ts)[k * 3]? = some (.int .i64 (ts[k].kind : Int)) ∧ (toksV ts)[k * 3 + 1]? = some (.string ⟨ts[k].text.toArray⟩) ∧ (toksV ts)[k * 3 + 2]? = some (.int .i64 (ts[k].pos : Int))
 | t :: ts, 0, _ => ⟨rfl, rfl, rfl⟩
 | t :: ts, k + 1, h => by
  have ih := toksV_nth ts k (by simpa using h)
  have e : ∀ j, (toksV (t :: ts))[j + 3]? = (toksV ts)[j]? := by
   intro j
   show (tokV t ++ toksV ts)[j + 3]? = _
   rw [List.getElem?_append_right (by simp [tokV])]
   simp [tokV]
  rw [show (k + 1) * 3 = k * 3 + 3 from by omega, show k * 3 + 3 + 1 = (k * 3 + 1) + 3 from by omega, show k * 3 + 3 + 2 = (k * 3 + 2) + 3 from by omega, e, e, e]
  simpa using ih
def hereT (ts : List Lx.Tok) (sz k : Nat) : Lx.Tok := (ts[k]?).getD ⟨0, [], sz⟩
def tokA (t : Lx.Tok) : Value := .agg #[.int .i64 (t.kind : Int), .string ⟨t.text.toArray⟩, .int .i64 (t.pos : Int)]
section
namespace Px
open Lx (Bs Tok)
inductive E where
 | null
 | bool (b : Bool)
 | num (z : Int)
 | str (s : Bs)
 | nm (s : Bs)
 | un (k : Nat) (e : E)
 | bin (k : Nat) (a b : E)
def E.nodes : E → List Nd
 | .null => leaf 14 [] 0
 | .bool b => leaf 15 [] (if b = true then 1 else 0)
 | .num z => leaf 16 [] z
 | .str s => leaf 17 s 0
 | .nm s => leaf 18 s 0
 | .un k e => over1 k e.nodes
 | .bin k a b => over2 k a.nodes b.nodes
def E.depth : E → Nat
 | .un _ e => e.depth + 1
 | .bin _ a b => max a.depth b.depth + 1
 | _ => 1
def E.size : E → Nat
 | .un _ e => e.size + 1
 | .bin _ a b => a.size + b.size + 1
 | _ => 1
def E.isNum : E → Bool
 | .num _ => true
 | _ => false
def E.ok (n : Nat) : E → Prop
 | .num z => -9223372036854775808 ≤ z ∧ z ≤ 9223372036854775807
 | .str s => s.length ≤ n
 | .nm s => s.length ≤ 30
 | .un k e => 19 ≤ k ∧ k ≤ 22 ∧ (k = 19 → e.isNum = false) ∧ e.ok n
 | .bin k a b => 23 ≤ k ∧ k ≤ 36 ∧ a.ok n ∧ b.ok n
 | _ => True
theorem E.nodes_length (e : E) : e.nodes.length = e.size := by
 induction e with
 | un k e ih => simp [E.nodes, E.size, over1, ih]
 | bin k a b iha ihb => simp [E.nodes, E.size, over2, iha, ihb]
 | _ => simp [E.nodes, E.size, leaf]
theorem E.size_pos (e : E) : 1 ≤ e.size := by cases e <;> simp [E.size]
theorem E.depth_le (e : E) : e.depth ≤ e.size := by
 induction e with
 | un k e ih => simp [E.depth, E.size]; omega
 | bin k a b iha ihb => simp [E.depth, E.size]; omega
 | _ => simp [E.depth, E.size]
theorem E.tree {n : Nat} (e : E) (h : e.ok n) : IsT e.nodes e.depth := by
 induction e with
 | un k e ih => exact (ih h.2.2.2).over1 _ (by have := h.1; have := h.2.1; simp [isExpr]; omega)
 | bin k a b iha ihb => exact (iha h.2.2.1).over2 _ (by have := h.1; have := h.2.1; simp [isExpr]; omega) (ihb h.2.2.2)
 | null => exact IsT.leaf _ _ _ (by decide)
 | bool b => exact IsT.leaf _ _ _ (by decide)
 | num b => exact IsT.leaf _ _ _ (by decide)
 | str b => exact IsT.leaf _ _ _ (by decide)
 | nm b => exact IsT.leaf _ _ _ (by decide)
theorem negate_num (p : Nat) (z : Int) (r : List Tok) : negate p (E.num z).nodes r = if z = bot then some (.error (p, 3)) else some (.ok ((E.num (-z)).nodes, r)) := by
 simp only [E.nodes, leaf, negate]
 rw [if_neg (by decide)]
theorem negate_not (p n : Nat) (e : E) (r : List Tok) (h : e.isNum = false) (ho : e.ok n) : negate p e.nodes r = some (.ok ((E.un 19 e).nodes, r)) := by
 cases e with
 | num z => simp [E.isNum] at h
 | un k e =>
  have := ho.1; have := ho.2.1
  simp only [E.nodes, over1, negate]
  rw [if_pos (by omega)]; rfl
 | bin k a b =>
  have := ho.1; have := ho.2.1
  simp only [E.nodes, over2, negate]
  rw [if_pos (by omega)]; rfl
 | _ =>
  simp only [E.nodes, leaf, negate]
  rw [if_pos (by decide)]; rfl
end Px
end
section
namespace Px
open Lx (Bs Tok)
abbrev Rg (α : Type) := List Tok → Res α → Prop
def mapR {α β : Type} (f : α → β) : Res α → Res β
 | .error e => .error e
 | .ok (a, q) => .ok (f a, q)
def Rg.seq {α β : Type} (x : Rg α) (f : α → Rg β) : Rg β := fun ts r => ∃ r1, x ts r1 ∧ Then r1 f r
theorem Rg.err {α β : Type} {x : Rg α} {f : α → Rg β} {ts : List Tok} {e : Nat × Nat} (h : x ts (.error e)) : Rg.seq x f ts (.error e) := ⟨_, h, rfl⟩
theorem Rg.go {α β : Type} {x : Rg α} {f : α → Rg β} {ts q : List Tok} {a : α} {r : Res β} (h : x ts (.ok (a, q))) (h' : f a q r) : Rg.seq x f ts r := ⟨_, h, h'⟩
def Rg.ret {α : Type} (a : α) : Rg α := fun ts r => r = .ok (a, ts)
def mustR (sz : Nat) (s : Bs) : Rg Unit := fun ts r => must sz s ts = some r
def nameR (sz : Nat) : Rg Bs := fun ts r => name sz ts = some r
def exR (sz : Nat) : Rg E := fun ts r => Ex sz 1 [] ts (mapR E.nodes r) ∧ ∀ e q, r = .ok (e, q) → e.ok 2000 ∧ e.size + q.length ≤ ts.length
inductive Reach {α : Type} (x : Nat → Rg α) (ts : List Tok) : List α → List Tok → Prop
 | first {a : α} {q : List Tok} : x 0 ts (.ok (a, q)) → Reach x ts [a] q
 | step {l : List α} {q : List Tok} {a : α} {q' : List Tok} : Reach x ts l q → sees gComma q = true → x l.length q.tail (.ok (a, q')) → Reach x ts (l ++ [a]) q'
inductive Sep {α : Type} (x : Nat → Rg α) (ts : List Tok) : Res (List α) → Prop
 | err0 {e : Nat × Nat} : x 0 ts (.error e) → Sep x ts (.error e)
 | err {l : List α} {q : List Tok} {e : Nat × Nat} : Reach x ts l q → sees gComma q = true → x l.length q.tail (.error e) → Sep x ts (.error e)
 | stop {l : List α} {q : List Tok} : Reach x ts l q → sees gComma q = false → Sep x ts (.ok (l, q))
def contS {β : Type} (item : Nat → β → List Tok → Out β) (n : Nat) (b : β) (q : List Tok) : Out β := if sees gComma q = true then sep item n b q.tail else some (.ok (b, q))
theorem sep_succ {β : Type} (item : Nat → β → List Tok → Out β) (n : Nat) (a : β) (ts : List Tok) : sep item (n + 1) a ts = obind (item n a ts) (contS item n) := rfl
theorem sep_grows {β : Type} {item : Nat → β → List Tok → Out β} (h : ∀ b ts, Grows fun n => item n b ts) : ∀ b ts, Grows fun n => sep item n b ts := by
 have key : ∀ n k b ts r, n ≤ k → sep item n b ts = some r → sep item k b ts = some r := by
  intro n
  induction n with
  | zero => intro k b ts r _ hh; cases hh
  | succ n ih =>
   intro k b ts r hk hh
   cases k with
   | zero => omega
   | succ k =>
    rw [sep_succ] at hh ⊢
    rcases obind_some hh with ⟨e, h1, rfl⟩ | ⟨a, q, h1, h2⟩
    · rw [show item k b ts = _ from h b ts n k _ (by omega) h1]; rfl
    · rw [show item k b ts = _ from h b ts n k _ (by omega) h1]
      show contS item k a q = some r
      unfold contS at h2 ⊢
      split at h2
      · rename_i c; rw [if_pos c]; exact ih k _ _ _ (by omega) h2
      · rename_i c; rw [if_neg c]; exact h2
 intro b ts n k r hnk hh
 exact key n k b ts r hnk hh
theorem contS_grows {β : Type} {item : Nat → β → List Tok → Out β} (h : ∀ b ts, Grows fun n => item n b ts) (b : β) (q : List Tok) : Grows fun n => contS item n b q := by
 unfold contS
 exact grows_if (sep_grows h _ _) (grows_const _)
def Meets {α β : Type} (x : Nat → Rg α) (item : Nat → β → List Tok → Out β) (acc : List α → β) : Prop :=
 ∀ (l : List α) (ts : List Tok) (r : Res α), x l.length ts r → ∃ n, item n (acc l) ts = some (mapR (fun a => acc (l ++ [a])) r)
theorem reach_sep {α β : Type} {x : Nat → Rg α} {item : Nat → β → List Tok → Out β} {acc : List α → β} (hg : ∀ b ts, Grows fun n => item n b ts) (hm : Meets x item acc) {ts : List Tok} {l : List α} {q : List Tok} (h : Reach x ts l q) :
   ∀ r, (∃ n, contS item n (acc l) q = some r) → ∃ n, sep item n (acc []) ts = some r := by
 induction h with
 | first h1 =>
  rename_i a q
  rintro r ⟨n, hn⟩
  obtain ⟨k, hk⟩ := hm [] ts _ h1
  refine ⟨max n k + 1, ?_⟩
  rw [sep_succ, show item (max n k) (acc []) ts = _ from hg _ _ k _ _ (Nat.le_max_right _ _) hk]
  exact contS_grows hg _ _ n _ _ (Nat.le_max_left _ _) hn
 | step h1 hs hx ih =>
  rename_i l q a q'
  rintro r ⟨n, hn⟩
  obtain ⟨k, hk⟩ := hm l _ _ hx
  refine ih r ⟨max n k + 1, ?_⟩
  unfold contS
  rw [if_pos hs, sep_succ, show item (max n k) (acc l) q.tail = _ from hg _ _ k _ _ (Nat.le_max_right _ _) hk]
  exact contS_grows hg _ _ n _ _ (Nat.le_max_left _ _) hn
theorem sep_meets {α β : Type} {x : Nat → Rg α} {item : Nat → β → List Tok → Out β} {acc : List α → β} (hg : ∀ b ts, Grows fun n => item n b ts) (hm : Meets x item acc) {ts : List Tok} {r : Res (List α)} (h : Sep x ts r) :
   ∃ n, sep item n (acc []) ts = some (mapR acc r) := by
 cases h with
 | err0 h1 =>
  obtain ⟨k, hk⟩ := hm [] ts _ h1
  exact ⟨k + 1, by rw [sep_succ, hk]; rfl⟩
 | err h1 hs hx =>
  rename_i l q e
  obtain ⟨k, hk⟩ := hm l _ _ hx
  refine reach_sep hg hm h1 _ ⟨k + 1, ?_⟩
  unfold contS
  rw [if_pos hs, sep_succ, hk]; rfl
 | stop h1 hs =>
  refine reach_sep hg hm h1 _ ⟨0, ?_⟩
  unfold contS
  rw [if_neg (by simp [hs])]
  rfl
def Shrinks {α : Type} (x : Rg α) : Prop := ∀ ts a q, x ts (.ok (a, q)) → q.length ≤ ts.length
theorem Reach.len {α : Type} {x : Nat → Rg α} (hx : ∀ i, Shrinks (x i)) {ts : List Tok} {l : List α} {q : List Tok} (h : Reach x ts l q) : q.length + l.length ≤ ts.length + 1 := by
 induction h with
 | first h1 => have := hx _ _ _ _ h1; simp; omega
 | step h1 hs h2 ih =>
  have := hx _ _ _ _ h2
  have := sees_len hs
  simp; omega
inductive St where
 | create (t : Bs) (cols : List (Bs × Nat))
 | drop (t : Bs)
 | insert (t : Bs) (rows : List (List E))
 | delete (t : Bs) (w : Option E)
 | update (t : Bs) (sets : List (Bs × E)) (w : Option E)
 | select (items : List (Option E)) (t : Bs) (w : Option E) (orders : List (E × Bool)) (lim : Option Nat)
def colN (c : Bs × Nat) : Nd := ⟨2, c.1, c.2, 0⟩
def rowN (r : List E) : List Nd := ⟨5, [], 0, r.length⟩ :: r.flatMap E.nodes
def setN (s : Bs × E) : List Nd := ⟨8, s.1, 0, 1⟩ :: s.2.nodes
def itemN : Option E → List Nd
 | none => [⟨10, [], 0, 0⟩]
 | some e => e.nodes
def orderN (o : E × Bool) : List Nd := ⟨12, [], if o.2 = true then 1 else 0, 1⟩ :: o.1.nodes
def whereN : Option E → List Nd
 | none => []
 | some e => over1 11 e.nodes
def limN : Option Nat → List Nd
 | none => []
 | some n => [⟨13, [], n, 0⟩]
def one? {α : Type} : Option α → Nat
 | none => 0
 | some _ => 1
def St.nodes : St → List Nd
 | .create t c => ⟨1, t, 0, c.length⟩ :: c.map colN
 | .drop t => [⟨3, t, 0, 0⟩]
 | .insert t r => ⟨4, t, 0, r.length⟩ :: r.flatMap rowN
 | .delete t w => ⟨6, t, 0, one? w⟩ :: whereN w
 | .update t s w => ⟨7, t, 0, s.length + one? w⟩ :: (s.flatMap setN ++ whereN w)
 | .select i t w o l => ⟨9, t, 0, i.length + one? w + o.length + one? l⟩ :: (i.flatMap itemN ++ whereN w ++ o.flatMap orderN ++ limN l)
def deepest : List E → Nat
 | [] => 0
 | e :: l => max e.depth (deepest l)
def St.exprs : St → List E
 | .create _ _ => []
 | .drop _ => []
 | .insert _ r => r.flatten
 | .delete _ w => w.toList
 | .update _ s w => s.map (·.2) ++ w.toList
 | .select i _ w o _ => i.filterMap id ++ w.toList ++ o.map (·.1)
def kindR (sz : Nat) : Rg Nat := fun ts r =>
 if sees kINTEGER ts = true then r = .ok (1, ts.tail) else if sees kTEXT ts = true then r = .ok (2, ts.tail) else Rg.seq (mustR sz kBOOLEAN) (fun _ => Rg.ret 3) ts r
def nullR (sz : Nat) (n : Bs) (k : Nat) : Rg (Bs × Nat) := fun ts r =>
 if sees kNOT ts = true then Rg.seq (mustR sz kNULL) (fun _ => Rg.ret (n, k + 4)) ts.tail r else r = .ok ((n, k), ts)
def colR (sz : Nat) (i : Nat) : Rg (Bs × Nat) := fun ts r =>
 Rg.seq (nameR sz) (fun n q r => if 6 ≤ i then r = .error (plc sz ts, 4) else Rg.seq (kindR sz) (nullR sz n) q r) ts r
def createR (sz : Nat) : Rg St :=
 Rg.seq (mustR sz kTABLE) fun _ => Rg.seq (nameR sz) fun t => Rg.seq (mustR sz gOpen) fun _ => Rg.seq (Sep (colR sz)) fun l => Rg.seq (mustR sz gShut) fun _ => Rg.ret (.create t l)
def rowR (sz : Nat) : Rg (List E) := Rg.seq (mustR sz gOpen) fun _ => Rg.seq (Sep fun _ => exR sz) fun l => Rg.seq (mustR sz gShut) fun _ => Rg.ret l
def insertR (sz : Nat) : Rg St := Rg.seq (mustR sz kINTO) fun _ => Rg.seq (nameR sz) fun t => Rg.seq (mustR sz kVALUES) fun _ => Rg.seq (Sep fun _ => rowR sz) fun l => Rg.ret (.insert t l)
def whereR (sz : Nat) : Rg (Option E) := fun ts r => if sees kWHERE ts = true then Rg.seq (exR sz) (fun e => Rg.ret (some e)) ts.tail r else r = .ok (none, ts)
def setR (sz : Nat) : Rg (Bs × E) := Rg.seq (nameR sz) fun n => Rg.seq (mustR sz gEq) fun _ => Rg.seq (exR sz) fun e => Rg.ret (n, e)
def updateR (sz : Nat) : Rg St := Rg.seq (nameR sz) fun t => Rg.seq (mustR sz kSET) fun _ => Rg.seq (Sep fun _ => setR sz) fun l => Rg.seq (whereR sz) fun w => Rg.ret (.update t l w)
def itemR (sz : Nat) : Rg (Option E) := fun ts r => if sees gStar ts = true then r = .ok (none, ts.tail) else Rg.seq (exR sz) (fun e => Rg.ret (some e)) ts r
def descR (e : E) : Rg (E × Bool) := fun ts r =>
 if sees kDESC ts = true then r = .ok ((e, true), ts.tail) else if sees kASC ts = true then r = .ok ((e, false), ts.tail) else r = .ok ((e, false), ts)
def orderR (sz : Nat) : Rg (E × Bool) := Rg.seq (exR sz) descR
def ordersR (sz : Nat) : Rg (List (E × Bool)) := fun ts r => if sees kORDER ts = true then Rg.seq (mustR sz kBY) (fun _ => Sep fun _ => orderR sz) ts.tail r else r = .ok ([], ts)
def limR (sz : Nat) : Rg (Option Nat) := fun ts r => if sees kLIMIT ts = true then Rg.seq (fun ts r => limit sz ts = some r) (fun n => Rg.ret (some n)) ts.tail r else r = .ok (none, ts)
def selectR (sz : Nat) : Rg St :=
 Rg.seq (Sep fun _ => itemR sz) fun i => Rg.seq (mustR sz kFROM) fun _ => Rg.seq (nameR sz) fun t => Rg.seq (whereR sz) fun w => Rg.seq (ordersR sz) fun o => Rg.seq (limR sz) fun l => Rg.ret (.select i t w o l)
def dropR (sz : Nat) : Rg St := Rg.seq (mustR sz kTABLE) fun _ => Rg.seq (nameR sz) fun t => Rg.ret (.drop t)
def deleteR (sz : Nat) : Rg St := Rg.seq (mustR sz kFROM) fun _ => Rg.seq (nameR sz) fun t => Rg.seq (whereR sz) fun w => Rg.ret (.delete t w)
def stmtR (sz : Nat) : Rg St := fun ts r =>
 if sees kCREATE ts = true then createR sz ts.tail r else if sees kDROP ts = true then dropR sz ts.tail r else if sees kINSERT ts = true then insertR sz ts.tail r
 else if sees kDELETE ts = true then deleteR sz ts.tail r else if sees kUPDATE ts = true then updateR sz ts.tail r
 else Rg.seq (mustR sz kSELECT) (fun _ => selectR sz) ts r
def ParseR (s : Bs) (r : Except (Nat × Nat) St) : Prop :=
 match Lx.lex s with
 | .error e => r = .error e
 | .ok ts => ∃ q, stmtR s.length ts q ∧ match q with
  | .error e => r = .error e
  | .ok (a, u) => if u = [] then r = (if 40 < deepest a.exprs then .error (0, 6) else .ok a) else r = .error (plc s.length u, 4)
end Px
end
section
namespace Px
open Lx (Bs Tok)
def All {α : Type} (x : Rg α) (P : α → Prop) : Prop := ∀ ts a q, x ts (.ok (a, q)) → P a
theorem seq_ok {α β : Type} {x : Rg α} {f : α → Rg β} {ts : List Tok} {r : Res β} (h : Rg.seq x f ts r) : (∃ e, x ts (.error e) ∧ r = .error e) ∨ ∃ a q, x ts (.ok (a, q)) ∧ f a q r := by
 obtain ⟨r1, h1, h2⟩ := h
 match r1, h1, h2 with
 | .error e, h1, h2 => exact .inl ⟨e, h1, h2⟩
 | .ok (a, q), h1, h2 => exact .inr ⟨a, q, h1, h2⟩
theorem All.seq {α β : Type} {x : Rg α} {f : α → Rg β} {P : α → Prop} {Q : β → Prop} (hx : All x P) (hf : ∀ a, P a → All (f a) Q) : All (Rg.seq x f) Q := by
 intro ts b q h
 rcases seq_ok h with ⟨e, _, h2⟩ | ⟨a, q1, h1, h2⟩
 · cases h2
 · exact hf a (hx _ _ _ h1) _ _ _ h2
theorem All.ret {α : Type} {a : α} {P : α → Prop} (h : P a) : All (Rg.ret a) P := by
 intro ts b q hb
 cases hb; exact h
theorem All.any {α : Type} (x : Rg α) : All x fun _ => True := fun _ _ _ _ => trivial
theorem All.reach {α : Type} {x : Nat → Rg α} {P : α → Prop} (hx : ∀ i, All (x i) P) {ts : List Tok} {l : List α} {q : List Tok} (h : Reach x ts l q) : ∀ a ∈ l, P a := by
 induction h with
 | first h1 => intro a ha; simp at ha; subst ha; exact hx _ _ _ _ h1
 | step h1 hs h2 ih =>
  intro a ha
  rcases List.mem_append.1 ha with ha | ha
  · exact ih a ha
  · simp at ha; subst ha; exact hx _ _ _ _ h2
theorem All.sep {α : Type} {x : Nat → Rg α} {P : α → Prop} (hx : ∀ i, All (x i) P) : All (Sep x) fun l => ∀ a ∈ l, P a := by
 intro ts l q h
 cases h with
 | stop h1 _ => exact All.reach hx h1
theorem must_shrinks (sz : Nat) (s : Bs) : Shrinks (mustR sz s) := by
 intro ts a q h
 rcases must_some h with ⟨h1, h2⟩ | ⟨h1, h2⟩
 · cases h2; have := sees_len h1; omega
 · cases h2
theorem name_shrinks (sz : Nat) : Shrinks (nameR sz) := by
 intro ts a q h
 unfold nameR at h
 cases ts with
 | nil => simp [name] at h
 | cons t r =>
  simp only [name] at h
  split at h
  · cases h
  · split at h
    · cases h
    · cases h; simp
theorem ex_shrinks (sz : Nat) : Shrinks (exR sz) := by
 intro ts a q h
 have := (h.2 _ _ rfl).2
 have := a.size_pos
 omega
theorem Shrinks.seq {α β : Type} {x : Rg α} {f : α → Rg β} (hx : Shrinks x) (hf : ∀ a, Shrinks (f a)) : Shrinks (Rg.seq x f) := by
 intro ts b q h
 rcases seq_ok h with ⟨e, _, h2⟩ | ⟨a, q1, h1, h2⟩
 · cases h2
 · exact Nat.le_trans (hf a _ _ _ h2) (hx _ _ _ h1)
theorem Shrinks.ret {α : Type} (a : α) : Shrinks (Rg.ret a) := by intro ts b q h; cases h; exact Nat.le_refl _
theorem Shrinks.sep {α : Type} {x : Nat → Rg α} (hx : ∀ i, Shrinks (x i)) : Shrinks (Sep x) := by
 intro ts l q h
 cases h with
 | stop h1 _ =>
  have := h1.len hx
  have : 1 ≤ l.length := by cases h1 <;> simp
  omega
theorem tail_le (ts : List Tok) : ts.tail.length ≤ ts.length := by cases ts <;> simp
theorem kind_shrinks (sz : Nat) : Shrinks (kindR sz) := by
 intro ts a q h
 unfold kindR at h
 split at h
 · cases h; exact tail_le _
 · split at h
   · cases h; exact tail_le _
   · exact (must_shrinks sz _).seq (fun _ => Shrinks.ret _) _ _ _ h
theorem null_shrinks (sz : Nat) (n : Bs) (k : Nat) : Shrinks (nullR sz n k) := by
 intro ts a q h
 unfold nullR at h
 split at h
 · exact Nat.le_trans ((must_shrinks sz _).seq (fun _ => Shrinks.ret _) _ _ _ h) (tail_le _)
 · cases h; exact Nat.le_refl _
theorem col_shrinks (sz i : Nat) : Shrinks (colR sz i) := by
 intro ts a q h
 unfold colR at h
 rcases seq_ok h with ⟨e, _, h2⟩ | ⟨a, q1, h1, h2⟩
 · cases h2
 · have := name_shrinks sz _ _ _ h1
   split at h2
   · cases h2
   · exact Nat.le_trans ((kind_shrinks sz).seq (null_shrinks sz _) _ _ _ h2) this
theorem row_shrinks (sz : Nat) : Shrinks (rowR sz) := (must_shrinks sz _).seq fun _ => (Shrinks.sep fun _ => ex_shrinks sz).seq fun _ => (must_shrinks sz _).seq fun _ => Shrinks.ret _
theorem set_shrinks (sz : Nat) : Shrinks (setR sz) := (name_shrinks sz).seq fun _ => (must_shrinks sz _).seq fun _ => (ex_shrinks sz).seq fun _ => Shrinks.ret _
theorem item_shrinks (sz : Nat) : Shrinks (itemR sz) := by
 intro ts a q h
 unfold itemR at h
 split at h
 · cases h; exact tail_le _
 · exact (ex_shrinks sz).seq (fun _ => Shrinks.ret _) _ _ _ h
theorem order_shrinks (sz : Nat) : Shrinks (orderR sz) := (ex_shrinks sz).seq fun e => by
 intro ts a q h
 unfold descR at h
 split at h
 · cases h; exact tail_le _
 · split at h
   · cases h; exact tail_le _
   · cases h; exact Nat.le_refl _
theorem seq_meets {α β α' β' : Type} {x : Rg α} {f : α → Rg β} {X : Nat → Out α'} {F : Nat → α' → List Tok → Out β'} {g : α → α'} {h : β → β'} {ts : List Tok} {r : Res β}
   (hs : Rg.seq x f ts r) (h1 : ∀ r1, x ts r1 → ∃ n, X n = some (mapR g r1)) (h2 : ∀ a q, x ts (.ok (a, q)) → f a q r → ∃ n, F n (g a) q = some (mapR h r)) (hX : Grows X) (hF : ∀ a q, Grows fun n => F n a q) : ∃ n, obind (X n) (F n) = some (mapR h r) := by
 rcases seq_ok hs with ⟨e, ha, rfl⟩ | ⟨a, q, ha, hb⟩
 · obtain ⟨n, hn⟩ := h1 _ ha
   exact ⟨n, by rw [hn]; rfl⟩
 · obtain ⟨n, hn⟩ := h1 _ ha
   obtain ⟨k, hk⟩ := h2 a q ha hb
   refine ⟨max n k, ?_⟩
   rw [show X (max n k) = _ from hX n _ _ (Nat.le_max_left _ _) hn]
   exact hF _ _ k _ _ (Nat.le_max_right _ _) hk
theorem mapR_id {α : Type} (r : Res α) : mapR id r = r := by
 match r with
 | .error _ => rfl
 | .ok (_, _) => rfl
theorem must_meets {sz : Nat} {s : Bs} {ts : List Tok} : ∀ r1, mustR sz s ts r1 → ∃ _ : Nat, must sz s ts = some (mapR id r1) := fun _ h => ⟨0, by rw [mapR_id]; exact h⟩
theorem name_meets {sz : Nat} {ts : List Tok} : ∀ r1, nameR sz ts r1 → ∃ _ : Nat, name sz ts = some (mapR id r1) := fun _ h => ⟨0, by rw [mapR_id]; exact h⟩
theorem ex_meets {sz : Nat} {ts : List Tok} : ∀ r1, exR sz ts r1 → ∃ n : Nat, ex sz n 1 [] ts = some (mapR E.nodes r1) := fun _ h => h.1
theorem item_grows (sz : Nat) : ∀ b ts, Grows fun n => item sz n b ts := fun b ts => grows_bind (ex_grows sz 1 [] ts) fun _ _ => grows_const _
def accN {α : Type} (g : α → List Nd) (l : List α) : List Nd × Nat := (l.flatMap g, l.length)
theorem accN_snoc {α : Type} (g : α → List Nd) (l : List α) (a : α) : accN g (l ++ [a]) = ((accN g l).1 ++ g a, (accN g l).2 + 1) := by simp [accN]
theorem item_meets (sz : Nat) : Meets (fun _ => exR sz) (item sz) (accN E.nodes) := by
 intro l ts r h
 obtain ⟨n, hn⟩ := h.1
 refine ⟨n, ?_⟩
 unfold item
 rw [hn]
 match r with
 | .error e => rfl
 | .ok (e, q) => simp only [mapR, obind, accN_snoc]
theorem row_grows (sz : Nat) : ∀ b ts, Grows fun n => row sz n b ts := fun b ts => grows_bind (grows_const _) fun _ _ => grows_bind (sep_grows (item_grows sz) _ _) fun _ _ => grows_bind (grows_const _) fun _ _ => grows_const _
theorem row_meets (sz : Nat) : Meets (fun _ => rowR sz) (row sz) (accN rowN) := by
 intro l ts r h
 unfold row
 refine seq_meets h must_meets (fun _ q _ h => ?_) ?_ (fun _ _ => ?_)
 refine seq_meets h (fun _ h1 => sep_meets (item_grows sz) (item_meets sz) h1) (fun m q _ h => ?_) ?_ (fun _ _ => ?_)
 refine seq_meets h must_meets (fun _ q _ h => ?_) ?_ (fun _ _ => ?_)
 refine ⟨0, ?_⟩
 cases h
 simp only [mapR, accN_snoc]
 rfl
 all_goals repeat' (first | exact grows_const _ | exact ex_grows _ _ _ _ | exact sep_grows (item_grows _) _ _ | refine grows_bind ?_ (fun _ _ => ?_) | refine grows_if ?_ ?_)
theorem where_grows (sz : Nat) (ts : List Tok) : Grows fun n => where_ sz n ts := grows_if (grows_bind (ex_grows sz 1 [] _) fun _ _ => grows_const _) (grows_const _)
theorem where_meets {sz : Nat} {ts : List Tok} : ∀ r, whereR sz ts r → ∃ n, where_ sz n ts = some (mapR (fun w => (whereN w, one? w)) r) := by
 intro r h
 unfold whereR at h
 unfold where_
 split at h
 · rename_i c
   simp only [if_pos c]
   refine seq_meets h ex_meets (fun e q _ h => ?_) ?_ (fun _ _ => ?_)
   cases h
   exact ⟨0, rfl⟩
   all_goals repeat' (first | exact grows_const _ | exact ex_grows _ _ _ _ | exact sep_grows (item_grows _) _ _ | refine grows_bind ?_ (fun _ _ => ?_) | refine grows_if ?_ ?_)
 · rename_i c
   simp only [if_neg c]
   cases h
   exact ⟨0, rfl⟩
theorem setOne_grows (sz : Nat) : ∀ b ts, Grows fun n => setOne sz n b ts := fun b ts => grows_bind (grows_const _) fun _ _ => grows_bind (grows_const _) fun _ _ => grows_bind (ex_grows sz 1 [] _) fun _ _ => grows_const _
theorem setOne_meets (sz : Nat) : Meets (fun _ => setR sz) (setOne sz) (accN setN) := by
 intro l ts r h
 unfold setOne
 refine seq_meets h name_meets (fun n q _ h => ?_) ?_ (fun _ _ => ?_)
 refine seq_meets h must_meets (fun _ q _ h => ?_) ?_ (fun _ _ => ?_)
 refine seq_meets h ex_meets (fun e q _ h => ?_) ?_ (fun _ _ => ?_)
 refine ⟨0, ?_⟩
 cases h
 simp only [mapR, accN_snoc]
 rfl
 all_goals repeat' (first | exact grows_const _ | exact ex_grows _ _ _ _ | refine grows_bind ?_ (fun _ _ => ?_) | refine grows_if ?_ ?_)
theorem pick_grows (sz : Nat) : ∀ b ts, Grows fun n => pick sz n b ts := fun b ts => grows_if (grows_const _) (item_grows sz b ts)
theorem pick_meets (sz : Nat) : Meets (fun _ => itemR sz) (pick sz) (accN itemN) := by
 intro l ts r h
 unfold itemR at h
 unfold pick
 split at h
 · rename_i c
   simp only [if_pos c]
   refine ⟨0, ?_⟩
   cases h
   simp only [mapR, accN_snoc]
   rfl
 · rename_i c
   simp only [if_neg c]
   unfold item
   refine seq_meets h ex_meets (fun e q _ h => ?_) ?_ (fun _ _ => ?_)
   refine ⟨0, ?_⟩
   cases h
   simp only [mapR, accN_snoc]
   rfl
   all_goals repeat' (first | exact grows_const _ | exact ex_grows _ _ _ _ | refine grows_bind ?_ (fun _ _ => ?_) | refine grows_if ?_ ?_)
theorem sees_two {s t : Bs} {ts : List Tok} (h : sees s ts = true) (hne : s ≠ t) : sees t ts = false := by
 obtain ⟨x, r, rfl⟩ := sees_cons h
 simp only [sees, Bool.and_eq_true, beq_iff_eq] at h
 simp only [sees, Bool.and_eq_false_iff, beq_eq_false_iff_ne]
 exact .inr (by rw [h.2]; exact hne)
theorem order_grows (sz : Nat) : ∀ b ts, Grows fun n => order sz n b ts := fun b ts => grows_bind (ex_grows sz 1 [] _) fun _ _ => grows_const _
theorem insert_meets {sz : Nat} {ts : List Tok} {r : Res St} (h : insertR sz ts r) : ∃ n, insert sz n ts = some (mapR St.nodes r) := by
 unfold insert
 refine seq_meets h must_meets (fun _ q _ h => ?_) ?_ (fun _ _ => ?_)
 refine seq_meets h name_meets (fun t q _ h => ?_) ?_ (fun _ _ => ?_)
 refine seq_meets h must_meets (fun _ q _ h => ?_) ?_ (fun _ _ => ?_)
 refine seq_meets h (fun _ h1 => sep_meets (row_grows sz) (row_meets sz) h1) (fun m q _ h => ?_) ?_ (fun _ _ => ?_)
 cases h
 exact ⟨0, rfl⟩
 all_goals repeat' (first | exact grows_const _ | exact ex_grows _ _ _ _ | exact where_grows _ _ | exact sep_grows (item_grows _) _ _ | exact sep_grows (row_grows _) _ _ | exact sep_grows (setOne_grows _) _ _ | exact sep_grows (pick_grows _) _ _ | exact sep_grows (order_grows _) _ _ | refine grows_bind ?_ (fun _ _ => ?_) | refine grows_if ?_ ?_)
theorem update_meets {sz : Nat} {ts : List Tok} {r : Res St} (h : updateR sz ts r) : ∃ n, update sz n ts = some (mapR St.nodes r) := by
 unfold update
 refine seq_meets h name_meets (fun t q _ h => ?_) ?_ (fun _ _ => ?_)
 refine seq_meets h must_meets (fun _ q _ h => ?_) ?_ (fun _ _ => ?_)
 refine seq_meets h (fun _ h1 => sep_meets (setOne_grows sz) (setOne_meets sz) h1) (fun m q _ h => ?_) ?_ (fun _ _ => ?_)
 refine seq_meets h where_meets (fun w q _ h => ?_) ?_ (fun _ _ => ?_)
 cases h
 exact ⟨0, rfl⟩
 all_goals repeat' (first | exact grows_const _ | exact ex_grows _ _ _ _ | exact where_grows _ _ | exact sep_grows (item_grows _) _ _ | exact sep_grows (row_grows _) _ _ | exact sep_grows (setOne_grows _) _ _ | exact sep_grows (pick_grows _) _ _ | exact sep_grows (order_grows _) _ _ | refine grows_bind ?_ (fun _ _ => ?_) | refine grows_if ?_ ?_)
theorem delete_meets {sz : Nat} {ts : List Tok} {r : Res St} (h : deleteR sz ts r) : ∃ n, delete sz n ts = some (mapR St.nodes r) := by
 unfold delete
 refine seq_meets h must_meets (fun _ q _ h => ?_) ?_ (fun _ _ => ?_)
 refine seq_meets h name_meets (fun t q _ h => ?_) ?_ (fun _ _ => ?_)
 refine seq_meets h where_meets (fun w q _ h => ?_) ?_ (fun _ _ => ?_)
 cases h
 exact ⟨0, rfl⟩
 all_goals repeat' (first | exact grows_const _ | exact ex_grows _ _ _ _ | exact where_grows _ _ | exact sep_grows (item_grows _) _ _ | exact sep_grows (row_grows _) _ _ | exact sep_grows (setOne_grows _) _ _ | exact sep_grows (pick_grows _) _ _ | exact sep_grows (order_grows _) _ _ | refine grows_bind ?_ (fun _ _ => ?_) | refine grows_if ?_ ?_)
theorem drop_meets {sz : Nat} {ts : List Tok} {r : Res St} (h : dropR sz ts r) : ∃ _ : Nat, drop sz ts = some (mapR St.nodes r) := by
 unfold drop
 refine seq_meets h must_meets (fun _ q _ h => ?_) ?_ (fun _ _ => ?_)
 refine seq_meets h name_meets (fun t q _ h => ?_) ?_ (fun _ _ => ?_)
 cases h
 exact ⟨0, rfl⟩
 all_goals repeat' (first | exact grows_const _ | exact ex_grows _ _ _ _ | exact where_grows _ _ | exact sep_grows (item_grows _) _ _ | exact sep_grows (row_grows _) _ _ | exact sep_grows (setOne_grows _) _ _ | exact sep_grows (pick_grows _) _ _ | exact sep_grows (order_grows _) _ _ | refine grows_bind ?_ (fun _ _ => ?_) | refine grows_if ?_ ?_)
end Px
end
section
namespace Px
open Lx (Bs Tok)
theorem orders_grows (sz : Nat) (x : List Nd × Nat) (ts : List Tok) : Grows fun n => orders sz n x ts := grows_if (grows_bind (grows_const _) fun _ _ => sep_grows (order_grows sz) _ _) (grows_const _)
theorem order_meets_on (sz : Nat) (x : List Nd × Nat) : Meets (fun _ => orderR sz) (order sz) (fun l => (x.1 ++ (accN orderN l).1, x.2 + (accN orderN l).2)) := by
 intro l ts r h
 unfold order
 refine seq_meets h ex_meets (fun e q _ h => ?_) (ex_grows _ _ _ _) (fun _ _ => grows_const _)
 refine ⟨0, ?_⟩
 unfold descR at h
 split at h
 · rename_i c
   rw [if_neg (by rw [sees_two c (by decide)]; decide), if_pos c]
   cases h
   simp only [mapR, accN_snoc, List.append_assoc, Nat.add_assoc]
   rfl
 · rename_i c
   split at h
   · rename_i c2
     rw [if_pos c2]
     cases h
     simp only [mapR, accN_snoc, List.append_assoc, Nat.add_assoc]
     rfl
   · rename_i c2
     rw [if_neg c2, if_neg c]
     cases h
     simp only [mapR, accN_snoc, List.append_assoc, Nat.add_assoc]
     rfl
theorem orders_meets {sz : Nat} {x : List Nd × Nat} {ts : List Tok} : ∀ r, ordersR sz ts r → ∃ n, orders sz n x ts = some (mapR (fun l => (x.1 ++ (accN orderN l).1, x.2 + (accN orderN l).2)) r) := by
 intro r h
 unfold ordersR at h
 unfold orders
 split at h
 · rename_i c
   simp only [if_pos c]
   refine seq_meets h must_meets (fun _ q _ h => ?_) (grows_const _) (fun _ _ => sep_grows (order_grows sz) _ _)
   have := sep_meets (order_grows sz) (order_meets_on sz x) h
   simpa [accN] using this
 · rename_i c
   simp only [if_neg c]
   cases h
   exact ⟨0, by simp [mapR, accN]⟩
theorem limits_meets {sz : Nat} {x : List Nd × Nat} {ts : List Tok} : ∀ r, limR sz ts r → ∃ _ : Nat, limits sz x ts = some (mapR (fun l => (x.1 ++ limN l, x.2 + one? l)) r) := by
 intro r h
 unfold limR at h
 unfold limits
 split at h
 · rename_i c
   simp only [if_pos c]
   refine seq_meets (g := id) h (fun r1 h1 => ⟨0, by rw [mapR_id]; exact h1⟩) (fun _ q _ h => ?_) (grows_const _) (fun _ _ => grows_const _)
   cases h
   exact ⟨0, rfl⟩
 · rename_i c
   simp only [if_neg c]
   cases h
   exact ⟨0, by simp [mapR, limN, one?]⟩
theorem select_meets {sz : Nat} {ts : List Tok} {r : Res St} (h : selectR sz ts r) : ∃ n, choose sz n ts = some (mapR St.nodes r) := by
 unfold choose
 refine seq_meets h (fun _ h1 => sep_meets (pick_grows sz) (pick_meets sz) h1) (fun i q _ h => ?_) ?_ (fun _ _ => ?_)
 refine seq_meets h must_meets (fun _ q _ h => ?_) ?_ (fun _ _ => ?_)
 refine seq_meets h name_meets (fun t q _ h => ?_) ?_ (fun _ _ => ?_)
 refine seq_meets h where_meets (fun w q _ h => ?_) ?_ (fun _ _ => ?_)
 refine seq_meets h orders_meets (fun o q _ h => ?_) ?_ (fun _ _ => ?_)
 refine seq_meets h limits_meets (fun l q _ h => ?_) ?_ (fun _ _ => ?_)
 · refine ⟨0, ?_⟩
   cases h
   simp only [mapR, accN, St.nodes, id, Option.some.injEq, Except.ok.injEq, Prod.mk.injEq, List.cons.injEq, Nd.mk.injEq, true_and, and_true]
   omega
 all_goals repeat' (first | exact grows_const _ | exact where_grows _ _ | exact orders_grows _ _ _ | exact sep_grows (pick_grows _) _ _ | refine grows_bind ?_ (fun _ _ => ?_))
theorem kind_meets {sz : Nat} {q : List Tok} {r : Res Nat} (h : kindR sz q r) : kindP sz q = some (mapR (fun k : Nat => (k : Int)) r) ∨ ∃ q1, r = .ok (1, q1) ∧ sees kTEXT q1 = true ∧ kindP sz q = some (.error (plc sz q1, 4)) := by
 unfold kindR at h
 unfold kindP
 split at h
 · rename_i c
   rw [if_pos c]
   subst h
   by_cases ht : sees kTEXT q.tail = true
   · right; exact ⟨_, rfl, ht, by rw [if_pos ht]⟩
   · left; rw [if_neg ht]; rfl
 · rename_i c
   rw [if_neg c]
   left
   split at h
   · rename_i c2
     rw [if_pos c2, h]; rfl
   · rename_i c2
     rw [if_neg c2]
     rcases seq_ok h with ⟨e, h1, rfl⟩ | ⟨a, q1, h1, h2⟩
     · rw [show must sz kBOOLEAN q = _ from h1]; rfl
     · rw [show must sz kBOOLEAN q = _ from h1]
       cases h2; rfl
theorem col_meets (sz : Nat) {l : List (Bs × Nat)} {ts : List Tok} {r : Res (Bs × Nat)} (hl : l.length ≤ 6) (h : colR sz l.length ts r) :
   col sz (l.map colN) ts = some (mapR (fun a => (l ++ [a]).map colN) r) ∨ ∃ a q, r = .ok (a, q) ∧ sees kTEXT q = true ∧ col sz (l.map colN) ts = some (.error (plc sz q, 4)) := by
 unfold colR at h
 unfold col
 rcases seq_ok h with ⟨e, h1, rfl⟩ | ⟨n, q, h1, h2⟩
 · left
   rw [show name sz ts = _ from h1]; rfl
 · rw [show name sz ts = _ from h1]
   simp only [obind, List.length_map]
   split at h2
   · rename_i c
     subst h2
     left; rw [if_pos (by omega)]; rfl
   · rename_i c
     rw [if_neg (by omega)]
     rcases seq_ok h2 with ⟨e, h3, rfl⟩ | ⟨k, q1, h3, h4⟩
     · rcases kind_meets h3 with h5 | ⟨_, h5, _⟩
       · left; rw [h5]; rfl
       · cases h5
     · rcases kind_meets h3 with h5 | ⟨q2, h5, h6, h7⟩
       · left
         rw [h5]
         simp only [mapR]
         unfold nullR at h4
         split at h4
         · rename_i c2
           rw [if_pos c2]
           rcases seq_ok h4 with ⟨e, h8, rfl⟩ | ⟨_, q3, h8, h9⟩
           · rw [show must sz kNULL q1.tail = _ from h8]
           · rw [show must sz kNULL q1.tail = _ from h8]
             cases h9
             simp [mapR, colN]
         · rename_i c2
           rw [if_neg c2]
           subst h4
           simp [mapR, colN]
       · right
         cases h5
         have hn := sees_two h6 (t := kNOT) (by decide)
         unfold nullR at h4
         rw [if_neg (by simp [hn])] at h4
         exact ⟨_, _, h4, h6, by rw [h7]⟩
theorem col_grows (sz : Nat) : ∀ (b : List Nd) ts, Grows fun n => (fun (_ : Nat) l q => col sz l q) n b ts := fun _ _ => grows_const _
theorem reach_col {sz : Nat} {ts : List Tok} {l : List (Bs × Nat)} {q : List Tok} (h : Reach (colR sz) ts l q) :
   l.length ≤ 6 ∧ ((∀ r, (∃ n, contS (fun _ l q => col sz l q) n (l.map colN) q = some r) → ∃ n, sep (fun _ l q => col sz l q) n [] ts = some r) ∨ (sees kTEXT q = true ∧ ∃ n, sep (fun _ l q => col sz l q) n [] ts = some (.error (plc sz q, 4)))) := by
 have six : ∀ {i : Nat} {ts : List Tok} {a : Bs × Nat} {q : List Tok}, colR sz i ts (.ok (a, q)) → i < 6 := by
  intro i ts a q h
  unfold colR at h
  rcases seq_ok h with ⟨e, h1, h2⟩ | ⟨n, q, h1, h2⟩
  · cases h2
  · split at h2
    · cases h2
    · omega
 induction h with
 | first h1 =>
  rename_i a q
  refine ⟨by simp, ?_⟩
  rcases col_meets sz (l := []) (by simp) h1 with h2 | ⟨a', q', h3, h4, h5⟩
  · left
    rintro r ⟨n, hn⟩
    refine ⟨n + 1, ?_⟩
    rw [sep_succ]
    rw [show col sz [] ts = _ from h2]
    exact hn
  · right
    cases h3
    exact ⟨h4, 1, by rw [sep_succ, show col sz [] ts = _ from h5]; rfl⟩
 | step h1 hs hx ih =>
  rename_i l q a q'
  obtain ⟨i1, i2⟩ := ih
  have := six hx
  refine ⟨by simp; omega, ?_⟩
  rcases i2 with i2 | ⟨i2, _⟩
  · rcases col_meets sz i1 hx with h2 | ⟨a', q2, h3, h4, h5⟩
    · left
      rintro r ⟨n, hn⟩
      refine i2 r ⟨n + 1, ?_⟩
      unfold contS
      rw [if_pos hs, sep_succ, h2]
      exact hn
    · right
      cases h3
      refine ⟨h4, i2 _ ⟨1, ?_⟩⟩
      unfold contS
      rw [if_pos hs, sep_succ, h5]; rfl
  · exfalso
    rw [sees_two i2 (by decide)] at hs
    cases hs
theorem create_meets {sz : Nat} {ts : List Tok} {r : Res St} (h : createR sz ts r) : ∃ n, create sz n ts = some (mapR St.nodes r) := by
 unfold create
 refine seq_meets h must_meets (fun _ q _ h => ?_) (grows_const _) (fun _ _ => ?_)
 refine seq_meets h name_meets (fun t q _ h => ?_) (grows_const _) (fun _ _ => ?_)
 refine seq_meets h must_meets (fun _ q _ h => ?_) (grows_const _) (fun _ _ => ?_)
 · rcases seq_ok h with ⟨e, h1, rfl⟩ | ⟨l, q1, h1, h2⟩
   · have key : ∃ n, sep (fun _ l q => col sz l q) n [] q = some (.error e) := by
      cases h1 with
      | err0 h3 =>
       rcases col_meets sz (l := []) (by simp) h3 with h4 | ⟨_, _, h4, _⟩
       · exact ⟨1, by rw [sep_succ, show col sz [] q = _ from h4]; rfl⟩
       · cases h4
      | err h3 hs h4 =>
       rename_i l q2
       obtain ⟨i1, i2⟩ := reach_col h3
       rcases i2 with i2 | ⟨i2, _⟩
       · rcases col_meets sz i1 h4 with h5 | ⟨_, _, h5, _⟩
         · refine i2 _ ⟨1, ?_⟩
           unfold contS
           rw [if_pos hs, sep_succ, h5]; rfl
         · cases h5
       · exfalso
         rw [sees_two i2 (by decide)] at hs
         cases hs
     obtain ⟨n, hn⟩ := key
     exact ⟨n, by rw [hn]; rfl⟩
   · cases h1 with
     | stop h3 hs =>
      obtain ⟨i1, i2⟩ := reach_col h3
      rcases i2 with i2 | ⟨i2, n, hn⟩
      · obtain ⟨n, hn⟩ := i2 (.ok (l.map colN, q1)) ⟨0, by unfold contS; rw [if_neg (by simp [hs])]⟩
        refine ⟨n, ?_⟩
        rw [hn]
        simp only [obind]
        rcases seq_ok h2 with ⟨e, h4, rfl⟩ | ⟨_, q3, h4, h5⟩
        · rw [show must sz gShut q1 = _ from h4]; rfl
        · rw [show must sz gShut q1 = _ from h4]
          cases h5
          simp [mapR, St.nodes]
      · refine ⟨n, ?_⟩
        rw [hn]
        simp only [obind]
        rcases seq_ok h2 with ⟨e, h4, rfl⟩ | ⟨_, q3, h4, h5⟩
        · rcases must_some h4 with ⟨h6, _⟩ | ⟨_, h6⟩
          · rw [sees_two i2 (by decide)] at h6; cases h6
          · cases h6; rfl
        · rcases must_some h4 with ⟨h6, _⟩ | ⟨_, h6⟩
          · rw [sees_two i2 (by decide)] at h6; cases h6
          · cases h6
 all_goals repeat' (first | exact grows_const _ | exact sep_grows (col_grows sz) _ _ | refine grows_bind ?_ (fun _ _ => ?_))
def SgnOk (t : Tok) : Prop := t.kind = 51 → Lx.hasB Lx.keys t.text = false
theorem sees_key {s : Bs} {t : Tok} {r : List Tok} (hk : Lx.hasB Lx.keys s = true) (ht : SgnOk t) : (sees s (t :: r) = true) ↔ (t.kind = 50 ∧ t.text = s) := by
 simp only [sees, Bool.and_eq_true, Bool.or_eq_true, decide_eq_true_eq, beq_iff_eq]
 constructor
 · rintro ⟨h | h, h2⟩
   · exact ⟨h, h2⟩
   · have := ht h
     rw [h2, hk] at this
     cases this
 · rintro ⟨h1, h2⟩
   exact ⟨.inl h1, h2⟩
theorem stmt_meets {sz : Nat} {ts : List Tok} {r : Res St} (ht : ∀ t ∈ ts, SgnOk t) (h : stmtR sz ts r) : ∃ n, stmt sz n ts = some (mapR St.nodes r) := by
 unfold stmtR at h
 cases ts with
 | nil =>
  simp only [sees, Bool.false_eq_true, if_false] at h
  rcases seq_ok h with ⟨e, h1, rfl⟩ | ⟨_, q3, h1, h5⟩
  · exact ⟨0, by rcases must_some h1 with ⟨h6, _⟩ | ⟨_, h6⟩
                 · cases h6
                 · cases h6; rfl⟩
  · rcases must_some h1 with ⟨h6, _⟩ | ⟨_, h6⟩
    · cases h6
    · cases h6
 | cons t q =>
  have hs := ht t (by simp)
  have K : ∀ s, Lx.hasB Lx.keys s = true → ((sees s (t :: q) = true) ↔ (t.kind = 50 ∧ t.text = s)) := fun s hk => sees_key hk hs
  simp only [K kCREATE (by decide), K kDROP (by decide), K kINSERT (by decide), K kDELETE (by decide), K kUPDATE (by decide), List.tail_cons] at h
  by_cases h50 : t.kind = 50
  · simp only [h50, true_and] at h
    unfold stmt
    simp only [h50, ne_eq, not_true_eq_false, if_false]
    split at h
    · rename_i c; simp only [if_pos c]; exact create_meets h
    · rename_i c
      simp only [if_neg c]
      split at h
      · rename_i c; simp only [if_pos c]; exact drop_meets h
      · rename_i c
        simp only [if_neg c]
        split at h
        · rename_i c; simp only [if_pos c]; exact insert_meets h
        · rename_i c
          simp only [if_neg c]
          split at h
          · rename_i c; simp only [if_pos c]; exact delete_meets h
          · rename_i c
            simp only [if_neg c]
            split at h
            · rename_i c; simp only [if_pos c]; exact update_meets h
            · rename_i c
              simp only [if_neg c]
              rcases seq_ok h with ⟨e, h1, rfl⟩ | ⟨_, q3, h1, h5⟩
              · rcases must_some h1 with ⟨_, h6⟩ | ⟨h6, h7⟩
                · cases h6
                · cases h7
                  refine ⟨0, ?_⟩
                  rw [if_neg (fun e => by
                   have := (K kSELECT (by decide)).2 ⟨h50, e⟩
                   rw [h6] at this; cases this)]
                  rfl
              · rcases must_some h1 with ⟨h6, h7⟩ | ⟨_, h6⟩
                · cases h7
                  simp only [if_pos ((K kSELECT (by decide)).1 h6).2]
                  exact select_meets h5
                · cases h6
  · simp only [h50, false_and, if_false] at h
    unfold stmt
    simp only [h50, ne_eq, not_false_eq_true, if_true]
    rcases seq_ok h with ⟨e, h1, rfl⟩ | ⟨_, q3, h1, h5⟩
    · rcases must_some h1 with ⟨_, h6⟩ | ⟨h6, h7⟩
      · cases h6
      · cases h7; exact ⟨0, rfl⟩
    · rcases must_some h1 with ⟨h6, h7⟩ | ⟨_, h6⟩
      · exact absurd ((K kSELECT (by decide)).1 h6).1 h50
      · cases h6
end Px
end
section
namespace Px
open Lx (Bs Tok)
theorem deepest_append (a b : List E) : deepest (a ++ b) = max (deepest a) (deepest b) := by
 induction a with
 | nil => simp [deepest]
 | cons e a ih => simp [deepest, ih, Nat.max_assoc]
theorem IsS.exprs : ∀ (l : List E), (∀ e ∈ l, e.ok 2000) → IsS (l.flatMap E.nodes) (deepest l)
 | [], _ => IsS.nil
 | e :: l, h => by
  rw [List.flatMap_cons]
  exact (IsS.tree (e.tree (h e (by simp)))).append (IsS.exprs l (fun x hx => h x (by simp [hx])))
theorem IsS.flat {α : Type} (g : α → List Nd) (ex : α → List E) (h : ∀ a, (∀ e ∈ ex a, e.ok 2000) → IsS (g a) (deepest (ex a))) : ∀ (l : List α), (∀ e ∈ l.flatMap ex, e.ok 2000) → IsS (l.flatMap g) (deepest (l.flatMap ex))
 | [], _ => IsS.nil
 | a :: l, hl => by
  rw [List.flatMap_cons, List.flatMap_cons, deepest_append]
  exact (h a (fun e he => hl e (by simp [he]))).append (IsS.flat g ex h l (fun e he => hl e (by
   rw [List.flatMap_cons]; exact List.mem_append.2 (.inr he))))
theorem IsS.where_ (w : Option E) (h : ∀ e ∈ w.toList, e.ok 2000) : IsS (whereN w) (deepest w.toList) := by
 cases w with
 | none => exact IsS.nil
 | some e =>
  have := IsS.cons (x := ⟨11, [], 0, 1⟩) (by decide) (IsS.tree (e.tree (h e (by simp))))
  simpa [deepest, whereN, over1] using this
theorem flat_one {α β : Type} (f : α → β) (l : List α) : l.flatMap (fun x => [f x]) = l.map f := by
 induction l with
 | nil => rfl
 | cons a l ih => rw [List.flatMap_cons, ih]; rfl
theorem flat_none {α β : Type} (l : List α) : l.flatMap (fun _ => ([] : List β)) = [] := by
 induction l with
 | nil => rfl
 | cons a l ih => rw [List.flatMap_cons, ih]; rfl
theorem items_ex (i : List (Option E)) : i.filterMap id = i.flatMap Option.toList := by
 induction i with
 | nil => rfl
 | cons a i ih => cases a <;> simp [ih]
theorem St.isS (s : St) (h : ∀ e ∈ s.exprs, e.ok 2000) : IsS s.nodes (deepest s.exprs) := by
 cases s with
 | create t c =>
  refine IsS.cons (by decide : isExpr (1 : Int) = false) ?_
  have := IsS.flat (fun x => [colN x]) (fun _ => []) (fun a _ => IsS.plain _ rfl) c (by rw [flat_none]; intro e he; cases he)
  rw [flat_one, flat_none] at this
  exact this
 | drop t => exact IsS.plain _ rfl
 | insert t r =>
  refine IsS.cons (by decide : isExpr (4 : Int) = false) ?_
  have := IsS.flat rowN id (fun a ha => IsS.cons (by decide : isExpr (5 : Int) = false) (IsS.exprs a ha)) r (by simpa [St.exprs] using h)
  simpa [St.exprs] using this
 | delete t w => exact IsS.cons (by decide : isExpr (6 : Int) = false) (IsS.where_ w h)
 | update t s w =>
  refine IsS.cons (by decide : isExpr (7 : Int) = false) ?_
  have h1 := IsS.flat setN (fun x => [x.2]) (fun a ha => by
   have := IsS.cons (x := ⟨8, a.1, 0, 1⟩) rfl (IsS.tree (a.2.tree (ha a.2 (by simp))))
   simpa [deepest, setN] using this) s (fun e he => h e (by
    rw [flat_one] at he; exact List.mem_append.2 (.inl he)))
  have h2 := IsS.where_ w (fun e he => h e (by simp only [St.exprs]; exact List.mem_append.2 (.inr he)))
  have := h1.append h2
  rw [← deepest_append] at this
  rw [flat_one] at this
  exact this
 | select i t w o l =>
  refine IsS.cons (by decide : isExpr (9 : Int) = false) ?_
  simp only [St.exprs] at h ⊢
  rw [items_ex] at h ⊢
  have h1 := IsS.flat itemN Option.toList (fun a ha => by
   cases a with
   | none => exact IsS.plain _ rfl
   | some e => have := IsS.tree (e.tree (ha e (by simp))); simpa [deepest, itemN] using this) i (fun e he => h e (by simp only [List.mem_append]; exact .inl (.inl he)))
  have h2 := IsS.where_ w (fun e he => h e (by simp only [List.mem_append]; exact .inl (.inr he)))
  have h3 := IsS.flat orderN (fun x => [x.1]) (fun a ha => by
   have := IsS.cons (x := ⟨12, [], if a.2 = true then 1 else 0, 1⟩) rfl (IsS.tree (a.1.tree (ha a.1 (by simp))))
   simpa [deepest, orderN] using this) o (fun e he => h e (by
    rw [flat_one] at he; exact List.mem_append.2 (.inr he)))
  rw [flat_one] at h3
  have h4 : IsS (limN l) 0 := by
   cases l with
   | none => exact IsS.nil
   | some n => exact IsS.plain _ rfl
  have := ((h1.append h2).append h3).append h4
  rw [← deepest_append, ← deepest_append, Nat.max_zero] at this
  exact this
theorem ex_all (sz : Nat) : All (exR sz) fun e => e.ok 2000 := fun ts e q h => (h.2 _ _ rfl).1
theorem where_all (sz : Nat) : All (whereR sz) fun w => ∀ e ∈ w.toList, e.ok 2000 := by
 intro ts w q h
 unfold whereR at h
 split at h
 · exact (ex_all sz).seq (fun e he => All.ret (P := fun w => ∀ x ∈ Option.toList w, E.ok 2000 x) (by simpa using he)) _ _ _ h
 · cases h; simp
theorem stmt_all (sz : Nat) : All (stmtR sz) fun s : St => ∀ e ∈ s.exprs, E.ok 2000 e := by
 intro ts s q h
 unfold stmtR at h
 split at h
 · refine All.seq (All.any _) (fun _ _ => All.seq (All.any _) fun t _ => All.seq (All.any _) fun _ _ => All.seq (All.any _) fun l _ => All.seq (All.any _) fun _ _ => All.ret (P := fun s : St => ∀ e ∈ s.exprs, E.ok 2000 e) ?_) _ _ _ h
   simp [St.exprs]
 · split at h
   · refine All.seq (All.any _) (fun _ _ => All.seq (All.any _) fun t _ => All.ret (P := fun s : St => ∀ e ∈ s.exprs, E.ok 2000 e) ?_) _ _ _ h
     simp [St.exprs]
   · split at h
     · have hrow : All (rowR sz) fun l => ∀ e ∈ l, e.ok 2000 := All.seq (All.any _) fun _ _ => All.seq (All.sep fun _ => ex_all sz) fun l hl => All.seq (All.any _) fun _ _ => All.ret hl
       refine All.seq (All.any _) (fun _ _ => All.seq (All.any _) fun t _ => All.seq (All.any _) fun _ _ => All.seq (All.sep fun _ => hrow) fun l hl => All.ret (P := fun s : St => ∀ e ∈ s.exprs, E.ok 2000 e) ?_) _ _ _ h
       simp only [St.exprs, List.mem_flatten]
       rintro e ⟨r, h1, h2⟩
       exact hl r h1 e h2
     · split at h
       · refine All.seq (All.any _) (fun _ _ => All.seq (All.any _) fun t _ => All.seq (where_all sz) fun w hw => All.ret (P := fun s : St => ∀ e ∈ s.exprs, E.ok 2000 e) ?_) _ _ _ h
         exact hw
       · split at h
         · have hset : All (setR sz) fun x => x.2.ok 2000 := All.seq (All.any _) fun n _ => All.seq (All.any _) fun _ _ => All.seq (ex_all sz) fun e he => All.ret (P := fun x : Bs × E => x.2.ok 2000) he
           refine All.seq (All.any _) (fun t _ => All.seq (All.any _) fun _ _ => All.seq (All.sep fun _ => hset) fun l hl => All.seq (where_all sz) fun w hw => All.ret (P := fun s : St => ∀ e ∈ s.exprs, E.ok 2000 e) ?_) _ _ _ h
           simp only [St.exprs, List.mem_append, List.mem_map]
           rintro e (⟨x, h1, rfl⟩ | h1)
           · exact hl x h1
           · exact hw e h1
         · have hitem : All (itemR sz) fun x => ∀ e ∈ x.toList, e.ok 2000 := by
            intro ts w q h
            unfold itemR at h
            split at h
            · cases h; simp
            · exact (ex_all sz).seq (fun e he => All.ret (P := fun w => ∀ x ∈ Option.toList w, E.ok 2000 x) (by simpa using he)) _ _ _ h
           have horder : All (orderR sz) fun x => x.1.ok 2000 := (ex_all sz).seq fun e he => by
            intro ts x q h
            unfold descR at h
            split at h
            · cases h; exact he
            · split at h
              · cases h; exact he
              · cases h; exact he
           have horders : All (ordersR sz) fun l => ∀ x ∈ l, x.1.ok 2000 := by
            intro ts l q h
            unfold ordersR at h
            split at h
            · exact All.seq (All.any _) (fun _ _ => All.sep fun _ => horder) _ _ _ h
            · cases h; simp
           refine All.seq (All.any _) (fun _ _ => All.seq (All.sep fun _ => hitem) fun i hi => All.seq (All.any _) fun _ _ => All.seq (All.any _) fun t _ => All.seq (where_all sz) fun w hw => All.seq horders fun o ho => All.seq (All.any _) fun l _ => All.ret (P := fun s : St => ∀ e ∈ s.exprs, E.ok 2000 e) ?_) _ _ _ h
           simp only [St.exprs, List.mem_append, List.mem_map, items_ex, List.mem_flatMap]
           rintro e ((⟨x, h1, h2⟩ | h1) | ⟨x, h1, rfl⟩)
           · exact hi x h1 e h2
           · exact hw e h1
           · exact ho x h1
def mapE {α β : Type} (f : α → β) : Except (Nat × Nat) α → Except (Nat × Nat) β
 | .error e => .error e
 | .ok a => .ok (f a)
theorem oneT_sgn {l : Bs} {k : Nat} {t : Bs} {n : Nat} (h : Lx.oneT l = .ok (k, t, n)) (p : Nat) : SgnOk ⟨k, t, p⟩ := by
 intro hk
 simp only at hk
 subst hk
 have two : ∀ x : Bs, Lx.hasB Lx.twos x = true → Lx.hasB Lx.keys x = false := by
  intro x hx
  simp only [Lx.twos, Lx.hasB, Bool.or_eq_true, beq_iff_eq, Bool.false_eq_true, or_false] at hx
  rcases hx with rfl | rfl | rfl | rfl <;> decide
 have one : ∀ x : Bs, Lx.hasB Lx.ones x = true → Lx.hasB Lx.keys x = false := by
  intro x hx
  simp only [Lx.ones, Lx.hasB, Bool.or_eq_true, beq_iff_eq, Bool.false_eq_true, or_false] at hx
  rcases hx with rfl | rfl | rfl | rfl | rfl | rfl | rfl | rfl | rfl | rfl | rfl | rfl <;> decide
 unfold Lx.oneT at h
 split at h
 · simp at h
 · split at h
   · split at h <;> simp at h
   · split at h
     · split at h
       · simp at h
       · split at h <;> simp at h
     · split at h
       · split at h
         · simp at h
         · split at h
           · simp at h
           · simp only [Except.ok.injEq, Prod.mk.injEq] at h
             have := h.1
             split at this <;> omega
       · split at h
         · rename_i h3
           simp only [Except.ok.injEq, Prod.mk.injEq] at h
           obtain ⟨_, rfl, _⟩ := h
           exact two _ h3.2
         · split at h
           · rename_i h3
             simp only [Except.ok.injEq, Prod.mk.injEq] at h
             obtain ⟨_, rfl, _⟩ := h
             exact one _ h3
           · simp at h
theorem lexM_sgn : ∀ (m : Nat) (l : Bs) (pos : Nat) (ts : List Tok), l.length ≤ m → Lx.lexM 0 pos l = .ok ts → ∀ t ∈ ts, SgnOk t := by
 intro m
 induction m with
 | zero =>
  intro l pos ts hl h
  obtain rfl := List.length_eq_zero_iff.1 (Nat.le_zero.1 hl)
  simp only [Lx.lexM, Except.ok.injEq] at h
  subst h
  simp
 | succ m ih =>
  intro l pos ts hl h
  cases l with
  | nil =>
   simp only [Lx.lexM, Except.ok.injEq] at h
   subst h
   simp
  | cons b r =>
   rw [Lx.lexM_cons] at h
   split at h
   · simp at h
   · rename_i k t n h1
     have hn := Lx.oneT_len h1
     simp only [List.length_cons] at hn hl
     split at h
     · rename_i us h2
       simp only [Except.ok.injEq] at h
       subst h
       intro x hx
       rcases List.mem_cons.1 hx with rfl | hx
       · exact oneT_sgn h1 pos
       · exact ih _ _ _ (by simp; omega) h2 x hx
     · simp at h
theorem lex_sgn {l : Bs} {ts : List Tok} (h : Lx.lex l = .ok ts) : ∀ t ∈ ts, SgnOk t := by
 unfold Lx.lex at h
 split at h
 · simp at h
 · exact lexM_sgn _ _ _ _ (Nat.le_refl _) h
theorem parse_meets {s : Bs} {r : Except (Nat × Nat) St} (h : ParseR s r) : Parse s (mapE St.nodes r) := by
 unfold ParseR at h
 unfold Parse
 cases hl : Lx.lex s with
 | error e => rw [hl] at h; simp only at h ⊢; rw [h]; rfl
 | ok ts =>
  rw [hl] at h
  simp only at h ⊢
  obtain ⟨q, h1, h2⟩ := h
  obtain ⟨n, hn⟩ := stmt_meets (lex_sgn hl) h1
  refine ⟨n, ?_⟩
  unfold whole
  rw [hn]
  match q, h1, h2 with
  | .error e, h1, h2 =>
   simp only at h2
   rw [h2]
   exact ⟨_, rfl, rfl⟩
  | .ok (a, u), h1, h2 =>
   simp only at h2
   simp only [mapR, obind]
   by_cases hu : u = []
   · rw [if_pos hu] at h2
     rw [if_pos hu]
     refine ⟨_, rfl, deepest a.exprs, ?_, ?_⟩
     · exact (a.isS (stmt_all _ _ _ _ h1)).deep
     · rw [h2]; split <;> rfl
   · rw [if_neg hu] at h2
     rw [if_neg hu, h2]
     exact ⟨_, rfl, rfl⟩
end Px
end
section
namespace Px
open Lx (Bs Tok)
structure PT where
 out : Bs
 kind : Nat
 val : Bs
 pre : Bool
def kwT (s : Bs) : PT := ⟨s, 50, s, false⟩
def sgT (s : Bs) : PT := ⟨s, 51, s, false⟩
def mnT : PT := ⟨[45], 51, [45], true⟩
def nmT (s : Bs) : PT := ⟨nameT s, 18, s, false⟩
def stT (s : Bs) : PT := ⟨dbl 39 s, 17, s, false⟩
def dgT (n : Nat) : PT := ⟨decF 20 n, 16, decF 20 n, false⟩
def apart (a b : PT) : Bool := if a.out = [40] ∨ b.out = [41] ∨ b.out = [44] then false else if a.pre = true then decide (b.out.head? = some 45) else true
def gap (a b : PT) : Bs := if apart a b = true then [32] else []
def render : List PT → Bs
 | [] => []
 | [a] => a.out
 | a :: b :: r => a.out ++ gap a b ++ render (b :: r)
def Hd (p : UInt8 → Prop) : Bs → Prop
 | [] => True
 | c :: _ => p c
def Ends : Bs → Prop
 | [] => True
 | c :: _ => c = 32 ∨ c = 41 ∨ c = 44
structure PT.Ok (t : PT) : Prop where
 ne : ∃ c r, t.out = c :: r ∧ Lx.isSp c = false ∧ (c.toNat = 45 → t.out = [45])
 reads : ∀ rest, (Ends rest ∨ t.out = [40] ∨ t.pre = true) → Lx.oneT (t.out ++ rest) = .ok (t.kind, t.val, t.out.length)
 pre : t.pre = true → t.out = [45]
 small : t.out.length ≤ 100000
theorem cnt_app (p : UInt8 → Bool) : ∀ (a b : Bs), (∀ c ∈ a, p c = true) → Hd (fun c => p c = false) b → Lx.cnt p (a ++ b) = a.length
 | [], [], _, _ => rfl
 | [], c :: b, _, h => by simp only [List.nil_append, Lx.cnt, List.length_nil]; rw [if_neg (by rw [show p c = false from h]; decide)]
 | c :: a, b, h, h' => by
  simp only [List.cons_append, Lx.cnt, List.length_cons]
  rw [if_pos (h c (by simp)), cnt_app p a b (fun x hx => h x (by simp [hx])) h']
theorem ends_wd {b : Bs} (h : Ends b) : Hd (fun c => Lx.isWd c = false) b := by
 cases b with
 | nil => trivial
 | cons c r => show _ = false; rcases h with rfl | rfl | rfl <;> decide
theorem ends_dg {b : Bs} (h : Ends b) : Hd (fun c => Lx.isDig c = false) b := by
 cases b with
 | nil => trivial
 | cons c r => show _ = false; rcases h with rfl | rfl | rfl <;> decide
theorem dig_not_let {b : UInt8} (h : Lx.isDig b = true) : Lx.isLet b = false := by
 simp only [Lx.isDig, decide_eq_true_eq] at h
 simp only [Lx.isLet, decide_eq_false_iff_not]
 omega
theorem word_reads {w rest : Bs} (h1 : ∃ c r, w = c :: r ∧ Lx.isLet c = true) (h2 : ∀ c ∈ w, Lx.isWd c = true) (he : Ends rest) :
   Lx.oneT (w ++ rest) = if Lx.hasB Lx.keys (w.map Lx.upB) = true then .ok (50, w.map Lx.upB, w.length) else .ok (18, w.map Lx.lowB, w.length) := by
 obtain ⟨c, r, rfl, hc⟩ := h1
 have hcnt := cnt_app Lx.isWd (c :: r) rest h2 (ends_wd he)
 unfold Lx.oneT
 simp only [List.cons_append] at hcnt ⊢
 rw [if_pos hc, hcnt]
 rw [show List.take (c :: r).length (c :: (r ++ rest)) = c :: r from by
  rw [← List.cons_append]; exact List.take_left]
theorem hasB_mem : ∀ (l : List Bs) (x : Bs), Lx.hasB l x = true → x ∈ l
 | [], x, h => by simp [Lx.hasB] at h
 | a :: l, x, h => by
  simp only [Lx.hasB, Bool.or_eq_true, beq_iff_eq] at h
  rcases h with rfl | h
  · simp
  · simp [hasB_mem l x h]
theorem keys_ok : ∀ x ∈ Lx.keys, (∃ c r, x = c :: r ∧ Lx.isLet c = true) ∧ (∀ c ∈ x, Lx.isWd c = true ∧ Lx.upB c = c) ∧ x.length ≤ 7 := by
 have : (Lx.keys.all fun x => (match x with | [] => false | c :: _ => Lx.isLet c) && (x.all fun c => Lx.isWd c && decide (Lx.upB c = c)) && decide (x.length ≤ 7)) = true := by decide
 intro x hx
 have h := List.all_eq_true.1 this x hx
 simp only [Bool.and_eq_true, List.all_eq_true, decide_eq_true_eq] at h
 obtain ⟨⟨h1, h2⟩, h3⟩ := h
 refine ⟨?_, h2, h3⟩
 cases x with
 | nil => cases h1
 | cons c r => exact ⟨c, r, rfl, h1⟩
theorem map_same {f : UInt8 → UInt8} : ∀ (l : Bs), (∀ c ∈ l, f c = c) → l.map f = l
 | [], _ => rfl
 | c :: l, h => by rw [List.map_cons, h c (by simp), map_same l (fun x hx => h x (by simp [hx]))]
theorem let_head {c : UInt8} (h : Lx.isLet c = true) : Lx.isSp c = false ∧ c.toNat ≠ 45 := by
 simp only [Lx.isLet, decide_eq_true_eq] at h
 constructor
 · simp only [Lx.isSp, decide_eq_false_iff_not]; omega
 · omega
theorem kwT_ok {s : Bs} (h : Lx.hasB Lx.keys s = true) : (kwT s).Ok := by
 obtain ⟨h1, h2, h3⟩ := keys_ok s (hasB_mem _ _ h)
 refine ⟨?_, fun rest hr => ?_, fun e => (by cases e), by show s.length ≤ _; omega⟩
 · obtain ⟨c, r, rfl, hc⟩ := h1
   exact ⟨c, r, rfl, (let_head hc).1, fun e => absurd e (let_head hc).2⟩
 · have he : Ends rest := by
    rcases hr with hr | hr | hr
    · exact hr
    · obtain ⟨c, r, rfl, hc⟩ := h1
      simp only [kwT, List.cons.injEq] at hr
      rw [hr.1] at hc; exact absurd hc (by decide)
    · cases hr
   show Lx.oneT (s ++ rest) = _
   rw [word_reads h1 (fun c hc => (h2 c hc).1) he, map_same s (fun c hc => (h2 c hc).2), if_pos h]
   rfl
theorem lowWord_parts {s : Bs} (h : lowWord s = true) : (∃ c r, s = c :: r ∧ Lx.isLet c = true) ∧ (∀ c ∈ s, Lx.isWd c = true) ∧ Lx.hasB Lx.keys (s.map Lx.upB) = false ∧ s.map Lx.lowB = s := by
 simp only [lowWord, Bool.and_eq_true, decide_eq_true_eq, Bool.not_eq_true', beq_iff_eq] at h
 obtain ⟨⟨⟨h1, h2⟩, h3⟩, h4⟩ := h
 refine ⟨?_, ?_, h3, h4⟩
 · cases s with
   | nil => cases h1
   | cons c r => exact ⟨c, r, rfl, h1⟩
 · intro c hc
   have := Lx.cnt_all Lx.isWd s c
   rw [h2, List.take_length] at this
   exact this hc
theorem betw_dbl (m : UInt8) : ∀ (s rest : Bs), Hd (fun c => c ≠ m) rest → Lx.betw m ((s.flatMap fun b => if b = m then [b, b] else [b]) ++ m :: rest) = some (s, (s.flatMap fun b => if b = m then [b, b] else [b]).length + 1)
 | [], [], _ => by simp [Lx.betw]
 | [], c :: r, h => by
  simp only [List.flatMap_nil, List.nil_append, Lx.betw, if_true, List.length_nil]
  rw [if_neg h]
 | b :: s, rest, h => by
  have ih := betw_dbl m s rest h
  rw [List.flatMap_cons]
  by_cases hb : b = m
  · subst hb
    simp only [if_true, List.cons_append, List.nil_append, Lx.betw]
    rw [ih]
    simp
  · simp only [if_neg hb, List.cons_append, List.nil_append]
    have hne : ∃ x r, (List.flatMap (fun b => if b = m then [b, b] else [b]) s ++ m :: rest) = x :: r := by
     cases hh : (List.flatMap (fun b => if b = m then [b, b] else [b]) s) with
     | nil => exact ⟨m, rest, rfl⟩
     | cons x r => exact ⟨x, r ++ m :: rest, rfl⟩
    obtain ⟨x, r, hx⟩ := hne
    rw [hx] at ih ⊢
    simp only [Lx.betw, if_neg hb]
    rw [ih]
    simp
theorem dbl_len (m : UInt8) (s : Bs) : (dbl m s).length = (s.flatMap fun b => if b = m then [b, b] else [b]).length + 2 := by simp [dbl]
theorem flat_le (m : UInt8) : ∀ s : Bs, (s.flatMap fun b => if b = m then [b, b] else [b]).length ≤ 2 * s.length
 | [] => by simp
 | b :: s => by
  have := flat_le m s
  rw [List.flatMap_cons, List.length_append, List.length_cons]
  have : (if b = m then [b, b] else [b]).length ≤ 2 := by split <;> simp
  omega
theorem ends_ne {rest : Bs} {m : UInt8} (h : Ends rest) (hm : m = 34 ∨ m = 39) : Hd (fun c => c ≠ m) rest := by
 cases rest with
 | nil => trivial
 | cons c r => show c ≠ m; rcases h with rfl | rfl | rfl <;> rcases hm with rfl | rfl <;> decide
theorem quote_reads {m : UInt8} (hm : m = 34 ∨ m = 39) {s rest : Bs} (hv : Lx.validN s = true) (hn : m = 34 → s ≠ []) (he : Ends rest) :
   Lx.oneT (dbl m s ++ rest) = .ok (if m.toNat = 34 then 18 else 17, s, (dbl m s).length) := by
 have hb := betw_dbl m s rest (ends_ne he hm)
 have hl : Lx.isLet m = false := by rcases hm with rfl | rfl <;> decide
 have hd : Lx.isDig m = false := by rcases hm with rfl | rfl <;> decide
 have hq : m.toNat = 39 ∨ m.toNat = 34 := by rcases hm with rfl | rfl <;> decide
 rw [dbl_len]
 unfold Lx.oneT
 simp only [dbl, List.cons_append, List.append_assoc, List.nil_append]
 rw [if_neg (by simp [hl]), if_neg (by simp [hd]), if_pos hq, hb]
 simp only
 rw [if_neg (by
  rintro (h | ⟨h, h2⟩)
  · rw [hv] at h; cases h
  · exact hn (by rcases hm with rfl | rfl; rfl; exact absurd h (by decide)) h2)]
theorem mark_head {m : UInt8} (hm : m = 34 ∨ m = 39) : Lx.isSp m = false ∧ m.toNat ≠ 45 ∧ m ≠ 40 := by rcases hm with rfl | rfl <;> decide
theorem quote_ok {m : UInt8} (hm : m = 34 ∨ m = 39) {s : Bs} (hv : Lx.validN s = true) (hn : m = 34 → s ≠ []) (hl : s.length ≤ 2000) : (PT.mk (dbl m s) (if m.toNat = 34 then 18 else 17) s false).Ok := by
 refine ⟨⟨m, _, rfl, (mark_head hm).1, fun e => absurd e (mark_head hm).2.1⟩, fun rest hr => ?_, fun e => (by cases e), ?_⟩
 · refine quote_reads hm hv hn ?_
   rcases hr with hr | hr | hr
   · exact hr
   · simp only [dbl, List.cons_append, List.cons.injEq] at hr
     exact absurd hr.1 (mark_head hm).2.2
   · cases hr
 · show (dbl m s).length ≤ _
   rw [dbl_len]
   have := flat_le m s
   omega
theorem stT_ok {s : Bs} (hv : Lx.validN s = true) (hl : s.length ≤ 2000) : (stT s).Ok := quote_ok (.inr rfl) hv (fun e => absurd e (by decide)) hl
theorem nmT_ok {s : Bs} (hv : isName s = true) : (nmT s).Ok := by
 simp only [isName, Bool.and_eq_true, Bool.not_eq_true', decide_eq_true_eq] at hv
 obtain ⟨⟨h1, h2⟩, h3⟩ := hv
 unfold nmT nameT
 split
 · rename_i hw
   obtain ⟨p1, p2, p3, p4⟩ := lowWord_parts hw
   refine ⟨?_, fun rest hr => ?_, fun e => (by cases e), by show s.length ≤ _; omega⟩
   · obtain ⟨c, r, rfl, hc⟩ := p1
     exact ⟨c, r, rfl, (let_head hc).1, fun e => absurd e (let_head hc).2⟩
   · have he : Ends rest := by
      rcases hr with hr | hr | hr
      · exact hr
      · obtain ⟨c, r, rfl, hc⟩ := p1
        simp only [List.cons.injEq] at hr
        rw [hr.1] at hc; exact absurd hc (by decide)
      · cases hr
     show Lx.oneT (s ++ rest) = _
     rw [word_reads p1 p2 he, if_neg (by simp [p3]), p4]
 · exact quote_ok (.inl rfl) h1 (fun _ e => by subst e; cases h2) (by omega)
theorem sgT_ok {s : Bs} (h : Lx.hasB Lx.twos s = true ∨ Lx.hasB Lx.ones s = true) : (sgT s).Ok := by
 have hw : (∃ c, s = [c] ∧ (c = 40 ∨ c = 41 ∨ c = 44 ∨ c = 59 ∨ c = 42 ∨ c = 43 ∨ c = 45 ∨ c = 47 ∨ c = 37 ∨ c = 61 ∨ c = 60 ∨ c = 62)) ∨ s = [60, 62] ∨ s = [60, 61] ∨ s = [62, 61] ∨ s = [124, 124] := by
  rcases h with h | h
  · simp only [Lx.twos, Lx.hasB, Bool.or_eq_true, beq_iff_eq, Bool.false_eq_true, or_false] at h
    right
    rcases h with rfl | rfl | rfl | rfl <;> simp
  · simp only [Lx.ones, Lx.hasB, Bool.or_eq_true, beq_iff_eq, Bool.false_eq_true, or_false] at h
    left
    rcases h with rfl | rfl | rfl | rfl | rfl | rfl | rfl | rfl | rfl | rfl | rfl | rfl <;> exact ⟨_, rfl, by simp⟩
 have one : ∀ (c : UInt8) (rest : Bs), (Ends rest ∨ c = 40) → (c = 40 ∨ c = 41 ∨ c = 44 ∨ c = 59 ∨ c = 42 ∨ c = 43 ∨ c = 45 ∨ c = 47 ∨ c = 37 ∨ c = 61 ∨ c = 60 ∨ c = 62) → Lx.oneT (c :: rest) = .ok (51, [c], 1) := by
  intro c rest hr hc
  have hl : Lx.isLet c = false := by rcases hc with rfl | rfl | rfl | rfl | rfl | rfl | rfl | rfl | rfl | rfl | rfl | rfl <;> decide
  have hd : Lx.isDig c = false := by rcases hc with rfl | rfl | rfl | rfl | rfl | rfl | rfl | rfl | rfl | rfl | rfl | rfl <;> decide
  have hq : ¬ (c.toNat = 39 ∨ c.toNat = 34) := by rcases hc with rfl | rfl | rfl | rfl | rfl | rfl | rfl | rfl | rfl | rfl | rfl | rfl <;> decide
  have h2 : ¬ (2 ≤ (c :: rest).length ∧ Lx.hasB Lx.twos ((c :: rest).take 2) = true) := by
   rintro ⟨h1, h2⟩
   cases rest with
   | nil => simp at h1
   | cons d rest =>
    simp only [List.take_succ_cons, List.take_zero, Lx.twos, Lx.hasB, Bool.or_eq_true, beq_iff_eq, Bool.false_eq_true, or_false, List.cons.injEq, and_true] at h2
    rcases hr with hr | rfl
    · rcases hr with rfl | rfl | rfl <;> simp at h2
    · simp at h2
  have h3 : Lx.hasB Lx.ones ((c :: rest).take 1) = true := by
   simp only [List.take_succ_cons, List.take_zero]
   rcases hc with rfl | rfl | rfl | rfl | rfl | rfl | rfl | rfl | rfl | rfl | rfl | rfl <;> decide
  unfold Lx.oneT
  simp only
  rw [if_neg (by simp [hl]), if_neg (by simp [hd]), if_neg hq, if_neg h2, if_pos h3]
  rfl
 rcases hw with ⟨c, rfl, hc⟩ | hw
 · refine ⟨⟨c, [], rfl, ?_, fun e => ?_⟩, fun rest hr => ?_, fun e => (by cases e), by simp [sgT]⟩
   · rcases hc with rfl | rfl | rfl | rfl | rfl | rfl | rfl | rfl | rfl | rfl | rfl | rfl <;> decide
   · rcases hc with rfl | rfl | rfl | rfl | rfl | rfl | rfl | rfl | rfl | rfl | rfl | rfl <;> first | rfl | exact absurd e (by decide)
   · refine one c rest ?_ hc
     rcases hr with hr | hr | hr
     · exact .inl hr
     · simp only [sgT, List.cons.injEq, and_true] at hr; exact .inr hr
     · cases hr
 · have hr' : ∀ rest, Lx.oneT (s ++ rest) = .ok (51, s, 2) := by
    intro rest
    rcases hw with rfl | rfl | rfl | rfl <;> rfl
   refine ⟨?_, fun rest _ => ?_, fun e => (by cases e), ?_⟩
   · rcases hw with rfl | rfl | rfl | rfl <;> exact ⟨_, _, rfl, by decide, by decide⟩
   · have : s.length = 2 := by rcases hw with rfl | rfl | rfl | rfl <;> rfl
     show Lx.oneT (s ++ rest) = .ok (51, s, s.length)
     rw [this]; exact hr' rest
   · rcases hw with rfl | rfl | rfl | rfl <;> simp [sgT]
theorem mnT_ok : mnT.Ok := by
 refine ⟨⟨45, [], rfl, by decide, fun _ => rfl⟩, fun rest _ => ?_, fun _ => rfl, by simp [mnT]⟩
 show Lx.oneT (45 :: rest) = _
 have h2 : ¬ (2 ≤ ((45 : UInt8) :: rest).length ∧ Lx.hasB Lx.twos (((45 : UInt8) :: rest).take 2) = true) := by
  rintro ⟨h1, h2⟩
  cases rest with
  | nil => simp at h1
  | cons d rest =>
   simp [List.take_succ_cons, List.take_zero, Lx.twos, Lx.hasB] at h2
 unfold Lx.oneT
 simp only
 rw [if_neg (by decide), if_neg (by decide), if_neg (by decide), if_neg h2, if_pos (by simp only [List.take_succ_cons, List.take_zero]; decide)]
 rfl
end Px
end
section
namespace Px
open Lx (Bs Tok)
theorem skip_none {c : UInt8} {r : Bs} (h1 : Lx.isSp c = false) (h2 : c.toNat = 45 → r.head? ≠ some 45) : Lx.skipN (c :: r) = 0 := by
 unfold Lx.skipN Lx.skipM
 rw [if_neg (fun e => h2 e.1 e.2), if_neg (by simp [h1])]
theorem skip_space (l : Bs) : Lx.skipN (32 :: l) = 1 + Lx.skipN l := by
 unfold Lx.skipN
 conv => lhs; unfold Lx.skipM
 rw [if_neg (by simp), if_pos (by decide)]
theorem render_head (a : PT) (r : List PT) : ∃ x, render (a :: r) = a.out ++ x := by
 cases r with
 | nil => exact ⟨[], by simp [render]⟩
 | cons b r => exact ⟨gap a b ++ render (b :: r), by simp [render]⟩
theorem render_skip (a : PT) (r : List PT) (h : ∀ t ∈ a :: r, t.Ok) : Lx.skipN (render (a :: r)) = 0 := by
 obtain ⟨c, q, hc, h1, h2⟩ := (h a (by simp)).ne
 by_cases h45 : c.toNat = 45
 · have ho := h2 h45
   cases r with
   | nil =>
    simp only [render]
    rw [ho]
    decide
   | cons b r =>
    obtain ⟨c', q', hc', _, _⟩ := (h b (by simp)).ne
    simp only [render, ho, List.cons_append, List.nil_append]
    refine skip_none (by decide) fun _ => ?_
    obtain ⟨x, hx⟩ := render_head b r
    rw [hx, hc']
    unfold gap
    split
    · simp
    · rename_i ha
      simp only [List.nil_append, List.cons_append, List.head?_cons]
      intro he
      simp only [Option.some.injEq] at he
      subst he
      apply ha
      unfold apart
      rw [if_neg (by rw [ho, hc']; simp)]
      split
      · rw [hc']; simp
      · rfl
 · obtain ⟨x, hx⟩ := render_head a r
   rw [hx, hc]
   exact skip_none h1 (fun e => absurd e h45)
theorem gap_skip (a b : PT) (r : List PT) (h : ∀ t ∈ b :: r, t.Ok) : Lx.skipN (gap a b ++ render (b :: r)) = (gap a b).length := by
 unfold gap
 split
 · rw [List.cons_append, List.nil_append, skip_space, render_skip b r h]; rfl
 · rw [List.nil_append, render_skip b r h]; rfl
theorem gap_ends (a b : PT) (r : List PT) (hb : b.Ok) : Ends (gap a b ++ render (b :: r)) ∨ a.out = [40] ∨ a.pre = true := by
 by_cases h40 : a.out = [40]
 · exact .inr (.inl h40)
 · by_cases hp : a.pre = true
   · exact .inr (.inr hp)
   · left
     by_cases hc : b.out = [41] ∨ b.out = [44]
     · have ha : apart a b = false := by
        unfold apart
        rw [if_pos (.inr hc)]
       obtain ⟨x, hx⟩ := render_head b r
       unfold gap
       rw [ha]
       simp only [Bool.false_eq_true, if_false, List.nil_append]
       rw [hx]
       rcases hc with hc | hc
       · rw [hc]; exact .inr (.inl rfl)
       · rw [hc]; exact .inr (.inr rfl)
     · have ha : apart a b = true := by
        unfold apart
        rw [if_neg (fun h => h.elim h40 hc), if_neg hp]
       unfold gap
       rw [ha]
       exact .inl rfl
theorem lex_render : ∀ (l : List PT), (∀ t ∈ l, t.Ok) → ∀ pos, ∃ ts, Lx.lexM 0 pos (render l) = .ok ts ∧ ts.map (fun t => (t.kind, t.text)) = l.map fun t => (t.kind, t.val)
 | [], _, pos => ⟨[], by simp [render, Lx.lexM], rfl⟩
 | [a], h, pos => by
  have ha := h a (by simp)
  obtain ⟨c, q, hc, _, _⟩ := ha.ne
  have hr := ha.reads [] (.inl trivial)
  rw [List.append_nil] at hr
  refine ⟨[⟨a.kind, a.val, pos⟩], ?_, rfl⟩
  simp only [render]
  rw [hc] at hr ⊢
  rw [Lx.lexM_cons, hr]
  simp only [List.drop_length]
  simp [Lx.lexM]
 | a :: b :: r, h, pos => by
  have ha := h a (by simp)
  have hbr : ∀ t ∈ b :: r, t.Ok := fun t ht => h t (by simp at ht ⊢; exact .inr ht)
  obtain ⟨c, q, hc, _, _⟩ := ha.ne
  have hr := ha.reads _ (gap_ends a b r (hbr b (by simp)))
  obtain ⟨ts, h1, h2⟩ := lex_render (b :: r) hbr (pos + a.out.length + (gap a b).length)
  refine ⟨⟨a.kind, a.val, pos⟩ :: ts, ?_, by simp only [List.map_cons, h2]⟩
  simp only [render]
  rw [List.append_assoc]
  have hd : (a.out ++ (gap a b ++ render (b :: r))).drop a.out.length = gap a b ++ render (b :: r) := List.drop_left
  have hs := gap_skip a b r hbr
  generalize hX : a.out ++ (gap a b ++ render (b :: r)) = X at *
  obtain ⟨x, xs, rfl⟩ : ∃ x xs, X = x :: xs := by rw [← hX, hc]; exact ⟨_, _, rfl⟩
  rw [Lx.lexM_cons, hr]
  simp only [hd, hs]
  rw [List.drop_left, h1]
theorem lex_text (l : List PT) (h : ∀ t ∈ l, t.Ok) (hl : (render l).length ≤ 2000) : ∃ ts, Lx.lex (render l) = .ok ts ∧ ts.map (fun t => (t.kind, t.text)) = l.map fun t => (t.kind, t.val) := by
 unfold Lx.lex
 rw [if_neg (by omega)]
 have hs : Lx.skipN (render l) = 0 := by
  cases l with
  | nil => rfl
  | cons a r => exact render_skip a r h
 rw [hs, List.drop_zero]
 exact lex_render l h 0
theorem dig_of (d : Nat) (h : d < 10) : Lx.isDig (48 + d).toUInt8 = true ∧ ((48 + d).toUInt8).toNat - 48 = d ∧ ((48 + d).toUInt8.toNat = 48 + d) := by
 have : (48 + d).toUInt8.toNat = 48 + d := by
  simp only [Nat.toUInt8, UInt8.toNat_ofNat']
  omega
 refine ⟨?_, ?_, this⟩
 · simp only [Lx.isDig, decide_eq_true_eq, this]; omega
 · rw [this]; omega
theorem decF_digs : ∀ f n, ∀ c ∈ decF f n, Lx.isDig c = true
 | 0, n, c, h => by cases h
 | f + 1, n, c, h => by
  unfold decF at h
  split at h
  · rename_i hn
    rw [List.mem_singleton] at h; subst h; exact (dig_of n hn).1
  · rcases List.mem_append.1 h with h | h
    · exact decF_digs f _ c h
    · rw [List.mem_singleton] at h; subst h; exact (dig_of _ (Nat.mod_lt _ (by omega))).1
theorem decF_val : ∀ f n, n < 10 ^ f → dval (decF f n) = n
 | 0, n, h => by simp at h; subst h; rfl
 | f + 1, n, h => by
  unfold decF
  split
  · rename_i hn
    rw [dval_fold, dfold_cons]
    simp only [dfold, List.foldl_nil, (dig_of n hn).2.1]
    omega
  · rename_i hn
    have ih := decF_val f (n / 10) (by rw [Nat.pow_succ] at h; omega)
    rw [dval_fold, dfold_append, ← dval_fold, ih, dfold_cons]
    simp only [dfold, List.foldl_nil, (dig_of (n % 10) (Nat.mod_lt _ (by omega))).2.1]
    omega
theorem decF_ne (f n : Nat) : decF (f + 1) n ≠ [] := by
 unfold decF
 split
 · simp
 · simp
theorem decF_head : ∀ f n, 0 < n → n < 10 ^ f → ∃ c r, decF f n = c :: r ∧ c.toNat ≠ 48
 | 0, n, h, h' => by simp at h'; omega
 | f + 1, n, h, h' => by
  unfold decF
  split
  · rename_i hn
    exact ⟨_, _, rfl, by rw [(dig_of n hn).2.2]; omega⟩
  · rename_i hn
    obtain ⟨c, r, h1, h2⟩ := decF_head f (n / 10) (by omega) (by rw [Nat.pow_succ] at h'; omega)
    rw [h1]
    exact ⟨c, _, rfl, h2⟩
theorem decF_least (f n : Nat) (h : n < 10 ^ (f + 1)) : Lx.leastB (decF (f + 1) n) = decF (f + 1) n := by
 by_cases h0 : n = 0
 · subst h0
   unfold decF
   rw [if_pos (by omega)]
   rfl
 · obtain ⟨c, r, h1, h2⟩ := decF_head (f + 1) n (by omega) h
   rw [h1]
   cases r with
   | nil => rfl
   | cons d r => unfold Lx.leastB; rw [if_neg h2]
theorem dfold_low : ∀ (s : Bs) (a : Nat), a * 10 ^ s.length ≤ dfold s a
 | [], a => by simp [dfold]
 | c :: s, a => by
  rw [dfold_cons, List.length_cons, Nat.pow_succ]
  have := dfold_low s (10 * a + (c.toNat - 48))
  have h2 : a * (10 ^ s.length * 10) ≤ (10 * a + (c.toNat - 48)) * 10 ^ s.length := by
   rw [Nat.mul_comm (10 ^ s.length) 10, ← Nat.mul_assoc, Nat.mul_comm a 10]
   exact Nat.mul_le_mul_right _ (by omega)
  omega
theorem less_tri : ∀ (a b : Bs), a.length = b.length → Op.bytesLess a b = true ∨ a = b ∨ Op.bytesLess b a = true
 | [], [], _ => .inr (.inl rfl)
 | [], _ :: _, h => by simp at h
 | _ :: _, [], h => by simp at h
 | c :: a, d :: b, h => by
  simp only [Op.bytesLess, Bool.or_eq_true, decide_eq_true_eq, Bool.and_eq_true, beq_iff_eq]
  rcases Nat.lt_trichotomy c.toNat d.toNat with h1 | h1 | h1
  · exact .inl (.inl (UInt8.lt_iff_toNat_lt.2 h1))
  · have hcd : c = d := UInt8.toNat_inj.1 h1
    subst hcd
    rcases less_tri a b (by simpa using h) with h2 | h2 | h2
    · exact .inl (.inr ⟨rfl, h2⟩)
    · exact .inr (.inl (by rw [h2]))
    · exact .inr (.inr (.inr ⟨rfl, h2⟩))
  · exact .inr (.inr (.inl (UInt8.lt_iff_toNat_lt.2 h1)))
theorem not_over {c : UInt8} {r : Bs} (hd : ∀ x ∈ c :: r, Lx.isDig x = true) (hc : c.toNat ≠ 48) (hv : dval (c :: r) ≤ 9223372036854775808) : Lx.overTop (c :: r) = false := by
 have hlow := dfold_low r (c.toNat - 48)
 have hc1 := hd c (by simp)
 simp only [Lx.isDig, decide_eq_true_eq] at hc1
 rw [dval_fold, dfold_cons, Nat.mul_zero, Nat.zero_add] at hv
 have h1 : 10 ^ r.length ≤ (c.toNat - 48) * 10 ^ r.length := Nat.le_mul_of_pos_left _ (by omega)
 have hlen : r.length ≤ 18 := by
  apply Decidable.byContradiction
  intro hn
  have : 10 ^ 19 ≤ 10 ^ r.length := Nat.pow_le_pow_right (by omega) (by omega)
  have : (10 : Nat) ^ 19 = 10000000000000000000 := by decide
  omega
 simp only [Lx.overTop, List.length_cons, Bool.or_eq_false_iff, decide_eq_false_iff_not, Bool.and_eq_false_iff, Bool.not_eq_false']
 refine ⟨by omega, ?_⟩
 by_cases h18 : r.length = 18
 · right
   rcases less_tri (c :: r) Lx.top (by simp [h18]; rfl) with h2 | h2 | h2
   · exact .inl h2
   · exact .inr (by rw [h2]; exact beq_self_eq_true _)
   · exfalso
     have := dfold_less Lx.top (c :: r) 0 (by simp [h18]; rfl) top_digs hd h2
     rw [← dval_fold, dval_topv, dfold_cons, Nat.mul_zero, Nat.zero_add] at this
     omega
 · exact .inl (by omega)
theorem dgT_ok {n : Nat} (h : n ≤ 9223372036854775808) : (dgT n).Ok := by
 have h20 : n < 10 ^ 20 := by have : (10 : Nat) ^ 20 = 100000000000000000000 := by decide
                              omega
 have hne := decF_ne 19 n
 have hdig := decF_digs 20 n
 have hval := decF_val 20 n h20
 have hleast := decF_least 19 n h20
 have hov : Lx.overTop (decF 20 n) = false := by
  by_cases h0 : n = 0
  · subst h0; decide
  · obtain ⟨c, r, h1, h2⟩ := decF_head 20 n (by omega) h20
    rw [h1] at hdig hval ⊢
    exact not_over hdig h2 (by omega)
 have hlen : (decF 20 n).length ≤ 19 := by
  simp only [Lx.overTop, Bool.or_eq_false_iff, decide_eq_false_iff_not] at hov
  omega
 refine ⟨?_, fun rest hr => ?_, fun e => (by cases e), by show (decF 20 n).length ≤ _; omega⟩
 · show ∃ c r, decF 20 n = c :: r ∧ _
   cases hh : decF 20 n with
   | nil => exact absurd hh hne
   | cons c r =>
    have := hdig c (by rw [hh]; simp)
    simp only [Lx.isDig, decide_eq_true_eq] at this
    refine ⟨c, r, rfl, ?_, fun e => by omega⟩
    simp only [Lx.isSp, decide_eq_false_iff_not]; omega
 · show Lx.oneT (decF 20 n ++ rest) = .ok (16, decF 20 n, (decF 20 n).length)
   have hr : Ends rest ∨ decF 20 n = [40] ∨ false = true := hr
   generalize decF 20 n = t at *
   have he : Ends rest := by
    rcases hr with hr | hr | hr
    · exact hr
    · have := hdig 40 (by rw [hr]; simp)
      exact absurd this (by decide)
    · cases hr
   have hcd := cnt_app Lx.isDig t rest hdig (ends_dg he)
   have hcw := cnt_app Lx.isWd t rest (fun c hc => by simp [Lx.isWd, hdig c hc]) (ends_wd he)
   obtain ⟨c, r, rfl⟩ : ∃ c r, t = c :: r := by
    cases t with
    | nil => exact absurd rfl hne
    | cons c r => exact ⟨c, r, rfl⟩
   have hc := hdig c (by simp)
   unfold Lx.oneT
   simp only [List.cons_append] at hcd hcw ⊢
   rw [if_neg (by simp [dig_not_let hc]), if_pos hc, hcd, hcw, if_neg (by omega)]
   rw [show List.take (c :: r).length (c :: (r ++ rest)) = c :: r from by rw [← List.cons_append]; exact List.take_left]
   rw [hleast, if_neg (by simp [hov])]
end Px
end
section
namespace Px
open Lx (Bs Tok)
def Same (ts : List Tok) (l : List PT) : Prop := ts.map (fun t => (t.kind, t.text)) = l.map fun t => (t.kind, t.val)
theorem Same.cons {ts : List Tok} {a : PT} {l : List PT} (h : Same ts (a :: l)) : ∃ p r, ts = ⟨a.kind, a.val, p⟩ :: r ∧ Same r l := by
 cases ts with
 | nil => simp [Same] at h
 | cons t r =>
  simp only [Same, List.map_cons, List.cons.injEq, Prod.mk.injEq] at h
  obtain ⟨⟨h1, h2⟩, h3⟩ := h
  exact ⟨t.pos, r, by rw [← h1, ← h2], h3⟩
theorem Same.nil {ts : List Tok} (h : Same ts []) : ts = [] := by
 cases ts with
 | nil => rfl
 | cons t r => simp [Same] at h
theorem Same.app {ts : List Tok} {a b : List PT} (h : Same ts (a ++ b)) : ∃ x y, ts = x ++ y ∧ Same x a ∧ Same y b := by
 unfold Same at h
 rw [List.map_append, List.map_eq_append_iff] at h
 obtain ⟨x, y, h1, h2, h3⟩ := h
 exact ⟨x, y, h1, h2, h3⟩
def E.lvl : E → Nat
 | .num z => if z < 0 then 8 else 9
 | .un k _ => if k = 20 then 3 else if k = 19 then 8 else 4
 | .bin k _ _ => (sgnT k).2
 | _ => 9
def brkT (lvl least : Nat) (l : List PT) : List PT := if lvl < least then sgT [40] :: (l ++ [sgT [41]]) else l
def opT (k : Nat) : PT := if k < 25 then kwT (sgnT k).1 else sgT (sgnT k).1
def leftOf (k : Nat) : Nat := if (sgnT k).2 = 4 then 5 else (sgnT k).2
def E.pt : E → List PT
 | .null => [kwT kNULL]
 | .bool b => [kwT (if b = true then kTRUE else kFALSE)]
 | .num z => if z < 0 then [mnT, dgT z.natAbs] else [dgT z.natAbs]
 | .str s => [stT s]
 | .nm s => [nmT s]
 | .un k e => if k = 20 then kwT kNOT :: brkT e.lvl 3 e.pt else if k = 19 then mnT :: brkT e.lvl 8 e.pt
   else if k = 21 then brkT e.lvl 5 e.pt ++ [kwT kIS, kwT kNULL] else brkT e.lvl 5 e.pt ++ [kwT kIS, kwT kNOT, kwT kNULL]
 | .bin k a b => brkT a.lvl (leftOf k) a.pt ++ opT k :: brkT b.lvl ((sgnT k).2 + 1) b.pt
def E.good : E → Prop
 | .str s => Lx.validN s = true
 | .nm s => isName s = true
 | .un _ e => e.good
 | .bin _ a b => a.good ∧ b.good
 | _ => True
theorem sgn_cases {k : Nat} (h1 : 23 ≤ k) (h2 : k ≤ 36) : k = 23 ∨ k = 24 ∨ k = 25 ∨ k = 26 ∨ k = 27 ∨ k = 28 ∨ k = 29 ∨ k = 30 ∨ k = 31 ∨ k = 32 ∨ k = 33 ∨ k = 34 ∨ k = 35 ∨ k = 36 := by omega
theorem opIn_sgn {k : Nat} (h1 : 23 ≤ k) (h2 : k ≤ 36) (l : Nat) : opIn opTab l (sgnT k).1 = if l = (sgnT k).2 then k else 0 := by
 rcases sgn_cases h1 h2 with rfl | rfl | rfl | rfl | rfl | rfl | rfl | rfl | rfl | rfl | rfl | rfl | rfl | rfl
 all_goals
  simp [opTab, opIn, sgnT, kOR, kAND]
  try (split <;> split <;> omega)
theorem sgn_lvl {k : Nat} (h1 : 23 ≤ k) (h2 : k ≤ 36) : (sgnT k).2 = 1 ∨ (sgnT k).2 = 2 ∨ (sgnT k).2 = 4 ∨ (sgnT k).2 = 5 ∨ (sgnT k).2 = 6 ∨ (sgnT k).2 = 7 := by
 rcases sgn_cases h1 h2 with rfl | rfl | rfl | rfl | rfl | rfl | rfl | rfl | rfl | rfl | rfl | rfl | rfl | rfl <;> decide
theorem opT_kind (k : Nat) : (opT k).kind = 50 ∨ (opT k).kind = 51 := by unfold opT; split <;> simp [kwT, sgT]
theorem opT_val (k : Nat) : (opT k).val = (sgnT k).1 := by unfold opT; split <;> rfl
theorem oper_op {k : Nat} (h1 : 23 ≤ k) (h2 : k ≤ 36) (l p : Nat) (r : List Tok) : oper l (⟨(opT k).kind, (opT k).val, p⟩ :: r) = if l = (sgnT k).2 then k else 0 := by
 rw [oper_one, if_pos (opT_kind k), opT_val]
 exact opIn_sgn h1 h2 l
theorem sees_op {k : Nat} (h1 : 23 ≤ k) (h2 : k ≤ 36) (p : Nat) (r : List Tok) : sees kIS (⟨(opT k).kind, (opT k).val, p⟩ :: r) = false := by
 simp only [sees, Bool.and_eq_false_iff, beq_eq_false_iff_ne, opT_val]
 right
 rcases sgn_cases h1 h2 with rfl | rfl | rfl | rfl | rfl | rfl | rfl | rfl | rfl | rfl | rfl | rfl | rfl | rfl <;> decide
def Stops (m : Nat) (rest : List Tok) : Prop := (∀ l, m ≤ l → oper l rest = 0) ∧ (m ≤ 4 → sees kIS rest = false)
theorem Stops.up {m n : Nat} {rest : List Tok} (h : Stops m rest) (hn : m ≤ n) : Stops n rest := ⟨fun l hl => h.1 l (by omega), fun h4 => h.2 (by omega)⟩
theorem stops_tok {m k p : Nat} {s : Bs} {r : List Tok} (h : (k ≠ 50 ∧ k ≠ 51) ∨ ((∀ x ∈ opTab, x.2.1 ≠ s) ∧ s ≠ kIS)) : Stops m (⟨k, s, p⟩ :: r) := by
 constructor
 · intro l _
   rw [oper_one]
   split
   · rename_i hk
     rcases h with h | ⟨h, _⟩
     · rcases hk with hk | hk
       · exact absurd hk h.1
       · exact absurd hk h.2
     · have : ∀ (t : List (Nat × Bs × Nat)), (∀ x ∈ t, x.2.1 ≠ s) → opIn t l s = 0 := by
        intro t
        induction t with
        | nil => intro _; rfl
        | cons x t ih =>
         intro hx
         unfold opIn
         rw [if_neg (fun e => hx x (by simp) e.2)]
         exact ih (fun y hy => hx y (by simp [hy]))
       exact this opTab h
   · rfl
 · intro _
   simp only [sees, Bool.and_eq_false_iff, Bool.or_eq_false_iff, decide_eq_false_iff_not, beq_eq_false_iff_ne]
   rcases h with h | ⟨_, h⟩
   · exact .inl h
   · exact .inr h
theorem stops_is {m p : Nat} {r : List Tok} (hm : 5 ≤ m) : Stops m (⟨50, kIS, p⟩ :: r) := by
 refine ⟨fun l _ => ?_, fun h => by omega⟩
 rw [oper_one, if_pos (.inl rfl)]
 simp [opTab, opIn, kIS, kOR, kAND]
theorem stops_nil (m : Nat) : Stops m [] := ⟨fun _ _ => rfl, fun _ => rfl⟩
theorem down {sz : Nat} {X rest : List Tok} {b : List Nd} : ∀ (d m : Nat), 1 ≤ m → m + d ≤ 9 → Ex sz (m + d) [] X (.ok (b, rest)) → Stops m rest → (m + d = 9 → sees gMinus X = false) → (4 ≤ m + d → sees kNOT X = false) → Ex sz m [] X (.ok (b, rest))
 | 0, m, _, _, h, _, _, _ => h
 | d + 1, m, h1, h2, h, hs, h9, h4 => by
  have ih : Ex sz (m + 1) [] X (.ok (b, rest)) := down d (m + 1) (by omega) (by omega) (by rw [show m + 1 + d = m + (d + 1) by omega]; exact h) (hs.up (by omega)) (fun e => h9 (by omega)) (fun e => h4 (by omega))
  by_cases m3 : m = 3
  · subst m3; exact Ex.up3 (h4 (by omega)) ih
  · by_cases m4 : m = 4
    · subst m4; exact Ex.cmp ih (tail4_none (hs.2 (by omega)) (hs.1 4 (by omega)))
    · by_cases m8 : m = 8
      · subst m8; exact Ex.up8 (h9 (by omega)) ih
      · exact Ex.left (by omega) m3 m4 ih (Ex.end_ (hs.1 m (Nat.le_refl _)))
theorem Ex.down {sz m L : Nat} {X rest : List Tok} {b : List Nd} (h1 : 1 ≤ m) (hL : L ≤ 9) (hm : m ≤ L) (h : Ex sz L [] X (.ok (b, rest))) (hs : Stops m rest) (h9 : L = 9 → sees gMinus X = false) (h4 : 4 ≤ L → sees kNOT X = false) : Ex sz m [] X (.ok (b, rest)) := by
 obtain ⟨d, rfl⟩ : ∃ d, L = m + d := ⟨L - m, by omega⟩
 exact Px.down d m h1 hL h hs h9 h4
theorem E.lvl_range {n : Nat} (e : E) (h : e.ok n) : 1 ≤ e.lvl ∧ e.lvl ≤ 9 := by
 cases e with
 | num z => simp only [E.lvl]; split <;> omega
 | un k e => simp only [E.lvl]; split; omega; split <;> omega
 | bin k a b =>
  have := sgn_lvl h.1 h.2.1
  simp only [E.lvl]; omega
 | _ => simp [E.lvl]
theorem head_brk {lvl least : Nat} {l : List PT} {P : PT → Prop} (h1 : P (sgT [40])) (h2 : least ≤ lvl → ∃ t r, l = t :: r ∧ P t) : ∃ t r, brkT lvl least l = t :: r ∧ P t := by
 unfold brkT
 split
 · exact ⟨_, _, rfl, h1⟩
 · exact h2 (by omega)
theorem head_app {l l' : List PT} {P : PT → Prop} (h : ∃ t r, l = t :: r ∧ P t) : ∃ t r, l ++ l' = t :: r ∧ P t := by
 obtain ⟨t, r, rfl, h⟩ := h
 exact ⟨t, r ++ l', rfl, h⟩
theorem head_not {n : Nat} (e : E) (ho : e.ok n) (h : 4 ≤ e.lvl) : ∃ t r, e.pt = t :: r ∧ ((t.kind ≠ 50 ∧ t.kind ≠ 51) ∨ t.val ≠ kNOT) := by
 induction e with
 | null => exact ⟨_, _, rfl, .inr (by decide)⟩
 | bool b => refine ⟨_, _, rfl, .inr ?_⟩; cases b <;> decide
 | num z =>
  simp only [E.pt]
  split
  · exact ⟨_, _, rfl, .inr (by decide)⟩
  · exact ⟨_, _, rfl, .inl (by simp [dgT])⟩
 | str s => exact ⟨_, _, rfl, .inl (by simp [stT])⟩
 | nm s => exact ⟨_, _, rfl, .inl (by simp [nmT])⟩
 | un k e ih =>
  simp only [E.lvl] at h
  have h20 : k ≠ 20 := by intro e; subst e; simp at h
  simp only [E.pt, if_neg h20]
  split
  · exact ⟨_, _, rfl, .inr (by decide)⟩
  · have key := head_brk (lvl := e.lvl) (least := 5) (l := e.pt) (P := fun t => (t.kind ≠ 50 ∧ t.kind ≠ 51) ∨ t.val ≠ kNOT) (.inr (by decide)) (fun h5 => ih ho.2.2.2 (by omega))
    split <;> exact head_app key
 | bin k a b iha ihb =>
  simp only [E.pt]
  refine head_app (head_brk (P := fun t => (t.kind ≠ 50 ∧ t.kind ≠ 51) ∨ t.val ≠ kNOT) (.inr (by decide)) fun h5 => iha ho.2.2.1 ?_)
  have := sgn_lvl ho.1 ho.2.1
  simp only [E.lvl] at h
  unfold leftOf at h5
  split at h5 <;> omega
theorem head_num {n : Nat} (e : E) (ho : e.ok n) (hn : e.isNum = false) : ∃ t r, brkT e.lvl 8 e.pt = t :: r ∧ t.kind ≠ 16 := by
 refine head_brk (P := fun t => t.kind ≠ 16) (by decide) fun h8 => ?_
 cases e with
 | null => exact ⟨_, _, rfl, by decide⟩
 | bool b => exact ⟨_, _, rfl, by simp [kwT]⟩
 | num z => simp [E.isNum] at hn
 | str s => exact ⟨_, _, rfl, by simp [stT]⟩
 | nm s => exact ⟨_, _, rfl, by simp [nmT]⟩
 | un k e =>
  simp only [E.lvl] at h8
  have h20 : k ≠ 20 := by intro e; subst e; simp at h8
  have h19 : k = 19 := by
   apply Decidable.byContradiction
   intro h19
   rw [if_neg h20, if_neg h19] at h8; omega
  simp only [E.pt, if_neg h20, if_pos h19]
  exact ⟨_, _, rfl, by decide⟩
 | bin k a b =>
  have := sgn_lvl ho.1 ho.2.1
  simp only [E.lvl] at h8; omega
theorem sees_tok (s : Bs) (k : Nat) (v : Bs) (p : Nat) (r : List Tok) : sees s (⟨k, v, p⟩ :: r) = ((decide (k = 50) || decide (k = 51)) && v == s) := rfl
theorem atom_num {sz n p : Nat} {r : List Tok} (h : n ≤ 9223372036854775807) : atom sz (⟨16, decF 20 n, p⟩ :: r) = some (.ok ((E.num n).nodes, r)) := by
 have h20 : n < 10 ^ 20 := by have : (10 : Nat) ^ 20 = 100000000000000000000 := by decide
                              omega
 have hv := decF_val 20 n h20
 simp only [Px.atom, if_true]
 rw [if_neg (by intro e; rw [e, dval_topv] at hv; omega), hv]
 rfl
theorem top_is : decF 20 9223372036854775808 = Lx.top := by decide
theorem brk_reads {sz : Nat} {e : E} {n : Nat} (ho : e.ok n) (hcore : ∀ ts rest, Same ts e.pt → Stops e.lvl rest → Ex sz e.lvl [] (ts ++ rest) (.ok (e.nodes, rest))) (hmin : e.lvl = 9 → ∃ t r, e.pt = t :: r ∧ ((t.kind ≠ 50 ∧ t.kind ≠ 51) ∨ t.val ≠ gMinus))
   {m : Nat} (h1 : 1 ≤ m) (h9 : m ≤ 9) {ts rest : List Tok} (hs : Same ts (brkT e.lvl m e.pt)) (hst : Stops m rest) : Ex sz m [] (ts ++ rest) (.ok (e.nodes, rest)) := by
 have hr := e.lvl_range ho
 have plain : ∀ (m : Nat) (ts rest : List Tok), 1 ≤ m → m ≤ e.lvl → Same ts e.pt → Stops m rest → Ex sz m [] (ts ++ rest) (.ok (e.nodes, rest)) := by
  intro m ts rest h1 hm hs hst
  refine Ex.down h1 hr.2 hm (hcore ts rest hs (hst.up hm)) hst (fun e9 => ?_) (fun h4 => ?_)
  · obtain ⟨t, r, ht, hne⟩ := hmin e9
    rw [ht] at hs
    obtain ⟨p, q, rfl, _⟩ := hs.cons
    simp only [List.cons_append, sees_tok, Bool.and_eq_false_iff, Bool.or_eq_false_iff, decide_eq_false_iff_not, beq_eq_false_iff_ne]
    exact hne
  · obtain ⟨t, r, ht, hne⟩ := head_not e ho h4
    rw [ht] at hs
    obtain ⟨p, q, rfl, _⟩ := hs.cons
    simp only [List.cons_append, sees_tok, Bool.and_eq_false_iff, Bool.or_eq_false_iff, decide_eq_false_iff_not, beq_eq_false_iff_ne]
    exact hne
 unfold brkT at hs
 split at hs
 · rename_i hlt
   obtain ⟨p, q, rfl, hs2⟩ := hs.cons
   obtain ⟨x, y, rfl, hx, hy⟩ := hs2.app
   obtain ⟨p2, q2, rfl, hq⟩ := hy.cons
   obtain rfl := hq.nil
   have hin := plain 1 x (⟨51, [41], p2⟩ :: rest) (by omega) hr.1 hx (stops_tok (.inr ⟨by decide, by decide⟩))
   have hbra : Ex sz 9 [] (⟨51, [40], p⟩ :: (x ++ (⟨51, [41], p2⟩ :: rest))) (.ok (e.nodes, rest)) := Ex.bra rfl hin rfl
   have := Ex.down h1 (Nat.le_refl 9) h9 hbra hst (fun _ => rfl) (fun _ => rfl)
   simpa [sgT] using this
 · rename_i hlt
   exact plain m ts rest h1 (by omega) hs hst
theorem head_min {n : Nat} (e : E) (ho : e.ok n) (h : e.lvl = 9) : ∃ t r, e.pt = t :: r ∧ ((t.kind ≠ 50 ∧ t.kind ≠ 51) ∨ t.val ≠ gMinus) := by
 cases e with
 | null => exact ⟨_, _, rfl, .inr (by decide)⟩
 | bool b => refine ⟨_, _, rfl, .inr ?_⟩; cases b <;> decide
 | num z =>
  simp only [E.lvl] at h
  split at h
  · omega
  · rename_i hz
    simp only [E.pt, if_neg hz]
    exact ⟨_, _, rfl, .inl (by simp [dgT])⟩
 | str s => exact ⟨_, _, rfl, .inl (by simp [stT])⟩
 | nm s => exact ⟨_, _, rfl, .inl (by simp [nmT])⟩
 | un k e =>
  simp only [E.lvl] at h
  split at h
  · omega
  · split at h <;> omega
 | bin k a b =>
  have := sgn_lvl ho.1 ho.2.1
  simp only [E.lvl] at h; omega
def Core (sz : Nat) (e : E) : Prop := ∀ ts rest, Same ts e.pt → Stops e.lvl rest → Ex sz e.lvl [] (ts ++ rest) (.ok (e.nodes, rest))
def LeftL (L : Nat) : Prop := L = 1 ∨ L = 2 ∨ L = 5 ∨ L = 6 ∨ L = 7
def Loop (sz : Nat) (e : E) : Prop := LeftL e.lvl → ∀ ts rest r, Same ts e.pt → Stops (e.lvl + 1) rest → Ex sz (e.lvl + 10) e.nodes rest r → Ex sz e.lvl [] (ts ++ rest) r
theorem loop_operand {sz n : Nat} {a : E} (ho : a.ok n) (hc : Core sz a) (hl : Loop sz a) {L : Nat} (hL : LeftL L) {ts rest : List Tok} {r : Res (List Nd)} (hs : Same ts (brkT a.lvl L a.pt)) (hst : Stops (L + 1) rest) (h : Ex sz (L + 10) a.nodes rest r) : Ex sz L [] (ts ++ rest) r := by
 by_cases he : a.lvl = L
 · subst he
   unfold brkT at hs
   rw [if_neg (by omega)] at hs
   exact hl hL ts rest r hs hst h
 · have hs' : Same ts (brkT a.lvl (L + 1) a.pt) := by
    unfold brkT at hs ⊢
    by_cases hlt : a.lvl < L
    · rw [if_pos hlt] at hs
      rw [if_pos (by omega)]; exact hs
    · rw [if_neg hlt] at hs
      rw [if_neg (by omega)]; exact hs
   have hLr : 1 ≤ L ∧ L ≤ 7 ∧ L ≠ 3 ∧ L ≠ 4 := by unfold LeftL at hL; omega
   have := brk_reads ho hc (head_min a ho) (m := L + 1) (by omega) (by omega) hs' hst
   exact Ex.left (by omega) hLr.2.2.1 hLr.2.2.2 this h
theorem core {sz n : Nat} (e : E) (ho : e.ok n) : Core sz e ∧ Loop sz e := by
 induction e with
 | null =>
  refine ⟨fun ts rest hs _ => ?_, fun hL => by unfold LeftL at hL; simp [E.lvl] at hL⟩
  obtain ⟨p, q, rfl, hq⟩ := hs.cons
  obtain rfl := hq.nil
  exact Ex.atom rfl rfl
 | bool b =>
  refine ⟨fun ts rest hs _ => ?_, fun hL => by unfold LeftL at hL; simp [E.lvl] at hL⟩
  obtain ⟨p, q, rfl, hq⟩ := hs.cons
  obtain rfl := hq.nil
  cases b
  · exact Ex.atom rfl rfl
  · exact Ex.atom rfl rfl
 | num z =>
  have hz := ho
  simp only [E.ok] at hz
  refine ⟨fun ts rest hs _ => ?_, fun hL => by unfold LeftL at hL; simp only [E.lvl] at hL; split at hL <;> omega⟩
  simp only [E.pt] at hs
  simp only [E.lvl]
  split at hs
  · rename_i hneg
    rw [if_pos hneg]
    obtain ⟨p, q, rfl, hq⟩ := hs.cons
    obtain ⟨p2, q2, rfl, hq2⟩ := hq.cons
    obtain rfl := hq2.nil
    by_cases hb : z = bot
    · subst hb
      have ht : isTop (⟨16, decF 20 9223372036854775808, p2⟩ :: rest) = true := by rw [top_is]; rfl
      exact Ex.top (ts := ⟨51, [45], p⟩ :: ⟨16, decF 20 9223372036854775808, p2⟩ :: rest) rfl ht
    · unfold bot at hb
      have hn : z.natAbs ≤ 9223372036854775807 := by omega
      have ha : Ex sz 8 [] (⟨16, decF 20 z.natAbs, p2⟩ :: rest) (.ok ((E.num z.natAbs).nodes, rest)) := Ex.up8 rfl (Ex.atom rfl (atom_num hn))
      have ht : isTop (⟨16, decF 20 z.natAbs, p2⟩ :: rest) = false := by
       simp only [isTop, Bool.and_eq_false_iff, beq_eq_false_iff_ne]
       right
       intro e
       have h20 : z.natAbs < 10 ^ 20 := by have : (10 : Nat) ^ 20 = 100000000000000000000 := by decide
                                           omega
       have hv := decF_val 20 z.natAbs h20
       rw [e, dval_topv] at hv; omega
      refine Ex.neg (ts := ⟨51, [45], p⟩ :: ⟨16, decF 20 z.natAbs, p2⟩ :: rest) rfl ht ha ?_
      show negate _ _ _ = _
      rw [negate_num, if_neg (by unfold bot; omega)]
      rw [show -((z.natAbs : Nat) : Int) = z by omega]
  · rename_i hneg
    rw [if_neg hneg]
    obtain ⟨p, q, rfl, hq⟩ := hs.cons
    obtain rfl := hq.nil
    have := atom_num (sz := sz) (n := z.natAbs) (p := p) (r := rest) (by omega)
    rw [show ((z.natAbs : Nat) : Int) = z by omega] at this
    exact Ex.atom rfl this
 | str s =>
  refine ⟨fun ts rest hs _ => ?_, fun hL => by unfold LeftL at hL; simp [E.lvl] at hL⟩
  obtain ⟨p, q, rfl, hq⟩ := hs.cons
  obtain rfl := hq.nil
  exact Ex.atom rfl rfl
 | nm s =>
  refine ⟨fun ts rest hs _ => ?_, fun hL => by unfold LeftL at hL; simp [E.lvl] at hL⟩
  obtain ⟨p, q, rfl, hq⟩ := hs.cons
  obtain rfl := hq.nil
  refine Ex.atom rfl ?_
  simp only [E.ok] at ho
  simp only [nmT, List.cons_append, List.nil_append, Px.atom]
  rw [if_neg (by decide), if_neg (by decide), if_pos trivial, if_neg (by omega)]
  rfl
 | un k e ih =>
  obtain ⟨hc, hl⟩ := ih ho.2.2.2
  have R := fun {m : Nat} (h1 : 1 ≤ m) (h9 : m ≤ 9) {ts rest : List Tok} (hs : Same ts (brkT e.lvl m e.pt)) (hst : Stops m rest) => brk_reads (sz := sz) ho.2.2.2 hc (head_min e ho.2.2.2) h1 h9 hs hst
  have hk1 := ho.1
  have hk2 := ho.2.1
  refine ⟨fun ts rest hs hst => ?_, fun hL => by unfold LeftL at hL; simp only [E.lvl] at hL; split at hL; omega; split at hL <;> omega⟩
  simp only [E.pt] at hs
  simp only [E.lvl] at hst ⊢
  by_cases h20 : k = 20
  · rw [if_pos h20] at hs hst ⊢
    obtain ⟨p, q, rfl, hq⟩ := hs.cons
    subst h20
    exact Ex.not (ts := ⟨50, kNOT, p⟩ :: (q ++ rest)) rfl (R (by omega) (by omega) hq hst) rfl
  · rw [if_neg h20] at hs hst ⊢
    by_cases h19 : k = 19
    · rw [if_pos h19] at hs hst ⊢
      obtain ⟨p, q, rfl, hq⟩ := hs.cons
      subst h19
      have hnum := ho.2.2.1 rfl
      refine Ex.neg (ts := ⟨51, [45], p⟩ :: (q ++ rest)) rfl ?_ (R (by omega) (by omega) hq hst) ?_
      · obtain ⟨t, r, ht, hk⟩ := head_num e ho.2.2.2 hnum
        rw [ht] at hq
        obtain ⟨p2, q2, rfl, _⟩ := hq.cons
        simp only [List.tail_cons, List.cons_append, isTop, Bool.and_eq_false_iff, decide_eq_false_iff_not]
        exact .inl hk
      · exact negate_not _ n e _ hnum ho.2.2.2
    · rw [if_neg h19] at hs hst ⊢
      by_cases h21 : k = 21
      · rw [if_pos h21] at hs
        obtain ⟨x, y, rfl, hx, hy⟩ := hs.app
        obtain ⟨p, q, rfl, hq⟩ := hy.cons
        obtain ⟨p2, q2, rfl, hq2⟩ := hq.cons
        obtain rfl := hq2.nil
        rw [List.append_assoc]
        refine Ex.cmp (R (by omega) (by omega) hx (stops_is (by omega))) ?_
        subst h21
        exact tail4_is rfl rfl
      · rw [if_neg h21] at hs
        have h22 : k = 22 := by omega
        obtain ⟨x, y, rfl, hx, hy⟩ := hs.app
        obtain ⟨p, q, rfl, hq⟩ := hy.cons
        obtain ⟨p2, q2, rfl, hq2⟩ := hq.cons
        obtain ⟨p3, q3, rfl, hq3⟩ := hq2.cons
        obtain rfl := hq3.nil
        rw [List.append_assoc]
        refine Ex.cmp (R (by omega) (by omega) hx (stops_is (by omega))) ?_
        subst h22
        exact tail4_isnot rfl rfl
 | bin k a b iha ihb =>
  obtain ⟨hk1, hk2, hoa, hob⟩ := ho
  obtain ⟨hca, hla⟩ := iha hoa
  obtain ⟨hcb, hlb⟩ := ihb hob
  have hL := sgn_lvl hk1 hk2
  have hop := fun (l p : Nat) (r : List Tok) => oper_op hk1 hk2 l p r
  have hpos : k ≠ 0 := by omega
  have hst' : ∀ (m p : Nat) (r : List Tok), (sgnT k).2 < m → Stops m (⟨(opT k).kind, (opT k).val, p⟩ :: r) := fun m p r hm => ⟨fun l hl => by rw [hop, if_neg (by omega)], fun _ => sees_op hk1 hk2 p r⟩
  have hloop : Loop sz (.bin k a b) := by
   intro hLL ts rest r hs hst h
   simp only [E.lvl] at hLL hst h ⊢
   simp only [E.pt] at hs
   obtain ⟨x, y, rfl, hx, hy⟩ := hs.app
   obtain ⟨p, q, rfl, hq⟩ := hy.cons
   have h4 : (sgnT k).2 ≠ 4 := by unfold LeftL at hLL; omega
   unfold leftOf at hx
   rw [if_neg h4] at hx
   rw [List.append_assoc]
   refine loop_operand hoa hca hla hLL hx (hst' _ _ _ (by omega)) ?_
   have hb := brk_reads (sz := sz) hob hcb (head_min b hob) (m := (sgnT k).2 + 1) (by omega) (by omega) hq hst
   have ho0 := hop (sgnT k).2 p (q ++ rest)
   rw [if_pos rfl] at ho0
   refine Ex.more (ts := ⟨(opT k).kind, (opT k).val, p⟩ :: (q ++ rest)) (by rw [ho0]; exact hpos) hb ?_
   show Ex sz _ _ _ _
   rw [ho0]
   exact h
  refine ⟨fun ts rest hs hst => ?_, hloop⟩
  by_cases h4 : (sgnT k).2 = 4
  · simp only [E.lvl] at hst ⊢
    simp only [E.pt] at hs
    rw [h4] at hst ⊢
    obtain ⟨x, y, rfl, hx, hy⟩ := hs.app
    obtain ⟨p, q, rfl, hq⟩ := hy.cons
    unfold leftOf at hx
    rw [if_pos h4] at hx
    rw [h4] at hq
    rw [List.append_assoc]
    have ha := brk_reads (sz := sz) hoa hca (head_min a hoa) (m := 5) (by omega) (by omega) hx (hst' 5 p (q ++ rest) (by omega))
    have hb := brk_reads (sz := sz) hob hcb (head_min b hob) (m := 5) (by omega) (by omega) hq (hst.up (by omega))
    have ho0 := hop 4 p (q ++ rest)
    rw [if_pos h4.symm] at ho0
    refine Ex.cmp ha ?_
    refine tail4_op (q := ⟨(opT k).kind, (opT k).val, p⟩ :: (q ++ rest)) (sees_op hk1 hk2 p _) (by rw [ho0]; exact hpos) hb ?_
    show _ = _
    rw [ho0]
    rfl
  · have hLL : LeftL (sgnT k).2 := by unfold LeftL; omega
    refine hloop hLL ts rest _ hs (hst.up (by omega)) (Ex.end_ (hst.1 _ (Nat.le_refl _)))
theorem expr_reads {sz n : Nat} (e : E) (ho : e.ok n) {ts rest : List Tok} (hs : Same ts e.pt) (hst : Stops 1 rest) : Ex sz 1 [] (ts ++ rest) (.ok (e.nodes, rest)) := by
 refine brk_reads ho (core e ho).1 (head_min e ho) (m := 1) (by omega) (by omega) ?_ hst
 unfold brkT
 rw [if_neg (by have := (e.lvl_range ho).1; omega)]
 exact hs
end Px
end
section
namespace Px
open Lx (Bs Tok)
def sepT : List (List PT) → List PT
 | [] => []
 | [a] => a
 | a :: b :: r => a ++ sgT [44] :: sepT (b :: r)
def typeT (n : Nat) : Bs := if n % 4 = 1 then kINTEGER else if n % 4 = 2 then kTEXT else kBOOLEAN
def colT (c : Bs × Nat) : List PT := nmT c.1 :: kwT (typeT c.2) :: (if 4 < c.2 then [kwT kNOT, kwT kNULL] else [])
def rowT (r : List E) : List PT := sgT [40] :: (sepT (r.map E.pt) ++ [sgT [41]])
def setT (s : Bs × E) : List PT := nmT s.1 :: sgT [61] :: s.2.pt
def itemT : Option E → List PT
 | none => [sgT [42]]
 | some e => e.pt
def orderT (o : E × Bool) : List PT := o.1.pt ++ (if o.2 = true then [kwT kDESC] else [])
def whereT : Option E → List PT
 | none => []
 | some e => kwT kWHERE :: e.pt
def limT : Option Nat → List PT
 | none => []
 | some n => [kwT kLIMIT, dgT n]
def ordersT : List (E × Bool) → List PT
 | [] => []
 | o :: r => kwT kORDER :: kwT kBY :: sepT ((o :: r).map orderT)
def St.pt : St → List PT
 | .create t c => kwT kCREATE :: kwT kTABLE :: nmT t :: sgT [40] :: (sepT (c.map colT) ++ [sgT [41]])
 | .drop t => [kwT kDROP, kwT kTABLE, nmT t]
 | .insert t r => kwT kINSERT :: kwT kINTO :: nmT t :: kwT kVALUES :: sepT (r.map rowT)
 | .delete t w => kwT kDELETE :: kwT kFROM :: nmT t :: whereT w
 | .update t s w => kwT kUPDATE :: nmT t :: kwT kSET :: (sepT (s.map setT) ++ whereT w)
 | .select i t w o l => kwT kSELECT :: (sepT (i.map itemT) ++ kwT kFROM :: nmT t :: (whereT w ++ (ordersT o ++ limT l)))
structure St.Fit (s : St) : Prop where
 exprs : ∀ e ∈ s.exprs, e.ok 2000
 parts : match s with
  | .create t c => isName t = true ∧ 1 ≤ c.length ∧ c.length ≤ 6 ∧ ∀ x ∈ c, isName x.1 = true ∧ 1 ≤ x.2 ∧ x.2 ≤ 7 ∧ x.2 ≠ 4
  | .drop t => isName t = true
  | .insert t r => isName t = true ∧ r ≠ [] ∧ ∀ x ∈ r, x ≠ []
  | .delete t w => isName t = true
  | .update t s w => isName t = true ∧ s ≠ [] ∧ ∀ x ∈ s, isName x.1 = true
  | .select i t w o l => isName t = true ∧ i ≠ [] ∧ ∀ n, l = some n → n ≤ 1000000000
theorem no_sees {b : Bool} (h : b = false) : ¬ b = true := by rw [h]; decide
theorem isName_len {s : Bs} (h : isName s = true) : s.length ≤ 30 := by
 simp only [isName, Bool.and_eq_true, decide_eq_true_eq] at h; exact h.2
theorem must_kw {sz p k : Nat} {s : Bs} {r : List Tok} (h : k = 50 ∨ k = 51) : mustR sz s (⟨k, s, p⟩ :: r) (.ok ((), r)) := by
 unfold mustR must
 rw [if_pos (by rw [sees_tok]; rcases h with rfl | rfl <;> simp)]
 rfl
theorem name_nm {sz p : Nat} {s : Bs} {r : List Tok} (h : isName s = true) : nameR sz (⟨18, s, p⟩ :: r) (.ok (s, r)) := by
 have := isName_len h
 show name sz (⟨18, s, p⟩ :: r) = _
 simp only [name]
 rw [if_neg (by simp), if_neg (by omega)]
theorem ex_pt {sz : Nat} {e : E} (ho : e.ok 2000) {ts rest : List Tok} (hs : Same ts e.pt) (hst : Stops 1 rest) : exR sz (ts ++ rest) (.ok (e, rest)) := by
 have h := expr_reads (sz := sz) e ho hs hst
 refine ⟨h, fun e' q he => ?_⟩
 cases he
 refine ⟨ho, ?_⟩
 have := (Ex.len (by omega) h).2
 rwa [E.nodes_length] at this
theorem stops_kw {p : Nat} {s : Bs} {r : List Tok} (h : s ≠ kIS ∧ ∀ x ∈ opTab, x.2.1 ≠ s) : Stops 1 (⟨50, s, p⟩ :: r) := stops_tok (.inr ⟨h.2, h.1⟩)
theorem stops_sg {p : Nat} {s : Bs} {r : List Tok} (h : s ≠ kIS ∧ ∀ x ∈ opTab, x.2.1 ≠ s) : Stops 1 (⟨51, s, p⟩ :: r) := stops_tok (.inr ⟨h.2, h.1⟩)
section
variable {α : Type} {x : Nat → Rg α} {pt : α → List PT} {P : List Tok → Prop} {N : Nat}
theorem sep_go (hP : ∀ p r, P (⟨51, [44], p⟩ :: r)) {T rest : List Tok} (hr : P rest) (hc : sees gComma rest = false) :
   ∀ (l2 l1 : List α) (ts : List Tok) (p : Nat), (∀ i, i < N → ∀ a ∈ l2, ∀ ts rest, Same ts (pt a) → P rest → x i (ts ++ rest) (.ok (a, rest))) → l1.length + l2.length ≤ N → l2 ≠ [] →
     Reach x T l1 (⟨51, [44], p⟩ :: (ts ++ rest)) → Same ts (sepT (l2.map pt)) → Sep x T (.ok (l1 ++ l2, rest))
 | [], _, _, _, _, _, h, _, _ => absurd rfl h
 | [a], l1, ts, p, hx, hN, _, hR, hs => by
  refine Sep.stop (Reach.step hR rfl ?_) hc
  exact hx _ (by simp at hN; omega) a (by simp) ts rest hs hr
 | a :: b :: r, l1, ts, p, hx, hN, _, hR, hs => by
  simp only [List.map_cons, sepT] at hs
  obtain ⟨y, z, rfl, hy, hz⟩ := hs.app
  obtain ⟨p2, q, rfl, hq⟩ := hz.cons
  have h1 := hx l1.length (by simp at hN; omega) a (by simp) y (⟨51, [44], p2⟩ :: (q ++ rest)) hy (hP _ _)
  have hR2 : Reach x T (l1 ++ [a]) (⟨51, [44], p2⟩ :: (q ++ rest)) := by
   refine Reach.step hR rfl ?_
   simpa [sgT] using h1
  have := sep_go hP hr hc (b :: r) (l1 ++ [a]) q p2 (fun i hi c hc' => hx i hi c (by simp at hc' ⊢; exact .inr hc')) (by simp at hN ⊢; omega) (by simp) hR2 (by simpa using hq)
  simpa using this
theorem sep_reads (hP : ∀ p r, P (⟨51, [44], p⟩ :: r)) {l : List α} (hx : ∀ i, i < N → ∀ a ∈ l, ∀ ts rest, Same ts (pt a) → P rest → x i (ts ++ rest) (.ok (a, rest))) (hN : l.length ≤ N) (hne : l ≠ [])
   {ts rest : List Tok} (hs : Same ts (sepT (l.map pt))) (hr : P rest) (hc : sees gComma rest = false) : Sep x (ts ++ rest) (.ok (l, rest)) := by
 match l, hne with
 | [a], _ => exact Sep.stop (Reach.first (hx 0 (by simp at hN; omega) a (by simp) ts rest hs hr)) hc
 | a :: b :: r, _ =>
  simp only [List.map_cons, sepT] at hs
  obtain ⟨y, z, rfl, hy, hz⟩ := hs.app
  obtain ⟨p2, q, rfl, hq⟩ := hz.cons
  have h1 := hx 0 (by simp at hN; omega) a (by simp) y (⟨51, [44], p2⟩ :: (q ++ rest)) hy (hP _ _)
  have hR2 : Reach x (y ++ (⟨51, [44], p2⟩ :: (q ++ rest))) [a] (⟨51, [44], p2⟩ :: (q ++ rest)) := Reach.first h1
  have := sep_go (N := N) hP hr hc (b :: r) [a] q p2 (fun i hi c hc' => hx i hi c (by simp at hc' ⊢; exact .inr hc')) (by simp at hN ⊢; omega) (by simp) hR2 (by simpa using hq)
  simpa [sgT] using this
end
theorem where_pt {sz : Nat} {w : Option E} (ho : ∀ e ∈ w.toList, e.ok 2000) {ts rest : List Tok} (hs : Same ts (whereT w)) (hst : Stops 1 rest) (hw : sees kWHERE rest = false) : whereR sz (ts ++ rest) (.ok (w, rest)) := by
 cases w with
 | none =>
  obtain rfl := hs.nil
  unfold whereR
  rw [List.nil_append, if_neg (by simp [hw])]
 | some e =>
  obtain ⟨p, q, rfl, hq⟩ := hs.cons
  unfold whereR
  rw [if_pos (by rfl)]
  exact Rg.go (ex_pt (ho e (by simp)) hq hst) rfl
theorem head_star {n : Nat} (e : E) (ho : e.ok n) : ∃ t r, e.pt = t :: r ∧ ((t.kind ≠ 50 ∧ t.kind ≠ 51) ∨ t.val ≠ gStar) := by
 induction e with
 | null => exact ⟨_, _, rfl, .inr (by decide)⟩
 | bool b => refine ⟨_, _, rfl, .inr ?_⟩; cases b <;> decide
 | num z =>
  simp only [E.pt]
  split
  · exact ⟨_, _, rfl, .inr (by decide)⟩
  · exact ⟨_, _, rfl, .inl (by simp [dgT])⟩
 | str s => exact ⟨_, _, rfl, .inl (by simp [stT])⟩
 | nm s => exact ⟨_, _, rfl, .inl (by simp [nmT])⟩
 | un k e ih =>
  simp only [E.pt]
  have key := head_brk (lvl := e.lvl) (least := 5) (l := e.pt) (P := fun t => (t.kind ≠ 50 ∧ t.kind ≠ 51) ∨ t.val ≠ gStar) (.inr (by decide)) (fun _ => ih ho.2.2.2)
  split
  · exact ⟨_, _, rfl, .inr (by decide)⟩
  · split
    · exact ⟨_, _, rfl, .inr (by decide)⟩
    · split <;> exact head_app key
 | bin k a b iha ihb =>
  simp only [E.pt]
  exact head_app (head_brk (P := fun t => (t.kind ≠ 50 ∧ t.kind ≠ 51) ∨ t.val ≠ gStar) (.inr (by decide)) fun _ => iha ho.2.2.1)
theorem item_pt {sz : Nat} {w : Option E} (ho : ∀ e ∈ w.toList, e.ok 2000) {ts rest : List Tok} (hs : Same ts (itemT w)) (hst : Stops 1 rest) : itemR sz (ts ++ rest) (.ok (w, rest)) := by
 cases w with
 | none =>
  obtain ⟨p, q, rfl, hq⟩ := hs.cons
  obtain rfl := hq.nil
  unfold itemR
  rw [if_pos (by rfl)]
  rfl
 | some e =>
  unfold itemR
  have hne : sees gStar (ts ++ rest) = false := by
   obtain ⟨t, r, ht, hne⟩ := head_star e (ho e (by simp))
   simp only [itemT] at hs
   rw [ht] at hs
   obtain ⟨p, q, rfl, _⟩ := hs.cons
   simp only [List.cons_append, sees_tok, Bool.and_eq_false_iff, Bool.or_eq_false_iff, decide_eq_false_iff_not, beq_eq_false_iff_ne]
   exact hne
  rw [if_neg (by simp [hne])]
  exact Rg.go (ex_pt (ho e (by simp)) hs hst) rfl
def EndsO (rest : List Tok) : Prop := Stops 1 rest ∧ sees kDESC rest = false ∧ sees kASC rest = false
theorem order_pt {sz : Nat} {o : E × Bool} (ho : o.1.ok 2000) {ts rest : List Tok} (hs : Same ts (orderT o)) (hst : EndsO rest) : orderR sz (ts ++ rest) (.ok (o, rest)) := by
 obtain ⟨e, b⟩ := o
 obtain ⟨x, y, rfl, hx, hy⟩ := hs.app
 rw [List.append_assoc]
 cases b with
 | true =>
  obtain ⟨p, q, rfl, hq⟩ := hy.cons
  obtain rfl := hq.nil
  refine Rg.go (ex_pt ho hx (stops_kw ⟨by decide, by decide⟩)) ?_
  unfold descR
  rw [if_pos (by rfl)]
  rfl
 | false =>
  obtain rfl := hy.nil
  refine Rg.go (ex_pt ho hx hst.1) ?_
  unfold descR
  rw [if_neg (by simp [hst.2.1]), if_neg (by simp [hst.2.2])]
  rfl
theorem col_pt {sz i : Nat} (hi : i < 6) {c : Bs × Nat} (hn : isName c.1 = true) (h1 : 1 ≤ c.2) (h2 : c.2 ≤ 7) (h3 : c.2 ≠ 4) {ts rest : List Tok} (hs : Same ts (colT c)) (hr : sees kNOT rest = false) : colR sz i (ts ++ rest) (.ok (c, rest)) := by
 obtain ⟨n, k⟩ := c
 obtain ⟨p, q, rfl, hq⟩ := hs.cons
 obtain ⟨p2, q2, rfl, hq2⟩ := hq.cons
 unfold colR
 refine Rg.go (name_nm hn) ?_
 rw [if_neg (by omega)]
 have hk : kindR sz (⟨50, typeT k, p2⟩ :: (q2 ++ rest)) (.ok (k % 4, q2 ++ rest)) := by
  simp only at h1 h2 h3
  unfold kindR typeT
  have : k % 4 = 1 ∨ k % 4 = 2 ∨ k % 4 = 3 := by omega
  rcases this with h | h | h
  · rw [h]; rfl
  · rw [h]; rfl
  · rw [h]
    rw [if_neg (by exact no_sees rfl), if_neg (by exact no_sees rfl)]
    exact Rg.go (must_kw (.inl rfl)) rfl
 refine Rg.go hk ?_
 unfold nullR
 simp only at h1 h2 h3 hq2
 by_cases h4 : 4 < k
 · rw [if_pos h4] at hq2
   obtain ⟨p3, q3, rfl, hq3⟩ := hq2.cons
   obtain ⟨p4, q4, rfl, hq4⟩ := hq3.cons
   obtain rfl := hq4.nil
   rw [if_pos (by rfl)]
   refine Rg.go (must_kw (.inl rfl)) ?_
   show _ = _
   rw [show k % 4 + 4 = k by omega]; rfl
 · rw [if_neg h4] at hq2
   obtain rfl := hq2.nil
   rw [List.nil_append, if_neg (by simp [hr]), show k % 4 = k by omega]
   rfl
theorem row_pt {sz : Nat} {r : List E} (hne : r ≠ []) (ho : ∀ e ∈ r, e.ok 2000) {ts rest : List Tok} (hs : Same ts (rowT r)) : rowR sz (ts ++ rest) (.ok (r, rest)) := by
 obtain ⟨p, q, rfl, hq⟩ := hs.cons
 obtain ⟨x, y, rfl, hx, hy⟩ := hq.app
 obtain ⟨p2, q2, rfl, hq2⟩ := hy.cons
 obtain rfl := hq2.nil
 unfold rowR
 refine Rg.go (q := x ++ (⟨51, [41], p2⟩ :: rest)) (by have := must_kw (sz := sz) (p := p) (s := gOpen) (r := x ++ (⟨51, [41], p2⟩ :: rest)) (.inr rfl); simpa [sgT, gOpen] using this) ?_
 refine Rg.go (sep_reads (N := r.length) (P := Stops 1) (pt := E.pt) (fun p r => stops_sg ⟨by decide, by decide⟩) (fun i _ e he ts rest h1 h2 => ex_pt (ho e he) h1 h2) (Nat.le_refl _) hne hx (stops_sg ⟨by decide, by decide⟩) rfl) ?_
 exact Rg.go (must_kw (.inr rfl)) rfl
theorem set_pt {sz : Nat} {s : Bs × E} (hn : isName s.1 = true) (ho : s.2.ok 2000) {ts rest : List Tok} (hs : Same ts (setT s)) (hst : Stops 1 rest) : setR sz (ts ++ rest) (.ok (s, rest)) := by
 obtain ⟨p, q, rfl, hq⟩ := hs.cons
 obtain ⟨p2, q2, rfl, hq2⟩ := hq.cons
 exact Rg.go (name_nm hn) (Rg.go (must_kw (.inr rfl)) (Rg.go (ex_pt ho hq2 hst) rfl))
theorem lim_pt {sz : Nat} {l : Option Nat} (h : ∀ n, l = some n → n ≤ 1000000000) {ts : List Tok} (hs : Same ts (limT l)) : limR sz ts (.ok (l, [])) := by
 cases l with
 | none =>
  obtain rfl := hs.nil
  rfl
 | some n =>
  have hn := h n rfl
  obtain ⟨p, q, rfl, hq⟩ := hs.cons
  obtain ⟨p2, q2, rfl, hq2⟩ := hq.cons
  obtain rfl := hq2.nil
  have h20 : n < 10 ^ 20 := by have : (10 : Nat) ^ 20 = 100000000000000000000 := by decide
                               omega
  have hv := decF_val 20 n h20
  unfold limR
  rw [if_pos (by rfl)]
  refine Rg.go (a := n) (q := []) ?_ rfl
  simp only [List.tail_cons, dgT, limit]
  rw [if_neg (by simp), if_neg (by
   rintro (e | e)
   · rw [e, dval_topv] at hv; omega
   · omega), hv]
theorem limT_heads (l : Option Nat) {ts : List Tok} (hs : Same ts (limT l)) : Stops 1 ts ∧ sees kDESC ts = false ∧ sees kASC ts = false ∧ sees gComma ts = false ∧ sees kORDER ts = false ∧ sees kWHERE ts = false := by
 cases l with
 | none => obtain rfl := hs.nil; exact ⟨stops_nil _, rfl, rfl, rfl, rfl, rfl⟩
 | some n =>
  obtain ⟨p, q, rfl, hq⟩ := hs.cons
  exact ⟨stops_kw ⟨by decide, by decide⟩, rfl, rfl, rfl, rfl, rfl⟩
theorem orders_pt {sz : Nat} {o : List (E × Bool)} (ho : ∀ x ∈ o, x.1.ok 2000) {ts rest : List Tok} (hs : Same ts (ordersT o)) (hr : EndsO rest) (hc : sees gComma rest = false) (hR : sees kORDER rest = false) : ordersR sz (ts ++ rest) (.ok (o, rest)) := by
 cases o with
 | nil =>
  obtain rfl := hs.nil
  unfold ordersR
  rw [List.nil_append, if_neg (by simp [hR])]
 | cons a o =>
  obtain ⟨p, q, rfl, hq⟩ := hs.cons
  obtain ⟨p2, q2, rfl, hq2⟩ := hq.cons
  unfold ordersR
  rw [if_pos (by rfl)]
  refine Rg.go (must_kw (.inl rfl)) ?_
  exact sep_reads (N := (a :: o).length) (P := EndsO) (pt := orderT) (fun p r => ⟨stops_sg ⟨by decide, by decide⟩, rfl, rfl⟩) (fun i _ x hx ts rest h1 h2 => order_pt (ho x hx) h1 h2) (Nat.le_refl _) (by simp) hq2 hr hc
theorem stmt_reads {sz : Nat} (s : St) (hf : s.Fit) {ts : List Tok} (hs : Same ts s.pt) : stmtR sz ts (.ok (s, [])) := by
 have he := hf.exprs
 have hp := hf.parts
 cases s with
 | create t c =>
  obtain ⟨h1, h2, h3, h4⟩ := hp
  obtain ⟨p, q, rfl, hq⟩ := hs.cons
  obtain ⟨p2, q2, rfl, hq2⟩ := hq.cons
  obtain ⟨p3, q3, rfl, hq3⟩ := hq2.cons
  obtain ⟨p4, q4, rfl, hq4⟩ := hq3.cons
  obtain ⟨x, y, rfl, hx, hy⟩ := hq4.app
  obtain ⟨p5, q5, rfl, hq5⟩ := hy.cons
  obtain rfl := hq5.nil
  unfold stmtR
  rw [if_pos (by rfl)]
  refine Rg.go (must_kw (.inl rfl)) (Rg.go (name_nm h1) (Rg.go (must_kw (.inr rfl)) (Rg.go (a := c) (q := [⟨51, [41], p5⟩]) ?_ (Rg.go (must_kw (.inr rfl)) rfl))))
  exact sep_reads (N := 6) (P := fun r => sees kNOT r = false) (pt := colT) (fun p r => rfl) (fun i hi c hc ts rest a1 a2 => col_pt hi (h4 c hc).1 (h4 c hc).2.1 (h4 c hc).2.2.1 (h4 c hc).2.2.2 a1 a2) h3 (by intro e; subst e; simp at h2) hx rfl rfl
 | drop t =>
  obtain ⟨p, q, rfl, hq⟩ := hs.cons
  obtain ⟨p2, q2, rfl, hq2⟩ := hq.cons
  obtain ⟨p3, q3, rfl, hq3⟩ := hq2.cons
  obtain rfl := hq3.nil
  unfold stmtR
  rw [if_neg (by exact no_sees rfl), if_pos (by rfl)]
  exact Rg.go (must_kw (.inl rfl)) (Rg.go (name_nm hp) rfl)
 | insert t r =>
  obtain ⟨h1, h2, h3⟩ := hp
  obtain ⟨p, q, rfl, hq⟩ := hs.cons
  obtain ⟨p2, q2, rfl, hq2⟩ := hq.cons
  obtain ⟨p3, q3, rfl, hq3⟩ := hq2.cons
  obtain ⟨p4, q4, rfl, hq4⟩ := hq3.cons
  unfold stmtR
  rw [if_neg (by exact no_sees rfl), if_neg (by exact no_sees rfl), if_pos (by rfl)]
  refine Rg.go (must_kw (.inl rfl)) (Rg.go (name_nm h1) (Rg.go (must_kw (.inl rfl)) (Rg.go (a := r) (q := []) ?_ rfl)))
  have := sep_reads (x := fun _ => rowR sz) (N := r.length) (P := fun _ => True) (pt := rowT) (fun p r => trivial) (fun i _ x hx ts rest a1 a2 => row_pt (h3 x hx) (fun e he' => he e (by simp only [St.exprs, List.mem_flatten]; exact ⟨x, hx, he'⟩)) a1) (Nat.le_refl _) h2 hq4 (rest := []) trivial rfl
  simpa using this
 | delete t w =>
  obtain ⟨p, q, rfl, hq⟩ := hs.cons
  obtain ⟨p2, q2, rfl, hq2⟩ := hq.cons
  obtain ⟨p3, q3, rfl, hq3⟩ := hq2.cons
  unfold stmtR
  rw [if_neg (by exact no_sees rfl), if_neg (by exact no_sees rfl), if_neg (by exact no_sees rfl), if_pos (by rfl)]
  refine Rg.go (must_kw (.inl rfl)) (Rg.go (name_nm hp) (Rg.go (a := w) (q := []) ?_ rfl))
  have := where_pt (sz := sz) he hq3 (stops_nil 1) rfl
  simpa using this
 | update t s w =>
  obtain ⟨h1, h2, h3⟩ := hp
  obtain ⟨p, q, rfl, hq⟩ := hs.cons
  obtain ⟨p2, q2, rfl, hq2⟩ := hq.cons
  obtain ⟨p3, q3, rfl, hq3⟩ := hq2.cons
  obtain ⟨x, y, rfl, hx, hy⟩ := hq3.app
  unfold stmtR
  rw [if_neg (by exact no_sees rfl), if_neg (by exact no_sees rfl), if_neg (by exact no_sees rfl), if_neg (by exact no_sees rfl), if_pos (by rfl)]
  have hw : Stops 1 y ∧ sees gComma y = false := by
   cases w with
   | none => obtain rfl := hy.nil; exact ⟨stops_nil 1, rfl⟩
   | some e => obtain ⟨p4, q4, rfl, hq4⟩ := hy.cons; exact ⟨stops_kw ⟨by decide, by decide⟩, rfl⟩
  refine Rg.go (name_nm h1) (Rg.go (must_kw (.inl rfl)) (Rg.go (a := s) (q := y) ?_ (Rg.go (a := w) (q := []) ?_ rfl)))
  · exact sep_reads (x := fun _ => setR sz) (N := s.length) (P := Stops 1) (pt := setT) (fun p r => stops_sg ⟨by decide, by decide⟩) (fun i _ x hx ts rest a1 a2 => set_pt (h3 x hx) (he x.2 (by simp only [St.exprs, List.mem_append, List.mem_map]; exact .inl ⟨x, hx, rfl⟩)) a1 a2) (Nat.le_refl _) h2 hx hw.1 hw.2
  · have := where_pt (sz := sz) (w := w) (fun e he' => he e (by simp only [St.exprs, List.mem_append]; exact .inr he')) hy (stops_nil 1) rfl
    simpa using this
 | select i t w o l =>
  obtain ⟨h1, h2, h3⟩ := hp
  obtain ⟨p, q, rfl, hq⟩ := hs.cons
  obtain ⟨x, y, rfl, hx, hy⟩ := hq.app
  obtain ⟨p2, q2, rfl, hq2⟩ := hy.cons
  obtain ⟨p3, q3, rfl, hq3⟩ := hq2.cons
  obtain ⟨a, b, rfl, ha, hb⟩ := hq3.app
  obtain ⟨c, d, rfl, hc, hd⟩ := hb.app
  unfold stmtR
  rw [if_neg (by exact no_sees rfl), if_neg (by exact no_sees rfl), if_neg (by exact no_sees rfl), if_neg (by exact no_sees rfl), if_neg (by exact no_sees rfl)]
  have hL := limT_heads l hd
  have hO : Stops 1 (c ++ d) ∧ sees kWHERE (c ++ d) = false := by
   cases o with
   | nil => obtain rfl := hc.nil; exact ⟨hL.1, hL.2.2.2.2.2⟩
   | cons o1 o =>
    obtain ⟨p4, q4, rfl, hq4⟩ := hc.cons
    exact ⟨stops_kw ⟨by decide, by decide⟩, rfl⟩
  simp only [St.exprs, items_ex, List.mem_append, List.mem_map, List.mem_flatMap] at he
  refine Rg.go (must_kw (.inl rfl)) ?_
  unfold selectR
  refine Rg.go (a := i) (q := ⟨50, kFROM, p2⟩ :: ⟨18, t, p3⟩ :: (a ++ (c ++ d))) ?_ (Rg.go (must_kw (.inl rfl)) (Rg.go (name_nm h1) (Rg.go (a := w) (q := c ++ d) ?_ (Rg.go (a := o) (q := d) ?_ (Rg.go (lim_pt h3 hd) rfl)))))
  · exact sep_reads (x := fun _ => itemR sz) (N := i.length) (P := Stops 1) (pt := itemT) (fun p r => stops_sg ⟨by decide, by decide⟩) (fun j _ x hx ts rest a1 a2 => item_pt (fun e he' => he e (.inl (.inl ⟨x, hx, he'⟩))) a1 a2) (Nat.le_refl _) h2 hx (stops_kw ⟨by decide, by decide⟩) rfl
  · exact where_pt (fun e he' => he e (.inl (.inr he'))) ha hO.1 hO.2
  · exact orders_pt (fun x hx => he x.1 (.inr ⟨x, hx, rfl⟩)) hc ⟨hL.1, hL.2.1, hL.2.2.1⟩ hL.2.2.2.1 hL.2.2.2.2.1
def AllOk (l : List PT) : Prop := ∀ t ∈ l, t.Ok
theorem AllOk.nil : AllOk [] := fun _ h => by cases h
theorem AllOk.cons {t : PT} {l : List PT} (h : t.Ok) (hl : AllOk l) : AllOk (t :: l) := fun x hx => by
 rcases List.mem_cons.1 hx with rfl | hx
 · exact h
 · exact hl x hx
theorem AllOk.app {a b : List PT} (ha : AllOk a) (hb : AllOk b) : AllOk (a ++ b) := fun x hx => by
 rcases List.mem_append.1 hx with hx | hx
 · exact ha x hx
 · exact hb x hx
theorem AllOk.brk {lvl least : Nat} {l : List PT} (h : AllOk l) : AllOk (brkT lvl least l) := by
 unfold brkT
 split
 · exact .cons (sgT_ok (.inr rfl)) (h.app (.cons (sgT_ok (.inr rfl)) .nil))
 · exact h
theorem AllOk.sep {α : Type} {pt : α → List PT} : ∀ (l : List α), (∀ a ∈ l, AllOk (pt a)) → AllOk (sepT (l.map pt))
 | [], _ => .nil
 | [a], h => h a (by simp)
 | a :: b :: r, h => by
  simp only [List.map_cons, sepT]
  exact (h a (by simp)).app (.cons (sgT_ok (.inr rfl)) (by simpa using AllOk.sep (b :: r) (fun x hx => h x (by simp at hx ⊢; exact .inr hx))))
theorem opT_ok {k : Nat} (h1 : 23 ≤ k) (h2 : k ≤ 36) : (opT k).Ok := by
 unfold opT
 rcases sgn_cases h1 h2 with rfl | rfl | rfl | rfl | rfl | rfl | rfl | rfl | rfl | rfl | rfl | rfl | rfl | rfl
 · exact kwT_ok (by decide)
 · exact kwT_ok (by decide)
 · exact sgT_ok (.inr (by decide))
 · exact sgT_ok (.inl (by decide))
 · exact sgT_ok (.inr (by decide))
 · exact sgT_ok (.inl (by decide))
 · exact sgT_ok (.inr (by decide))
 · exact sgT_ok (.inl (by decide))
 · exact sgT_ok (.inl (by decide))
 · exact sgT_ok (.inr (by decide))
 · exact sgT_ok (.inr (by decide))
 · exact sgT_ok (.inr (by decide))
 · exact sgT_ok (.inr (by decide))
 · exact sgT_ok (.inr (by decide))
theorem E.pt_ok (e : E) (ho : e.ok 2000) (hg : e.good) : AllOk e.pt := by
 induction e with
 | null => exact .cons (kwT_ok (by decide)) .nil
 | bool b => cases b <;> exact .cons (kwT_ok (by decide)) .nil
 | num z =>
  simp only [E.ok] at ho
  simp only [E.pt]
  split
  · exact .cons mnT_ok (.cons (dgT_ok (by omega)) .nil)
  · exact .cons (dgT_ok (by omega)) .nil
 | str s => exact .cons (stT_ok hg ho) .nil
 | nm s => exact .cons (nmT_ok hg) .nil
 | un k e ih =>
  have h := ih ho.2.2.2 hg
  simp only [E.pt]
  split
  · exact .cons (kwT_ok (by decide)) h.brk
  · split
    · exact .cons mnT_ok h.brk
    · split
      · exact h.brk.app (.cons (kwT_ok (by decide)) (.cons (kwT_ok (by decide)) .nil))
      · exact h.brk.app (.cons (kwT_ok (by decide)) (.cons (kwT_ok (by decide)) (.cons (kwT_ok (by decide)) .nil)))
 | bin k a b iha ihb =>
  simp only [E.pt]
  exact (iha ho.2.2.1 hg.1).brk.app (.cons (opT_ok ho.1 ho.2.1) (ihb ho.2.2.2 hg.2).brk)
theorem typeT_ok (n : Nat) : (kwT (typeT n)).Ok := by
 unfold typeT
 split
 · exact kwT_ok (by decide)
 · split <;> exact kwT_ok (by decide)
theorem whereT_ok {w : Option E} (h : ∀ e ∈ w.toList, e.ok 2000 ∧ e.good) : AllOk (whereT w) := by
 cases w with
 | none => exact .nil
 | some e => exact .cons (kwT_ok (by decide)) (e.pt_ok (h e (by simp)).1 (h e (by simp)).2)
theorem St.pt_ok (s : St) (hf : s.Fit) (hg : ∀ e ∈ s.exprs, e.good) : AllOk s.pt := by
 have he : ∀ e ∈ s.exprs, e.ok 2000 ∧ e.good := fun e h => ⟨hf.exprs e h, hg e h⟩
 have hp := hf.parts
 cases s with
 | create t c =>
  obtain ⟨h1, h2, h3, h4⟩ := hp
  refine .cons (kwT_ok (by decide)) (.cons (kwT_ok (by decide)) (.cons (nmT_ok h1) (.cons (sgT_ok (.inr rfl)) ((AllOk.sep c fun x hx => ?_).app (.cons (sgT_ok (.inr rfl)) .nil)))))
  refine .cons (nmT_ok (h4 x hx).1) (.cons (typeT_ok _) ?_)
  split
  · exact .cons (kwT_ok (by decide)) (.cons (kwT_ok (by decide)) .nil)
  · exact .nil
 | drop t => exact .cons (kwT_ok (by decide)) (.cons (kwT_ok (by decide)) (.cons (nmT_ok hp) .nil))
 | insert t r =>
  refine .cons (kwT_ok (by decide)) (.cons (kwT_ok (by decide)) (.cons (nmT_ok hp.1) (.cons (kwT_ok (by decide)) (AllOk.sep r fun x hx => ?_))))
  refine .cons (sgT_ok (.inr rfl)) ((AllOk.sep x fun e he' => ?_).app (.cons (sgT_ok (.inr rfl)) .nil))
  have := he e (by simp only [St.exprs, List.mem_flatten]; exact ⟨x, hx, he'⟩)
  exact e.pt_ok this.1 this.2
 | delete t w => exact .cons (kwT_ok (by decide)) (.cons (kwT_ok (by decide)) (.cons (nmT_ok hp) (whereT_ok he)))
 | update t s w =>
  refine .cons (kwT_ok (by decide)) (.cons (nmT_ok hp.1) (.cons (kwT_ok (by decide)) ((AllOk.sep s fun x hx => ?_).app (whereT_ok fun e he' => he e (by simp only [St.exprs, List.mem_append]; exact .inr he')))))
  have := he x.2 (by simp only [St.exprs, List.mem_append, List.mem_map]; exact .inl ⟨x, hx, rfl⟩)
  exact .cons (nmT_ok (hp.2.2 x hx)) (.cons (sgT_ok (.inr rfl)) (x.2.pt_ok this.1 this.2))
 | select i t w o l =>
  simp only [St.exprs, items_ex, List.mem_append, List.mem_map, List.mem_flatMap] at he
  have hl : AllOk (limT l) := by
   cases l with
   | none => exact .nil
   | some n => have := hp.2.2 n rfl; exact .cons (kwT_ok (by decide)) (.cons (dgT_ok (by omega)) .nil)
  have ho : AllOk (ordersT o) := by
   cases o with
   | nil => exact .nil
   | cons a o =>
    refine .cons (kwT_ok (by decide)) (.cons (kwT_ok (by decide)) (AllOk.sep (a :: o) fun x hx => ?_))
    have := he x.1 (.inr ⟨x, hx, rfl⟩)
    refine (x.1.pt_ok this.1 this.2).app ?_
    split
    · exact .cons (kwT_ok (by decide)) .nil
    · exact .nil
  refine .cons (kwT_ok (by decide)) ((AllOk.sep i fun x hx => ?_).app (.cons (kwT_ok (by decide)) (.cons (nmT_ok hp.1) ((whereT_ok fun e he' => he e (.inl (.inr he'))).app (ho.app hl)))))
  cases x with
  | none => exact .cons (sgT_ok (.inr rfl)) .nil
  | some e =>
   have := he e (.inl (.inl ⟨_, hx, by simp⟩))
   exact e.pt_ok this.1 this.2
theorem round (s : St) (hf : s.Fit) (hg : ∀ e ∈ s.exprs, e.good) (hd : deepest s.exprs ≤ 40) (hl : (render s.pt).length ≤ 2000) : ParseR (render s.pt) (.ok s) := by
 obtain ⟨ts, h1, h2⟩ := lex_text s.pt (s.pt_ok hf hg) hl
 unfold ParseR
 rw [h1]
 refine ⟨_, stmt_reads s hf h2, ?_⟩
 simp only [if_true]
 rw [if_neg (by omega)]
theorem stmt_grows (sz : Nat) (ts : List Tok) : Grows fun n => stmt sz n ts := by
 cases ts with
 | nil => exact grows_const _
 | cons t r =>
  unfold stmt
  refine grows_if (grows_const _) (grows_if ?_ (grows_if (grows_const _) (grows_if ?_ (grows_if ?_ (grows_if ?_ (grows_if ?_ (grows_const _)))))))
  all_goals
   first | unfold create | unfold insert | unfold delete | unfold update | unfold choose
   repeat' (first | exact grows_const _ | exact where_grows _ _ | exact orders_grows _ _ _ | exact sep_grows (col_grows sz) _ _ | exact sep_grows (row_grows _) _ _ | exact sep_grows (setOne_grows _) _ _ | exact sep_grows (pick_grows _) _ _ | refine grows_bind ?_ (fun _ _ => ?_))
theorem whole_grows (sz : Nat) (ts : List Tok) : Grows fun n => whole sz n ts := grows_bind (stmt_grows sz ts) fun _ _ => grows_const _
theorem Parse.one {s : Bs} {r r' : Except (Nat × Nat) (List Nd)} (h : Parse s r) (h' : Parse s r') : r = r' := by
 unfold Parse at h h'
 cases hl : Lx.lex s with
 | error e => rw [hl] at h h'; simp only at h h'; rw [h, h']
 | ok ts =>
  rw [hl] at h h'
  simp only at h h'
  obtain ⟨n, q, h1, h2⟩ := h
  obtain ⟨n', q', h1', h2'⟩ := h'
  have e1 := whole_grows s.length ts n (max n n') _ (Nat.le_max_left _ _) h1
  have e2 := whole_grows s.length ts n' (max n n') _ (Nat.le_max_right _ _) h1'
  simp only at e1 e2
  rw [e1] at e2
  cases e2
  match q, h2, h2' with
  | .error e, h2, h2' => simp only at h2 h2'; rw [h2, h2']
  | .ok (a, _), h2, h2' =>
   obtain ⟨d, d1, d2⟩ := h2
   obtain ⟨d', d1', d2'⟩ := h2'
   rw [d1] at d1'
   cases d1'
   rw [d2, d2']
end Px
end
theorem folB_get (s : ByteArray) (k lo hi : Nat) : Lx.folB s.data.toList k lo hi = decide (k < s.size ∧ lo ≤ (s.get! k).toNat ∧ (s.get! k).toNat ≤ hi) := by
 unfold Lx.folB
 by_cases h : k < s.size
 · rw [List.getElem?_eq_getElem (by simpa using h)]
   have e : s.get! k = s[k] := by
    simp [ByteArray.get!, getElem!_pos, h]
    rfl
   rw [e]
   simp [h]
   rfl
 · rw [List.getElem?_eq_none (by simpa using h)]
   simp [h]
theorem get_here (s : ByteArray) (k : Nat) (h : k < s.size) : s.get! k = s[k] := by
 simp [ByteArray.get!, getElem!_pos, h]
 rfl
def clsN (n b0 b1 b2 b3 : Nat) : Nat :=
 if b0 < 128 then 1
 else if (194 ≤ b0 ∧ b0 ≤ 223) ∧ (1 < n ∧ 128 ≤ b1 ∧ b1 ≤ 191) then 2
 else if (224 ≤ b0 ∧ b0 ≤ 239) ∧ (1 < n ∧ Lx.loOf b0 ≤ b1 ∧ b1 ≤ Lx.hiOf b0) ∧ (2 < n ∧ 128 ≤ b2 ∧ b2 ≤ 191) then 3
 else if (240 ≤ b0 ∧ b0 ≤ 244) ∧ (1 < n ∧ Lx.loOf b0 ≤ b1 ∧ b1 ≤ Lx.hiOf b0) ∧ (2 < n ∧ 128 ≤ b2 ∧ b2 ≤ 191) ∧ (3 < n ∧ 128 ≤ b3 ∧ b3 ≤ 191) then 4
 else 0
theorem charN_cls (s : ByteArray) (i : Nat) (h : i < s.size) : Lx.charN (s.data.toList.drop i) = clsN (s.size - i) (s.get! i).toNat (s.get! (i + 1)).toNat (s.get! (i + 2)).toNat (s.get! (i + 3)).toNat := by
 rw [charN_at s i h, get_here s i h]
 unfold charB clsN
 simp only [folB_get, decide_eq_true_eq]
 have c1 : (i + 1 < s.size) = (1 < s.size - i) := propext ⟨fun h => by omega, fun h => by omega⟩
 have c2 : (i + 2 < s.size) = (2 < s.size - i) := propext ⟨fun h => by omega, fun h => by omega⟩
 have c3 : (i + 3 < s.size) = (3 < s.size - i) := propext ⟨fun h => by omega, fun h => by omega⟩
 simp only [c1, c2, c3]
theorem cls_bad (n b0 b1 b2 b3 : Nat) (h0 : b0 < 256) (h1 : b1 < 256) (h2 : b2 < 256) (h3 : b3 < 256) (h : clsN n b0 b1 b2 b3 = 0) : Lib.decodeN n b0 b1 b2 b3 = (65533, 1) ∧ 128 ≤ b0 := by
 unfold clsN Lx.loOf Lx.hiOf at h
 unfold Lib.decodeN
 repeat' split at h
 all_goals (try (exfalso; omega))
 all_goals
  refine ⟨?_, by omega⟩
  repeat' split
  all_goals first | rfl | (exfalso; omega)
theorem cls_one (n b0 b1 b2 b3 : Nat) (h : clsN n b0 b1 b2 b3 = 1) : b0 < 128 ∧ Lib.decodeN n b0 b1 b2 b3 = (b0, 1) := by
 unfold clsN at h
 repeat' split at h
 all_goals (try (exfalso; omega))
 rename_i hb
 exact ⟨hb, by simp [Lib.decodeN, hb]⟩
theorem cls_two (n b0 b1 b2 b3 : Nat) (h : clsN n b0 b1 b2 b3 = 2) : (194 ≤ b0 ∧ b0 ≤ 223) ∧ (1 < n ∧ 128 ≤ b1 ∧ b1 ≤ 191) ∧ Lib.decodeN n b0 b1 b2 b3 = (b0 % 32 * 64 + b1 % 64, 2) := by
 unfold clsN at h
 repeat' split at h
 all_goals (try (exfalso; omega))
 rename_i hb
 refine ⟨hb.1, hb.2, ?_⟩
 unfold Lib.decodeN
 rw [if_neg (by omega), if_pos (by omega), if_pos (by omega)]
theorem cls_three (n b0 b1 b2 b3 : Nat) (h : clsN n b0 b1 b2 b3 = 3) : (224 ≤ b0 ∧ b0 ≤ 239) ∧ (1 < n ∧ Lx.loOf b0 ≤ b1 ∧ b1 ≤ Lx.hiOf b0) ∧ (2 < n ∧ 128 ≤ b2 ∧ b2 ≤ 191) ∧ Lib.decodeN n b0 b1 b2 b3 = (b0 % 16 * 4096 + b1 % 64 * 64 + b2 % 64, 3) := by
 unfold clsN at h
 repeat' split at h
 all_goals (try (exfalso; omega))
 rename_i hb
 refine ⟨hb.1, hb.2.1, hb.2.2, ?_⟩
 have hl := hb.2.1
 unfold Lx.loOf Lx.hiOf at hl
 unfold Lib.decodeN
 repeat' split at hl
 all_goals rw [if_neg (by omega), if_neg (by omega), if_pos (by omega), if_pos (by omega)]
theorem cls_four (n b0 b1 b2 b3 : Nat) (h : clsN n b0 b1 b2 b3 = 4) : (240 ≤ b0 ∧ b0 ≤ 244) ∧ (1 < n ∧ Lx.loOf b0 ≤ b1 ∧ b1 ≤ Lx.hiOf b0) ∧ (2 < n ∧ 128 ≤ b2 ∧ b2 ≤ 191) ∧ (3 < n ∧ 128 ≤ b3 ∧ b3 ≤ 191) ∧ Lib.decodeN n b0 b1 b2 b3 = (b0 % 8 * 262144 + b1 % 64 * 4096 + b2 % 64 * 64 + b3 % 64, 4) := by
 unfold clsN at h
 repeat' split at h
 all_goals (try (exfalso; omega))
 rename_i hb
 refine ⟨hb.1, hb.2.1, hb.2.2.1, hb.2.2.2, ?_⟩
 have hl := hb.2.1
 unfold Lx.loOf Lx.hiOf at hl
 unfold Lib.decodeN
 repeat' split at hl
 all_goals rw [if_neg (by omega), if_neg (by omega), if_neg (by omega), if_pos (by omega), if_pos (by omega)]
theorem byte_back (b : UInt8) (x : Int) (h : x = (b.toNat : Int)) : x.toNat.toUInt8 = b := by
 subst h
 simp
theorem dec_bad (s : ByteArray) (i : Nat) (h : i < s.size) (hc : Lx.charN (s.data.toList.drop i) = 0) : Utf8.decode s i = (65533, 1) ∧ 128 ≤ s[i].toNat := by
 rw [charN_cls s i h] at hc
 have := cls_bad _ _ _ _ _ (UInt8.toNat_lt _) (UInt8.toNat_lt _) (UInt8.toNat_lt _) (UInt8.toNat_lt _) hc
 rw [get_here s i h] at this
 rw [Lib.decode_at, get_here s i h]
 exact this
theorem drop_take (s : ByteArray) (i n : Nat) (h : i + n ≤ s.size) (l : Lx.Bs) (hl : l.length = n) (hg : ∀ k, k < n → l[k]? = some (s.get! (i + k))) : (s.data.toList.drop i).take n = l := by
 apply List.ext_getElem?
 intro k
 by_cases hk : k < n
 · rw [List.getElem?_take_of_lt hk, List.getElem?_drop, hg k hk, get_here s (i + k) (by omega), List.getElem?_eq_getElem (by simp; have : s.data.size = s.size := rfl; omega)]
   rfl
 · rw [List.getElem?_eq_none (by simp; omega), List.getElem?_eq_none (by omega)]
theorem dec_good (s : ByteArray) (i : Nat) (h : i < s.size) (hc : Lx.charN (s.data.toList.drop i) ≠ 0) :
   (Utf8.decode s i).2 = Lx.charN (s.data.toList.drop i) ∧ Lib.encodeRune ((Utf8.decode s i).1 : Int) = (s.data.toList.drop i).take (Lx.charN (s.data.toList.drop i)) ∧
     ((Lx.charN (s.data.toList.drop i) = 1 ∧ (Utf8.decode s i).1 = s[i].toNat ∧ s[i].toNat < 128) ∨ (1 < Lx.charN (s.data.toList.drop i) ∧ 128 ≤ (Utf8.decode s i).1 ∧ 128 ≤ s[i].toNat)) := by
 have hle := Lx.charN_le (s.data.toList.drop i)
 rw [List.length_drop, show s.data.toList.length = s.size from by simp] at hle
 have hcls := charN_cls s i h
 rw [Lib.decode_at]
 rw [get_here s i h] at hcls ⊢
 have B0 := s[i].toNat_lt
 have hcase : Lx.charN (s.data.toList.drop i) = 1 ∨ Lx.charN (s.data.toList.drop i) = 2 ∨ Lx.charN (s.data.toList.drop i) = 3 ∨ Lx.charN (s.data.toList.drop i) = 4 := by
  have : ∀ n b0 b1 b2 b3, clsN n b0 b1 b2 b3 = 0 ∨ clsN n b0 b1 b2 b3 = 1 ∨ clsN n b0 b1 b2 b3 = 2 ∨ clsN n b0 b1 b2 b3 = 3 ∨ clsN n b0 b1 b2 b3 = 4 := by
   intro n b0 b1 b2 b3
   unfold clsN
   repeat' split
   all_goals omega
  have := this (s.size - i) s[i].toNat (s.get! (i + 1)).toNat (s.get! (i + 2)).toNat (s.get! (i + 3)).toNat
  rw [← hcls] at this
  omega
 rcases hcase with e | e | e | e
 · rw [e] at hcls hle ⊢
   obtain ⟨q, d⟩ := cls_one _ _ _ _ _ hcls.symm
   rw [d]
   refine ⟨rfl, ?_, .inl ⟨rfl, rfl, q⟩⟩
   rw [drop_take s i 1 (by omega) [s.get! i] rfl (by intro k hk; have : k = 0 := by omega
                                                     subst this; rfl)]
   unfold Lib.encodeRune
   rw [Lib.encodeRuneZ_one (by omega) (by simp; omega)]
   simp only [List.map_cons, List.map_nil]
   rw [byte_back s[i] _ rfl, get_here s i h]
 · rw [e] at hcls hle ⊢
   obtain ⟨q, q1, d⟩ := cls_two _ _ _ _ _ hcls.symm
   rw [d]
   refine ⟨rfl, ?_, .inr ⟨by omega, by simp only; omega, by omega⟩⟩
   rw [drop_take s i 2 (by omega) [s.get! i, s.get! (i + 1)] rfl (by intro k hk; have : k = 0 ∨ k = 1 := by omega
                                                                     rcases this with rfl | rfl <;> rfl)]
   unfold Lib.encodeRune
   rw [Lib.encodeRuneZ_two (by simp only; omega) (by simp only; omega)]
   simp only [List.map_cons, List.map_nil]
   rw [byte_back s[i] _ (by omega), byte_back (s.get! (i + 1)) _ (by omega), get_here s i h]
 · rw [e] at hcls hle ⊢
   obtain ⟨q, q1, q2, d⟩ := cls_three _ _ _ _ _ hcls.symm
   unfold Lx.loOf Lx.hiOf at q1
   have B1 := (s.get! (i + 1)).toNat_lt
   have hr : ((2048 : Int) ≤ ((s[i].toNat % 16 * 4096 + (s.get! (i + 1)).toNat % 64 * 64 + (s.get! (i + 2)).toNat % 64 : Nat) : Int) ∧ ((s[i].toNat % 16 * 4096 + (s.get! (i + 1)).toNat % 64 * 64 + (s.get! (i + 2)).toNat % 64 : Nat) : Int) < 55296) ∨ ((57343 : Int) < ((s[i].toNat % 16 * 4096 + (s.get! (i + 1)).toNat % 64 * 64 + (s.get! (i + 2)).toNat % 64 : Nat) : Int) ∧ ((s[i].toNat % 16 * 4096 + (s.get! (i + 1)).toNat % 64 * 64 + (s.get! (i + 2)).toNat % 64 : Nat) : Int) ≤ 65535) := by
    repeat' split at q1
    all_goals omega
   have hb1 : 128 ≤ (s.get! (i + 1)).toNat ∧ (s.get! (i + 1)).toNat ≤ 191 := by
    repeat' split at q1
    all_goals omega
   rw [d]
   refine ⟨rfl, ?_, .inr ⟨by omega, by simp only; omega, by omega⟩⟩
   rw [drop_take s i 3 (by omega) [s.get! i, s.get! (i + 1), s.get! (i + 2)] rfl (by intro k hk; have : k = 0 ∨ k = 1 ∨ k = 2 := by omega
                                                                                     rcases this with rfl | rfl | rfl <;> rfl)]
   unfold Lib.encodeRune
   rw [Lib.encodeRuneZ_three hr]
   simp only [List.map_cons, List.map_nil]
   rw [byte_back s[i] _ (by omega), byte_back (s.get! (i + 1)) _ (by omega), byte_back (s.get! (i + 2)) _ (by omega), get_here s i h]
 · rw [e] at hcls hle ⊢
   obtain ⟨q, q1, q2, q3, d⟩ := cls_four _ _ _ _ _ hcls.symm
   unfold Lx.loOf Lx.hiOf at q1
   have B1 := (s.get! (i + 1)).toNat_lt
   have hb1 : 128 ≤ (s.get! (i + 1)).toNat ∧ (s.get! (i + 1)).toNat ≤ 191 := by
    repeat' split at q1
    all_goals omega
   have hr : (65536 : Int) ≤ ((s[i].toNat % 8 * 262144 + (s.get! (i + 1)).toNat % 64 * 4096 + (s.get! (i + 2)).toNat % 64 * 64 + (s.get! (i + 3)).toNat % 64 : Nat) : Int) ∧ ((s[i].toNat % 8 * 262144 + (s.get! (i + 1)).toNat % 64 * 4096 + (s.get! (i + 2)).toNat % 64 * 64 + (s.get! (i + 3)).toNat % 64 : Nat) : Int) ≤ 1114111 := by
    repeat' split at q1
    all_goals omega
   rw [d]
   refine ⟨rfl, ?_, .inr ⟨by omega, by simp only; omega, by omega⟩⟩
   rw [drop_take s i 4 (by omega) [s.get! i, s.get! (i + 1), s.get! (i + 2), s.get! (i + 3)] rfl (by intro k hk; have : k = 0 ∨ k = 1 ∨ k = 2 ∨ k = 3 := by omega
                                                                                                     rcases this with rfl | rfl | rfl | rfl <;> rfl)]
   unfold Lib.encodeRune
   rw [Lib.encodeRuneZ_four hr.1 hr.2]
   simp only [List.map_cons, List.map_nil]
   rw [byte_back s[i] _ (by omega), byte_back (s.get! (i + 1)) _ (by omega), byte_back (s.get! (i + 2)) _ (by omega), byte_back (s.get! (i + 3)) _ (by omega), get_here s i h]
end Go.Proofs.YtaiebhhommgnbaaGreatDoor
