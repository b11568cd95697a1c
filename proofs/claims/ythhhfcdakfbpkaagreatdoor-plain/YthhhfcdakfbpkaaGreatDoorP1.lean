/- Parts of the proof -/
import GoSem.Claim
import Derived.Test.YthhhfcdakfbpkaaGreatDoorRows
import Derived.WalkKit
import Derived.WalkSpells
import Derived.WalkLawsBesides
import Derived.Deep.Light
import Derived.Lib.Strings
import Derived.Lib.IndexBytes
import Derived.Laws.IdiomStrings
import Derived.BigQuiet
import Derived.Deep.QuietTactic
import Derived.Handy
import Derived.Lib.DecodeN
import Derived.Lib.RuneBytes
namespace Go.Proofs.YthhhfcdakfbpkaaGreatDoor
set_option linter.unusedSimpArgs false
set_option linter.unusedVariables false
set_option maxRecDepth 100000
set_option maxHeartbeats 16000000
open Go.RowKit
theorem laa {α : Type} (a b c : List α) : a ++ b ++ c = a ++ (b ++ c) := List.append_assoc a b c
theorem nlr (n : Nat) : n ≤ n := Nat.le_refl n
theorem siA {α : Type} (l : List α) (i : Nat) (a : α) : l.toArray.setIfInBounds i a = (l.set i a).toArray := List.setIfInBounds_toArray l i a
theorem szA {α : Type} {x y : α} {l : List α} : (x :: l).set 0 y = y :: l := rfl
theorem ssA {α : Type} {x y : α} {l : List α} {n : Nat} : (x :: l).set (n + 1) y = x :: l.set n y := rfl
theorem nlA {a b c : Nat} : a < b → b ≤ c → a < c := Nat.lt_of_lt_of_le
theorem geA {α : Type} {xs : Array α} {i : Nat} {b : α} : xs[i]? = some b ↔ ∃ h : i < xs.size, xs[i] = b := Array.getElem?_eq_some_iff
variable {b d e k m n sz : Nat} {w : World} {cs : Array Value} {t : TypeId}
namespace Lx
abbrev Bs := List UInt8
def aK (b : UInt8) : Bool := decide (48 ≤ b.toNat ∧ b.toNat ≤ 57)
def isLet (b : UInt8) : Bool := decide ((97 ≤ b.toNat ∧ b.toNat ≤ 122) ∨ (65 ≤ b.toNat ∧ b.toNat ≤ 90) ∨ b.toNat = 95)
def isSp (b : UInt8) : Bool := decide (b.toNat = 9 ∨ b.toNat = 10 ∨ b.toNat = 13 ∨ b.toNat = 32)
def dF (b : UInt8) : Bool := aK b || isLet b
def fQ (b : UInt8) : Bool := decide (b.toNat ≠ 10)
def cnt (p : UInt8 → Bool) : Bs → Nat
 | [] => 0
 | b :: r => if p b then cnt p r + 1 else 0
theorem qQ (p : UInt8 → Bool) : ∀ l : Bs, cnt p l ≤ l.length
 | [] => by simp [cnt]
 | b :: r => by
  have := qQ p r;unfold cnt; split <;> simp <;> omega
def dQ : Bool → Bs → Nat
 | _, [] => 0
 | true, b :: r => if fQ b then 1 + dQ true r else 1 + dQ false r
 | false, b :: r => if b.toNat = 45 ∧ r.head? = some 45 then 1 + dQ true r else if isSp b then 1 + dQ false r else 0
def bN (l : Bs) : Nat := dQ false l
def dL (l : Bs) (i lo hi : Nat) : Bool :=
 match l[i]? with
 | some b => decide (lo ≤ b.toNat ∧ b.toNat ≤ hi)
 | none => false
def jV (b : Nat) : Nat := if b = 224 then 160 else if b = 240 then 144 else 128
def ny (b : Nat) : Nat := if b = 237 then 159 else if b = 244 then 143 else 191
def aI (l : Bs) : Nat :=
 match l with
 | [] => 0
 | b :: _ =>
  if b.toNat < 128 then 1
  else if (194 ≤ b.toNat ∧ b.toNat ≤ 223) ∧ dL l 1 128 191 = true then 2
  else if (224 ≤ b.toNat ∧ b.toNat ≤ 239) ∧ dL l 1 (jV b.toNat) (ny b.toNat) = true ∧ dL l 2 128 191 = true then 3
  else if (240 ≤ b.toNat ∧ b.toNat ≤ 244) ∧ dL l 1 (jV b.toNat) (ny b.toNat) = true ∧ dL l 2 128 191 = true ∧ dL l 3 128 191 = true then 4
  else 0
def nT : Nat → Bs → Bool
 | _, [] => true
 | n + 1, _ :: r => nT n r
 | 0, b :: r => if aI (b :: r) = 0 ∨ b.toNat = 0 then false else nT (aI (b :: r) - 1) r
def bM (l : Bs) : Bool := nT 0 l
def gN (m : UInt8) : Bs → Option (Bs × Nat)
 | [] => none
 | [b] => if b = m then some ([], 1) else none
 | b :: c :: r =>
  if b = m then
    if c = m then (gN m r).map (fun x => (m :: x.1, x.2 + 2)) else some ([], 1)
  else (gN m (c :: r)).map (fun x => (b :: x.1, x.2 + 1))
def dO : Bs → Bs
 | b :: c :: r => if b.toNat = 48 then dO (c :: r) else b :: c :: r
 | l => l
def top : Bs := [57, 50, 50, 51, 51, 55, 50, 48, 51, 54, 56, 53, 52, 55, 55, 53, 56, 48, 56]
def eH (t : Bs) : Bool := decide (19 < t.length) || (decide (t.length = 19) && (!Op.bytesLess t top && !(t == top)))
def MX (b : UInt8) : UInt8 := if 97 ≤ b.toNat ∧ b.toNat ≤ 122 then b - 32 else b
def zM (b : UInt8) : UInt8 := if 65 ≤ b.toNat ∧ b.toNat ≤ 90 then b + 32 else b
def keys : List Bs := [[65, 78, 68], [65, 83, 67], [66, 79, 79, 76, 69, 65, 78], [66, 89], [67, 82, 69, 65, 84, 69], [68, 69, 76, 69, 84, 69], [68, 69, 83, 67], [68, 82, 79, 80], [70, 65, 76, 83, 69], [70, 82, 79, 77], [73, 78, 83, 69, 82, 84], [73, 78, 84, 69, 71, 69, 82], [73, 78, 84, 79], [73, 83], [76, 73, 77, 73, 84], [78, 79, 84], [78, 85, 76, 76], [79, 82], [79, 82, 68, 69, 82], [83, 69, 76, 69, 67, 84], [83, 69, 84], [84, 65, 66, 76, 69], [84, 69, 88, 84], [84, 82, 85, 69], [85, 80, 68, 65, 84, 69], [86, 65, 76, 85, 69, 83], [87, 72, 69, 82, 69]]
def EB : List Bs := [[60, 62], [60, 61], [62, 61], [124, 124]]
def ones : List Bs := [[40], [41], [44], [59], [42], [43], [45], [47], [37], [61], [60], [62]]
def hasB : List Bs → Bs → Bool
 | [], _ => false
 | a :: r, x => a == x || hasB r x
def dU (l : Bs) : Except Nat (Nat × Bs × Nat) :=
 match l with
 | [] => .error 2
 | b :: r =>
  if isLet b then
    if hasB keys ((l.take (cnt dF l)).map MX) then .ok (50, (l.take (cnt dF l)).map MX, cnt dF l) else .ok (18, (l.take (cnt dF l)).map zM, cnt dF l)
  else if aK b then
    if cnt aK l < cnt dF l then .error 2
    else if eH (dO (l.take (cnt aK l))) then .error 3
    else .ok (16, dO (l.take (cnt aK l)), cnt aK l)
  else if b.toNat = 39 ∨ b.toNat = 34 then
    match gN b r with
    | none => .error 2
    | some (t, n) =>
     if bM t = false ∨ (b.toNat = 34 ∧ t = []) then .error 2
     else .ok (if b.toNat = 34 then 18 else 17, t, n + 1)
  else if 2 ≤ l.length ∧ hasB EB (l.take 2) = true then .ok (51, l.take 2, 2)
  else if hasB ones (l.take 1) = true then .ok (51, l.take 1, 1)
  else .error 2
structure Tok where
 kind : Nat
 text : Bs
 pos : Nat
theorem qm {p : UInt8 → Bool} {b : UInt8} {r : Bs} (h : p b = true) : 0 < cnt p (b :: r) := by
 simp [cnt, h]
def il : Nat → Nat → Bs → Except (Nat × Nat) (List Tok)
 | _, _, [] => .ok []
 | n + 1, pos, _ :: r => il n (pos + 1) r
 | 0, pos, b :: r =>
  match dU (b :: r) with
  | .error e => .error (pos, e)
  | .ok (k, t, n) =>
   match il (n + bN ((b :: r).drop n) - 1) (pos + 1) r with
   | .ok ts => .ok (⟨k, t, pos⟩ :: ts)
   | .error e => .error e
def lex (l : Bs) : Except (Nat × Nat) (List Tok) :=
 if 2000 < l.length then .error (0, 1) else il 0 (bN l) (l.drop (bN l))
theorem mM : ∀ (m : Bool) (l : Bs), dQ m l ≤ l.length
 | _, [] => by simp [dQ]
 | true, b :: r => by
  have h1 := mM true r; have h2 := mM false r;unfold dQ; split <;> simp <;> omega
 | false, b :: r => by
  have h1 := mM true r; have h2 := mM false r;unfold dQ; split
  · simp; omega
  split <;> simp <;> omega
theorem wL (l : Bs) : bN l ≤ l.length := mM false l
theorem iq : ∀ l : Bs, aI l ≤ l.length
 | [] => by simp [aI]
 | b :: r => by
  have f1 : ∀ i lo hi, dL (b :: r) i lo hi = true → i < (b :: r).length := by
   intro i lo hi h;unfold dL at h
   split at h
   · rename_i x hx;exact (List.getElem?_eq_some_iff.1 hx).1
   simp at h
  simp only [aI]
  split
  · simp
  split
  · rename_i h; have := f1 _ _ _ h.2; omega
  split
  · rename_i h; have := f1 _ _ _ h.2.2; omega
  split
  · rename_i h; have := f1 _ _ _ h.2.2.2; omega
  omega
theorem rQ : ∀ (n : Nat) (l : Bs), n ≤ l.length → nT n l = nT 0 (l.drop n)
 | 0, l, _ => by simp
 | n + 1, [], h => by simp at h
 | n + 1, b :: r, h => by
  simp only [nT, List.drop_succ_cons];exact rQ n r (by simpa using h)
theorem lJ (b : UInt8) (r : Bs) : bM (b :: r) = if aI (b :: r) = 0 ∨ b.toNat = 0 then false else bM ((b :: r).drop (aI (b :: r))) := by
 have hle := iq (b :: r);simp only [bM]
 conv => lhs; unfold nT
 split
 · rfl
 rename_i h;rw [rQ _ _ (by simp at hle; omega)];obtain ⟨n, hn⟩ : ∃ n, aI (b :: r) = n + 1 := ⟨aI (b :: r) - 1, by omega⟩;rw [hn]; simp
theorem xI : ∀ (n pos : Nat) (l : Bs), n ≤ l.length → il n pos l = il 0 (pos + n) (l.drop n)
 | 0, pos, l, _ => by simp
 | n + 1, pos, [], h => by simp at h
 | n + 1, pos, b :: r, h => by
  simp only [il, List.drop_succ_cons];rw [xI n (pos + 1) r (by simpa using h)]
  congr 1; omega
theorem zC (m : UInt8) : ∀ (l t : Bs) (n : Nat), gN m l = some (t, n) → 0 < n ∧ n ≤ l.length ∧ t.length < n
 | [], t, n, h => by simp [gN] at h
 | [b], t, n, h => by
  simp only [gN] at h
  split at h
  · simp at h; obtain ⟨rfl, rfl⟩ := h; simp
  simp at h
 | b :: c :: r, t, n, h => by
  unfold gN at h
  split at h
  · split at h
    · simp only [Option.map_eq_some_iff, Prod.exists, Prod.mk.injEq] at h;obtain ⟨t', n', h1, rfl, rfl⟩ := h;have := zC m r t' n' h1;simp; omega
    simp at h; obtain ⟨rfl, rfl⟩ := h; simp
  simp only [Option.map_eq_some_iff, Prod.exists, Prod.mk.injEq] at h;obtain ⟨t', n', h1, rfl, rfl⟩ := h;have := zC m (c :: r) t' n' h1;simp at this ⊢; omega
theorem yo : ∀ l : Bs, (dO l).length ≤ l.length
 | [] => by simp [dO]
 | [b] => by simp [dO]
 | b :: c :: r => by
  have := yo (c :: r);unfold dO; split
  · simp at this ⊢; omega
  simp
theorem iU {l : Bs} {t : Bs} (h : dU l = .ok (k, t, n)) : 0 < n ∧ n ≤ l.length ∧ t.length ≤ n := by
 unfold dU at h
 split at h
 · simp at h
 rename_i b r;have h1 := qQ dF (b :: r);have h2 := qQ aK (b :: r)
 split at h
 · rename_i hl;have : 0 < cnt dF (b :: r) := qm (by simp [dF, hl])
   split at h
   · simp only [Except.ok.injEq, Prod.mk.injEq] at h;obtain ⟨-, rfl, rfl⟩ := h;exact ⟨this, h1, by simp; omega⟩
   simp only [Except.ok.injEq, Prod.mk.injEq] at h;obtain ⟨-, rfl, rfl⟩ := h;exact ⟨this, h1, by simp; omega⟩
 split at h
 · rename_i hd;have : 0 < cnt aK (b :: r) := qm hd;have h3 := yo ((b :: r).take (cnt aK (b :: r)))
   split at h
   · simp at h
   split at h
   · simp at h
   simp only [Except.ok.injEq, Prod.mk.injEq] at h;obtain ⟨-, rfl, rfl⟩ := h;refine ⟨this, h2, ?_⟩;have := List.length_take_le (cnt aK (b :: r)) (b :: r);omega
 split at h
 · split at h
   · simp at h
   rename_i t' n' hb;have := zC _ _ _ _ hb
   split at h
   · simp at h
   simp only [Except.ok.injEq, Prod.mk.injEq] at h;obtain ⟨-, rfl, rfl⟩ := h;simp; omega
 split at h
 · rename_i h3;simp only [Except.ok.injEq, Prod.mk.injEq] at h;obtain ⟨-, rfl, rfl⟩ := h;exact ⟨by omega, h3.1, List.length_take_le _ _⟩
 split at h
 · simp only [Except.ok.injEq, Prod.mk.injEq] at h;obtain ⟨-, rfl, rfl⟩ := h;exact ⟨by omega, by simp, List.length_take_le _ _⟩
 simp at h
theorem kr (pos : Nat) (b : UInt8) (r : Bs) : il 0 pos (b :: r) =
   match dU (b :: r) with
   | .error e => .error (pos, e)
   | .ok (k, t, n) =>
    match il 0 (pos + n + bN ((b :: r).drop n)) (((b :: r).drop n).drop (bN ((b :: r).drop n))) with
    | .ok ts => .ok (⟨k, t, pos⟩ :: ts)
    | .error e => .error e := by
 conv => lhs; unfold il
 split
 · rfl
 rename_i k t n h;have hl := iU h;have hs := wL ((b :: r).drop n);simp only [List.length_drop, List.length_cons] at hs hl;rw [xI _ _ _ (by omega)];rw [List.drop_drop]
 have e1 : n + bN ((b :: r).drop n) = (n + bN ((b :: r).drop n) - 1) + 1 := by omega
 rw [show (b :: r).drop (n + bN ((b :: r).drop n)) = r.drop (n + bN ((b :: r).drop n) - 1) from by conv => lhs; rw [e1]; simp];rw [show pos + 1 + (n + bN ((b :: r).drop n) - 1) = pos + n + bN ((b :: r).drop n) from by omega]
end Lx
section
namespace Px
open Lx (Bs Tok)
structure Nd where
 kind : Int
 text : Bs
 num : Int
 kids : Int
abbrev Out (α : Type) := Option (Except (Nat × Nat) (α × List Tok))
def aD {α β : Type} (x : Out α) (f : α → List Tok → Out β) : Out β :=
 match x with
 | none => none
 | some (.error e) => some (.error e)
 | some (.ok (a, ts)) => f a ts
def oN (sz : Nat) : List Tok → Nat
 | [] => sz
 | t :: _ => t.pos
def sees (s : Bs) : List Tok → Bool
 | [] => false
 | t :: _ => (decide (t.kind = 50) || decide (t.kind = 51)) && t.text == s
def must (sz : Nat) (s : Bs) (ts : List Tok) : Out Unit :=
 if sees s ts = true then some (.ok ((), ts.tail)) else some (.error (oN sz ts, 4))
def name (sz : Nat) : List Tok → Out Bs
 | [] => some (.error (sz, 4))
 | t :: r => if t.kind ≠ 18 then some (.error (t.pos, 4)) else if 30 < t.text.length then some (.error (t.pos, 5)) else some (.ok (t.text, r))
def Rp : Bs := [79, 82]
def OB : Bs := [65, 78, 68]
def ko : Bs := [78, 79, 84]
def Ib : Bs := [73, 83]
def bf : Bs := [78, 85, 76, 76]
def gH : Bs := [84, 82, 85, 69]
def dK : Bs := [70, 65, 76, 83, 69]
def mD : Bs := [84, 65, 66, 76, 69]
def lG : Bs := [73, 78, 84, 69, 71, 69, 82]
def nD : Bs := [84, 69, 88, 84]
def iW : Bs := [66, 79, 79, 76, 69, 65, 78]
def FI : Bs := [73, 78, 84, 79]
def tF : Bs := [86, 65, 76, 85, 69, 83]
def LF : Bs := [83, 69, 84]
def wN : Bs := [87, 72, 69, 82, 69]
def rU : Bs := [70, 82, 79, 77]
def qP : Bs := [79, 82, 68, 69, 82]
def O1 : Bs := [66, 89]
def NA : Bs := [65, 83, 67]
def BM : Bs := [68, 69, 83, 67]
def jO : Bs := [76, 73, 77, 73, 84]
def fE : Bs := [67, 82, 69, 65, 84, 69]
def mQ : Bs := [68, 82, 79, 80]
def gZ : Bs := [73, 78, 83, 69, 82, 84]
def iH : Bs := [68, 69, 76, 69, 84, 69]
def jC : Bs := [85, 80, 68, 65, 84, 69]
def kR : Bs := [83, 69, 76, 69, 67, 84]
def nL : Bs := [40]
def mF : Bs := [41]
def jd : Bs := [44]
def lH : Bs := [45]
def I5 : Bs := [42]
def RX : Bs := [61]
def bW : List (Nat × Bs × Nat) := [(1, Rp, 23), (2, OB, 24), (4, [61], 25), (4, [60, 62], 26), (4, [60], 27), (4, [60, 61], 28), (4, [62], 29), (4, [62, 61], 30), (5, [124, 124], 31), (6, [43], 32), (6, [45], 33), (7, [42], 34), (7, [47], 35), (7, [37], 36)]
def iy : List (Nat × Bs × Nat) → Nat → Bs → Nat
 | [], _, _ => 0
 | x :: r, l, s => if x.1 = l ∧ x.2.1 = s then x.2.2 else iy r l s
def oper (l : Nat) : List Tok → Nat
 | [] => 0
 | t :: _ => if t.kind = 50 ∨ t.kind = 51 then iy bW l t.text else 0
def aS (k : Int) (a : List Nd) : List Nd := ⟨k, [], 0, 1⟩ :: a
def bO (k : Int) (a b : List Nd) : List Nd := ⟨k, [], 0, 2⟩ :: (a ++ b)
def leaf (k : Int) (t : Bs) (n : Int) : List Nd := [⟨k, t, n, 0⟩]
def jo (s : Bs) : Nat := s.foldl (fun n c => 10 * n + (c.toNat - 48)) 0
def bot : Int := -9223372036854775808
def negate (at_ : Nat) (a : List Nd) (r : List Tok) : Out (List Nd) :=
 match a with
 | [] => some (.ok (aS 19 a, r))
 | x :: _ => if x.kind ≠ 16 then some (.ok (aS 19 a, r)) else if x.num = bot then some (.error (at_, 3)) else some (.ok (leaf 16 [] (-x.num), r))
def atom (sz : Nat) : List Tok → Out (List Nd)
 | [] => some (.error (sz, 4))
 | t :: r =>
  if t.kind = 16 then if t.text = Lx.top then some (.error (t.pos, 3)) else some (.ok (leaf 16 [] (jo t.text), r))
  else if t.kind = 17 then some (.ok (leaf 17 t.text 0, r))
  else if t.kind = 18 then if 30 < t.text.length then some (.error (t.pos, 5)) else some (.ok (leaf 18 t.text 0, r))
  else if t.kind = 50 then
    if t.text = bf then some (.ok (leaf 14 [] 0, r)) else if t.text = gH then some (.ok (leaf 15 [] 1, r)) else if t.text = dK then some (.ok (leaf 15 [] 0, r))
    else some (.error (t.pos, 4))
  else some (.error (t.pos, 4))
def yc : List Tok → Bool
 | [] => false
 | t :: _ => decide (t.kind = 16) && t.text == Lx.top
def iw (sz : Nat) (rec5 : List Tok → Out (List Nd)) (a : List Nd) (r : List Tok) : Out (List Nd) :=
 if sees Ib r = true then
   if sees ko r.tail = true then aD (must sz bf r.tail.tail) fun _ q => some (.ok (aS 22 a, q))
   else aD (must sz bf r.tail) fun _ q => some (.ok (aS 21 a, q))
 else if oper 4 r = 0 then some (.ok (a, r))
 else aD (rec5 r.tail) fun b q => some (.ok (bO (oper 4 r) a b, q))
def ex (sz : Nat) : Nat → Nat → List Nd → List Tok → Out (List Nd)
 | 0, _, _, _ => none
 | n + 1, m, a, ts =>
  if 10 ≤ m then
    if oper (m - 10) ts = 0 then some (.ok (a, ts))
    else aD (ex sz n (m - 9) [] ts.tail) fun b q => ex sz n m (bO (oper (m - 10) ts) a b) q
  else if m = 3 then
    if sees ko ts = true then aD (ex sz n 3 [] ts.tail) fun b q => some (.ok (aS 20 b, q))
    else ex sz n 4 [] ts
  else if m = 4 then aD (ex sz n 5 [] ts) fun b q => iw sz (ex sz n 5 []) b q
  else if m = 8 then
    if sees lH ts = true then
      if yc ts.tail = true then some (.ok (leaf 16 [] bot, ts.tail.tail))
      else aD (ex sz n 8 [] ts.tail) fun b q => negate (oN sz ts) b q
    else ex sz n 9 [] ts
  else if m = 9 then
    if sees nL ts = true then aD (ex sz n 1 [] ts.tail) fun b q => aD (must sz mF q) fun _ q => some (.ok (b, q))
    else atom sz ts
  else aD (ex sz n (m + 1) [] ts) fun b q => ex sz n (m + 10) b q
def sep {α : Type} (item : Nat → α → List Tok → Out α) : Nat → α → List Tok → Out α
 | 0, _, _ => none
 | n + 1, a, ts => aD (item n a ts) fun b q => if sees jd q = true then sep item n b q.tail else some (.ok (b, q))
def EW (sz : Nat) (ts : List Tok) : Out Int :=
 if sees lG ts = true then if sees nD ts.tail = true then some (.error (oN sz ts.tail, 4)) else some (.ok (1, ts.tail))
 else if sees nD ts = true then some (.ok (2, ts.tail))
 else aD (must sz iW ts) fun _ q => some (.ok (3, q))
def Cq (sz : Nat) (l : List Nd) (ts : List Tok) : Out (List Nd) :=
 aD (name sz ts) fun nm q =>
 if l.length = 6 then some (.error (oN sz ts, 4))
 else aD (EW sz q) fun k q =>
 if sees ko q = true then aD (must sz bf q.tail) fun _ q => some (.ok (l ++ [⟨2, nm, k + 4, 0⟩], q))
 else some (.ok (l ++ [⟨2, nm, k, 0⟩], q))
def create (sz n : Nat) (ts : List Tok) : Out (List Nd) :=
 aD (must sz mD ts) fun _ q => aD (name sz q) fun t q => aD (must sz nL q) fun _ q =>
 aD (sep (fun _ l q => Cq sz l q) n [] q) fun l q => aD (must sz mF q) fun _ q =>
 some (.ok (⟨1, t, 0, l.length⟩ :: l, q))
def item (sz n : Nat) (x : List Nd × Nat) (ts : List Tok) : Out (List Nd × Nat) :=
 aD (ex sz n 1 [] ts) fun e q => some (.ok ((x.1 ++ e, x.2 + 1), q))
def row (sz n : Nat) (x : List Nd × Nat) (ts : List Tok) : Out (List Nd × Nat) :=
 aD (must sz nL ts) fun _ q => aD (sep (item sz) n ([], 0) q) fun y q => aD (must sz mF q) fun _ q =>
 some (.ok ((x.1 ++ (⟨5, [], 0, y.2⟩ :: y.1), x.2 + 1), q))
def insert (sz n : Nat) (ts : List Tok) : Out (List Nd) :=
 aD (must sz FI ts) fun _ q => aD (name sz q) fun t q => aD (must sz tF q) fun _ q =>
 aD (sep (row sz) n ([], 0) q) fun x q => some (.ok (⟨4, t, 0, x.2⟩ :: x.1, q))
def fH (sz n : Nat) (ts : List Tok) : Out (List Nd × Nat) :=
 if sees wN ts = true then aD (ex sz n 1 [] ts.tail) fun e q => some (.ok ((aS 11 e, 1), q)) else some (.ok (([], 0), ts))
def Ai (sz n : Nat) (x : List Nd × Nat) (ts : List Tok) : Out (List Nd × Nat) :=
 aD (name sz ts) fun nm q => aD (must sz RX q) fun _ q => aD (ex sz n 1 [] q) fun e q =>
 some (.ok ((x.1 ++ (⟨8, nm, 0, 1⟩ :: e), x.2 + 1), q))
def update (sz n : Nat) (ts : List Tok) : Out (List Nd) :=
 aD (name sz ts) fun t q => aD (must sz LF q) fun _ q => aD (sep (Ai sz) n ([], 0) q) fun x q =>
 aD (fH sz n q) fun y q => some (.ok (⟨7, t, 0, x.2 + y.2⟩ :: (x.1 ++ y.1), q))
def pick (sz n : Nat) (x : List Nd × Nat) (ts : List Tok) : Out (List Nd × Nat) :=
 if sees I5 ts = true then some (.ok ((x.1 ++ [⟨10, [], 0, 0⟩], x.2 + 1), ts.tail)) else item sz n x ts
def order (sz n : Nat) (x : List Nd × Nat) (ts : List Tok) : Out (List Nd × Nat) :=
 aD (ex sz n 1 [] ts) fun e q =>
 if sees NA q = true then some (.ok ((x.1 ++ (⟨12, [], 0, 1⟩ :: e), x.2 + 1), q.tail))
 else if sees BM q = true then some (.ok ((x.1 ++ (⟨12, [], 1, 1⟩ :: e), x.2 + 1), q.tail))
 else some (.ok ((x.1 ++ (⟨12, [], 0, 1⟩ :: e), x.2 + 1), q))
def limit (sz : Nat) : List Tok → Out Nat
 | [] => some (.error (sz, 4))
 | t :: r => if t.kind ≠ 16 then some (.error (t.pos, 4)) else if t.text = Lx.top ∨ 1000000000 < jo t.text then some (.error (t.pos, 3)) else some (.ok (jo t.text, r))
def orders (sz n : Nat) (x : List Nd × Nat) (ts : List Tok) : Out (List Nd × Nat) :=
 if sees qP ts = true then aD (must sz O1 ts.tail) fun _ q => sep (order sz) n x q else some (.ok (x, ts))
def limits (sz : Nat) (x : List Nd × Nat) (ts : List Tok) : Out (List Nd × Nat) :=
 if sees jO ts = true then aD (limit sz ts.tail) fun m q => some (.ok ((x.1 ++ [⟨13, [], m, 0⟩], x.2 + 1), q)) else some (.ok (x, ts))
def choose (sz n : Nat) (ts : List Tok) : Out (List Nd) :=
 aD (sep (pick sz) n ([], 0) ts) fun x q => aD (must sz rU q) fun _ q => aD (name sz q) fun t q =>
 aD (fH sz n q) fun y q => aD (orders sz n (x.1 ++ y.1, x.2 + y.2) q) fun z q => aD (limits sz z q) fun u q =>
 some (.ok (⟨9, t, 0, u.2⟩ :: u.1, q))
def drop (sz : Nat) (ts : List Tok) : Out (List Nd) :=
 aD (must sz mD ts) fun _ q => aD (name sz q) fun t q => some (.ok ([⟨3, t, 0, 0⟩], q))
def delete (sz n : Nat) (ts : List Tok) : Out (List Nd) :=
 aD (must sz rU ts) fun _ q => aD (name sz q) fun t q => aD (fH sz n q) fun y q => some (.ok (⟨6, t, 0, y.2⟩ :: y.1, q))
def stmt (sz n : Nat) : List Tok → Out (List Nd)
 | [] => some (.error (sz, 4))
 | t :: r =>
  if t.kind ≠ 50 then some (.error (t.pos, 4))
  else if t.text = fE then create sz n r
  else if t.text = mQ then drop sz r
  else if t.text = gZ then insert sz n r
  else if t.text = iH then delete sz n r
  else if t.text = jC then update sz n r
  else if t.text = kR then choose sz n r
  else some (.error (t.pos, 4))
def whole (sz n : Nat) (ts : List Tok) : Out (List Nd) :=
 aD (stmt sz n ts) fun a q => if q = [] then some (.ok (a, [])) else some (.error (oN sz q, 4))
def dA {α : Type} (f : Nat → Out α) : Prop := ∀ n m r, n ≤ m → f n = some r → f m = some r
theorem uM {α β : Type} {x : Out α} {f : α → List Tok → Out β} {r : Except (Nat × Nat) (β × List Tok)} (h : aD x f = some r) :
   (∃ e, x = some (.error e) ∧ r = .error e) ∨ ∃ a ts, x = some (.ok (a, ts)) ∧ f a ts = some r := by
 unfold aD at h
 split at h
 · cases h
 · rename_i e; cases h; exact Or.inl ⟨_, rfl, rfl⟩
 rename_i a ts; exact Or.inr ⟨a, ts, rfl, h⟩
theorem ag {α : Type} (x : Out α) : dA fun _ => x := fun _ _ _ _ h => h
theorem aL {α β : Type} {x : Nat → Out α} {f : Nat → α → List Tok → Out β} (hx : dA x) (hf : ∀ a ts, dA fun n => f n a ts) : dA fun n => aD (x n) (f n) := by
 intro n m r hnm h;rcases uM h with ⟨e, h1, rfl⟩ | ⟨a, ts, h1, h2⟩
 · show aD (x m) (f m) = _;rw [hx n m _ hnm h1]; rfl
 show aD (x m) (f m) = _;rw [hx n m _ hnm h1];exact hf a ts n m r hnm h2
theorem aW {α : Type} {c : Prop} [Decidable c] {x y : Nat → Out α} (hx : dA x) (hy : dA y) : dA fun n => if c then x n else y n := by
 intro n m r hnm h;by_cases hc : c
 · simp only [if_pos hc] at h ⊢; exact hx n m r hnm h
 simp only [if_neg hc] at h ⊢; exact hy n m r hnm h
theorem bG (sz : Nat) : ∀ m a ts, dA fun n => ex sz n m a ts := by
 have key : ∀ n k m a ts r, n ≤ k → ex sz n m a ts = some r → ex sz k m a ts = some r := by
  intro n
  induction n with
  | zero => intro k m a ts r _ h; cases h
  | succ n ih =>
   intro k m a ts r hk h
   cases k with
   | zero => omega
   | succ k =>
    have hk' : n ≤ k := by omega
    have B : ∀ {m a ts r} {g : Nat → List Nd → List Tok → Out (List Nd)}, (∀ b q r, g n b q = some r → g k b q = some r) → aD (ex sz n m a ts) (g n) = some r → aD (ex sz k m a ts) (g k) = some r := by
     intro m a ts r g hg hh;rcases uM hh with ⟨e, h1, rfl⟩ | ⟨b, q, h1, h2⟩
     · rw [ih k _ _ _ _ hk' h1]; rfl
     rw [ih k _ _ _ _ hk' h1]; exact hg b q r h2
    unfold ex at h ⊢
    split at h
    · rename_i c1;rw [if_pos c1]
      split at h
      · rename_i c2; rw [if_pos c2]; exact h
      rename_i c2;rw [if_neg c2];exact B (g := fun n b q => ex sz n m (bO (oper (m - 10) ts) a b) q) (fun b q r hh => ih k _ _ _ _ hk' hh) h
    rename_i c1;rw [if_neg c1]
    split at h
    · rename_i c2;rw [if_pos c2]
      split at h
      · rename_i c3; rw [if_pos c3]; exact B (g := fun _ b q => some (.ok (aS 20 b, q))) (fun _ _ _ hh => hh) h
      rename_i c3; rw [if_neg c3]; exact ih k _ _ _ _ hk' h
    rename_i c2;rw [if_neg c2]
    split at h
    · rename_i c3;rw [if_pos c3];refine B (g := fun n b q => iw sz (ex sz n 5 []) b q) (fun b q r hh => ?_) h;unfold iw at hh ⊢
      split at hh
      · rename_i c4; rw [if_pos c4]; exact hh
      rename_i c4;rw [if_neg c4]
      split at hh
      · rename_i c5; rw [if_pos c5]; exact hh
      rename_i c5; rw [if_neg c5]; exact B (g := fun _ b' q' => some (.ok (bO (oper 4 q) b b', q'))) (fun _ _ _ h3 => h3) hh
    rename_i c3;rw [if_neg c3]
    split at h
    · rename_i c4;rw [if_pos c4]
      split at h
      · rename_i c5;rw [if_pos c5]
        split at h
        · rename_i c6; rw [if_pos c6]; exact h
        rename_i c6; rw [if_neg c6]; exact B (g := fun _ b q => negate (oN sz ts) b q) (fun _ _ _ hh => hh) h
      rename_i c5; rw [if_neg c5]; exact ih k _ _ _ _ hk' h
    rename_i c4;rw [if_neg c4]
    split at h
    · rename_i c5;rw [if_pos c5]
      split at h
      · rename_i c6; rw [if_pos c6]; exact B (g := fun _ b q => aD (must sz mF q) fun _ q => some (.ok (b, q))) (fun _ _ _ hh => hh) h
      rename_i c6; rw [if_neg c6]; exact h
    rename_i c5;rw [if_neg c5];exact B (g := fun n b q => ex sz n (m + 10) b q) (fun b q r hh => ih k _ _ _ _ hk' hh) h
 intro m a ts n k r hnk h;exact key n k m a ts r hnk h
def Ex (sz m : Nat) (a : List Nd) (ts : List Tok) (r : Except (Nat × Nat) (List Nd × List Tok)) : Prop := ∃ n, ex sz n m a ts = some r
end Px
end
section
namespace Px
open Lx (Bs Tok)
abbrev iZ (α : Type) := Except (Nat × Nat) (α × List Tok)
def Then {α β : Type} (r : iZ α) (f : α → List Tok → iZ β → Prop) (r' : iZ β) : Prop :=
 match r with
 | .error e => r' = .error e
 | .ok (b, q) => f b q r'
theorem kV {a : List Nd} {ts : List Tok} {r r' : iZ (List Nd)} {g : Nat → List Nd → List Tok → Out (List Nd)} (hg : ∀ b q, dA fun n => g n b q)
   (h : Ex sz m a ts r) (h' : Then r (fun b q s => ∃ n, g n b q = some s) r') : ∃ n, aD (ex sz n m a ts) (g n) = some r' := by
 obtain ⟨n, hn⟩ := h
 match r, h' with
 | .error e, h' =>
  refine ⟨n, ?_⟩;rw [hn];simp only [Then] at h';rw [h']; rfl
 | .ok (b, q), h' =>
  obtain ⟨k, hk⟩ := h';refine ⟨max n k, ?_⟩;rw [show ex sz (max n k) m a ts = _ from bG sz m a ts n (max n k) _ (Nat.le_max_left _ _) hn];exact hg b q k (max n k) r' (Nat.le_max_right _ _) hk
theorem Ex.not {a : List Nd} {ts : List Tok} {r r' : iZ (List Nd)} (hs : sees ko ts = true) (h : Ex sz 3 [] ts.tail r) (h' : Then r (fun b q s => s = .ok (aS 20 b, q)) r') : Ex sz 3 a ts r' := by
 obtain ⟨n, hn⟩ := kV (g := fun _ b q => some (.ok (aS 20 b, q))) (fun b q => ag _) h (r' := r') (by
  match r, h' with
  | .error e, h' => exact h'
  | .ok (b, q), h' => exact ⟨0, by rw [show r' = _ from h']⟩)
 refine ⟨n + 1, ?_⟩;unfold ex;rw [if_neg (by omega), if_pos rfl, if_pos hs];exact hn
theorem Ex.Sk {a : List Nd} {ts : List Tok} {r : iZ (List Nd)} (hs : sees ko ts = false) (h : Ex sz 4 [] ts r) : Ex sz 3 a ts r := by
 obtain ⟨n, hn⟩ := h;refine ⟨n + 1, ?_⟩;unfold ex;rw [if_neg (by omega), if_pos rfl, if_neg (by simp [hs])];exact hn
theorem Ba (sz : Nat) (b : List Nd) (q : List Tok) : dA fun n => iw sz (ex sz n 5 []) b q := by
 unfold iw;refine aW (ag _) (aW (ag _) (aL (bG sz 5 [] _) fun _ _ => ag _))
theorem Ex.cmp {a : List Nd} {ts : List Tok} {r r' : iZ (List Nd)} (h : Ex sz 5 [] ts r) (h' : Then r (fun b q s => ∃ n, iw sz (ex sz n 5 []) b q = some s) r') : Ex sz 4 a ts r' := by
 obtain ⟨n, hn⟩ := kV (g := fun n b q => iw sz (ex sz n 5 []) b q) (fun b q => Ba sz b q) h h';refine ⟨n + 1, ?_⟩;unfold ex;rw [if_neg (by omega), if_neg (by omega), if_pos rfl];exact hn
theorem KP {b : List Nd} {q : List Tok} (hs : sees Ib q = true) (hn : sees ko q.tail = false) :
   ∃ n, iw sz (ex sz n 5 []) b q = some (if sees bf q.tail = true then .ok (aS 21 b, q.tail.tail) else .error (oN sz q.tail, 4)) := by
 refine ⟨0, ?_⟩;unfold iw must;rw [if_pos hs, if_neg (by simp [hn])]
 split <;> simp [aD, *]
theorem BX {b : List Nd} {q : List Tok} (hs : sees Ib q = true) (hn : sees ko q.tail = true) :
   ∃ n, iw sz (ex sz n 5 []) b q = some (if sees bf q.tail.tail = true then .ok (aS 22 b, q.tail.tail.tail) else .error (oN sz q.tail.tail, 4)) := by
 refine ⟨0, ?_⟩;unfold iw must;rw [if_pos hs, if_pos hn]
 split <;> simp [aD, *]
theorem Eg {b : List Nd} {q : List Tok} (hs : sees Ib q = false) (ho : oper 4 q = 0) : ∃ n, iw sz (ex sz n 5 []) b q = some (.ok (b, q)) := by
 refine ⟨0, ?_⟩;unfold iw;rw [if_neg (by simp [hs]), if_pos ho]
theorem BJ {b : List Nd} {q : List Tok} {r r' : iZ (List Nd)} (hs : sees Ib q = false) (ho : oper 4 q ≠ 0) (h : Ex sz 5 [] q.tail r) (h' : Then r (fun c p s => s = .ok (bO (oper 4 q) b c, p)) r') :
   ∃ n, iw sz (ex sz n 5 []) b q = some r' := by
 obtain ⟨n, hn⟩ := kV (g := fun _ c p => some (.ok (bO (oper 4 q) b c, p))) (fun _ _ => ag _) h (r' := r') (by
  match r, h' with
  | .error e, h' => exact h'
  | .ok (c, p), h' => exact ⟨0, by rw [show r' = _ from h']⟩)
 refine ⟨n, ?_⟩;unfold iw;rw [if_neg (by simp [hs]), if_neg ho];exact hn
theorem Ex.top {a : List Nd} {ts : List Tok} (hs : sees lH ts = true) (ht : yc ts.tail = true) : Ex sz 8 a ts (.ok (leaf 16 [] bot, ts.tail.tail)) := by
 refine ⟨1, ?_⟩;unfold ex;rw [if_neg (by omega), if_neg (by omega), if_neg (by omega), if_pos rfl, if_pos hs, if_pos ht]
theorem Ex.neg {a : List Nd} {ts : List Tok} {r r' : iZ (List Nd)} (hs : sees lH ts = true) (ht : yc ts.tail = false) (h : Ex sz 8 [] ts.tail r) (h' : Then r (fun b q s => negate (oN sz ts) b q = some s) r') : Ex sz 8 a ts r' := by
 obtain ⟨n, hn⟩ := kV (g := fun _ b q => negate (oN sz ts) b q) (fun _ _ => ag _) h (r' := r') (by
  match r, h' with
  | .error e, h' => exact h'
  | .ok (b, q), h' => exact ⟨0, h'⟩)
 refine ⟨n + 1, ?_⟩;unfold ex;rw [if_neg (by omega), if_neg (by omega), if_neg (by omega), if_pos rfl, if_pos hs, if_neg (by simp [ht])];exact hn
theorem Ex.Sj {a : List Nd} {ts : List Tok} {r : iZ (List Nd)} (hs : sees lH ts = false) (h : Ex sz 9 [] ts r) : Ex sz 8 a ts r := by
 obtain ⟨n, hn⟩ := h;refine ⟨n + 1, ?_⟩;unfold ex;rw [if_neg (by omega), if_neg (by omega), if_neg (by omega), if_pos rfl, if_neg (by simp [hs])];exact hn
theorem Ex.Qu {a : List Nd} {ts : List Tok} {r r' : iZ (List Nd)} (hs : sees nL ts = true) (h : Ex sz 1 [] ts.tail r)
   (h' : Then r (fun b q s => s = if sees mF q = true then .ok (b, q.tail) else .error (oN sz q, 4)) r') : Ex sz 9 a ts r' := by
 obtain ⟨n, hn⟩ := kV (g := fun _ b q => aD (must sz mF q) fun _ q => some (.ok (b, q))) (fun _ _ => ag _) h (r' := r') (by
  match r, h' with
  | .error e, h' => exact h'
  | .ok (b, q), h' =>
   refine ⟨0, ?_⟩;rw [show r' = _ from h'];unfold must
   split <;> simp [aD, *])
 refine ⟨n + 1, ?_⟩;unfold ex;rw [if_neg (by omega), if_neg (by omega), if_neg (by omega), if_neg (by omega), if_pos rfl, if_pos hs];exact hn
theorem Ex.atom {a : List Nd} {ts : List Tok} {r : iZ (List Nd)} (hs : sees nL ts = false) (h : atom sz ts = some r) : Ex sz 9 a ts r := by
 refine ⟨1, ?_⟩;unfold ex;rw [if_neg (by omega), if_neg (by omega), if_neg (by omega), if_neg (by omega), if_pos rfl, if_neg (by simp [hs])];exact h
theorem Ex.left {a : List Nd} {ts : List Tok} {r r' : iZ (List Nd)} (hm : m < 8) (h3 : m ≠ 3) (h4 : m ≠ 4) (h : Ex sz (m + 1) [] ts r) (h' : Then r (fun b q s => Ex sz (m + 10) b q s) r') : Ex sz m a ts r' := by
 obtain ⟨n, hn⟩ := kV (g := fun n b q => ex sz n (m + 10) b q) (fun b q => bG sz _ b q) h h';refine ⟨n + 1, ?_⟩;unfold ex;rw [if_neg (by omega), if_neg h3, if_neg h4, if_neg (by omega), if_neg (by omega)];exact hn
theorem Ex.end_ {a : List Nd} {ts : List Tok} (ho : oper m ts = 0) : Ex sz (m + 10) a ts (.ok (a, ts)) := by
 refine ⟨1, ?_⟩;unfold ex;rw [if_pos (by omega), if_pos (by rw [Nat.add_sub_cancel]; exact ho)]
theorem Ex.more {a : List Nd} {ts : List Tok} {r r' : iZ (List Nd)} (ho : oper m ts ≠ 0) (h : Ex sz (m + 1) [] ts.tail r) (h' : Then r (fun b q s => Ex sz (m + 10) (bO (oper m ts) a b) q s) r') : Ex sz (m + 10) a ts r' := by
 obtain ⟨n, hn⟩ := kV (g := fun n b q => ex sz n (m + 10) (bO (oper m ts) a b) q) (fun b q => bG sz _ _ q) h h';refine ⟨n + 1, ?_⟩;unfold ex;rw [if_pos (by omega), if_neg (by rw [Nat.add_sub_cancel]; exact ho)];rw [Nat.add_sub_cancel, show m + 10 - 9 = m + 1 by omega];exact hn
theorem qJ {s : Bs} {ts : List Tok} (h : sees s ts = true) : ∃ t r, ts = t :: r := by
 cases ts with
 | nil => cases h
 | cons t r => exact ⟨t, r, rfl⟩
theorem Ha {ts : List Tok} (h : oper m ts ≠ 0) : ∃ t r, ts = t :: r := by
 cases ts with
 | nil => exact absurd rfl h
 | cons t r => exact ⟨t, r, rfl⟩
theorem bg {s : Bs} {ts : List Tok} (h : sees s ts = true) : ts.tail.length + 1 = ts.length := by
 obtain ⟨t, r, rfl⟩ := qJ h; rfl
theorem BD {ts : List Tok} (h : oper m ts ≠ 0) : ts.tail.length + 1 = ts.length := by
 obtain ⟨t, r, rfl⟩ := Ha h; rfl
theorem aN {s : Bs} {ts : List Tok} {r : iZ Unit} (h : must sz s ts = some r) : (sees s ts = true ∧ r = .ok ((), ts.tail)) ∨ (sees s ts = false ∧ r = .error (oN sz ts, 4)) := by
 unfold must at h
 split at h
 · rename_i c; cases h; exact Or.inl ⟨c, rfl⟩
 rename_i c; cases h; exact Or.inr ⟨by simpa using c, rfl⟩
theorem OZ : ∀ n m a ts b q, ex sz n m a ts = some (.ok (b, q)) → (m < 10 → b ≠ [] ∧ b.length + q.length ≤ ts.length) ∧ (10 ≤ m → (a ≠ [] → b ≠ []) ∧ b.length + q.length ≤ a.length + ts.length) := by
 intro n
 induction n with
 | zero => intro m a ts b q h; cases h
 | succ n ih =>
  intro m a ts b q h;unfold ex at h
  split at h
  · rename_i c1;refine ⟨fun h => by omega, fun _ => ?_⟩
    split at h
    · cases h; exact ⟨fun h => h, nlr _⟩
    rename_i c2;rcases uM h with ⟨e, _, h2⟩ | ⟨b1, q1, h1, h2⟩
    · cases h2
    have i1 := (ih _ _ _ _ _ h1).1;have i2 := (ih _ _ _ _ _ h2).2 c1;have hl := BD c2;by_cases hm : m - 9 < 10
    · have := (i1 hm).2;refine ⟨fun _ => i2.1 (by simp [bO]), ?_⟩;have i3 := i2.2;simp [bO] at i3;omega
    have := ((ih _ _ _ _ _ h1).2 (by omega)).2;refine ⟨fun _ => i2.1 (by simp [bO]), ?_⟩;have i3 := i2.2;simp [bO] at i3 this;omega
  rename_i c1;refine ⟨fun _ => ?_, fun h => by omega⟩
  split at h
  · split at h
    · rename_i c3;rcases uM h with ⟨e, _, h2⟩ | ⟨b1, q1, h1, h2⟩
      · cases h2
      cases h2
      have i1 := (ih _ _ _ _ _ h1).1 (by omega);have hl := bg c3;refine ⟨by simp [aS], ?_⟩;have := i1.2;simp [aS];omega
    exact (ih _ _ _ _ _ h).1 (by omega)
  split at h
  · rcases uM h with ⟨e, _, h2⟩ | ⟨b1, q1, h1, h2⟩
    · cases h2
    have i1 := (ih _ _ _ _ _ h1).1 (by omega);unfold iw at h2
    split at h2
    · rename_i c4;have hl := bg c4
      split at h2
      · rename_i c5;have hl2 := bg c5;rcases uM h2 with ⟨e, _, h3⟩ | ⟨b2, q2, h3, h4⟩
        · cases h3
        cases h4
        rcases aN h3 with ⟨c6, h6⟩ | ⟨_, h6⟩
        · cases h6
          have hl3 := bg c6;refine ⟨by simp [aS], ?_⟩;have := i1.2;simp [aS] at *;omega
        cases h6
      rcases uM h2 with ⟨e, _, h3⟩ | ⟨b2, q2, h3, h4⟩
      · cases h3
      cases h4
      rcases aN h3 with ⟨c6, h6⟩ | ⟨_, h6⟩
      · cases h6
        have hl3 := bg c6;refine ⟨by simp [aS], ?_⟩;have := i1.2;simp [aS] at *;omega
      cases h6
    split at h2
    · cases h2; exact i1
    rename_i c5;have hl := BD c5;rcases uM h2 with ⟨e, _, h3⟩ | ⟨b2, q2, h3, h4⟩
    · cases h3
    cases h4
    have i2 := (ih _ _ _ _ _ h3).1 (by omega);refine ⟨by simp [bO], ?_⟩;have := i1.2;have := i2.2;simp [bO] at *;omega
  split at h
  · split at h
    · rename_i c5;have hl := bg c5
      split at h
      · rename_i c6
        cases h
        have hl2 : ts.tail.tail.length + 1 = ts.tail.length := by
         cases h7 : ts.tail with
         | nil => rw [h7] at c6; cases c6
         | cons t r => simp
        refine ⟨by simp [leaf], ?_⟩;simp [leaf] at *;omega
      rcases uM h with ⟨e, _, h2⟩ | ⟨b1, q1, h1, h2⟩
      · cases h2
      have i1 := (ih _ _ _ _ _ h1).1 (by omega);unfold negate at h2
      split at h2
      · cases h2
        refine ⟨by simp [aS], ?_⟩;have := i1.2;simp [aS] at *
      split at h2
      · cases h2
        refine ⟨by simp [aS], ?_⟩;have := i1.2;simp [aS] at *;omega
      split at h2
      · cases h2
      cases h2
      refine ⟨by simp [leaf], ?_⟩;have := i1.2;simp [leaf] at *;omega
    exact (ih _ _ _ _ _ h).1 (by omega)
  split at h
  · split at h
    · rename_i c6;have hl := bg c6;rcases uM h with ⟨e, _, h2⟩ | ⟨b1, q1, h1, h2⟩
      · cases h2
      have i1 := (ih _ _ _ _ _ h1).1 (by omega);rcases uM h2 with ⟨e, _, h3⟩ | ⟨b2, q2, h3, h4⟩
      · cases h3
      cases h4
      rcases aN h3 with ⟨c7, h7⟩ | ⟨_, h7⟩
      · cases h7
        have hl3 := bg c7;refine ⟨i1.1, ?_⟩;have := i1.2;omega
      cases h7
    unfold Px.atom at h
    repeat' split at h
    all_goals first | (cases h; done) | (cases h; simp [leaf]; omega)
  rcases uM h with ⟨e, _, h2⟩ | ⟨b1, q1, h1, h2⟩
  · cases h2
  rename_i c2 c3 c4 c5;have i2 := (ih _ _ _ _ _ h2).2 (by omega);by_cases hm : m + 1 < 10
  · have i1 := (ih _ _ _ _ _ h1).1 hm;exact ⟨i2.1 i1.1, by have := i1.2; have := i2.2; omega⟩
  omega
theorem Ex.len {a b : List Nd} {ts q : List Tok} (hm : m < 10) (h : Ex sz m a ts (.ok (b, q))) : b ≠ [] ∧ b.length + q.length ≤ ts.length := by
 obtain ⟨n, hn⟩ := h;exact (OZ n m a ts b q hn).1 hm
end Px
end
section
namespace Px
open Lx (Bs Tok)
def fe (k : Int) : Bool := decide (14 ≤ k ∧ k ≤ 36)
def isName (s : Bs) : Bool := Lx.bM s && !s.isEmpty && decide (s.length ≤ 30)
def jk (x : Nd) (k : Int) : Bool := x.text.isEmpty && decide (x.num = 0) && decide (x.kids = k)
def Ns (x : Nd) (r : List Nd) : Bool :=
 if x.kind = 14 then jk x 0
 else if x.kind = 15 then x.text.isEmpty && (decide (x.num = 0) || decide (x.num = 1)) && decide (x.kids = 0)
 else if x.kind = 16 then x.text.isEmpty && decide (x.kids = 0)
 else if x.kind = 17 then Lx.bM x.text && decide (x.num = 0) && decide (x.kids = 0)
 else if x.kind = 18 then isName x.text && decide (x.num = 0) && decide (x.kids = 0)
 else if x.kind = 19 then jk x 1 && (match r with | [] => true | y :: _ => decide (y.kind ≠ 16))
 else if x.kind = 20 ∨ x.kind = 21 ∨ x.kind = 22 then jk x 1
 else decide (23 ≤ x.kind ∧ x.kind ≤ 36) && jk x 2
def Nh : Nat → List Nd → Option (List Nd)
 | 0, _ => none
 | _ + 1, [] => none
 | d + 1, x :: r => if Ns x r = true then (if x.kids = 0 then some r else if x.kids = 1 then Nh d r else (Nh d r).bind (Nh d)) else none
def PU : Nat → List Nd → Option (List Nd)
 | 0, l => some l
 | k + 1, l => (Nh 40 l).bind (PU k)
def Qa : List Nd → Option (List Nd)
 | [] => none
 | x :: r =>
  if x.kind = 2 then if isName x.text = true ∧ x.kids = 0 ∧ 1 ≤ x.num ∧ x.num ≤ 7 ∧ x.num ≠ 4 then some r else none
  else if x.kind = 5 then if x.text = [] ∧ x.num = 0 ∧ 1 ≤ x.kids then PU x.kids.toNat r else none
  else if x.kind = 8 then if isName x.text = true ∧ x.num = 0 ∧ x.kids = 1 then Nh 40 r else none
  else if x.kind = 10 then if jk x 0 = true then some r else none
  else if x.kind = 11 then if jk x 1 = true then Nh 40 r else none
  else if x.kind = 12 then if x.text = [] ∧ 0 ≤ x.num ∧ x.num ≤ 1 ∧ x.kids = 1 then Nh 40 r else none
  else if x.kind = 13 then if x.text = [] ∧ 0 ≤ x.num ∧ x.num ≤ 1000000000 ∧ x.kids = 0 then some r else none
  else Nh 40 (x :: r)
def rank (k : Int) : Nat := if k = 11 then 2 else if k = 12 then 3 else if k = 13 then 4 else 1
def fits (top k : Int) : Bool :=
 if top = 1 then decide (k = 2) else if top = 4 then decide (k = 5) else if top = 6 then decide (k = 11)
 else if top = 7 then decide (k = 8) || decide (k = 11)
 else if top = 9 then fe k || decide (k = 10) || decide (k = 11) || decide (k = 12) || decide (k = 13)
 else false
def KI (top : Int) : Nat → Nat → Nat → List Nd → Option Nat
 | 0, _, things, l => if l = [] then some things else none
 | _ + 1, _, _, [] => none
 | k + 1, last, things, x :: r =>
  if fits top x.kind = false ∨ rank x.kind < last ∨ (rank x.kind = last ∧ (rank x.kind = 2 ∨ rank x.kind = 4)) then none
  else (Qa (x :: r)).bind (KI top k (rank x.kind) (if rank x.kind = 1 then things + 1 else things))
def well : List Nd → Bool
 | [] => false
 | x :: r =>
  if isName x.text = false ∨ x.num ≠ 0 ∨ x.kids < 0 ∨ (r.length : Int) + 1 < x.kids then false
  else match KI x.kind x.kids.toNat 1 0 r with
   | none => false
   | some things =>
    if x.kind = 1 then decide (1 ≤ things ∧ things ≤ 6)
    else if x.kind = 3 then decide (x.kids = 0)
    else if x.kind = 4 ∨ x.kind = 7 ∨ x.kind = 9 then decide (1 ≤ things)
    else decide (x.kind = 6)
def sQ : Nat → Nat → Bs
 | 0, _ => []
 | f + 1, n => if n < 10 then [(48 + n).toUInt8] else sQ f (n / 10) ++ [(48 + n % 10).toUInt8]
def dec (z : Int) : Bs := if z < 0 then 45 :: sQ 20 z.natAbs else sQ 20 z.natAbs
def QX (m : UInt8) (s : Bs) : Bs := m :: (s.flatMap fun b => if b = m then [b, b] else [b]) ++ [m]
def LX (s : Bs) : Bool := (match s with | [] => false | b :: _ => Lx.isLet b) && decide (Lx.cnt Lx.dF s = s.length) && !Lx.hasB Lx.keys (s.map Lx.MX) && s.map Lx.zM == s
def nP (s : Bs) : Bs := if LX s = true then s else QX 34 s
def PR (x : Nd) : Bs :=
 if x.kind = 18 then nP x.text else if x.kind = 14 then bf else if x.kind = 16 then dec x.num else if x.kind = 17 then QX 39 x.text else if x.num = 1 then gH else dK
def brk (s : Bs) (lvl least : Nat) : Bs := if lvl < least then 40 :: (s ++ [41]) else s
def sS (k : Int) : Bs × Nat :=
 if k = 23 then (Rp, 1) else if k = 24 then (OB, 2) else if k = 25 then ([61], 4) else if k = 26 then ([60, 62], 4) else if k = 27 then ([60], 4) else if k = 28 then ([60, 61], 4)
 else if k = 29 then ([62], 4) else if k = 30 then ([62, 61], 4) else if k = 31 then ([124, 124], 5) else if k = 32 then ([43], 6) else if k = 33 then ([45], 6) else if k = 34 then ([42], 7)
 else if k = 35 then ([47], 7) else ([37], 7)
def Oj (s : Bs) : Bs := match s with | 45 :: _ => 45 :: 32 :: s | _ => 45 :: s
def RB (k : Int) (a : Bs) (lvl : Nat) : Bs × Nat :=
 if k = 20 then (ko ++ [32] ++ brk a lvl 3, 3)
 else if k = 19 then (Oj (brk a lvl 8), 8)
 else if k = 21 then (brk a lvl 5 ++ [32, 73, 83, 32, 78, 85, 76, 76], 4)
 else (brk a lvl 5 ++ [32, 73, 83, 32, 78, 79, 84, 32, 78, 85, 76, 76], 4)
def QI (k : Int) (a : Bs) (la : Nat) (b : Bs) (lb : Nat) : Bs × Nat :=
 (brk a la (if (sS k).2 = 4 then 5 else (sS k).2) ++ [32] ++ (sS k).1 ++ [32] ++ brk b lb ((sS k).2 + 1), (sS k).2)
def ext : Nat → List Nd → (Bs × Nat) × List Nd
 | 0, l => (([], 0), l)
 | _ + 1, [] => (([], 0), [])
 | d + 1, x :: r =>
  if x.kind ≤ 18 then ((PR x, if x.kind = 16 ∧ x.num < 0 then 8 else 9), r)
  else if x.kind ≤ 22 then (RB x.kind (ext d r).1.1 (ext d r).1.2, (ext d r).2)
  else (QI x.kind (ext d r).1.1 (ext d r).1.2 (ext d (ext d r).2).1.1 (ext d (ext d r).2).1.2, (ext d (ext d r).2).2)
def exts : Nat → List Nd → Bs × List Nd
 | 0, l => ([], l)
 | 1, l => ((ext 40 l).1.1, (ext 40 l).2)
 | k + 2, l => ((ext 40 l).1.1 ++ [44, 32] ++ (exts (k + 1) (ext 40 l).2).1, (exts (k + 1) (ext 40 l).2).2)
def partT : List Nd → Bs × List Nd
 | [] => ([], [])
 | x :: r =>
  if x.kind = 2 then (nP x.text ++ [32] ++ (if x.num % 4 = 1 then lG else if x.num % 4 = 2 then nD else iW) ++ (if 4 < x.num then [32] ++ ko ++ [32] ++ bf else []), r)
  else if x.kind = 5 then (40 :: ((exts x.kids.toNat r).1 ++ [41]), (exts x.kids.toNat r).2)
  else if x.kind = 8 then (nP x.text ++ [32, 61, 32] ++ (ext 40 r).1.1, (ext 40 r).2)
  else if x.kind = 10 then ([42], r)
  else if x.kind = 11 then ([32] ++ wN ++ [32] ++ (ext 40 r).1.1, (ext 40 r).2)
  else if x.kind = 12 then ((ext 40 r).1.1 ++ (if x.num = 1 then [32] ++ BM else []), (ext 40 r).2)
  else if x.kind = 13 then ([32] ++ jO ++ [32] ++ dec x.num, r)
  else ((ext 40 (x :: r)).1.1, (ext 40 (x :: r)).2)
structure LA where
 things : Bs
 fH : Bs
 orders : Bs
 limit : Bs
def Pd (g : LA) (k : Int) (s : Bs) : LA :=
 if rank k = 1 then { g with things := (if g.things = [] then [] else g.things ++ [44, 32]) ++ s }
 else if rank k = 2 then { g with fH := s }
 else if rank k = 3 then { g with orders := (if g.orders = [] then [32] ++ qP ++ [32] ++ O1 ++ [32] else g.orders ++ [44, 32]) ++ s }
 else { g with limit := s }
def PV : Nat → LA → List Nd → LA
 | 0, g, _ => g
 | _ + 1, g, [] => g
 | k + 1, g, x :: r => PV k (Pd g x.kind (partT (x :: r)).1) (partT (x :: r)).2
def text : List Nd → Bs
 | [] => []
 | x :: r =>
  let g := PV x.kids.toNat ⟨[], [], [], []⟩ r
  if x.kind = 1 then fE ++ [32] ++ mD ++ [32] ++ nP x.text ++ [32, 40] ++ g.things ++ [41]
  else if x.kind = 3 then mQ ++ [32] ++ mD ++ [32] ++ nP x.text
  else if x.kind = 4 then gZ ++ [32] ++ FI ++ [32] ++ nP x.text ++ [32] ++ tF ++ [32] ++ g.things
  else if x.kind = 6 then iH ++ [32] ++ rU ++ [32] ++ nP x.text ++ g.fH
  else if x.kind = 7 then jC ++ [32] ++ nP x.text ++ [32] ++ LF ++ [32] ++ g.things ++ g.fH
  else kR ++ [32] ++ g.things ++ [32] ++ rU ++ [32] ++ nP x.text ++ g.fH ++ g.orders ++ g.limit
def print (l : List Nd) : Bs × Nat := if well l = false then ([], 7) else if 2000 < (text l).length then ([], 1) else (text l, 0)
def tr : Nat → List Nd → Option (Nat × List Nd)
 | 0, _ => none
 | _ + 1, [] => none
 | n + 1, x :: r =>
  if x.kids = 0 then some (1, r)
  else if x.kids = 1 then (tr n r).bind fun y => some (y.1 + 1, y.2)
  else if x.kids = 2 then (tr n r).bind fun y => (tr n y.2).bind fun z => some (max y.1 z.1 + 1, z.2)
  else none
def deep : Nat → List Nd → Option Nat
 | 0, _ => none
 | _ + 1, [] => some 0
 | n + 1, x :: r => if fe x.kind = true then (tr (n + 1) (x :: r)).bind fun y => (deep n y.2).bind fun d => some (max y.1 d) else deep n r
def Parse (s : Bs) (r : Except (Nat × Nat) (List Nd)) : Prop :=
 match Lx.lex s with
 | .error e => r = .error e
 | .ok ts => ∃ n q, whole s.length n ts = some q ∧ match q with
  | .error e => r = .error e
  | .ok (a, _) => ∃ d, deep (a.length + 1) a = some d ∧ r = if 40 < d then .error (0, 6) else .ok a
end Px
end
section
namespace Lx
structure C8 (t : Tok) : Prop where
 kind : t.kind = 16 ∨ t.kind = 17 ∨ t.kind = 18 ∨ t.kind = 50 ∨ t.kind = 51
 digs : t.kind = 16 → t.text ≠ [] ∧ (∀ b ∈ t.text, aK b = true) ∧ eH t.text = false
theorem uK : ∀ (l : Bs) (b : UInt8), b ∈ dO l → b ∈ l
 | [], b, h => h
 | [x], b, h => h
 | x :: c :: r, b, h => by
  unfold dO at h
  split at h
  · exact List.mem_cons_of_mem _ (uK (c :: r) b h)
  exact h
theorem yn : ∀ l : Bs, l ≠ [] → dO l ≠ []
 | [], h => absurd rfl h
 | [x], _ => by simp [dO]
 | x :: c :: r, _ => by
  unfold dO
  split
  · exact yn (c :: r) (by simp)
  simp
theorem zH (p : UInt8 → Bool) : ∀ l : Bs, ∀ b ∈ l.take (cnt p l), p b = true
 | [], b, h => by simp at h
 | x :: r, b, h => by
  unfold cnt at h
  split at h
  · rename_i hx;rw [List.take_succ_cons] at h;rcases List.mem_cons.1 h with rfl | h
    · exact hx
    exact zH p r b h
  simp at h
theorem Li {l : Bs} {t : Bs} (h : dU l = .ok (k, t, n)) (p : Nat) : C8 ⟨k, t, p⟩ := by
 unfold dU at h
 split at h
 · simp at h
 rename_i b r
 split at h
 · split at h
   · simp only [Except.ok.injEq, Prod.mk.injEq] at h;obtain ⟨rfl, rfl, rfl⟩ := h;exact ⟨by simp, fun e => by simp at e⟩
   simp only [Except.ok.injEq, Prod.mk.injEq] at h;obtain ⟨rfl, rfl, rfl⟩ := h;exact ⟨by simp, fun e => by simp at e⟩
 split at h
 · rename_i hd
   split at h
   · simp at h
   split at h
   · simp at h
   rename_i h3;simp only [Except.ok.injEq, Prod.mk.injEq] at h;obtain ⟨rfl, rfl, rfl⟩ := h;refine ⟨by simp, fun _ => ⟨yn _ ?_, fun b hb => ?_, by simpa using h3⟩⟩
   · have : 0 < cnt aK (b :: r) := qm hd;intro e;have := congrArg List.length e;simp at this;omega
   exact zH aK _ b (uK _ b hb)
 split at h
 · split at h
   · simp at h
   split at h
   · simp at h
   simp only [Except.ok.injEq, Prod.mk.injEq] at h;obtain ⟨rfl, rfl, rfl⟩ := h;refine ⟨?_, fun e => ?_⟩
   · dsimp only; split <;> simp
   dsimp only at e; split at e <;> simp at e
 split at h
 · simp only [Except.ok.injEq, Prod.mk.injEq] at h;obtain ⟨rfl, rfl, rfl⟩ := h;exact ⟨by simp, fun e => by simp at e⟩
 split at h
 · simp only [Except.ok.injEq, Prod.mk.injEq] at h;obtain ⟨rfl, rfl, rfl⟩ := h;exact ⟨by simp, fun e => by simp at e⟩
 simp at h
theorem L8 : ∀ (m : Nat) (l : Bs) (pos : Nat) (ts : List Tok), l.length ≤ m → il 0 pos l = .ok ts → ts.length ≤ l.length ∧ ∀ t ∈ ts, C8 t ∧ pos ≤ t.pos ∧ t.pos < pos + l.length ∧ t.text.length ≤ l.length := by
 intro m
 induction m with
 | zero =>
  intro l pos ts hl h;obtain rfl := List.length_eq_zero_iff.1 (Nat.le_zero.1 hl);simp only [il, Except.ok.injEq] at h;subst h;exact ⟨by simp, fun t ht => by cases ht⟩
 | succ m ih =>
  intro l pos ts hl h
  cases l with
  | nil =>
   simp only [il, Except.ok.injEq] at h;subst h;exact ⟨by simp, fun t ht => by cases ht⟩
  | cons b r =>
   rw [kr] at h
   split at h
   · simp at h
   rename_i k t n h1;have hn := iU h1;have hs := wL ((b :: r).drop n);simp only [List.length_drop, List.length_cons] at hs hn hl
   split at h
   · rename_i us h2;simp only [Except.ok.injEq] at h;subst h;have i := ih _ _ _ (by simp; omega) h2;simp only [List.length_drop, List.length_cons] at i;refine ⟨by simp; omega, fun x hx => ?_⟩;rcases List.mem_cons.1 hx with rfl | hx
     · exact ⟨Li h1 pos, nlr _, by simp, by simp; omega⟩
     obtain ⟨j1, j2, j3, j4⟩ := i.2 x hx;exact ⟨j1, by omega, by simp; omega, by simp; omega⟩
   simp at h
theorem Np {l : Bs} {ts : List Tok} (h : lex l = .ok ts) : l.length ≤ 2000 ∧ ts.length ≤ l.length ∧ ∀ t ∈ ts, C8 t ∧ t.pos < l.length ∧ t.text.length ≤ l.length := by
 unfold lex at h
 split at h
 · simp at h
 rename_i hl;have hs := wL l;have i := L8 _ _ _ _ (nlr _) h;simp only [List.length_drop] at i;refine ⟨by omega, by omega, fun t ht => ?_⟩;obtain ⟨j1, j2, j3, j4⟩ := i.2 t ht;exact ⟨j1, by omega, by omega⟩
end Lx
namespace Px
open Lx (Bs Tok)
def dfold (s : Bs) (a : Nat) : Nat := s.foldl (fun n c => 10 * n + (c.toNat - 48)) a
theorem kg (s : Bs) : jo s = dfold s 0 := by unfold jo dfold; exact Eq.refl _
theorem fI (c : UInt8) (s : Bs) (a : Nat) : dfold (c :: s) a = dfold s (10 * a + (c.toNat - 48)) := by unfold dfold; rw [List.foldl_cons]
theorem Ci : ∀ (s : Bs) (a : Nat), a ≤ dfold s a
 | [], a => nlr _
 | c :: s, a => by rw [fI]; exact Nat.le_trans (by omega) (Ci s _)
theorem Co : ∀ (s t : Bs) (a b : Nat), s.length = t.length → (∀ c ∈ s, Lx.aK c = true) → a < b → dfold s a < dfold t b
 | [], [], a, b, _, _, h => h
 | [], _ :: _, _, _, h, _, _ => by simp at h
 | _ :: _, [], _, _, h, _, _ => by simp at h
 | c :: s, d :: t, a, b, hl, hd, h => by
  rw [fI, fI];have hc := hd c (by simp);simp only [Lx.aK, decide_eq_true_eq] at hc;exact Co s t _ _ (by simpa using hl) (fun x hx => hd x (by simp [hx])) (by omega)
theorem wG : ∀ (s t : Bs) (a : Nat), s.length = t.length → (∀ c ∈ s, Lx.aK c = true) → (∀ c ∈ t, Lx.aK c = true) → Op.bytesLess s t = true → dfold s a < dfold t a
 | [], [], _, _, _, _, h => by simp [Op.bytesLess] at h
 | [], _ :: _, _, h, _, _, _ => by simp at h
 | _ :: _, [], _, h, _, _, _ => by simp at h
 | c :: s, d :: t, a, hl, hs, ht, h => by
  rw [fI, fI];have hc := hs c (by simp);have hd := ht d (by simp);simp only [Lx.aK, decide_eq_true_eq] at hc hd;simp only [Op.bytesLess, Bool.or_eq_true, decide_eq_true_eq, Bool.and_eq_true, beq_iff_eq] at h;rcases h with h | ⟨rfl, h⟩
  · have : c.toNat < d.toNat := UInt8.lt_iff_toNat_lt.1 h;exact Co s t _ _ (by simpa using hl) (fun x hx => hs x (by simp [hx])) (by omega)
  exact wG s t _ (by simpa using hl) (fun x hx => hs x (by simp [hx])) (fun x hx => ht x (by simp [hx])) h
theorem qY : ∀ (s : Bs) (a : Nat), (∀ c ∈ s, Lx.aK c = true) → dfold s a + 1 ≤ (a + 1) * 10 ^ s.length
 | [], a, _ => by simp [dfold]
 | c :: s, a, h => by
  rw [fI];have hc := h c (by simp);simp only [Lx.aK, decide_eq_true_eq] at hc;have i := qY s (10 * a + (c.toNat - 48)) (fun x hx => h x (by simp [hx]));have e : (10 * a + (c.toNat - 48) + 1) * 10 ^ s.length ≤ (10 * (a + 1)) * 10 ^ s.length := Nat.mul_le_mul_right _ (by omega);rw [List.length_cons, Nat.pow_succ, show (a + 1) * (10 ^ s.length * 10) = (10 * (a + 1)) * 10 ^ s.length from by rw [Nat.mul_comm (10 ^ s.length) 10, ← Nat.mul_assoc, Nat.mul_comm (a + 1) 10]];omega
theorem qX : jo Lx.top = 9223372036854775808 := by decide
theorem Km : ∀ c ∈ Lx.top, Lx.aK c = true := by decide
theorem MQ {t : Bs} (hd : ∀ b ∈ t, Lx.aK b = true) (ho : Lx.eH t = false) (hne : t ≠ Lx.top) : jo t < 9223372036854775808 := by
 simp only [Lx.eH, Bool.or_eq_false_iff, Bool.and_eq_false_iff, decide_eq_false_iff_not, Bool.not_eq_eq_eq_not, Bool.not_false] at ho;obtain ⟨h1, h2⟩ := ho;rcases h2 with h2 | h2
 · have i := qY t 0 hd
   have hl : t.length ≤ 18 := by omega
   have e : 10 ^ t.length ≤ 10 ^ 18 := Nat.pow_le_pow_right (by omega) hl;rw [kg]
   have : (10 : Nat) ^ 18 = 1000000000000000000 := by decide
   omega
 by_cases hl : t.length = 19
 · rcases h2 with h2 | h2
   · have := wG t Lx.top 0 hl hd Km h2;rw [← kg, ← kg, qX] at this;exact this
   exact absurd (by simpa using h2) hne
 have i := qY t 0 hd;have e : 10 ^ t.length ≤ 10 ^ 18 := Nat.pow_le_pow_right (by omega) (by omega);rw [kg]
 have : (10 : Nat) ^ 18 = 1000000000000000000 := by decide
 omega
end Px
end
section
namespace Px
open Lx (Bs Tok)
theorem qx : ∀ n l, ∀ m r, n ≤ m → tr n l = some r → tr m l = some r := by
 intro n
 induction n with
 | zero => intro l m r _ h; cases h
 | succ n ih =>
  intro l m r hm h
  cases m with
  | zero => omega
  | succ m =>
   cases l with
   | nil => cases h
   | cons x t =>
    unfold tr at h ⊢
    split at h
    · rename_i c; rw [if_pos c]; exact h
    rename_i c;rw [if_neg c]
    split at h
    · rename_i c2;rw [if_pos c2];obtain ⟨y, h1, h2⟩ := Option.bind_eq_some_iff.1 h;rw [ih t m y (by omega) h1]; exact h2
    rename_i c2;rw [if_neg c2]
    split at h
    · rename_i c3;rw [if_pos c3];obtain ⟨y, h1, h2⟩ := Option.bind_eq_some_iff.1 h;obtain ⟨z, h3, h4⟩ := Option.bind_eq_some_iff.1 h2;rw [ih t m y (by omega) h1];show (tr m y.2).bind _ = _;rw [ih y.2 m z (by omega) h3]; exact h4
    cases h
def Df (b : List Nd) (d : Nat) : Prop := (∀ q, ∃ n, n ≤ b.length ∧ tr n (b ++ q) = some (d, q)) ∧ d ≤ b.length ∧ ∃ x r, b = x :: r ∧ fe x.kind = true
theorem Df.leaf (k : Int) (t : Bs) (n : Int) (h : fe k = true) : Df (leaf k t n) 1 := by
 refine ⟨fun q => ⟨1, by simp [Px.leaf], ?_⟩, by simp [Px.leaf], _, _, rfl, h⟩;simp [Px.leaf, tr]
theorem Df.aS {a : List Nd} (k : Int) (hk : fe k = true) (h : Df a d) : Df (aS k a) (d + 1) := by
 refine ⟨fun q => ?_, by have := h.2.1; simp [Px.aS]; omega, _, _, rfl, hk⟩;obtain ⟨n, hl, hn⟩ := h.1 q;refine ⟨n + 1, by simp [Px.aS]; omega, ?_⟩;simp only [Px.aS, List.cons_append];unfold tr;rw [if_neg (by show ¬ (1 : Int) = 0; decide), if_pos rfl, hn]
 rfl
theorem Df.bO {a b : List Nd} (k : Int) (hk : fe k = true) (h : Df a d) (h' : Df b e) : Df (bO k a b) (max d e + 1) := by
 refine ⟨fun q => ?_, by have := h.2.1; have := h'.2.1; simp [Px.bO]; omega, _, _, rfl, hk⟩;obtain ⟨n, hl, hn⟩ := h.1 (b ++ q);obtain ⟨m, hl', hm⟩ := h'.1 q;refine ⟨max n m + 1, by simp [Px.bO]; omega, ?_⟩;simp only [Px.bO, List.cons_append, laa];unfold tr;rw [if_neg (by show ¬ (2 : Int) = 0; decide), if_neg (by show ¬ (2 : Int) = 1; decide), if_pos rfl, qx n _ (max n m) _ (Nat.le_max_left _ _) hn];show (tr (max n m) (b ++ q)).bind _ = _;rw [qx m _ (max n m) _ (Nat.le_max_right _ _) hm]
 rfl
theorem xW : ∀ (l : List (Nat × Bs × Nat)) (lv : Nat) (s : Bs), (∀ x ∈ l, 23 ≤ x.2.2 ∧ x.2.2 ≤ 36) → iy l lv s ≠ 0 → 23 ≤ iy l lv s ∧ iy l lv s ≤ 36
 | [], _, _, _, h => absurd rfl h
 | x :: r, lv, s, hx, h => by
  unfold iy at h ⊢
  split
  · exact hx x (by simp)
  rename_i c;rw [if_neg c] at h;exact xW r lv s (fun y hy => hx y (by simp [hy])) h
theorem Cb (m : Nat) (t : Tok) (r : List Tok) : oper m (t :: r) = if t.kind = 50 ∨ t.kind = 51 then iy bW m t.text else 0 := rfl
theorem u7 {ts : List Tok} (h : oper m ts ≠ 0) : 23 ≤ oper m ts ∧ oper m ts ≤ 36 := by
 cases ts with
 | nil => exact absurd rfl h
 | cons t r =>
  rw [Cb] at h ⊢
  split
  · rename_i c;rw [if_pos c] at h;exact xW bW m t.text (by decide) h
  rename_i c;rw [if_neg c] at h;exact absurd rfl h
def gQ (l : List Nd) (d : Nat) : Prop := ∀ q e, (∃ n, n ≤ q.length + 1 ∧ deep n q = some e) → ∃ n, n ≤ (l ++ q).length + 1 ∧ deep n (l ++ q) = some (max d e)
theorem vY : ∀ n l, ∀ m r, n ≤ m → deep n l = some r → deep m l = some r := by
 intro n
 induction n with
 | zero => intro l m r _ h; cases h
 | succ n ih =>
  intro l m r hm h
  cases m with
  | zero => omega
  | succ m =>
   cases l with
   | nil => exact h
   | cons x t =>
    unfold deep at h ⊢
    split at h
    · rename_i c;rw [if_pos c];obtain ⟨y, h1, h2⟩ := Option.bind_eq_some_iff.1 h;obtain ⟨z, h3, h4⟩ := Option.bind_eq_some_iff.1 h2;rw [qx (n + 1) _ (m + 1) y (by omega) h1];show (deep m y.2).bind _ = _;rw [ih y.2 m z (by omega) h3]; exact h4
    rename_i c;rw [if_neg c];exact ih t m r (by omega) h
theorem gQ.nil : gQ [] 0 := fun q e ⟨n, h1, h2⟩ => ⟨n, h1, by simpa using h2⟩
theorem gQ.append {a b : List Nd} (h : gQ a d) (h' : gQ b e) : gQ (a ++ b) (max d e) := by
 intro q f hq;have := h (b ++ q) _ (h' q f hq);rw [laa, Nat.max_assoc];exact this
theorem gQ.plain (x : Nd) (h : fe x.kind = false) : gQ [x] 0 := by
 intro q e ⟨n, h1, h2⟩;refine ⟨n + 1, by simp; omega, ?_⟩;simp only [List.cons_append, List.nil_append];unfold deep;rw [if_neg (by simp [h]), h2];simp
theorem gQ.tree {b : List Nd} (h : Df b d) : gQ b d := by
 intro q e ⟨n, h1, h2⟩;obtain ⟨n1, hl, hn⟩ := h.1 q;obtain ⟨x, r, rfl, hx⟩ := h.2.2;refine ⟨max n n1 + 1, ?_, ?_⟩
 · rw [List.length_append];simp only [List.length_cons] at *;omega
 simp only [List.cons_append];unfold deep;rw [if_pos hx];have : tr (max n n1 + 1) (x :: (r ++ q)) = some (d, q) := qx n1 _ _ _ (by omega) hn;rw [this];show (deep (max n n1) q).bind _ = _;rw [vY n q _ _ (Nat.le_max_left _ _) h2]
 rfl
theorem gQ.deep {l : List Nd} (h : gQ l d) : Px.deep (l.length + 1) l = some d := by
 obtain ⟨n, h1, h2⟩ := h [] 0 ⟨1, by simp, rfl⟩;rw [List.append_nil, Nat.max_zero] at h2;exact vY n l _ _ (by simpa using h1) h2
theorem gQ.cons {x : Nd} {l : List Nd} (hx : fe x.kind = false) (h : gQ l d) : gQ (x :: l) d := by
 have := (gQ.plain x hx).append h
 rwa [Nat.zero_max] at this
end Px
end
theorem hd {p : Prop} (h : p) : Hid p := h
theorem fV {a b : Bool} (h : a = b) : Ending.returned (.bool a) = .returned (.bool b) := by rw [h]
theorem drop_at (s : ByteArray) (k : Nat) (h : k < s.size) : s.data.toList.drop k = s[k] :: s.data.toList.drop (k + 1) := by
 rw [List.drop_eq_getElem_cons (by simpa using h)]; rfl
theorem zy (p : UInt8 → Bool) (s : ByteArray) (k : Nat) (h : k < s.size) : Lx.cnt p (s.data.toList.drop k) = if p s[k] = true then Lx.cnt p (s.data.toList.drop (k + 1)) + 1 else 0 := by
 rw [drop_at s k h]; rfl
theorem pJ (p : UInt8 → Bool) (s : ByteArray) (k : Nat) (h : s.size ≤ k) : Lx.cnt p (s.data.toList.drop k) = 0 := by
 rw [List.drop_eq_nil_of_le (by simpa using h)]; rfl
theorem Gs (l : Lx.Bs) (a i lo hi : Nat) : Lx.dL (l.drop a) i lo hi = Lx.dL l (a + i) lo hi := by
 unfold Lx.dL; rw [List.getElem?_drop]
def Ig (b : Nat) (two near three four : Bool) : Nat :=
 if b < 128 then 1
 else if (194 ≤ b ∧ b ≤ 223) ∧ two = true then 2
 else if (224 ≤ b ∧ b ≤ 239) ∧ near = true ∧ three = true then 3
 else if (240 ≤ b ∧ b ≤ 244) ∧ near = true ∧ three = true ∧ four = true then 4
 else 0
theorem Jp (s : ByteArray) (a : Nat) (h : a < s.size) : Lx.aI (s.data.toList.drop a) =
   Ig s[a].toNat (Lx.dL s.data.toList (a + 1) 128 191) (Lx.dL s.data.toList (a + 1) (Lx.jV s[a].toNat) (Lx.ny s[a].toNat)) (Lx.dL s.data.toList (a + 2) 128 191) (Lx.dL s.data.toList (a + 3) 128 191) := by
 have e := drop_at s a h
 have f : ∀ i lo hi, Lx.dL (s[a] :: s.data.toList.drop (a + 1)) i lo hi = Lx.dL s.data.toList (a + i) lo hi := by
  intro i lo hi; rw [← e, Gs]
 rw [e];simp only [Lx.aI, Ig, f]
theorem Db (ss : List Lx.Bs) (x : Lx.Bs) (k : Nat) (h : k < ss.length) : Lx.hasB (ss.drop k) x = (ss.getD k [] == x || Lx.hasB (ss.drop (k + 1)) x) := by
 rw [List.drop_eq_getElem_cons h, List.getD_eq_getElem?_getD, List.getElem?_eq_getElem h]
 rfl
def eZ (ss : List Lx.Bs) : Array Value := (ss.map fun x => Value.string ⟨x.toArray⟩).toArray
theorem oC (m : UInt8) (b : UInt8) (r : Lx.Bs) (h : b ≠ m) : Lx.gN m (b :: r) = (Lx.gN m r).map (fun x => (b :: x.1, x.2 + 1)) := by
 cases r with
 | nil => simp [Lx.gN, h]
 | cons c r => simp [Lx.gN, h]
def dn (m : UInt8) (l : Lx.Bs) (k : Nat) (acc : Lx.Bs) : Prop :=
 Lx.gN m l = (Lx.gN m (l.drop k)).map (fun x => (acc ++ x.1, x.2 + k)) ∧ acc.length ≤ k
theorem dn.start (m : UInt8) (l : Lx.Bs) : dn m l 0 [] := by
 unfold dn;simp
theorem dn.other {m : UInt8} {l : Lx.Bs} {acc : Lx.Bs} {b : UInt8} {r : Lx.Bs} (h : dn m l k acc) (e : l.drop k = b :: r) (hb : b ≠ m) : dn m l (k + 1) (acc ++ [b]) := by
 unfold dn at *
 have e2 : l.drop (k + 1) = r := by rw [← List.drop_drop, e]; rfl
 refine ⟨?_, by simp; omega⟩;rw [h.1, e, oC m b r hb, e2, Option.map_map]
 congr 1
 funext x
 simp; omega
theorem dn.double {m : UInt8} {l : Lx.Bs} {acc : Lx.Bs} {r : Lx.Bs} (h : dn m l k acc) (e : l.drop k = m :: m :: r) : dn m l (k + 2) (acc ++ [m]) := by
 unfold dn at *
 have e2 : l.drop (k + 2) = r := by rw [← List.drop_drop, e]; rfl
 refine ⟨?_, by simp; omega⟩;rw [h.1, e, e2];simp only [Lx.gN, if_true, Option.map_map]
 congr 1
 funext x
 simp; omega
theorem dn.last {m : UInt8} {l : Lx.Bs} {acc : Lx.Bs} {r : Lx.Bs} (h : dn m l k acc) (e : l.drop k = m :: r) (hr : r.head? ≠ some m) : Lx.gN m l = some (acc, k + 1) := by
 unfold dn at *;rw [h.1, e]
 cases r with
 | nil => simp [Lx.gN]; omega
 | cons c r =>
  have : c ≠ m := by simpa using hr
  simp [Lx.gN, this]; omega
def af (w : World) (b : Nat) (cs : Array Value) (t : TypeId) : Prop := w.heap[b]? = some (.cells cs t (0, 0))
theorem af.cell (h : af w b cs t) (i : Nat) : w.cell? ⟨b, i, none⟩ = cs[i]? := cell_of_row w b i cs t (0, 0) h
theorem af.free (h : af w b cs t) (i : Nat) : w.frozen? ⟨b, i, none⟩ = false := by
 unfold af at h;simp [World.frozen?, h]
theorem af.lt (h : af w b cs t) : b < w.heap.size := (geA.1 h).1
theorem af.new (w : World) (cs : Array Value) (t : TypeId) : af (w.alloc (.cells cs t)) w.heap.size cs t := heap_alloc_new w _
theorem af.alloc (h : af w b cs t) (o : Obj) : af (w.alloc o) b cs t := by
 unfold af at *;show (w.heap.push o)[b]? = _;rw [Array.getElem?_push_lt (geA.1 h).1, ← Array.getElem?_eq_getElem]; exact h
theorem af.below {W w1 : World} {B : Nat} (h : af W b cs t) (hb : Below B W w1) (hlt : b < B) : af w1 b cs t := by
 unfold af at *;rw [hb.block b hlt]; exact h
theorem af.drew (h : af w b cs t) : af w.drew b cs t := h
theorem af.set (h : af w b cs t) (i : Nat) (v : Value) : af (w.setCell ⟨b, i, none⟩ v) b (cs.setIfInBounds i v) t := by
 unfold af at *;simp only [World.setCell, Array.getElem?_modify, if_true, h]
 rfl
theorem af.far (h : af w b cs t) (p : Addr) (v : Value) (hp : p.block ≠ b) : af (w.setCell p v) b cs t := by
 unfold af at *;rw [Below.heap_setCell _ _ _ _ (Ne.symm hp)]; exact h
theorem af.three {x y z : Value} (h : af w b #[x, y, z] t) :
   (w.cell? ⟨b, 0, none⟩ = some x ∧ w.cell? ⟨b, 1, none⟩ = some y ∧ w.cell? ⟨b, 2, none⟩ = some z) ∧ w.frozen? ⟨b, 0, none⟩ = false ∧ w.frozen? ⟨b, 1, none⟩ = false ∧ w.frozen? ⟨b, 2, none⟩ = false :=
 ⟨⟨h.cell 0, h.cell 1, h.cell 2⟩, h.free 0, h.free 1, h.free 2⟩
theorem CV (s : ByteArray) (a : Nat) (h : a < s.size) (hl : Lx.isLet s[a] = true) : Lx.dU (s.data.toList.drop a) =
   if Lx.hasB Lx.keys (((s.data.toList.drop a).take (Lx.cnt Lx.dF (s.data.toList.drop a))).map Lx.MX) then .ok (50, ((s.data.toList.drop a).take (Lx.cnt Lx.dF (s.data.toList.drop a))).map Lx.MX, Lx.cnt Lx.dF (s.data.toList.drop a))
   else .ok (18, ((s.data.toList.drop a).take (Lx.cnt Lx.dF (s.data.toList.drop a))).map Lx.zM, Lx.cnt Lx.dF (s.data.toList.drop a)) := by
 have e := drop_at s a h;rw [e];simp only [Lx.dU, hl, if_true]
theorem uD (s : ByteArray) (a : Nat) (h : a < s.size) (hl : Lx.isLet s[a] = false) (hd : Lx.aK s[a] = true) : Lx.dU (s.data.toList.drop a) =
   if Lx.cnt Lx.aK (s.data.toList.drop a) < Lx.cnt Lx.dF (s.data.toList.drop a) then .error 2
   else if Lx.eH (Lx.dO ((s.data.toList.drop a).take (Lx.cnt Lx.aK (s.data.toList.drop a)))) then .error 3
   else .ok (16, Lx.dO ((s.data.toList.drop a).take (Lx.cnt Lx.aK (s.data.toList.drop a))), Lx.cnt Lx.aK (s.data.toList.drop a)) := by
 have e := drop_at s a h;rw [e];simp only [Lx.dU, hl, hd, if_true, if_false, Bool.false_eq_true]
theorem ER (s : ByteArray) (a : Nat) (h : a < s.size) (hl : Lx.isLet s[a] = false) (hd : Lx.aK s[a] = false) (hq : s[a].toNat = 39 ∨ s[a].toNat = 34) : Lx.dU (s.data.toList.drop a) =
   match Lx.gN s[a] (s.data.toList.drop (a + 1)) with
    | none => .error 2
    | some (t, n) =>
     if Lx.bM t = false ∨ (s[a].toNat = 34 ∧ t = []) then .error 2
     else .ok (if s[a].toNat = 34 then 18 else 17, t, n + 1) := by
 have e := drop_at s a h;rw [e];simp only [Lx.dU, hl, hd, if_true, if_false, Bool.false_eq_true];rw [if_pos hq]
 all_goals (rcases Lx.gN s[a] (s.data.toList.drop (a + 1)) with _ | ⟨t, n⟩ <;> rfl)
theorem G9 (s : ByteArray) (a : Nat) (h : a < s.size) (hl : Lx.isLet s[a] = false) (hd : Lx.aK s[a] = false) (hq : ¬ (s[a].toNat = 39 ∨ s[a].toNat = 34)) : Lx.dU (s.data.toList.drop a) =
   if 2 ≤ s.size - a ∧ Lx.hasB Lx.EB ((s.data.toList.drop a).take 2) = true then .ok (51, (s.data.toList.drop a).take 2, 2)
   else if Lx.hasB Lx.ones ((s.data.toList.drop a).take 1) = true then .ok (51, (s.data.toList.drop a).take 1, 1)
   else .error 2 := by
 have e := drop_at s a h
 have el : (s.data.toList.drop a).length = s.size - a := by simp
 rw [← el, e];simp only [Lx.dU, hl, hd, if_true, if_false, Bool.false_eq_true];rw [if_neg hq]
def G5 (t : Lx.Tok) : List Value := [.int .i64 (t.kind : Int), .string ⟨t.text.toArray⟩, .int .i64 (t.pos : Int)]
def gI : List Lx.Tok → List Value
 | [] => []
 | t :: ts => G5 t ++ gI ts
theorem pU : ∀ a b : List Lx.Tok, gI (a ++ b) = gI a ++ gI b
 | [], b => rfl
 | t :: a, b => by simp [gI, pU a b]
theorem H7 (t : Lx.Tok) : gI [t] = G5 t := by simp [gI]
def mg (l : Lx.Bs) (k : Nat) (ts : List Lx.Tok) : Prop :=
 ts.length ≤ k ∧ Lx.il 0 (Lx.bN l) (l.drop (Lx.bN l)) = match Lx.il 0 k (l.drop k) with
  | .ok r => .ok (ts ++ r)
  | .error e => .error e
theorem mg.start (l : Lx.Bs) : mg l (Lx.bN l) [] := by
 refine ⟨by simp, ?_⟩
 cases Lx.il 0 (Lx.bN l) (l.drop (Lx.bN l)) <;> simp
theorem mg.done {l : Lx.Bs} {ts : List Lx.Tok} (h : mg l k ts) (hk : l.length ≤ k) : Lx.il 0 (Lx.bN l) (l.drop (Lx.bN l)) = .ok ts := by
 rw [h.2, List.drop_eq_nil_of_le hk];simp [Lx.il]
theorem mg.fail {l : Lx.Bs} {ts : List Lx.Tok} (h : mg l k ts) (hk : k < l.length) (h1 : Lx.dU (l.drop k) = .error e) : Lx.il 0 (Lx.bN l) (l.drop (Lx.bN l)) = .error (k, e) := by
 rw [h.2];have e1 := List.drop_eq_getElem_cons hk;rw [e1] at h1 ⊢;rw [Lx.kr, h1]
theorem mg.step {l : Lx.Bs} {c : Nat} {t : Lx.Bs} {ts : List Lx.Tok} (h : mg l k ts) (hk : k < l.length) (h1 : Lx.dU (l.drop k) = .ok (c, t, n)) : mg l (k + n + Lx.bN (l.drop (k + n))) (ts ++ [⟨c, t, k⟩]) := by
 have hl := Lx.iU h1;refine ⟨by have := h.1; simp; omega, ?_⟩;rw [h.2];have e1 := List.drop_eq_getElem_cons hk;rw [e1] at h1 ⊢;rw [Lx.kr, h1];dsimp only;rw [← e1, List.drop_drop, List.drop_drop]
 cases Lx.il 0 (k + n + Lx.bN (l.drop (k + n))) (l.drop (k + n + Lx.bN (l.drop (k + n)))) <;> simp
theorem Below.grownBy {w' : World} {row : Option Nat} (h : Below w.heap.size w w') : w.grownBy w' row := ⟨h.os, h.tape, h.output, h.size, fun k hk _ => h.block k hk⟩
theorem dJ {w1 : World} {base : Nat} {e : TypeId} {size : Nat} {v : Value} {xs : List Value} (h : w.ownsRow base e size v n xs) (hb : Below w.heap.size w w1) : w1.ownsRow base e size v n xs :=
 h.kept (row := none) (Below.grownBy hb) (by cases v.ownBlock <;> simp)
theorem Tryz.info146 : (Tryz.prog.info? 146).map (fun i => (i.zero, i.size, i.bytes)) = some (some (.agg #[.int .i64 0, .string ⟨#[]⟩, .int .i64 0]), 3, 32) := by kernel_rfl
theorem Eh (w : World) (x y z : Value) (T : TypeId) (g : Nat) (hg : g = w.heap.size) : ∀ j u, [x, y, z][j]? = some u → (w.alloc (.cells #[x, y, z] T)).cell? ((⟨g, 0, none⟩ : Addr).add j) = some u := by
 intro j u hj;subst hg;rw [Addr.add_lit, Nat.zero_add, (af.new w #[x, y, z] T).cell j];rw [← hj];simp
theorem yt : ∀ (ts : List Lx.Tok) (k : Nat) (h : k < ts.length), (gI ts)[k * 3]? = some (.int .i64 (ts[k].kind : Int)) ∧ (gI ts)[k * 3 + 1]? = some (.string ⟨ts[k].text.toArray⟩) ∧ (gI ts)[k * 3 + 2]? = some (.int .i64 (ts[k].pos : Int))
 | t :: ts, 0, _ => ⟨rfl, rfl, rfl⟩
 | t :: ts, k + 1, h => by
  have ih := yt ts k (by simpa using h)
  have e : ∀ j, (gI (t :: ts))[j + 3]? = (gI ts)[j]? := by
   intro j;show (G5 t ++ gI ts)[j + 3]? = _;rw [List.getElem?_append_right (by simp [G5])];simp [G5]
  rw [show (k + 1) * 3 = k * 3 + 3 from by omega, show k * 3 + 3 + 1 = (k * 3 + 1) + 3 from by omega, show k * 3 + 3 + 2 = (k * 3 + 2) + 3 from by omega, e, e, e];simpa using ih
def ug (ts : List Lx.Tok) (sz k : Nat) : Lx.Tok := (ts[k]?).getD ⟨0, [], sz⟩
def iJ (t : Lx.Tok) : Value := .agg #[.int .i64 (t.kind : Int), .string ⟨t.text.toArray⟩, .int .i64 (t.pos : Int)]
theorem JF (s : ByteArray) (k lo hi : Nat) : Lx.dL s.data.toList k lo hi = decide (k < s.size ∧ lo ≤ (s.get! k).toNat ∧ (s.get! k).toNat ≤ hi) := by
 unfold Lx.dL;by_cases h : k < s.size
 · rw [List.getElem?_eq_getElem (by simpa using h)]
   have e : s.get! k = s[k] := by
    simp [ByteArray.get!, getElem!_pos, h]
    rfl
   rw [e];simp [h]
   rfl
 rw [List.getElem?_eq_none (by simpa using h)];simp [h]
theorem cK (s : ByteArray) (k : Nat) (h : k < s.size) : s.get! k = s[k] := by
 simp [ByteArray.get!, getElem!_pos, h]
 rfl
def jP (n b0 b1 b2 b3 : Nat) : Nat :=
 if b0 < 128 then 1
 else if (194 ≤ b0 ∧ b0 ≤ 223) ∧ (1 < n ∧ 128 ≤ b1 ∧ b1 ≤ 191) then 2
 else if (224 ≤ b0 ∧ b0 ≤ 239) ∧ (1 < n ∧ Lx.jV b0 ≤ b1 ∧ b1 ≤ Lx.ny b0) ∧ (2 < n ∧ 128 ≤ b2 ∧ b2 ≤ 191) then 3
 else if (240 ≤ b0 ∧ b0 ≤ 244) ∧ (1 < n ∧ Lx.jV b0 ≤ b1 ∧ b1 ≤ Lx.ny b0) ∧ (2 < n ∧ 128 ≤ b2 ∧ b2 ≤ 191) ∧ (3 < n ∧ 128 ≤ b3 ∧ b3 ≤ 191) then 4
 else 0
theorem rC (s : ByteArray) (i : Nat) (h : i < s.size) : Lx.aI (s.data.toList.drop i) = jP (s.size - i) (s.get! i).toNat (s.get! (i + 1)).toNat (s.get! (i + 2)).toNat (s.get! (i + 3)).toNat := by
 rw [Jp s i h, cK s i h];unfold Ig jP;simp only [JF, decide_eq_true_eq];have c1 : (i + 1 < s.size) = (1 < s.size - i) := propext ⟨fun h => by omega, fun h => by omega⟩;have c2 : (i + 2 < s.size) = (2 < s.size - i) := propext ⟨fun h => by omega, fun h => by omega⟩;have c3 : (i + 3 < s.size) = (3 < s.size - i) := propext ⟨fun h => by omega, fun h => by omega⟩;simp only [c1, c2, c3]
theorem MV (n b0 b1 b2 b3 : Nat) (h0 : b0 < 256) (h1 : b1 < 256) (h2 : b2 < 256) (h3 : b3 < 256) (h : jP n b0 b1 b2 b3 = 0) : Lib.decodeN n b0 b1 b2 b3 = (65533, 1) ∧ 128 ≤ b0 := by
 unfold jP Lx.jV Lx.ny at h;unfold Lib.decodeN
 repeat' split at h
 all_goals (try (exfalso; omega))
 all_goals
  refine ⟨?_, by omega⟩
  repeat' split
  all_goals first | rfl | (exfalso; omega)
theorem Md (n b0 b1 b2 b3 : Nat) (h : jP n b0 b1 b2 b3 = 1) : b0 < 128 ∧ Lib.decodeN n b0 b1 b2 b3 = (b0, 1) := by
 unfold jP at h
 repeat' split at h
 all_goals (try (exfalso; omega))
 rename_i hb;exact ⟨hb, by simp [Lib.decodeN, hb]⟩
theorem FQ (n b0 b1 b2 b3 : Nat) (h : jP n b0 b1 b2 b3 = 2) : (194 ≤ b0 ∧ b0 ≤ 223) ∧ (1 < n ∧ 128 ≤ b1 ∧ b1 ≤ 191) ∧ Lib.decodeN n b0 b1 b2 b3 = (b0 % 32 * 64 + b1 % 64, 2) := by
 unfold jP at h
 repeat' split at h
 all_goals (try (exfalso; omega))
 rename_i hb;refine ⟨hb.1, hb.2, ?_⟩;unfold Lib.decodeN;rw [if_neg (by omega), if_pos (by omega), if_pos (by omega)]
theorem xV (n b0 b1 b2 b3 : Nat) (h : jP n b0 b1 b2 b3 = 3) : (224 ≤ b0 ∧ b0 ≤ 239) ∧ (1 < n ∧ Lx.jV b0 ≤ b1 ∧ b1 ≤ Lx.ny b0) ∧ (2 < n ∧ 128 ≤ b2 ∧ b2 ≤ 191) ∧ Lib.decodeN n b0 b1 b2 b3 = (b0 % 16 * 4096 + b1 % 64 * 64 + b2 % 64, 3) := by
 unfold jP at h
 repeat' split at h
 all_goals (try (exfalso; omega))
 rename_i hb;refine ⟨hb.1, hb.2.1, hb.2.2, ?_⟩;have hl := hb.2.1;unfold Lx.jV Lx.ny at hl;unfold Lib.decodeN
 repeat' split at hl
 all_goals rw [if_neg (by omega), if_neg (by omega), if_pos (by omega), if_pos (by omega)]
theorem Cf (n b0 b1 b2 b3 : Nat) (h : jP n b0 b1 b2 b3 = 4) : (240 ≤ b0 ∧ b0 ≤ 244) ∧ (1 < n ∧ Lx.jV b0 ≤ b1 ∧ b1 ≤ Lx.ny b0) ∧ (2 < n ∧ 128 ≤ b2 ∧ b2 ≤ 191) ∧ (3 < n ∧ 128 ≤ b3 ∧ b3 ≤ 191) ∧ Lib.decodeN n b0 b1 b2 b3 = (b0 % 8 * 262144 + b1 % 64 * 4096 + b2 % 64 * 64 + b3 % 64, 4) := by
 unfold jP at h
 repeat' split at h
 all_goals (try (exfalso; omega))
 rename_i hb;refine ⟨hb.1, hb.2.1, hb.2.2.1, hb.2.2.2, ?_⟩;have hl := hb.2.1;unfold Lx.jV Lx.ny at hl;unfold Lib.decodeN
 repeat' split at hl
 all_goals rw [if_neg (by omega), if_neg (by omega), if_neg (by omega), if_pos (by omega), if_pos (by omega)]
theorem byte_back (b : UInt8) (x : Int) (h : x = (b.toNat : Int)) : x.toNat.toUInt8 = b := by
 subst h;simp
theorem oW (s : ByteArray) (i : Nat) (h : i < s.size) (hc : Lx.aI (s.data.toList.drop i) = 0) : Utf8.decode s i = (65533, 1) ∧ 128 ≤ s[i].toNat := by
 rw [rC s i h] at hc;have := MV _ _ _ _ _ (UInt8.toNat_lt _) (UInt8.toNat_lt _) (UInt8.toNat_lt _) (UInt8.toNat_lt _) hc;rw [cK s i h] at this;rw [Lib.decode_at, cK s i h];exact this
theorem drop_take (s : ByteArray) (i n : Nat) (h : i + n ≤ s.size) (l : Lx.Bs) (hl : l.length = n) (hg : ∀ k, k < n → l[k]? = some (s.get! (i + k))) : (s.data.toList.drop i).take n = l := by
 apply List.ext_getElem?;intro k;by_cases hk : k < n
 · rw [List.getElem?_take_of_lt hk, List.getElem?_drop, hg k hk, cK s (i + k) (by omega), List.getElem?_eq_getElem (by simp; have : s.data.size = s.size := rfl; omega)]
   rfl
 rw [List.getElem?_eq_none (by simp; omega), List.getElem?_eq_none (by omega)]
theorem ky (s : ByteArray) (i : Nat) (h : i < s.size) (hc : Lx.aI (s.data.toList.drop i) ≠ 0) :
   (Utf8.decode s i).2 = Lx.aI (s.data.toList.drop i) ∧ Lib.encodeRune ((Utf8.decode s i).1 : Int) = (s.data.toList.drop i).take (Lx.aI (s.data.toList.drop i)) ∧
     ((Lx.aI (s.data.toList.drop i) = 1 ∧ (Utf8.decode s i).1 = s[i].toNat ∧ s[i].toNat < 128) ∨ (1 < Lx.aI (s.data.toList.drop i) ∧ 128 ≤ (Utf8.decode s i).1 ∧ 128 ≤ s[i].toNat)) := by
 have hle := Lx.iq (s.data.toList.drop i);rw [List.length_drop, show s.data.toList.length = s.size from by simp] at hle;have hcls := rC s i h;rw [Lib.decode_at];rw [cK s i h] at hcls ⊢;have B0 := s[i].toNat_lt
 have hcase : Lx.aI (s.data.toList.drop i) = 1 ∨ Lx.aI (s.data.toList.drop i) = 2 ∨ Lx.aI (s.data.toList.drop i) = 3 ∨ Lx.aI (s.data.toList.drop i) = 4 := by
  have : ∀ n b0 b1 b2 b3, jP n b0 b1 b2 b3 = 0 ∨ jP n b0 b1 b2 b3 = 1 ∨ jP n b0 b1 b2 b3 = 2 ∨ jP n b0 b1 b2 b3 = 3 ∨ jP n b0 b1 b2 b3 = 4 := by
   intro n b0 b1 b2 b3;unfold jP
   repeat' split
   all_goals omega
  have := this (s.size - i) s[i].toNat (s.get! (i + 1)).toNat (s.get! (i + 2)).toNat (s.get! (i + 3)).toNat;rw [← hcls] at this;omega
 rcases hcase with e | e | e | e
 · rw [e] at hcls hle ⊢;obtain ⟨q, d⟩ := Md _ _ _ _ _ hcls.symm;rw [d];refine ⟨rfl, ?_, .inl ⟨rfl, rfl, q⟩⟩
   rw [drop_take s i 1 (by omega) [s.get! i] rfl (by intro k hk; have : k = 0 := by omega
                                                     subst this; rfl)]
   unfold Lib.encodeRune;rw [Lib.encodeRuneZ_one (by omega) (by simp; omega)];simp only [List.map_cons, List.map_nil];rw [byte_back s[i] _ rfl, cK s i h]
 · rw [e] at hcls hle ⊢;obtain ⟨q, q1, d⟩ := FQ _ _ _ _ _ hcls.symm;rw [d];refine ⟨rfl, ?_, .inr ⟨by omega, by simp only; omega, by omega⟩⟩
   rw [drop_take s i 2 (by omega) [s.get! i, s.get! (i + 1)] rfl (by intro k hk; have : k = 0 ∨ k = 1 := by omega
                                                                     rcases this with rfl | rfl <;> rfl)]
   unfold Lib.encodeRune;rw [Lib.encodeRuneZ_two (by simp only; omega) (by simp only; omega)];simp only [List.map_cons, List.map_nil];rw [byte_back s[i] _ (by omega), byte_back (s.get! (i + 1)) _ (by omega), cK s i h]
 · rw [e] at hcls hle ⊢;obtain ⟨q, q1, q2, d⟩ := xV _ _ _ _ _ hcls.symm;unfold Lx.jV Lx.ny at q1;have B1 := (s.get! (i + 1)).toNat_lt
   have hr : ((2048 : Int) ≤ ((s[i].toNat % 16 * 4096 + (s.get! (i + 1)).toNat % 64 * 64 + (s.get! (i + 2)).toNat % 64 : Nat) : Int) ∧ ((s[i].toNat % 16 * 4096 + (s.get! (i + 1)).toNat % 64 * 64 + (s.get! (i + 2)).toNat % 64 : Nat) : Int) < 55296) ∨ ((57343 : Int) < ((s[i].toNat % 16 * 4096 + (s.get! (i + 1)).toNat % 64 * 64 + (s.get! (i + 2)).toNat % 64 : Nat) : Int) ∧ ((s[i].toNat % 16 * 4096 + (s.get! (i + 1)).toNat % 64 * 64 + (s.get! (i + 2)).toNat % 64 : Nat) : Int) ≤ 65535) := by
    repeat' split at q1
    all_goals omega
   have hb1 : 128 ≤ (s.get! (i + 1)).toNat ∧ (s.get! (i + 1)).toNat ≤ 191 := by
    repeat' split at q1
    all_goals omega
   rw [d];refine ⟨rfl, ?_, .inr ⟨by omega, by simp only; omega, by omega⟩⟩
   rw [drop_take s i 3 (by omega) [s.get! i, s.get! (i + 1), s.get! (i + 2)] rfl (by intro k hk; have : k = 0 ∨ k = 1 ∨ k = 2 := by omega
                                                                                     rcases this with rfl | rfl | rfl <;> rfl)]
   unfold Lib.encodeRune;rw [Lib.encodeRuneZ_three hr];simp only [List.map_cons, List.map_nil];rw [byte_back s[i] _ (by omega), byte_back (s.get! (i + 1)) _ (by omega), byte_back (s.get! (i + 2)) _ (by omega), cK s i h]
 rw [e] at hcls hle ⊢;obtain ⟨q, q1, q2, q3, d⟩ := Cf _ _ _ _ _ hcls.symm;unfold Lx.jV Lx.ny at q1;have B1 := (s.get! (i + 1)).toNat_lt
 have hb1 : 128 ≤ (s.get! (i + 1)).toNat ∧ (s.get! (i + 1)).toNat ≤ 191 := by
  repeat' split at q1
  all_goals omega
 have hr : (65536 : Int) ≤ ((s[i].toNat % 8 * 262144 + (s.get! (i + 1)).toNat % 64 * 4096 + (s.get! (i + 2)).toNat % 64 * 64 + (s.get! (i + 3)).toNat % 64 : Nat) : Int) ∧ ((s[i].toNat % 8 * 262144 + (s.get! (i + 1)).toNat % 64 * 4096 + (s.get! (i + 2)).toNat % 64 * 64 + (s.get! (i + 3)).toNat % 64 : Nat) : Int) ≤ 1114111 := by
  repeat' split at q1
  all_goals omega
 rw [d];refine ⟨rfl, ?_, .inr ⟨by omega, by simp only; omega, by omega⟩⟩
 rw [drop_take s i 4 (by omega) [s.get! i, s.get! (i + 1), s.get! (i + 2), s.get! (i + 3)] rfl (by intro k hk; have : k = 0 ∨ k = 1 ∨ k = 2 ∨ k = 3 := by omega
                                                                                                   rcases this with rfl | rfl | rfl | rfl <;> rfl)]
 unfold Lib.encodeRune;rw [Lib.encodeRuneZ_four hr.1 hr.2];simp only [List.map_cons, List.map_nil];rw [byte_back s[i] _ (by omega), byte_back (s.get! (i + 1)) _ (by omega), byte_back (s.get! (i + 2)) _ (by omega), byte_back (s.get! (i + 3)) _ (by omega), cK s i h]
end Go.Proofs.YthhhfcdakfbpkaaGreatDoor
