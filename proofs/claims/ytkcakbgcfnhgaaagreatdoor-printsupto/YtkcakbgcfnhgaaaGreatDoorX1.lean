/- Parts of the proof: Lex Px Py Pt Pz Pw Bas Pe Pf Pg Ph Pi Qa Qb Qc Qd Utf -/
import GoSem.Claim
import Derived.Test.YtkcakbgcfnhgaaaGreatDoorRows
import Derived.WalkKit
import Derived.WalkSpells
import Derived.WalkLawsBesides
import Derived.Deep.Light
import Derived.Lib.Strings
import Derived.Lib.IndexBytes
import Derived.Laws.IdiomStrings
import Derived.BigQuiet
import Derived.Deep.QuietTactic
import Derived.Handy
import Derived.Lib.DecodeN
import Derived.Lib.RuneBytes
namespace Go.Proofs.YtkcakbgcfnhgaaaGreatDoor
set_option linter.unusedSimpArgs false
set_option linter.unusedVariables false
set_option maxRecDepth 100000
set_option maxHeartbeats 16000000
open Go.RowKit
namespace Lx
abbrev Bs := List UInt8
def isDig (b : UInt8) : Bool := decide (48 ≤ b.toNat ∧ b.toNat ≤ 57)
def isLet (b : UInt8) : Bool := decide ((97 ≤ b.toNat ∧ b.toNat ≤ 122) ∨ (65 ≤ b.toNat ∧ b.toNat ≤ 90) ∨ b.toNat = 95)
def isSp (b : UInt8) : Bool := decide (b.toNat = 9 ∨ b.toNat = 10 ∨ b.toNat = 13 ∨ b.toNat = 32)
def isWd (b : UInt8) : Bool := isDig b || isLet b
def cnt (p : UInt8 → Bool) : Bs → Nat
 | [] => 0
 | b :: r => if p b then cnt p r + 1 else 0
theorem cnt_le (p : UInt8 → Bool) : ∀ l : Bs, cnt p l ≤ l.length
 | [] => by simp [cnt]
 | b :: r => by
  have := cnt_le p r
  unfold cnt; split <;> simp <;> omega
def folB (l : Bs) (i lo hi : Nat) : Bool :=
 match l[i]? with
 | some b => decide (lo ≤ b.toNat ∧ b.toNat ≤ hi)
 | none => false
def loOf (b : Nat) : Nat := if b = 224 then 160 else if b = 240 then 144 else 128
def hiOf (b : Nat) : Nat := if b = 237 then 159 else if b = 244 then 143 else 191
def charN (l : Bs) : Nat :=
 match l with
 | [] => 0
 | b :: _ =>
  if b.toNat < 128 then 1
  else if (194 ≤ b.toNat ∧ b.toNat ≤ 223) ∧ folB l 1 128 191 = true then 2
  else if (224 ≤ b.toNat ∧ b.toNat ≤ 239) ∧ folB l 1 (loOf b.toNat) (hiOf b.toNat) = true ∧ folB l 2 128 191 = true then 3
  else if (240 ≤ b.toNat ∧ b.toNat ≤ 244) ∧ folB l 1 (loOf b.toNat) (hiOf b.toNat) = true ∧ folB l 2 128 191 = true ∧ folB l 3 128 191 = true then 4
  else 0
def validM : Nat → Bs → Bool
 | _, [] => true
 | n + 1, _ :: r => validM n r
 | 0, b :: r => if charN (b :: r) = 0 ∨ b.toNat = 0 then false else validM (charN (b :: r) - 1) r
def validN (l : Bs) : Bool := validM 0 l
def betw (m : UInt8) : Bs → Option (Bs × Nat)
 | [] => none
 | [b] => if b = m then some ([], 1) else none
 | b :: c :: r =>
  if b = m then
    if c = m then (betw m r).map (fun x => (m :: x.1, x.2 + 2)) else some ([], 1)
  else (betw m (c :: r)).map (fun x => (b :: x.1, x.2 + 1))
def leastB : Bs → Bs
 | b :: c :: r => if b.toNat = 48 then leastB (c :: r) else b :: c :: r
 | l => l
def top : Bs := [57, 50, 50, 51, 51, 55, 50, 48, 51, 54, 56, 53, 52, 55, 55, 53, 56, 48, 56]
def overTop (t : Bs) : Bool := decide (19 < t.length) || (decide (t.length = 19) && (!Op.bytesLess t top && !(t == top)))
def upB (b : UInt8) : UInt8 := if 97 ≤ b.toNat ∧ b.toNat ≤ 122 then b - 32 else b
def lowB (b : UInt8) : UInt8 := if 65 ≤ b.toNat ∧ b.toNat ≤ 90 then b + 32 else b
def keys : List Bs := [[65, 78, 68], [65, 83, 67], [66, 79, 79, 76, 69, 65, 78], [66, 89], [67, 82, 69, 65, 84, 69], [68, 69, 76, 69, 84, 69], [68, 69, 83, 67], [68, 82, 79, 80], [70, 65, 76, 83, 69], [70, 82, 79, 77], [73, 78, 83, 69, 82, 84], [73, 78, 84, 69, 71, 69, 82], [73, 78, 84, 79], [73, 83], [76, 73, 77, 73, 84], [78, 79, 84], [78, 85, 76, 76], [79, 82], [79, 82, 68, 69, 82], [83, 69, 76, 69, 67, 84], [83, 69, 84], [84, 65, 66, 76, 69], [84, 69, 88, 84], [84, 82, 85, 69], [85, 80, 68, 65, 84, 69], [86, 65, 76, 85, 69, 83], [87, 72, 69, 82, 69]]
def twos : List Bs := [[60, 62], [60, 61], [62, 61], [124, 124]]
def ones : List Bs := [[40], [41], [44], [59], [42], [43], [45], [47], [37], [61], [60], [62]]
def hasB : List Bs → Bs → Bool
 | [], _ => false
 | a :: r, x => a == x || hasB r x
def oneT (l : Bs) : Except Nat (Nat × Bs × Nat) :=
 match l with
 | [] => .error 2
 | b :: r =>
  if isLet b then
    if hasB keys ((l.take (cnt isWd l)).map upB) then .ok (50, (l.take (cnt isWd l)).map upB, cnt isWd l) else .ok (18, (l.take (cnt isWd l)).map lowB, cnt isWd l)
  else if isDig b then
    if cnt isDig l < cnt isWd l then .error 2
    else if overTop (leastB (l.take (cnt isDig l))) then .error 3
    else .ok (16, leastB (l.take (cnt isDig l)), cnt isDig l)
  else if b.toNat = 39 ∨ b.toNat = 34 then
    match betw b r with
    | none => .error 2
    | some (t, n) =>
     if validN t = false ∨ (b.toNat = 34 ∧ t = []) then .error 2
     else .ok (if b.toNat = 34 then 18 else 17, t, n + 1)
  else if 2 ≤ l.length ∧ hasB twos (l.take 2) = true then .ok (51, l.take 2, 2)
  else if hasB ones (l.take 1) = true then .ok (51, l.take 1, 1)
  else .error 2
structure Tok where
 kind : Nat
 text : Bs
 pos : Nat
theorem charN_le : ∀ l : Bs, charN l ≤ l.length
 | [] => by simp [charN]
 | b :: r => by
  have f1 : ∀ i lo hi, folB (b :: r) i lo hi = true → i < (b :: r).length := by
   intro i lo hi h
   unfold folB at h
   split at h
   · rename_i x hx
     exact (List.getElem?_eq_some_iff.1 hx).1
   · simp at h
  simp only [charN]
  split
  · simp
  · split
    · rename_i h; have := f1 _ _ _ h.2; omega
    · split
      · rename_i h; have := f1 _ _ _ h.2.2; omega
      · split
        · rename_i h; have := f1 _ _ _ h.2.2.2; omega
        · omega
theorem validM_drop : ∀ (n : Nat) (l : Bs), n ≤ l.length → validM n l = validM 0 (l.drop n)
 | 0, l, _ => by simp
 | n + 1, [], h => by simp at h
 | n + 1, b :: r, h => by
  simp only [validM, List.drop_succ_cons]
  exact validM_drop n r (by simpa using h)
theorem validN_cons (b : UInt8) (r : Bs) : validN (b :: r) = if charN (b :: r) = 0 ∨ b.toNat = 0 then false else validN ((b :: r).drop (charN (b :: r))) := by
 have hle := charN_le (b :: r)
 simp only [validN]
 conv => lhs; unfold validM
 split
 · rfl
 · rename_i h
   rw [validM_drop _ _ (by simp at hle; omega)]
   obtain ⟨n, hn⟩ : ∃ n, charN (b :: r) = n + 1 := ⟨charN (b :: r) - 1, by omega⟩
   rw [hn]; simp
end Lx
section
namespace Px
open Lx (Bs Tok)
structure Nd where
 kind : Int
 text : Bs
 num : Int
 kids : Int
abbrev Out (α : Type) := Option (Except (Nat × Nat) (α × List Tok))
def obind {α β : Type} (x : Out α) (f : α → List Tok → Out β) : Out β :=
 match x with
 | none => none
 | some (.error e) => some (.error e)
 | some (.ok (a, ts)) => f a ts
def plc (sz : Nat) : List Tok → Nat
 | [] => sz
 | t :: _ => t.pos
def sees (s : Bs) : List Tok → Bool
 | [] => false
 | t :: _ => (decide (t.kind = 50) || decide (t.kind = 51)) && t.text == s
def must (sz : Nat) (s : Bs) (ts : List Tok) : Out Unit :=
 if sees s ts = true then some (.ok ((), ts.tail)) else some (.error (plc sz ts, 4))
def name (sz : Nat) : List Tok → Out Bs
 | [] => some (.error (sz, 4))
 | t :: r => if t.kind ≠ 18 then some (.error (t.pos, 4)) else if 30 < t.text.length then some (.error (t.pos, 5)) else some (.ok (t.text, r))
def kOR : Bs := [79, 82]
def kAND : Bs := [65, 78, 68]
def kNOT : Bs := [78, 79, 84]
def kIS : Bs := [73, 83]
def kNULL : Bs := [78, 85, 76, 76]
def kTRUE : Bs := [84, 82, 85, 69]
def kFALSE : Bs := [70, 65, 76, 83, 69]
def kTABLE : Bs := [84, 65, 66, 76, 69]
def kINTEGER : Bs := [73, 78, 84, 69, 71, 69, 82]
def kTEXT : Bs := [84, 69, 88, 84]
def kBOOLEAN : Bs := [66, 79, 79, 76, 69, 65, 78]
def kINTO : Bs := [73, 78, 84, 79]
def kVALUES : Bs := [86, 65, 76, 85, 69, 83]
def kSET : Bs := [83, 69, 84]
def kWHERE : Bs := [87, 72, 69, 82, 69]
def kFROM : Bs := [70, 82, 79, 77]
def kORDER : Bs := [79, 82, 68, 69, 82]
def kBY : Bs := [66, 89]
def kASC : Bs := [65, 83, 67]
def kDESC : Bs := [68, 69, 83, 67]
def kLIMIT : Bs := [76, 73, 77, 73, 84]
def kCREATE : Bs := [67, 82, 69, 65, 84, 69]
def kDROP : Bs := [68, 82, 79, 80]
def kINSERT : Bs := [73, 78, 83, 69, 82, 84]
def kDELETE : Bs := [68, 69, 76, 69, 84, 69]
def kUPDATE : Bs := [85, 80, 68, 65, 84, 69]
def kSELECT : Bs := [83, 69, 76, 69, 67, 84]
def gOpen : Bs := [40]
def gShut : Bs := [41]
def gComma : Bs := [44]
def gMinus : Bs := [45]
def gStar : Bs := [42]
def gEq : Bs := [61]
def opTab : List (Nat × Bs × Nat) := [(1, kOR, 23), (2, kAND, 24), (4, [61], 25), (4, [60, 62], 26), (4, [60], 27), (4, [60, 61], 28), (4, [62], 29), (4, [62, 61], 30), (5, [124, 124], 31), (6, [43], 32), (6, [45], 33), (7, [42], 34), (7, [47], 35), (7, [37], 36)]
def opIn : List (Nat × Bs × Nat) → Nat → Bs → Nat
 | [], _, _ => 0
 | x :: r, l, s => if x.1 = l ∧ x.2.1 = s then x.2.2 else opIn r l s
def oper (l : Nat) : List Tok → Nat
 | [] => 0
 | t :: _ => if t.kind = 50 ∨ t.kind = 51 then opIn opTab l t.text else 0
def over1 (k : Int) (a : List Nd) : List Nd := ⟨k, [], 0, 1⟩ :: a
def over2 (k : Int) (a b : List Nd) : List Nd := ⟨k, [], 0, 2⟩ :: (a ++ b)
def leaf (k : Int) (t : Bs) (n : Int) : List Nd := [⟨k, t, n, 0⟩]
def dval (s : Bs) : Nat := s.foldl (fun n c => 10 * n + (c.toNat - 48)) 0
def bot : Int := -9223372036854775808
def negate (at_ : Nat) (a : List Nd) (r : List Tok) : Out (List Nd) :=
 match a with
 | [] => some (.ok (over1 19 a, r))
 | x :: _ => if x.kind ≠ 16 then some (.ok (over1 19 a, r)) else if x.num = bot then some (.error (at_, 3)) else some (.ok (leaf 16 [] (-x.num), r))
def atom (sz : Nat) : List Tok → Out (List Nd)
 | [] => some (.error (sz, 4))
 | t :: r =>
  if t.kind = 16 then if t.text = Lx.top then some (.error (t.pos, 3)) else some (.ok (leaf 16 [] (dval t.text), r))
  else if t.kind = 17 then some (.ok (leaf 17 t.text 0, r))
  else if t.kind = 18 then if 30 < t.text.length then some (.error (t.pos, 5)) else some (.ok (leaf 18 t.text 0, r))
  else if t.kind = 50 then
    if t.text = kNULL then some (.ok (leaf 14 [] 0, r)) else if t.text = kTRUE then some (.ok (leaf 15 [] 1, r)) else if t.text = kFALSE then some (.ok (leaf 15 [] 0, r))
    else some (.error (t.pos, 4))
  else some (.error (t.pos, 4))
def isTop : List Tok → Bool
 | [] => false
 | t :: _ => decide (t.kind = 16) && t.text == Lx.top
def tail4 (sz : Nat) (rec5 : List Tok → Out (List Nd)) (a : List Nd) (r : List Tok) : Out (List Nd) :=
 if sees kIS r = true then
   if sees kNOT r.tail = true then obind (must sz kNULL r.tail.tail) fun _ q => some (.ok (over1 22 a, q))
   else obind (must sz kNULL r.tail) fun _ q => some (.ok (over1 21 a, q))
 else if oper 4 r = 0 then some (.ok (a, r))
 else obind (rec5 r.tail) fun b q => some (.ok (over2 (oper 4 r) a b, q))
def ex (sz : Nat) : Nat → Nat → List Nd → List Tok → Out (List Nd)
 | 0, _, _, _ => none
 | n + 1, m, a, ts =>
  if 10 ≤ m then
    if oper (m - 10) ts = 0 then some (.ok (a, ts))
    else obind (ex sz n (m - 9) [] ts.tail) fun b q => ex sz n m (over2 (oper (m - 10) ts) a b) q
  else if m = 3 then
    if sees kNOT ts = true then obind (ex sz n 3 [] ts.tail) fun b q => some (.ok (over1 20 b, q))
    else ex sz n 4 [] ts
  else if m = 4 then obind (ex sz n 5 [] ts) fun b q => tail4 sz (ex sz n 5 []) b q
  else if m = 8 then
    if sees gMinus ts = true then
      if isTop ts.tail = true then some (.ok (leaf 16 [] bot, ts.tail.tail))
      else obind (ex sz n 8 [] ts.tail) fun b q => negate (plc sz ts) b q
    else ex sz n 9 [] ts
  else if m = 9 then
    if sees gOpen ts = true then obind (ex sz n 1 [] ts.tail) fun b q => obind (must sz gShut q) fun _ q => some (.ok (b, q))
    else atom sz ts
  else obind (ex sz n (m + 1) [] ts) fun b q => ex sz n (m + 10) b q
def sep {α : Type} (item : Nat → α → List Tok → Out α) : Nat → α → List Tok → Out α
 | 0, _, _ => none
 | n + 1, a, ts => obind (item n a ts) fun b q => if sees gComma q = true then sep item n b q.tail else some (.ok (b, q))
def kindP (sz : Nat) (ts : List Tok) : Out Int :=
 if sees kINTEGER ts = true then if sees kTEXT ts.tail = true then some (.error (plc sz ts.tail, 4)) else some (.ok (1, ts.tail))
 else if sees kTEXT ts = true then some (.ok (2, ts.tail))
 else obind (must sz kBOOLEAN ts) fun _ q => some (.ok (3, q))
def col (sz : Nat) (l : List Nd) (ts : List Tok) : Out (List Nd) :=
 obind (name sz ts) fun nm q =>
 if l.length = 6 then some (.error (plc sz ts, 4))
 else obind (kindP sz q) fun k q =>
 if sees kNOT q = true then obind (must sz kNULL q.tail) fun _ q => some (.ok (l ++ [⟨2, nm, k + 4, 0⟩], q))
 else some (.ok (l ++ [⟨2, nm, k, 0⟩], q))
def create (sz n : Nat) (ts : List Tok) : Out (List Nd) :=
 obind (must sz kTABLE ts) fun _ q => obind (name sz q) fun t q => obind (must sz gOpen q) fun _ q =>
 obind (sep (fun _ l q => col sz l q) n [] q) fun l q => obind (must sz gShut q) fun _ q =>
 some (.ok (⟨1, t, 0, l.length⟩ :: l, q))
def item (sz n : Nat) (x : List Nd × Nat) (ts : List Tok) : Out (List Nd × Nat) :=
 obind (ex sz n 1 [] ts) fun e q => some (.ok ((x.1 ++ e, x.2 + 1), q))
def row (sz n : Nat) (x : List Nd × Nat) (ts : List Tok) : Out (List Nd × Nat) :=
 obind (must sz gOpen ts) fun _ q => obind (sep (item sz) n ([], 0) q) fun y q => obind (must sz gShut q) fun _ q =>
 some (.ok ((x.1 ++ (⟨5, [], 0, y.2⟩ :: y.1), x.2 + 1), q))
def insert (sz n : Nat) (ts : List Tok) : Out (List Nd) :=
 obind (must sz kINTO ts) fun _ q => obind (name sz q) fun t q => obind (must sz kVALUES q) fun _ q =>
 obind (sep (row sz) n ([], 0) q) fun x q => some (.ok (⟨4, t, 0, x.2⟩ :: x.1, q))
def where_ (sz n : Nat) (ts : List Tok) : Out (List Nd × Nat) :=
 if sees kWHERE ts = true then obind (ex sz n 1 [] ts.tail) fun e q => some (.ok ((over1 11 e, 1), q)) else some (.ok (([], 0), ts))
def setOne (sz n : Nat) (x : List Nd × Nat) (ts : List Tok) : Out (List Nd × Nat) :=
 obind (name sz ts) fun nm q => obind (must sz gEq q) fun _ q => obind (ex sz n 1 [] q) fun e q =>
 some (.ok ((x.1 ++ (⟨8, nm, 0, 1⟩ :: e), x.2 + 1), q))
def update (sz n : Nat) (ts : List Tok) : Out (List Nd) :=
 obind (name sz ts) fun t q => obind (must sz kSET q) fun _ q => obind (sep (setOne sz) n ([], 0) q) fun x q =>
 obind (where_ sz n q) fun y q => some (.ok (⟨7, t, 0, x.2 + y.2⟩ :: (x.1 ++ y.1), q))
def pick (sz n : Nat) (x : List Nd × Nat) (ts : List Tok) : Out (List Nd × Nat) :=
 if sees gStar ts = true then some (.ok ((x.1 ++ [⟨10, [], 0, 0⟩], x.2 + 1), ts.tail)) else item sz n x ts
def order (sz n : Nat) (x : List Nd × Nat) (ts : List Tok) : Out (List Nd × Nat) :=
 obind (ex sz n 1 [] ts) fun e q =>
 if sees kASC q = true then some (.ok ((x.1 ++ (⟨12, [], 0, 1⟩ :: e), x.2 + 1), q.tail))
 else if sees kDESC q = true then some (.ok ((x.1 ++ (⟨12, [], 1, 1⟩ :: e), x.2 + 1), q.tail))
 else some (.ok ((x.1 ++ (⟨12, [], 0, 1⟩ :: e), x.2 + 1), q))
def limit (sz : Nat) : List Tok → Out Nat
 | [] => some (.error (sz, 4))
 | t :: r => if t.kind ≠ 16 then some (.error (t.pos, 4)) else if t.text = Lx.top ∨ 1000000000 < dval t.text then some (.error (t.pos, 3)) else some (.ok (dval t.text, r))
def orders (sz n : Nat) (x : List Nd × Nat) (ts : List Tok) : Out (List Nd × Nat) :=
 if sees kORDER ts = true then obind (must sz kBY ts.tail) fun _ q => sep (order sz) n x q else some (.ok (x, ts))
def limits (sz : Nat) (x : List Nd × Nat) (ts : List Tok) : Out (List Nd × Nat) :=
 if sees kLIMIT ts = true then obind (limit sz ts.tail) fun m q => some (.ok ((x.1 ++ [⟨13, [], m, 0⟩], x.2 + 1), q)) else some (.ok (x, ts))
def choose (sz n : Nat) (ts : List Tok) : Out (List Nd) :=
 obind (sep (pick sz) n ([], 0) ts) fun x q => obind (must sz kFROM q) fun _ q => obind (name sz q) fun t q =>
 obind (where_ sz n q) fun y q => obind (orders sz n (x.1 ++ y.1, x.2 + y.2) q) fun z q => obind (limits sz z q) fun u q =>
 some (.ok (⟨9, t, 0, u.2⟩ :: u.1, q))
def drop (sz : Nat) (ts : List Tok) : Out (List Nd) :=
 obind (must sz kTABLE ts) fun _ q => obind (name sz q) fun t q => some (.ok ([⟨3, t, 0, 0⟩], q))
def delete (sz n : Nat) (ts : List Tok) : Out (List Nd) :=
 obind (must sz kFROM ts) fun _ q => obind (name sz q) fun t q => obind (where_ sz n q) fun y q => some (.ok (⟨6, t, 0, y.2⟩ :: y.1, q))
def stmt (sz n : Nat) : List Tok → Out (List Nd)
 | [] => some (.error (sz, 4))
 | t :: r =>
  if t.kind ≠ 50 then some (.error (t.pos, 4))
  else if t.text = kCREATE then create sz n r
  else if t.text = kDROP then drop sz r
  else if t.text = kINSERT then insert sz n r
  else if t.text = kDELETE then delete sz n r
  else if t.text = kUPDATE then update sz n r
  else if t.text = kSELECT then choose sz n r
  else some (.error (t.pos, 4))
def whole (sz n : Nat) (ts : List Tok) : Out (List Nd) :=
 obind (stmt sz n ts) fun a q => if q = [] then some (.ok (a, [])) else some (.error (plc sz q, 4))
def Ex (sz m : Nat) (a : List Nd) (ts : List Tok) (r : Except (Nat × Nat) (List Nd × List Tok)) : Prop := ∃ n, ex sz n m a ts = some r
end Px
end
section
namespace Px
open Lx (Bs Tok)
abbrev Res (α : Type) := Except (Nat × Nat) (α × List Tok)
def Then {α β : Type} (r : Res α) (f : α → List Tok → Res β → Prop) (r' : Res β) : Prop :=
 match r with
 | .error e => r' = .error e
 | .ok (b, q) => f b q r'
end Px
end
section
namespace Px
open Lx (Bs Tok)
def isExpr (k : Int) : Bool := decide (14 ≤ k ∧ k ≤ 36)
def isName (s : Bs) : Bool := Lx.validN s && !s.isEmpty && decide (s.length ≤ 30)
def bareN (x : Nd) (k : Int) : Bool := x.text.isEmpty && decide (x.num = 0) && decide (x.kids = k)
def nodeOk (x : Nd) (r : List Nd) : Bool :=
 if x.kind = 14 then bareN x 0
 else if x.kind = 15 then x.text.isEmpty && (decide (x.num = 0) || decide (x.num = 1)) && decide (x.kids = 0)
 else if x.kind = 16 then x.text.isEmpty && decide (x.kids = 0)
 else if x.kind = 17 then Lx.validN x.text && decide (x.num = 0) && decide (x.kids = 0)
 else if x.kind = 18 then isName x.text && decide (x.num = 0) && decide (x.kids = 0)
 else if x.kind = 19 then bareN x 1 && (match r with | [] => true | y :: _ => decide (y.kind ≠ 16))
 else if x.kind = 20 ∨ x.kind = 21 ∨ x.kind = 22 then bareN x 1
 else decide (23 ≤ x.kind ∧ x.kind ≤ 36) && bareN x 2
def wex : Nat → List Nd → Option (List Nd)
 | 0, _ => none
 | _ + 1, [] => none
 | d + 1, x :: r => if nodeOk x r = true then (if x.kids = 0 then some r else if x.kids = 1 then wex d r else (wex d r).bind (wex d)) else none
def wexs : Nat → List Nd → Option (List Nd)
 | 0, l => some l
 | k + 1, l => (wex 40 l).bind (wexs k)
def wpart : List Nd → Option (List Nd)
 | [] => none
 | x :: r =>
  if x.kind = 2 then if isName x.text = true ∧ x.kids = 0 ∧ 1 ≤ x.num ∧ x.num ≤ 7 ∧ x.num ≠ 4 then some r else none
  else if x.kind = 5 then if x.text = [] ∧ x.num = 0 ∧ 1 ≤ x.kids then wexs x.kids.toNat r else none
  else if x.kind = 8 then if isName x.text = true ∧ x.num = 0 ∧ x.kids = 1 then wex 40 r else none
  else if x.kind = 10 then if bareN x 0 = true then some r else none
  else if x.kind = 11 then if bareN x 1 = true then wex 40 r else none
  else if x.kind = 12 then if x.text = [] ∧ 0 ≤ x.num ∧ x.num ≤ 1 ∧ x.kids = 1 then wex 40 r else none
  else if x.kind = 13 then if x.text = [] ∧ 0 ≤ x.num ∧ x.num ≤ 1000000000 ∧ x.kids = 0 then some r else none
  else wex 40 (x :: r)
def rank (k : Int) : Nat := if k = 11 then 2 else if k = 12 then 3 else if k = 13 then 4 else 1
def fits (top k : Int) : Bool :=
 if top = 1 then decide (k = 2) else if top = 4 then decide (k = 5) else if top = 6 then decide (k = 11)
 else if top = 7 then decide (k = 8) || decide (k = 11)
 else if top = 9 then isExpr k || decide (k = 10) || decide (k = 11) || decide (k = 12) || decide (k = 13)
 else false
def wparts (top : Int) : Nat → Nat → Nat → List Nd → Option Nat
 | 0, _, things, l => if l = [] then some things else none
 | _ + 1, _, _, [] => none
 | k + 1, last, things, x :: r =>
  if fits top x.kind = false ∨ rank x.kind < last ∨ (rank x.kind = last ∧ (rank x.kind = 2 ∨ rank x.kind = 4)) then none
  else (wpart (x :: r)).bind (wparts top k (rank x.kind) (if rank x.kind = 1 then things + 1 else things))
def well : List Nd → Bool
 | [] => false
 | x :: r =>
  if isName x.text = false ∨ x.num ≠ 0 ∨ x.kids < 0 ∨ (r.length : Int) + 1 < x.kids then false
  else match wparts x.kind x.kids.toNat 1 0 r with
   | none => false
   | some things =>
    if x.kind = 1 then decide (1 ≤ things ∧ things ≤ 6)
    else if x.kind = 3 then decide (x.kids = 0)
    else if x.kind = 4 ∨ x.kind = 7 ∨ x.kind = 9 then decide (1 ≤ things)
    else decide (x.kind = 6)
def decF : Nat → Nat → Bs
 | 0, _ => []
 | f + 1, n => if n < 10 then [(48 + n).toUInt8] else decF f (n / 10) ++ [(48 + n % 10).toUInt8]
def dec (z : Int) : Bs := if z < 0 then 45 :: decF 20 z.natAbs else decF 20 z.natAbs
def dbl (m : UInt8) (s : Bs) : Bs := m :: (s.flatMap fun b => if b = m then [b, b] else [b]) ++ [m]
def lowWord (s : Bs) : Bool := (match s with | [] => false | b :: _ => Lx.isLet b) && decide (Lx.cnt Lx.isWd s = s.length) && !Lx.hasB Lx.keys (s.map Lx.upB) && s.map Lx.lowB == s
def nameT (s : Bs) : Bs := if lowWord s = true then s else dbl 34 s
def atomT (x : Nd) : Bs :=
 if x.kind = 18 then nameT x.text else if x.kind = 14 then kNULL else if x.kind = 16 then dec x.num else if x.kind = 17 then dbl 39 x.text else if x.num = 1 then kTRUE else kFALSE
def brk (s : Bs) (lvl least : Nat) : Bs := if lvl < least then 40 :: (s ++ [41]) else s
def sgnT (k : Int) : Bs × Nat :=
 if k = 23 then (kOR, 1) else if k = 24 then (kAND, 2) else if k = 25 then ([61], 4) else if k = 26 then ([60, 62], 4) else if k = 27 then ([60], 4) else if k = 28 then ([60, 61], 4)
 else if k = 29 then ([62], 4) else if k = 30 then ([62, 61], 4) else if k = 31 then ([124, 124], 5) else if k = 32 then ([43], 6) else if k = 33 then ([45], 6) else if k = 34 then ([42], 7)
 else if k = 35 then ([47], 7) else ([37], 7)
def minusT (s : Bs) : Bs := match s with | 45 :: _ => 45 :: 32 :: s | _ => 45 :: s
def pre1 (k : Int) (a : Bs) (lvl : Nat) : Bs × Nat :=
 if k = 20 then (kNOT ++ [32] ++ brk a lvl 3, 3)
 else if k = 19 then (minusT (brk a lvl 8), 8)
 else if k = 21 then (brk a lvl 5 ++ [32, 73, 83, 32, 78, 85, 76, 76], 4)
 else (brk a lvl 5 ++ [32, 73, 83, 32, 78, 79, 84, 32, 78, 85, 76, 76], 4)
def pre2 (k : Int) (a : Bs) (la : Nat) (b : Bs) (lb : Nat) : Bs × Nat :=
 (brk a la (if (sgnT k).2 = 4 then 5 else (sgnT k).2) ++ [32] ++ (sgnT k).1 ++ [32] ++ brk b lb ((sgnT k).2 + 1), (sgnT k).2)
def ext : Nat → List Nd → (Bs × Nat) × List Nd
 | 0, l => (([], 0), l)
 | _ + 1, [] => (([], 0), [])
 | d + 1, x :: r =>
  if x.kind ≤ 18 then ((atomT x, if x.kind = 16 ∧ x.num < 0 then 8 else 9), r)
  else if x.kind ≤ 22 then (pre1 x.kind (ext d r).1.1 (ext d r).1.2, (ext d r).2)
  else (pre2 x.kind (ext d r).1.1 (ext d r).1.2 (ext d (ext d r).2).1.1 (ext d (ext d r).2).1.2, (ext d (ext d r).2).2)
def exts : Nat → List Nd → Bs × List Nd
 | 0, l => ([], l)
 | 1, l => ((ext 40 l).1.1, (ext 40 l).2)
 | k + 2, l => ((ext 40 l).1.1 ++ [44, 32] ++ (exts (k + 1) (ext 40 l).2).1, (exts (k + 1) (ext 40 l).2).2)
def partT : List Nd → Bs × List Nd
 | [] => ([], [])
 | x :: r =>
  if x.kind = 2 then (nameT x.text ++ [32] ++ (if x.num % 4 = 1 then kINTEGER else if x.num % 4 = 2 then kTEXT else kBOOLEAN) ++ (if 4 < x.num then [32] ++ kNOT ++ [32] ++ kNULL else []), r)
  else if x.kind = 5 then (40 :: ((exts x.kids.toNat r).1 ++ [41]), (exts x.kids.toNat r).2)
  else if x.kind = 8 then (nameT x.text ++ [32, 61, 32] ++ (ext 40 r).1.1, (ext 40 r).2)
  else if x.kind = 10 then ([42], r)
  else if x.kind = 11 then ([32] ++ kWHERE ++ [32] ++ (ext 40 r).1.1, (ext 40 r).2)
  else if x.kind = 12 then ((ext 40 r).1.1 ++ (if x.num = 1 then [32] ++ kDESC else []), (ext 40 r).2)
  else if x.kind = 13 then ([32] ++ kLIMIT ++ [32] ++ dec x.num, r)
  else ((ext 40 (x :: r)).1.1, (ext 40 (x :: r)).2)
structure Gath where
 things : Bs
 where_ : Bs
 orders : Bs
 limit : Bs
def gath1 (g : Gath) (k : Int) (s : Bs) : Gath :=
 if rank k = 1 then { g with things := (if g.things = [] then [] else g.things ++ [44, 32]) ++ s }
 else if rank k = 2 then { g with where_ := s }
 else if rank k = 3 then { g with orders := (if g.orders = [] then [32] ++ kORDER ++ [32] ++ kBY ++ [32] else g.orders ++ [44, 32]) ++ s }
 else { g with limit := s }
def gath : Nat → Gath → List Nd → Gath
 | 0, g, _ => g
 | _ + 1, g, [] => g
 | k + 1, g, x :: r => gath k (gath1 g x.kind (partT (x :: r)).1) (partT (x :: r)).2
def text : List Nd → Bs
 | [] => []
 | x :: r =>
  let g := gath x.kids.toNat ⟨[], [], [], []⟩ r
  if x.kind = 1 then kCREATE ++ [32] ++ kTABLE ++ [32] ++ nameT x.text ++ [32, 40] ++ g.things ++ [41]
  else if x.kind = 3 then kDROP ++ [32] ++ kTABLE ++ [32] ++ nameT x.text
  else if x.kind = 4 then kINSERT ++ [32] ++ kINTO ++ [32] ++ nameT x.text ++ [32] ++ kVALUES ++ [32] ++ g.things
  else if x.kind = 6 then kDELETE ++ [32] ++ kFROM ++ [32] ++ nameT x.text ++ g.where_
  else if x.kind = 7 then kUPDATE ++ [32] ++ nameT x.text ++ [32] ++ kSET ++ [32] ++ g.things ++ g.where_
  else kSELECT ++ [32] ++ g.things ++ [32] ++ kFROM ++ [32] ++ nameT x.text ++ g.where_ ++ g.orders ++ g.limit
def print (l : List Nd) : Bs × Nat := if well l = false then ([], 7) else if 2000 < (text l).length then ([], 1) else (text l, 0)
end Px
end
section
namespace Lx
structure TokOk (t : Tok) : Prop where
 kind : t.kind = 16 ∨ t.kind = 17 ∨ t.kind = 18 ∨ t.kind = 50 ∨ t.kind = 51
 digs : t.kind = 16 → t.text ≠ [] ∧ (∀ b ∈ t.text, isDig b = true) ∧ overTop t.text = false
theorem cnt_all (p : UInt8 → Bool) : ∀ l : Bs, ∀ b ∈ l.take (cnt p l), p b = true
 | [], b, h => by simp at h
 | x :: r, b, h => by
  unfold cnt at h
  split at h
  · rename_i hx
    rw [List.take_succ_cons] at h
    rcases List.mem_cons.1 h with rfl | h
    · exact hx
    · exact cnt_all p r b h
  · simp at h
end Lx
namespace Px
open Lx (Bs Tok)
end Px
end
section
namespace Px
open Lx (Bs Tok)
end Px
end
theorem hd {p : Prop} (h : p) : Hid p := h
theorem ret_bool {a b : Bool} (h : a = b) : Ending.returned (.bool a) = .returned (.bool b) := by rw [h]
theorem ret_int {k : IntKind} {a b : Int} (h : a = b) : Ending.returned (.int k a) = .returned (.int k b) := by rw [h]
theorem drop_at (s : ByteArray) (k : Nat) (h : k < s.size) : s.data.toList.drop k = s[k] :: s.data.toList.drop (k + 1) := by
 rw [List.drop_eq_getElem_cons (by simpa using h)]; rfl
theorem cnt_at (p : UInt8 → Bool) (s : ByteArray) (k : Nat) (h : k < s.size) : Lx.cnt p (s.data.toList.drop k) = if p s[k] = true then Lx.cnt p (s.data.toList.drop (k + 1)) + 1 else 0 := by
 rw [drop_at s k h]; rfl
theorem cnt_end (p : UInt8 → Bool) (s : ByteArray) (k : Nat) (h : s.size ≤ k) : Lx.cnt p (s.data.toList.drop k) = 0 := by
 rw [List.drop_eq_nil_of_le (by simpa using h)]; rfl
theorem folB_drop (l : Lx.Bs) (a i lo hi : Nat) : Lx.folB (l.drop a) i lo hi = Lx.folB l (a + i) lo hi := by
 unfold Lx.folB; rw [List.getElem?_drop]
def charB (b : Nat) (two near three four : Bool) : Nat :=
 if b < 128 then 1
 else if (194 ≤ b ∧ b ≤ 223) ∧ two = true then 2
 else if (224 ≤ b ∧ b ≤ 239) ∧ near = true ∧ three = true then 3
 else if (240 ≤ b ∧ b ≤ 244) ∧ near = true ∧ three = true ∧ four = true then 4
 else 0
theorem charN_at (s : ByteArray) (a : Nat) (h : a < s.size) : Lx.charN (s.data.toList.drop a) =
   charB s[a].toNat (Lx.folB s.data.toList (a + 1) 128 191) (Lx.folB s.data.toList (a + 1) (Lx.loOf s[a].toNat) (Lx.hiOf s[a].toNat)) (Lx.folB s.data.toList (a + 2) 128 191) (Lx.folB s.data.toList (a + 3) 128 191) := by
 have e := drop_at s a h
 have f : ∀ i lo hi, Lx.folB (s[a] :: s.data.toList.drop (a + 1)) i lo hi = Lx.folB s.data.toList (a + i) lo hi := by
  intro i lo hi; rw [← e, folB_drop]
 rw [e]
 simp only [Lx.charN, charB, f]
theorem beq_yes {c n : Nat} (h : ((c : Int) == (n : Int)) = true) : c = n := by simp at h; omega
theorem beq_no {c n : Nat} (h : ((c : Int) == (n : Int)) = false) : ¬ c = n := by simp at h; omega
theorem valid_at (s : ByteArray) (k : Nat) (h : k < s.size) : Lx.validN (s.data.toList.drop k) =
   if Lx.charN (s.data.toList.drop k) = 0 ∨ s[k].toNat = 0 then false else Lx.validN (s.data.toList.drop (k + Lx.charN (s.data.toList.drop k))) := by
 have e := drop_at s k h
 rw [e, Lx.validN_cons, ← e, List.drop_drop]
theorem valid_end (s : ByteArray) (k : Nat) (h : s.size ≤ k) : Lx.validN (s.data.toList.drop k) = true := by
 rw [List.drop_eq_nil_of_le (by simpa using h)]; rfl
theorem or_zero {n m : Nat} (h : ((n : Int) == 0) = true ∨ ((m : Int) == 0) = true) : n = 0 ∨ m = 0 := by
 simp only [beq_iff_eq] at h; omega
theorem and_zero {n m : Nat} (h : ((n : Int) == 0) = false ∧ ((m : Int) == 0) = false) : ¬ (n = 0 ∨ m = 0) := by
 simp only [beq_eq_false_iff_ne, ne_eq] at h; omega
theorem contains_at (ss : List Lx.Bs) (x : Lx.Bs) (k : Nat) (h : k < ss.length) : Lx.hasB (ss.drop k) x = (ss.getD k [] == x || Lx.hasB (ss.drop (k + 1)) x) := by
 rw [List.drop_eq_getElem_cons h, List.getD_eq_getElem?_getD, List.getElem?_eq_getElem h]
 rfl
def strRow (ss : List Lx.Bs) : Array Value := (ss.map fun x => Value.string ⟨x.toArray⟩).toArray
theorem strRow_cell (w : World) (ss : List Lx.Bs) (T : TypeId) : ∀ i, i < ss.length → ∃ t : ByteArray, (w.alloc (.cells (strRow ss) T)).cell? ⟨w.heap.size, i, none⟩ = some (.string t) ∧ t.data.toList = ss.getD i [] := by
 intro i hi
 refine ⟨⟨(ss.getD i []).toArray⟩, ?_, by simp⟩
 rw [World.cell?_alloc_at _ _ _ _ rfl]
 simp [strRow, List.getElem?_eq_getElem hi]
def Cased (f : UInt8 → UInt8) (s : ByteArray) (g k : Nat) (wr : World) : Prop :=
 ∀ j, (h : j < s.size) → wr.cell? ⟨g, j, none⟩ = some (.int .u8 ((if j < k then f s[j] else s[j]).toNat : Int)) ∧ wr.frozen? ⟨g, j, none⟩ = false
theorem Cased.keep {f : UInt8 → UInt8} {s : ByteArray} {g k : Nat} {wr : World} (h : Cased f s g k wr) (hk : k < s.size) (he : f s[k] = s[k]) : Cased f s g (k + 1) wr := by
 intro j hj
 refine ⟨?_, (h j hj).2⟩
 rw [(h j hj).1]
 by_cases e : j = k
 · subst e; simp [he]
 · by_cases q : j < k
   · simp [q, show j < k + 1 from by omega]
   · simp [q, show ¬ j < k + 1 from by omega]
theorem Cased.set {f : UInt8 → UInt8} {s : ByteArray} {g k : Nat} {wr : World} (h : Cased f s g k wr) (hk : k < s.size) (x : Int) (he : x = ((f s[k]).toNat : Int)) : Cased f s g (k + 1) (wr.setCell ⟨g, k, none⟩ (.int .u8 x)) := by
 intro j hj
 rw [World.frozen?_setCell]
 refine ⟨?_, (h j hj).2⟩
 by_cases e : j = k
 · subst e
   rw [World.cell?_setCell_same _ _ _ (h j hj).1, he]
   simp
 · rw [World.cell?_setCell_other _ _ _ _ (by simp [Ne.symm e]), (h j hj).1]
   by_cases q : j < k
   · simp [q, show j < k + 1 from by omega]
   · simp [q, show ¬ j < k + 1 from by omega]
theorem Cased.start (f : UInt8 → UInt8) (s : ByteArray) (w : World) (cap : Nat) :
   Cased f s w.heap.size 0 (w.drew.alloc (.cells (bytesRow s cap) 5 ((bytesRow s cap).size, (bytesRow s cap).size + 1))) := by
 intro j hj
 have hsz : s.size ≤ (bytesRow s cap).size := by simp [bytesRow]
 have e0 : w.heap.size = w.drew.heap.size := rfl
 constructor
 · rw [e0, World.cell?_alloc_mark]
   unfold bytesRow
   rw [Array.getElem?_append_left (by simpa using hj)]
   simp only [Array.getElem?_map, Nat.not_lt_zero, if_false]
   rw [Array.getElem?_eq_getElem hj]
   rfl
 · have hb : (w.drew.alloc (.cells (bytesRow s cap) 5 ((bytesRow s cap).size, (bytesRow s cap).size + 1))).heap[w.heap.size]? = some (.cells (bytesRow s cap) 5 ((bytesRow s cap).size, (bytesRow s cap).size + 1)) := by
    show (w.heap.push _)[w.heap.size]? = _
    simp
   simp only [World.frozen?, hb]
   simp
   omega
theorem Cased.done {f : UInt8 → UInt8} {s : ByteArray} {g : Nat} {wr : World} (h : Cased f s g s.size wr) :
   ∀ j (hj : j < (s.data.toList.map f).length), wr.cell? ((⟨g, 0, none⟩ : Addr).add j) = some (.int .u8 (((s.data.toList.map f)[j]).toNat : Int)) := by
 intro j hj
 have hj' : j < s.size := by simpa using hj
 rw [Addr.add_lit, Nat.zero_add, (h j hj').1]
 simp [hj']
 rfl
theorem Below.cased {w : World} (s : ByteArray) (cap : Nat) : Below w.heap.size w (w.drew.alloc (.cells (bytesRow s cap) 5 ((bytesRow s cap).size, (bytesRow s cap).size + 1))) :=
 (Below.refl _ _).drew.alloc (Nat.le_refl _) _
theorem upper_num {b : UInt8} (h1 : (97 : Int) ≤ (b.toNat : Int)) (h2 : (b.toNat : Int) ≤ 122) : (b.toNat : Int) - 32 = ((Lx.upB b).toNat : Int) := by
 unfold Lx.upB
 rw [if_pos (by omega), UInt8.toNat_sub]
 have : (32 : UInt8).toNat = 32 := rfl
 omega
theorem upper_same {b : UInt8} (h : ¬ ((97 : Int) ≤ (b.toNat : Int) ∧ (b.toNat : Int) ≤ 122)) : Lx.upB b = b := by
 unfold Lx.upB
 rw [if_neg (by omega)]
theorem lower_num {b : UInt8} (h1 : (65 : Int) ≤ (b.toNat : Int)) (h2 : (b.toNat : Int) ≤ 90) : (b.toNat : Int) + 32 = ((Lx.lowB b).toNat : Int) := by
 unfold Lx.lowB
 rw [if_pos (by omega), UInt8.toNat_add]
 have : (32 : UInt8).toNat = 32 := rfl
 omega
theorem lower_same {b : UInt8} (h : ¬ ((65 : Int) ≤ (b.toNat : Int) ∧ (b.toNat : Int) ≤ 90)) : Lx.lowB b = b := by
 unfold Lx.lowB
 rw [if_neg (by omega)]
def BetwAt (m : UInt8) (l : Lx.Bs) (k : Nat) (acc : Lx.Bs) : Prop :=
 Lx.betw m l = (Lx.betw m (l.drop k)).map (fun x => (acc ++ x.1, x.2 + k)) ∧ acc.length ≤ k
def Blk (w : World) (b : Nat) (cs : Array Value) (t : TypeId) : Prop := w.heap[b]? = some (.cells cs t (0, 0))
theorem Blk.cell {w : World} {b : Nat} {cs : Array Value} {t : TypeId} (h : Blk w b cs t) (i : Nat) : w.cell? ⟨b, i, none⟩ = cs[i]? := cell_of_row w b i cs t (0, 0) h
theorem Blk.free {w : World} {b : Nat} {cs : Array Value} {t : TypeId} (h : Blk w b cs t) (i : Nat) : w.frozen? ⟨b, i, none⟩ = false := by
 unfold Blk at h
 simp [World.frozen?, h]
theorem Blk.lt {w : World} {b : Nat} {cs : Array Value} {t : TypeId} (h : Blk w b cs t) : b < w.heap.size := (Array.getElem?_eq_some_iff.1 h).1
theorem Blk.new (w : World) (cs : Array Value) (t : TypeId) : Blk (w.alloc (.cells cs t)) w.heap.size cs t := heap_alloc_new w _
theorem Blk.alloc {w : World} {b : Nat} {cs : Array Value} {t : TypeId} (h : Blk w b cs t) (o : Obj) : Blk (w.alloc o) b cs t := by
 unfold Blk at *
 show (w.heap.push o)[b]? = _
 rw [Array.getElem?_push_lt (Array.getElem?_eq_some_iff.1 h).1, ← Array.getElem?_eq_getElem]; exact h
theorem Blk.below {W w1 : World} {b B : Nat} {cs : Array Value} {t : TypeId} (h : Blk W b cs t) (hb : Below B W w1) (hlt : b < B) : Blk w1 b cs t := by
 unfold Blk at *
 rw [hb.block b hlt]; exact h
theorem Blk.drew {w : World} {b : Nat} {cs : Array Value} {t : TypeId} (h : Blk w b cs t) : Blk w.drew b cs t := h
theorem Blk.set {w : World} {b : Nat} {cs : Array Value} {t : TypeId} (h : Blk w b cs t) (i : Nat) (v : Value) : Blk (w.setCell ⟨b, i, none⟩ v) b (cs.setIfInBounds i v) t := by
 unfold Blk at *
 simp only [World.setCell, Array.getElem?_modify, if_true, h]
 rfl
theorem Blk.far {w : World} {b : Nat} {cs : Array Value} {t : TypeId} (h : Blk w b cs t) (p : Addr) (v : Value) (hp : p.block ≠ b) : Blk (w.setCell p v) b cs t := by
 unfold Blk at *
 rw [Below.heap_setCell _ _ _ _ (Ne.symm hp)]; exact h
def tokV (t : Lx.Tok) : List Value := [.int .i64 (t.kind : Int), .string ⟨t.text.toArray⟩, .int .i64 (t.pos : Int)]
def toksV : List Lx.Tok → List Value
 | [] => []
 | t :: ts => tokV t ++ toksV ts
theorem Below.grownBy {w w' : World} {row : Option Nat} (h : Below w.heap.size w w') : w.grownBy w' row := ⟨h.os, h.tape, h.output, h.size, fun k hk _ => h.block k hk⟩
theorem owns_below {w w1 : World} {base : Nat} {e : TypeId} {size : Nat} {v : Value} {n : Nat} {xs : List Value} (h : w.ownsRow base e size v n xs) (hb : Below w.heap.size w w1) : w1.ownsRow base e size v n xs :=
 h.kept (row := none) (Below.grownBy hb) (by cases v.ownBlock <;> simp)
def ndV (x : Px.Nd) : List Value := [.int .i64 x.kind, .string ⟨x.text.toArray⟩, .int .i64 x.num, .int .i64 x.kids]
def ndsV : List Px.Nd → List Value
 | [] => []
 | x :: r => ndV x ++ ndsV r
theorem ndsV_append : ∀ a b : List Px.Nd, ndsV (a ++ b) = ndsV a ++ ndsV b
 | [], b => rfl
 | x :: a, b => by simp [ndsV, ndsV_append a b]
theorem ndsV_one (x : Px.Nd) : ndsV [x] = ndV x := by simp [ndsV]
theorem ndsV_at : ∀ (l : List Px.Nd) (k : Nat) (h : k < l.length), (ndsV l)[k * 4]? = some (.int .i64 l[k].kind) ∧ (ndsV l)[k * 4 + 1]? = some (.string ⟨l[k].text.toArray⟩) ∧ (ndsV l)[k * 4 + 2]? = some (.int .i64 l[k].num) ∧ (ndsV l)[k * 4 + 3]? = some (.int .i64 l[k].kids)
 | x :: l, 0, _ => ⟨rfl, rfl, rfl, rfl⟩
 | x :: l, k + 1, h => by
  have ih := ndsV_at l k (by simpa using h)
  have e : ∀ j, (ndsV (x :: l))[j + 4]? = (ndsV l)[j]? := by
   intro j
   show (ndV x ++ ndsV l)[j + 4]? = _
   rw [List.getElem?_append_right (by simp [ndV])]
   simp [ndV]
  rw [show (k + 1) * 4 = k * 4 + 4 from by omega, show k * 4 + 4 + 1 = (k * 4 + 1) + 4 from by omega, show k * 4 + 4 + 2 = (k * 4 + 2) + 4 from by omega, show k * 4 + 4 + 3 = (k * 4 + 3) + 4 from by omega, e, e, e, e]
  simpa using ih
theorem Tryz.info43 : (Tryz.prog.info? 43).map (fun i => (i.zero, i.size, i.bytes)) = some (some (.agg #[.int .i64 0, .string ⟨#[]⟩, .int .i64 0, .int .i64 0]), 4, 40) := by kernel_rfl
def NdIs (w : World) (b0 : Nat) (v : Value) (l : List Px.Nd) : Prop :=
 (v = .slice none 0 0 ∧ l = []) ∨ ∃ g cap, v = .slice (some ⟨g, 0, none⟩) l.length cap ∧ b0 ≤ g ∧ g < w.heap.size ∧ l.length ≤ cap ∧ cap ≤ maxLen ∧ ∀ j u, (ndsV l)[j]? = some u → w.cell? ⟨g, j, none⟩ = some u
theorem NdIs.of_own {w : World} {b0 : Nat} {v : Value} {l : List Px.Nd} (h : w.ownsRow b0 43 4 v l.length (ndsV l)) : NdIs w b0 v l := by
 rcases h.2 with ⟨rfl, hn⟩ | ⟨g, cap, cur, rfl, hb, hg, h1, h2, h3, h4⟩
 · exact .inl ⟨rfl, List.length_eq_zero_iff.1 hn⟩
 · refine .inr ⟨g, cap, rfl, hb, (Array.getElem?_eq_some_iff.1 hg).1, h1, h2, fun j u hu => ?_⟩
   have := h.cells (g := g) rfl j u hu
   simpa only [Addr.add_lit, Nat.zero_add] using this
section
namespace Px
open Lx (Bs Tok)
inductive E where
 | null
 | bool (b : Bool)
 | num (z : Int)
 | str (s : Bs)
 | nm (s : Bs)
 | un (k : Nat) (e : E)
 | bin (k : Nat) (a b : E)
def E.nodes : E → List Nd
 | .null => leaf 14 [] 0
 | .bool b => leaf 15 [] (if b = true then 1 else 0)
 | .num z => leaf 16 [] z
 | .str s => leaf 17 s 0
 | .nm s => leaf 18 s 0
 | .un k e => over1 k e.nodes
 | .bin k a b => over2 k a.nodes b.nodes
def E.depth : E → Nat
 | .un _ e => e.depth + 1
 | .bin _ a b => max a.depth b.depth + 1
 | _ => 1
def E.size : E → Nat
 | .un _ e => e.size + 1
 | .bin _ a b => a.size + b.size + 1
 | _ => 1
def E.isNum : E → Bool
 | .num _ => true
 | _ => false
def E.ok (n : Nat) : E → Prop
 | .num z => -9223372036854775808 ≤ z ∧ z ≤ 9223372036854775807
 | .str s => s.length ≤ n
 | .nm s => s.length ≤ 30
 | .un k e => 19 ≤ k ∧ k ≤ 22 ∧ (k = 19 → e.isNum = false) ∧ e.ok n
 | .bin k a b => 23 ≤ k ∧ k ≤ 36 ∧ a.ok n ∧ b.ok n
 | _ => True
theorem E.nodes_length (e : E) : e.nodes.length = e.size := by
 induction e with
 | un k e ih => simp [E.nodes, E.size, over1, ih]
 | bin k a b iha ihb => simp [E.nodes, E.size, over2, iha, ihb]
 | _ => simp [E.nodes, E.size, leaf]
theorem E.size_pos (e : E) : 1 ≤ e.size := by cases e <;> simp [E.size]
end Px
end
section
namespace Px
open Lx (Bs Tok)
abbrev Rg (α : Type) := List Tok → Res α → Prop
def mapR {α β : Type} (f : α → β) : Res α → Res β
 | .error e => .error e
 | .ok (a, q) => .ok (f a, q)
def Rg.seq {α β : Type} (x : Rg α) (f : α → Rg β) : Rg β := fun ts r => ∃ r1, x ts r1 ∧ Then r1 f r
def Rg.ret {α : Type} (a : α) : Rg α := fun ts r => r = .ok (a, ts)
def mustR (sz : Nat) (s : Bs) : Rg Unit := fun ts r => must sz s ts = some r
def nameR (sz : Nat) : Rg Bs := fun ts r => name sz ts = some r
def exR (sz : Nat) : Rg E := fun ts r => Ex sz 1 [] ts (mapR E.nodes r) ∧ ∀ e q, r = .ok (e, q) → e.ok 2000 ∧ e.size + q.length ≤ ts.length
inductive Reach {α : Type} (x : Nat → Rg α) (ts : List Tok) : List α → List Tok → Prop
 | first {a : α} {q : List Tok} : x 0 ts (.ok (a, q)) → Reach x ts [a] q
 | step {l : List α} {q : List Tok} {a : α} {q' : List Tok} : Reach x ts l q → sees gComma q = true → x l.length q.tail (.ok (a, q')) → Reach x ts (l ++ [a]) q'
inductive Sep {α : Type} (x : Nat → Rg α) (ts : List Tok) : Res (List α) → Prop
 | err0 {e : Nat × Nat} : x 0 ts (.error e) → Sep x ts (.error e)
 | err {l : List α} {q : List Tok} {e : Nat × Nat} : Reach x ts l q → sees gComma q = true → x l.length q.tail (.error e) → Sep x ts (.error e)
 | stop {l : List α} {q : List Tok} : Reach x ts l q → sees gComma q = false → Sep x ts (.ok (l, q))
inductive St where
 | create (t : Bs) (cols : List (Bs × Nat))
 | drop (t : Bs)
 | insert (t : Bs) (rows : List (List E))
 | delete (t : Bs) (w : Option E)
 | update (t : Bs) (sets : List (Bs × E)) (w : Option E)
 | select (items : List (Option E)) (t : Bs) (w : Option E) (orders : List (E × Bool)) (lim : Option Nat)
def colN (c : Bs × Nat) : Nd := ⟨2, c.1, c.2, 0⟩
def rowN (r : List E) : List Nd := ⟨5, [], 0, r.length⟩ :: r.flatMap E.nodes
def setN (s : Bs × E) : List Nd := ⟨8, s.1, 0, 1⟩ :: s.2.nodes
def itemN : Option E → List Nd
 | none => [⟨10, [], 0, 0⟩]
 | some e => e.nodes
def orderN (o : E × Bool) : List Nd := ⟨12, [], if o.2 = true then 1 else 0, 1⟩ :: o.1.nodes
def whereN : Option E → List Nd
 | none => []
 | some e => over1 11 e.nodes
def limN : Option Nat → List Nd
 | none => []
 | some n => [⟨13, [], n, 0⟩]
def one? {α : Type} : Option α → Nat
 | none => 0
 | some _ => 1
def St.nodes : St → List Nd
 | .create t c => ⟨1, t, 0, c.length⟩ :: c.map colN
 | .drop t => [⟨3, t, 0, 0⟩]
 | .insert t r => ⟨4, t, 0, r.length⟩ :: r.flatMap rowN
 | .delete t w => ⟨6, t, 0, one? w⟩ :: whereN w
 | .update t s w => ⟨7, t, 0, s.length + one? w⟩ :: (s.flatMap setN ++ whereN w)
 | .select i t w o l => ⟨9, t, 0, i.length + one? w + o.length + one? l⟩ :: (i.flatMap itemN ++ whereN w ++ o.flatMap orderN ++ limN l)
def St.exprs : St → List E
 | .create _ _ => []
 | .drop _ => []
 | .insert _ r => r.flatten
 | .delete _ w => w.toList
 | .update _ s w => s.map (·.2) ++ w.toList
 | .select i _ w o _ => i.filterMap id ++ w.toList ++ o.map (·.1)
def kindR (sz : Nat) : Rg Nat := fun ts r =>
 if sees kINTEGER ts = true then r = .ok (1, ts.tail) else if sees kTEXT ts = true then r = .ok (2, ts.tail) else Rg.seq (mustR sz kBOOLEAN) (fun _ => Rg.ret 3) ts r
def nullR (sz : Nat) (n : Bs) (k : Nat) : Rg (Bs × Nat) := fun ts r =>
 if sees kNOT ts = true then Rg.seq (mustR sz kNULL) (fun _ => Rg.ret (n, k + 4)) ts.tail r else r = .ok ((n, k), ts)
def colR (sz : Nat) (i : Nat) : Rg (Bs × Nat) := fun ts r =>
 Rg.seq (nameR sz) (fun n q r => if 6 ≤ i then r = .error (plc sz ts, 4) else Rg.seq (kindR sz) (nullR sz n) q r) ts r
def createR (sz : Nat) : Rg St :=
 Rg.seq (mustR sz kTABLE) fun _ => Rg.seq (nameR sz) fun t => Rg.seq (mustR sz gOpen) fun _ => Rg.seq (Sep (colR sz)) fun l => Rg.seq (mustR sz gShut) fun _ => Rg.ret (.create t l)
def rowR (sz : Nat) : Rg (List E) := Rg.seq (mustR sz gOpen) fun _ => Rg.seq (Sep fun _ => exR sz) fun l => Rg.seq (mustR sz gShut) fun _ => Rg.ret l
def insertR (sz : Nat) : Rg St := Rg.seq (mustR sz kINTO) fun _ => Rg.seq (nameR sz) fun t => Rg.seq (mustR sz kVALUES) fun _ => Rg.seq (Sep fun _ => rowR sz) fun l => Rg.ret (.insert t l)
def whereR (sz : Nat) : Rg (Option E) := fun ts r => if sees kWHERE ts = true then Rg.seq (exR sz) (fun e => Rg.ret (some e)) ts.tail r else r = .ok (none, ts)
def setR (sz : Nat) : Rg (Bs × E) := Rg.seq (nameR sz) fun n => Rg.seq (mustR sz gEq) fun _ => Rg.seq (exR sz) fun e => Rg.ret (n, e)
def updateR (sz : Nat) : Rg St := Rg.seq (nameR sz) fun t => Rg.seq (mustR sz kSET) fun _ => Rg.seq (Sep fun _ => setR sz) fun l => Rg.seq (whereR sz) fun w => Rg.ret (.update t l w)
def itemR (sz : Nat) : Rg (Option E) := fun ts r => if sees gStar ts = true then r = .ok (none, ts.tail) else Rg.seq (exR sz) (fun e => Rg.ret (some e)) ts r
def descR (e : E) : Rg (E × Bool) := fun ts r =>
 if sees kDESC ts = true then r = .ok ((e, true), ts.tail) else if sees kASC ts = true then r = .ok ((e, false), ts.tail) else r = .ok ((e, false), ts)
def orderR (sz : Nat) : Rg (E × Bool) := Rg.seq (exR sz) descR
def ordersR (sz : Nat) : Rg (List (E × Bool)) := fun ts r => if sees kORDER ts = true then Rg.seq (mustR sz kBY) (fun _ => Sep fun _ => orderR sz) ts.tail r else r = .ok ([], ts)
def limR (sz : Nat) : Rg (Option Nat) := fun ts r => if sees kLIMIT ts = true then Rg.seq (fun ts r => limit sz ts = some r) (fun n => Rg.ret (some n)) ts.tail r else r = .ok (none, ts)
def selectR (sz : Nat) : Rg St :=
 Rg.seq (Sep fun _ => itemR sz) fun i => Rg.seq (mustR sz kFROM) fun _ => Rg.seq (nameR sz) fun t => Rg.seq (whereR sz) fun w => Rg.seq (ordersR sz) fun o => Rg.seq (limR sz) fun l => Rg.ret (.select i t w o l)
def deleteR (sz : Nat) : Rg St := Rg.seq (mustR sz kFROM) fun _ => Rg.seq (nameR sz) fun t => Rg.seq (whereR sz) fun w => Rg.ret (.delete t w)
end Px
end
section
namespace Px
open Lx (Bs Tok)
end Px
end
section
namespace Px
open Lx (Bs Tok)
def SgnOk (t : Tok) : Prop := t.kind = 51 → Lx.hasB Lx.keys t.text = false
end Px
end
section
namespace Px
open Lx (Bs Tok)
end Px
end
section
namespace Px
open Lx (Bs Tok)
structure PT where
 out : Bs
 kind : Nat
 val : Bs
 pre : Bool
def kwT (s : Bs) : PT := ⟨s, 50, s, false⟩
def sgT (s : Bs) : PT := ⟨s, 51, s, false⟩
def mnT : PT := ⟨[45], 51, [45], true⟩
def nmT (s : Bs) : PT := ⟨nameT s, 18, s, false⟩
def stT (s : Bs) : PT := ⟨dbl 39 s, 17, s, false⟩
def dgT (n : Nat) : PT := ⟨decF 20 n, 16, decF 20 n, false⟩
def apart (a b : PT) : Bool := if a.out = [40] ∨ b.out = [41] ∨ b.out = [44] then false else if a.pre = true then decide (b.out.head? = some 45) else true
def gap (a b : PT) : Bs := if apart a b = true then [32] else []
def render : List PT → Bs
 | [] => []
 | [a] => a.out
 | a :: b :: r => a.out ++ gap a b ++ render (b :: r)
def Ends : Bs → Prop
 | [] => True
 | c :: _ => c = 32 ∨ c = 41 ∨ c = 44
structure PT.Ok (t : PT) : Prop where
 ne : ∃ c r, t.out = c :: r ∧ Lx.isSp c = false ∧ (c.toNat = 45 → t.out = [45])
 reads : ∀ rest, (Ends rest ∨ t.out = [40] ∨ t.pre = true) → Lx.oneT (t.out ++ rest) = .ok (t.kind, t.val, t.out.length)
 pre : t.pre = true → t.out = [45]
 small : t.out.length ≤ 100000
theorem dig_not_let {b : UInt8} (h : Lx.isDig b = true) : Lx.isLet b = false := by
 simp only [Lx.isDig, decide_eq_true_eq] at h
 simp only [Lx.isLet, decide_eq_false_iff_not]
 omega
theorem dbl_len (m : UInt8) (s : Bs) : (dbl m s).length = (s.flatMap fun b => if b = m then [b, b] else [b]).length + 2 := by simp [dbl]
theorem flat_le (m : UInt8) : ∀ s : Bs, (s.flatMap fun b => if b = m then [b, b] else [b]).length ≤ 2 * s.length
 | [] => by simp
 | b :: s => by
  have := flat_le m s
  rw [List.flatMap_cons, List.length_append, List.length_cons]
  have : (if b = m then [b, b] else [b]).length ≤ 2 := by split <;> simp
  omega
end Px
end
section
namespace Px
open Lx (Bs Tok)
theorem render_head (a : PT) (r : List PT) : ∃ x, render (a :: r) = a.out ++ x := by
 cases r with
 | nil => exact ⟨[], by simp [render]⟩
 | cons b r => exact ⟨gap a b ++ render (b :: r), by simp [render]⟩
theorem dig_of (d : Nat) (h : d < 10) : Lx.isDig (48 + d).toUInt8 = true ∧ ((48 + d).toUInt8).toNat - 48 = d ∧ ((48 + d).toUInt8.toNat = 48 + d) := by
 have : (48 + d).toUInt8.toNat = 48 + d := by
  simp only [Nat.toUInt8, UInt8.toNat_ofNat']
  omega
 refine ⟨?_, ?_, this⟩
 · simp only [Lx.isDig, decide_eq_true_eq, this]; omega
 · rw [this]; omega
theorem decF_digs : ∀ f n, ∀ c ∈ decF f n, Lx.isDig c = true
 | 0, n, c, h => by cases h
 | f + 1, n, c, h => by
  unfold decF at h
  split at h
  · rename_i hn
    rw [List.mem_singleton] at h; subst h; exact (dig_of n hn).1
  · rcases List.mem_append.1 h with h | h
    · exact decF_digs f _ c h
    · rw [List.mem_singleton] at h; subst h; exact (dig_of _ (Nat.mod_lt _ (by omega))).1
theorem decF_ne (f n : Nat) : decF (f + 1) n ≠ [] := by
 unfold decF
 split
 · simp
 · simp
end Px
end
section
namespace Px
open Lx (Bs Tok)
def E.lvl : E → Nat
 | .num z => if z < 0 then 8 else 9
 | .un k _ => if k = 20 then 3 else if k = 19 then 8 else 4
 | .bin k _ _ => (sgnT k).2
 | _ => 9
def brkT (lvl least : Nat) (l : List PT) : List PT := if lvl < least then sgT [40] :: (l ++ [sgT [41]]) else l
def opT (k : Nat) : PT := if k < 25 then kwT (sgnT k).1 else sgT (sgnT k).1
def leftOf (k : Nat) : Nat := if (sgnT k).2 = 4 then 5 else (sgnT k).2
def E.pt : E → List PT
 | .null => [kwT kNULL]
 | .bool b => [kwT (if b = true then kTRUE else kFALSE)]
 | .num z => if z < 0 then [mnT, dgT z.natAbs] else [dgT z.natAbs]
 | .str s => [stT s]
 | .nm s => [nmT s]
 | .un k e => if k = 20 then kwT kNOT :: brkT e.lvl 3 e.pt else if k = 19 then mnT :: brkT e.lvl 8 e.pt
   else if k = 21 then brkT e.lvl 5 e.pt ++ [kwT kIS, kwT kNULL] else brkT e.lvl 5 e.pt ++ [kwT kIS, kwT kNOT, kwT kNULL]
 | .bin k a b => brkT a.lvl (leftOf k) a.pt ++ opT k :: brkT b.lvl ((sgnT k).2 + 1) b.pt
def E.good : E → Prop
 | .str s => Lx.validN s = true
 | .nm s => isName s = true
 | .un _ e => e.good
 | .bin _ a b => a.good ∧ b.good
 | _ => True
theorem sgn_cases {k : Nat} (h1 : 23 ≤ k) (h2 : k ≤ 36) : k = 23 ∨ k = 24 ∨ k = 25 ∨ k = 26 ∨ k = 27 ∨ k = 28 ∨ k = 29 ∨ k = 30 ∨ k = 31 ∨ k = 32 ∨ k = 33 ∨ k = 34 ∨ k = 35 ∨ k = 36 := by omega
theorem sgn_lvl {k : Nat} (h1 : 23 ≤ k) (h2 : k ≤ 36) : (sgnT k).2 = 1 ∨ (sgnT k).2 = 2 ∨ (sgnT k).2 = 4 ∨ (sgnT k).2 = 5 ∨ (sgnT k).2 = 6 ∨ (sgnT k).2 = 7 := by
 rcases sgn_cases h1 h2 with rfl | rfl | rfl | rfl | rfl | rfl | rfl | rfl | rfl | rfl | rfl | rfl | rfl | rfl <;> decide
end Px
end
section
namespace Px
open Lx (Bs Tok)
def sepT : List (List PT) → List PT
 | [] => []
 | [a] => a
 | a :: b :: r => a ++ sgT [44] :: sepT (b :: r)
def typeT (n : Nat) : Bs := if n % 4 = 1 then kINTEGER else if n % 4 = 2 then kTEXT else kBOOLEAN
def colT (c : Bs × Nat) : List PT := nmT c.1 :: kwT (typeT c.2) :: (if 4 < c.2 then [kwT kNOT, kwT kNULL] else [])
def rowT (r : List E) : List PT := sgT [40] :: (sepT (r.map E.pt) ++ [sgT [41]])
def setT (s : Bs × E) : List PT := nmT s.1 :: sgT [61] :: s.2.pt
def itemT : Option E → List PT
 | none => [sgT [42]]
 | some e => e.pt
def orderT (o : E × Bool) : List PT := o.1.pt ++ (if o.2 = true then [kwT kDESC] else [])
def whereT : Option E → List PT
 | none => []
 | some e => kwT kWHERE :: e.pt
def limT : Option Nat → List PT
 | none => []
 | some n => [kwT kLIMIT, dgT n]
def ordersT : List (E × Bool) → List PT
 | [] => []
 | o :: r => kwT kORDER :: kwT kBY :: sepT ((o :: r).map orderT)
def St.pt : St → List PT
 | .create t c => kwT kCREATE :: kwT kTABLE :: nmT t :: sgT [40] :: (sepT (c.map colT) ++ [sgT [41]])
 | .drop t => [kwT kDROP, kwT kTABLE, nmT t]
 | .insert t r => kwT kINSERT :: kwT kINTO :: nmT t :: kwT kVALUES :: sepT (r.map rowT)
 | .delete t w => kwT kDELETE :: kwT kFROM :: nmT t :: whereT w
 | .update t s w => kwT kUPDATE :: nmT t :: kwT kSET :: (sepT (s.map setT) ++ whereT w)
 | .select i t w o l => kwT kSELECT :: (sepT (i.map itemT) ++ kwT kFROM :: nmT t :: (whereT w ++ (ordersT o ++ limT l)))
structure St.Fit (s : St) : Prop where
 exprs : ∀ e ∈ s.exprs, e.ok 2000
 parts : match s with
  | .create t c => isName t = true ∧ 1 ≤ c.length ∧ c.length ≤ 6 ∧ ∀ x ∈ c, isName x.1 = true ∧ 1 ≤ x.2 ∧ x.2 ≤ 7 ∧ x.2 ≠ 4
  | .drop t => isName t = true
  | .insert t r => isName t = true ∧ r ≠ [] ∧ ∀ x ∈ r, x ≠ []
  | .delete t w => isName t = true
  | .update t s w => isName t = true ∧ s ≠ [] ∧ ∀ x ∈ s, isName x.1 = true
  | .select i t w o l => isName t = true ∧ i ≠ [] ∧ ∀ n, l = some n → n ≤ 1000000000
theorem isName_len {s : Bs} (h : isName s = true) : s.length ≤ 30 := by
 simp only [isName, Bool.and_eq_true, decide_eq_true_eq] at h; exact h.2
section
variable {α : Type} {x : Nat → Rg α} {pt : α → List PT} {P : List Tok → Prop} {N : Nat}
end
end Px
end
theorem folB_get (s : ByteArray) (k lo hi : Nat) : Lx.folB s.data.toList k lo hi = decide (k < s.size ∧ lo ≤ (s.get! k).toNat ∧ (s.get! k).toNat ≤ hi) := by
 unfold Lx.folB
 by_cases h : k < s.size
 · rw [List.getElem?_eq_getElem (by simpa using h)]
   have e : s.get! k = s[k] := by
    simp [ByteArray.get!, getElem!_pos, h]
    rfl
   rw [e]
   simp [h]
   rfl
 · rw [List.getElem?_eq_none (by simpa using h)]
   simp [h]
theorem get_here (s : ByteArray) (k : Nat) (h : k < s.size) : s.get! k = s[k] := by
 simp [ByteArray.get!, getElem!_pos, h]
 rfl
def clsN (n b0 b1 b2 b3 : Nat) : Nat :=
 if b0 < 128 then 1
 else if (194 ≤ b0 ∧ b0 ≤ 223) ∧ (1 < n ∧ 128 ≤ b1 ∧ b1 ≤ 191) then 2
 else if (224 ≤ b0 ∧ b0 ≤ 239) ∧ (1 < n ∧ Lx.loOf b0 ≤ b1 ∧ b1 ≤ Lx.hiOf b0) ∧ (2 < n ∧ 128 ≤ b2 ∧ b2 ≤ 191) then 3
 else if (240 ≤ b0 ∧ b0 ≤ 244) ∧ (1 < n ∧ Lx.loOf b0 ≤ b1 ∧ b1 ≤ Lx.hiOf b0) ∧ (2 < n ∧ 128 ≤ b2 ∧ b2 ≤ 191) ∧ (3 < n ∧ 128 ≤ b3 ∧ b3 ≤ 191) then 4
 else 0
theorem charN_cls (s : ByteArray) (i : Nat) (h : i < s.size) : Lx.charN (s.data.toList.drop i) = clsN (s.size - i) (s.get! i).toNat (s.get! (i + 1)).toNat (s.get! (i + 2)).toNat (s.get! (i + 3)).toNat := by
 rw [charN_at s i h, get_here s i h]
 unfold charB clsN
 simp only [folB_get, decide_eq_true_eq]
 have c1 : (i + 1 < s.size) = (1 < s.size - i) := propext ⟨fun h => by omega, fun h => by omega⟩
 have c2 : (i + 2 < s.size) = (2 < s.size - i) := propext ⟨fun h => by omega, fun h => by omega⟩
 have c3 : (i + 3 < s.size) = (3 < s.size - i) := propext ⟨fun h => by omega, fun h => by omega⟩
 simp only [c1, c2, c3]
theorem cls_bad (n b0 b1 b2 b3 : Nat) (h0 : b0 < 256) (h1 : b1 < 256) (h2 : b2 < 256) (h3 : b3 < 256) (h : clsN n b0 b1 b2 b3 = 0) : Lib.decodeN n b0 b1 b2 b3 = (65533, 1) ∧ 128 ≤ b0 := by
 unfold clsN Lx.loOf Lx.hiOf at h
 unfold Lib.decodeN
 repeat' split at h
 all_goals (try (exfalso; omega))
 all_goals
  refine ⟨?_, by omega⟩
  repeat' split
  all_goals first | rfl | (exfalso; omega)
theorem cls_one (n b0 b1 b2 b3 : Nat) (h : clsN n b0 b1 b2 b3 = 1) : b0 < 128 ∧ Lib.decodeN n b0 b1 b2 b3 = (b0, 1) := by
 unfold clsN at h
 repeat' split at h
 all_goals (try (exfalso; omega))
 rename_i hb
 exact ⟨hb, by simp [Lib.decodeN, hb]⟩
theorem cls_two (n b0 b1 b2 b3 : Nat) (h : clsN n b0 b1 b2 b3 = 2) : (194 ≤ b0 ∧ b0 ≤ 223) ∧ (1 < n ∧ 128 ≤ b1 ∧ b1 ≤ 191) ∧ Lib.decodeN n b0 b1 b2 b3 = (b0 % 32 * 64 + b1 % 64, 2) := by
 unfold clsN at h
 repeat' split at h
 all_goals (try (exfalso; omega))
 rename_i hb
 refine ⟨hb.1, hb.2, ?_⟩
 unfold Lib.decodeN
 rw [if_neg (by omega), if_pos (by omega), if_pos (by omega)]
theorem cls_three (n b0 b1 b2 b3 : Nat) (h : clsN n b0 b1 b2 b3 = 3) : (224 ≤ b0 ∧ b0 ≤ 239) ∧ (1 < n ∧ Lx.loOf b0 ≤ b1 ∧ b1 ≤ Lx.hiOf b0) ∧ (2 < n ∧ 128 ≤ b2 ∧ b2 ≤ 191) ∧ Lib.decodeN n b0 b1 b2 b3 = (b0 % 16 * 4096 + b1 % 64 * 64 + b2 % 64, 3) := by
 unfold clsN at h
 repeat' split at h
 all_goals (try (exfalso; omega))
 rename_i hb
 refine ⟨hb.1, hb.2.1, hb.2.2, ?_⟩
 have hl := hb.2.1
 unfold Lx.loOf Lx.hiOf at hl
 unfold Lib.decodeN
 repeat' split at hl
 all_goals rw [if_neg (by omega), if_neg (by omega), if_pos (by omega), if_pos (by omega)]
theorem cls_four (n b0 b1 b2 b3 : Nat) (h : clsN n b0 b1 b2 b3 = 4) : (240 ≤ b0 ∧ b0 ≤ 244) ∧ (1 < n ∧ Lx.loOf b0 ≤ b1 ∧ b1 ≤ Lx.hiOf b0) ∧ (2 < n ∧ 128 ≤ b2 ∧ b2 ≤ 191) ∧ (3 < n ∧ 128 ≤ b3 ∧ b3 ≤ 191) ∧ Lib.decodeN n b0 b1 b2 b3 = (b0 % 8 * 262144 + b1 % 64 * 4096 + b2 % 64 * 64 + b3 % 64, 4) := by
 unfold clsN at h
 repeat' split at h
 all_goals (try (exfalso; omega))
 rename_i hb
 refine ⟨hb.1, hb.2.1, hb.2.2.1, hb.2.2.2, ?_⟩
 have hl := hb.2.1
 unfold Lx.loOf Lx.hiOf at hl
 unfold Lib.decodeN
 repeat' split at hl
 all_goals rw [if_neg (by omega), if_neg (by omega), if_neg (by omega), if_pos (by omega), if_pos (by omega)]
theorem byte_back (b : UInt8) (x : Int) (h : x = (b.toNat : Int)) : x.toNat.toUInt8 = b := by
 subst h
 simp
theorem dec_bad (s : ByteArray) (i : Nat) (h : i < s.size) (hc : Lx.charN (s.data.toList.drop i) = 0) : Utf8.decode s i = (65533, 1) ∧ 128 ≤ s[i].toNat := by
 rw [charN_cls s i h] at hc
 have := cls_bad _ _ _ _ _ (UInt8.toNat_lt _) (UInt8.toNat_lt _) (UInt8.toNat_lt _) (UInt8.toNat_lt _) hc
 rw [get_here s i h] at this
 rw [Lib.decode_at, get_here s i h]
 exact this
theorem drop_take (s : ByteArray) (i n : Nat) (h : i + n ≤ s.size) (l : Lx.Bs) (hl : l.length = n) (hg : ∀ k, k < n → l[k]? = some (s.get! (i + k))) : (s.data.toList.drop i).take n = l := by
 apply List.ext_getElem?
 intro k
 by_cases hk : k < n
 · rw [List.getElem?_take_of_lt hk, List.getElem?_drop, hg k hk, get_here s (i + k) (by omega), List.getElem?_eq_getElem (by simp; have : s.data.size = s.size := rfl; omega)]
   rfl
 · rw [List.getElem?_eq_none (by simp; omega), List.getElem?_eq_none (by omega)]
theorem dec_good (s : ByteArray) (i : Nat) (h : i < s.size) (hc : Lx.charN (s.data.toList.drop i) ≠ 0) :
   (Utf8.decode s i).2 = Lx.charN (s.data.toList.drop i) ∧ Lib.encodeRune ((Utf8.decode s i).1 : Int) = (s.data.toList.drop i).take (Lx.charN (s.data.toList.drop i)) ∧
     ((Lx.charN (s.data.toList.drop i) = 1 ∧ (Utf8.decode s i).1 = s[i].toNat ∧ s[i].toNat < 128) ∨ (1 < Lx.charN (s.data.toList.drop i) ∧ 128 ≤ (Utf8.decode s i).1 ∧ 128 ≤ s[i].toNat)) := by
 have hle := Lx.charN_le (s.data.toList.drop i)
 rw [List.length_drop, show s.data.toList.length = s.size from by simp] at hle
 have hcls := charN_cls s i h
 rw [Lib.decode_at]
 rw [get_here s i h] at hcls ⊢
 have B0 := s[i].toNat_lt
 have hcase : Lx.charN (s.data.toList.drop i) = 1 ∨ Lx.charN (s.data.toList.drop i) = 2 ∨ Lx.charN (s.data.toList.drop i) = 3 ∨ Lx.charN (s.data.toList.drop i) = 4 := by
  have : ∀ n b0 b1 b2 b3, clsN n b0 b1 b2 b3 = 0 ∨ clsN n b0 b1 b2 b3 = 1 ∨ clsN n b0 b1 b2 b3 = 2 ∨ clsN n b0 b1 b2 b3 = 3 ∨ clsN n b0 b1 b2 b3 = 4 := by
   intro n b0 b1 b2 b3
   unfold clsN
   repeat' split
   all_goals omega
  have := this (s.size - i) s[i].toNat (s.get! (i + 1)).toNat (s.get! (i + 2)).toNat (s.get! (i + 3)).toNat
  rw [← hcls] at this
  omega
 rcases hcase with e | e | e | e
 · rw [e] at hcls hle ⊢
   obtain ⟨q, d⟩ := cls_one _ _ _ _ _ hcls.symm
   rw [d]
   refine ⟨rfl, ?_, .inl ⟨rfl, rfl, q⟩⟩
   rw [drop_take s i 1 (by omega) [s.get! i] rfl (by intro k hk; have : k = 0 := by omega
                                                     subst this; rfl)]
   unfold Lib.encodeRune
   rw [Lib.encodeRuneZ_one (by omega) (by simp; omega)]
   simp only [List.map_cons, List.map_nil]
   rw [byte_back s[i] _ rfl, get_here s i h]
 · rw [e] at hcls hle ⊢
   obtain ⟨q, q1, d⟩ := cls_two _ _ _ _ _ hcls.symm
   rw [d]
   refine ⟨rfl, ?_, .inr ⟨by omega, by simp only; omega, by omega⟩⟩
   rw [drop_take s i 2 (by omega) [s.get! i, s.get! (i + 1)] rfl (by intro k hk; have : k = 0 ∨ k = 1 := by omega
                                                                     rcases this with rfl | rfl <;> rfl)]
   unfold Lib.encodeRune
   rw [Lib.encodeRuneZ_two (by simp only; omega) (by simp only; omega)]
   simp only [List.map_cons, List.map_nil]
   rw [byte_back s[i] _ (by omega), byte_back (s.get! (i + 1)) _ (by omega), get_here s i h]
 · rw [e] at hcls hle ⊢
   obtain ⟨q, q1, q2, d⟩ := cls_three _ _ _ _ _ hcls.symm
   unfold Lx.loOf Lx.hiOf at q1
   have B1 := (s.get! (i + 1)).toNat_lt
   have hr : ((2048 : Int) ≤ ((s[i].toNat % 16 * 4096 + (s.get! (i + 1)).toNat % 64 * 64 + (s.get! (i + 2)).toNat % 64 : Nat) : Int) ∧ ((s[i].toNat % 16 * 4096 + (s.get! (i + 1)).toNat % 64 * 64 + (s.get! (i + 2)).toNat % 64 : Nat) : Int) < 55296) ∨ ((57343 : Int) < ((s[i].toNat % 16 * 4096 + (s.get! (i + 1)).toNat % 64 * 64 + (s.get! (i + 2)).toNat % 64 : Nat) : Int) ∧ ((s[i].toNat % 16 * 4096 + (s.get! (i + 1)).toNat % 64 * 64 + (s.get! (i + 2)).toNat % 64 : Nat) : Int) ≤ 65535) := by
    repeat' split at q1
    all_goals omega
   have hb1 : 128 ≤ (s.get! (i + 1)).toNat ∧ (s.get! (i + 1)).toNat ≤ 191 := by
    repeat' split at q1
    all_goals omega
   rw [d]
   refine ⟨rfl, ?_, .inr ⟨by omega, by simp only; omega, by omega⟩⟩
   rw [drop_take s i 3 (by omega) [s.get! i, s.get! (i + 1), s.get! (i + 2)] rfl (by intro k hk; have : k = 0 ∨ k = 1 ∨ k = 2 := by omega
                                                                                     rcases this with rfl | rfl | rfl <;> rfl)]
   unfold Lib.encodeRune
   rw [Lib.encodeRuneZ_three hr]
   simp only [List.map_cons, List.map_nil]
   rw [byte_back s[i] _ (by omega), byte_back (s.get! (i + 1)) _ (by omega), byte_back (s.get! (i + 2)) _ (by omega), get_here s i h]
 · rw [e] at hcls hle ⊢
   obtain ⟨q, q1, q2, q3, d⟩ := cls_four _ _ _ _ _ hcls.symm
   unfold Lx.loOf Lx.hiOf at q1
   have B1 := (s.get! (i + 1)).toNat_lt
   have hb1 : 128 ≤ (s.get! (i + 1)).toNat ∧ (s.get! (i + 1)).toNat ≤ 191 := by
    repeat' split at q1
    all_goals omega
   have hr : (65536 : Int) ≤ ((s[i].toNat % 8 * 262144 + (s.get! (i + 1)).toNat % 64 * 4096 + (s.get! (i + 2)).toNat % 64 * 64 + (s.get! (i + 3)).toNat % 64 : Nat) : Int) ∧ ((s[i].toNat % 8 * 262144 + (s.get! (i + 1)).toNat % 64 * 4096 + (s.get! (i + 2)).toNat % 64 * 64 + (s.get! (i + 3)).toNat % 64 : Nat) : Int) ≤ 1114111 := by
    repeat' split at q1
    all_goals omega
   rw [d]
   refine ⟨rfl, ?_, .inr ⟨by omega, by simp only; omega, by omega⟩⟩
   rw [drop_take s i 4 (by omega) [s.get! i, s.get! (i + 1), s.get! (i + 2), s.get! (i + 3)] rfl (by intro k hk; have : k = 0 ∨ k = 1 ∨ k = 2 ∨ k = 3 := by omega
                                                                                                     rcases this with rfl | rfl | rfl | rfl <;> rfl)]
   unfold Lib.encodeRune
   rw [Lib.encodeRuneZ_four hr.1 hr.2]
   simp only [List.map_cons, List.map_nil]
   rw [byte_back s[i] _ (by omega), byte_back (s.get! (i + 1)) _ (by omega), byte_back (s.get! (i + 2)) _ (by omega), byte_back (s.get! (i + 3)) _ (by omega), get_here s i h]
end Go.Proofs.YtkcakbgcfnhgaaaGreatDoor
