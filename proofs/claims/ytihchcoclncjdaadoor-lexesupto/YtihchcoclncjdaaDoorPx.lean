/- What a statement's tree is, as plain functions on lists of tokens: no program is named here. A reading takes fuel; none: more is wanted. -/
import Derived.Test.YtihchcoclncjdaaDoorLex
namespace Go.Proofs.YtihchcoclncjdaaDoor
namespace Px
open Lx (Bs Tok)

/-- A node: its kind, its text, its number, how many kids. -/
structure Nd where
  kind : Int
  text : Bs
  num : Int
  kids : Int

/-- A reading: none (more fuel), an error (its place, its number), or what is read and the tokens behind it. -/
abbrev Out (α : Type) := Option (Except (Nat × Nat) (α × List Tok))

def obind {α β : Type} (x : Out α) (f : α → List Tok → Out β) : Out β :=
  match x with
  | none => none
  | some (.error e) => some (.error e)
  | some (.ok (a, ts)) => f a ts

/-- The place of the next token. -/
def plc (sz : Nat) : List Tok → Nat
  | [] => sz
  | t :: _ => t.pos

/-- Does this keyword or sign stand next? -/
def sees (s : Bs) : List Tok → Bool
  | [] => false
  | t :: _ => (decide (t.kind = 50) || decide (t.kind = 51)) && t.text == s

def must (sz : Nat) (s : Bs) (ts : List Tok) : Out Unit :=
  if sees s ts = true then some (.ok ((), ts.tail)) else some (.error (plc sz ts, 4))

def name (sz : Nat) : List Tok → Out Bs
  | [] => some (.error (sz, 4))
  | t :: r => if t.kind ≠ 18 then some (.error (t.pos, 4)) else if 30 < t.text.length then some (.error (t.pos, 5)) else some (.ok (t.text, r))

/-! The words. -/
def kOR : Bs := [79, 82]
def kAND : Bs := [65, 78, 68]
def kNOT : Bs := [78, 79, 84]
def kIS : Bs := [73, 83]
def kNULL : Bs := [78, 85, 76, 76]
def kTRUE : Bs := [84, 82, 85, 69]
def kFALSE : Bs := [70, 65, 76, 83, 69]
def kTABLE : Bs := [84, 65, 66, 76, 69]
def kINTEGER : Bs := [73, 78, 84, 69, 71, 69, 82]
def kTEXT : Bs := [84, 69, 88, 84]
def kBOOLEAN : Bs := [66, 79, 79, 76, 69, 65, 78]
def kINTO : Bs := [73, 78, 84, 79]
def kVALUES : Bs := [86, 65, 76, 85, 69, 83]
def kSET : Bs := [83, 69, 84]
def kWHERE : Bs := [87, 72, 69, 82, 69]
def kFROM : Bs := [70, 82, 79, 77]
def kORDER : Bs := [79, 82, 68, 69, 82]
def kBY : Bs := [66, 89]
def kASC : Bs := [65, 83, 67]
def kDESC : Bs := [68, 69, 83, 67]
def kLIMIT : Bs := [76, 73, 77, 73, 84]
def kCREATE : Bs := [67, 82, 69, 65, 84, 69]
def kDROP : Bs := [68, 82, 79, 80]
def kINSERT : Bs := [73, 78, 83, 69, 82, 84]
def kDELETE : Bs := [68, 69, 76, 69, 84, 69]
def kUPDATE : Bs := [85, 80, 68, 65, 84, 69]
def kSELECT : Bs := [83, 69, 76, 69, 67, 84]
def gOpen : Bs := [40]
def gShut : Bs := [41]
def gComma : Bs := [44]
def gMinus : Bs := [45]
def gStar : Bs := [42]
def gEq : Bs := [61]

/-- The operators of two operands: level, sign, kind. -/
def opTab : List (Nat × Bs × Nat) := [(1, kOR, 23), (2, kAND, 24), (4, [61], 25), (4, [60, 62], 26), (4, [60], 27), (4, [60, 61], 28), (4, [62], 29), (4, [62, 61], 30), (5, [124, 124], 31), (6, [43], 32), (6, [45], 33), (7, [42], 34), (7, [47], 35), (7, [37], 36)]
def opIn : List (Nat × Bs × Nat) → Nat → Bs → Nat
  | [], _, _ => 0
  | x :: r, l, s => if x.1 = l ∧ x.2.1 = s then x.2.2 else opIn r l s
/-- The kind of the operator of a level that stands next; 0: none does. -/
def oper (l : Nat) : List Tok → Nat
  | [] => 0
  | t :: _ => if t.kind = 50 ∨ t.kind = 51 then opIn opTab l t.text else 0

def over1 (k : Int) (a : List Nd) : List Nd := ⟨k, [], 0, 1⟩ :: a
def over2 (k : Int) (a b : List Nd) : List Nd := ⟨k, [], 0, 2⟩ :: (a ++ b)
def leaf (k : Int) (t : Bs) (n : Int) : List Nd := [⟨k, t, n, 0⟩]

/-- The value of digits. -/
def dval (s : Bs) : Nat := s.foldl (fun n c => 10 * n + (c.toNat - 48)) 0

def bot : Int := -9223372036854775808

/-- Behind a - ahead (at a place): its operand is read. -/
def negate (at_ : Nat) (a : List Nd) (r : List Tok) : Out (List Nd) :=
  match a with
  | [] => some (.ok (over1 19 a, r))
  | x :: _ => if x.kind ≠ 16 then some (.ok (over1 19 a, r)) else if x.num = bot then some (.error (at_, 3)) else some (.ok (leaf 16 [] (-x.num), r))

/-- A leaf that is no bracket. -/
def atom (sz : Nat) : List Tok → Out (List Nd)
  | [] => some (.error (sz, 4))
  | t :: r =>
    if t.kind = 16 then if t.text = Lx.top then some (.error (t.pos, 3)) else some (.ok (leaf 16 [] (dval t.text), r))
    else if t.kind = 17 then some (.ok (leaf 17 t.text 0, r))
    else if t.kind = 18 then if 30 < t.text.length then some (.error (t.pos, 5)) else some (.ok (leaf 18 t.text 0, r))
    else if t.kind = 50 then
      if t.text = kNULL then some (.ok (leaf 14 [] 0, r)) else if t.text = kTRUE then some (.ok (leaf 15 [] 1, r)) else if t.text = kFALSE then some (.ok (leaf 15 [] 0, r))
      else some (.error (t.pos, 4))
    else some (.error (t.pos, 4))

def isTop : List Tok → Bool
  | [] => false
  | t :: _ => decide (t.kind = 16) && t.text == Lx.top

/-- Behind the left operand of level 4. -/
def tail4 (sz : Nat) (rec5 : List Tok → Out (List Nd)) (a : List Nd) (r : List Tok) : Out (List Nd) :=
  if sees kIS r = true then
    if sees kNOT r.tail = true then obind (must sz kNULL r.tail.tail) fun _ q => some (.ok (over1 22 a, q))
    else obind (must sz kNULL r.tail) fun _ q => some (.ok (over1 21 a, q))
  else if oper 4 r = 0 then some (.ok (a, r))
  else obind (rec5 r.tail) fun b q => some (.ok (over2 (oper 4 r) a b, q))

/-- AN EXPRESSION of a level (1 to 9); from 10 on: what may follow the operand a at the level less 10. -/
def ex (sz : Nat) : Nat → Nat → List Nd → List Tok → Out (List Nd)
  | 0, _, _, _ => none
  | n + 1, m, a, ts =>
    if 10 ≤ m then
      if oper (m - 10) ts = 0 then some (.ok (a, ts))
      else obind (ex sz n (m - 9) [] ts.tail) fun b q => ex sz n m (over2 (oper (m - 10) ts) a b) q
    else if m = 3 then
      if sees kNOT ts = true then obind (ex sz n 3 [] ts.tail) fun b q => some (.ok (over1 20 b, q))
      else ex sz n 4 [] ts
    else if m = 4 then obind (ex sz n 5 [] ts) fun b q => tail4 sz (ex sz n 5 []) b q
    else if m = 8 then
      if sees gMinus ts = true then
        if isTop ts.tail = true then some (.ok (leaf 16 [] bot, ts.tail.tail))
        else obind (ex sz n 8 [] ts.tail) fun b q => negate (plc sz ts) b q
      else ex sz n 9 [] ts
    else if m = 9 then
      if sees gOpen ts = true then obind (ex sz n 1 [] ts.tail) fun b q => obind (must sz gShut q) fun _ q => some (.ok (b, q))
      else atom sz ts
    else obind (ex sz n (m + 1) [] ts) fun b q => ex sz n (m + 10) b q

/-- One thing or more, a comma between each two. -/
def sep {α : Type} (item : Nat → α → List Tok → Out α) : Nat → α → List Tok → Out α
  | 0, _, _ => none
  | n + 1, a, ts => obind (item n a ts) fun b q => if sees gComma q = true then sep item n b q.tail else some (.ok (b, q))

def kindP (sz : Nat) (ts : List Tok) : Out Int :=
  if sees kINTEGER ts = true then if sees kTEXT ts.tail = true then some (.error (plc sz ts.tail, 4)) else some (.ok (1, ts.tail))
  else if sees kTEXT ts = true then some (.ok (2, ts.tail))
  else obind (must sz kBOOLEAN ts) fun _ q => some (.ok (3, q))

def col (sz : Nat) (l : List Nd) (ts : List Tok) : Out (List Nd) :=
  obind (name sz ts) fun nm q =>
  if l.length = 6 then some (.error (plc sz ts, 4))
  else obind (kindP sz q) fun k q =>
  if sees kNOT q = true then obind (must sz kNULL q.tail) fun _ q => some (.ok (l ++ [⟨2, nm, k + 4, 0⟩], q))
  else some (.ok (l ++ [⟨2, nm, k, 0⟩], q))

def create (sz n : Nat) (ts : List Tok) : Out (List Nd) :=
  obind (must sz kTABLE ts) fun _ q => obind (name sz q) fun t q => obind (must sz gOpen q) fun _ q =>
  obind (sep (fun _ l q => col sz l q) n [] q) fun l q => obind (must sz gShut q) fun _ q =>
  some (.ok (⟨1, t, 0, l.length⟩ :: l, q))

/-- One more expression of a row: its nodes, how many. -/
def item (sz n : Nat) (x : List Nd × Nat) (ts : List Tok) : Out (List Nd × Nat) :=
  obind (ex sz n 1 [] ts) fun e q => some (.ok ((x.1 ++ e, x.2 + 1), q))

def row (sz n : Nat) (x : List Nd × Nat) (ts : List Tok) : Out (List Nd × Nat) :=
  obind (must sz gOpen ts) fun _ q => obind (sep (item sz) n ([], 0) q) fun y q => obind (must sz gShut q) fun _ q =>
  some (.ok ((x.1 ++ (⟨5, [], 0, y.2⟩ :: y.1), x.2 + 1), q))

def insert (sz n : Nat) (ts : List Tok) : Out (List Nd) :=
  obind (must sz kINTO ts) fun _ q => obind (name sz q) fun t q => obind (must sz kVALUES q) fun _ q =>
  obind (sep (row sz) n ([], 0) q) fun x q => some (.ok (⟨4, t, 0, x.2⟩ :: x.1, q))

/-- WHERE, or none: its nodes, how many. -/
def where_ (sz n : Nat) (ts : List Tok) : Out (List Nd × Nat) :=
  if sees kWHERE ts = true then obind (ex sz n 1 [] ts.tail) fun e q => some (.ok ((over1 11 e, 1), q)) else some (.ok (([], 0), ts))

def setOne (sz n : Nat) (x : List Nd × Nat) (ts : List Tok) : Out (List Nd × Nat) :=
  obind (name sz ts) fun nm q => obind (must sz gEq q) fun _ q => obind (ex sz n 1 [] q) fun e q =>
  some (.ok ((x.1 ++ (⟨8, nm, 0, 1⟩ :: e), x.2 + 1), q))

def update (sz n : Nat) (ts : List Tok) : Out (List Nd) :=
  obind (name sz ts) fun t q => obind (must sz kSET q) fun _ q => obind (sep (setOne sz) n ([], 0) q) fun x q =>
  obind (where_ sz n q) fun y q => some (.ok (⟨7, t, 0, x.2 + y.2⟩ :: (x.1 ++ y.1), q))

def pick (sz n : Nat) (x : List Nd × Nat) (ts : List Tok) : Out (List Nd × Nat) :=
  if sees gStar ts = true then some (.ok ((x.1 ++ [⟨10, [], 0, 0⟩], x.2 + 1), ts.tail)) else item sz n x ts

def order (sz n : Nat) (x : List Nd × Nat) (ts : List Tok) : Out (List Nd × Nat) :=
  obind (ex sz n 1 [] ts) fun e q =>
  if sees kASC q = true then some (.ok ((x.1 ++ (⟨12, [], 0, 1⟩ :: e), x.2 + 1), q.tail))
  else if sees kDESC q = true then some (.ok ((x.1 ++ (⟨12, [], 1, 1⟩ :: e), x.2 + 1), q.tail))
  else some (.ok ((x.1 ++ (⟨12, [], 0, 1⟩ :: e), x.2 + 1), q))

def limit (sz : Nat) : List Tok → Out Nat
  | [] => some (.error (sz, 4))
  | t :: r => if t.kind ≠ 16 then some (.error (t.pos, 4)) else if t.text = Lx.top ∨ 1000000000 < dval t.text then some (.error (t.pos, 3)) else some (.ok (dval t.text, r))

def orders (sz n : Nat) (x : List Nd × Nat) (ts : List Tok) : Out (List Nd × Nat) :=
  if sees kORDER ts = true then obind (must sz kBY ts.tail) fun _ q => sep (order sz) n x q else some (.ok (x, ts))

def limits (sz : Nat) (x : List Nd × Nat) (ts : List Tok) : Out (List Nd × Nat) :=
  if sees kLIMIT ts = true then obind (limit sz ts.tail) fun m q => some (.ok ((x.1 ++ [⟨13, [], m, 0⟩], x.2 + 1), q)) else some (.ok (x, ts))

def choose (sz n : Nat) (ts : List Tok) : Out (List Nd) :=
  obind (sep (pick sz) n ([], 0) ts) fun x q => obind (must sz kFROM q) fun _ q => obind (name sz q) fun t q =>
  obind (where_ sz n q) fun y q => obind (orders sz n (x.1 ++ y.1, x.2 + y.2) q) fun z q => obind (limits sz z q) fun u q =>
  some (.ok (⟨9, t, 0, u.2⟩ :: u.1, q))

def drop (sz : Nat) (ts : List Tok) : Out (List Nd) :=
  obind (must sz kTABLE ts) fun _ q => obind (name sz q) fun t q => some (.ok ([⟨3, t, 0, 0⟩], q))

def delete (sz n : Nat) (ts : List Tok) : Out (List Nd) :=
  obind (must sz kFROM ts) fun _ q => obind (name sz q) fun t q => obind (where_ sz n q) fun y q => some (.ok (⟨6, t, 0, y.2⟩ :: y.1, q))

def stmt (sz n : Nat) : List Tok → Out (List Nd)
  | [] => some (.error (sz, 4))
  | t :: r =>
    if t.kind ≠ 50 then some (.error (t.pos, 4))
    else if t.text = kCREATE then create sz n r
    else if t.text = kDROP then drop sz r
    else if t.text = kINSERT then insert sz n r
    else if t.text = kDELETE then delete sz n r
    else if t.text = kUPDATE then update sz n r
    else if t.text = kSELECT then choose sz n r
    else some (.error (t.pos, 4))

/-- A whole statement: nothing behind it. -/
def whole (sz n : Nat) (ts : List Tok) : Out (List Nd) :=
  obind (stmt sz n ts) fun a q => if q = [] then some (.ok (a, [])) else some (.error (plc sz q, 4))

/-! More fuel changes nothing. -/
def Grows {α : Type} (f : Nat → Out α) : Prop := ∀ n m r, n ≤ m → f n = some r → f m = some r

theorem obind_some {α β : Type} {x : Out α} {f : α → List Tok → Out β} {r : Except (Nat × Nat) (β × List Tok)} (h : obind x f = some r) :
    (∃ e, x = some (.error e) ∧ r = .error e) ∨ ∃ a ts, x = some (.ok (a, ts)) ∧ f a ts = some r := by
  unfold obind at h
  split at h
  · cases h
  · rename_i e; cases h; exact Or.inl ⟨_, rfl, rfl⟩
  · rename_i a ts; exact Or.inr ⟨a, ts, rfl, h⟩
theorem grows_const {α : Type} (x : Out α) : Grows fun _ => x := fun _ _ _ _ h => h
theorem grows_bind {α β : Type} {x : Nat → Out α} {f : Nat → α → List Tok → Out β} (hx : Grows x) (hf : ∀ a ts, Grows fun n => f n a ts) : Grows fun n => obind (x n) (f n) := by
  intro n m r hnm h
  rcases obind_some h with ⟨e, h1, rfl⟩ | ⟨a, ts, h1, h2⟩
  · show obind (x m) (f m) = _
    rw [hx n m _ hnm h1]; rfl
  · show obind (x m) (f m) = _
    rw [hx n m _ hnm h1]
    exact hf a ts n m r hnm h2
theorem grows_if {α : Type} {c : Prop} [Decidable c] {x y : Nat → Out α} (hx : Grows x) (hy : Grows y) : Grows fun n => if c then x n else y n := by
  intro n m r hnm h
  by_cases hc : c
  · simp only [if_pos hc] at h ⊢; exact hx n m r hnm h
  · simp only [if_neg hc] at h ⊢; exact hy n m r hnm h

theorem ex_grows (sz : Nat) : ∀ m a ts, Grows fun n => ex sz n m a ts := by
  have key : ∀ n k m a ts r, n ≤ k → ex sz n m a ts = some r → ex sz k m a ts = some r := by
    intro n
    induction n with
    | zero => intro k m a ts r _ h; cases h
    | succ n ih =>
      intro k m a ts r hk h
      cases k with
      | zero => omega
      | succ k =>
        have hk' : n ≤ k := by omega
        have B : ∀ {m a ts r} {g : Nat → List Nd → List Tok → Out (List Nd)}, (∀ b q r, g n b q = some r → g k b q = some r) → obind (ex sz n m a ts) (g n) = some r → obind (ex sz k m a ts) (g k) = some r := by
          intro m a ts r g hg hh
          rcases obind_some hh with ⟨e, h1, rfl⟩ | ⟨b, q, h1, h2⟩
          · rw [ih k _ _ _ _ hk' h1]; rfl
          · rw [ih k _ _ _ _ hk' h1]; exact hg b q r h2
        unfold ex at h ⊢
        split at h
        · rename_i c1
          rw [if_pos c1]
          split at h
          · rename_i c2; rw [if_pos c2]; exact h
          · rename_i c2
            rw [if_neg c2]
            exact B (g := fun n b q => ex sz n m (over2 (oper (m - 10) ts) a b) q) (fun b q r hh => ih k _ _ _ _ hk' hh) h
        · rename_i c1
          rw [if_neg c1]
          split at h
          · rename_i c2
            rw [if_pos c2]
            split at h
            · rename_i c3; rw [if_pos c3]; exact B (g := fun _ b q => some (.ok (over1 20 b, q))) (fun _ _ _ hh => hh) h
            · rename_i c3; rw [if_neg c3]; exact ih k _ _ _ _ hk' h
          · rename_i c2
            rw [if_neg c2]
            split at h
            · rename_i c3
              rw [if_pos c3]
              refine B (g := fun n b q => tail4 sz (ex sz n 5 []) b q) (fun b q r hh => ?_) h
              unfold tail4 at hh ⊢
              split at hh
              · rename_i c4; rw [if_pos c4]; exact hh
              · rename_i c4
                rw [if_neg c4]
                split at hh
                · rename_i c5; rw [if_pos c5]; exact hh
                · rename_i c5; rw [if_neg c5]; exact B (g := fun _ b' q' => some (.ok (over2 (oper 4 q) b b', q'))) (fun _ _ _ h3 => h3) hh
            · rename_i c3
              rw [if_neg c3]
              split at h
              · rename_i c4
                rw [if_pos c4]
                split at h
                · rename_i c5
                  rw [if_pos c5]
                  split at h
                  · rename_i c6; rw [if_pos c6]; exact h
                  · rename_i c6; rw [if_neg c6]; exact B (g := fun _ b q => negate (plc sz ts) b q) (fun _ _ _ hh => hh) h
                · rename_i c5; rw [if_neg c5]; exact ih k _ _ _ _ hk' h
              · rename_i c4
                rw [if_neg c4]
                split at h
                · rename_i c5
                  rw [if_pos c5]
                  split at h
                  · rename_i c6; rw [if_pos c6]; exact B (g := fun _ b q => obind (must sz gShut q) fun _ q => some (.ok (b, q))) (fun _ _ _ hh => hh) h
                  · rename_i c6; rw [if_neg c6]; exact h
                · rename_i c5
                  rw [if_neg c5]
                  exact B (g := fun n b q => ex sz n (m + 10) b q) (fun b q r hh => ih k _ _ _ _ hk' hh) h
  intro m a ts n k r hnk h
  exact key n k m a ts r hnk h

/-- AN EXPRESSION IS READ SO. -/
def Ex (sz m : Nat) (a : List Nd) (ts : List Tok) (r : Except (Nat × Nat) (List Nd × List Tok)) : Prop := ∃ n, ex sz n m a ts = some r
theorem Ex.one {sz m : Nat} {a : List Nd} {ts : List Tok} {r r' : Except (Nat × Nat) (List Nd × List Tok)} (h : Ex sz m a ts r) (h' : Ex sz m a ts r') : r = r' := by
  obtain ⟨n, hn⟩ := h
  obtain ⟨k, hk⟩ := h'
  have e1 := ex_grows sz m a ts n (max n k) r (Nat.le_max_left _ _) hn
  have e2 := ex_grows sz m a ts k (max n k) r' (Nat.le_max_right _ _) hk
  exact Option.some.inj (e1.symm.trans e2)
end Px
end Go.Proofs.YtihchcoclncjdaaDoor
