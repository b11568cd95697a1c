/- Which trees are well-formed and how one is printed, as plain functions on lists of nodes: no program is named here. -/
import Derived.Test.YtihchcoclncjdaaDoorPy
namespace Go.Proofs.YtihchcoclncjdaaDoor
namespace Px
open Lx (Bs Tok)

def isExpr (k : Int) : Bool := decide (14 ≤ k ∧ k ≤ 36)
def isName (s : Bs) : Bool := Lx.validN s && !s.isEmpty && decide (s.length ≤ 30)
/-- No text, no number, so many kids. -/
def bareN (x : Nd) (k : Int) : Bool := x.text.isEmpty && decide (x.num = 0) && decide (x.kids = k)

/-- May this node head an expression (r: what follows it)? -/
def nodeOk (x : Nd) (r : List Nd) : Bool :=
  if x.kind = 14 then bareN x 0
  else if x.kind = 15 then x.text.isEmpty && (decide (x.num = 0) || decide (x.num = 1)) && decide (x.kids = 0)
  else if x.kind = 16 then x.text.isEmpty && decide (x.kids = 0)
  else if x.kind = 17 then Lx.validN x.text && decide (x.num = 0) && decide (x.kids = 0)
  else if x.kind = 18 then isName x.text && decide (x.num = 0) && decide (x.kids = 0)
  else if x.kind = 19 then bareN x 1 && (match r with | [] => true | y :: _ => decide (y.kind ≠ 16))
  else if x.kind = 20 ∨ x.kind = 21 ∨ x.kind = 22 then bareN x 1
  else decide (23 ≤ x.kind ∧ x.kind ≤ 36) && bareN x 2

/-- What lies behind the expression at the head, if it is well-formed and at most so deep. -/
def wex : Nat → List Nd → Option (List Nd)
  | 0, _ => none
  | _ + 1, [] => none
  | d + 1, x :: r => if nodeOk x r = true then (if x.kids = 0 then some r else if x.kids = 1 then wex d r else (wex d r).bind (wex d)) else none

/-- So many expressions, one behind the other. -/
def wexs : Nat → List Nd → Option (List Nd)
  | 0, l => some l
  | k + 1, l => (wex 40 l).bind (wexs k)

/-- What lies behind the part of a statement at the head. -/
def wpart : List Nd → Option (List Nd)
  | [] => none
  | x :: r =>
    if x.kind = 2 then if isName x.text = true ∧ x.kids = 0 ∧ 1 ≤ x.num ∧ x.num ≤ 7 ∧ x.num ≠ 4 then some r else none
    else if x.kind = 5 then if x.text = [] ∧ x.num = 0 ∧ 1 ≤ x.kids then wexs x.kids.toNat r else none
    else if x.kind = 8 then if isName x.text = true ∧ x.num = 0 ∧ x.kids = 1 then wex 40 r else none
    else if x.kind = 10 then if bareN x 0 = true then some r else none
    else if x.kind = 11 then if bareN x 1 = true then wex 40 r else none
    else if x.kind = 12 then if x.text = [] ∧ 0 ≤ x.num ∧ x.num ≤ 1 ∧ x.kids = 1 then wex 40 r else none
    else if x.kind = 13 then if x.text = [] ∧ 0 ≤ x.num ∧ x.num ≤ 1000000000 ∧ x.kids = 0 then some r else none
    else wex 40 (x :: r)

def rank (k : Int) : Nat := if k = 11 then 2 else if k = 12 then 3 else if k = 13 then 4 else 1
def fits (top k : Int) : Bool :=
  if top = 1 then decide (k = 2) else if top = 4 then decide (k = 5) else if top = 6 then decide (k = 11)
  else if top = 7 then decide (k = 8) || decide (k = 11)
  else if top = 9 then isExpr k || decide (k = 10) || decide (k = 11) || decide (k = 12) || decide (k = 13)
  else false

/-- So many parts of a statement, none ahead of its rank: how many things. -/
def wparts (top : Int) : Nat → Nat → Nat → List Nd → Option Nat
  | 0, _, things, l => if l = [] then some things else none
  | _ + 1, _, _, [] => none
  | k + 1, last, things, x :: r =>
    if fits top x.kind = false ∨ rank x.kind < last ∨ (rank x.kind = last ∧ (rank x.kind = 2 ∨ rank x.kind = 4)) then none
    else (wpart (x :: r)).bind (wparts top k (rank x.kind) (if rank x.kind = 1 then things + 1 else things))

/-- A WELL-FORMED TREE. -/
def well : List Nd → Bool
  | [] => false
  | x :: r =>
    if isName x.text = false ∨ x.num ≠ 0 ∨ x.kids < 0 ∨ (r.length : Int) + 1 < x.kids then false
    else match wparts x.kind x.kids.toNat 1 0 r with
      | none => false
      | some things =>
        if x.kind = 1 then decide (1 ≤ things ∧ things ≤ 6)
        else if x.kind = 3 then decide (x.kids = 0)
        else if x.kind = 4 ∨ x.kind = 7 ∨ x.kind = 9 then decide (1 ≤ things)
        else decide (x.kind = 6)

/-! How a tree is printed. -/
def decF : Nat → Nat → Bs
  | 0, _ => []
  | f + 1, n => if n < 10 then [(48 + n).toUInt8] else decF f (n / 10) ++ [(48 + n % 10).toUInt8]
def dec (z : Int) : Bs := if z < 0 then 45 :: decF 20 z.natAbs else decF 20 z.natAbs
def dbl (m : UInt8) (s : Bs) : Bs := m :: (s.flatMap fun b => if b = m then [b, b] else [b]) ++ [m]
def lowWord (s : Bs) : Bool := (match s with | [] => false | b :: _ => Lx.isLet b) && decide (Lx.cnt Lx.isWd s = s.length) && !Lx.hasB Lx.keys (s.map Lx.upB) && s.map Lx.lowB == s
def nameT (s : Bs) : Bs := if lowWord s = true then s else dbl 34 s
def atomT (x : Nd) : Bs :=
  if x.kind = 18 then nameT x.text else if x.kind = 14 then kNULL else if x.kind = 16 then dec x.num else if x.kind = 17 then dbl 39 x.text else if x.num = 1 then kTRUE else kFALSE
def brk (s : Bs) (lvl least : Nat) : Bs := if lvl < least then 40 :: (s ++ [41]) else s
/-- An operator of two operands: its sign, its level. -/
def sgnT (k : Int) : Bs × Nat :=
  if k = 23 then (kOR, 1) else if k = 24 then (kAND, 2) else if k = 25 then ([61], 4) else if k = 26 then ([60, 62], 4) else if k = 27 then ([60], 4) else if k = 28 then ([60, 61], 4)
  else if k = 29 then ([62], 4) else if k = 30 then ([62, 61], 4) else if k = 31 then ([124, 124], 5) else if k = 32 then ([43], 6) else if k = 33 then ([45], 6) else if k = 34 then ([42], 7)
  else if k = 35 then ([47], 7) else ([37], 7)
def minusT (s : Bs) : Bs := match s with | 45 :: _ => 45 :: 32 :: s | _ => 45 :: s
def pre1 (k : Int) (a : Bs) (lvl : Nat) : Bs × Nat :=
  if k = 20 then (kNOT ++ [32] ++ brk a lvl 3, 3)
  else if k = 19 then (minusT (brk a lvl 8), 8)
  else if k = 21 then (brk a lvl 5 ++ [32, 73, 83, 32, 78, 85, 76, 76], 4)
  else (brk a lvl 5 ++ [32, 73, 83, 32, 78, 79, 84, 32, 78, 85, 76, 76], 4)
def pre2 (k : Int) (a : Bs) (la : Nat) (b : Bs) (lb : Nat) : Bs × Nat :=
  (brk a la (if (sgnT k).2 = 4 then 5 else (sgnT k).2) ++ [32] ++ (sgnT k).1 ++ [32] ++ brk b lb ((sgnT k).2 + 1), (sgnT k).2)

/-- The text of the expression at the head, its level, and what lies behind it (the tree is well-formed). -/
def ext : Nat → List Nd → (Bs × Nat) × List Nd
  | 0, l => (([], 0), l)
  | _ + 1, [] => (([], 0), [])
  | d + 1, x :: r =>
    if x.kind ≤ 18 then ((atomT x, if x.kind = 16 ∧ x.num < 0 then 8 else 9), r)
    else if x.kind ≤ 22 then (pre1 x.kind (ext d r).1.1 (ext d r).1.2, (ext d r).2)
    else (pre2 x.kind (ext d r).1.1 (ext d r).1.2 (ext d (ext d r).2).1.1 (ext d (ext d r).2).1.2, (ext d (ext d r).2).2)

def exts : Nat → List Nd → Bs × List Nd
  | 0, l => ([], l)
  | 1, l => ((ext 40 l).1.1, (ext 40 l).2)
  | k + 2, l => ((ext 40 l).1.1 ++ [44, 32] ++ (exts (k + 1) (ext 40 l).2).1, (exts (k + 1) (ext 40 l).2).2)

/-- The text of a part, and what lies behind it. -/
def partT : List Nd → Bs × List Nd
  | [] => ([], [])
  | x :: r =>
    if x.kind = 2 then (nameT x.text ++ [32] ++ (if x.num % 4 = 1 then kINTEGER else if x.num % 4 = 2 then kTEXT else kBOOLEAN) ++ (if 4 < x.num then [32] ++ kNOT ++ [32] ++ kNULL else []), r)
    else if x.kind = 5 then (40 :: ((exts x.kids.toNat r).1 ++ [41]), (exts x.kids.toNat r).2)
    else if x.kind = 8 then (nameT x.text ++ [32, 61, 32] ++ (ext 40 r).1.1, (ext 40 r).2)
    else if x.kind = 10 then ([42], r)
    else if x.kind = 11 then ([32] ++ kWHERE ++ [32] ++ (ext 40 r).1.1, (ext 40 r).2)
    else if x.kind = 12 then ((ext 40 r).1.1 ++ (if x.num = 1 then [32] ++ kDESC else []), (ext 40 r).2)
    else if x.kind = 13 then ([32] ++ kLIMIT ++ [32] ++ dec x.num, r)
    else ((ext 40 (x :: r)).1.1, (ext 40 (x :: r)).2)

/-- What is gathered of the parts: things, where, orders, limit. -/
structure Gath where
  things : Bs
  where_ : Bs
  orders : Bs
  limit : Bs
def gath1 (g : Gath) (k : Int) (s : Bs) : Gath :=
  if rank k = 1 then { g with things := (if g.things = [] then [] else g.things ++ [44, 32]) ++ s }
  else if rank k = 2 then { g with where_ := s }
  else if rank k = 3 then { g with orders := (if g.orders = [] then [32] ++ kORDER ++ [32] ++ kBY ++ [32] else g.orders ++ [44, 32]) ++ s }
  else { g with limit := s }
def gath : Nat → Gath → List Nd → Gath
  | 0, g, _ => g
  | _ + 1, g, [] => g
  | k + 1, g, x :: r => gath k (gath1 g x.kind (partT (x :: r)).1) (partT (x :: r)).2

def text : List Nd → Bs
  | [] => []
  | x :: r =>
    let g := gath x.kids.toNat ⟨[], [], [], []⟩ r
    if x.kind = 1 then kCREATE ++ [32] ++ kTABLE ++ [32] ++ nameT x.text ++ [32, 40] ++ g.things ++ [41]
    else if x.kind = 3 then kDROP ++ [32] ++ kTABLE ++ [32] ++ nameT x.text
    else if x.kind = 4 then kINSERT ++ [32] ++ kINTO ++ [32] ++ nameT x.text ++ [32] ++ kVALUES ++ [32] ++ g.things
    else if x.kind = 6 then kDELETE ++ [32] ++ kFROM ++ [32] ++ nameT x.text ++ g.where_
    else if x.kind = 7 then kUPDATE ++ [32] ++ nameT x.text ++ [32] ++ kSET ++ [32] ++ g.things ++ g.where_
    else kSELECT ++ [32] ++ g.things ++ [32] ++ kFROM ++ [32] ++ nameT x.text ++ g.where_ ++ g.orders ++ g.limit

/-- P5 of the document: the text, or the error's number. -/
def print (l : List Nd) : Bs × Nat := if well l = false then ([], 7) else if 2000 < (text l).length then ([], 1) else (text l, 0)

/-! The depth of a tree's expressions. -/
/-- The depth of the tree at the head, and what lies behind it; none: there is none (or more fuel is wanted). -/
def tr : Nat → List Nd → Option (Nat × List Nd)
  | 0, _ => none
  | _ + 1, [] => none
  | n + 1, x :: r =>
    if x.kids = 0 then some (1, r)
    else if x.kids = 1 then (tr n r).bind fun y => some (y.1 + 1, y.2)
    else if x.kids = 2 then (tr n r).bind fun y => (tr n y.2).bind fun z => some (max y.1 z.1 + 1, z.2)
    else none
/-- The greatest depth of all expressions of a statement's tree. -/
def deep : Nat → List Nd → Option Nat
  | 0, _ => none
  | _ + 1, [] => some 0
  | n + 1, x :: r => if isExpr x.kind = true then (tr (n + 1) (x :: r)).bind fun y => (deep n y.2).bind fun d => some (max y.1 d) else deep n r

/-- P4 of the document: the tree of a text, or the error's place and number. -/
def Parse (s : Bs) (r : Except (Nat × Nat) (List Nd)) : Prop :=
  match Lx.lex s with
  | .error e => r = .error e
  | .ok ts => ∃ n q, whole s.length n ts = some q ∧ match q with
    | .error e => r = .error e
    | .ok (a, _) => ∃ d, deep (a.length + 1) a = some d ∧ r = if 40 < d then .error (0, 6) else .ok a
end Px
end Go.Proofs.YtihchcoclncjdaaDoor
