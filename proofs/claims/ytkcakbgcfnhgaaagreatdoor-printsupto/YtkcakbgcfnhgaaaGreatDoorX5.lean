/- Parts of the proof: CpH CpI CpJ CpD CpK CpL CpM CpN CpO CpP -/
import Derived.Test.YtkcakbgcfnhgaaaGreatDoorX4
namespace Go.Proofs.YtkcakbgcfnhgaaaGreatDoor
set_option linter.unusedSimpArgs false
set_option linter.unusedVariables false
set_option maxRecDepth 100000
set_option maxHeartbeats 16000000
open Go.RowKit


structure LeftAt (sz m : Nat) (q : List Lx.Tok) (e : Px.E) (q1 : List Lx.Tok) : Prop where
 ok : e.ok 2000
 len : q1.length < q.length
 goes : ∀ r, Px.Ex sz (m + 10) e.nodes q1 r → Px.Ex sz m [] q r

def ev? : Option Px.E → Value
 | none => .nilIface
 | some e => ev e




theorem Tryz.info97 : (Tryz.prog.info? 97).map (fun i => (i.zero, i.size, i.bytes)) = some (some .nilIface, 1, 16) := by kernel_rfl
def lsV {α : Type} (B : Nat) (T : TypeId) (size : Nat) (cl : α → List Value) (l : List α) (v : Value) (w : World) : Prop := w.ownsRow (B + 1) T size v l.length (l.flatMap cl)
def exC (e : Px.E) : List Value := [ev e]
def setC (x : Lx.Bs × Px.E) : List Value := [.string ⟨x.1.toArray⟩, ev x.2]
def itemC : Option Px.E → List Value
 | none => [.bool true, .nilIface]
 | some e => [.bool false, ev e]
def orderC (x : Px.E × Bool) : List Value := [ev x.1, .bool x.2]
def colC (x : Lx.Bs × Nat) : List Value := [.string ⟨x.1.toArray⟩, .int .i64 (x.2 : Int)]
theorem flat_snoc {α : Type} (cl : α → List Value) (l : List α) (a : α) : (l ++ [a]).flatMap cl = l.flatMap cl ++ cl a := by simp
theorem ownBase {w : World} {base base' : Nat} {e : TypeId} {size : Nat} {v : Value} {n : Nat} {xs : List Value} (h : w.ownsRow base e size v n xs) (hb : base' ≤ base) : w.ownsRow base' e size v n xs := by
 refine ⟨h.1, ?_⟩
 rcases h.2 with hn | ⟨g, cap, cur, hv, hg, r⟩
 · exact .inl hn
 · exact .inr ⟨g, cap, cur, hv, by omega, r⟩
theorem one_news (w : World) (a : Value) (t : TypeId) : ∀ j u, ([a] : List Value)[j]? = some u → (w.alloc (.cells #[a] t)).cell? ((⟨w.heap.size, 0, none⟩ : Addr).add j) = some u := by
 intro j u hu
 rw [Addr.add_lit, Nat.zero_add, (Blk.new w #[a] t).cell]
 simpa using hu
theorem two_news (w : World) (a b : Value) (t : TypeId) : ∀ j u, ([a, b] : List Value)[j]? = some u → (w.alloc (.cells #[a, b] t)).cell? ((⟨w.heap.size, 0, none⟩ : Addr).add j) = some u := by
 intro j u hu
 rw [Addr.add_lit, Nat.zero_add, (Blk.new w #[a, b] t).cell]
 simpa using hu
end Go.Proofs.YtkcakbgcfnhgaaaGreatDoor
