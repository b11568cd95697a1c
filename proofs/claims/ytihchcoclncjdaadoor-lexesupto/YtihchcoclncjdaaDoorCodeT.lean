/- What a caught fault tells. -/
import Derived.Test.YtihchcoclncjdaaDoorCodeH
import Derived.Defers
import Derived.Recover
namespace Go.Proofs.YtihchcoclncjdaaDoor
open Go.RowKit
set_option linter.unusedSimpArgs false
set_option linter.unusedVariables false

theorem fault_is (p c : Int) (w : World) : (Instr.typeAssert (.iface 58 (.agg #[.int .i64 p, .int .i64 c])) 20 58 true).run Tryd.prog w = .ok (.tuple #[.agg #[.int .i64 p, .int .i64 c], .bool true]) w := by kernel_rfl

set_option maxRecDepth 100000 in
set_option maxHeartbeats 1000000 in
theorem told_any (p c : Int) (w : World) :
    Calls Tryd.prog 12 #[.iface 58 (.agg #[.int .i64 p, .int .i64 c])] w fun e w' => e = .returned (.tuple #[.int .i64 p, .int .i64 c]) ∧ Below w.heap.size w w' := by
  have hta := fault_is p c
  go_enter Tryd.func12, Tryd.ntmps12
  go_wp2
  go_region
  all_goals go_wp2
  all_goals go_ret2
  all_goals exact ⟨rfl, ((Below.refl _ _).alloc (Nat.le_refl _) _).drew⟩
end Go.Proofs.YtihchcoclncjdaaDoor
