/- Parts of the proof: DivA -/
import Derived.Test.YtaiebhhommgnbaaGreatDoorRows
import Derived.JoinedCond
import Derived.KernelRfl
namespace Go.Proofs.YtaiebhhommgnbaaGreatDoor
set_option linter.unusedSimpArgs false
set_option linter.unusedVariables false
set_option maxRecDepth 100000
set_option maxHeartbeats 16000000
theorem divided_in : (Rows.dividedRow.inPlace == Tryz.pinned.checked.prog.inPlace 3) = true := by kernel_rfl
theorem divided_un : (Rows.dividedRow.unfollowed == Tryz.pinned.checked.prog.unfollowed 3) = true := by kernel_rfl
theorem divided_re : (Rows.dividedRow.recurses == Tryz.pinned.checked.prog.recurses 3) = true := by kernel_rfl
theorem divided_na : (Rows.dividedRow.named == Tryz.pinned.checked.prog.varsNamed 3) = true := by kernel_rfl
end Go.Proofs.YtaiebhhommgnbaaGreatDoor
