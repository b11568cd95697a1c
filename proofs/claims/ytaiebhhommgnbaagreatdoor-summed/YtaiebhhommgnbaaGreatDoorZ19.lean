/- Parts of the proof: SumA -/
import Derived.Test.YtaiebhhommgnbaaGreatDoorRows
import Derived.JoinedCond
import Derived.KernelRfl
namespace Go.Proofs.YtaiebhhommgnbaaGreatDoor
set_option linter.unusedSimpArgs false
set_option linter.unusedVariables false
set_option maxRecDepth 100000
set_option maxHeartbeats 16000000
theorem summed_in : (Rows.summedRow.inPlace == Tryz.pinned.checked.prog.inPlace 4) = true := by kernel_rfl
theorem summed_un : (Rows.summedRow.unfollowed == Tryz.pinned.checked.prog.unfollowed 4) = true := by kernel_rfl
theorem summed_re : (Rows.summedRow.recurses == Tryz.pinned.checked.prog.recurses 4) = true := by kernel_rfl
theorem summed_na : (Rows.summedRow.named == Tryz.pinned.checked.prog.varsNamed 4) = true := by kernel_rfl
end Go.Proofs.YtaiebhhommgnbaaGreatDoor
