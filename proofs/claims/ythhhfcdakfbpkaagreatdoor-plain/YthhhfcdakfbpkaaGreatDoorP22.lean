/- Parts of the proof -/
import Derived.Test.YthhhfcdakfbpkaaGreatDoorRows
import Derived.JoinedCond
import Derived.KernelRfl
namespace Go.Proofs.YthhhfcdakfbpkaaGreatDoor
set_option linter.unusedSimpArgs false
set_option linter.unusedVariables false
set_option maxRecDepth 100000
set_option maxHeartbeats 16000000
theorem JB:(Rows.plainRow.inPlace==Tryz.pinned.checked.prog.inPlace 4)=true:=by kernel_rfl
theorem JV:(Rows.plainRow.unfollowed==Tryz.pinned.checked.prog.unfollowed 4)=true:=by kernel_rfl
theorem Jw:(Rows.plainRow.recurses==Tryz.pinned.checked.prog.recurses 4)=true:=by kernel_rfl
theorem GI:(Rows.plainRow.named==Tryz.pinned.checked.prog.varsNamed 4)=true:=by kernel_rfl
end Go.Proofs.YthhhfcdakfbpkaaGreatDoor
