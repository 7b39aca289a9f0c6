/- Behind an error of the FS that is not ErrFull nothing is taken any more; no condition. -/
import Derived.Test.YtebcmicmklpflaaGreatDoorPagesDead0
namespace Go.Proofs.YtebcmicmklpflaaGreatDoor
open Go.ChangeShapes Go.WideShapes Go.ChangeAt Go.RowKit
namespace pagesDead
theorem over : Rows.pagesDeadRow.holds Tryz.pinned (OpenSpec.ofChange Rows.pagesDeadSpec) :=
  OpenClaim.holds_of_wide 10 Tryz.f10 rfl rfl rfl rfl rfl rfl rfl ⟨rfl, rfl, rfl, rfl, rfl⟩ rfl rfl rfl rfl rfl (by kernel_rfl) Tryz.func10 (by kernel_rfl)
    (of_decide_eq_true (by kernel_rfl)) (by unfold Func.isWrapper; first | (rw [if_pos (by decide +kernel)]; kernel_rfl) | (rw [if_neg (by decide +kernel)]; exact ⟨rfl, rfl⟩))
    (fun os started H enc _ => lifted os started H enc)
end pagesDead
theorem pagesDead_holds : Rows.PagesDeadSaid := pagesDead.over
end Go.Proofs.YtebcmicmklpflaaGreatDoor
