/- A nil Pager has no page; without a FS, or with no name, there is none; no condition. -/
import Derived.Test.YtebcmicmklpflaaGreatDoorPagesOfNothing0
namespace Go.Proofs.YtebcmicmklpflaaGreatDoor
open Go.ChangeShapes Go.WideShapes Go.ChangeAt Go.RowKit
namespace pagesOfNothing
theorem over : Rows.pagesOfNothingRow.holds Tryz.pinned (OpenSpec.ofChange Rows.pagesOfNothingSpec) :=
  OpenClaim.holds_of_wide 12 Tryz.f12 rfl rfl rfl rfl rfl rfl rfl ⟨rfl, rfl, rfl, rfl, rfl⟩ rfl rfl rfl rfl rfl (by kernel_rfl) Tryz.func12 (by kernel_rfl)
    (of_decide_eq_true (by kernel_rfl)) (by unfold Func.isWrapper; first | (rw [if_pos (by decide +kernel)]; kernel_rfl) | (rw [if_neg (by decide +kernel)]; exact ⟨rfl, rfl⟩))
    (fun os started H enc _ => lifted os started H enc)
end pagesOfNothing
theorem pagesOfNothing_holds : Rows.PagesOfNothingSaid := pagesOfNothing.over
end Go.Proofs.YtebcmicmklpflaaGreatDoor
