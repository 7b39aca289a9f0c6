/- A page that is given back is taken again, ahead of a new one, and is empty then; no condition. -/
import Derived.Test.YtebcmicmklpflaaGreatDoorPagesReuse0
namespace Go.Proofs.YtebcmicmklpflaaGreatDoor
open Go.ChangeShapes Go.WideShapes Go.ChangeAt Go.RowKit
namespace pagesReuse
theorem over : Rows.pagesReuseRow.holds Tryz.pinned (OpenSpec.ofChange Rows.pagesReuseSpec) :=
  OpenClaim.holds_of_wide 11 Tryz.f11 rfl rfl rfl rfl rfl rfl rfl ⟨rfl, rfl, rfl, rfl, rfl⟩ rfl rfl rfl rfl rfl (by kernel_rfl) Tryz.func11 (by kernel_rfl)
    (of_decide_eq_true (by kernel_rfl)) (by unfold Func.isWrapper; first | (rw [if_pos (by decide +kernel)]; kernel_rfl) | (rw [if_neg (by decide +kernel)]; exact ⟨rfl, rfl⟩))
    (fun os started H enc _ => lifted os started H enc)
end pagesReuse
theorem pagesReuse_holds : Rows.PagesReuseSaid := pagesReuse.over
end Go.Proofs.YtebcmicmklpflaaGreatDoor
