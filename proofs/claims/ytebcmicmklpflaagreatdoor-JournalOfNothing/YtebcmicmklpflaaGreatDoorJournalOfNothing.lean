/- Of nothing: for every row of bytes the law JournalOfNothing returns true; no condition. -/
import Derived.Test.YtebcmicmklpflaaGreatDoorJn0
namespace Go.Proofs.YtebcmicmklpflaaGreatDoor
open Go.ChangeShapes Go.WideShapes Go.ChangeAt Go.RowKit
namespace journalOfNothing
theorem over : Rows.journalOfNothingRow.holds Tryz.pinned (OpenSpec.ofChange Rows.journalOfNothingSpec) :=
  OpenClaim.holds_of_wide 7 Tryz.f7 rfl rfl rfl rfl rfl rfl rfl ⟨rfl, rfl, rfl, rfl, rfl⟩ rfl rfl rfl rfl rfl (by kernel_rfl) Tryz.func7 (by kernel_rfl)
    (of_decide_eq_true (by kernel_rfl)) (by unfold Func.isWrapper; first | (rw [if_pos (by decide +kernel)]; kernel_rfl) | (rw [if_neg (by decide +kernel)]; exact ⟨rfl, rfl⟩))
    (fun os started H enc _ => lifted os started H enc)
end journalOfNothing
theorem journalOfNothing_holds : Rows.JournalOfNothingSaid := journalOfNothing.over
end Go.Proofs.YtebcmicmklpflaaGreatDoor
