/- Behind an error of the FS nothing is taken any more: for every row of bytes the law JournalDead returns true; no condition. -/
import Derived.Test.YtebcmicmklpflaaGreatDoorJournalDead0
namespace Go.Proofs.YtebcmicmklpflaaGreatDoor
open Go.ChangeShapes Go.WideShapes Go.ChangeAt Go.RowKit
namespace journalDead
theorem over : Rows.journalDeadRow.holds Tryz.pinned (OpenSpec.ofChange Rows.journalDeadSpec) :=
  OpenClaim.holds_of_wide 5 Tryz.f5 rfl rfl rfl rfl rfl rfl rfl ⟨rfl, rfl, rfl, rfl, rfl⟩ rfl rfl rfl rfl rfl (by kernel_rfl) Tryz.func5 (by kernel_rfl)
    (of_decide_eq_true (by kernel_rfl)) (by unfold Func.isWrapper; first | (rw [if_pos (by decide +kernel)]; kernel_rfl) | (rw [if_neg (by decide +kernel)]; exact ⟨rfl, rfl⟩))
    (fun os started H enc _ => lifted os started H enc)
end journalDead
theorem journalDead_holds : Rows.JournalDeadSaid := journalDead.over
end Go.Proofs.YtebcmicmklpflaaGreatDoor
