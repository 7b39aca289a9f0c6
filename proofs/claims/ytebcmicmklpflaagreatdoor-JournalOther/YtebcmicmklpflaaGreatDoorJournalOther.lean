/- Bytes that are no journal are none, and change nothing: for all rows of bytes the law JournalOther returns true; no condition. -/
import Derived.Test.YtebcmicmklpflaaGreatDoorJournalOther0
namespace Go.Proofs.YtebcmicmklpflaaGreatDoor
open Go.ChangeShapes Go.WideShapes Go.ChangeAt Go.RowKit
namespace journalOther
theorem over : Rows.journalOtherRow.holds Tryz.pinned (OpenSpec.ofChange Rows.journalOtherSpec) :=
  OpenClaim.holds_of_wide 6 Tryz.f6 rfl rfl rfl rfl rfl rfl rfl ⟨rfl, rfl, rfl, rfl, rfl⟩ rfl rfl rfl rfl rfl (by kernel_rfl) Tryz.func6 (by kernel_rfl)
    (of_decide_eq_true (by kernel_rfl)) (by unfold Func.isWrapper; first | (rw [if_pos (by decide +kernel)]; kernel_rfl) | (rw [if_neg (by decide +kernel)]; exact ⟨rfl, rfl⟩))
    (fun os started H enc _ => lifted os started H enc)
end journalOther
theorem journalOther_holds : Rows.JournalOtherSaid := journalOther.over
end Go.Proofs.YtebcmicmklpflaaGreatDoor
