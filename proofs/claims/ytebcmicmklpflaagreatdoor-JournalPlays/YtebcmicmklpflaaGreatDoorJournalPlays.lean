/- Of every script each answer, and the groups, behind each step and crash are the document's: for every script the law JournalPlays returns true; no condition. -/
import Derived.Test.YtebcmicmklpflaaGreatDoorJournalPlays0
namespace Go.Proofs.YtebcmicmklpflaaGreatDoor
open Go.ChangeShapes Go.WideShapes Go.ChangeAt Go.RowKit
namespace journalPlays
theorem over : Rows.journalPlaysRow.holds Tryz.pinned (OpenSpec.ofChange Rows.journalPlaysSpec) :=
  OpenClaim.holds_of_wide 3 Tryz.f3 rfl rfl rfl rfl rfl rfl rfl ⟨rfl, rfl, rfl, rfl, rfl⟩ rfl rfl rfl rfl rfl (by kernel_rfl) Tryz.func3 (by kernel_rfl)
    (of_decide_eq_true (by kernel_rfl)) (by unfold Func.isWrapper; first | (rw [if_pos (by decide +kernel)]; kernel_rfl) | (rw [if_neg (by decide +kernel)]; exact ⟨rfl, rfl⟩))
    (fun os started H enc _ => lifted os started H enc)
end journalPlays
theorem journalPlays_holds : Rows.JournalPlaysSaid := journalPlays.over
end Go.Proofs.YtebcmicmklpflaaGreatDoor
