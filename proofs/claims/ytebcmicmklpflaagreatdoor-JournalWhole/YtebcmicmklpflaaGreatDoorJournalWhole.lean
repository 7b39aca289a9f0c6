/- Whatever a fuse burns and a crash keeps, what is there is what the document had, or what it may have: for every script, fuse and crash the law JournalWhole returns true; no condition. -/
import Derived.Test.YtebcmicmklpflaaGreatDoorJournalWhole0
namespace Go.Proofs.YtebcmicmklpflaaGreatDoor
open Go.ChangeShapes Go.WideShapes Go.ChangeAt Go.RowKit
namespace journalWhole
theorem over : Rows.journalWholeRow.holds Tryz.pinned (OpenSpec.ofChange Rows.journalWholeSpec) :=
  OpenClaim.holds_of_wide 4 Tryz.f4 rfl rfl rfl rfl rfl rfl rfl ⟨rfl, rfl, rfl, rfl, rfl⟩ rfl rfl rfl rfl rfl (by kernel_rfl) Tryz.func4 (by kernel_rfl)
    (of_decide_eq_true (by kernel_rfl)) (by unfold Func.isWrapper; first | (rw [if_pos (by decide +kernel)]; kernel_rfl) | (rw [if_neg (by decide +kernel)]; exact ⟨rfl, rfl⟩))
    (fun os started H enc _ => lifted os started H enc)
end journalWhole
theorem journalWhole_holds : Rows.JournalWholeSaid := journalWhole.over
end Go.Proofs.YtebcmicmklpflaaGreatDoor
