/- The tied card of JournalWhole. -/
import Derived.Test.YtebcmicmklpflaaGreatDoorJournalWhole
import Derived.Test.YtebcmicmklpflaaGreatDoorCards
import Derived.Test.YtebcmicmklpflaaGreatDoorTie
import Derived.SevenTiedAt
namespace Go.Proofs.YtebcmicmklpflaaGreatDoor
open Go
theorem journalWhole_card : Rows.JournalWholeCardSaid :=
  Claim7.holds_tied_plain_at .later [] [.data, .data, .data, .sentinel, .sentinel] true (true, "19f48768159f6d0a356ed4034c0f11e550f52fbeb0966ad74c8797d6810b7617") true
    journalWhole_holds (fun _ h => by cases h) (by kernel_rfl) (fun _ h => by cases h) journalWhole_row_tie rfl ⟨rfl, rfl⟩ (by kernel_rfl) rfl
    (fun f fn hf hfn => by
      obtain rfl : f = 4 := Option.some.inj ((show Tryz.prog.funcNamed "pantry/pantrylaw8.JournalWhole" = some 4 by kernel_rfl).symm.trans hf) |>.symm
      obtain rfl : fn = Tryz.f4 := (Option.some.inj (Tryz.func4.symm.trans hfn)).symm
      exact ⟨by kernel_rfl, fun j t ht => by
        rw [Tryz.params4] at ht
        have hm : t ∈ [22, 3, 3] := by simpa using Array.mem_of_getElem? ht
        have hall : ([22, 3, 3].all fun u => !Tryz.prog.wantsStandIn u) = true := by kernel_rfl
        exact (show Tryz.prog.wantsStandIn t = false by simpa using List.all_eq_true.1 hall t hm)⟩)
    (by kernel_rfl)
end Go.Proofs.YtebcmicmklpflaaGreatDoor
