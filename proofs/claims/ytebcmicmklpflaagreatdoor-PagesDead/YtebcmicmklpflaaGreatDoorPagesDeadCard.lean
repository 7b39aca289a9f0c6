/- The tied card of PagesDead. -/
import Derived.Test.YtebcmicmklpflaaGreatDoorPagesDead
import Derived.Test.YtebcmicmklpflaaGreatDoorCards
import Derived.Test.YtebcmicmklpflaaGreatDoorTie
import Derived.SevenTiedAt
namespace Go.Proofs.YtebcmicmklpflaaGreatDoor
open Go
theorem pagesDead_card : Rows.PagesDeadCardSaid :=
  Claim7.holds_tied_plain_at .later [] [.data, .data, .data, .sentinel, .sentinel] true (true, "19f48768159f6d0a356ed4034c0f11e550f52fbeb0966ad74c8797d6810b7617") true
    pagesDead_holds (fun _ h => by cases h) (by kernel_rfl) (fun _ h => by cases h) pagesDead_row_tie rfl ⟨rfl, rfl⟩ (by kernel_rfl) rfl
    (fun f fn hf hfn => by
      obtain rfl : f = 10 := Option.some.inj ((show Tryz.prog.funcNamed "pantry/pantrylaw9.PagesDead" = some 10 by kernel_rfl).symm.trans hf) |>.symm
      obtain rfl : fn = Tryz.f10 := (Option.some.inj (Tryz.func10.symm.trans hfn)).symm
      exact ⟨by kernel_rfl, fun j t ht => by
        rw [Tryz.params10] at ht
        have hm : t ∈ [39] := by simpa using Array.mem_of_getElem? ht
        have hall : ([39].all fun u => !Tryz.prog.wantsStandIn u) = true := by kernel_rfl
        exact (show Tryz.prog.wantsStandIn t = false by simpa using List.all_eq_true.1 hall t hm)⟩)
    (by kernel_rfl)
end Go.Proofs.YtebcmicmklpflaaGreatDoor
