/- The tied card of TreeAbove. -/
import Derived.Test.YthfjofmfiklegabDoorTreeAbove
import Derived.Test.YthfjofmfiklegabDoorCards
import Derived.Test.YthfjofmfiklegabDoorTie
import Derived.SevenTiedAt
namespace Go.Proofs.YthfjofmfiklegabDoor
open Go
theorem treeAbove_card : Rows.TreeAboveCardSaid :=
  Claim7.holds_tied_plain_at .later [] [.data, .pinned] true (true, "feeecddc5d42d8d435acee1c8dd1421879fe86c4bedbcec8e0991b9ea4855cfa") false
    treeAbove_holds (fun _ h => by cases h) (by kernel_rfl) (fun _ h => by cases h) treeAbove_row_tie rfl ⟨rfl, rfl⟩ (by kernel_rfl) rfl
    (fun f fn hf hfn => by
      obtain rfl : f = 3 := Option.some.inj ((show Tryd.prog.funcNamed "pantry/pantrylaw4.TreeAbove" = some 3 by kernel_rfl).symm.trans hf) |>.symm
      obtain rfl : fn = Tryd.f3 := (Option.some.inj (Tryd.func3.symm.trans hfn)).symm
      exact ⟨by kernel_rfl, fun j t ht => by
        rw [Tryd.params3] at ht
        have hm : t ∈ [26, 9, 26] := by simpa using Array.mem_of_getElem? ht
        have hall : ([26, 9, 26].all fun u => !Tryd.prog.wantsStandIn u) = true := by kernel_rfl
        exact (show Tryd.prog.wantsStandIn t = false by simpa using List.all_eq_true.1 hall t hm)⟩)
    (by kernel_rfl)
end Go.Proofs.YthfjofmfiklegabDoor
