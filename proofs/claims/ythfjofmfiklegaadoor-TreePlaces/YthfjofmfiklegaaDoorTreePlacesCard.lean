/- The tied card of TreePlaces. -/
import Derived.Test.YthfjofmfiklegaaDoorTreePlaces
import Derived.Test.YthfjofmfiklegaaDoorCards
import Derived.Test.YthfjofmfiklegaaDoorTie
import Derived.SevenTiedAt
namespace Go.Proofs.YthfjofmfiklegaaDoor
open Go
theorem treePlaces_card : Rows.TreePlacesCardSaid :=
  Claim7.holds_tied_plain_at .later [] [.data, .pinned] true (true, "8f73117cfac9cdde062d0ee098b7fc0bd51da47a79631060dd3b566fd152bc2f") false
    treePlaces_holds (fun _ h => by cases h) (by kernel_rfl) (fun _ h => by cases h) treePlaces_row_tie rfl ⟨rfl, rfl⟩ (by kernel_rfl) rfl
    (fun f fn hf hfn => by
      obtain rfl : f = 5 := Option.some.inj ((show Tryd.prog.funcNamed "pantry/pantrylaw4.TreePlaces" = some 5 by kernel_rfl).symm.trans hf) |>.symm
      obtain rfl : fn = Tryd.f5 := (Option.some.inj (Tryd.func5.symm.trans hfn)).symm
      exact ⟨by kernel_rfl, fun j t ht => by
        rw [Tryd.params5] at ht
        have hm : t ∈ [26, 9] := by simpa using Array.mem_of_getElem? ht
        have hall : ([26, 9].all fun u => !Tryd.prog.wantsStandIn u) = true := by kernel_rfl
        exact (show Tryd.prog.wantsStandIn t = false by simpa using List.all_eq_true.1 hall t hm)⟩)
    (by kernel_rfl)
end Go.Proofs.YthfjofmfiklegaaDoor
