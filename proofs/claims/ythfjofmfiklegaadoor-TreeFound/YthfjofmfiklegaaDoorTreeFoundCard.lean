/- The tied card of TreeFound. -/
import Derived.Test.YthfjofmfiklegaaDoorTreeFound
import Derived.Test.YthfjofmfiklegaaDoorCards
import Derived.Test.YthfjofmfiklegaaDoorTie
import Derived.SevenTiedAt
namespace Go.Proofs.YthfjofmfiklegaaDoor
open Go
theorem treeFound_card : Rows.TreeFoundCardSaid :=
  Claim7.holds_tied_plain_at .later [] [.data, .pinned] true (true, "8f73117cfac9cdde062d0ee098b7fc0bd51da47a79631060dd3b566fd152bc2f") false
    treeFound_holds (fun _ h => by cases h) (by kernel_rfl) (fun _ h => by cases h) treeFound_row_tie rfl ⟨rfl, rfl⟩ (by kernel_rfl) rfl
    (fun f fn hf hfn => by
      obtain rfl : f = 8 := Option.some.inj ((show Tryd.prog.funcNamed "pantry/pantrylaw4.TreeFound" = some 8 by kernel_rfl).symm.trans hf) |>.symm
      obtain rfl : fn = Tryd.f8 := (Option.some.inj (Tryd.func8.symm.trans hfn)).symm
      exact ⟨by kernel_rfl, fun j t ht => by
        rw [Tryd.params8] at ht
        have hm : t ∈ [26, 9, 22] := by simpa using Array.mem_of_getElem? ht
        have hall : ([26, 9, 22].all fun u => !Tryd.prog.wantsStandIn u) = true := by kernel_rfl
        exact (show Tryd.prog.wantsStandIn t = false by simpa using List.all_eq_true.1 hall t hm)⟩)
    (by kernel_rfl)
end Go.Proofs.YthfjofmfiklegaaDoor
