/- The tied card of ScanSelf. -/
import Derived.Test.YtlbfcneboaihnaaGreatDoorScanSelf
import Derived.Test.YtlbfcneboaihnaaGreatDoorCards
import Derived.Test.YtlbfcneboaihnaaGreatDoorTie
import Derived.SevenTiedAt
namespace Go.Proofs.YtlbfcneboaihnaaGreatDoor
open Go
theorem scanSelf_card : Rows.ScanSelfCardSaid :=
  Claim7.holds_tied_plain_at .later [] [.data, .data, .data] true (true, "2418ec2ca608219da9ba33dc3eb977f097a8fc8072551c3f64c5a82e41bec299") false
    scanSelf_holds (fun _ h => by cases h) (by kernel_rfl) (fun _ h => by cases h) scanSelf_row_tie rfl ⟨rfl, rfl⟩ (by kernel_rfl) rfl
    (fun f fn hf hfn => by
      obtain rfl : f = 4 := Option.some.inj ((show Tryz.prog.funcNamed "pantry/pantrylaw6.ScanSelf" = some 4 by kernel_rfl).symm.trans hf) |>.symm
      obtain rfl : fn = Tryz.f4 := (Option.some.inj (Tryz.func4.symm.trans hfn)).symm
      exact ⟨by kernel_rfl, fun j t ht => by
        rw [Tryz.params4] at ht
        have hm : t ∈ [22, 23, 23] := by simpa using Array.mem_of_getElem? ht
        have hall : ([22, 23, 23].all fun u => !Tryz.prog.wantsStandIn u) = true := by kernel_rfl
        exact (show Tryz.prog.wantsStandIn t = false by simpa using List.all_eq_true.1 hall t hm)⟩)
    (by kernel_rfl)
end Go.Proofs.YtlbfcneboaihnaaGreatDoor
