/- groups, of lists that are unlike in length. -/
import Derived.Test.YtebcmicmklpflaaGreatDoorSc
namespace Go.Proofs.YtebcmicmklpflaaGreatDoor
open Go.RowKit Go.Maps
set_option linter.unusedSimpArgs false
set_option maxRecDepth 20000 in
theorem groups_len (a b : Option Addr) (n m c d : Nat) (h : n ≠ m) (w : World) : Calls Tryz.prog 19 #[.slice a n c, .slice b m d] w fun e w' => e = .returned (.bool false) ∧ w' = w := by
  have h1 : ¬ ((n : Int) = (m : Int)) := by omega
  have h2 : ((n : Int) == (m : Int)) = false := by rw [beq_eq_false_iff_ne]; exact h1
  go_enter Tryz.func19, Tryz.ntmps19
  go_wp2_with fail
  go_ret
  exact ⟨rfl, rfl⟩
end Go.Proofs.YtebcmicmklpflaaGreatDoor
