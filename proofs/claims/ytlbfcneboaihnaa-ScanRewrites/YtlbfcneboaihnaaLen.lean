/- Len, in the code and in the document's own answer. -/
import Derived.Test.YtlbfcneboaihnaaNum
import Derived.Test.YtlbfcneboaihnaaOwn
import Derived.Test.YtlbfcneboaihnaaHexref
namespace Go.Proofs.Ytlbfcneboaihnaa
open Go.RowKit Go.Great
/-- How many digits. -/
def lenI (n : Int) : Int := (8 * max 0 (min n 16777216) + 4) / 5
theorem lenI_nat (n : Nat) (h : n ≤ 16777216) : lenI (n : Int) = ((Sha.lenOf n : Nat) : Int) := by
  unfold lenI Sha.lenOf; omega
set_option maxHeartbeats 400000 in
theorem len_any (n : Int) (w : World) : Calls Try.prog 99 #[.int .i64 n] w fun e w' => e = .returned (.int .i64 (lenI n)) ∧ w' = w := by
  by_cases h : n < 1
  · go_enter Try.func99, Try.ntmps99
    go_wp2
    go_ret
    exact ⟨ret_int (by unfold lenI; omega), rfl⟩
  · by_cases h2 : n ≤ 16777216
    · go_enter Try.func99, Try.ntmps99
      go_wp2
      go_ret
      exact ⟨ret_int (by unfold lenI; omega), rfl⟩
    · go_enter Try.func99, Try.ntmps99
      go_wp2
      go_ret
      exact ⟨ret_int (by unfold lenI; omega), rfl⟩
set_option maxHeartbeats 400000 in
theorem lenRef_any (n : Int) (w : World) : Calls Try.prog 61 #[.int .i64 n] w fun e w' => e = .returned (.int .i64 (lenI n)) ∧ w' = w := by
  go_enter Try.func61, Try.ntmps61
  go_wp2
  go_ret
  exact ⟨ret_int (by unfold lenI; omega), rfl⟩
end Go.Proofs.Ytlbfcneboaihnaa
