/- Fold, in the code and in the document's own answer: the same twenty bytes. -/
import Derived.Test.YtlbfcneboaihnaaHex
namespace Go.Proofs.Ytlbfcneboaihnaa
open Go.RowKit Go.Great
attribute [local go_sem] f_8 f_1024 f_hi4 f_lo4

@[go_sem] theorem lt_two (a : Nat) : a < a + 1 + 1 := by omega
@[go_sem] theorem lt_three (a : Nat) : a < a + 1 + 1 + 1 := by omega
@[go_sem] theorem lt_four (a : Nat) : a < a + 1 + 1 + 1 + 1 := by omega
/-- The twenty bytes behind the first i of the digest. -/
def foldTo (l : List Nat) : Nat → List Nat
  | 0 => zs 20
  | i + 1 => (foldTo l i).set (i % 20) (x8 (Sha.nth (foldTo l i) (i % 20)) (Sha.nth l i))
theorem foldTo_length (l : List Nat) (i : Nat) : (foldTo l i).length = 20 := by
  induction i with
  | zero => exact zs_length 20
  | succ i ih => simp [foldTo, ih]
theorem Z49_zs : Z49 = E8 (zs 20) := rfl

end Go.Proofs.Ytlbfcneboaihnaa
