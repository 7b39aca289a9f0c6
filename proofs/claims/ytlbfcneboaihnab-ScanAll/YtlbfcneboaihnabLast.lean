/- The last step: the state as bytes, and the padded end of a row of bytes. -/
import Derived.Test.YtlbfcneboaihnabAdd
namespace Go.Proofs.Ytlbfcneboaihnab
open Go.RowKit Go.Great
attribute [local go_sem] f_8 f_1024

/-- A row of numbers, and noughts behind it up to n. -/
def padTo (n : Nat) (l : List Nat) : List Nat := l ++ List.replicate (n - l.length) 0
theorem padTo_length (n : Nat) (l : List Nat) (h : l.length ≤ n) : (padTo n l).length = n := by simp [padTo]; omega
theorem padTo_set (n : Nat) (l : List Nat) (k x : Nat) (hk : l.length = k) (h : k < n) : (padTo n l).set k x = padTo n (l ++ [x]) := by
  subst hk
  unfold padTo
  rw [List.set_append_right _ _ (Nat.le_refl _), Nat.sub_self]
  obtain ⟨m, hm⟩ : ∃ m, n - l.length = m + 1 := ⟨n - l.length - 1, by omega⟩
  have e : n - (l ++ [x]).length = m := by simp; omega
  rw [hm, e, List.replicate_succ]
  simp
theorem padTo_full (n : Nat) (l : List Nat) (h : l.length = n) : padTo n l = l := by simp [padTo, h]
theorem padTo_nil (n : Nat) : padTo n [] = List.replicate n 0 := rfl

theorem outAt_cast (l : List Nat) (k : Nat) : ((Sha.nth l (k / 4) : Nat) : Int) / 2 ^ (24 - 8 * (k % 4)) % 256 = ((Sha.outAt l k : Nat) : Int) := by
  unfold Sha.outAt
  have e : ((Sha.nth l (k / 4) : Nat) : Int) / 2 ^ (24 - 8 * (k % 4)) = ((Sha.nth l (k / 4) / 2 ^ (24 - 8 * (k % 4)) : Nat) : Int) := by push_cast; rfl
  rw [e]; omega

end Go.Proofs.Ytlbfcneboaihnab
