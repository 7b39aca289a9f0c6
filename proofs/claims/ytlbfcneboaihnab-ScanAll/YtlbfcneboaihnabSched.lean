/- The words of one block: the code's schedule. -/
import Derived.Test.YtlbfcneboaihnabLeaf
namespace Go.Proofs.Ytlbfcneboaihnab
open Go.RowKit Go.Great
attribute [local go_sem] f_8 f_1024

/-- A row of words, and noughts behind it up to sixty-four. -/
def pad64 (l : List Nat) : List Nat := l ++ List.replicate (64 - l.length) 0
theorem pad64_length (l : List Nat) (h : l.length ≤ 64) : (pad64 l).length = 64 := by simp [pad64]; omega
theorem pad64_set (l : List Nat) (k n : Nat) (hk : l.length = k) (h : k < 64) : (pad64 l).set k n = pad64 (l ++ [n]) := by
  subst hk
  unfold pad64
  rw [List.set_append_right _ _ (Nat.le_refl _), Nat.sub_self]
  obtain ⟨m, hm⟩ : ∃ m, 64 - l.length = m + 1 := ⟨64 - l.length - 1, by omega⟩
  have e : 64 - (l ++ [n]).length = m := by simp; omega
  rw [hm, e, List.replicate_succ]
  simp
theorem pad64_get (l : List Nat) (i : Nat) (h : i < l.length) : Sha.nth (pad64 l) i = Sha.nth l i := by
  unfold pad64 Sha.nth; rw [List.getElem?_append_left h]
theorem pad64_full (l : List Nat) (h : l.length = 64) : pad64 l = l := by simp [pad64, h]
theorem Z68_pad : Z68 = E32 (pad64 []) := rfl

theorem wrap_sub (i c : Nat) (h : c ≤ i) (h2 : i ≤ 64) : IntKind.i64.wrap ((i : Int) - (c : Int)) = ((i - c : Nat) : Int) := by
  rw [← Int.ofNat_sub h]
  have : i - c ≤ 64 := by omega
  generalize i - c = m at *
  have all : ∀ m : Fin 65, IntKind.i64.wrap ((m.val : Nat) : Int) = ((m.val : Nat) : Int) := by decide
  exact all ⟨m, by omega⟩
theorem first_pad (p : List Nat) (k : Nat) (hk : k < 16) : (pad64 (Sha.first p k)).set k (Sha.wordAt p k) = pad64 (Sha.first p (k + 1)) :=
  pad64_set _ _ _ (Sha.first_length p k) (by omega)
theorem more_pad (l : List Nat) (hl : l.length = 16) (k : Nat) (hk : k < 48) : (pad64 (Sha.more l k)).set (16 + k) (Sha.next (Sha.more l k) (16 + k)) = pad64 (Sha.more l (k + 1)) :=
  pad64_set _ _ _ (by rw [Sha.more_length, hl]) (by omega)

end Go.Proofs.Ytlbfcneboaihnab
