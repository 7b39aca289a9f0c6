/- The digits of scan are those of chapter 2. -/
import Derived.Test.YtlbfcneboaihnaaDig
import Derived.Test.YtlbfcneboaihnaaSplit
namespace Go.Proofs.Ytlbfcneboaihnaa
open Sha
theorem digB_isD (c : Nat) : digB c = isD c := by
  rw [Bool.eq_iff_iff]
  unfold digB isD
  simp only [Bool.or_eq_true, Bool.and_eq_true, decide_eq_true_iff]
  omega
/-- A path's digits are digits. -/
theorem path_digits {p : List Nat} (h : isPth p) : (p.take 32).length = 32 ∧ ∀ j, j < 32 → digB ((p.take 32).getD j 0) = true := by
  obtain ⟨h1, _, _, h4⟩ := h
  have hl : (p.take 32).length = 32 := by rw [List.length_take]; omega
  refine ⟨hl, fun j hj => ?_⟩
  rw [digB_isD]
  have := h4.1 j (by omega)
  simpa [Sha.nth, List.getD_eq_getElem?_getD] using this
end Go.Proofs.Ytlbfcneboaihnaa
