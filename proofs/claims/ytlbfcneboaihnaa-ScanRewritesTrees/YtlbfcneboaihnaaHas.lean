/- Has, of the document: does a path stand in a list? -/
import Derived.Test.YtlbfcneboaihnaaPaths
namespace Go.Proofs.Ytlbfcneboaihnaa
open Go.RowKit Go.Great
set_option linter.unusedSimpArgs false
theorem mem_getD {xs : List Ord.S} {p : Ord.S} (h : p ∈ xs) : ∃ j, j < xs.length ∧ xs.getD j [] = p := by
  obtain ⟨j, hj, e⟩ := List.mem_iff_getElem.1 h
  exact ⟨j, hj, by rw [List.getD_eq_getElem?_getD, List.getElem?_eq_getElem hj]; exact e⟩
theorem getD_mem {xs : List Ord.S} {j : Nat} (hj : j < xs.length) : xs.getD j [] ∈ xs := by
  rw [List.getD_eq_getElem?_getD, List.getElem?_eq_getElem hj]; exact List.getElem_mem hj
end Go.Proofs.Ytlbfcneboaihnaa
