/- Texts by their bytes: their order. No Go text is named here. -/
import Derived.Test.YthfjofmfiklegaaDoorSp
import Derived.Sort.Walk0
namespace Go.Proofs.YthfjofmfiklegaaDoor
namespace Ord
abbrev S := List UInt8
instance : Std.Irrefl (α := UInt8) (· < ·) := ⟨fun a h => by have : a.toNat < a.toNat := h; omega⟩
theorem irrefl (a : S) : ¬ a < a := List.lt_irrefl a
theorem trans {a b c : S} (h1 : a < b) (h2 : b < c) : a < c := List.lt_trans h1 h2
theorem le_of {a b : S} : a ≤ b ↔ ¬ b < a := Iff.rfl
theorem tri (a b : S) : a < b ∨ a = b ∨ b < a := by
  by_cases h1 : a < b
  · exact .inl h1
  · by_cases h2 : b < a
    · exact .inr (.inr h2)
    · exact .inr (.inl (List.le_antisymm (show a ≤ b from h2) (show b ≤ a from h1)))
theorem le_total (a b : S) : a ≤ b ∨ b ≤ a := by
  rcases tri a b with h | rfl | h
  · exact .inl fun h2 => irrefl a (trans h h2)
  · exact .inl (irrefl a)
  · exact .inr fun h2 => irrefl b (trans h h2)
theorem le_trans {a b c : S} (h1 : a ≤ b) (h2 : b ≤ c) : a ≤ c := fun h => by
  rcases tri a b with h3 | rfl | h3
  · exact h2 (trans h h3)
  · exact h2 h
  · exact h1 h3
theorem lt_of_le_ne {a b : S} (h1 : a ≤ b) (h2 : a ≠ b) : a < b := by
  rcases tri a b with h | h | h
  · exact h
  · exact absurd h h2
  · exact absurd h h1
theorem lt_of_le_lt {a b c : S} (h1 : a ≤ b) (h2 : b < c) : a < c := by
  rcases tri a b with h | rfl | h
  · exact trans h h2
  · exact h2
  · exact absurd h h1
end Ord
theorem less_no {a b : List UInt8} (h : Op.bytesLess a b = false ∧ (a == b) = false) : b < a := by
  have h1 : ¬ a < b := by have := h.1; rw [Go.Proofs.bytesLess_eq] at this; simpa using this
  have h2 : a ≠ b := by simpa using h.2
  rcases Ord.tri a b with h | h | h
  · exact absurd h h1
  · exact absurd h h2
  · exact h
theorem less_yes {a b : List UInt8} (h : Op.bytesLess a b = true ∨ (a == b) = true) : ¬ b < a := by
  rcases h with h | h
  · rw [Go.Proofs.bytesLess_eq] at h
    have h1 : a < b := by simpa using h
    exact fun h2 => Ord.irrefl a (Ord.trans h1 h2)
  · obtain rfl : a = b := by simpa using h
    exact Ord.irrefl a
end Go.Proofs.YthfjofmfiklegaaDoor
