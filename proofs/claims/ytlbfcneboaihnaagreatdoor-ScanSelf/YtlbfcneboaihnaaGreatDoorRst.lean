/- The document's own answer: do digits stand somewhere in bytes; which of some paths do. -/
import Derived.Test.YtlbfcneboaihnaaGreatDoorSam
namespace Go.Proofs.YtlbfcneboaihnaaGreatDoor
open Go.RowKit Go.Great
set_option linter.unusedSimpArgs false
theorem piece_at {w : World} {g o n c : Nat} {B : List Nat} (h : BytesAt w (.slice (some ⟨g, o, none⟩) n c) B) (hn : B.length = n) (i k : Nat) (hi : i + k ≤ n) : BytesAt w (.slice (some ⟨g, o + i, none⟩) k (c - i)) ((B.drop i).take k) := by
  have hl : ((B.drop i).take k).length = k := by rw [List.length_take, List.length_drop]; omega
  have hcap := bytes_cap h
  refine ⟨_, c - i, by rw [hl], by omega, fun h0 => ?_⟩
  rw [hl] at h0
  obtain ⟨a', c', e, _, hx⟩ := h
  cases e
  obtain ⟨b, o', ea, hlt, hc⟩ := hx (by omega)
  cases ea
  refine ⟨g, o + i, rfl, hlt, fun j hj => ?_⟩
  rw [hl] at hj
  rw [Nat.add_assoc, hc (i + j) (by omega)]
  simp only [Sha.nth, List.getElem?_take, if_pos hj, List.getElem?_drop]
open Classical in
theorem stands_upto {B D : List Nat} {i : Nat} (h : ∀ k, k < i → (B.drop k).take D.length ≠ D) (hi : ¬ i + D.length ≤ B.length) : ¬ Stands B D := fun ⟨k, h1, h2⟩ => h k (by omega) h2
/-- The state of the document's loop: behind i of them. -/
structure RfI (w wr : World) (B : List Nat) (of : List Ord.S) (i : Nat) (vo : Value) : Prop where
  below : Below w.heap.size w wr
  out : ∃ R, RowR wr vo R ∧ (∀ x, x ∈ R ↔ x ∈ of.take i ∧ FoundIn B x) ∧ R.length ≤ i
end Go.Proofs.YtlbfcneboaihnaaGreatDoor
