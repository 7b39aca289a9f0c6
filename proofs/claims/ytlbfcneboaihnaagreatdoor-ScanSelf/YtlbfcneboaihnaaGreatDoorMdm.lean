/- The bytes of a digest but for digits: the plain mathematics. -/
import Derived.Test.YtlbfcneboaihnaaGreatDoorPlc
namespace Go.Proofs.YtlbfcneboaihnaaGreatDoor
/-- Behind the last place, or the beginning. -/
def doneOf (pre : List Nat) : Nat := match pre.getLast? with | some p => p + 32 | none => 0
theorem doneOf_snoc (pre : List Nat) (p : Nat) : doneOf (pre ++ [p]) = p + 32 := by simp [doneOf]
/-- Places each behind the one ahead of it. -/
def Apart : Nat → List Nat → Prop
  | _, [] => True
  | i, p :: ps => i ≤ p ∧ Apart (p + 32) ps
theorem plcs_apart {B D : List Nat} (hl : D.length = 32) : ∀ f i, B.length + 1 - i ≤ f → Apart i (plcs B D i)
  | 0, i, h => by rw [plcs_stop (by omega)]; trivial
  | f + 1, i, h => by
    by_cases hi : i + D.length ≤ B.length
    · by_cases hs : (B.drop i).take D.length = D
      · rw [plcs_hit (by omega) hi hs]
        have := plcs_apart (B := B) hl f (i + D.length) (by omega)
        rw [hl] at this ⊢
        exact ⟨Nat.le_refl _, this⟩
      · rw [plcs_miss (by omega) hi hs]
        have := plcs_apart (B := B) hl f (i + 1) (by omega)
        cases h2 : plcs B D (i + 1) with
        | nil => trivial
        | cons p ps => rw [h2] at this; exact ⟨by have := this.1; omega, this.2⟩
    · rw [plcs_stop hi]; trivial
theorem apart_mid : ∀ {pre : List Nat} {i p : Nat} {rest : List Nat}, Apart i (pre ++ p :: rest) → (pre = [] ∧ i ≤ p) ∨ doneOf pre ≤ p ∧ pre ≠ []
  | [], i, p, rest, h => .inl ⟨rfl, h.1⟩
  | [q], i, p, rest, h => .inr ⟨h.2.1, by simp⟩
  | q :: r :: pre, i, p, rest, h => by
    rcases apart_mid (pre := r :: pre) (i := q + 32) h.2 with ⟨h1, _⟩ | ⟨h1, _⟩
    · cases h1
    · refine .inr ⟨?_, by simp⟩
      have e : doneOf (q :: r :: pre) = doneOf (r :: pre) := by simp [doneOf, List.getLast?_cons_cons]
      rw [e]; exact h1
theorem done_le {B D : List Nat} (hl : D.length = 32) {pre : List Nat} {p : Nat} {rest : List Nat} (h : plcs B D 0 = pre ++ p :: rest) : doneOf pre ≤ p := by
  have := plcs_apart (B := B) hl (B.length + 1) 0 (by omega)
  rw [h] at this
  rcases apart_mid this with ⟨rfl, _⟩ | ⟨h1, _⟩
  · exact Nat.zero_le _
  · exact h1
/-- What was laid ahead of done, and what stands behind it. -/
structure Laid (Z B pre : List Nat) : Prop where
  le : doneOf pre ≤ B.length
  len : (layAll Z B pre).length = B.length
  drop : (layAll Z B pre).drop (doneOf pre) = B.drop (doneOf pre)
theorem laid_nil (Z B : List Nat) : Laid Z B [] := ⟨Nat.zero_le _, rfl, rfl⟩
theorem Laid.next {Z B pre : List Nat} (h : Laid Z B pre) (hZ : Z.length = 32) {p : Nat} (h1 : doneOf pre ≤ p) (h2 : p + 32 ≤ B.length) :
    Laid Z B (pre ++ [p]) ∧ (layAll Z B (pre ++ [p])).take (doneOf (pre ++ [p])) = (layAll Z B pre).take (doneOf pre) ++ (B.drop (doneOf pre)).take (p - doneOf pre) ++ Z := by
  have hO := h.len
  have hlay : (layAll Z B (pre ++ [p])) = (layAll Z B pre).take p ++ Z ++ (layAll Z B pre).drop (p + 32) := by rw [layAll_snoc]; unfold layAt; rw [hZ]
  have hpl : ((layAll Z B pre).take p ++ Z).length = p + 32 := by rw [List.length_append, List.length_take, hZ]; omega
  rw [doneOf_snoc]
  refine ⟨⟨by rw [doneOf_snoc]; exact h2, ?_, ?_⟩, ?_⟩
  · rw [hlay, List.length_append, hpl, List.length_drop]; omega
  · rw [doneOf_snoc, hlay, List.drop_left' hpl]
    have e : p + 32 = doneOf pre + (p + 32 - doneOf pre) := by omega
    rw [e, ← List.drop_drop, h.drop, List.drop_drop]
  · rw [hlay, List.take_left' hpl, ← h.drop]
    have e : p = doneOf pre + (p - doneOf pre) := by omega
    conv => lhs; rw [e, List.take_add]
theorem Laid.all {Z B pre : List Nat} (h : Laid Z B pre) : (layAll Z B pre).take (doneOf pre) ++ B.drop (doneOf pre) = layAll Z B pre := by
  rw [← h.drop, List.take_append_drop]
end Go.Proofs.YtlbfcneboaihnaaGreatDoor
