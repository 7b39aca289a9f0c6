/- Rows of digits that stand in bytes, and the run of digits that a look keeps: the plain mathematics. No Go text is named here. -/
import Derived.WalkKit
namespace Go.Proofs.Ytlbfcneboaihnaa
/-- d stands in B at k. -/
def StandsAt (B d : List Nat) (k : Nat) : Prop := k + d.length ≤ B.length ∧ (B.drop k).take d.length = d
def Stands (B d : List Nat) : Prop := ∃ k, StandsAt B d k
/-- d stands in B and ends by i. -/
def StandsBy (B d : List Nat) (i : Nat) : Prop := ∃ k, k + d.length ≤ i ∧ StandsAt B d k
theorem standsBy_all (B d : List Nat) : StandsBy B d B.length ↔ Stands B d :=
  ⟨fun ⟨k, _, h⟩ => ⟨k, h⟩, fun ⟨k, h⟩ => ⟨k, h.1, h⟩⟩
theorem standsBy_stands {B d : List Nat} {i : Nat} (h : StandsBy B d i) : Stands B d := by obtain ⟨k, _, h⟩ := h; exact ⟨k, h⟩
theorem standsBy_zero {B d : List Nat} (hd : 0 < d.length) : ¬ StandsBy B d 0 := fun ⟨k, h, _⟩ => by omega
theorem standsBy_succ (B d : List Nat) (i : Nat) : StandsBy B d (i + 1) ↔ StandsBy B d i ∨ (d.length ≤ i + 1 ∧ StandsAt B d (i + 1 - d.length)) := by
  constructor
  · rintro ⟨k, h1, h2⟩
    rcases Nat.lt_or_ge i (k + d.length) with h | h
    · exact .inr ⟨by omega, by rw [show i + 1 - d.length = k by omega]; exact h2⟩
    · exact .inl ⟨k, h, h2⟩
  · rintro (⟨k, h1, h2⟩ | ⟨h1, h2⟩)
    · exact ⟨k, by omega, h2⟩
    · exact ⟨_, by omega, h2⟩
/-- r digits stand ahead of i, and no more. -/
structure RunAt (dig : Nat → Bool) (B : List Nat) (i r : Nat) : Prop where
  le : r ≤ i
  all : ∀ j, i - r ≤ j → j < i → dig (B.getD j 0) = true
  max : r < i → dig (B.getD (i - r - 1) 0) = false
theorem RunAt.start (dig : Nat → Bool) (B : List Nat) : RunAt dig B 0 0 := ⟨Nat.le_refl _, fun j _ h => by omega, fun h => by omega⟩
theorem RunAt.more {dig : Nat → Bool} {B : List Nat} {i r : Nat} (h : RunAt dig B i r) (hd : dig (B.getD i 0) = true) : RunAt dig B (i + 1) (r + 1) where
  le := by have := h.le; omega
  all := fun j h1 h2 => by
    rcases Nat.lt_or_ge j i with h3 | h3
    · exact h.all j (by omega) h3
    · obtain rfl : j = i := by omega
      exact hd
  max := fun h1 => by have := h.max (by omega); rw [show i + 1 - (r + 1) - 1 = i - r - 1 by omega]; exact this
theorem RunAt.stop {dig : Nat → Bool} {B : List Nat} {i : Nat} (hd : dig (B.getD i 0) = false) : RunAt dig B (i + 1) 0 where
  le := by omega
  all := fun j h1 h2 => by omega
  max := fun _ => by rw [show i + 1 - 0 - 1 = i by omega]; exact hd
theorem standsAt_get {B d : List Nat} {k : Nat} (h : StandsAt B d k) (j : Nat) (hj : j < d.length) : B.getD (k + j) 0 = d.getD j 0 := by
  have e : ((B.drop k).take d.length).getD j 0 = d.getD j 0 := by rw [h.2]
  rw [← e]
  simp only [List.getD_eq_getElem?_getD]
  rw [List.getElem?_take, if_pos hj, List.getElem?_drop]
/-- Where digits that stand end, the run is at least as long. -/
theorem RunAt.long {dig : Nat → Bool} {B d : List Nat} {i r : Nat} (h : RunAt dig B i r) (hd : ∀ j, j < d.length → dig (d.getD j 0) = true) (hi : d.length ≤ i) (hs : StandsAt B d (i - d.length)) : d.length ≤ r := by
  rcases Nat.lt_or_ge r d.length with hr | hr
  · have h1 := h.max (by omega)
    have h2 := standsAt_get hs (d.length - r - 1) (by omega)
    rw [show i - d.length + (d.length - r - 1) = i - r - 1 by omega] at h2
    rw [h2] at h1
    rw [hd _ (by omega)] at h1
    cases h1
  · exact hr
/-- What one step of the look strikes out, among rows of digits: the row that ends there, asked for only behind a run that is long enough. -/
theorem standsBy_step {dig : Nat → Bool} {B d : List Nat} {i r : Nat} (h : RunAt dig B (i + 1) r) (hd : ∀ j, j < d.length → dig (d.getD j 0) = true) (hi : i < B.length) :
    StandsBy B d (i + 1) ↔ StandsBy B d i ∨ (d.length ≤ r ∧ (B.drop (i + 1 - d.length)).take d.length = d) := by
  rw [standsBy_succ B d i]
  constructor
  · rintro (h1 | ⟨h1, h2⟩)
    · exact .inl h1
    · exact .inr ⟨h.long hd h1 h2, h2.2⟩
  · rintro (h1 | ⟨h1, h2⟩)
    · exact .inl h1
    · have := h.le
      exact .inr ⟨by omega, by omega, h2⟩
end Go.Proofs.Ytlbfcneboaihnaa
