/- Sorting by insertion: the plain mathematics. No Go text is named here. -/
import Derived.Test.YthfjofmfiklegaaDoorK5
namespace Go.Proofs.YthfjofmfiklegaaDoor
open Go.RowKit
/-- Of two texts the first is not behind the second. -/
def leT (x y : ByteArray) : Prop := x.toList ≤ y.toList
theorem leT.trans {x y z : ByteArray} (h : leT x y) (k : leT y z) : leT x z := List.le_trans h k
theorem leT_of_not {x y : ByteArray} (h : ¬ y.toList < x.toList) : leT x y := List.not_lt.1 h
theorem leT_of_lt {x y : ByteArray} (h : x.toList < y.toList) : leT x y := List.le_of_lt h
theorem sortB_of {xs ys : List ByteArray} (hp : ys.Perm xs) (hs : ys.Pairwise leT) : ys = sortB xs := by
  have h1 : (ys.map fun s => s.data.toList) = sortL xs := by
    refine List.Perm.eq_of_pairwise (le := fun a b => a ≤ b) (fun a b _ _ h1 h2 => List.le_antisymm h1 h2) ?_ ?_ ?_
    · rw [List.pairwise_map]
      refine hs.imp (fun {a b} h => ?_)
      unfold leT at h
      rwa [ByteArray.toList_eq, ByteArray.toList_eq] at h
    · unfold sortL
      refine (List.pairwise_mergeSort (le := fun x y => decide (x ≤ y)) (fun a b c h1 h2 => decide_eq_true (List.le_trans (of_decide_eq_true h1) (of_decide_eq_true h2))) (fun a b => ?_) _).imp (fun {a b} h => of_decide_eq_true h)
      rw [Bool.or_eq_true]
      rcases List.le_total a b with h | h
      · exact .inl (decide_eq_true h)
      · exact .inr (decide_eq_true h)
    · unfold sortL
      exact (hp.map _).trans (List.mergeSort_perm _ _).symm
  unfold sortB
  rw [← h1, List.map_map]
  have : ((fun l : List UInt8 => (⟨l.toArray⟩ : ByteArray)) ∘ fun s : ByteArray => s.data.toList) = id := by
    funext s; show (⟨s.data.toList.toArray⟩ : ByteArray) = s; rw [Array.toArray_toList]
  rw [this, List.map_id]
/-- An element on its way down: A ahead of it, B behind it, R not yet asked. -/
structure Way (xs : List ByteArray) (i k : Nat) (A : List ByteArray) (z : ByteArray) (B R : List ByteArray) : Prop where
  a : A.length = k
  i : A.length + B.length = i
  p : (A ++ z :: (B ++ R)).Perm xs
  s : (A ++ B).Pairwise leT
  b : ∀ y ∈ B, leT z y
theorem way_start {xs ys : List ByteArray} {i : Nat} (hp : ys.Perm xs) (hs : (ys.take i).Pairwise leT) (hi : i < ys.length) : ∃ A z R, ys = A ++ z :: ([] ++ R) ∧ Way xs i i A z [] R := by
  refine ⟨ys.take i, ys[i], ys.drop (i + 1), ?_, ⟨by rw [List.length_take]; omega, by rw [List.length_take]; simp; omega, ?_, by rw [List.append_nil]; exact hs, fun y hy => by simp at hy⟩⟩
  · rw [List.nil_append, ← List.drop_eq_getElem_cons hi, List.take_append_drop]
  · rw [List.nil_append, ← List.drop_eq_getElem_cons hi, List.take_append_drop]; exact hp
theorem way_step {xs : List ByteArray} {i k : Nat} {A : List ByteArray} {p z : ByteArray} {B R : List ByteArray} (h : Way xs i (k + 1) (A ++ [p]) z B R) (hl : z.toList < p.toList) : Way xs i k A z (p :: B) R := by
  obtain ⟨h1, h2, h3, h4, h5⟩ := h
  refine ⟨by simp at h1; omega, by simp at h1 h2 ⊢; omega, ?_, by simpa using h4, fun y hy => ?_⟩
  · refine List.Perm.trans ?_ h3
    rw [List.append_assoc, List.cons_append]
    exact List.Perm.append_left A (List.Perm.swap _ _ _)
  · rcases List.mem_cons.1 hy with rfl | hy
    · exact leT_of_lt hl
    · exact h5 y hy
theorem way_end {xs : List ByteArray} {i k : Nat} {A : List ByteArray} {z : ByteArray} {B R : List ByteArray} (h : Way xs i k A z B R) (hl : ∀ A' p, A = A' ++ [p] → ¬ z.toList < p.toList) : ((A ++ z :: (B ++ R)).take (i + 1)).Pairwise leT := by
  obtain ⟨h1, h2, h3, h4, h5⟩ := h
  have e : (A ++ z :: (B ++ R)).take (i + 1) = A ++ z :: B := by
    rw [List.take_append, List.take_of_length_le (by omega), show i + 1 - A.length = B.length + 1 by omega, List.take_succ_cons, List.take_left]
  rw [e]
  obtain ⟨ha, hb, hab⟩ := List.pairwise_append.1 h4
  rw [List.pairwise_append]
  refine ⟨ha, List.pairwise_cons.2 ⟨h5, hb⟩, fun x hx y hy => ?_⟩
  rcases List.mem_cons.1 hy with rfl | hy
  · rcases List.eq_nil_or_concat A with rfl | ⟨A', p, rfl⟩
    · simp at hx
    · rw [List.concat_eq_append] at hx ha hl
      have hp := leT_of_not (hl A' p rfl)
      rcases List.mem_append.1 hx with hx | hx
      · exact ((List.pairwise_append.1 ha).2.2 x hx p (by simp)).trans hp
      · simp at hx; subst hx; exact hp
  · exact hab x hx y hy
theorem set_swap (A : List ByteArray) (p z : ByteArray) (t : List ByteArray) : (((A ++ p :: z :: t).map Value.string).set (A.length + 1) (.string p)).set A.length (.string z) = (A ++ z :: p :: t).map Value.string := by
  rw [List.map_append, List.map_append, List.set_append_right _ _ (by simp), List.set_append_right _ _ (by simp)]
  simp
end Go.Proofs.YthfjofmfiklegaaDoor
