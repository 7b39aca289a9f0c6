/- Rows of texts that rise, each once: two such rows of the same texts are one; a sorted row of which neighbours that are alike are left out is such a row; so is one into which a text is laid at its place. No Go text is named here. -/
import Derived.Test.YtlbfcneboaihnaaMakes
import Derived.Lib.SlicesCompact
namespace Go.Proofs.Ytlbfcneboaihnaa
namespace Ord
abbrev S := List UInt8
instance : Std.Irrefl (α := UInt8) (· < ·) := ⟨fun a h => by have : a.toNat < a.toNat := h; omega⟩
theorem irrefl (a : S) : ¬ a < a := List.lt_irrefl a
theorem trans {a b c : S} (h1 : a < b) (h2 : b < c) : a < c := List.lt_trans h1 h2
theorem le_of {a b : S} : a ≤ b ↔ ¬ b < a := Iff.rfl
theorem tri (a b : S) : a < b ∨ a = b ∨ b < a := by
  by_cases h1 : a < b
  · exact .inl h1
  · by_cases h2 : b < a
    · exact .inr (.inr h2)
    · exact .inr (.inl (List.le_antisymm (show a ≤ b from h2) (show b ≤ a from h1)))
theorem le_total (a b : S) : a ≤ b ∨ b ≤ a := by
  rcases tri a b with h | rfl | h
  · exact .inl fun h2 => irrefl a (trans h h2)
  · exact .inl (irrefl a)
  · exact .inr fun h2 => irrefl b (trans h h2)
theorem le_trans {a b c : S} (h1 : a ≤ b) (h2 : b ≤ c) : a ≤ c := fun h => by
  rcases tri a b with h3 | rfl | h3
  · exact h2 (trans h h3)
  · exact h2 h
  · exact h1 h3
theorem lt_of_le_ne {a b : S} (h1 : a ≤ b) (h2 : a ≠ b) : a < b := by
  rcases tri a b with h | h | h
  · exact h
  · exact absurd h h2
  · exact absurd h h1
theorem lt_of_le_lt {a b c : S} (h1 : a ≤ b) (h2 : b < c) : a < c := by
  rcases tri a b with h | rfl | h
  · exact trans h h2
  · exact h2
  · exact absurd h h1
/-- A row that rises, each once. -/
def Rises (l : List S) : Prop := l.Pairwise (· < ·)
theorem rises_eq : ∀ {a b : List S}, Rises a → Rises b → (∀ x, x ∈ a ↔ x ∈ b) → a = b
  | [], [], _, _, _ => rfl
  | [], y :: b, _, _, h => absurd ((h y).2 (by simp)) (by simp)
  | x :: a, [], _, _, h => absurd ((h x).1 (by simp)) (by simp)
  | x :: a, y :: b, ha, hb, h => by
    have ha' := List.pairwise_cons.1 ha
    have hb' := List.pairwise_cons.1 hb
    have hxy : x = y := by
      rcases tri x y with h1 | h1 | h1
      · have := (h x).1 (by simp)
        rcases List.mem_cons.1 this with h2 | h2
        · exact h2
        · exact absurd (trans h1 (hb'.1 x h2)) (irrefl x)
      · exact h1
      · have := (h y).2 (by simp)
        rcases List.mem_cons.1 this with h2 | h2
        · exact h2.symm
        · exact absurd (trans h1 (ha'.1 y h2)) (irrefl y)
    subst hxy
    congr 1
    refine rises_eq ha'.2 hb'.2 fun z => ⟨fun hz => ?_, fun hz => ?_⟩
    · rcases List.mem_cons.1 ((h z).1 (by simp [hz])) with h2 | h2
      · subst h2; exact absurd (ha'.1 z hz) (irrefl z)
      · exact h2
    · rcases List.mem_cons.1 ((h z).2 (by simp [hz])) with h2 | h2
      · subst h2; exact absurd (hb'.1 z hz) (irrefl z)
      · exact h2
/-- The row of so many texts, rising, each once. -/
def uniq (l : List S) : List S := Lib.compact (l.mergeSort fun x y => decide (x ≤ y))
theorem sorted (l : List S) : (l.mergeSort fun x y => decide (x ≤ y)).Pairwise (· ≤ ·) := by
  have h := List.pairwise_mergeSort (le := fun x y : S => decide (x ≤ y)) (fun a b c h1 h2 => decide_eq_true (le_trans (of_decide_eq_true h1) (of_decide_eq_true h2))) (fun a b => by
    rcases le_total a b with h | h
    · rw [decide_eq_true h]; rfl
    · rw [decide_eq_true h]; simp) l
  exact h.imp fun h => of_decide_eq_true h
theorem compact_rises (d : List S) (hd : d.Pairwise (· ≤ ·)) : ∀ m, m ≤ d.length → Rises (Lib.compactUpTo d.toArray m) ∧ ∀ x, x ∈ Lib.compactUpTo d.toArray m ↔ ∃ j, j < m ∧ d[j]? = some x
  | 0, _ => by
    refine ⟨?_, fun x => ?_⟩
    · unfold Rises Lib.compactUpTo; simp
    · unfold Lib.compactUpTo; simp
  | m + 1, hm => by
    obtain ⟨h1, h2⟩ := compact_rises d hd m (by omega)
    have hg : d.toArray[m]! = d[m] := by simp [List.getElem!_eq_getElem?_getD, List.getElem?_eq_getElem (show m < d.length by omega)]
    rw [Lib.compactUpTo_succ, hg]
    by_cases hk : Lib.keeps d.toArray m = true
    · rw [if_pos hk]
      refine ⟨?_, fun x => ?_⟩
      · refine List.pairwise_append.2 ⟨h1, by simp, fun a ha b hb => ?_⟩
        rw [List.mem_singleton.1 hb]
        obtain ⟨j, hj, hja⟩ := (h2 a).1 ha
        obtain ⟨hjl, rfl⟩ := List.getElem?_eq_some_iff.1 hja
        have hm0 : 0 < m := by omega
        have hle1 : d[j] ≤ d[m - 1] := by
          by_cases he : j = m - 1
          · subst he; exact irrefl _
          · exact List.pairwise_iff_getElem.1 hd j (m - 1) hjl (by omega) (by omega)
        have hle2 : d[m - 1] ≤ d[m] := List.pairwise_iff_getElem.1 hd (m - 1) m (by omega) (by omega) (by omega)
        have hne : d[m - 1] ≠ d[m] := by
          intro he
          have := Lib.keeps_neg (d := d.toArray) hm0 (by rw [hg]; simp [List.getElem!_eq_getElem?_getD, List.getElem?_eq_getElem (show m - 1 < d.length by omega), he])
          rw [this] at hk; cases hk
        exact lt_of_le_lt hle1 (lt_of_le_ne hle2 hne)
      · rw [List.mem_append, h2, List.mem_singleton]
        constructor
        · rintro (⟨j, hj, h⟩ | rfl)
          · exact ⟨j, by omega, h⟩
          · exact ⟨m, by omega, List.getElem?_eq_getElem _⟩
        · rintro ⟨j, hj, h⟩
          by_cases he : j = m
          · subst he
            rw [List.getElem?_eq_getElem (by omega)] at h
            exact .inr (Option.some.inj h).symm
          · exact .inl ⟨j, by omega, h⟩
    · rw [if_neg hk, List.append_nil]
      refine ⟨h1, fun x => ?_⟩
      rw [h2]
      constructor
      · rintro ⟨j, hj, h⟩; exact ⟨j, by omega, h⟩
      · rintro ⟨j, hj, h⟩
        by_cases he : j = m
        · subst he
          have hj0 : 0 < j := by
            by_cases h0 : j = 0
            · subst h0; exact absurd (Lib.keeps_lt_one d.toArray 0 (by omega)) hk
            · omega
          have heq : d[j] = d[j - 1] := by
            refine Classical.byContradiction fun hne => hk (Lib.keeps_pos ?_)
            rw [hg]
            simpa [List.getElem!_eq_getElem?_getD, List.getElem?_eq_getElem (show j - 1 < d.length by omega)] using hne
          refine ⟨j - 1, by omega, ?_⟩
          rw [← h, List.getElem?_eq_getElem (by omega), List.getElem?_eq_getElem (by omega), heq]
        · exact ⟨j, by omega, h⟩
theorem uniq_rises (l : List S) : Rises (uniq l) := (compact_rises _ (sorted l) _ (Nat.le_refl _)).1
theorem uniq_mem (l : List S) (x : S) : x ∈ uniq l ↔ x ∈ l := by
  have h := (compact_rises _ (sorted l) _ (Nat.le_refl _)).2 x
  show x ∈ Lib.compactUpTo _ _ ↔ _
  rw [h]
  constructor
  · rintro ⟨j, hj, hx⟩
    have := List.mem_of_getElem? hx
    simpa using this
  · intro hx
    have hx' : x ∈ l.mergeSort fun x y => decide (x ≤ y) := by simpa using hx
    obtain ⟨j, hj, rfl⟩ := List.getElem_of_mem hx'
    exact ⟨j, hj, List.getElem?_eq_getElem hj⟩
theorem uniq_of {l r : List S} (hr : Rises r) (h : ∀ x, x ∈ r ↔ x ∈ l) : uniq l = r :=
  rises_eq (uniq_rises l) hr fun x => by rw [uniq_mem, h]
theorem uniq_same {l r : List S} (h : ∀ x, x ∈ l ↔ x ∈ r) : uniq l = uniq r :=
  uniq_of (uniq_rises r) fun x => by rw [uniq_mem, h]
theorem uniq_length (l : List S) : (uniq l).length ≤ l.length := by
  unfold uniq Lib.compact Lib.compactUpTo
  rw [List.length_map]
  refine Nat.le_trans (List.length_filter_le _ _) ?_
  simp
/-- A text laid at its place. -/
theorem lay_rises {r : List S} {p : S} {k : Nat} (hr : Rises r) (h1 : ∀ i x, i < k → r[i]? = some x → x < p) (h2 : ∀ i x, k ≤ i → r[i]? = some x → p < x) : Rises (r.take k ++ [p] ++ r.drop k) := by
  have ha : Rises (r.take k) := hr.sublist (List.take_sublist _ _)
  have hb : Rises (r.drop k) := hr.sublist (List.drop_sublist _ _)
  have m1 : ∀ x ∈ r.take k, x < p := fun x hx => by
    obtain ⟨i, hi, rfl⟩ := List.getElem_of_mem hx
    rw [List.length_take] at hi
    refine h1 i _ (by omega) ?_
    rw [List.getElem_take]; exact List.getElem?_eq_getElem _
  have m2 : ∀ x ∈ r.drop k, p < x := fun x hx => by
    obtain ⟨i, hi, rfl⟩ := List.getElem_of_mem hx
    rw [List.length_drop] at hi
    refine h2 (k + i) _ (by omega) ?_
    rw [List.getElem_drop]; exact List.getElem?_eq_getElem _
  refine List.pairwise_append.2 ⟨List.pairwise_append.2 ⟨ha, by simp, fun a ha b hb => ?_⟩, hb, fun a ha b hb => ?_⟩
  · rw [List.mem_singleton.1 hb]; exact m1 a ha
  · rcases List.mem_append.1 ha with h | h
    · exact trans (m1 a h) (m2 b hb)
    · rw [List.mem_singleton.1 h]; exact m2 b hb
theorem lay_mem {r : List S} {p : S} {k : Nat} (x : S) : x ∈ r.take k ++ [p] ++ r.drop k ↔ x = p ∨ x ∈ r := by
  have : x ∈ r ↔ x ∈ r.take k ∨ x ∈ r.drop k := by
    rw [← List.mem_append, List.take_append_drop]
  rw [this, List.mem_append, List.mem_append, List.mem_singleton]
  constructor
  · rintro ((h | h) | h)
    · exact .inr (.inl h)
    · exact .inl h
    · exact .inr (.inr h)
  · rintro (h | h | h)
    · exact .inl (.inr h)
    · exact .inl (.inl h)
    · exact .inr h
end Ord
end Go.Proofs.Ytlbfcneboaihnaa
