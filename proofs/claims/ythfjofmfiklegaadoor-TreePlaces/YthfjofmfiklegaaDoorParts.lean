/- Texts with a slash between, taken apart and joined: one and the same. No Go text is named here. -/
import Derived.Test.YthfjofmfiklegaaDoorCut
namespace Go.Proofs.YthfjofmfiklegaaDoor
def splitL : List UInt8 → List (List UInt8)
  | [] => [[]]
  | c :: r => if c = 47 then [] :: splitL r else match splitL r with
    | [] => [[c]]
    | h :: t => (c :: h) :: t
def joinL : List (List UInt8) → List UInt8
  | [] => []
  | [n] => n
  | n :: m :: r => n ++ 47 :: joinL (m :: r)
theorem splitL_ne (s : List UInt8) : splitL s ≠ [] := by
  cases s with
  | nil => simp [splitL]
  | cons c r =>
    rw [splitL]
    split
    · simp
    · split <;> simp
theorem join_split (s : List UInt8) : joinL (splitL s) = s := by
  induction s with
  | nil => rfl
  | cons c r ih =>
    rw [splitL]
    split
    · rename_i h
      cases h2 : splitL r with
      | nil => exact absurd h2 (splitL_ne r)
      | cons a t => rw [joinL, ← h2, ih, h]; rfl
    · cases h2 : splitL r with
      | nil => exact absurd h2 (splitL_ne r)
      | cons a t =>
        rw [h2] at ih
        cases t with
        | nil => simp [joinL] at ih ⊢; exact ih
        | cons b t => simp [joinL] at ih ⊢; exact ih
theorem split_no (s : List UInt8) : ∀ p ∈ splitL s, (47 : UInt8) ∉ p := by
  induction s with
  | nil => intro p hp; simp [splitL] at hp; subst hp; simp
  | cons c r ih =>
    rw [splitL]
    split
    · intro p hp
      rcases List.mem_cons.1 hp with rfl | h
      · simp
      · exact ih p h
    · rename_i hc
      cases h2 : splitL r with
      | nil => exact absurd h2 (splitL_ne r)
      | cons a t =>
        rw [h2] at ih
        intro p hp
        rcases List.mem_cons.1 hp with rfl | h
        · intro h
          rcases List.mem_cons.1 h with e | h
          · exact hc e.symm
          · exact ih a (by simp) h
        · exact ih p (by simp [h])
theorem split_app (a : List UInt8) (h : (47 : UInt8) ∉ a) (b : List UInt8) : splitL (a ++ 47 :: b) = a :: splitL b := by
  induction a with
  | nil => simp [splitL]
  | cons c r ih =>
    have hc : ¬ c = 47 := fun e => h (by simp [e])
    rw [List.cons_append, splitL, if_neg hc, ih (fun e => h (by simp [e]))]
theorem split_one (a : List UInt8) (h : (47 : UInt8) ∉ a) : splitL a = [a] := by
  induction a with
  | nil => rfl
  | cons c r ih =>
    have hc : ¬ c = 47 := fun e => h (by simp [e])
    rw [splitL, if_neg hc, ih (fun e => h (by simp [e]))]
theorem split_join (l : List (List UInt8)) (hne : l ≠ []) (h : ∀ p ∈ l, (47 : UInt8) ∉ p) : splitL (joinL l) = l := by
  induction l with
  | nil => exact absurd rfl hne
  | cons a r ih =>
    cases r with
    | nil => exact split_one a (h a (by simp))
    | cons b t => rw [joinL, split_app a (h a (by simp)), ih (by simp) (fun p hp => h p (by simp [hp]))]
theorem joinB_list (l : List ByteArray) : (joinB l).data.toList = joinL (l.map (·.data.toList)) := by
  induction l with
  | nil => rfl
  | cons a r ih =>
    cases r with
    | nil => rfl
    | cons b t => rw [join_list, ih]; rfl
/-- The parts of a text. -/
def partsB (s : ByteArray) : List ByteArray := (splitL s.data.toList).map fun l => ⟨l.toArray⟩
theorem partsB_ne (s : ByteArray) : partsB s ≠ [] := by
  unfold partsB
  intro h
  exact splitL_ne _ (List.map_eq_nil_iff.1 h)
theorem partsB_no (s : ByteArray) : ∀ p ∈ partsB s, (47 : UInt8) ∉ p.data.toList := by
  intro p hp
  obtain ⟨l, hl, rfl⟩ := List.mem_map.1 hp
  simpa using split_no _ l hl
theorem join_parts (s : ByteArray) : joinB (partsB s) = s := by
  apply ByteArray.ext
  apply Array.ext'
  rw [joinB_list]
  unfold partsB
  rw [List.map_map]
  have : ((fun x : ByteArray => x.data.toList) ∘ fun l : List UInt8 => (⟨l.toArray⟩ : ByteArray)) = id := by funext l; simp
  rw [this, List.map_id, join_split]
theorem parts_join (l : List ByteArray) (hne : l ≠ []) (h : ∀ p ∈ l, (47 : UInt8) ∉ p.data.toList) : partsB (joinB l) = l := by
  unfold partsB
  rw [joinB_list, split_join _ (by simpa using hne) (fun p hp => by obtain ⟨b, hb, rfl⟩ := List.mem_map.1 hp; exact h b hb), List.map_map]
  have : ((fun l : List UInt8 => (⟨l.toArray⟩ : ByteArray)) ∘ fun x : ByteArray => x.data.toList) = id := by funext x; cases x; simp
  rw [this, List.map_id]
theorem entB_no {s : ByteArray} (h : entB s = true) : (47 : UInt8) ∉ s.data.toList := fun hm => by
  have := entB_bad hm (.inl rfl)
  rw [h] at this; cases this
theorem entB_pos {s : ByteArray} (h : entB s = true) : 1 ≤ s.size := by
  unfold entB at h; exact (of_decide_eq_true h).1
end Go.Proofs.YthfjofmfiklegaaDoor
