/- A tree laid at a place: the plain mathematics. No Go text is named here. -/
import Derived.Test.YthfjofmfiklegaaDoorIsPl
import Derived.Test.YthfjofmfiklegaaDoorClc
namespace Go.Proofs.YthfjofmfiklegaaDoor
open Go.RowKit
/-- Names that rise, and as many kids, everywhere. -/
inductive Nice : Tr → Prop
  | mk (k : Int) (x : Bool) (d : ByteArray) (ns : List ByteArray) (ks : List Tr) (hr : Rise ns) (hl : ns.length = ks.length) (hk : ∀ t ∈ ks, Nice t) : Nice (.mk k x d ns ks)
def emptyDir : Tr := .mk 2 false ⟨#[]⟩ [] []
theorem nice_empty : Nice emptyDir := .mk _ _ _ _ _ (fun i j _ h => by simp at h) rfl (fun t ht => by simp at ht)
theorem Nice.ev {T : Tr} (h : Nice T) : Ev T := by
  induction h with
  | mk k x d ns ks hr hl hk ih => exact .mk k x d ns ks hl ih
/-- Where a name stands, or would. -/
def pos (ns : List ByteArray) (x : ByteArray) : Nat := (ns.takeWhile fun s => decide (s.toList < x.toList)).length
def has (ns : List ByteArray) (x : ByteArray) : Bool := decide (ns[pos ns x]? = some x)
theorem takeWhile_len {α : Type} (p : α → Bool) (l : List α) (i : Nat) (hi : i ≤ l.length) (h1 : ∀ j, (h : j < l.length) → j < i → p l[j] = true) (h2 : ∀ h : i < l.length, p l[i] = false) : (l.takeWhile p).length = i := by
  induction l generalizing i with
  | nil => simp at hi; simp [hi]
  | cons a r ih =>
    cases i with
    | zero =>
      have := h2 (by simp)
      simp at this
      simp [this]
    | succ i =>
      have ha := h1 0 (by simp) (by omega)
      simp at ha
      rw [List.takeWhile_cons, if_pos ha, List.length_cons, ih i (by simpa using hi) (fun j h hj => by have := h1 (j + 1) (by simpa using h) (by omega); simpa using this) (fun h => by have := h2 (by simpa using h); simpa using this)]
theorem found_pos {ns : List ByteArray} {x : ByteArray} {e : Ending} (h : Found ns x e) : e = .returned (.tuple #[.int .i64 ((pos ns x : Nat) : Int), .bool (has ns x)]) ∧ pos ns x ≤ ns.length := by
  obtain ⟨i, b, rfl, h1, h2, h3, h4⟩ := h
  have hp : pos ns x = i := by
    refine takeWhile_len _ ns i h1 (fun j hj hji => ?_) (fun hi => ?_)
    · have := h2 j hji
      rw [List.getD_eq_getElem?_getD, List.getElem?_eq_getElem hj] at this
      simpa using this
    · have := h3 i (Nat.le_refl _) hi
      rw [List.getD_eq_getElem?_getD, List.getElem?_eq_getElem hi] at this
      simpa using this
  have hb : has ns x = b := by
    unfold has
    rw [hp]
    cases b with
    | true =>
      obtain ⟨h5, h6⟩ := h4.1 rfl
      rw [List.getD_eq_getElem?_getD, List.getElem?_eq_getElem h5] at h6
      exact decide_eq_true (by rw [List.getElem?_eq_getElem h5]; exact congrArg some h6)
    | false =>
      refine decide_eq_false fun h => ?_
      obtain ⟨h5, h6⟩ := List.getElem?_eq_some_iff.1 h
      have : false = true := h4.2 ⟨h5, by rw [List.getD_eq_getElem?_getD, h]; rfl⟩
      cases this
  exact ⟨by rw [hp, hb], by rw [hp]; exact h1⟩
theorem has_lt {ns : List ByteArray} {x : ByteArray} (h : has ns x = true) : pos ns x < ns.length := by
  unfold has at h
  exact (List.getElem?_eq_some_iff.1 (of_decide_eq_true h)).1
/-- The kid that is gone on with. -/
def kidAt (ns : List ByteArray) (ks : List Tr) (x : ByteArray) : Tr := if has ns x then ks.getD (pos ns x) emptyDir else emptyDir
def nextAt (ns : List ByteArray) (x : ByteArray) : Nat := if has ns x then pos ns x + 1 else pos ns x
/-- A tree laid at a place, or why not: so deep. -/
def laidS : Tr → List ByteArray → Tr → Nat → Except Nat Tr
  | _, [], X, deep => if 64 < deep then .error 5 else .ok X
  | .mk k _ _ ns ks, n :: r, X, deep => if 64 < deep then .error 5 else if k = 2 then
      (match laidS (kidAt ns ks n) r X (deep + 1) with
      | .error e => .error e
      | .ok t => .ok (.mk 2 false ⟨#[]⟩ (ns.take (pos ns n) ++ [n] ++ ns.drop (nextAt ns n)) (ks.take (pos ns n) ++ [t] ++ ks.drop (nextAt ns n)))) else .error 8
theorem kidAt_nice {ns : List ByteArray} {ks : List Tr} {x : ByteArray} (h : ∀ t ∈ ks, Nice t) : Nice (kidAt ns ks x) := by
  unfold kidAt
  split
  · rw [List.getD_eq_getElem?_getD]
    cases hq : ks[pos ns x]? with
    | none => exact nice_empty
    | some t => exact h t (List.mem_of_getElem? hq)
  · exact nice_empty
theorem kidAt_wt {ns : List ByteArray} {ks : List Tr} {x : ByteArray} (h : ∀ t ∈ ks, wt t ≤ 100000) : wt (kidAt ns ks x) ≤ 100000 := by
  have he : wt emptyDir ≤ 100000 := by unfold emptyDir; rw [wt]; simp only [tenths, wts, List.length_nil]; have : (⟨#[]⟩ : ByteArray).size = 0 := rfl; omega
  unfold kidAt
  split
  · rw [List.getD_eq_getElem?_getD]
    cases hq : ks[pos ns x]? with
    | none => exact he
    | some t => exact h t (List.mem_of_getElem? hq)
  · exact he
end Go.Proofs.YthfjofmfiklegaaDoor
