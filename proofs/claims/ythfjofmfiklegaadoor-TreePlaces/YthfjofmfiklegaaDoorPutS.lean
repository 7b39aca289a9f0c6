/- Put: the plain mathematics. No Go text is named here. -/
import Derived.Test.YthfjofmfiklegaaDoorLaidS
namespace Go.Proofs.YthfjofmfiklegaaDoor
open Go.RowKit
theorem chks_ok {ks : List Tr} {deep : Nat} : ∀ {n : Nat}, (chks ks deep n).1 = 0 → ∀ t ∈ ks, ∃ n', (chk t deep n').1 = 0 := by
  induction ks with
  | nil => intro n _ t ht; simp at ht
  | cons a r ih =>
    intro n h t ht
    rw [chks] at h
    by_cases h0 : (chk a deep n).1 = 0
    · rw [if_pos h0] at h
      rcases List.mem_cons.1 ht with rfl | ht
      · exact ⟨n, h0⟩
      · exact ih h t ht
    · rw [if_neg h0] at h; exact absurd h h0
theorem chk_kids {k : Int} {x : Bool} {d : ByteArray} {ns : List ByteArray} {ks : List Tr} {deep n : Nat} (h : (chk (.mk k x d ns ks) deep n).1 = 0) : locErr k x d.size ns ks.length = 0 ∧ deep ≤ 64 ∧ ∀ t ∈ ks, ∃ n', (chk t (deep + 1) n').1 = 0 := by
  rw [chk] at h
  split at h
  · cases h
  split at h
  · rename_i h1 h2
    exact ⟨h2, by omega, chks_ok h⟩
  · rename_i h1 h2
    exact absurd h h2
theorem loc0 {k : Int} {x : Bool} {d nk : Nat} {ns : List ByteArray} (h : locErr k x d ns nk = 0) : (k = 1 ∧ ns.length = 0 ∧ nk = 0) ∨ (k = 3 ∧ x = false ∧ ns.length = 0 ∧ nk = 0) ∨ (k = 2 ∧ x = false ∧ d = 0 ∧ ns.length = nk ∧ okNames ns) := by
  unfold locErr at h
  split at h
  · split at h
    · cases h
    · left; rename_i h1 h2; exact ⟨h1, by omega, by omega⟩
  split at h
  · split at h
    · cases h
    · right; left; rename_i h1 h2; exact ⟨h1, by cases x <;> simp_all, by omega, by omega⟩
  split at h
  · split at h
    · cases h
    · split at h
      · right; right; rename_i h1 h2 h3; exact ⟨h1, by cases x <;> simp_all, by omega, by omega, h3⟩
      · cases h
  · cases h
theorem okNames_rise {ns : List ByteArray} (h : okNames ns) : Rise ns := by
  intro i j hij hj
  induction j with
  | zero => omega
  | succ j ih =>
    have h1 := h (j + 1) hj
    rw [okName_next hj, Bool.and_eq_true] at h1
    have h2 := of_decide_eq_true h1.2
    have e : ns[j + 1] = ns.getD (j + 1) ⟨#[]⟩ := by rw [List.getD_eq_getElem?_getD, List.getElem?_eq_getElem hj]; rfl
    rw [e] at h2
    rcases Nat.lt_or_ge i j with hi | hi
    · exact Ord.trans (ih hi (by omega)) h2
    · obtain rfl : i = j := by omega
      exact h2
theorem chk_nice (T : Tr) : ∀ {deep n : Nat}, (chk T deep n).1 = 0 → Nice T := by
  induction T using Tr.ind with
  | h k x d ns ks ih =>
    intro deep n h
    obtain ⟨h1, h2, h3⟩ := chk_kids h
    have hk : ∀ t ∈ ks, Nice t := fun t ht => by obtain ⟨n', hn'⟩ := h3 t ht; exact ih t ht hn'
    rcases loc0 h1 with ⟨_, h4, h5⟩ | ⟨_, _, h4, h5⟩ | ⟨_, _, _, h4, h5⟩
    · exact .mk _ _ _ _ _ (okNames_rise (okNames_nil h4)) (by omega) hk
    · exact .mk _ _ _ _ _ (okNames_rise (okNames_nil h4)) (by omega) hk
    · exact .mk _ _ _ _ _ (okNames_rise h5) h4 hk
/-- A place's names. -/
def placeL (s : ByteArray) : List ByteArray := if s.size = 0 then [] else partsB s
def isPl (s : ByteArray) : Bool := (placeL s).all entB
theorem size_zero {s : ByteArray} (h : s.size = 0) : s = ⟨#[]⟩ := by
  apply ByteArray.ext
  have : s.data.size = 0 := h
  exact Array.eq_empty_of_size_eq_zero this
theorem placeL_join (s : ByteArray) : joinB (placeL s) = s := by
  unfold placeL
  split
  · rename_i h; rw [size_zero h]; rfl
  · exact join_parts s
theorem isPl_yes {s : ByteArray} (h : ∃ l, IsPl s l) : isPl s = true := by
  obtain ⟨l, hl⟩ := h
  unfold isPl placeL
  split
  · rfl
  · rename_i h0
    rw [← isPl_parts hl h0]
    exact List.all_eq_true.2 hl.1
theorem isPl_no {s : ByteArray} (h : ∀ l, ¬ IsPl s l) : isPl s = false := by
  cases hp : isPl s with
  | false => rfl
  | true => exact absurd ⟨List.all_eq_true.1 hp, (placeL_join s).symm⟩ (h (placeL s))
theorem isPl_ent {s : ByteArray} (h : isPl s = true) : ∀ n ∈ placeL s, entB n = true := List.all_eq_true.1 h
theorem entB_le {s : ByteArray} (h : entB s = true) : s.size ≤ 100 := by
  unfold entB at h; exact (of_decide_eq_true h).2.1
theorem tenths_append (a b : List ByteArray) : tenths (a ++ b) = tenths a + tenths b := by
  induction a with
  | nil => simp [tenths]
  | cons x r ih => simp only [List.cons_append, tenths, ih]; omega
theorem wts_split (ks : List Tr) (i : Nat) : wts (ks.take i) + wts (ks.drop i) = wts ks := by rw [← wts_append, List.take_append_drop]
theorem tenths_split (ns : List ByteArray) (i : Nat) : tenths (ns.take i) + tenths (ns.drop i) = tenths ns := by rw [← tenths_append, List.take_append_drop]
theorem wt_empty : wt emptyDir = 1 := by unfold emptyDir; rw [wt]; simp only [tenths, wts, List.length_nil]; rfl
/-- What is laid is little more than both. -/
theorem laid_wt (l : List ByteArray) : ∀ {T X T' : Tr} {deep : Nat}, laidS T l X deep = .ok T' → (∀ n ∈ l, entB n = true) → Nice T → wt T' ≤ wt T + wt X + 12 * l.length ∧ deep + l.length ≤ 64 := by
  induction l with
  | nil =>
    intro T X T' deep h _ _
    cases T
    rw [laidS] at h
    split at h
    · cases h
    · cases h; simp only [List.length_nil]; omega
  | cons a r ih =>
    intro T X T' deep h hent hN
    cases hN with
    | mk k x d ns ks hr hl hk =>
    rw [laidS] at h
    split at h
    · cases h
    split at h
    · cases hq : laidS (kidAt ns ks a) r X (deep + 1) with
      | error e => rw [hq] at h; cases h
      | ok t =>
        rw [hq] at h
        cases h
        obtain ⟨h1, h2⟩ := ih hq (fun n hn => hent n (by simp [hn])) (kidAt_nice hk)
        have ha := entB_le (hent a (by simp))
        rw [wt, wt]
        simp only [tenths_append, wts_append, List.length_append, List.length_cons, List.length_nil, tenths, wts, List.length_take, List.length_drop]
        have hz : (⟨#[]⟩ : ByteArray).size = 0 := rfl
        rw [hz]
        have e1 := tenths_split ns (pos ns a)
        have e2 := wts_split ks (pos ns a)
        cases hh : has ns a with
        | false =>
          have en : nextAt ns a = pos ns a := by unfold nextAt; rw [hh]; rfl
          have ek : kidAt ns ks a = emptyDir := by unfold kidAt; rw [hh]; rfl
          rw [ek, wt_empty] at h1
          rw [en]
          omega
        | true =>
          have en : nextAt ns a = pos ns a + 1 := by unfold nextAt; rw [hh]; rfl
          have hlt := has_lt hh
          have hlk : pos ns a < ks.length := by omega
          have ek : kidAt ns ks a = ks[pos ns a] := by unfold kidAt; rw [hh, if_pos rfl, List.getD_eq_getElem?_getD, List.getElem?_eq_getElem hlk]; rfl
          rw [ek] at h1
          rw [en]
          have e3 := wts_take ks (pos ns a) hlk
          have e4 := wts_split ks (pos ns a + 1)
          have e5 := tenths_take ns (pos ns a) hlt
          have e6 := tenths_split ns (pos ns a + 1)
          omega
    · cases h
/-- Put, or why not. -/
noncomputable def putS (T : Tr) (s : ByteArray) (X : Tr) : Except Nat Tr :=
  if (chk T 1 0).1 ≠ 0 then .error (chk T 1 0).1 else if (chk X 1 0).1 ≠ 0 then .error (chk X 1 0).1 else if isPl s = false then .error 9 else
    match laidS T (placeL s) X 1 with
    | .error e => .error e
    | .ok W => if (chk W 1 0).1 ≠ 0 then .error (chk W 1 0).1 else .ok W
end Go.Proofs.YthfjofmfiklegaaDoor
