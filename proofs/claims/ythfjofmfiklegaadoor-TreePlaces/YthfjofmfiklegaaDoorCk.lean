/- Check, in the code. -/
import Derived.Test.YthfjofmfiklegaaDoorEnt
namespace Go.Proofs.YthfjofmfiklegaaDoor
open Go.RowKit
/-- Has a node just what its kind has? -/
def formB (k : Int) (x : Bool) (d n nk : Nat) : Bool :=
  if k = 1 then decide (n = 0) && decide (nk = 0) else if k = 3 then !x && decide (n = 0) && decide (nk = 0) else if k = 2 then !x && decide (d = 0) && decide (nk = n) else false
set_option maxRecDepth 20000 in
set_option maxHeartbeats 1000000 in
theorem formed_any (k : Int) (x : Bool) (ad an ak : Option Addr) (d n nk cd cn ck : Nat) (w : World) :
    Calls Tryd.prog 61 #[nodeV k x (.slice ad d cd) (.slice an n cn) (.slice ak nk ck)] w fun e w' => e = .returned (.bool (formB k x d n nk)) ∧ Below w.heap.size w w' := by
  have hb : Below w.heap.size w (w.alloc (.cells #[.int .i64 k, .bool x, .slice ad d cd, .slice an n cn, .slice ak nk ck] 26)) := (Below.refl _ _).alloc (Nat.le_refl _) _
  by_cases h1 : k = 1
  · subst h1
    go_enter Tryd.func61, Tryd.ntmps61
    go_wp2_with fail
    all_goals go_ret
    all_goals refine ⟨ret_bool ?_, (Below.refl _ _).alloc (Nat.le_refl _) _⟩
    all_goals (clear hb; simp_all [formB] <;> (rw [Bool.eq_iff_iff]; simp <;> omega))
  by_cases h3 : k = 3
  · subst h3
    go_enter Tryd.func61, Tryd.ntmps61
    go_wp2_with fail
    all_goals go_ret
    all_goals refine ⟨ret_bool ?_, (Below.refl _ _).alloc (Nat.le_refl _) _⟩
    all_goals (clear hb; simp_all [formB] <;> (rw [Bool.eq_iff_iff]; simp <;> omega))
  by_cases h2 : k = 2
  · subst h2
    go_enter Tryd.func61, Tryd.ntmps61
    go_wp2_with fail
    all_goals go_ret
    all_goals refine ⟨ret_bool ?_, (Below.refl _ _).alloc (Nat.le_refl _) _⟩
    all_goals (clear hb; simp_all [formB] <;> (rw [Bool.eq_iff_iff]; simp <;> omega))
  have e1 : (k == 1) = false := by simpa using h1
  have e2 : (k == 2) = false := by simpa using h2
  have e3 : (k == 3) = false := by simpa using h3
  have HF : Hid (formB k x d n nk = false) := by unfold formB; show (if k = 1 then _ else _) = false; rw [if_neg h1, if_neg h3, if_neg h2]
  clear h1 h2 h3
  go_enter Tryd.func61, Tryd.ntmps61
  go_wp2_with fail
  all_goals go_ret
  all_goals refine ⟨ret_bool ?_, (Below.refl _ _).alloc (Nat.le_refl _) _⟩
  all_goals exact (unhide HF).symm
theorem form_no {k : Int} {x : Bool} {d nk : Nat} {ns : List ByteArray} (h : formB k x d ns.length nk = false) : locErr k x d ns nk = 3 := by
  unfold formB at h
  unfold locErr
  obtain ⟨n, hn⟩ : ∃ n, n = ns.length := ⟨_, rfl⟩
  rw [← hn] at h ⊢
  clear hn
  by_cases h1 : k = 1
  · rw [if_pos h1] at h ⊢
    rw [if_pos]; simp at h; omega
  rw [if_neg h1] at h ⊢
  by_cases h3 : k = 3
  · rw [if_pos h3] at h ⊢
    rw [if_pos]; cases x <;> simp at h ⊢; omega
  rw [if_neg h3] at h ⊢
  by_cases h2 : k = 2
  · rw [if_pos h2] at h ⊢
    rw [if_pos]; cases x <;> simp at h ⊢; omega
  rw [if_neg h2]
theorem form_yes {k : Int} {x : Bool} {d n nk : Nat} (h : formB k x d n nk = true) : (k = 1 ∧ n = 0 ∧ nk = 0) ∨ (k = 3 ∧ x = false ∧ n = 0 ∧ nk = 0) ∨ (k = 2 ∧ x = false ∧ d = 0 ∧ nk = n) := by
  unfold formB at h
  by_cases h1 : k = 1
  · rw [if_pos h1] at h; simp at h; exact .inl ⟨h1, h⟩
  rw [if_neg h1] at h
  by_cases h3 : k = 3
  · rw [if_pos h3] at h; simp at h; exact .inr (.inl ⟨h3, h.1.1, h.1.2, h.2⟩)
  rw [if_neg h3] at h
  by_cases h2 : k = 2
  · rw [if_pos h2] at h; simp at h; exact .inr (.inr ⟨h2, h.1.1, h.1.2, h.2⟩)
  rw [if_neg h2] at h; cases h
theorem loc_file {x : Bool} {d nk : Nat} {ns : List ByteArray} (h0 : ns.length = 0) (hk : nk = 0) : locErr 1 x d ns nk = if 1048576 < d then 5 else 0 := by
  unfold locErr; rw [if_pos rfl, if_neg (by omega)]
theorem loc_link {d nk : Nat} {ns : List ByteArray} (h0 : ns.length = 0) (hk : nk = 0) : locErr 3 false d ns nk = if 1000 < d then 5 else if d = 0 then 3 else 0 := by
  unfold locErr; rw [if_neg (by omega), if_pos rfl, if_neg (by simp only [Bool.false_eq_true, or_false]; omega)]
theorem loc_dir_ok {ns : List ByteArray} (h : okNames ns) : locErr 2 false 0 ns ns.length = 0 := by
  unfold locErr; rw [if_neg (by omega), if_neg (by omega), if_pos rfl, if_neg (by simp), if_pos h]
theorem loc_dir_no {ns : List ByteArray} (h : ¬ okNames ns) : locErr 2 false 0 ns ns.length = 9 := by
  unfold locErr; rw [if_neg (by omega), if_neg (by omega), if_pos rfl, if_neg (by simp), if_neg h]
theorem okNames_nil {ns : List ByteArray} (h : ns.length = 0) : okNames ns := fun i hi => by omega
theorem ret_i {a b : Int} (h : a = b) : Ending.returned (.int .i64 a) = .returned (.int .i64 b) := by rw [h]
theorem okName_first {ns : List ByteArray} (h : 0 < ns.length) : okName ns 0 = entB ns[0] := by
  unfold okName; rw [List.getElem?_eq_getElem h]; simp
theorem okName_next {ns : List ByteArray} {i : Nat} (h : i + 1 < ns.length) : okName ns (i + 1) = (entB ns[i + 1] && decide ((ns.getD i ⟨#[]⟩).toList < ns[i + 1].toList)) := by
  unfold okName
  rw [List.getElem?_eq_getElem h]
  have e : (i + 1 == 0) = false := by simp
  simp only [e, Bool.false_or, Nat.add_sub_cancel]
end Go.Proofs.YthfjofmfiklegaaDoor
