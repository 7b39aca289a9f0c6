/- The document's Count, in the code. -/
import Derived.Test.YthfjofmfiklegabDoorK2
import Derived.Test.YthfjofmfiklegabDoorK5
namespace Go.Proofs.YthfjofmfiklegabDoor
open Go.RowKit
mutual
/-- Nodes. -/
def cn : Tr → Nat | .mk _ _ _ _ ks => 1 + cns ks
def cns : List Tr → Nat | [] => 0 | t :: r => cn t + cns r
end
mutual
/-- Bytes of files. -/
def cb : Tr → Nat | .mk k _ d _ ks => (if k = 1 then d.size else 0) + cbs ks
def cbs : List Tr → Nat | [] => 0 | t :: r => cb t + cbs r
end
theorem cns_append (a b : List Tr) : cns (a ++ b) = cns a + cns b := by
  induction a with
  | nil => simp [cns]
  | cons x r ih => simp only [List.cons_append, cns, ih]; omega
theorem cbs_append (a b : List Tr) : cbs (a ++ b) = cbs a + cbs b := by
  induction a with
  | nil => simp [cbs]
  | cons x r ih => simp only [List.cons_append, cbs, ih]; omega
theorem cns_take (l : List Tr) (i : Nat) (h : i < l.length) : cns (l.take (i + 1)) = cns (l.take i) + cn l[i] := by
  rw [List.take_succ_eq_append_getElem h, cns_append]; simp [cns]
theorem cbs_take (l : List Tr) (i : Nat) (h : i < l.length) : cbs (l.take (i + 1)) = cbs (l.take i) + cb l[i] := by
  rw [List.take_succ_eq_append_getElem h, cbs_append]; simp [cbs]
theorem cn_le (T : Tr) : cn T ≤ wt T ∧ cb T ≤ 20 * wt T := by
  induction T using Tr.ind with
  | h k x d ns ks ih =>
    have h2 : ∀ l : List Tr, (∀ t ∈ l, cn t ≤ wt t ∧ cb t ≤ 20 * wt t) → cns l ≤ wts l ∧ cbs l ≤ 20 * wts l := by
      intro l
      induction l with
      | nil => intro _; simp [cns, cbs, wts]
      | cons t r ih2 =>
        intro h
        have h3 := h t (by simp)
        have h4 := ih2 (fun t ht => h t (by simp [ht]))
        rw [cns, cbs, wts]
        omega
    have h3 := h2 ks ih
    rw [cn, cb, wt]
    split <;> omega
theorem cns_le (l : List Tr) : cns l ≤ wts l ∧ cbs l ≤ 20 * wts l := by
  induction l with
  | nil => simp [cns, cbs, wts]
  | cons t r ih => have := cn_le t; rw [cns, cbs, wts]; omega
end Go.Proofs.YthfjofmfiklegabDoor
