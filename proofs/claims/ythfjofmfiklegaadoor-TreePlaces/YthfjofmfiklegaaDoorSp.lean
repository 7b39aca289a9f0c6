/- What a tree is: the plain mathematics of chapter 4. -/
import Derived.Test.YthfjofmfiklegaaDoorWt
namespace Go.Proofs.YthfjofmfiklegaaDoor
open Go.RowKit
/-- An entry's name. -/
def entB (s : ByteArray) : Bool := decide (1 ≤ s.size ∧ s.size ≤ 100 ∧ s.toList ≠ [46] ∧ s.toList ≠ [46, 46] ∧ ∀ b ∈ s.data.toList, b ≠ 47 ∧ b ≠ 0)
/-- Names that are entries' names and rise. -/
def okName (ns : List ByteArray) (i : Nat) : Bool := match ns[i]? with
  | none => true
  | some s => entB s && (i == 0 || decide ((ns.getD (i - 1) ⟨#[]⟩).toList < s.toList))
def okNames (ns : List ByteArray) : Prop := ∀ i, i < ns.length → okName ns i = true
open Classical in
/-- The first fault of a node alone. -/
noncomputable def locErr (k : Int) (x : Bool) (d : Nat) (ns : List ByteArray) (nk : Nat) : Nat :=
  if k = 1 then (if 0 < ns.length ∨ 0 < nk then 3 else if 1048576 < d then 5 else 0)
  else if k = 3 then (if 0 < ns.length ∨ 0 < nk ∨ x = true then 3 else if 1000 < d then 5 else if d = 0 then 3 else 0)
  else if k = 2 then (if x = true ∨ 0 < d ∨ ns.length ≠ nk then 3 else if okNames ns then 0 else 9)
  else 3
mutual
/-- Check: the first fault, and how many nodes were met. -/
noncomputable def chk : Tr → Nat → Nat → Nat × Nat
  | .mk k x d ns ks, deep, n => if 65536 < n + 1 ∨ 64 < deep then (5, n + 1) else if locErr k x d.size ns ks.length = 0 then chks ks (deep + 1) (n + 1) else (locErr k x d.size ns ks.length, n + 1)
noncomputable def chks : List Tr → Nat → Nat → Nat × Nat
  | [], _, n => (0, n)
  | t :: r, deep, n => if (chk t deep n).1 = 0 then chks r deep (chk t deep n).2 else chk t deep n
end
theorem chks_step (ks : List Tr) (i deep n : Nat) (h : i < ks.length) : chks (ks.drop i) deep n = if (chk ks[i] deep n).1 = 0 then chks (ks.drop (i + 1)) deep (chk ks[i] deep n).2 else chk ks[i] deep n := by
  rw [List.drop_eq_getElem_cons h, chks]
theorem chks_end (ks : List Tr) (deep n : Nat) : chks (ks.drop ks.length) deep n = (0, n) := by
  rw [List.drop_length, chks]
end Go.Proofs.YthfjofmfiklegaaDoor
