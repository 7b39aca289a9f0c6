/- The paths whose digits stand in bytes: the plain mathematics. -/
import Derived.Test.YtlbfcneboaihnaaSorts
import Derived.Test.YtlbfcneboaihnaaK6
namespace Go.Proofs.Ytlbfcneboaihnaa
open Classical
theorem stands_iff (B d : List Nat) : Stands B d ↔ ∃ u v, B = u ++ d ++ v := by
  constructor
  · rintro ⟨k, h1, h2⟩
    refine ⟨B.take k, B.drop (k + d.length), ?_⟩
    have e1 : B = B.take k ++ B.drop k := (List.take_append_drop k B).symm
    have e2 : B.drop k = (B.drop k).take d.length ++ (B.drop k).drop d.length := (List.take_append_drop _ _).symm
    rw [h2, List.drop_drop] at e2
    rw [List.append_assoc, ← e2, ← e1]
  · rintro ⟨u, v, rfl⟩
    refine ⟨u.length, by simp, ?_⟩
    rw [List.append_assoc, List.drop_left' rfl, List.take_left' rfl]
theorem stands_left {A B d : List Nat} (h : Stands A d) : Stands (A ++ B) d := by
  obtain ⟨u, v, rfl⟩ := (stands_iff _ _).1 h
  exact (stands_iff _ _).2 ⟨u, v ++ B, by simp⟩
theorem stands_right {A B d : List Nat} (h : Stands B d) : Stands (A ++ B) d := by
  obtain ⟨u, v, rfl⟩ := (stands_iff _ _).1 h
  exact (stands_iff _ _).2 ⟨A ++ u, v, by simp⟩
theorem stands_self (p : List Nat) (n : Nat) : Stands p (p.take n) := (stands_iff _ _).2 ⟨[], p.drop n, by simp⟩
/-- A path's digits. -/
def digsOf (p : Ord.S) : List Nat := (natsOf p).take 32
def IsP (p : Ord.S) : Prop := Sha.isPth (natsOf p)
def FoundIn (B : List Nat) (p : Ord.S) : Prop := IsP p ∧ Stands B (digsOf p)
/-- Those that are paths. -/
noncomputable def pathsOf (of : List Ord.S) : List Ord.S := of.filter fun p => decide (IsP p)
/-- Those that stand in bytes, rising, each once. -/
noncomputable def refsOf (B : List Nat) (of : List Ord.S) : List Ord.S := Ord.uniq (of.filter fun p => decide (FoundIn B p))
theorem pathsOf_mem (of : List Ord.S) (x : Ord.S) : x ∈ pathsOf of ↔ x ∈ of ∧ IsP x := by simp [pathsOf]
theorem refsOf_mem (B : List Nat) (of : List Ord.S) (x : Ord.S) : x ∈ refsOf B of ↔ x ∈ of ∧ FoundIn B x := by
  unfold refsOf; rw [Ord.uniq_mem]; simp
theorem refsOf_rises (B : List Nat) (of : List Ord.S) : Ord.Rises (refsOf B of) := Ord.uniq_rises _
theorem refsOf_length (B : List Nat) (of : List Ord.S) : (refsOf B of).length ≤ of.length := Nat.le_trans (Ord.uniq_length _) (List.length_filter_le _ _)
theorem pathsOf_length (of : List Ord.S) : (pathsOf of).length ≤ of.length := List.length_filter_le _ _
theorem met_refs (B : List Nat) (of : List Ord.S) : ((Ord.uniq (pathsOf of)).filter fun p => decide (Stands B (digsOf p))) = refsOf B of := by
  refine Ord.rises_eq (List.Pairwise.sublist List.filter_sublist (Ord.uniq_rises _)) (refsOf_rises B of) fun x => ?_
  rw [refsOf_mem, List.mem_filter, Ord.uniq_mem, pathsOf_mem, decide_eq_true_iff]
  exact ⟨fun h => ⟨h.1.1, h.1.2, h.2⟩, fun h => ⟨⟨h.1, h.2.1⟩, h.2.2⟩⟩
/-- The bytes that ScanAll lays: each path's behind what is between. -/
noncomputable def allB (T : List Nat) (of : List Ord.S) : List Nat := (pathsOf of).flatMap fun p => T ++ natsOf p
theorem allB_stands (T : List Nat) (of : List Ord.S) (p : Ord.S) (h : p ∈ pathsOf of) : Stands (allB T of) (digsOf p) := by
  obtain ⟨u, v, e⟩ := List.append_of_mem h
  unfold allB
  rw [e, List.flatMap_append, List.flatMap_cons]
  exact stands_right (stands_left (stands_right (stands_self _ _)))
theorem refs_all (T : List Nat) (of R : List Ord.S) (hr : Ord.Rises R) (hm : ∀ x, x ∈ R ↔ x ∈ of ∧ IsP x) : refsOf (allB T of) of = R := by
  refine Ord.rises_eq (refsOf_rises _ _) hr fun x => ?_
  rw [refsOf_mem, hm]
  exact ⟨fun h => ⟨h.1, h.2.1⟩, fun h => ⟨h.1, h.2, allB_stands T of x ((pathsOf_mem _ _).2 h)⟩⟩
theorem refs_part (A B : List Nat) (of : List Ord.S) (x : Ord.S) (h : x ∈ refsOf A of ++ refsOf B of) : x ∈ refsOf (A ++ B) of := by
  rw [refsOf_mem]
  rcases List.mem_append.1 h with h | h
  · rw [refsOf_mem] at h; exact ⟨h.1, h.2.1, stands_left h.2.2⟩
  · rw [refsOf_mem] at h; exact ⟨h.1, h.2.1, stands_right h.2.2⟩
theorem pathsOf_snoc (of : List Ord.S) (p : Ord.S) (h : IsP p) : pathsOf (of ++ [p]) = pathsOf of ++ [p] := by simp [pathsOf, h]
theorem pathsOf_skip (of : List Ord.S) (p : Ord.S) (h : ¬ IsP p) : pathsOf (of ++ [p]) = pathsOf of := by simp [pathsOf, h]
theorem allB_snoc (T : List Nat) (of : List Ord.S) (p : Ord.S) (h : IsP p) : allB T (of ++ [p]) = allB T of ++ T ++ natsOf p := by unfold allB; rw [pathsOf_snoc of p h]; simp
theorem allB_skip (T : List Nat) (of : List Ord.S) (p : Ord.S) (h : ¬ IsP p) : allB T (of ++ [p]) = allB T of := by unfold allB; rw [pathsOf_skip of p h]
end Go.Proofs.Ytlbfcneboaihnaa
