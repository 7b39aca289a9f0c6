/- slices.Concat of three. -/
import Derived.Test.YthfjofmfiklegaaDoorCat
namespace Go.Proofs.YthfjofmfiklegaaDoor
open Go.RowKit
theorem concat23_three (g lo hi : Nat) (a1 a2 a3 : Option Addr) (n1 c1 n2 c2 n3 c3 : Nat) (x1 x2 x3 : List Value) (w : World) (hg : g < w.heap.size) (hhi : hi ≤ w.heap.size)
    (z1 : w.cell? ⟨g, 0, none⟩ = some (.slice a1 n1 c1)) (z2 : w.cell? ⟨g, 1, none⟩ = some (.slice a2 n2 c2)) (z3 : w.cell? ⟨g, 2, none⟩ = some (.slice a3 n3 c3))
    (r1 : Row lo hi w (.slice a1 n1 c1) n1 x1) (r2 : Row lo hi w (.slice a2 n2 c2) n2 x2) (r3 : Row lo hi w (.slice a3 n3 c3) n3 x3)
    (l1 : x1.length = n1 * 1) (l2 : x2.length = n2 * 1) (l3 : x3.length = n3 * 1) (o1 : ∀ u ∈ x1, u.oneCell' = true) (o2 : ∀ u ∈ x2, u.oneCell' = true) (o3 : ∀ u ∈ x3, u.oneCell' = true) (hmax : n1 + n2 + n3 ≤ 1000000) :
    Calls Tryd.prog 58 #[.slice (some ⟨g, 0, none⟩) 3 3] w fun e w' => ∃ a c, e = .returned (.slice a (n1 + n2 + n3) c) ∧ w'.ownsRow w.heap.size 9 1 (.slice a (n1 + n2 + n3) c) (n1 + n2 + n3) (x1 ++ x2 ++ x3) ∧ Below w.heap.size w w' := by
  have h := concat23_any g 0 3 3 lo hi (fun i => [a1, a2, a3].getD i none) (fun i => [n1, n2, n3].getD i 0) (fun i => [c1, c2, c3].getD i 0) (fun i => [x1, x2, x3].getD i []) w (by omega) hg hhi
    (fun i hi => by match i, hi with
      | 0, _ => exact z1
      | 1, _ => exact z2
      | 2, _ => exact z3)
    (fun i hi => by match i, hi with
      | 0, _ => exact r1
      | 1, _ => exact r2
      | 2, _ => exact r3)
    (fun i hi => by match i, hi with
      | 0, _ => exact l1
      | 1, _ => exact l2
      | 2, _ => exact l3)
    (fun i hi => by match i, hi with
      | 0, _ => exact o1
      | 1, _ => exact o2
      | 2, _ => exact o3)
    (fun i hi => by match i, hi with
      | 0, _ => show 0 ≤ _; omega
      | 1, _ => show 0 + n1 ≤ _; omega
      | 2, _ => show 0 + n1 + n2 ≤ _; omega
      | 3, _ => show 0 + n1 + n2 + n3 ≤ _; omega)
  have e1 : catN (fun i => [n1, n2, n3].getD i 0) 3 = n1 + n2 + n3 := by show 0 + n1 + n2 + n3 = _; omega
  have e2 : catX (fun i => [x1, x2, x3].getD i []) 3 = x1 ++ x2 ++ x3 := by show [] ++ x1 ++ x2 ++ x3 = _; simp
  rw [e1, e2] at h
  exact h
theorem concat24_three (g lo hi : Nat) (a1 a2 a3 : Option Addr) (n1 c1 n2 c2 n3 c3 : Nat) (x1 x2 x3 : List Value) (w : World) (hg : g < w.heap.size) (hhi : hi ≤ w.heap.size)
    (z1 : w.cell? ⟨g, 0, none⟩ = some (.slice a1 n1 c1)) (z2 : w.cell? ⟨g, 1, none⟩ = some (.slice a2 n2 c2)) (z3 : w.cell? ⟨g, 2, none⟩ = some (.slice a3 n3 c3))
    (r1 : Row lo hi w (.slice a1 n1 c1) n1 x1) (r2 : Row lo hi w (.slice a2 n2 c2) n2 x2) (r3 : Row lo hi w (.slice a3 n3 c3) n3 x3)
    (l1 : x1.length = n1 * 5) (l2 : x2.length = n2 * 5) (l3 : x3.length = n3 * 5) (o1 : ∀ u ∈ x1, u.oneCell' = true) (o2 : ∀ u ∈ x2, u.oneCell' = true) (o3 : ∀ u ∈ x3, u.oneCell' = true) (hmax : n1 + n2 + n3 ≤ 1000000) :
    Calls Tryd.prog 59 #[.slice (some ⟨g, 0, none⟩) 3 3] w fun e w' => ∃ a c, e = .returned (.slice a (n1 + n2 + n3) c) ∧ w'.ownsRow w.heap.size 26 5 (.slice a (n1 + n2 + n3) c) (n1 + n2 + n3) (x1 ++ x2 ++ x3) ∧ Below w.heap.size w w' := by
  have h := concat24_any g 0 3 3 lo hi (fun i => [a1, a2, a3].getD i none) (fun i => [n1, n2, n3].getD i 0) (fun i => [c1, c2, c3].getD i 0) (fun i => [x1, x2, x3].getD i []) w (by omega) hg hhi
    (fun i hi => by match i, hi with
      | 0, _ => exact z1
      | 1, _ => exact z2
      | 2, _ => exact z3)
    (fun i hi => by match i, hi with
      | 0, _ => exact r1
      | 1, _ => exact r2
      | 2, _ => exact r3)
    (fun i hi => by match i, hi with
      | 0, _ => exact l1
      | 1, _ => exact l2
      | 2, _ => exact l3)
    (fun i hi => by match i, hi with
      | 0, _ => exact o1
      | 1, _ => exact o2
      | 2, _ => exact o3)
    (fun i hi => by match i, hi with
      | 0, _ => show 0 ≤ _; omega
      | 1, _ => show 0 + n1 ≤ _; omega
      | 2, _ => show 0 + n1 + n2 ≤ _; omega
      | 3, _ => show 0 + n1 + n2 + n3 ≤ _; omega)
  have e1 : catN (fun i => [n1, n2, n3].getD i 0) 3 = n1 + n2 + n3 := by show 0 + n1 + n2 + n3 = _; omega
  have e2 : catX (fun i => [x1, x2, x3].getD i []) 3 = x1 ++ x2 ++ x3 := by show [] ++ x1 ++ x2 ++ x3 = _; simp
  rw [e1, e2] at h
  exact h
end Go.Proofs.YthfjofmfiklegaaDoor
