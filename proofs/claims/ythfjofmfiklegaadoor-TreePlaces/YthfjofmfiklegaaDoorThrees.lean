/- slices.Concat of three, one of them new. -/
import Derived.Test.YthfjofmfiklegaaDoorThree
import Derived.Test.YthfjofmfiklegaaDoorKeep
namespace Go.Proofs.YthfjofmfiklegaaDoor
open Go.RowKit
theorem concat23_set (lo hi B : Nat) (a1 a3 : Option Addr) (n1 c1 n3 c3 : Nat) (x1 x3 : List Value) (nm : ByteArray) (w : World) (hB : w.heap.size = B) (hhi : hi ≤ B)
    (r1 : Row lo hi w (.slice a1 n1 c1) n1 x1) (r3 : Row lo hi w (.slice a3 n3 c3) n3 x3)
    (l1 : x1.length = n1 * 1) (l3 : x3.length = n3 * 1) (o1 : ∀ u ∈ x1, u.oneCell' = true) (o3 : ∀ u ∈ x3, u.oneCell' = true) (hmax : n1 + 1 + n3 ≤ 1000000) :
    Calls Tryd.prog 58 #[.slice (some ⟨B + 1, 0, none⟩) 3 3] ((w.alloc (.cells #[.string nm] 9)).alloc (.cells #[.slice a1 n1 c1, .slice (some ⟨B, 0, none⟩) 1 1, .slice a3 n3 c3] 23)).drew fun e w' => ∃ a c, e = .returned (.slice a (n1 + 1 + n3) c) ∧ w'.ownsRow (B + 1 + 1) 9 1 (.slice a (n1 + 1 + n3) c) (n1 + 1 + n3) (x1 ++ [.string nm] ++ x3) ∧ Below B w w' := by
  subst hB
  have hbw : Below w.heap.size w ((w.alloc (.cells #[.string nm] 9)).alloc (.cells #[.slice a1 n1 c1, .slice (some ⟨w.heap.size, 0, none⟩) 1 1, .slice a3 n3 c3] 23)).drew := (((Below.refl _ _).alloc (Nat.le_refl _) _).alloc (by simp) _).drew
  have hh : ((w.alloc (.cells #[.string nm] 9)).alloc (.cells #[.slice a1 n1 c1, .slice (some ⟨w.heap.size, 0, none⟩) 1 1, .slice a3 n3 c3] 23)).drew.heap[w.heap.size + 1]? = some (.cells #[.slice a1 n1 c1, .slice (some ⟨w.heap.size, 0, none⟩) 1 1, .slice a3 n3 c3] 23) := by
    show ((w.heap.push _).push _)[w.heap.size + 1]? = _
    rw [Array.getElem?_push, if_pos (by simp)]
  have hm : ((w.alloc (.cells #[.string nm] 9)).alloc (.cells #[.slice a1 n1 c1, .slice (some ⟨w.heap.size, 0, none⟩) 1 1, .slice a3 n3 c3] 23)).drew.heap[w.heap.size]? = some (.cells #[.string nm] 9) := by
    show ((w.heap.push _).push _)[w.heap.size]? = _
    rw [Array.getElem?_push, if_neg (by simp), Array.getElem?_push, if_pos rfl]
  have hz : ((w.alloc (.cells #[.string nm] 9)).alloc (.cells #[.slice a1 n1 c1, .slice (some ⟨w.heap.size, 0, none⟩) 1 1, .slice a3 n3 c3] 23)).drew.heap.size = w.heap.size + 1 + 1 := by simp
  have h := concat23_three (w.heap.size + 1) 0 (w.heap.size + 1 + 1) a1 (some ⟨w.heap.size, 0, none⟩) a3 n1 c1 1 1 n3 c3 x1 [.string nm] x3 _ (by rw [hz]; omega) (by rw [hz]; omega)
    (by rw [cell_of_row _ _ _ _ _ _ hh]; rfl) (by rw [cell_of_row _ _ _ _ _ _ hh]; rfl) (by rw [cell_of_row _ _ _ _ _ _ hh]; rfl)
    ((r1.below hbw hhi).mono (Nat.zero_le _) (by omega)) ⟨_, _, rfl, Nat.le_refl _, fun _ => ⟨w.heap.size, 0, rfl, Nat.zero_le _, by omega, fun j u hj => by rw [cell_of_row _ _ _ _ _ _ hm, Nat.zero_add]; rw [← Array.getElem?_toList]; exact hj⟩⟩ ((r3.below hbw hhi).mono (Nat.zero_le _) (by omega))
    l1 rfl l3 o1 (by simp [Value.oneCell']) o3 hmax
  rw [hz] at h
  exact h.mono (fun e w' ⟨a, c, h1, h2, h3⟩ => ⟨a, c, h1, h2, hbw.trans (h3.mono (by omega))⟩)
theorem concat24_set (lo hi B : Nat) (a1 a3 : Option Addr) (n1 c1 n3 c3 : Nat) (x1 x3 : List Value) (j0 : Int) (j1 : Bool) (f1 f2 f3 : Option Addr) (g1 h1 g2 h2 g3 h3 : Nat) (w : World) (hB : w.heap.size = B) (hhi : hi ≤ B)
    (r1 : Row lo hi w (.slice a1 n1 c1) n1 x1) (r3 : Row lo hi w (.slice a3 n3 c3) n3 x3)
    (l1 : x1.length = n1 * 5) (l3 : x3.length = n3 * 5) (o1 : ∀ u ∈ x1, u.oneCell' = true) (o3 : ∀ u ∈ x3, u.oneCell' = true) (hmax : n1 + 1 + n3 ≤ 1000000) :
    Calls Tryd.prog 59 #[.slice (some ⟨B + 1, 0, none⟩) 3 3] ((w.alloc (.cells #[.int .i64 j0, .bool j1, .slice f1 g1 h1, .slice f2 g2 h2, .slice f3 g3 h3] 26)).alloc (.cells #[.slice a1 n1 c1, .slice (some ⟨B, 0, none⟩) 1 1, .slice a3 n3 c3] 24)).drew fun e w' => ∃ a c, e = .returned (.slice a (n1 + 1 + n3) c) ∧ w'.ownsRow (B + 1 + 1) 26 5 (.slice a (n1 + 1 + n3) c) (n1 + 1 + n3) (x1 ++ [.int .i64 j0, .bool j1, .slice f1 g1 h1, .slice f2 g2 h2, .slice f3 g3 h3] ++ x3) ∧ Below B w w' := by
  subst hB
  have hbw : Below w.heap.size w ((w.alloc (.cells #[.int .i64 j0, .bool j1, .slice f1 g1 h1, .slice f2 g2 h2, .slice f3 g3 h3] 26)).alloc (.cells #[.slice a1 n1 c1, .slice (some ⟨w.heap.size, 0, none⟩) 1 1, .slice a3 n3 c3] 24)).drew := (((Below.refl _ _).alloc (Nat.le_refl _) _).alloc (by simp) _).drew
  have hh : ((w.alloc (.cells #[.int .i64 j0, .bool j1, .slice f1 g1 h1, .slice f2 g2 h2, .slice f3 g3 h3] 26)).alloc (.cells #[.slice a1 n1 c1, .slice (some ⟨w.heap.size, 0, none⟩) 1 1, .slice a3 n3 c3] 24)).drew.heap[w.heap.size + 1]? = some (.cells #[.slice a1 n1 c1, .slice (some ⟨w.heap.size, 0, none⟩) 1 1, .slice a3 n3 c3] 24) := by
    show ((w.heap.push _).push _)[w.heap.size + 1]? = _
    rw [Array.getElem?_push, if_pos (by simp)]
  have hm : ((w.alloc (.cells #[.int .i64 j0, .bool j1, .slice f1 g1 h1, .slice f2 g2 h2, .slice f3 g3 h3] 26)).alloc (.cells #[.slice a1 n1 c1, .slice (some ⟨w.heap.size, 0, none⟩) 1 1, .slice a3 n3 c3] 24)).drew.heap[w.heap.size]? = some (.cells #[.int .i64 j0, .bool j1, .slice f1 g1 h1, .slice f2 g2 h2, .slice f3 g3 h3] 26) := by
    show ((w.heap.push _).push _)[w.heap.size]? = _
    rw [Array.getElem?_push, if_neg (by simp), Array.getElem?_push, if_pos rfl]
  have hz : ((w.alloc (.cells #[.int .i64 j0, .bool j1, .slice f1 g1 h1, .slice f2 g2 h2, .slice f3 g3 h3] 26)).alloc (.cells #[.slice a1 n1 c1, .slice (some ⟨w.heap.size, 0, none⟩) 1 1, .slice a3 n3 c3] 24)).drew.heap.size = w.heap.size + 1 + 1 := by simp
  have h := concat24_three (w.heap.size + 1) 0 (w.heap.size + 1 + 1) a1 (some ⟨w.heap.size, 0, none⟩) a3 n1 c1 1 1 n3 c3 x1 [.int .i64 j0, .bool j1, .slice f1 g1 h1, .slice f2 g2 h2, .slice f3 g3 h3] x3 _ (by rw [hz]; omega) (by rw [hz]; omega)
    (by rw [cell_of_row _ _ _ _ _ _ hh]; rfl) (by rw [cell_of_row _ _ _ _ _ _ hh]; rfl) (by rw [cell_of_row _ _ _ _ _ _ hh]; rfl)
    ((r1.below hbw hhi).mono (Nat.zero_le _) (by omega)) ⟨_, _, rfl, Nat.le_refl _, fun _ => ⟨w.heap.size, 0, rfl, Nat.zero_le _, by omega, fun j u hj => by rw [cell_of_row _ _ _ _ _ _ hm, Nat.zero_add]; rw [← Array.getElem?_toList]; exact hj⟩⟩ ((r3.below hbw hhi).mono (Nat.zero_le _) (by omega))
    l1 rfl l3 o1 (by simp [Value.oneCell']) o3 hmax
  rw [hz] at h
  exact h.mono (fun e w' ⟨a, c, h1, h2, h3⟩ => ⟨a, c, h1, h2, hbw.trans (h3.mono (by omega))⟩)
end Go.Proofs.YthfjofmfiklegaaDoor
