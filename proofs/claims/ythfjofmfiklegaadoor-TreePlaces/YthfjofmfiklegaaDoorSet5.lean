/- A node stored into a box. -/
import Derived.Test.YthfjofmfiklegaaDoorKeep
namespace Go.Proofs.YthfjofmfiklegaaDoor
open Go.RowKit
def set5 (w : World) (b : Nat) (v0 v1 v2 v3 v4 : Value) : World := ((((w.setCell ⟨b, 0, none⟩ v0).setCell ⟨b, 1, none⟩ v1).setCell ⟨b, 2, none⟩ v2).setCell ⟨b, 3, none⟩ v3).setCell ⟨b, 4, none⟩ v4
theorem set5_eq (w : World) (b : Nat) (v0 v1 v2 v3 v4 : Value) : ((((w.setCell ⟨b, 0, none⟩ v0).setCell ⟨b, 1, none⟩ v1).setCell ⟨b, 2, none⟩ v2).setCell ⟨b, 3, none⟩ v3).setCell ⟨b, 4, none⟩ v4 = set5 w b v0 v1 v2 v3 v4 := rfl
@[simp] theorem set5_size (w : World) (b : Nat) (v0 v1 v2 v3 v4 : Value) : (set5 w b v0 v1 v2 v3 v4).heap.size = w.heap.size := by simp [set5]
theorem set5_other (w : World) (b k : Nat) (v0 v1 v2 v3 v4 : Value) (h : k ≠ b) : (set5 w b v0 v1 v2 v3 v4).heap[k]? = w.heap[k]? := by
  unfold set5
  rw [set_other _ _ _ _ _ h, set_other _ _ _ _ _ h, set_other _ _ _ _ _ h, set_other _ _ _ _ _ h, set_other _ _ _ _ _ h]
theorem below_set5 {B : Nat} {a w : World} (h : Below B a w) {b : Nat} (hb : B ≤ b) (v0 v1 v2 v3 v4 : Value) : Below B a (set5 w b v0 v1 v2 v3 v4) := by
  unfold YthfjofmfiklegaaDoor.set5
  exact ((((h.setCell hb _).setCell hb _).setCell hb _).setCell hb _).setCell hb _
theorem Bx.set5 {w : World} {b : Nat} {u0 u1 u2 u3 u4 : Value} (h : Bx w b u0 u1 u2 u3 u4) (v0 v1 v2 v3 v4 : Value) : Bx (set5 w b v0 v1 v2 v3 v4) b v0 v1 v2 v3 v4 := by
  unfold Bx at h ⊢
  unfold YthfjofmfiklegaaDoor.set5
  have hl := (Array.getElem?_eq_some_iff.1 h).1
  simp [World.setCell, Array.getElem?_modify, h]
end Go.Proofs.YthfjofmfiklegaaDoor
