/- NarOne, in the code. -/
import Derived.Test.YtikamklgelcnhabLawA
import Derived.Test.YtikamklgelcnhabNrI
import Derived.Test.YtikamklgelcnhabEq
import Derived.Deep.RegionHeld3
namespace Go.Proofs.Ytikamklgelcnhab
open Go.RowKit
set_option linter.unusedSimpArgs false
structure BoxT2 (w W : World) (t0 t1 t2 t3 t4 x0 x1 x2 x3 x4 : Value) : Prop where
  b : Below w.heap.size w W
  s : w.heap.size + 1 + 1 ≤ W.heap.size
  t : Bx W w.heap.size t0 t1 t2 t3 t4
  x : Bx W (w.heap.size + 1) x0 x1 x2 x3 x4
theorem BoxT2.kept {w W W' : World} {t0 t1 t2 t3 t4 x0 x1 x2 x3 x4 : Value} (h : BoxT2 w W t0 t1 t2 t3 t4 x0 x1 x2 x3 x4) {B : Nat} (hb : Below B W W') (hB : w.heap.size + 1 + 1 ≤ B) : BoxT2 w W' t0 t1 t2 t3 t4 x0 x1 x2 x3 x4 :=
  ⟨h.b.trans (hb.mono (by omega)), by have := h.s; have := hb.size; omega, h.t.kept hb (by omega), h.x.kept hb (by omega)⟩
theorem nar_one {T U : Tr} (h1 : (chk T 1 0).1 = 0) (h2 : (chk U 1 0).1 = 0) (w1 : wt T ≤ 3000) (w2 : wt U ≤ 3000) : encS T = encS U ↔ T = U := by
  constructor
  · intro h
    unfold encS at h
    rw [if_pos h1, if_pos h2] at h
    unfold narB at h
    have h' := List.append_cancel_left h
    exact (node_inj T U [] [] ⟨⟨1, 0, h1⟩, by omega⟩ ⟨⟨1, 0, h2⟩, by omega⟩ (by rw [h'])).1
  · intro h; rw [h]
theorem enc_len {T : Tr} (h : wt T ≤ 3000) : (encS T).length ≤ 1000000 := by
  unfold encS
  split
  · unfold narB
    have := nodeB_len T
    have l : (txs [wMagic]).length = 24 := by decide
    rw [List.length_append]; omega
  · simp
end Go.Proofs.Ytikamklgelcnhab
