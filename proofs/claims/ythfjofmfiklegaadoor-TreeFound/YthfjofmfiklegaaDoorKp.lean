/- Of what was there only some blocks turn. -/
import Derived.Test.YthfjofmfiklegaaDoorK2
namespace Go.Proofs.YthfjofmfiklegaaDoor
open Go.RowKit
/-- Of what was there only the blocks from lo to hi have turned. -/
structure Kp (lo hi : Nat) (a b : World) : Prop where
  os : b.os = a.os
  tape : b.tape = a.tape
  output : b.output = a.output
  size : a.heap.size ≤ b.heap.size
  block : ∀ k, k < a.heap.size → k < lo ∨ hi ≤ k → b.heap[k]? = a.heap[k]?
theorem Kp.refl (lo hi : Nat) (w : World) : Kp lo hi w w := ⟨rfl, rfl, rfl, Nat.le_refl _, fun _ _ _ => rfl⟩
theorem Kp.trans {lo hi : Nat} {a b c : World} (h : Kp lo hi a b) (k : Kp lo hi b c) : Kp lo hi a c :=
  ⟨k.os.trans h.os, k.tape.trans h.tape, k.output.trans h.output, Nat.le_trans h.size k.size, fun i hi hg => (k.block i (Nat.lt_of_lt_of_le hi h.size) hg).trans (h.block i hi hg)⟩
theorem Kp.mono {lo hi lo' hi' : Nat} {a b : World} (h : Kp lo hi a b) (h1 : lo' ≤ lo) (h2 : hi ≤ hi') : Kp lo' hi' a b := ⟨h.os, h.tape, h.output, h.size, fun k hk hg => h.block k hk (by omega)⟩
theorem Kp.of_below {lo hi : Nat} {a b : World} (h : Below a.heap.size a b) : Kp lo hi a b := ⟨h.os, h.tape, h.output, h.size, fun k hk _ => h.block k hk⟩
theorem Kp.below {lo hi : Nat} {a b : World} (h : Kp lo hi a b) (hl : lo ≤ a.heap.size) : Below lo a b := ⟨h.os, h.tape, h.output, h.size, fun k hk => h.block k (by omega) (.inl hk)⟩
theorem Kp.drew {lo hi : Nat} {a b : World} (h : Kp lo hi a b) : Kp lo hi a b.drew := ⟨h.os, h.tape, h.output, h.size, h.block⟩
theorem Kp.setCell {lo hi : Nat} {a b : World} (h : Kp lo hi a b) {g : Nat} (o : Nat) (v : Value) (hg : (lo ≤ g ∧ g < hi) ∨ a.heap.size ≤ g) : Kp lo hi a (b.setCell ⟨g, o, none⟩ v) :=
  ⟨h.os, h.tape, h.output, by simpa using h.size, fun k hk hk2 => by rw [set_other _ _ _ _ _ (by omega)]; exact h.block k hk hk2⟩
theorem Kp.row {lo hi : Nat} {a b : World} (h : Kp lo hi a b) {base : Nat} {e : TypeId} {size : Nat} {v : Value} {n : Nat} {xs : List Value} (ho : a.ownsRow base e size v n xs) (hv : ∀ g, v.ownBlock = some g → g < lo ∨ hi ≤ g) : b.ownsRow base e size v n xs :=
  owns_same ho (fun g hg => h.block g (owns_lt ho g hg).2 (hv g hg)) (fun _ _ h => h)
end Go.Proofs.YthfjofmfiklegaaDoor
