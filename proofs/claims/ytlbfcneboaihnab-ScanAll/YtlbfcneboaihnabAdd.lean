/- The state behind all blocks of a row of bytes: the code's addBlocks. -/
import Derived.Test.YtlbfcneboaihnabMix
namespace Go.Proofs.Ytlbfcneboaihnab
open Go.RowKit Go.Great
attribute [local go_sem] f_8 f_1024

/-- A slice value whose bytes lie in a block that was there. -/
def BytesAt (w : World) (v : Value) (m : List Nat) : Prop :=
  ∃ a cap, v = .slice a m.length cap ∧ m.length ≤ cap ∧ (0 < m.length → ∃ b o, a = some ⟨b, o, none⟩ ∧ b < w.heap.size ∧ ∀ i, i < m.length → w.cell? ⟨b, o + i, none⟩ = some (.int .u8 ((Sha.nth m i : Nat) : Int)))
theorem BytesAt.below {w w' : World} {v : Value} {m : List Nat} (h : BytesAt w v m) (hb : Below w.heap.size w w') : BytesAt w' v m := by
  obtain ⟨a, cap, e, hc, hm⟩ := h
  refine ⟨a, cap, e, hc, fun hp => ?_⟩
  obtain ⟨b, o, ea, hl, hcell⟩ := hm hp
  exact ⟨b, o, ea, Nat.lt_of_lt_of_le hl hb.size, fun i hi => by rw [hb.cell (p := ⟨b, o + i, none⟩) hl]; exact hcell i hi⟩

/-- The first i words of l, each grown by that of m. -/
def addTo (l m : List Nat) : Nat → List Nat
  | 0 => l
  | i + 1 => (addTo l m i).set i (Sha.add (Sha.nth l i) (Sha.nth m i))
theorem addTo_length (l m : List Nat) (i : Nat) : (addTo l m i).length = l.length := by
  induction i with
  | zero => rfl
  | succ i ih => simp [addTo, ih]
theorem addTo_nth (l m : List Nat) (i : Nat) : ∀ j, i ≤ j → Sha.nth (addTo l m i) j = Sha.nth l j := by
  induction i with
  | zero => intro j _; rfl
  | succ i ih =>
    intro j hj
    rw [← ih j (by omega)]
    show Sha.nth ((addTo l m i).set i _) j = _
    unfold Sha.nth
    rw [List.getElem?_set_ne (by omega)]
theorem addTo_plus (s t : Sha.St) : addTo s.list t.list 8 = (Sha.plus s t).list := rfl

/-- What holds between two rounds over blocks: the state's box, the result's, the rounds' numbers. -/
structure AB (w wr : World) (kb : Nat) (l : List Nat) : Prop where
  bel : Below w.heap.size w wr
  st : rowOf wr w.heap.size = E32 l
  fst : fits wr w.heap.size 8 = true
  fres : fits wr (w.heap.size + 1) 8 = true
  k : rowOf wr kb = E32 Sha.K
  klo : w.heap.size + 1 < kb
  khi : kb < wr.heap.size
theorem AB.below {w wr wr' : World} {kb : Nat} {l : List Nat} (h : AB w wr kb l) (hb : Below wr.heap.size wr wr') : AB w wr' kb l := by
  have h1 := h.klo
  have h2 := h.khi
  exact ⟨h.bel.trans (hb.mono h.bel.size), by rw [below_rowOf hb (by omega)]; exact h.st, by rw [below_fits hb (by omega)]; exact h.fst, by rw [below_fits hb (by omega)]; exact h.fres,
    by rw [below_rowOf hb h2]; exact h.k, h1, Nat.lt_of_lt_of_le h2 hb.size⟩
theorem AB.alloc {w wr : World} {kb : Nat} {l : List Nat} (h : AB w wr kb l) (o : Obj) : AB w (wr.alloc o) kb l :=
  h.below ((Below.refl _ _).alloc (Nat.le_refl _) o)
theorem AB.drews {w wr : World} {kb : Nat} {l : List Nat} (h : AB w wr kb l) (n : Nat) : AB w (wr.drewN n) kb l :=
  h.below (below_drews (Below.refl _ _) n)
theorem rowOf_setCell_at (w : World) (b n i : Nat) (v : Value) (h : fits w b n = true) : rowOf (w.setCell ⟨b, i, none⟩ v) b = (rowOf w b).setIfInBounds i v := by
  obtain ⟨cs, t, e, -, er⟩ := fits_some h
  rw [setCell_eq_setRow w b i cs t (0, 0) v e, er]
  exact rowOf_setRow_at w b n _ h
theorem fits_setCell_at (w : World) (b n i : Nat) (v : Value) (h : fits w b n = true) : fits (w.setCell ⟨b, i, none⟩ v) b n = true := by
  obtain ⟨cs, t, e, es, er⟩ := fits_some h
  rw [setCell_eq_setRow w b i cs t (0, 0) v e]
  unfold fits
  rw [setRow_heap w b cs _ t _ e]
  simp [es]
theorem AB.set {w wr : World} {kb : Nat} {l : List Nat} (h : AB w wr kb l) (i n : Nat) : AB w (wr.setCell ⟨w.heap.size, i, none⟩ (.int .u32 (n : Int))) kb (l.set i n) := by
  have h1 := h.klo
  have h2 := h.khi
  refine ⟨h.bel.setCell (Nat.le_refl _) _, ?_, fits_setCell_at _ _ _ _ _ h.fst, ?_, ?_, h1, ?_⟩
  · rw [rowOf_setCell_at _ _ _ _ _ h.fst, h.st, E32_set]
  · rw [fits_setCell_other _ _ _ _ _ (by simp)]; exact h.fres
  · rw [rowOf_setCell_other _ _ _ _ (by simp; omega)]; exact h.k
  · simp [World.setCell]; omega

def lenOf : Value → Nat
  | .slice _ l _ => l
  | _ => 0
theorem nth_take (m : List Nat) (j i : Nat) (hi : i < 64) : Sha.nth ((m.drop j).take 64) i = Sha.nth m (j + i) := by
  unfold Sha.nth; rw [List.getElem?_take_of_lt hi, List.getElem?_drop]
theorem bytes_take {m : List Nat} (h : Sha.Bytes m) (j n : Nat) : Sha.Bytes ((m.drop j).take n) := fun x hx => h x (List.mem_of_mem_drop (List.mem_of_mem_take hx))

end Go.Proofs.Ytlbfcneboaihnab
