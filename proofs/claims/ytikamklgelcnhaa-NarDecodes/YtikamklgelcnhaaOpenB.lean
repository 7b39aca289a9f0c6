/- A slice of bytes that came in. -/
import Derived.Test.YtikamklgelcnhaaOpen
namespace Go.Proofs.Ytikamklgelcnhaa
open Go.RowKit
section
variable {H : Type} {enc : TypeId × Value → H} {W : World} {sp : Nat → Bool} {held : Bool}
theorem open_bytes {fuel : Nat} {v : Value} {x : DataW H × List MemPlace} (h2 : DataW.trod enc Try.prog W 0 sp held fuel 22 [v] = some x) (hw : ∀ n ∈ x.1.weights Try.prog 22, n ≤ reachBytes) : ∃ (b : ByteArray) (a : Option Addr) (c : Nat), v = .slice a b.size c ∧ Row 0 W.heap.size W (.slice a b.size c) b.size (byteVals b) ∧ b.size ≤ 140737488351232 := by
  have hR : reachBytes = 140737488351232 := rfl
  obtain ⟨v2, C2, d2, e2, l2, r2, s2, q2⟩ := open_rows (size := 1) (by omega) Try.underlying22 cells5' h2
  simp at e2
  subst e2
  obtain ⟨z2, -⟩ := slice_len Try.underlying22 (by decide +kernel) l2 s2 hw
  obtain ⟨dl, hd1, hd2⟩ := bytes_of C2 (fun c hc => by
    obtain ⟨i, hi, rfl⟩ := List.getElem_of_mem hc
    obtain ⟨_, m, q, _, ht⟩ := q2 i _ _ (List.getElem?_eq_getElem hi) (List.getElem?_eq_getElem (by omega : i < d2.length))
    obtain ⟨z, hz, -, hwf⟩ := DataW.trod_int Try.underlying5 ht
    have hb := bounds_u8 hwf
    refine ⟨UInt8.ofNat z.toNat, ?_⟩
    rw [hz]
    have : ((UInt8.ofNat z.toNat).toNat : Int) = z := by
      rw [UInt8.toNat_ofNat']
      omega
    rw [this])
  have hds : (⟨dl.toArray⟩ : ByteArray).size = C2.length := by rw [← hd1]; rfl
  have hr : Row 0 W.heap.size W v (⟨dl.toArray⟩ : ByteArray).size (byteVals ⟨dl.toArray⟩) := by
    rw [hds, show byteVals ⟨dl.toArray⟩ = C2.flatten from hd2]; exact r2
  obtain ⟨a, c, rfl, _⟩ := hr.slice
  exact ⟨⟨dl.toArray⟩, a, c, rfl, hr, by rw [hds]; omega⟩
end
end Go.Proofs.Ytikamklgelcnhaa
