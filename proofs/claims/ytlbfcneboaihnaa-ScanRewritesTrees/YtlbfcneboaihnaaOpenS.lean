/- Texts that came in as a slice, as a row of texts; how long each of them may be. -/
import Derived.Test.YtlbfcneboaihnaaSorts
import Derived.SizedLaws
import Derived.SliceStrings
namespace Go.Proofs.Ytlbfcneboaihnaa
open Go.RowKit
theorem strs_none (W : World) : StrsAt W (.slice none 0 0) [] := ⟨none, 0, rfl, Nat.le_refl _, fun h => by simp at h⟩
theorem strs_some {W : World} {x : Addr} {len cap : Nat} {ss : List ByteArray} (hl : len ≤ cap) (hz : ss.length = cap) (hc : ∀ i, i < ss.length → W.cell? (x.add i) = some (.string (ss.getD i ByteArray.empty))) :
    StrsAt W (.slice (some x) len cap) ((ss.take len).map (·.data.toList)) := by
  have hlen : ((ss.take len).map (·.data.toList)).length = len := by simp; omega
  refine ⟨some x, cap, by rw [hlen], by omega, fun h0 => ?_⟩
  have h00 : 0 < ss.length := by omega
  obtain ⟨hx, hlt⟩ := cell_spot (show W.cell? x = some _ from by have := hc 0 h00; simpa [Addr.add] using this)
  refine ⟨x.block, x.off, congrArg some hx, hlt, fun i hi => ?_⟩
  have hi' : i < ss.length := by omega
  have h1 := hc i hi'
  rw [hx, Addr.add_mid] at h1
  rw [h1]
  rw [hlen] at hi
  simp only [List.getD_eq_getElem?_getD, List.getElem?_map, List.getElem?_take_of_lt hi, List.getElem?_eq_getElem hi']
  rfl
theorem weights_mem {H : Type} {P : Program} {e : TypeId} : ∀ {l : List (DataW H)} {d : DataW H}, d ∈ l → ∀ n ∈ d.weights P e, n ∈ DataW.weightsAll P e l
  | x :: r, d, hd, n, hn => by
    simp only [DataW.weightsAll, List.mem_append]
    rcases List.mem_cons.1 hd with rfl | h
    · exact Or.inl hn
    · exact Or.inr (weights_mem h n hn)
/-- How long a text inside a slice that came in may be. -/
theorem sized_text {H : Type} {P : Program} {ts : List TypeId} {ds : List (DataW H)} (h : (DataW.weightsEach P ts ds).all (· ≤ reachBytes) = true) {j : Nat} {t e : TypeId} {elems spare : List (DataW H)} {bytes : List UInt8}
    (ht : ts[j]? = some t) (hd : ds[j]? = some (.slice elems spare)) (hu : P.underlying t = some (.slice e)) (hx : DataW.lit (.string bytes) ∈ elems) : bytes.length ≤ reachBytes := by
  refine of_decide_eq_true (List.all_eq_true.1 h _ (DataW.weights_mem_each ht hd _ ?_))
  simp only [DataW.weights, hu, List.mem_cons, List.mem_append]
  exact Or.inr (Or.inl (weights_mem hx _ (by simp [DataW.weights])))
end Go.Proofs.Ytlbfcneboaihnaa
