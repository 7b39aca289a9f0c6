/- The law's own helpers: same, roomy, stands; a slice of bytes that was handed in, as a list of numbers. -/
import Derived.Test.YtlbfcneboaihnaaText
namespace Go.Proofs.Ytlbfcneboaihnaa
open Go.RowKit Go.Great

def IsRow (k : IntKind) (w : World) (a : Option Addr) (len cap : Nat) (zs : List Int) : Prop :=
  (a = none ∧ len = 0 ∧ cap = 0 ∧ zs = []) ∨
  ∃ x, a = some x ∧ len ≤ cap ∧ cap ≤ maxLen ∧ zs.length = cap ∧ (∀ i, i < zs.length → w.cell? (x.add i) = some (.int k (zs.getD i 0))) ∧ ∀ n ∈ zs, (Lit.int k n).wf = true
theorem isRow_len {k : IntKind} {w : World} {a : Option Addr} {len cap : Nat} {zs : List Int} (h : IsRow k w a len cap zs) : len ≤ 9223372036854775807 := by
  rcases h with ⟨rfl, rfl, rfl, rfl⟩ | ⟨x, rfl, hl, hm, hz, hcell, hwz⟩
  · omega
  · unfold maxLen at hm; omega
theorem cell_spot {w : World} {x : Addr} {v : Value} (h : w.cell? x = some v) : x = ⟨x.block, x.off, none⟩ ∧ x.block < w.heap.size := by
  unfold World.cell? at h
  split at h
  · rename_i c t fr e
    refine ⟨?_, (Array.getElem?_eq_some_iff.1 e).1⟩
    cases x with
    | mk b o s => cases s with
      | none => rfl
      | some s => simp at h
  · simp at h
theorem isRow_bytes {w : World} {a : Option Addr} {len cap : Nat} {zs : List Int} (h : IsRow .u8 w a len cap zs) :
    ∃ b : List Nat, b.length = len ∧ Sha.Bytes b ∧ BytesAt w (.slice a len cap) b := by
  rcases h with ⟨rfl, rfl, rfl, rfl⟩ | ⟨x, rfl, hl, hm, hz, hcell, hwz⟩
  · exact ⟨[], rfl, fun y hy => by simp at hy, none, 0, rfl, Nat.le_refl _, fun h => by simp at h⟩
  · have hlen : ((zs.take len).map Int.toNat).length = len := by simp; omega
    have hw : ∀ n ∈ zs, 0 ≤ n ∧ n < 256 := fun n hn => by
      have := hwz n hn
      have e1 : IntKind.u8.min = 0 := rfl
      have e2 : IntKind.u8.max = 255 := rfl
      simp [Lit.wf] at this
      omega
    refine ⟨(zs.take len).map Int.toNat, hlen, fun y hy => ?_, some x, cap, by rw [hlen], by omega, fun h0 => ?_⟩
    · obtain ⟨n, hn, rfl⟩ := List.mem_map.1 hy
      have := hw n (List.mem_of_mem_take hn); omega
    · have h00 : 0 < zs.length := by omega
      obtain ⟨hx, hlt⟩ := cell_spot (show w.cell? x = some _ from by have := hcell 0 h00; simpa [Addr.add] using this)
      refine ⟨x.block, x.off, congrArg some hx, hlt, fun i hi => ?_⟩
      have hi' : i < zs.length := by omega
      have hc := hcell i hi'
      rw [hx, Addr.add_mid] at hc
      rw [hc]
      have hm := hw zs[i] (List.getElem_mem hi')
      unfold Sha.nth
      rw [List.getElem?_map, List.getElem?_take_of_lt (by omega), List.getElem?_eq_getElem hi']
      simp only [Option.map_some, Option.getD_some, List.getD_eq_getElem?_getD, List.getElem?_eq_getElem hi']
      congr 2; omega
theorem strOf_inj {a b : List Nat} (ha : Sha.Bytes a) (hb : Sha.Bytes b) (h : strOf a = strOf b) : a = b := by
  have h1 : a.map UInt8.ofNat = b.map UInt8.ofNat := by
    have := congrArg (fun s => s.data.toList) h
    simpa [strOf] using this
  have key : ∀ l : List Nat, Sha.Bytes l → (l.map UInt8.ofNat).map UInt8.toNat = l := fun l hl => by
    rw [List.map_map]
    apply List.ext_getElem (by simp)
    intro i h1 h2
    simp only [List.getElem_map, Function.comp]
    exact UInt8.toNat_ofNat_of_lt' (hl _ (List.getElem_mem h2))
  rw [← key a ha, ← key b hb, h1]
end Go.Proofs.Ytlbfcneboaihnaa
