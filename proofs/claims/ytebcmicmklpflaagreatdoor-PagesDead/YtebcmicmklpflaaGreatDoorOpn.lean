/- Bytes that came in. -/
import Derived.Test.YtebcmicmklpflaaGreatDoorK4
namespace Go.Proofs.YtebcmicmklpflaaGreatDoor
open Go.RowKit
def IsRow (k : IntKind) (w : World) (a : Option Addr) (len cap : Nat) (zs : List Int) : Prop :=
  (a = none ∧ len = 0 ∧ cap = 0 ∧ zs = []) ∨
  ∃ x, a = some x ∧ len ≤ cap ∧ cap ≤ maxLen ∧ zs.length = cap ∧ (∀ i, i < zs.length → w.cell? (x.add i) = some (.int k (zs.getD i 0))) ∧ ∀ n ∈ zs, (Lit.int k n).wf = true
theorem addMid (b o j : Nat) : (⟨b, o, none⟩ : Addr).add j = ⟨b, o + j, none⟩ := by unfold Addr.add; split <;> simp_all
theorem cellSpot {w : World} {x : Addr} {v : Value} (h : w.cell? x = some v) : x = ⟨x.block, x.off, none⟩ ∧ x.block < w.heap.size := by
  refine ⟨?_, cellLt h⟩
  unfold World.cell? at h
  split at h
  · cases x with
    | mk b o s => cases s with
      | none => rfl
      | some s => simp at h
  · cases h
theorem isRow_row {w : World} {a : Option Addr} {len cap : Nat} {zs : List Int} (h : IsRow .u8 w a len cap zs) : ∃ d : List UInt8, d.length = len ∧ Row w.heap.size w (.slice a d.length cap) d := by
  rcases h with ⟨rfl, rfl, rfl, rfl⟩ | ⟨x, rfl, hl, hm, hz, hcell, hwz⟩
  · exact ⟨[], rfl, none, 0, rfl, Nat.le_refl _, fun h => by simp at h⟩
  · have hlen : ((zs.take len).map fun z => UInt8.ofNat z.toNat).length = len := by simp; omega
    have hw : ∀ n ∈ zs, 0 ≤ n ∧ n < 256 := fun n hn => by
      have := hwz n hn
      have e1 : IntKind.u8.min = 0 := rfl
      have e2 : IntKind.u8.max = 255 := rfl
      simp [Lit.wf] at this
      omega
    refine ⟨(zs.take len).map fun z => UInt8.ofNat z.toNat, hlen, some x, cap, by rw [hlen], by omega, fun h0 => ?_⟩
    have h00 : 0 < zs.length := by omega
    obtain ⟨hx, hlt⟩ := cellSpot (show w.cell? x = some _ from by have := hcell 0 h00; simpa [Addr.add] using this)
    refine ⟨x.block, x.off, congrArg some hx, hlt, fun i u hu => ?_⟩
    have hi : i < len := by
      have := (List.getElem?_eq_some_iff.1 hu).1
      rw [byteVals, List.length_map, hlen] at this
      exact this
    have hi' : i < zs.length := by omega
    have hc := hcell i hi'
    rw [hx, addMid] at hc
    rw [hc, ← hu]
    have hm := hw zs[i] (List.getElem_mem hi')
    unfold byteVals
    rw [List.getElem?_map, List.getElem?_map, List.getElem?_take_of_lt hi, List.getElem?_eq_getElem hi']
    simp only [Option.map_some, List.getD_eq_getElem?_getD, List.getElem?_eq_getElem hi', Option.getD_some]
    congr 2
    have : (UInt8.ofNat zs[i].toNat).toNat = zs[i].toNat := by simp; omega
    rw [this]; omega
end Go.Proofs.YtebcmicmklpflaaGreatDoor
