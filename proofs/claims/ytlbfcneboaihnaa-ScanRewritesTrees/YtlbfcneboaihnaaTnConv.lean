/- Bytes as a text. -/
import Derived.Test.YtlbfcneboaihnaaK4
import Derived.Deep.RegionWith
namespace Go.Proofs.Ytlbfcneboaihnaa.Tn
open Go.RowKit
def cv22 (v : Value) : Sem Value := convert 22 9 v
@[go_sem ↓] theorem convert_cv22 (v : Value) : convert 22 9 v = cv22 v := rfl
theorem push_fold (l : List UInt8) : ∀ r : ByteArray, (l.map (fun b => (b.toNat : Int))).foldl (fun r n => r.push (UInt8.ofNat n.toNat)) r = ⟨r.data ++ l.toArray⟩ := by
  induction l with
  | nil => intro r; simp
  | cons x l ih =>
    intro r
    rw [List.map_cons, List.foldl_cons, ih]
    simp [ByteArray.push]
theorem run_cv22 {lo hi : Nat} {w : World} {a : Option Addr} {c : Nat} {d : ByteArray} (h : Row lo hi w (.slice a d.size c) d.size (byteVals d)) : (cv22 (.slice a d.size c)).run Try.prog w = .ok (.string d) w := by
  unfold cv22
  rw [run_convert_bytes_string w 22 9 5 _ _ _ Try.underlying22 Try.underlying5 Try.underlying9]
  by_cases h0 : 0 < d.size
  · obtain ⟨b, rfl, hcell⟩ := h.src h0
    have hload : (loadCells b d.size).run Try.prog w = .ok ((d.data.toList.map (fun b => (b.toNat : Int))).map (Value.int .u8)).toArray w := by
      have := run_loadCells_list (P := Try.prog) w b ((d.data.toList.map (fun b => (b.toNat : Int))).map (Value.int .u8)) (fun j v hv => hcell j v (by rw [List.map_map] at hv; exact hv))
      simpa using this
    rw [run_bytesToString w _ d.size c _ hload, push_fold]
    simp [ByteArray.empty, ByteArray.emptyWithCapacity]
    cases d
    simp
    rfl
  · have hz : d.size = 0 := by omega
    obtain rfl : d = ⟨#[]⟩ := by
      cases d with
      | mk a => have : a = #[] := Array.eq_empty_of_size_eq_zero hz
                rw [this]
    cases a with
    | none => rfl
    | some x =>
      show (Conv.bytesToString (.slice (some x) 0 c)).run Try.prog w = _
      rw [run_bytesToString w _ 0 c [] rfl]; rfl
end Go.Proofs.Ytlbfcneboaihnaa.Tn
