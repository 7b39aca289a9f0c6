/- slices.Clone, slices.Sort and slices.Compact of rows of texts: the library's own contracts, laid at this program, in plain words. -/
import Derived.Shelf.SlicesG.Clone
import Derived.Shelf.SlicesG.CompactS
import Derived.Shelf.SortM.Plain
import Derived.Shelf.SortM.SortNone
import Derived.Lib.OwnBridge
import Derived.Test.YtlbfcneboaihnabUniq
namespace Go.Proofs.Ytlbfcneboaihnab
open Go.Shelf
def layS_ren : Go.Shelf.Ren := ⟨fun | 6 => 18 | 8 => 26 | 9 => 25 | 19 => 39 | 20 => 40 | 21 => 30 | 22 => 31 | 23 => 32 | 24 => 33 | 25 => 34 | 26 => 35 | 27 => 36 | 28 => 37 | 29 => 38 | 36 => 44 | 31 => 45 | 32 => 46 | 37 => 47 | 38 => 48 | 39 => 49 | 41 => 50 | n => n, fun | 27 => 22 | 29 => 25 | 3 => 3 | 32 => 58 | 26 => 22 | 0 => 0 | 44 => 73 | 46 => 75 | 4 => 4 | 36 => 65 | 35 => 64 | 41 => 70 | 5 => 5 | 9 => 9 | 53 => 79 | 57 => 83 | 63 => 85 | 64 => 86 | n => n, fun | n => n⟩
theorem layS : Go.Proofs.SlLaysM.n6 Try.prog layS_ren := {
  mixed := by kernel_rfl
  f6 := ⟨Try.f18.name, by decide, Try.func18.trans (congrArg some (by kernel_rfl))⟩
  f8 := Try.func26.trans (congrArg some (by kernel_rfl))
  f9 := ⟨Try.f25.name, by decide, Try.func25.trans (congrArg some (by kernel_rfl))⟩
  f19 := Try.func39.trans (congrArg some (by kernel_rfl))
  f20 := Try.func40.trans (congrArg some (by kernel_rfl))
  f21 := ⟨Try.f30.name, by decide, Try.func30.trans (congrArg some (by kernel_rfl))⟩
  f22 := ⟨Try.f31.name, by decide, Try.func31.trans (congrArg some (by kernel_rfl))⟩
  f23 := ⟨Try.f32.name, by decide, Try.func32.trans (congrArg some (by kernel_rfl))⟩
  f24 := ⟨Try.f33.name, by decide, Try.func33.trans (congrArg some (by kernel_rfl))⟩
  f25 := ⟨Try.f34.name, by decide, Try.func34.trans (congrArg some (by kernel_rfl))⟩
  f26 := ⟨Try.f35.name, by decide, Try.func35.trans (congrArg some (by kernel_rfl))⟩
  f27 := ⟨Try.f36.name, by decide, Try.func36.trans (congrArg some (by kernel_rfl))⟩
  f28 := ⟨Try.f37.name, by decide, Try.func37.trans (congrArg some (by kernel_rfl))⟩
  f29 := ⟨Try.f38.name, by decide, Try.func38.trans (congrArg some (by kernel_rfl))⟩
  f31 := Try.func45.trans (congrArg some (by kernel_rfl))
  f32 := Try.func46.trans (congrArg some (by kernel_rfl))
  f36 := ⟨Try.f44.name, by decide, Try.func44.trans (congrArg some (by kernel_rfl))⟩
  f37 := ⟨Try.f47.name, by decide, Try.func47.trans (congrArg some (by kernel_rfl))⟩
  f38 := ⟨Try.f48.name, by decide, Try.func48.trans (congrArg some (by kernel_rfl))⟩
  f39 := ⟨Try.f49.name, by decide, Try.func49.trans (congrArg some (by kernel_rfl))⟩
  f41 := ⟨Try.f50.name, by decide, Try.func50.trans (congrArg some (by kernel_rfl))⟩
  t0 := Try.underlying0
  a0 := Try.isAgg0
  z0 := Try.sizeOf0
  v0 := Try.zeroValue0
  t3 := Try.underlying3
  a3 := Try.isAgg3
  z3 := Try.sizeOf3
  v3 := Try.zeroValue3
  t4 := Try.underlying4
  a4 := Try.isAgg4
  z4 := Try.sizeOf4
  v4 := Try.zeroValue4
  t5 := Try.underlying5
  a5 := Try.isAgg5
  z5 := Try.sizeOf5
  v5 := Try.zeroValue5
  t9 := Try.underlying9
  a9 := Try.isAgg9
  z9 := Try.sizeOf9
  v9 := Try.zeroValue9
  t26 := Try.underlying22
  a26 := Try.isAgg22
  z26 := Try.sizeOf22
  v26 := Try.zeroValue22
  t27 := Try.underlying22
  a27 := Try.isAgg22
  z27 := Try.sizeOf22
  v27 := Try.zeroValue22
  t29 := Try.underlying25
  a29 := Try.isAgg25
  z29 := Try.sizeOf25
  v29 := Try.zeroValue25
  t32 := Try.underlying58
  a32 := Try.isAgg58
  z32 := Try.sizeOf58
  v32 := Try.zeroValue58
  t35 := Try.underlying64
  a35 := Try.isAgg64
  z35 := Try.sizeOf64
  v35 := Try.zeroValue64
  t36 := Try.underlying65
  a36 := Try.isAgg65
  z36 := Try.sizeOf65
  v36 := Try.zeroValue65
  t41 := Try.underlying70
  a41 := Try.isAgg70
  z41 := Try.sizeOf70
  v41 := Try.zeroValue70
  t44 := Try.underlying73
  a44 := Try.isAgg73
  z44 := Try.sizeOf73
  v44 := Try.zeroValue73
  t46 := Try.underlying75
  a46 := Try.isAgg75
  z46 := Try.sizeOf75
  v46 := Try.zeroValue75
  t53 := Try.underlying79
  a53 := Try.isAgg79
  z53 := Try.sizeOf79
  v53 := Try.zeroValue79
  t57 := Try.underlying83
  a57 := Try.isAgg83
  z57 := Try.sizeOf83
  v57 := Try.zeroValue83
  t63 := Try.underlying85
  a63 := Try.isAgg85
  z63 := Try.sizeOf85
  v63 := Try.zeroValue85
  t64 := Try.underlying86
  a64 := Try.isAgg86
  z64 := Try.sizeOf86
  v64 := Try.zeroValue86 }
def layK_ren : Go.Shelf.Ren := ⟨fun | 44 => 19 | n => n, fun | 25 => 22 | 26 => 25 | 3 => 3 | 4 => 4 | 0 => 0 | n => n, fun | n => n⟩
theorem layK : Go.Proofs.SlLaysN.n44 Try.prog layK_ren := {
  mixed := by kernel_rfl
  f44 := ⟨Try.f19.name, by decide, Try.func19.trans (congrArg some (by kernel_rfl))⟩
  t0 := Try.underlying0
  a0 := Try.isAgg0
  z0 := Try.sizeOf0
  v0 := Try.zeroValue0
  t3 := Try.underlying3
  a3 := Try.isAgg3
  z3 := Try.sizeOf3
  v3 := Try.zeroValue3
  t4 := Try.underlying4
  a4 := Try.isAgg4
  z4 := Try.sizeOf4
  v4 := Try.zeroValue4
  t25 := Try.underlying22
  a25 := Try.isAgg22
  z25 := Try.sizeOf22
  v25 := Try.zeroValue22
  t26 := Try.underlying25
  a26 := Try.isAgg25
  z26 := Try.sizeOf25
  v26 := Try.zeroValue25
  i26 := by kernel_rfl }
open Go.RowKit Go.Great
/-- A text's bytes as numbers. -/
def natsOf (z : Ord.S) : List Nat := z.map UInt8.toNat
theorem natsOf_length (z : Ord.S) : (natsOf z).length = z.length := by simp [natsOf]
theorem natsOf_bytes (z : Ord.S) : Sha.Bytes (natsOf z) := by
  intro x hx
  obtain ⟨b, -, rfl⟩ := List.mem_map.1 hx
  exact b.toNat_lt
theorem strOf_nats (z : Ord.S) : strOf (natsOf z) = ⟨z.toArray⟩ := by
  unfold strOf natsOf
  rw [List.map_map]
  simp [Function.comp_def]
theorem enc_nats (z : Ord.S) : encStr z = .string (strOf (natsOf z)) := by rw [strOf_nats, encStr]
theorem natsOf_inj {a b : Ord.S} (h : natsOf a = natsOf b) : a = b := by
  have h1 := strOf_nats a
  rw [h, strOf_nats b] at h1
  have h2 := congrArg (fun s => s.data.toList) h1
  simpa using h2.symm
/-- A slice value whose texts lie in a block that was there. -/
def StrsAt (w : World) (v : Value) (Z : List Ord.S) : Prop :=
  ∃ a cap, v = .slice a Z.length cap ∧ Z.length ≤ cap ∧ (0 < Z.length → ∃ b o, a = some ⟨b, o, none⟩ ∧ b < w.heap.size ∧ ∀ i, i < Z.length → w.cell? ⟨b, o + i, none⟩ = some (encStr (Z.getD i [])))
theorem StrsAt.below {w w' : World} {v : Value} {Z : List Ord.S} (h : StrsAt w v Z) (hb : Below w.heap.size w w') : StrsAt w' v Z := by
  obtain ⟨a, cap, e, hc, hm⟩ := h
  refine ⟨a, cap, e, hc, fun hp => ?_⟩
  obtain ⟨b, o, ea, hl, hcell⟩ := hm hp
  exact ⟨b, o, ea, Nat.lt_of_lt_of_le hl hb.size, fun i hi => by rw [hb.cell (p := ⟨b, o + i, none⟩) hl]; exact hcell i hi⟩
theorem below_grow {B : Nat} {w0 w : World} (h : Below B w0 w) (hB : B ≤ w.heap.size) (os : Array Obj) : Below B w0 (Go.Sort.grow w os) :=
  ⟨h.os, h.tape, h.output, by have := h.size; rw [Go.Sort.size_grow]; omega, fun k hk => by rw [Go.Sort.heap_grow_old _ _ (by omega)]; exact h.block k hk⟩
/-- A row of texts of the call's own: nil, or at the head of a block from so far on. -/
def OwnS (w : World) (base : Nat) (v : Value) (Z : List Ord.S) : Prop :=
  (v = .slice none 0 0 ∧ Z = []) ∨ ∃ g c, v = .slice (some ⟨g, 0, none⟩) Z.length c ∧ base ≤ g ∧ g < w.heap.size ∧ Z.length ≤ c ∧ Go.Sort.Holds encStr w g 0 Z.toArray
theorem holds_at {w : World} {g : Nat} {Z : List Ord.S} (h : Go.Sort.Holds encStr w g 0 Z.toArray) (i : Nat) (hi : i < Z.length) : w.cell? ⟨g, 0 + i, none⟩ = some (encStr (Z.getD i [])) := by
  have := (h i (by simpa using hi)).1
  rw [this]
  simp [List.getD, hi]
theorem OwnS.at {w : World} {base : Nat} {v : Value} {Z : List Ord.S} (h : OwnS w base v Z) : StrsAt w v Z := by
  rcases h with ⟨rfl, rfl⟩ | ⟨g, c, rfl, hg, hl, hc, hh⟩
  · exact ⟨none, 0, rfl, Nat.le_refl _, fun h => by simp at h⟩
  · exact ⟨_, c, rfl, hc, fun _ => ⟨g, 0, rfl, hl, fun i hi => holds_at hh i hi⟩⟩
theorem sortS_any (base : Nat) (v : Value) (Z : List Ord.S) (w : World) (hv : OwnS w base v Z) (hB : base ≤ w.heap.size) (hmax : Z.length ≤ 100000) :
    Calls Try.prog 18 #[v] w fun e w' => e = .returned (.tuple #[]) ∧ OwnS w' base v (Z.mergeSort fun x y => decide (x ≤ y)) ∧ Below base w w' := by
  have hl2 : (Z.mergeSort fun x y => decide (x ≤ y)).length = Z.length := List.length_mergeSort Z
  rcases hv with ⟨rfl, rfl⟩ | ⟨g, c, rfl, hg, hl, hc, hh⟩
  · exact (AnyM.slices_Sort_string_none layS none 0 w).mono fun e w' ⟨he, hw⟩ => ⟨he, .inl ⟨rfl, by simp⟩, by rw [hw]; exact Below.refl _ _⟩
  · refine (AnyM.slices_Sort_string layS g 0 c Z w hh hl (by omega)).mono fun e w' ⟨he, n, os, hw⟩ => ⟨he, .inr ⟨g, c, by rw [hl2], hg, ?_, by omega, ?_⟩, ?_⟩
    · rw [hw, Go.Sort.size_grow, Go.Sort.size_putRow, Go.Sort.heap_ahead]; omega
    · rw [hw]
      exact Go.Sort.holds_grow encStr _ os g 0 _ (by rw [Go.Sort.size_putRow]; exact hl) (Go.Sort.holds_putRow encStr _ g 0 _ _ (Go.Sort.holds_ahead encStr w n g 0 _ hh) (by simp))
    · rw [hw]
      exact below_grow (Lib.below_putRow (Below.refl _ _) hg) (by rw [Go.Sort.size_putRow]; exact hB) os
theorem compactS_any (base : Nat) (v : Value) (Z : List Ord.S) (w : World) (hv : OwnS w base v Z) (hmax : Z.length ≤ 100000) :
    Calls Try.prog 19 #[v] w fun e w' => ∃ u, e = .returned u ∧ StrsAt w' u (Lib.compact Z) ∧ Below base w w' := by
  rcases hv with ⟨rfl, rfl⟩ | ⟨g, c, rfl, hg, hl, hc, hh⟩
  · exact (AnyG.slices_Compact_string_empty layK none 0 w).mono fun e w' ⟨he, hw⟩ => ⟨_, he, ⟨none, 0, rfl, Nat.le_refl _, fun h => by simp [Lib.compact, Lib.compactUpTo] at h⟩, by rw [hw]; exact Below.refl _ _⟩
  · have hle := Lib.compact_length_le Z
    refine (AnyG.slices_Compact_string layK g 0 c Z w hh (by omega) hc).mono fun e w' ⟨he, q, hw⟩ => ⟨_, he, ⟨_, c, rfl, by omega, fun _ => ⟨g, 0, rfl, ?_, fun i hi => ?_⟩⟩, ?_⟩
    · rw [hw, Go.Sort.size_putRow]; exact hl
    · have hH := Go.Sort.holds_putRow encStr _ g 0 _ (Lib.compact Z ++ List.replicate (Z.length - (Lib.compact Z).length) []).toArray (Go.Sort.holds_ahead encStr w q g 0 _ hh) (by simp; omega)
      rw [hw, holds_at hH i (by simp; omega)]
      congr 2
      rw [List.getD_eq_getElem?_getD, List.getElem?_append_left hi, ← List.getD_eq_getElem?_getD]
    · rw [hw]; exact Lib.below_putRow (Below.refl _ _) hg
end Go.Proofs.Ytlbfcneboaihnab
