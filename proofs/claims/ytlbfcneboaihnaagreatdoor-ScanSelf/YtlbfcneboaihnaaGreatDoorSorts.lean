/- slices.Clone, slices.Sort and slices.Compact of rows of texts: the library's own contracts, laid at this program, in plain words. -/
import Derived.Shelf.SlicesG.Clone
import Derived.Shelf.SlicesG.CompactS
import Derived.Shelf.SortM.Plain
import Derived.Shelf.SortM.SortNone
import Derived.Lib.OwnBridge
import Derived.Test.YtlbfcneboaihnaaGreatDoorUniq
namespace Go.Proofs.YtlbfcneboaihnaaGreatDoor
open Go.Shelf
def layS_ren : Go.Shelf.Ren := ⟨fun | 6 => 69 | 8 => 88 | 9 => 87 | 19 => 108 | 20 => 91 | 21 => 99 | 22 => 100 | 23 => 101 | 24 => 102 | 25 => 103 | 26 => 104 | 27 => 105 | 28 => 106 | 29 => 107 | 36 => 119 | 31 => 120 | 32 => 121 | 37 => 122 | 38 => 123 | 39 => 124 | 41 => 132 | n => n, fun | 27 => 58 | 29 => 23 | 3 => 3 | 32 => 98 | 26 => 58 | 0 => 0 | 44 => 67 | 46 => 97 | 4 => 4 | 36 => 158 | 35 => 157 | 41 => 163 | 5 => 5 | 9 => 9 | 53 => 173 | 57 => 177 | 63 => 181 | 64 => 182 | n => n, fun | n => n⟩
theorem layS : Go.Proofs.SlLaysM.n6 Tryz.prog layS_ren := {
  mixed := by kernel_rfl
  f6 := ⟨Tryz.f69.name, by decide, Tryz.func69.trans (congrArg some (by kernel_rfl))⟩
  f8 := Tryz.func88.trans (congrArg some (by kernel_rfl))
  f9 := ⟨Tryz.f87.name, by decide, Tryz.func87.trans (congrArg some (by kernel_rfl))⟩
  f19 := Tryz.func108.trans (congrArg some (by kernel_rfl))
  f20 := Tryz.func91.trans (congrArg some (by kernel_rfl))
  f21 := ⟨Tryz.f99.name, by decide, Tryz.func99.trans (congrArg some (by kernel_rfl))⟩
  f22 := ⟨Tryz.f100.name, by decide, Tryz.func100.trans (congrArg some (by kernel_rfl))⟩
  f23 := ⟨Tryz.f101.name, by decide, Tryz.func101.trans (congrArg some (by kernel_rfl))⟩
  f24 := ⟨Tryz.f102.name, by decide, Tryz.func102.trans (congrArg some (by kernel_rfl))⟩
  f25 := ⟨Tryz.f103.name, by decide, Tryz.func103.trans (congrArg some (by kernel_rfl))⟩
  f26 := ⟨Tryz.f104.name, by decide, Tryz.func104.trans (congrArg some (by kernel_rfl))⟩
  f27 := ⟨Tryz.f105.name, by decide, Tryz.func105.trans (congrArg some (by kernel_rfl))⟩
  f28 := ⟨Tryz.f106.name, by decide, Tryz.func106.trans (congrArg some (by kernel_rfl))⟩
  f29 := ⟨Tryz.f107.name, by decide, Tryz.func107.trans (congrArg some (by kernel_rfl))⟩
  f31 := Tryz.func120.trans (congrArg some (by kernel_rfl))
  f32 := Tryz.func121.trans (congrArg some (by kernel_rfl))
  f36 := ⟨Tryz.f119.name, by decide, Tryz.func119.trans (congrArg some (by kernel_rfl))⟩
  f37 := ⟨Tryz.f122.name, by decide, Tryz.func122.trans (congrArg some (by kernel_rfl))⟩
  f38 := ⟨Tryz.f123.name, by decide, Tryz.func123.trans (congrArg some (by kernel_rfl))⟩
  f39 := ⟨Tryz.f124.name, by decide, Tryz.func124.trans (congrArg some (by kernel_rfl))⟩
  f41 := ⟨Tryz.f132.name, by decide, Tryz.func132.trans (congrArg some (by kernel_rfl))⟩
  t0 := Tryz.underlying0
  a0 := Tryz.isAgg0
  z0 := Tryz.sizeOf0
  v0 := Tryz.zeroValue0
  t3 := Tryz.underlying3
  a3 := Tryz.isAgg3
  z3 := Tryz.sizeOf3
  v3 := Tryz.zeroValue3
  t4 := Tryz.underlying4
  a4 := Tryz.isAgg4
  z4 := Tryz.sizeOf4
  v4 := Tryz.zeroValue4
  t5 := Tryz.underlying5
  a5 := Tryz.isAgg5
  z5 := Tryz.sizeOf5
  v5 := Tryz.zeroValue5
  t9 := Tryz.underlying9
  a9 := Tryz.isAgg9
  z9 := Tryz.sizeOf9
  v9 := Tryz.zeroValue9
  t26 := Tryz.underlying58
  a26 := Tryz.isAgg58
  z26 := Tryz.sizeOf58
  v26 := Tryz.zeroValue58
  t27 := Tryz.underlying58
  a27 := Tryz.isAgg58
  z27 := Tryz.sizeOf58
  v27 := Tryz.zeroValue58
  t29 := Tryz.underlying23
  a29 := Tryz.isAgg23
  z29 := Tryz.sizeOf23
  v29 := Tryz.zeroValue23
  t32 := Tryz.underlying98
  a32 := Tryz.isAgg98
  z32 := Tryz.sizeOf98
  v32 := Tryz.zeroValue98
  t35 := Tryz.underlying157
  a35 := Tryz.isAgg157
  z35 := Tryz.sizeOf157
  v35 := Tryz.zeroValue157
  t36 := Tryz.underlying158
  a36 := Tryz.isAgg158
  z36 := Tryz.sizeOf158
  v36 := Tryz.zeroValue158
  t41 := Tryz.underlying163
  a41 := Tryz.isAgg163
  z41 := Tryz.sizeOf163
  v41 := Tryz.zeroValue163
  t44 := Tryz.underlying67
  a44 := Tryz.isAgg67
  z44 := Tryz.sizeOf67
  v44 := Tryz.zeroValue67
  t46 := Tryz.underlying97
  a46 := Tryz.isAgg97
  z46 := Tryz.sizeOf97
  v46 := Tryz.zeroValue97
  t53 := Tryz.underlying173
  a53 := Tryz.isAgg173
  z53 := Tryz.sizeOf173
  v53 := Tryz.zeroValue173
  t57 := Tryz.underlying177
  a57 := Tryz.isAgg177
  z57 := Tryz.sizeOf177
  v57 := Tryz.zeroValue177
  t63 := Tryz.underlying181
  a63 := Tryz.isAgg181
  z63 := Tryz.sizeOf181
  v63 := Tryz.zeroValue181
  t64 := Tryz.underlying182
  a64 := Tryz.isAgg182
  z64 := Tryz.sizeOf182
  v64 := Tryz.zeroValue182 }
def layK_ren : Go.Shelf.Ren := ⟨fun | 44 => 70 | n => n, fun | 25 => 58 | 26 => 23 | 3 => 3 | 4 => 4 | 0 => 0 | n => n, fun | n => n⟩
theorem layK : Go.Proofs.SlLaysN.n44 Tryz.prog layK_ren := {
  mixed := by kernel_rfl
  f44 := ⟨Tryz.f70.name, by decide, Tryz.func70.trans (congrArg some (by kernel_rfl))⟩
  t0 := Tryz.underlying0
  a0 := Tryz.isAgg0
  z0 := Tryz.sizeOf0
  v0 := Tryz.zeroValue0
  t3 := Tryz.underlying3
  a3 := Tryz.isAgg3
  z3 := Tryz.sizeOf3
  v3 := Tryz.zeroValue3
  t4 := Tryz.underlying4
  a4 := Tryz.isAgg4
  z4 := Tryz.sizeOf4
  v4 := Tryz.zeroValue4
  t25 := Tryz.underlying58
  a25 := Tryz.isAgg58
  z25 := Tryz.sizeOf58
  v25 := Tryz.zeroValue58
  t26 := Tryz.underlying23
  a26 := Tryz.isAgg23
  z26 := Tryz.sizeOf23
  v26 := Tryz.zeroValue23
  i26 := by kernel_rfl }
open Go.RowKit Go.Great
/-- A text's bytes as numbers. -/
def natsOf (z : Ord.S) : List Nat := z.map UInt8.toNat
theorem natsOf_length (z : Ord.S) : (natsOf z).length = z.length := by simp [natsOf]
theorem natsOf_bytes (z : Ord.S) : Sha.Bytes (natsOf z) := by
  intro x hx
  obtain ⟨b, -, rfl⟩ := List.mem_map.1 hx
  exact b.toNat_lt
theorem strOf_nats (z : Ord.S) : strOf (natsOf z) = ⟨z.toArray⟩ := by
  unfold strOf natsOf
  rw [List.map_map]
  simp [Function.comp_def]
theorem enc_nats (z : Ord.S) : encStr z = .string (strOf (natsOf z)) := by rw [strOf_nats, encStr]
theorem natsOf_inj {a b : Ord.S} (h : natsOf a = natsOf b) : a = b := by
  have h1 := strOf_nats a
  rw [h, strOf_nats b] at h1
  have h2 := congrArg (fun s => s.data.toList) h1
  simpa using h2.symm
/-- A slice value whose texts lie in a block that was there. -/
def StrsAt (w : World) (v : Value) (Z : List Ord.S) : Prop :=
  ∃ a cap, v = .slice a Z.length cap ∧ Z.length ≤ cap ∧ (0 < Z.length → ∃ b o, a = some ⟨b, o, none⟩ ∧ b < w.heap.size ∧ ∀ i, i < Z.length → w.cell? ⟨b, o + i, none⟩ = some (encStr (Z.getD i [])))
theorem StrsAt.below {w w' : World} {v : Value} {Z : List Ord.S} (h : StrsAt w v Z) (hb : Below w.heap.size w w') : StrsAt w' v Z := by
  obtain ⟨a, cap, e, hc, hm⟩ := h
  refine ⟨a, cap, e, hc, fun hp => ?_⟩
  obtain ⟨b, o, ea, hl, hcell⟩ := hm hp
  exact ⟨b, o, ea, Nat.lt_of_lt_of_le hl hb.size, fun i hi => by rw [hb.cell (p := ⟨b, o + i, none⟩) hl]; exact hcell i hi⟩
theorem below_grow {B : Nat} {w0 w : World} (h : Below B w0 w) (hB : B ≤ w.heap.size) (os : Array Obj) : Below B w0 (Go.Sort.grow w os) :=
  ⟨h.os, h.tape, h.output, by have := h.size; rw [Go.Sort.size_grow]; omega, fun k hk => by rw [Go.Sort.heap_grow_old _ _ (by omega)]; exact h.block k hk⟩
/-- A row of texts of the call's own: nil, or at the head of a block from so far on. -/
def OwnS (w : World) (base : Nat) (v : Value) (Z : List Ord.S) : Prop :=
  (v = .slice none 0 0 ∧ Z = []) ∨ ∃ g c, v = .slice (some ⟨g, 0, none⟩) Z.length c ∧ base ≤ g ∧ g < w.heap.size ∧ Z.length ≤ c ∧ Go.Sort.Holds encStr w g 0 Z.toArray
theorem holds_at {w : World} {g : Nat} {Z : List Ord.S} (h : Go.Sort.Holds encStr w g 0 Z.toArray) (i : Nat) (hi : i < Z.length) : w.cell? ⟨g, 0 + i, none⟩ = some (encStr (Z.getD i [])) := by
  have := (h i (by simpa using hi)).1
  rw [this]
  simp [List.getD, hi]
theorem OwnS.at {w : World} {base : Nat} {v : Value} {Z : List Ord.S} (h : OwnS w base v Z) : StrsAt w v Z := by
  rcases h with ⟨rfl, rfl⟩ | ⟨g, c, rfl, hg, hl, hc, hh⟩
  · exact ⟨none, 0, rfl, Nat.le_refl _, fun h => by simp at h⟩
  · exact ⟨_, c, rfl, hc, fun _ => ⟨g, 0, rfl, hl, fun i hi => holds_at hh i hi⟩⟩
theorem sortS_any (base : Nat) (v : Value) (Z : List Ord.S) (w : World) (hv : OwnS w base v Z) (hB : base ≤ w.heap.size) (hmax : Z.length ≤ 100000) :
    Calls Tryz.prog 69 #[v] w fun e w' => e = .returned (.tuple #[]) ∧ OwnS w' base v (Z.mergeSort fun x y => decide (x ≤ y)) ∧ Below base w w' := by
  have hl2 : (Z.mergeSort fun x y => decide (x ≤ y)).length = Z.length := List.length_mergeSort Z
  rcases hv with ⟨rfl, rfl⟩ | ⟨g, c, rfl, hg, hl, hc, hh⟩
  · exact (AnyM.slices_Sort_string_none layS none 0 w).mono fun e w' ⟨he, hw⟩ => ⟨he, .inl ⟨rfl, by simp⟩, by rw [hw]; exact Below.refl _ _⟩
  · refine (AnyM.slices_Sort_string layS g 0 c Z w hh hl (by omega)).mono fun e w' ⟨he, n, os, hw⟩ => ⟨he, .inr ⟨g, c, by rw [hl2], hg, ?_, by omega, ?_⟩, ?_⟩
    · rw [hw, Go.Sort.size_grow, Go.Sort.size_putRow, Go.Sort.heap_ahead]; omega
    · rw [hw]
      exact Go.Sort.holds_grow encStr _ os g 0 _ (by rw [Go.Sort.size_putRow]; exact hl) (Go.Sort.holds_putRow encStr _ g 0 _ _ (Go.Sort.holds_ahead encStr w n g 0 _ hh) (by simp))
    · rw [hw]
      exact below_grow (Lib.below_putRow (Below.refl _ _) hg) (by rw [Go.Sort.size_putRow]; exact hB) os
theorem compactS_any (base : Nat) (v : Value) (Z : List Ord.S) (w : World) (hv : OwnS w base v Z) (hmax : Z.length ≤ 100000) :
    Calls Tryz.prog 70 #[v] w fun e w' => ∃ u, e = .returned u ∧ StrsAt w' u (Lib.compact Z) ∧ Below base w w' := by
  rcases hv with ⟨rfl, rfl⟩ | ⟨g, c, rfl, hg, hl, hc, hh⟩
  · exact (AnyG.slices_Compact_string_empty layK none 0 w).mono fun e w' ⟨he, hw⟩ => ⟨_, he, ⟨none, 0, rfl, Nat.le_refl _, fun h => by simp [Lib.compact, Lib.compactUpTo] at h⟩, by rw [hw]; exact Below.refl _ _⟩
  · have hle := Lib.compact_length_le Z
    refine (AnyG.slices_Compact_string layK g 0 c Z w hh (by omega) hc).mono fun e w' ⟨he, q, hw⟩ => ⟨_, he, ⟨_, c, rfl, by omega, fun _ => ⟨g, 0, rfl, ?_, fun i hi => ?_⟩⟩, ?_⟩
    · rw [hw, Go.Sort.size_putRow]; exact hl
    · have hH := Go.Sort.holds_putRow encStr _ g 0 _ (Lib.compact Z ++ List.replicate (Z.length - (Lib.compact Z).length) []).toArray (Go.Sort.holds_ahead encStr w q g 0 _ hh) (by simp; omega)
      rw [hw, holds_at hH i (by simp; omega)]
      congr 2
      rw [List.getD_eq_getElem?_getD, List.getElem?_append_left hi, ← List.getD_eq_getElem?_getD]
    · rw [hw]; exact Lib.below_putRow (Below.refl _ _) hg
end Go.Proofs.YtlbfcneboaihnaaGreatDoor
