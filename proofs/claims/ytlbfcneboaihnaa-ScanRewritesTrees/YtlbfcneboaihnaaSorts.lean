/- slices.Clone, slices.Sort and slices.Compact of rows of texts: the library's own contracts, laid at this program, in plain words. -/
import Derived.Shelf.SlicesG.Clone
import Derived.Shelf.SlicesG.CompactS
import Derived.Shelf.SortM.Plain
import Derived.Shelf.SortM.SortNone
import Derived.Lib.OwnBridge
import Derived.Test.YtlbfcneboaihnaaUniq
namespace Go.Proofs.Ytlbfcneboaihnaa
open Go.Shelf
def layS_ren : Go.Shelf.Ren := ⟨fun | 6 => 42 | 8 => 59 | 9 => 58 | 19 => 80 | 20 => 81 | 21 => 71 | 22 => 72 | 23 => 73 | 24 => 74 | 25 => 75 | 26 => 76 | 27 => 77 | 28 => 78 | 29 => 79 | 36 => 101 | 31 => 102 | 32 => 103 | 37 => 104 | 38 => 105 | 39 => 106 | 41 => 113 | n => n, fun | 27 => 23 | 29 => 25 | 3 => 3 | 32 => 107 | 26 => 23 | 0 => 0 | 44 => 125 | 46 => 127 | 4 => 4 | 36 => 117 | 35 => 116 | 41 => 122 | 5 => 5 | 9 => 9 | 53 => 137 | 57 => 91 | 63 => 147 | 64 => 59 | n => n, fun | n => n⟩
theorem layS : Go.Proofs.SlLaysM.n6 Try.prog layS_ren := {
  mixed := by kernel_rfl
  f6 := ⟨Try.f42.name, by decide, Try.func42.trans (congrArg some (by kernel_rfl))⟩
  f8 := Try.func59.trans (congrArg some (by kernel_rfl))
  f9 := ⟨Try.f58.name, by decide, Try.func58.trans (congrArg some (by kernel_rfl))⟩
  f19 := Try.func80.trans (congrArg some (by kernel_rfl))
  f20 := Try.func81.trans (congrArg some (by kernel_rfl))
  f21 := ⟨Try.f71.name, by decide, Try.func71.trans (congrArg some (by kernel_rfl))⟩
  f22 := ⟨Try.f72.name, by decide, Try.func72.trans (congrArg some (by kernel_rfl))⟩
  f23 := ⟨Try.f73.name, by decide, Try.func73.trans (congrArg some (by kernel_rfl))⟩
  f24 := ⟨Try.f74.name, by decide, Try.func74.trans (congrArg some (by kernel_rfl))⟩
  f25 := ⟨Try.f75.name, by decide, Try.func75.trans (congrArg some (by kernel_rfl))⟩
  f26 := ⟨Try.f76.name, by decide, Try.func76.trans (congrArg some (by kernel_rfl))⟩
  f27 := ⟨Try.f77.name, by decide, Try.func77.trans (congrArg some (by kernel_rfl))⟩
  f28 := ⟨Try.f78.name, by decide, Try.func78.trans (congrArg some (by kernel_rfl))⟩
  f29 := ⟨Try.f79.name, by decide, Try.func79.trans (congrArg some (by kernel_rfl))⟩
  f31 := Try.func102.trans (congrArg some (by kernel_rfl))
  f32 := Try.func103.trans (congrArg some (by kernel_rfl))
  f36 := ⟨Try.f101.name, by decide, Try.func101.trans (congrArg some (by kernel_rfl))⟩
  f37 := ⟨Try.f104.name, by decide, Try.func104.trans (congrArg some (by kernel_rfl))⟩
  f38 := ⟨Try.f105.name, by decide, Try.func105.trans (congrArg some (by kernel_rfl))⟩
  f39 := ⟨Try.f106.name, by decide, Try.func106.trans (congrArg some (by kernel_rfl))⟩
  f41 := ⟨Try.f113.name, by decide, Try.func113.trans (congrArg some (by kernel_rfl))⟩
  t0 := Try.underlying0
  a0 := Try.isAgg0
  z0 := Try.sizeOf0
  v0 := Try.zeroValue0
  t3 := Try.underlying3
  a3 := Try.isAgg3
  z3 := Try.sizeOf3
  v3 := Try.zeroValue3
  t4 := Try.underlying4
  a4 := Try.isAgg4
  z4 := Try.sizeOf4
  v4 := Try.zeroValue4
  t5 := Try.underlying5
  a5 := Try.isAgg5
  z5 := Try.sizeOf5
  v5 := Try.zeroValue5
  t9 := Try.underlying9
  a9 := Try.isAgg9
  z9 := Try.sizeOf9
  v9 := Try.zeroValue9
  t26 := Try.underlying23
  a26 := Try.isAgg23
  z26 := Try.sizeOf23
  v26 := Try.zeroValue23
  t27 := Try.underlying23
  a27 := Try.isAgg23
  z27 := Try.sizeOf23
  v27 := Try.zeroValue23
  t29 := Try.underlying25
  a29 := Try.isAgg25
  z29 := Try.sizeOf25
  v29 := Try.zeroValue25
  t32 := Try.underlying107
  a32 := Try.isAgg107
  z32 := Try.sizeOf107
  v32 := Try.zeroValue107
  t35 := Try.underlying116
  a35 := Try.isAgg116
  z35 := Try.sizeOf116
  v35 := Try.zeroValue116
  t36 := Try.underlying117
  a36 := Try.isAgg117
  z36 := Try.sizeOf117
  v36 := Try.zeroValue117
  t41 := Try.underlying122
  a41 := Try.isAgg122
  z41 := Try.sizeOf122
  v41 := Try.zeroValue122
  t44 := Try.underlying125
  a44 := Try.isAgg125
  z44 := Try.sizeOf125
  v44 := Try.zeroValue125
  t46 := Try.underlying127
  a46 := Try.isAgg127
  z46 := Try.sizeOf127
  v46 := Try.zeroValue127
  t53 := Try.underlying137
  a53 := Try.isAgg137
  z53 := Try.sizeOf137
  v53 := Try.zeroValue137
  t57 := Try.underlying91
  a57 := Try.isAgg91
  z57 := Try.sizeOf91
  v57 := Try.zeroValue91
  t63 := Try.underlying147
  a63 := Try.isAgg147
  z63 := Try.sizeOf147
  v63 := Try.zeroValue147
  t64 := Try.underlying59
  a64 := Try.isAgg59
  z64 := Try.sizeOf59
  v64 := Try.zeroValue59 }
def layK_ren : Go.Shelf.Ren := ⟨fun | 44 => 43 | n => n, fun | 25 => 23 | 26 => 25 | 3 => 3 | 4 => 4 | 0 => 0 | n => n, fun | n => n⟩
theorem layK : Go.Proofs.SlLaysN.n44 Try.prog layK_ren := {
  mixed := by kernel_rfl
  f44 := ⟨Try.f43.name, by decide, Try.func43.trans (congrArg some (by kernel_rfl))⟩
  t0 := Try.underlying0
  a0 := Try.isAgg0
  z0 := Try.sizeOf0
  v0 := Try.zeroValue0
  t3 := Try.underlying3
  a3 := Try.isAgg3
  z3 := Try.sizeOf3
  v3 := Try.zeroValue3
  t4 := Try.underlying4
  a4 := Try.isAgg4
  z4 := Try.sizeOf4
  v4 := Try.zeroValue4
  t25 := Try.underlying23
  a25 := Try.isAgg23
  z25 := Try.sizeOf23
  v25 := Try.zeroValue23
  t26 := Try.underlying25
  a26 := Try.isAgg25
  z26 := Try.sizeOf25
  v26 := Try.zeroValue25
  i26 := by kernel_rfl }
open Go.RowKit Go.Great
/-- A text's bytes as numbers. -/
def natsOf (z : Ord.S) : List Nat := z.map UInt8.toNat
theorem natsOf_length (z : Ord.S) : (natsOf z).length = z.length := by simp [natsOf]
theorem natsOf_bytes (z : Ord.S) : Sha.Bytes (natsOf z) := by
  intro x hx
  obtain ⟨b, -, rfl⟩ := List.mem_map.1 hx
  exact b.toNat_lt
theorem strOf_nats (z : Ord.S) : strOf (natsOf z) = ⟨z.toArray⟩ := by
  unfold strOf natsOf
  rw [List.map_map]
  simp [Function.comp_def]
theorem enc_nats (z : Ord.S) : encStr z = .string (strOf (natsOf z)) := by rw [strOf_nats, encStr]
theorem natsOf_inj {a b : Ord.S} (h : natsOf a = natsOf b) : a = b := by
  have h1 := strOf_nats a
  rw [h, strOf_nats b] at h1
  have h2 := congrArg (fun s => s.data.toList) h1
  simpa using h2.symm
/-- A slice value whose texts lie in a block that was there. -/
def StrsAt (w : World) (v : Value) (Z : List Ord.S) : Prop :=
  ∃ a cap, v = .slice a Z.length cap ∧ Z.length ≤ cap ∧ (0 < Z.length → ∃ b o, a = some ⟨b, o, none⟩ ∧ b < w.heap.size ∧ ∀ i, i < Z.length → w.cell? ⟨b, o + i, none⟩ = some (encStr (Z.getD i [])))
theorem StrsAt.below {w w' : World} {v : Value} {Z : List Ord.S} (h : StrsAt w v Z) (hb : Below w.heap.size w w') : StrsAt w' v Z := by
  obtain ⟨a, cap, e, hc, hm⟩ := h
  refine ⟨a, cap, e, hc, fun hp => ?_⟩
  obtain ⟨b, o, ea, hl, hcell⟩ := hm hp
  exact ⟨b, o, ea, Nat.lt_of_lt_of_le hl hb.size, fun i hi => by rw [hb.cell (p := ⟨b, o + i, none⟩) hl]; exact hcell i hi⟩
theorem below_grow {B : Nat} {w0 w : World} (h : Below B w0 w) (hB : B ≤ w.heap.size) (os : Array Obj) : Below B w0 (Go.Sort.grow w os) :=
  ⟨h.os, h.tape, h.output, by have := h.size; rw [Go.Sort.size_grow]; omega, fun k hk => by rw [Go.Sort.heap_grow_old _ _ (by omega)]; exact h.block k hk⟩
/-- A row of texts of the call's own: nil, or at the head of a block from so far on. -/
def OwnS (w : World) (base : Nat) (v : Value) (Z : List Ord.S) : Prop :=
  (v = .slice none 0 0 ∧ Z = []) ∨ ∃ g c, v = .slice (some ⟨g, 0, none⟩) Z.length c ∧ base ≤ g ∧ g < w.heap.size ∧ Z.length ≤ c ∧ Go.Sort.Holds encStr w g 0 Z.toArray
theorem holds_at {w : World} {g : Nat} {Z : List Ord.S} (h : Go.Sort.Holds encStr w g 0 Z.toArray) (i : Nat) (hi : i < Z.length) : w.cell? ⟨g, 0 + i, none⟩ = some (encStr (Z.getD i [])) := by
  have := (h i (by simpa using hi)).1
  rw [this]
  simp [List.getD, hi]
theorem OwnS.at {w : World} {base : Nat} {v : Value} {Z : List Ord.S} (h : OwnS w base v Z) : StrsAt w v Z := by
  rcases h with ⟨rfl, rfl⟩ | ⟨g, c, rfl, hg, hl, hc, hh⟩
  · exact ⟨none, 0, rfl, Nat.le_refl _, fun h => by simp at h⟩
  · exact ⟨_, c, rfl, hc, fun _ => ⟨g, 0, rfl, hl, fun i hi => holds_at hh i hi⟩⟩
theorem sortS_any (base : Nat) (v : Value) (Z : List Ord.S) (w : World) (hv : OwnS w base v Z) (hB : base ≤ w.heap.size) (hmax : Z.length ≤ 100000) :
    Calls Try.prog 42 #[v] w fun e w' => e = .returned (.tuple #[]) ∧ OwnS w' base v (Z.mergeSort fun x y => decide (x ≤ y)) ∧ Below base w w' := by
  have hl2 : (Z.mergeSort fun x y => decide (x ≤ y)).length = Z.length := List.length_mergeSort Z
  rcases hv with ⟨rfl, rfl⟩ | ⟨g, c, rfl, hg, hl, hc, hh⟩
  · exact (AnyM.slices_Sort_string_none layS none 0 w).mono fun e w' ⟨he, hw⟩ => ⟨he, .inl ⟨rfl, by simp⟩, by rw [hw]; exact Below.refl _ _⟩
  · refine (AnyM.slices_Sort_string layS g 0 c Z w hh hl (by omega)).mono fun e w' ⟨he, n, os, hw⟩ => ⟨he, .inr ⟨g, c, by rw [hl2], hg, ?_, by omega, ?_⟩, ?_⟩
    · rw [hw, Go.Sort.size_grow, Go.Sort.size_putRow, Go.Sort.heap_ahead]; omega
    · rw [hw]
      exact Go.Sort.holds_grow encStr _ os g 0 _ (by rw [Go.Sort.size_putRow]; exact hl) (Go.Sort.holds_putRow encStr _ g 0 _ _ (Go.Sort.holds_ahead encStr w n g 0 _ hh) (by simp))
    · rw [hw]
      exact below_grow (Lib.below_putRow (Below.refl _ _) hg) (by rw [Go.Sort.size_putRow]; exact hB) os
theorem compactS_any (base : Nat) (v : Value) (Z : List Ord.S) (w : World) (hv : OwnS w base v Z) (hmax : Z.length ≤ 100000) :
    Calls Try.prog 43 #[v] w fun e w' => ∃ u, e = .returned u ∧ StrsAt w' u (Lib.compact Z) ∧ Below base w w' := by
  rcases hv with ⟨rfl, rfl⟩ | ⟨g, c, rfl, hg, hl, hc, hh⟩
  · exact (AnyG.slices_Compact_string_empty layK none 0 w).mono fun e w' ⟨he, hw⟩ => ⟨_, he, ⟨none, 0, rfl, Nat.le_refl _, fun h => by simp [Lib.compact, Lib.compactUpTo] at h⟩, by rw [hw]; exact Below.refl _ _⟩
  · have hle := Lib.compact_length_le Z
    refine (AnyG.slices_Compact_string layK g 0 c Z w hh (by omega) hc).mono fun e w' ⟨he, q, hw⟩ => ⟨_, he, ⟨_, c, rfl, by omega, fun _ => ⟨g, 0, rfl, ?_, fun i hi => ?_⟩⟩, ?_⟩
    · rw [hw, Go.Sort.size_putRow]; exact hl
    · have hH := Go.Sort.holds_putRow encStr _ g 0 _ (Lib.compact Z ++ List.replicate (Z.length - (Lib.compact Z).length) []).toArray (Go.Sort.holds_ahead encStr w q g 0 _ hh) (by simp; omega)
      rw [hw, holds_at hH i (by simp; omega)]
      congr 2
      rw [List.getD_eq_getElem?_getD, List.getElem?_append_left hi, ← List.getD_eq_getElem?_getD]
    · rw [hw]; exact Lib.below_putRow (Below.refl _ _) hg
end Go.Proofs.Ytlbfcneboaihnaa
