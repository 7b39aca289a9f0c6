/- slices.Clone, slices.Sort and slices.Compact of rows of texts: the library's own contracts, laid at this program, in plain words. -/
import Derived.Shelf.SlicesG.Clone
import Derived.Shelf.SlicesG.CompactS
import Derived.Shelf.SortM.Plain
import Derived.Shelf.SortM.SortNone
import Derived.Lib.OwnBridge
import Derived.Test.YtfoghaocfkcggaaUniq
namespace Go.Proofs.Ytfoghaocfkcggaa
open Go.Shelf
def layC_ren : Go.Shelf.Ren := ⟨fun | 42 => 49 | n => n, fun | 25 => 38 | 26 => 26 | 4 => 4 | n => n, fun | n => n⟩
theorem layC : Go.Proofs.SlLaysN.n42 Try.prog layC_ren := {
  mixed := by kernel_rfl
  f42 := ⟨Try.f49.name, by decide, Try.func49.trans (congrArg some (by kernel_rfl))⟩
  t4 := Try.underlying4
  a4 := Try.isAgg4
  z4 := Try.sizeOf4
  v4 := Try.zeroValue4
  t25 := Try.underlying38
  a25 := Try.isAgg38
  z25 := Try.sizeOf38
  v25 := Try.zeroValue38
  t26 := Try.underlying26
  a26 := Try.isAgg26
  z26 := Try.sizeOf26
  v26 := Try.zeroValue26
  i26 := by kernel_rfl }
def layS_ren : Go.Shelf.Ren := ⟨fun | 6 => 50 | 8 => 64 | 9 => 63 | 19 => 80 | 20 => 81 | 21 => 71 | 22 => 72 | 23 => 73 | 24 => 74 | 25 => 75 | 26 => 76 | 27 => 77 | 28 => 78 | 29 => 79 | 36 => 85 | 31 => 86 | 32 => 87 | 37 => 88 | 38 => 89 | 39 => 90 | 41 => 92 | n => n, fun | 27 => 38 | 29 => 26 | 3 => 3 | 32 => 65 | 26 => 38 | 0 => 0 | 44 => 62 | 46 => 67 | 4 => 4 | 36 => 105 | 35 => 104 | 41 => 110 | 5 => 5 | 9 => 9 | 53 => 118 | 57 => 122 | 63 => 124 | 64 => 125 | n => n, fun | n => n⟩
theorem layS : Go.Proofs.SlLaysM.n6 Try.prog layS_ren := {
  mixed := by kernel_rfl
  f6 := ⟨Try.f50.name, by decide, Try.func50.trans (congrArg some (by kernel_rfl))⟩
  f8 := Try.func64.trans (congrArg some (by kernel_rfl))
  f9 := ⟨Try.f63.name, by decide, Try.func63.trans (congrArg some (by kernel_rfl))⟩
  f19 := Try.func80.trans (congrArg some (by kernel_rfl))
  f20 := Try.func81.trans (congrArg some (by kernel_rfl))
  f21 := ⟨Try.f71.name, by decide, Try.func71.trans (congrArg some (by kernel_rfl))⟩
  f22 := ⟨Try.f72.name, by decide, Try.func72.trans (congrArg some (by kernel_rfl))⟩
  f23 := ⟨Try.f73.name, by decide, Try.func73.trans (congrArg some (by kernel_rfl))⟩
  f24 := ⟨Try.f74.name, by decide, Try.func74.trans (congrArg some (by kernel_rfl))⟩
  f25 := ⟨Try.f75.name, by decide, Try.func75.trans (congrArg some (by kernel_rfl))⟩
  f26 := ⟨Try.f76.name, by decide, Try.func76.trans (congrArg some (by kernel_rfl))⟩
  f27 := ⟨Try.f77.name, by decide, Try.func77.trans (congrArg some (by kernel_rfl))⟩
  f28 := ⟨Try.f78.name, by decide, Try.func78.trans (congrArg some (by kernel_rfl))⟩
  f29 := ⟨Try.f79.name, by decide, Try.func79.trans (congrArg some (by kernel_rfl))⟩
  f31 := Try.func86.trans (congrArg some (by kernel_rfl))
  f32 := Try.func87.trans (congrArg some (by kernel_rfl))
  f36 := ⟨Try.f85.name, by decide, Try.func85.trans (congrArg some (by kernel_rfl))⟩
  f37 := ⟨Try.f88.name, by decide, Try.func88.trans (congrArg some (by kernel_rfl))⟩
  f38 := ⟨Try.f89.name, by decide, Try.func89.trans (congrArg some (by kernel_rfl))⟩
  f39 := ⟨Try.f90.name, by decide, Try.func90.trans (congrArg some (by kernel_rfl))⟩
  f41 := ⟨Try.f92.name, by decide, Try.func92.trans (congrArg some (by kernel_rfl))⟩
  t0 := Try.underlying0
  a0 := Try.isAgg0
  z0 := Try.sizeOf0
  v0 := Try.zeroValue0
  t3 := Try.underlying3
  a3 := Try.isAgg3
  z3 := Try.sizeOf3
  v3 := Try.zeroValue3
  t4 := Try.underlying4
  a4 := Try.isAgg4
  z4 := Try.sizeOf4
  v4 := Try.zeroValue4
  t5 := Try.underlying5
  a5 := Try.isAgg5
  z5 := Try.sizeOf5
  v5 := Try.zeroValue5
  t9 := Try.underlying9
  a9 := Try.isAgg9
  z9 := Try.sizeOf9
  v9 := Try.zeroValue9
  t26 := Try.underlying38
  a26 := Try.isAgg38
  z26 := Try.sizeOf38
  v26 := Try.zeroValue38
  t27 := Try.underlying38
  a27 := Try.isAgg38
  z27 := Try.sizeOf38
  v27 := Try.zeroValue38
  t29 := Try.underlying26
  a29 := Try.isAgg26
  z29 := Try.sizeOf26
  v29 := Try.zeroValue26
  t32 := Try.underlying65
  a32 := Try.isAgg65
  z32 := Try.sizeOf65
  v32 := Try.zeroValue65
  t35 := Try.underlying104
  a35 := Try.isAgg104
  z35 := Try.sizeOf104
  v35 := Try.zeroValue104
  t36 := Try.underlying105
  a36 := Try.isAgg105
  z36 := Try.sizeOf105
  v36 := Try.zeroValue105
  t41 := Try.underlying110
  a41 := Try.isAgg110
  z41 := Try.sizeOf110
  v41 := Try.zeroValue110
  t44 := Try.underlying62
  a44 := Try.isAgg62
  z44 := Try.sizeOf62
  v44 := Try.zeroValue62
  t46 := Try.underlying67
  a46 := Try.isAgg67
  z46 := Try.sizeOf67
  v46 := Try.zeroValue67
  t53 := Try.underlying118
  a53 := Try.isAgg118
  z53 := Try.sizeOf118
  v53 := Try.zeroValue118
  t57 := Try.underlying122
  a57 := Try.isAgg122
  z57 := Try.sizeOf122
  v57 := Try.zeroValue122
  t63 := Try.underlying124
  a63 := Try.isAgg124
  z63 := Try.sizeOf124
  v63 := Try.zeroValue124
  t64 := Try.underlying125
  a64 := Try.isAgg125
  z64 := Try.sizeOf125
  v64 := Try.zeroValue125 }
def layK_ren : Go.Shelf.Ren := ⟨fun | 44 => 52 | n => n, fun | 25 => 38 | 26 => 26 | 3 => 3 | 4 => 4 | 0 => 0 | n => n, fun | n => n⟩
theorem layK : Go.Proofs.SlLaysN.n44 Try.prog layK_ren := {
  mixed := by kernel_rfl
  f44 := ⟨Try.f52.name, by decide, Try.func52.trans (congrArg some (by kernel_rfl))⟩
  t0 := Try.underlying0
  a0 := Try.isAgg0
  z0 := Try.sizeOf0
  v0 := Try.zeroValue0
  t3 := Try.underlying3
  a3 := Try.isAgg3
  z3 := Try.sizeOf3
  v3 := Try.zeroValue3
  t4 := Try.underlying4
  a4 := Try.isAgg4
  z4 := Try.sizeOf4
  v4 := Try.zeroValue4
  t25 := Try.underlying38
  a25 := Try.isAgg38
  z25 := Try.sizeOf38
  v25 := Try.zeroValue38
  t26 := Try.underlying26
  a26 := Try.isAgg26
  z26 := Try.sizeOf26
  v26 := Try.zeroValue26
  i26 := by kernel_rfl }
open Go.RowKit Go.Great
/-- A text's bytes as numbers. -/
def natsOf (z : Ord.S) : List Nat := z.map UInt8.toNat
theorem natsOf_length (z : Ord.S) : (natsOf z).length = z.length := by simp [natsOf]
theorem natsOf_bytes (z : Ord.S) : Sha.Bytes (natsOf z) := by
  intro x hx
  obtain ⟨b, -, rfl⟩ := List.mem_map.1 hx
  exact b.toNat_lt
theorem strOf_nats (z : Ord.S) : strOf (natsOf z) = ⟨z.toArray⟩ := by
  unfold strOf natsOf
  rw [List.map_map]
  simp [Function.comp_def]
theorem enc_nats (z : Ord.S) : encStr z = .string (strOf (natsOf z)) := by rw [strOf_nats, encStr]
theorem natsOf_inj {a b : Ord.S} (h : natsOf a = natsOf b) : a = b := by
  have h1 := strOf_nats a
  rw [h, strOf_nats b] at h1
  have h2 := congrArg (fun s => s.data.toList) h1
  simpa using h2.symm
/-- A slice value whose texts lie in a block that was there. -/
def StrsAt (w : World) (v : Value) (Z : List Ord.S) : Prop :=
  ∃ a cap, v = .slice a Z.length cap ∧ Z.length ≤ cap ∧ (0 < Z.length → ∃ b o, a = some ⟨b, o, none⟩ ∧ b < w.heap.size ∧ ∀ i, i < Z.length → w.cell? ⟨b, o + i, none⟩ = some (encStr (Z.getD i [])))
theorem StrsAt.below {w w' : World} {v : Value} {Z : List Ord.S} (h : StrsAt w v Z) (hb : Below w.heap.size w w') : StrsAt w' v Z := by
  obtain ⟨a, cap, e, hc, hm⟩ := h
  refine ⟨a, cap, e, hc, fun hp => ?_⟩
  obtain ⟨b, o, ea, hl, hcell⟩ := hm hp
  exact ⟨b, o, ea, Nat.lt_of_lt_of_le hl hb.size, fun i hi => by rw [hb.cell (p := ⟨b, o + i, none⟩) hl]; exact hcell i hi⟩
theorem below_grow {B : Nat} {w0 w : World} (h : Below B w0 w) (hB : B ≤ w.heap.size) (os : Array Obj) : Below B w0 (Go.Sort.grow w os) :=
  ⟨h.os, h.tape, h.output, by have := h.size; rw [Go.Sort.size_grow]; omega, fun k hk => by rw [Go.Sort.heap_grow_old _ _ (by omega)]; exact h.block k hk⟩
/-- A row of texts of the call's own: nil, or at the head of a block from so far on. -/
def OwnS (w : World) (base : Nat) (v : Value) (Z : List Ord.S) : Prop :=
  (v = .slice none 0 0 ∧ Z = []) ∨ ∃ g c, v = .slice (some ⟨g, 0, none⟩) Z.length c ∧ base ≤ g ∧ g < w.heap.size ∧ Z.length ≤ c ∧ Go.Sort.Holds encStr w g 0 Z.toArray
theorem holds_at {w : World} {g : Nat} {Z : List Ord.S} (h : Go.Sort.Holds encStr w g 0 Z.toArray) (i : Nat) (hi : i < Z.length) : w.cell? ⟨g, 0 + i, none⟩ = some (encStr (Z.getD i [])) := by
  have := (h i (by simpa using hi)).1
  rw [this]
  simp [List.getD, hi]
theorem OwnS.at {w : World} {base : Nat} {v : Value} {Z : List Ord.S} (h : OwnS w base v Z) : StrsAt w v Z := by
  rcases h with ⟨rfl, rfl⟩ | ⟨g, c, rfl, hg, hl, hc, hh⟩
  · exact ⟨none, 0, rfl, Nat.le_refl _, fun h => by simp at h⟩
  · exact ⟨_, c, rfl, hc, fun _ => ⟨g, 0, rfl, hl, fun i hi => holds_at hh i hi⟩⟩
theorem cloneS_any (a : Option Addr) (n cap : Nat) (Z : List Ord.S) (w : World) (hn : Z.length = n) (hv : StrsAt w (.slice a n cap) Z) (hmax : n ≤ 100000) :
    Calls Try.prog 49 #[.slice a n cap] w fun e w' => ∃ v, e = .returned v ∧ OwnS w' w.heap.size v Z ∧ Below w.heap.size w w' := by
  subst hn
  by_cases h0 : 0 < Z.length
  · obtain ⟨a', c', e, hc, hm⟩ := hv
    cases e
    obtain ⟨b, o, rfl, hbl, hcell⟩ := hm h0
    refine (AnyG.slices_Clone_string layC b o Z.length cap (Z.map fun z => ⟨z.toArray⟩) w (by simp) (by omega) (fun j hj => ?_)).mono fun e w' ⟨v, he, hown, hne, hbel⟩ => ?_
    · rw [hcell j (by simpa using hj)]
      simp at hj
      simp [List.getD, hj, encStr]
    · refine ⟨v, he, .inr ?_, hbel⟩
      have hown' : w'.ownsRow w.heap.size 26 1 v Z.length (Z.map encStr) := by
        have : ((Z.map fun z => (⟨z.toArray⟩ : ByteArray)).take Z.length).map Value.string = Z.map encStr := by
          rw [List.take_of_length_le (by simp), List.map_map]; rfl
        rw [← this]; exact hown
      obtain ⟨g, c, rfl, hbg, hgl, hncap, hcm, hlen, hH⟩ := Lib.holds_of_ownsRow hown' hne
      exact ⟨g, c, rfl, hbg, hgl, hncap, hH⟩
  · obtain rfl : Z = [] := List.eq_nil_of_length_eq_zero (by omega)
    cases a with
    | none => exact (AnyG.slices_Clone_string_nil layC 0 cap w).mono fun e w' ⟨he, hw⟩ => ⟨_, he, .inl ⟨rfl, rfl⟩, by rw [hw]; exact Below.refl _ _⟩
    | some x =>
      refine (AnyG.slices_Clone_string_zero layC x cap w).mono fun e w' ⟨v, he, hown, hne, hbel⟩ => ⟨v, he, .inr ?_, hbel⟩
      have hown' : w'.ownsRow w.heap.size 26 1 v 0 (([] : List Ord.S).map encStr) := hown
      obtain ⟨g, c, rfl, hbg, hgl, hncap, hcm, hlen, hH⟩ := Lib.holds_of_ownsRow hown' hne
      exact ⟨g, c, rfl, hbg, hgl, hncap, hH⟩
theorem sortS_any (base : Nat) (v : Value) (Z : List Ord.S) (w : World) (hv : OwnS w base v Z) (hB : base ≤ w.heap.size) (hmax : Z.length ≤ 100000) :
    Calls Try.prog 50 #[v] w fun e w' => e = .returned (.tuple #[]) ∧ OwnS w' base v (Z.mergeSort fun x y => decide (x ≤ y)) ∧ Below base w w' := by
  have hl2 : (Z.mergeSort fun x y => decide (x ≤ y)).length = Z.length := List.length_mergeSort Z
  rcases hv with ⟨rfl, rfl⟩ | ⟨g, c, rfl, hg, hl, hc, hh⟩
  · exact (AnyM.slices_Sort_string_none layS none 0 w).mono fun e w' ⟨he, hw⟩ => ⟨he, .inl ⟨rfl, by simp⟩, by rw [hw]; exact Below.refl _ _⟩
  · refine (AnyM.slices_Sort_string layS g 0 c Z w hh hl (by omega)).mono fun e w' ⟨he, n, os, hw⟩ => ⟨he, .inr ⟨g, c, by rw [hl2], hg, ?_, by omega, ?_⟩, ?_⟩
    · rw [hw, Go.Sort.size_grow, Go.Sort.size_putRow, Go.Sort.heap_ahead]; omega
    · rw [hw]
      exact Go.Sort.holds_grow encStr _ os g 0 _ (by rw [Go.Sort.size_putRow]; exact hl) (Go.Sort.holds_putRow encStr _ g 0 _ _ (Go.Sort.holds_ahead encStr w n g 0 _ hh) (by simp))
    · rw [hw]
      exact below_grow (Lib.below_putRow (Below.refl _ _) hg) (by rw [Go.Sort.size_putRow]; exact hB) os
theorem compactS_any (base : Nat) (v : Value) (Z : List Ord.S) (w : World) (hv : OwnS w base v Z) (hmax : Z.length ≤ 100000) :
    Calls Try.prog 52 #[v] w fun e w' => ∃ u, e = .returned u ∧ StrsAt w' u (Lib.compact Z) ∧ Below base w w' := by
  rcases hv with ⟨rfl, rfl⟩ | ⟨g, c, rfl, hg, hl, hc, hh⟩
  · exact (AnyG.slices_Compact_string_empty layK none 0 w).mono fun e w' ⟨he, hw⟩ => ⟨_, he, ⟨none, 0, rfl, Nat.le_refl _, fun h => by simp [Lib.compact, Lib.compactUpTo] at h⟩, by rw [hw]; exact Below.refl _ _⟩
  · have hle := Lib.compact_length_le Z
    refine (AnyG.slices_Compact_string layK g 0 c Z w hh (by omega) hc).mono fun e w' ⟨he, q, hw⟩ => ⟨_, he, ⟨_, c, rfl, by omega, fun _ => ⟨g, 0, rfl, ?_, fun i hi => ?_⟩⟩, ?_⟩
    · rw [hw, Go.Sort.size_putRow]; exact hl
    · have hH := Go.Sort.holds_putRow encStr _ g 0 _ (Lib.compact Z ++ List.replicate (Z.length - (Lib.compact Z).length) []).toArray (Go.Sort.holds_ahead encStr w q g 0 _ hh) (by simp; omega)
      rw [hw, holds_at hH i (by simp; omega)]
      congr 2
      rw [List.getD_eq_getElem?_getD, List.getElem?_append_left hi, ← List.getD_eq_getElem?_getD]
    · rw [hw]; exact Lib.below_putRow (Below.refl _ _) hg
end Go.Proofs.Ytfoghaocfkcggaa
