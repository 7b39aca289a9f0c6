/- strings.HasPrefix and slices.Sort of texts: the library's own contracts, laid at this program, in plain words. -/
import Derived.Ground.SlgmProg
import Derived.Shelf.Strings.Prefix
import Derived.Shelf.SortM.Plain
import Derived.Shelf.SortM.SortNone
import Derived.Lib.OwnBridge
import Derived.Test.YtebcmicmklpflaaGreatDoorK7
namespace Go.Proofs.YtebcmicmklpflaaGreatDoor
open Go.RowKit Go.Shelf
def laysPfx_ren : Go.Shelf.Ren := ⟨fun | 99 => 180 | 206 => 213 | n => n, fun | 9 => 9 | 4 => 4 | 3 => 3 | n => n, fun | n => n⟩
theorem laysPfx : Go.Proofs.Lays.n99 Tryz.prog laysPfx_ren := {
  mixed := by kernel_rfl
  f99 := Tryz.func180.trans (congrArg some (by kernel_rfl))
  f206 := Tryz.func213.trans (congrArg some (by kernel_rfl))
  t3 := Tryz.underlying3
  a3 := Tryz.isAgg3
  z3 := Tryz.sizeOf3
  v3 := Tryz.zeroValue3
  t4 := Tryz.underlying4
  a4 := Tryz.isAgg4
  z4 := Tryz.sizeOf4
  v4 := Tryz.zeroValue4
  t9 := Tryz.underlying9
  a9 := Tryz.isAgg9
  z9 := Tryz.sizeOf9
  v9 := Tryz.zeroValue9 }
def laySort_ren : Go.Shelf.Ren := ⟨fun | 6 => 181 | 8 => 215 | 9 => 214 | 19 => 242 | 20 => 243 | 21 => 233 | 22 => 234 | 23 => 235 | 24 => 236 | 25 => 237 | 26 => 238 | 27 => 239 | 28 => 240 | 29 => 241 | 36 => 253 | 31 => 254 | 32 => 255 | 37 => 256 | 38 => 257 | 39 => 258 | 41 => 263 | n => n, fun | 27 => 94 | 29 => 9 | 3 => 3 | 32 => 238 | 26 => 94 | 0 => 0 | 44 => 82 | 46 => 136 | 4 => 4 | 36 => 292 | 35 => 291 | 41 => 156 | 5 => 5 | 9 => 9 | 53 => 309 | 57 => 312 | 63 => 318 | 64 => 77 | n => n, fun | n => n⟩
theorem laySort : Go.Proofs.SlLaysM.n6 Tryz.prog laySort_ren := {
  mixed := by kernel_rfl
  f6 := ⟨Tryz.f181.name, by decide, Tryz.func181.trans (congrArg some (by kernel_rfl))⟩
  f8 := Tryz.func215.trans (congrArg some (by kernel_rfl))
  f9 := ⟨Tryz.f214.name, by decide, Tryz.func214.trans (congrArg some (by kernel_rfl))⟩
  f19 := Tryz.func242.trans (congrArg some (by kernel_rfl))
  f20 := Tryz.func243.trans (congrArg some (by kernel_rfl))
  f21 := ⟨Tryz.f233.name, by decide, Tryz.func233.trans (congrArg some (by kernel_rfl))⟩
  f22 := ⟨Tryz.f234.name, by decide, Tryz.func234.trans (congrArg some (by kernel_rfl))⟩
  f23 := ⟨Tryz.f235.name, by decide, Tryz.func235.trans (congrArg some (by kernel_rfl))⟩
  f24 := ⟨Tryz.f236.name, by decide, Tryz.func236.trans (congrArg some (by kernel_rfl))⟩
  f25 := ⟨Tryz.f237.name, by decide, Tryz.func237.trans (congrArg some (by kernel_rfl))⟩
  f26 := ⟨Tryz.f238.name, by decide, Tryz.func238.trans (congrArg some (by kernel_rfl))⟩
  f27 := ⟨Tryz.f239.name, by decide, Tryz.func239.trans (congrArg some (by kernel_rfl))⟩
  f28 := ⟨Tryz.f240.name, by decide, Tryz.func240.trans (congrArg some (by kernel_rfl))⟩
  f29 := ⟨Tryz.f241.name, by decide, Tryz.func241.trans (congrArg some (by kernel_rfl))⟩
  f31 := Tryz.func254.trans (congrArg some (by kernel_rfl))
  f32 := Tryz.func255.trans (congrArg some (by kernel_rfl))
  f36 := ⟨Tryz.f253.name, by decide, Tryz.func253.trans (congrArg some (by kernel_rfl))⟩
  f37 := ⟨Tryz.f256.name, by decide, Tryz.func256.trans (congrArg some (by kernel_rfl))⟩
  f38 := ⟨Tryz.f257.name, by decide, Tryz.func257.trans (congrArg some (by kernel_rfl))⟩
  f39 := ⟨Tryz.f258.name, by decide, Tryz.func258.trans (congrArg some (by kernel_rfl))⟩
  f41 := ⟨Tryz.f263.name, by decide, Tryz.func263.trans (congrArg some (by kernel_rfl))⟩
  t0 := Tryz.underlying0
  a0 := Tryz.isAgg0
  z0 := Tryz.sizeOf0
  v0 := Tryz.zeroValue0
  t3 := Tryz.underlying3
  a3 := Tryz.isAgg3
  z3 := Tryz.sizeOf3
  v3 := Tryz.zeroValue3
  t4 := Tryz.underlying4
  a4 := Tryz.isAgg4
  z4 := Tryz.sizeOf4
  v4 := Tryz.zeroValue4
  t5 := Tryz.underlying5
  a5 := Tryz.isAgg5
  z5 := Tryz.sizeOf5
  v5 := Tryz.zeroValue5
  t9 := Tryz.underlying9
  a9 := Tryz.isAgg9
  z9 := Tryz.sizeOf9
  v9 := Tryz.zeroValue9
  t26 := Tryz.underlying94
  a26 := Tryz.isAgg94
  z26 := Tryz.sizeOf94
  v26 := Tryz.zeroValue94
  t27 := Tryz.underlying94
  a27 := Tryz.isAgg94
  z27 := Tryz.sizeOf94
  v27 := Tryz.zeroValue94
  t29 := Tryz.underlying9
  a29 := Tryz.isAgg9
  z29 := Tryz.sizeOf9
  v29 := Tryz.zeroValue9
  t32 := Tryz.underlying238
  a32 := Tryz.isAgg238
  z32 := Tryz.sizeOf238
  v32 := Tryz.zeroValue238
  t35 := Tryz.underlying291
  a35 := Tryz.isAgg291
  z35 := Tryz.sizeOf291
  v35 := Tryz.zeroValue291
  t36 := Tryz.underlying292
  a36 := Tryz.isAgg292
  z36 := Tryz.sizeOf292
  v36 := Tryz.zeroValue292
  t41 := Tryz.underlying156
  a41 := Tryz.isAgg156
  z41 := Tryz.sizeOf156
  v41 := Tryz.zeroValue156
  t44 := Tryz.underlying82
  a44 := Tryz.isAgg82
  z44 := Tryz.sizeOf82
  v44 := Tryz.zeroValue82
  t46 := Tryz.underlying136
  a46 := Tryz.isAgg136
  z46 := Tryz.sizeOf136
  v46 := Tryz.zeroValue136
  t53 := Tryz.underlying309
  a53 := Tryz.isAgg309
  z53 := Tryz.sizeOf309
  v53 := Tryz.zeroValue309
  t57 := Tryz.underlying312
  a57 := Tryz.isAgg312
  z57 := Tryz.sizeOf312
  v57 := Tryz.zeroValue312
  t63 := Tryz.underlying318
  a63 := Tryz.isAgg318
  z63 := Tryz.sizeOf318
  v63 := Tryz.zeroValue318
  t64 := Tryz.underlying77
  a64 := Tryz.isAgg77
  z64 := Tryz.sizeOf77
  v64 := Tryz.zeroValue77 }
theorem prefix_any (s p : ByteArray) (w : World) : Calls Tryz.prog 180 #[.string s, .string p] w fun e w' => e = .returned (.bool (Lib.hasPrefix s.data.toList p.data.toList)) ∧ w' = w := Any.strings_HasPrefix laysPfx s p w
/-- Texts, rising. -/
def sortL (xs : List ByteArray) : List (List UInt8) := (xs.map fun s => s.data.toList).mergeSort fun x y => decide (x ≤ y)
def sortB (xs : List ByteArray) : List ByteArray := (sortL xs).map fun l => ⟨l.toArray⟩
theorem sortL_length (xs : List ByteArray) : (sortL xs).length = xs.length := by unfold sortL; rw [List.length_mergeSort, List.length_map]
theorem sortB_length (xs : List ByteArray) : (sortB xs).length = xs.length := by unfold sortB; rw [List.length_map, sortL_length]
theorem enc_map (xs : List ByteArray) : xs.map Value.string = (xs.map fun s => s.data.toList).map encStr := by
  rw [List.map_map]; rfl
theorem below_grow {B : Nat} {w0 w : World} (h : Below B w0 w) (hB : B ≤ w.heap.size) (os : Array Obj) : Below B w0 (Go.Sort.grow w os) :=
  ⟨h.os, h.tape, h.output, by have := h.size; rw [Go.Sort.size_grow]; omega, fun k hk => by rw [Go.Sort.heap_grow_old _ _ (by omega)]; exact h.block k hk⟩
theorem holds_at {w : World} {g : Nat} {Z : List (List UInt8)} (h : Go.Sort.Holds encStr w g 0 Z.toArray) (i : Nat) (hi : i < Z.length) : w.cell? ⟨g, 0 + i, none⟩ = some (encStr (Z.getD i [])) := by
  have := (h i (by simpa using hi)).1
  rw [this]
  simp [List.getD, hi]
/-- A slice of texts that lies in blocks from a bound on. -/
def StrRow (base : Nat) (w : World) (v : Value) (ys : List ByteArray) : Prop :=
  ∃ a cp, v = .slice a ys.length cp ∧ ys.length ≤ cp ∧ (0 < ys.length → ∃ g, a = some ⟨g, 0, none⟩ ∧ base ≤ g ∧ g < w.heap.size ∧ ∀ j s, ys[j]? = some s → w.cell? ⟨g, 0 + j, none⟩ = some (.string s))
theorem sort_any (base : Nat) (a : Option Addr) (cp : Nat) (xs : List ByteArray) (w : World) (ho : w.ownsRow base 9 1 (.slice a xs.length cp) xs.length (xs.map .string)) (hB : base ≤ w.heap.size) (hmax : xs.length ≤ 1000000) :
    Calls Tryz.prog 181 #[.slice a xs.length cp] w fun e w' => e = .returned (.tuple #[]) ∧ StrRow base w' (.slice a xs.length cp) (sortB xs) ∧ Below base w w' := by
  have hsl : (sortB xs).length = xs.length := sortB_length xs
  by_cases hne : a = none
  · have h0 : xs.length = 0 ∧ cp = 0 := by
      subst hne
      rcases ho.2 with ⟨h1, h2⟩ | ⟨g, cap, cur, h1, _⟩
      · injection h1 with _ e2 e3; exact ⟨e2, e3⟩
      · injection h1 with e1; cases e1
    subst hne
    obtain rfl : xs = [] := List.eq_nil_of_length_eq_zero h0.1
    obtain rfl := h0.2
    refine (AnyM.slices_Sort_string_none laySort none 0 w).mono fun e w' ⟨he, hw⟩ => ⟨he, ⟨none, 0, by rw [hsl], by rw [hsl]; exact Nat.le_refl _, fun h => absurd h (by rw [hsl]; exact Nat.lt_irrefl _)⟩, by rw [hw]; exact Below.refl _ _⟩
  · rw [enc_map] at ho
    have hl0 : (xs.map fun s => s.data.toList).length = xs.length := by simp
    obtain ⟨g, c, hv, hbg, hgl, hncap, hcm, hlen, hH⟩ := Lib.holds_of_ownsRow ho (by intro h; injection h with e1; exact hne e1)
    cases hv
    have hsort : (sortL xs).length = xs.length := sortL_length xs
    have hC := AnyM.slices_Sort_string laySort g 0 cp (xs.map fun s => s.data.toList) w hH hgl (by rw [hl0]; omega)
    rw [hl0] at hC
    refine hC.mono fun e w' ⟨he, n, os, hw⟩ => ⟨he, ⟨_, cp, by rw [hsl], by rw [hsl]; exact hncap, fun h0 => ⟨g, rfl, hbg, ?_, fun j u hj => ?_⟩⟩, ?_⟩
    · rw [hw, Go.Sort.size_grow, Go.Sort.size_putRow, Go.Sort.heap_ahead]; omega
    · have hH2 : Go.Sort.Holds encStr w' g 0 (sortL xs).toArray := by
        rw [hw]
        exact Go.Sort.holds_grow encStr _ os g 0 _ (by rw [Go.Sort.size_putRow]; exact hgl) (Go.Sort.holds_putRow encStr _ g 0 _ _ (Go.Sort.holds_ahead encStr w n g 0 _ hH) (by simp))
      have hj2 := (List.getElem?_eq_some_iff.1 hj).1
      rw [hsl] at hj2
      rw [holds_at hH2 j (by omega)]
      unfold sortB at hj
      rw [List.getElem?_map, List.getElem?_eq_getElem (by omega)] at hj
      rw [List.getD_eq_getElem?_getD, List.getElem?_eq_getElem (by omega)]
      injection hj with hj
      rw [← hj]
      rfl
    · rw [hw]
      exact below_grow (Lib.below_putRow (Below.refl _ _) hbg) (by rw [Go.Sort.size_putRow]; exact hB) os
end Go.Proofs.YtebcmicmklpflaaGreatDoor
