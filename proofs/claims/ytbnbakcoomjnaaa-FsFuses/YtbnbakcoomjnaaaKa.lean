/- strings.HasPrefix and slices.Sort of texts: the library's own contracts, laid at this program, in plain words. -/
import Derived.Ground.SlgmProg
import Derived.Shelf.Strings.Prefix
import Derived.Shelf.SortM.Plain
import Derived.Shelf.SortM.SortNone
import Derived.Lib.OwnBridge
import Derived.Test.YtbnbakcoomjnaaaJd
namespace Go.Proofs.Ytbnbakcoomjnaaa
open Go.RowKit Go.Shelf
def laysPfx_ren : Go.Shelf.Ren := ⟨fun | 99 => 53 | 206 => 84 | n => n, fun | 9 => 9 | 4 => 4 | 3 => 3 | n => n, fun | n => n⟩
theorem laysPfx : Go.Proofs.Lays.n99 Try.prog laysPfx_ren := {
  mixed := by kernel_rfl
  f99 := Try.func53.trans (congrArg some (by kernel_rfl))
  f206 := Try.func84.trans (congrArg some (by kernel_rfl))
  t3 := Try.underlying3
  a3 := Try.isAgg3
  z3 := Try.sizeOf3
  v3 := Try.zeroValue3
  t4 := Try.underlying4
  a4 := Try.isAgg4
  z4 := Try.sizeOf4
  v4 := Try.zeroValue4
  t9 := Try.underlying9
  a9 := Try.isAgg9
  z9 := Try.sizeOf9
  v9 := Try.zeroValue9 }
def laySort_ren : Go.Shelf.Ren := ⟨fun | 6 => 54 | 8 => 86 | 9 => 85 | 19 => 111 | 20 => 112 | 21 => 102 | 22 => 103 | 23 => 104 | 24 => 105 | 25 => 106 | 26 => 107 | 27 => 108 | 28 => 109 | 29 => 110 | 36 => 120 | 31 => 121 | 32 => 122 | 37 => 123 | 38 => 124 | 39 => 125 | 41 => 126 | n => n, fun | 27 => 45 | 29 => 9 | 3 => 3 | 32 => 44 | 26 => 45 | 0 => 0 | 44 => 57 | 46 => 143 | 4 => 4 | 36 => 136 | 35 => 135 | 41 => 129 | 5 => 5 | 9 => 9 | 53 => 148 | 57 => 152 | 63 => 154 | 64 => 155 | n => n, fun | n => n⟩
theorem laySort : Go.Proofs.SlLaysM.n6 Try.prog laySort_ren := {
  mixed := by kernel_rfl
  f6 := ⟨Try.f54.name, by decide, Try.func54.trans (congrArg some (by kernel_rfl))⟩
  f8 := Try.func86.trans (congrArg some (by kernel_rfl))
  f9 := ⟨Try.f85.name, by decide, Try.func85.trans (congrArg some (by kernel_rfl))⟩
  f19 := Try.func111.trans (congrArg some (by kernel_rfl))
  f20 := Try.func112.trans (congrArg some (by kernel_rfl))
  f21 := ⟨Try.f102.name, by decide, Try.func102.trans (congrArg some (by kernel_rfl))⟩
  f22 := ⟨Try.f103.name, by decide, Try.func103.trans (congrArg some (by kernel_rfl))⟩
  f23 := ⟨Try.f104.name, by decide, Try.func104.trans (congrArg some (by kernel_rfl))⟩
  f24 := ⟨Try.f105.name, by decide, Try.func105.trans (congrArg some (by kernel_rfl))⟩
  f25 := ⟨Try.f106.name, by decide, Try.func106.trans (congrArg some (by kernel_rfl))⟩
  f26 := ⟨Try.f107.name, by decide, Try.func107.trans (congrArg some (by kernel_rfl))⟩
  f27 := ⟨Try.f108.name, by decide, Try.func108.trans (congrArg some (by kernel_rfl))⟩
  f28 := ⟨Try.f109.name, by decide, Try.func109.trans (congrArg some (by kernel_rfl))⟩
  f29 := ⟨Try.f110.name, by decide, Try.func110.trans (congrArg some (by kernel_rfl))⟩
  f31 := Try.func121.trans (congrArg some (by kernel_rfl))
  f32 := Try.func122.trans (congrArg some (by kernel_rfl))
  f36 := ⟨Try.f120.name, by decide, Try.func120.trans (congrArg some (by kernel_rfl))⟩
  f37 := ⟨Try.f123.name, by decide, Try.func123.trans (congrArg some (by kernel_rfl))⟩
  f38 := ⟨Try.f124.name, by decide, Try.func124.trans (congrArg some (by kernel_rfl))⟩
  f39 := ⟨Try.f125.name, by decide, Try.func125.trans (congrArg some (by kernel_rfl))⟩
  f41 := ⟨Try.f126.name, by decide, Try.func126.trans (congrArg some (by kernel_rfl))⟩
  t0 := Try.underlying0
  a0 := Try.isAgg0
  z0 := Try.sizeOf0
  v0 := Try.zeroValue0
  t3 := Try.underlying3
  a3 := Try.isAgg3
  z3 := Try.sizeOf3
  v3 := Try.zeroValue3
  t4 := Try.underlying4
  a4 := Try.isAgg4
  z4 := Try.sizeOf4
  v4 := Try.zeroValue4
  t5 := Try.underlying5
  a5 := Try.isAgg5
  z5 := Try.sizeOf5
  v5 := Try.zeroValue5
  t9 := Try.underlying9
  a9 := Try.isAgg9
  z9 := Try.sizeOf9
  v9 := Try.zeroValue9
  t26 := Try.underlying45
  a26 := Try.isAgg45
  z26 := Try.sizeOf45
  v26 := Try.zeroValue45
  t27 := Try.underlying45
  a27 := Try.isAgg45
  z27 := Try.sizeOf45
  v27 := Try.zeroValue45
  t29 := Try.underlying9
  a29 := Try.isAgg9
  z29 := Try.sizeOf9
  v29 := Try.zeroValue9
  t32 := Try.underlying44
  a32 := Try.isAgg44
  z32 := Try.sizeOf44
  v32 := Try.zeroValue44
  t35 := Try.underlying135
  a35 := Try.isAgg135
  z35 := Try.sizeOf135
  v35 := Try.zeroValue135
  t36 := Try.underlying136
  a36 := Try.isAgg136
  z36 := Try.sizeOf136
  v36 := Try.zeroValue136
  t41 := Try.underlying129
  a41 := Try.isAgg129
  z41 := Try.sizeOf129
  v41 := Try.zeroValue129
  t44 := Try.underlying57
  a44 := Try.isAgg57
  z44 := Try.sizeOf57
  v44 := Try.zeroValue57
  t46 := Try.underlying143
  a46 := Try.isAgg143
  z46 := Try.sizeOf143
  v46 := Try.zeroValue143
  t53 := Try.underlying148
  a53 := Try.isAgg148
  z53 := Try.sizeOf148
  v53 := Try.zeroValue148
  t57 := Try.underlying152
  a57 := Try.isAgg152
  z57 := Try.sizeOf152
  v57 := Try.zeroValue152
  t63 := Try.underlying154
  a63 := Try.isAgg154
  z63 := Try.sizeOf154
  v63 := Try.zeroValue154
  t64 := Try.underlying155
  a64 := Try.isAgg155
  z64 := Try.sizeOf155
  v64 := Try.zeroValue155 }
theorem prefix_any (s p : ByteArray) (w : World) : Calls Try.prog 53 #[.string s, .string p] w fun e w' => e = .returned (.bool (Lib.hasPrefix s.data.toList p.data.toList)) ∧ w' = w := Any.strings_HasPrefix laysPfx s p w
/-- Texts, rising. -/
def sortL (xs : List ByteArray) : List (List UInt8) := (xs.map fun s => s.data.toList).mergeSort fun x y => decide (x ≤ y)
def sortB (xs : List ByteArray) : List ByteArray := (sortL xs).map fun l => ⟨l.toArray⟩
theorem sortL_length (xs : List ByteArray) : (sortL xs).length = xs.length := by unfold sortL; rw [List.length_mergeSort, List.length_map]
theorem sortB_length (xs : List ByteArray) : (sortB xs).length = xs.length := by unfold sortB; rw [List.length_map, sortL_length]
theorem enc_map (xs : List ByteArray) : xs.map Value.string = (xs.map fun s => s.data.toList).map encStr := by
  rw [List.map_map]; rfl
theorem below_grow {B : Nat} {w0 w : World} (h : Below B w0 w) (hB : B ≤ w.heap.size) (os : Array Obj) : Below B w0 (Go.Sort.grow w os) :=
  ⟨h.os, h.tape, h.output, by have := h.size; rw [Go.Sort.size_grow]; omega, fun k hk => by rw [Go.Sort.heap_grow_old _ _ (by omega)]; exact h.block k hk⟩
theorem holds_at {w : World} {g : Nat} {Z : List (List UInt8)} (h : Go.Sort.Holds encStr w g 0 Z.toArray) (i : Nat) (hi : i < Z.length) : w.cell? ⟨g, 0 + i, none⟩ = some (encStr (Z.getD i [])) := by
  have := (h i (by simpa using hi)).1
  rw [this]
  simp [List.getD, hi]
/-- A slice of texts that lies in blocks from a bound on. -/
def StrRow (base : Nat) (w : World) (v : Value) (ys : List ByteArray) : Prop :=
  ∃ a cp, v = .slice a ys.length cp ∧ ys.length ≤ cp ∧ (0 < ys.length → ∃ g, a = some ⟨g, 0, none⟩ ∧ base ≤ g ∧ g < w.heap.size ∧ ∀ j s, ys[j]? = some s → w.cell? ⟨g, 0 + j, none⟩ = some (.string s))
theorem sort_any (base : Nat) (a : Option Addr) (cp : Nat) (xs : List ByteArray) (w : World) (ho : w.ownsRow base 9 1 (.slice a xs.length cp) xs.length (xs.map .string)) (hB : base ≤ w.heap.size) (hmax : xs.length ≤ 1000000) :
    Calls Try.prog 54 #[.slice a xs.length cp] w fun e w' => e = .returned (.tuple #[]) ∧ StrRow base w' (.slice a xs.length cp) (sortB xs) ∧ Below base w w' := by
  have hsl : (sortB xs).length = xs.length := sortB_length xs
  by_cases hne : a = none
  · have h0 : xs.length = 0 ∧ cp = 0 := by
      subst hne
      rcases ho.2 with ⟨h1, h2⟩ | ⟨g, cap, cur, h1, _⟩
      · injection h1 with _ e2 e3; exact ⟨e2, e3⟩
      · injection h1 with e1; cases e1
    subst hne
    obtain rfl : xs = [] := List.eq_nil_of_length_eq_zero h0.1
    obtain rfl := h0.2
    refine (AnyM.slices_Sort_string_none laySort none 0 w).mono fun e w' ⟨he, hw⟩ => ⟨he, ⟨none, 0, by rw [hsl], by rw [hsl]; exact Nat.le_refl _, fun h => absurd h (by rw [hsl]; exact Nat.lt_irrefl _)⟩, by rw [hw]; exact Below.refl _ _⟩
  · rw [enc_map] at ho
    have hl0 : (xs.map fun s => s.data.toList).length = xs.length := by simp
    obtain ⟨g, c, hv, hbg, hgl, hncap, hcm, hlen, hH⟩ := Lib.holds_of_ownsRow ho (by intro h; injection h with e1; exact hne e1)
    cases hv
    have hsort : (sortL xs).length = xs.length := sortL_length xs
    have hC := AnyM.slices_Sort_string laySort g 0 cp (xs.map fun s => s.data.toList) w hH hgl (by rw [hl0]; omega)
    rw [hl0] at hC
    refine hC.mono fun e w' ⟨he, n, os, hw⟩ => ⟨he, ⟨_, cp, by rw [hsl], by rw [hsl]; exact hncap, fun h0 => ⟨g, rfl, hbg, ?_, fun j u hj => ?_⟩⟩, ?_⟩
    · rw [hw, Go.Sort.size_grow, Go.Sort.size_putRow, Go.Sort.heap_ahead]; omega
    · have hH2 : Go.Sort.Holds encStr w' g 0 (sortL xs).toArray := by
        rw [hw]
        exact Go.Sort.holds_grow encStr _ os g 0 _ (by rw [Go.Sort.size_putRow]; exact hgl) (Go.Sort.holds_putRow encStr _ g 0 _ _ (Go.Sort.holds_ahead encStr w n g 0 _ hH) (by simp))
      have hj2 := (List.getElem?_eq_some_iff.1 hj).1
      rw [hsl] at hj2
      rw [holds_at hH2 j (by omega)]
      unfold sortB at hj
      rw [List.getElem?_map, List.getElem?_eq_getElem (by omega)] at hj
      rw [List.getD_eq_getElem?_getD, List.getElem?_eq_getElem (by omega)]
      injection hj with hj
      rw [← hj]
      rfl
    · rw [hw]
      exact below_grow (Lib.below_putRow (Below.refl _ _) hbg) (by rw [Go.Sort.size_putRow]; exact hB) os
end Go.Proofs.Ytbnbakcoomjnaaa
