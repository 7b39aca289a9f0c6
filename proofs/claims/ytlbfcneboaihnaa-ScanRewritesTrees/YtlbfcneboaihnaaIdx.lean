/- bytes.Index: the library's own contract, laid at this program, in plain words. -/
import Derived.Shelf.Bytes.SlIndexWhole
import Derived.Test.YtlbfcneboaihnaaRst
import Derived.Test.YtlbfcneboaihnaaPlc
namespace Go.Proofs.Ytlbfcneboaihnaa
open Go.Shelf
def lays185_ren : Go.Shelf.Ren := ⟨fun | 185 => 66 | 187 => 84 | 115 => 85 | 253 => 86 | 224 => 87 | 254 => 88 | 255 => 108 | 291 => 109 | n => n, fun | 37 => 22 | 3 => 3 | 4 => 4 | 0 => 0 | 5 => 5 | 46 => 107 | 9 => 9 | 146 => 143 | 51 => 125 | n => n, fun | 1 => 0 | n => n⟩
theorem lays185 : Go.Proofs.LaysM.n185 Try.prog lays185_ren := {
  mixed := by kernel_rfl
  f115 := Try.func85.trans (congrArg some (by kernel_rfl))
  f185 := Try.func66.trans (congrArg some (by kernel_rfl))
  f187 := Try.func84.trans (congrArg some (by kernel_rfl))
  f224 := Try.func87.trans (congrArg some (by kernel_rfl))
  f253 := Try.func86.trans (congrArg some (by kernel_rfl))
  f254 := Try.func88.trans (congrArg some (by kernel_rfl))
  f255 := Try.func108.trans (congrArg some (by kernel_rfl))
  f291 := Try.func109.trans (congrArg some (by kernel_rfl))
  t0 := Try.underlying0
  a0 := Try.isAgg0
  z0 := Try.sizeOf0
  v0 := Try.zeroValue0
  t3 := Try.underlying3
  a3 := Try.isAgg3
  z3 := Try.sizeOf3
  v3 := Try.zeroValue3
  t4 := Try.underlying4
  a4 := Try.isAgg4
  z4 := Try.sizeOf4
  v4 := Try.zeroValue4
  t5 := Try.underlying5
  a5 := Try.isAgg5
  z5 := Try.sizeOf5
  v5 := Try.zeroValue5
  t9 := Try.underlying9
  a9 := Try.isAgg9
  z9 := Try.sizeOf9
  v9 := Try.zeroValue9
  t37 := Try.underlying22
  a37 := Try.isAgg22
  z37 := Try.sizeOf22
  v37 := Try.zeroValue22
  t46 := Try.underlying107
  a46 := Try.isAgg107
  z46 := Try.sizeOf107
  v46 := Try.zeroValue107
  t51 := Try.underlying125
  a51 := Try.isAgg125
  z51 := Try.sizeOf125
  v51 := Try.zeroValue125
  t146 := Try.underlying143
  a146 := Try.isAgg143
  z146 := Try.sizeOf143
  v146 := Try.zeroValue143
  g1 := by kernel_rfl
  i0 := by kernel_rfl
  i3 := by kernel_rfl
  i4 := by kernel_rfl
  i5 := by kernel_rfl
  i9 := by kernel_rfl
  i37 := by kernel_rfl
  i46 := by kernel_rfl
  i51 := by kernel_rfl
  i146 := by kernel_rfl
  m1 := by kernel_rfl
  s1_3 := fun w h => Go.Proofs.cell_of_shapedOpen_int (zero := #[.int .i64 0]) (t := 3) h (of_decide_eq_true (by kernel_rfl)) (by kernel_rfl) rfl (by kernel_rfl) (by kernel_rfl) Try.underlying3 }
open Go.RowKit Go.Great
theorem nats_take_inj {X D : List Nat} (hX : Sha.Bytes X) (hD : Sha.Bytes D) (h : X.map UInt8.ofNat = D.map UInt8.ofNat) : X = D := by
  have h1 : strOf X = strOf D := by unfold strOf; rw [h]
  exact strOf_inj hX hD h1
theorem bytesOf_ints (X : List Nat) : Lib.bytesOf (X.map fun (n : Nat) => (n : Int)) = X.map UInt8.ofNat := by
  unfold Lib.bytesOf; rw [List.map_map]; rfl
theorem occ_nats {X D : List Nat} (hX : Sha.Bytes X) (hD : Sha.Bytes D) {j : Nat} (hj : j + D.length ≤ X.length) : Lib.occAt (X.map UInt8.ofNat) (D.map UInt8.ofNat) j = true ↔ (X.drop j).take D.length = D := by
  rw [Lib.occAt_iff_take _ _ _ (by simpa using hj), beq_iff_eq, List.length_map, ← List.map_drop, ← List.map_take]
  constructor
  · intro h
    exact nats_take_inj (fun x hx => hX x (List.mem_of_mem_drop (List.mem_of_mem_take hx))) hD h
  · intro h; rw [h]
/-- What bytes.Index tells of bytes, in numbers. -/
def IdxIs (X D : List Nat) (r : Int) : Prop :=
  (r = -1 ∧ ∀ j, j + D.length ≤ X.length → ¬ (X.drop j).take D.length = D) ∨ ∃ k : Nat, r = (k : Int) ∧ k + D.length ≤ X.length ∧ (X.drop k).take D.length = D ∧ ∀ j, j < k → j + D.length ≤ X.length → ¬ (X.drop j).take D.length = D
theorem index_nats {X D : List Nat} (hX : Sha.Bytes X) (hD : Sha.Bytes D) (h0 : 0 < D.length) : IdxIs X D (Lib.index (X.map UInt8.ofNat) (D.map UInt8.ofNat)) := by
  rcases Lib.index_spec (X.map UInt8.ofNat) (D.map UInt8.ofNat) with ⟨h1, h2⟩ | ⟨i, h1, h2, h3, h4⟩
  · refine .inl ⟨h1, fun j hj hs => ?_⟩
    have := (occ_nats hX hD hj).2 hs
    rw [h2 j (by simp; omega)] at this
    cases this
  · have hr : i + D.length ≤ X.length := by
      rcases Lib.occAt_room h3 with h | h
      · simpa using h
      · have := congrArg List.length h; rw [List.length_map, List.length_nil] at this; omega
    refine .inr ⟨i, h1, hr, (occ_nats hX hD hr).1 h3, fun j hj hjl hs => ?_⟩
    have := (occ_nats hX hD hjl).2 hs
    rw [h4 j hj] at this
    cases this
theorem idx_short (p q : Option Addr) (n c d : Nat) (w : World) (h : n < 32) : Calls Try.prog 66 #[.slice p n c, .slice q 32 d] w fun e w' => e = .returned (.int .i64 (-1)) ∧ w' = w :=
  Any.bytes_Index_longer { lays185 with } p q n c 32 d w (by omega) h (by omega)
theorem idx_long (g o n c g2 c2 : Nat) (X D : List Nat) (w : World) (hx : BytesAt w (.slice (some ⟨g, o, none⟩) n c) X) (hX : Sha.Bytes X) (hn : X.length = n) (hd : BytesAt w (.slice (some ⟨g2, 0, none⟩) 32 c2) D) (hD : Sha.Bytes D) (hl : D.length = 32) (hmax : n ≤ 1000000) (m : Int) (hm : w.cell? ⟨0, 0, none⟩ = some (.int .i64 m)) :
    Calls Try.prog 66 #[.slice (some ⟨g, o, none⟩) n c, .slice (some ⟨g2, 0, none⟩) 32 c2] w fun e w' => ∃ r : Int, e = .returned (.int .i64 r) ∧ (∃ q, w' = w.drewN q) ∧ IdxIs X D r := by
  have h := Any.bytes_Index_at (P := Try.prog) (ρ := lays185_ren) { lays185 with } ⟨g, o, none⟩ ⟨g2, 0, none⟩ n c 32 c2 (X.map fun (n : Nat) => (n : Int)) (D.map fun (n : Nat) => (n : Int)) m w (by simpa using hn) (by simpa using hl)
    (fun x h => by obtain ⟨y, hy, rfl⟩ := List.mem_map.1 h; have := hX y hy; omega) (fun x h => by obtain ⟨y, hy, rfl⟩ := List.mem_map.1 h; have := hD y hy; omega)
    (fun i hi => by
      obtain ⟨g', o', ea, hc⟩ := bytes_at hx hn i hi
      cases ea
      rw [Addr.add_mid, hc, nth_getD]
      simp [List.getD_eq_getElem?_getD, List.getElem?_eq_getElem (show i < X.length by omega)])
    (fun i hi => by
      obtain ⟨g', o', ea, hc⟩ := bytes_at hd hl i hi
      cases ea
      rw [Addr.add_mid, hc, nth_getD]
      simp [List.getD_eq_getElem?_getD, List.getElem?_eq_getElem (show i < D.length by omega)])
    (bytes_cap hx) (by omega) (by omega) hm
  refine h.mono fun e w' ⟨he, hq⟩ => ⟨_, he, hq, ?_⟩
  rw [bytesOf_ints, bytesOf_ints]
  exact index_nats hX hD (by omega)
end Go.Proofs.Ytlbfcneboaihnaa
