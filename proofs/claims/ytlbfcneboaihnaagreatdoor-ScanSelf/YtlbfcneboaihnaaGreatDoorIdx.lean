/- bytes.Index: the library's own contract, laid at this program, in plain words. -/
import Derived.Shelf.Bytes.SlIndexWhole
import Derived.Test.YtlbfcneboaihnaaGreatDoorRst
import Derived.Test.YtlbfcneboaihnaaGreatDoorPlc
namespace Go.Proofs.YtlbfcneboaihnaaGreatDoor
open Go.Shelf
def lays185_ren : Go.Shelf.Ren := ⟨fun | 185 => 30 | 187 => 51 | 115 => 52 | 253 => 53 | 224 => 54 | 254 => 55 | 255 => 75 | 291 => 76 | n => n, fun | 37 => 22 | 3 => 3 | 4 => 4 | 0 => 0 | 5 => 5 | 46 => 98 | 9 => 9 | 146 => 135 | 51 => 67 | n => n, fun | 1 => 0 | n => n⟩
theorem lays185 : Go.Proofs.LaysM.n185 Tryz.prog lays185_ren := {
  mixed := by kernel_rfl
  f115 := Tryz.func52.trans (congrArg some (by kernel_rfl))
  f185 := Tryz.func30.trans (congrArg some (by kernel_rfl))
  f187 := Tryz.func51.trans (congrArg some (by kernel_rfl))
  f224 := Tryz.func54.trans (congrArg some (by kernel_rfl))
  f253 := Tryz.func53.trans (congrArg some (by kernel_rfl))
  f254 := Tryz.func55.trans (congrArg some (by kernel_rfl))
  f255 := Tryz.func75.trans (congrArg some (by kernel_rfl))
  f291 := Tryz.func76.trans (congrArg some (by kernel_rfl))
  t0 := Tryz.underlying0
  a0 := Tryz.isAgg0
  z0 := Tryz.sizeOf0
  v0 := Tryz.zeroValue0
  t3 := Tryz.underlying3
  a3 := Tryz.isAgg3
  z3 := Tryz.sizeOf3
  v3 := Tryz.zeroValue3
  t4 := Tryz.underlying4
  a4 := Tryz.isAgg4
  z4 := Tryz.sizeOf4
  v4 := Tryz.zeroValue4
  t5 := Tryz.underlying5
  a5 := Tryz.isAgg5
  z5 := Tryz.sizeOf5
  v5 := Tryz.zeroValue5
  t9 := Tryz.underlying9
  a9 := Tryz.isAgg9
  z9 := Tryz.sizeOf9
  v9 := Tryz.zeroValue9
  t37 := Tryz.underlying22
  a37 := Tryz.isAgg22
  z37 := Tryz.sizeOf22
  v37 := Tryz.zeroValue22
  t46 := Tryz.underlying98
  a46 := Tryz.isAgg98
  z46 := Tryz.sizeOf98
  v46 := Tryz.zeroValue98
  t51 := Tryz.underlying67
  a51 := Tryz.isAgg67
  z51 := Tryz.sizeOf67
  v51 := Tryz.zeroValue67
  t146 := Tryz.underlying135
  a146 := Tryz.isAgg135
  z146 := Tryz.sizeOf135
  v146 := Tryz.zeroValue135
  g1 := by kernel_rfl
  i0 := by kernel_rfl
  i3 := by kernel_rfl
  i4 := by kernel_rfl
  i5 := by kernel_rfl
  i9 := by kernel_rfl
  i37 := by kernel_rfl
  i46 := by kernel_rfl
  i51 := by kernel_rfl
  i146 := by kernel_rfl
  m1 := by kernel_rfl
  s1_3 := fun w h => Go.Proofs.cell_of_shapedOpen_int (zero := #[.int .i64 0]) (t := 3) h (of_decide_eq_true (by kernel_rfl)) (by kernel_rfl) rfl (by kernel_rfl) (by kernel_rfl) Tryz.underlying3 }
open Go.RowKit Go.Great
theorem nats_take_inj {X D : List Nat} (hX : Sha.Bytes X) (hD : Sha.Bytes D) (h : X.map UInt8.ofNat = D.map UInt8.ofNat) : X = D := by
  have h1 : strOf X = strOf D := by unfold strOf; rw [h]
  exact strOf_inj hX hD h1
theorem bytesOf_ints (X : List Nat) : Lib.bytesOf (X.map fun (n : Nat) => (n : Int)) = X.map UInt8.ofNat := by
  unfold Lib.bytesOf; rw [List.map_map]; rfl
theorem occ_nats {X D : List Nat} (hX : Sha.Bytes X) (hD : Sha.Bytes D) {j : Nat} (hj : j + D.length ≤ X.length) : Lib.occAt (X.map UInt8.ofNat) (D.map UInt8.ofNat) j = true ↔ (X.drop j).take D.length = D := by
  rw [Lib.occAt_iff_take _ _ _ (by simpa using hj), beq_iff_eq, List.length_map, ← List.map_drop, ← List.map_take]
  constructor
  · intro h
    exact nats_take_inj (fun x hx => hX x (List.mem_of_mem_drop (List.mem_of_mem_take hx))) hD h
  · intro h; rw [h]
/-- What bytes.Index tells of bytes, in numbers. -/
def IdxIs (X D : List Nat) (r : Int) : Prop :=
  (r = -1 ∧ ∀ j, j + D.length ≤ X.length → ¬ (X.drop j).take D.length = D) ∨ ∃ k : Nat, r = (k : Int) ∧ k + D.length ≤ X.length ∧ (X.drop k).take D.length = D ∧ ∀ j, j < k → j + D.length ≤ X.length → ¬ (X.drop j).take D.length = D
theorem index_nats {X D : List Nat} (hX : Sha.Bytes X) (hD : Sha.Bytes D) (h0 : 0 < D.length) : IdxIs X D (Lib.index (X.map UInt8.ofNat) (D.map UInt8.ofNat)) := by
  rcases Lib.index_spec (X.map UInt8.ofNat) (D.map UInt8.ofNat) with ⟨h1, h2⟩ | ⟨i, h1, h2, h3, h4⟩
  · refine .inl ⟨h1, fun j hj hs => ?_⟩
    have := (occ_nats hX hD hj).2 hs
    rw [h2 j (by simp; omega)] at this
    cases this
  · have hr : i + D.length ≤ X.length := by
      rcases Lib.occAt_room h3 with h | h
      · simpa using h
      · have := congrArg List.length h; rw [List.length_map, List.length_nil] at this; omega
    refine .inr ⟨i, h1, hr, (occ_nats hX hD hr).1 h3, fun j hj hjl hs => ?_⟩
    have := (occ_nats hX hD hjl).2 hs
    rw [h4 j hj] at this
    cases this
theorem idx_short (p q : Option Addr) (n c d : Nat) (w : World) (h : n < 32) : Calls Tryz.prog 30 #[.slice p n c, .slice q 32 d] w fun e w' => e = .returned (.int .i64 (-1)) ∧ w' = w :=
  Any.bytes_Index_longer { lays185 with } p q n c 32 d w (by omega) h (by omega)
theorem idx_long (g o n c g2 c2 : Nat) (X D : List Nat) (w : World) (hx : BytesAt w (.slice (some ⟨g, o, none⟩) n c) X) (hX : Sha.Bytes X) (hn : X.length = n) (hd : BytesAt w (.slice (some ⟨g2, 0, none⟩) 32 c2) D) (hD : Sha.Bytes D) (hl : D.length = 32) (hmax : n ≤ 1000000) (m : Int) (hm : w.cell? ⟨0, 0, none⟩ = some (.int .i64 m)) :
    Calls Tryz.prog 30 #[.slice (some ⟨g, o, none⟩) n c, .slice (some ⟨g2, 0, none⟩) 32 c2] w fun e w' => ∃ r : Int, e = .returned (.int .i64 r) ∧ (∃ q, w' = w.drewN q) ∧ IdxIs X D r := by
  have h := Any.bytes_Index_at (P := Tryz.prog) (ρ := lays185_ren) { lays185 with } ⟨g, o, none⟩ ⟨g2, 0, none⟩ n c 32 c2 (X.map fun (n : Nat) => (n : Int)) (D.map fun (n : Nat) => (n : Int)) m w (by simpa using hn) (by simpa using hl)
    (fun x h => by obtain ⟨y, hy, rfl⟩ := List.mem_map.1 h; have := hX y hy; omega) (fun x h => by obtain ⟨y, hy, rfl⟩ := List.mem_map.1 h; have := hD y hy; omega)
    (fun i hi => by
      obtain ⟨g', o', ea, hc⟩ := bytes_at hx hn i hi
      cases ea
      rw [Addr.add_mid, hc, nth_getD]
      simp [List.getD_eq_getElem?_getD, List.getElem?_eq_getElem (show i < X.length by omega)])
    (fun i hi => by
      obtain ⟨g', o', ea, hc⟩ := bytes_at hd hl i hi
      cases ea
      rw [Addr.add_mid, hc, nth_getD]
      simp [List.getD_eq_getElem?_getD, List.getElem?_eq_getElem (show i < D.length by omega)])
    (bytes_cap hx) (by omega) (by omega) hm
  refine h.mono fun e w' ⟨he, hq⟩ => ⟨_, he, hq, ?_⟩
  rw [bytesOf_ints, bytesOf_ints]
  exact index_nats hX hD (by omega)
end Go.Proofs.YtlbfcneboaihnaaGreatDoor
