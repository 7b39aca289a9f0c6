/- Pages: Drop, where as many pages last as there are; how many are dirty. -/
import Derived.Test.YtebcmicmklpflaaGreatDoorPm
namespace Go.Proofs.YtebcmicmklpflaaGreatDoor
open Go.RowKit Go.Shelf Go.Great Go.Maps
attribute [local go_sem] Oper.semAt_some
set_option linter.unusedSimpArgs false
def pc1 (x : Nat) : Nat := (x / 2 &&& 6148914691236517205) + (x &&& 6148914691236517205)
def pc2 (x : Nat) : Nat := (x / 4 &&& 3689348814741910323) + (x &&& 3689348814741910323)
def pc3 (x : Nat) : Nat := (x / 16 + x) &&& 1085102592571150095
/-- How many digits the library counts in a word. -/
def pcnt (x : Nat) : Nat :=
  let a := pc3 (pc2 (pc1 x))
  let b := a + a / 256
  let c := b + b / 65536
  (c + c / 4294967296) &&& 127
theorem pc1_le (x : Nat) : pc1 x ≤ 2 * 6148914691236517205 := by
  unfold pc1
  have h1 : x / 2 &&& 6148914691236517205 ≤ 6148914691236517205 := Nat.and_le_right
  have h2 : x &&& 6148914691236517205 ≤ 6148914691236517205 := Nat.and_le_right
  omega
theorem pc2_le (x : Nat) : pc2 x ≤ 2 * 3689348814741910323 := by
  unfold pc2
  have h1 : x / 4 &&& 3689348814741910323 ≤ 3689348814741910323 := Nat.and_le_right
  have h2 : x &&& 3689348814741910323 ≤ 3689348814741910323 := Nat.and_le_right
  omega
theorem pc3_le (x : Nat) : pc3 x ≤ 1085102592571150095 := Nat.and_le_right
theorem wrapN (x : Nat) (h : x < 18446744073709551616) : IntKind.u64.wrap (x : Int) = (x : Int) := by rw [IntKind.wrap_u64]; omega
theorem and127 (x : Nat) (h : x < 9223372036854775808) : bits BinOp.and IntKind.i64 (x : Int) 127 = ((x &&& 127 : Nat) : Int) := by
  have hx : x &&& 127 ≤ 127 := Nat.and_le_right
  have h1 : (BitVec.ofInt 64 (x : Int)).toNat = x := by
    rw [BitVec.ofInt_natCast, BitVec.toNat_ofNat]; exact Nat.mod_eq_of_lt (by omega)
  show IntKind.i64.wrap ((BitVec.ofInt 64 (x : Int) &&& BitVec.ofInt 64 127).toNat : Int) = _
  rw [BitVec.toNat_and, h1, show (BitVec.ofInt 64 127).toNat = 127 by decide, IntKind.wrap_i64]
  omega
set_option maxRecDepth 20000 in
set_option maxHeartbeats 1000000 in
theorem ones_ok (x : Nat) (hx : x < 18446744073709551616) (w : World) : Calls Tryz.prog 129 #[.int .u64 (x : Int)] w fun e w' => e = .returned (.int .i64 ((pcnt x : Nat) : Int)) ∧ w' = w := by
  obtain ⟨y1, e1⟩ : ∃ y, y = pc1 x := ⟨_, rfl⟩
  obtain ⟨y2, e2⟩ : ∃ y, y = pc2 y1 := ⟨_, rfl⟩
  obtain ⟨y3, e3⟩ : ∃ y, y = pc3 y2 := ⟨_, rfl⟩
  obtain ⟨y4, e4⟩ : ∃ y, y = y3 + y3 / 256 := ⟨_, rfl⟩
  obtain ⟨y5, e5⟩ : ∃ y, y = y4 + y4 / 65536 := ⟨_, rfl⟩
  obtain ⟨y6, e6⟩ : ∃ y, y = y5 + y5 / 4294967296 := ⟨_, rfl⟩
  have b1 : y1 ≤ 2 * 6148914691236517205 := e1 ▸ pc1_le x
  have b2 : y2 ≤ 2 * 3689348814741910323 := e2 ▸ pc2_le y1
  have b3 : y3 ≤ 1085102592571150095 := e3 ▸ pc3_le y2
  have hp : pcnt x = y6 &&& 127 := by unfold pcnt; rw [e6, e5, e4, e3, e2, e1]
  have h1 : IntKind.u64.wrap (bits BinOp.and IntKind.u64 ((x : Int) / 2) 6148914691236517205 + bits BinOp.and IntKind.u64 (x : Int) 6148914691236517205) = (y1 : Int) := by
    rw [show (x : Int) / 2 = ((x / 2 : Nat) : Int) by omega, show (6148914691236517205 : Int) = ((6148914691236517205 : Nat) : Int) from rfl, bits_and_u64_nat _ _ (by omega) (by omega), bits_and_u64_nat _ _ hx (by omega), ← Int.natCast_add, e1]
    exact wrapN _ (by have := pc1_le x; unfold pc1 at this; omega)
  have h2 : IntKind.u64.wrap (bits BinOp.and IntKind.u64 ((y1 : Int) / 4) 3689348814741910323 + bits BinOp.and IntKind.u64 (y1 : Int) 3689348814741910323) = (y2 : Int) := by
    rw [show (y1 : Int) / 4 = ((y1 / 4 : Nat) : Int) by omega, show (3689348814741910323 : Int) = ((3689348814741910323 : Nat) : Int) from rfl, bits_and_u64_nat _ _ (by omega) (by omega), bits_and_u64_nat _ _ (by omega) (by omega), ← Int.natCast_add, e2]
    exact wrapN _ (by have := pc2_le y1; unfold pc2 at this; omega)
  have h3a : IntKind.u64.wrap ((y2 : Int) / 16 + (y2 : Int)) = ((y2 / 16 + y2 : Nat) : Int) := by rw [IntKind.wrap_u64]; omega
  have h3 : bits BinOp.and IntKind.u64 ((y2 / 16 + y2 : Nat) : Int) 1085102592571150095 = (y3 : Int) := by
    rw [show (1085102592571150095 : Int) = ((1085102592571150095 : Nat) : Int) from rfl, bits_and_u64_nat _ _ (by omega) (by omega), e3]
    rfl
  have h4 : IntKind.u64.wrap ((y3 : Int) + (y3 : Int) / 256) = (y4 : Int) := by rw [IntKind.wrap_u64]; omega
  have h5 : IntKind.u64.wrap ((y4 : Int) + (y4 : Int) / 65536) = (y5 : Int) := by rw [IntKind.wrap_u64]; omega
  have h6 : IntKind.u64.wrap ((y5 : Int) + (y5 : Int) / 4294967296) = (y6 : Int) := by rw [IntKind.wrap_u64]; omega
  have h7 : IntKind.i64.wrap (y6 : Int) = (y6 : Int) := by rw [IntKind.wrap_i64]; omega
  have h8 : bits BinOp.and IntKind.i64 (y6 : Int) 127 = ((pcnt x : Nat) : Int) := by rw [hp]; exact and127 _ (by omega)
  obtain ⟨y3a, e3a⟩ : ∃ y : Nat, y = y2 / 16 + y2 := ⟨_, rfl⟩
  rw [← e3a] at h3a h3
  clear e1 e2 e3 e4 e5 e6 b1 b2 b3 hp e3a
  generalize pcnt x = r at *
  go_enter Tryz.func129, Tryz.ntmps129
  go_wp2_with fail
  go_ret
  exact ⟨rfl, rfl⟩
/-- So many are counted in the first words. -/
def cntTo (s : Nat → Bool) : Nat → Nat
  | 0 => 0
  | k + 1 => cntTo s k + pcnt (word s k)
theorem pcnt_le (x : Nat) : pcnt x ≤ 127 := Nat.and_le_right
theorem cntTo_le (s : Nat → Bool) : ∀ k, cntTo s k ≤ 127 * k
  | 0 => Nat.le_refl _
  | k + 1 => by
    have := cntTo_le s k
    have := pcnt_le (word s k)
    simp only [cntTo]
    omega
set_option maxRecDepth 20000 in
set_option maxHeartbeats 1000000 in
theorem mcount_ok (s : Nat → Bool) (g o : Nat) (w : World) (hW : WordsAt g o s w) : Calls Tryz.prog 95 #[.pointer (some ⟨g, o, none⟩)] w fun e w' => e = .returned (.int .i64 ((cntTo s 256 : Nat) : Int)) ∧ w' = w := by
  have HL : Hid (∀ k, k < 256 → Calls Tryz.prog 125 #[.pointer (some ⟨g, o + k, none⟩)] w fun e w' => e = .returned (.int .u64 ((word s k : Nat) : Int)) ∧ w' = w) := fun k hk => uload _ _ w (hW k hk)
  have HO : Hid (∀ k, Calls Tryz.prog 129 #[.int .u64 ((word s k : Nat) : Int)] w fun e w' => e = .returned (.int .i64 ((pcnt (word s k) : Nat) : Int)) ∧ w' = w) := fun k => ones_ok _ (word_lt s k) w
  have HB : Hid (∀ k, cntTo s k ≤ 127 * k) := cntTo_le s
  clear hW
  go_enter Tryz.func95, Tryz.ntmps95
  go_wp2_with fail
  go_loop [3, 5] (fun vs vi => ∃ k : Nat, k ≤ 256 ∧ vs = .int .i64 ((cntTo s k : Nat) : Int) ∧ vi = .int .i64 (k : Int)) (fun _ vi => 256 - (intOf vi).toNat)
  case atStart => exact ⟨0, Nat.zero_le _, rfl, rfl⟩
  case round =>
    obtain ⟨k, hk, rfl, rfl⟩ := hrel
    by_cases hlt : k < 256
    · have hki : (k : Int) < 256 := by omega
      have hc := unhide HB k
      have hp := pcnt_le (word s k)
      have hsum : IntKind.i64.wrap (((cntTo s k : Nat) : Int) + ((pcnt (word s k) : Nat) : Int)) = ((cntTo s (k + 1) : Nat) : Int) := by
        rw [IntKind.wrap_i64]
        simp only [cntTo]
        omega
      have HL1 := hide (unhide HL k hlt)
      have HO1 := hide (unhide HO k)
      clear hc hp
      obtain ⟨B, hB⟩ : ∃ B, B = cntTo s (k + 1) := ⟨_, rfl⟩
      rw [← hB] at hsum
      have HBe := hide hB
      clear hB
      generalize cntTo s k = A at *
      generalize pcnt (word s k) = C at *
      generalize word s k = X at *
      go_wp2_with fail
      refine (unhide HL1).mono ?_
      rintro e w' ⟨rfl, hw⟩
      have hw2 := hw.symm
      subst hw2
      clear hw
      go_wp2_with fail
      refine (unhide HO1).mono ?_
      rintro e w' ⟨rfl, hw⟩
      have hw2 := hw.symm
      subst hw2
      clear hw
      go_wp2_with fail
      refine ⟨⟨k + 1, by omega, by rw [unhide HBe], by simp⟩, ?_⟩
      simp [intOf]; omega
    · have hki : ¬ (k : Int) < 256 := by omega
      obtain rfl : k = 256 := by omega
      go_wp2_with fail
      go_ret
      exact ⟨rfl, rfl⟩
set_option maxRecDepth 20000 in
theorem pdirty_ok {w : World} {p : Nat} {F : Fl} {S : Pgr} {O : Nat → Prop} {lv nv : Value} (h : PgM w p F S O lv nv) : Calls Tryz.prog 46 #[.pointer (some ⟨p, 0, none⟩)] w fun e w' => e = .returned (.int .i64 ((cntTo S.dirty 256 : Nat) : Int)) ∧ w' = w := by
  have HC := hide (mcount_ok S.dirty p 520 w h.pb.words_dirty)
  clear h
  go_enter Tryz.func46, Tryz.ntmps46
  go_wp2_with fail
  refine (unhide HC).mono ?_
  rintro e w' ⟨rfl, hw⟩
  have hw2 := hw.symm
  subst hw2
  go_wp2_with fail
  go_ret
  exact ⟨rfl, rfl⟩
end Go.Proofs.YtebcmicmklpflaaGreatDoor
