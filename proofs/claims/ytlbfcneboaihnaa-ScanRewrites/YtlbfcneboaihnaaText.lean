/- The code's Text: bytes as digits. -/
import Derived.Test.YtlbfcneboaihnaaLen
namespace Go.Proofs.Ytlbfcneboaihnaa
open Go.RowKit Go.Great

theorem len_n (n : Nat) (h : n ≤ 16777216) (w : World) : Calls Try.prog 99 #[.int .i64 (n : Int)] w fun e w' => e = .returned (.int .i64 ((Sha.lenOf n : Nat) : Int)) ∧ w' = w := by
  rw [← lenI_nat n h]; exact len_any n w
def digS : ByteArray := ⟨#[48, 49, 50, 51, 52, 53, 54, 55, 56, 57, 97, 98, 99, 100, 102, 103, 104, 105, 106, 107, 108, 109, 110, 112, 113, 114, 115, 118, 119, 120, 121, 122]⟩
theorem dig_byte (k : Nat) (hk : k < 32) : digS[k]?.map UInt8.toNat = some (Sha.dg k) := by
  have : ∀ k : Fin 32, digS[k.val]?.map UInt8.toNat = some (Sha.dg k.val) := by decide
  exact this ⟨k, hk⟩
def digIx (v : Value) : Sem Value := Instr.index 9 (.string digS) v
@[go_sem] theorem index_digIx (v : Value) : Instr.index 9 (.string ⟨#[48, 49, 50, 51, 52, 53, 54, 55, 56, 57, 97, 98, 99, 100, 102, 103, 104, 105, 106, 107, 108, 109, 110, 112, 113, 114, 115, 118, 119, 120, 121, 122]⟩) v = digIx v := rfl
@[go_sem] theorem run_digIx (w : World) (K : IntKind) (k : Nat) (hk : k < 32) : (digIx (.int K (k : Int))).run Try.prog w = .ok (.int .u8 ((Sha.dg k : Nat) : Int)) w := by
  have h := dig_byte k hk
  unfold digIx
  cases e : digS[k]? with
  | none => simp [e] at h
  | some b =>
    simp [e] at h
    simp only [Instr.index, asIntOf, Sem.run_bind, Sem.run_pure, Result.andThen_ok, run_underlying Try.underlying9, Int.natCast_nonneg, if_true, Int.toNat_natCast, e, h]
theorem or_step (N d h k c : Nat) (h1 : h < 5) (hk : 5 * d + h = 8 * k) (hc : Sha.W N (8 * k) 8 = c) :
    bits .or .u32 ((Sha.W N (5 * d) h : Nat) : Int) ((c : Int) * 2 ^ h % 4294967296) = ((Sha.W N (5 * d) (h + 8) : Nat) : Int) := by
  have h2 : 2 ^ h ≤ 2 ^ 4 := Nat.pow_le_pow_right (by omega) (by omega)
  have h3 := Sha.W_lt N (5 * d) h
  have h4 : c < 256 := by rw [← hc]; exact Sha.W_lt N (8 * k) 8
  have h5 : c * 2 ^ h ≤ 255 * 2 ^ 4 := Nat.mul_le_mul (by omega) h2
  have e : ((c : Int) * 2 ^ h % 4294967296) = ((c * 2 ^ h : Nat) : Int) := by
    have e1 : ((c : Int) * 2 ^ h) = ((c * 2 ^ h : Nat) : Int) := by push_cast; rfl
    rw [e1]; generalize c * 2 ^ h = y at *; omega
  rw [e, u32_or_nat _ _ (by omega) (by omega), ← hc, ← hk, Sha.W_or]
theorem and_step (N d h : Nat) (h5 : 5 ≤ h) (hh : h ≤ 12) : bits .and .u32 ((Sha.W N (5 * d) h : Nat) : Int) 31 = ((Sha.W N (5 * d) 5 : Nat) : Int) := by
  have h2 : 2 ^ h ≤ 2 ^ 12 := Nat.pow_le_pow_right (by omega) (by omega)
  have h3 := Sha.W_lt N (5 * d) h
  have e : (31 : Int) = ((31 : Nat) : Int) := rfl
  rw [e, u32_and_nat _ _ (by omega) (by omega), show (31 : Nat) = 2 ^ 5 - 1 from rfl, Nat.and_two_pow_sub_one_eq_mod, Sha.W_low _ _ _ _ h5]
theorem shr_step (N d h : Nat) : ((Sha.W N (5 * d) (h + 5) : Nat) : Int) / 32 = ((Sha.W N (5 * (d + 1)) h : Nat) : Int) := by
  have e := Sha.W_high N (5 * d) (h + 5) 5 (by omega)
  rw [show 5 * (d + 1) = 5 * d + 5 by omega, show h = h + 5 - 5 by omega, ← e, show h + 5 - 5 + 5 = h + 5 by omega]
  generalize Sha.W N (5 * d) (h + 5) = y
  omega
theorem W_last (N d h k : Nat) (hk : 5 * d + h = 8 * k) (hh : h ≤ 5) (hN : N < 2 ^ (8 * k)) : Sha.W N (5 * d) h = Sha.W N (5 * d) 5 := by
  rw [Sha.W_small N (5 * d) h 5 (by rw [hk]; exact hN) hh]
end Go.Proofs.Ytlbfcneboaihnaa
