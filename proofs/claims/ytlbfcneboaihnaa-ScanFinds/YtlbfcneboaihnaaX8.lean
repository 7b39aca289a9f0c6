/- The code's padKey, keyState and Mac. -/
import Derived.Test.YtlbfcneboaihnaaK1
namespace Go.Proofs.Ytlbfcneboaihnaa
open Go.RowKit Go.Great

def x8 (a b : Nat) : Nat := (bits .xor .u8 (a : Int) (b : Int)).toNat
theorem x8_eq {a b : Nat} (ha : a < 256) (hb : b < 256) : x8 a b = a ^^^ b := by unfold x8; rw [u8_xor_nat a b ha hb]; rfl
theorem bits_pos8 (op : BinOp) (a b : Int) : 0 ≤ bits op .u8 a b := by
  have h := (bits_within op .u8 a b).1
  have e : IntKind.u8.min = 0 := by decide
  rw [e] at h; exact h
@[go_sem] theorem f_xor8 (a b : Nat) : bits .xor .u8 (a : Int) (b : Int) = ((x8 a b : Nat) : Int) := by unfold x8; have := bits_pos8 .xor (a : Int) (b : Int); omega
end Go.Proofs.Ytlbfcneboaihnaa
