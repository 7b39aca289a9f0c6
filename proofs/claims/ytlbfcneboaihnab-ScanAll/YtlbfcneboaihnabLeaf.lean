/- The leaves of the digest's code and of the document's own answer: rotations, a word of four bytes, the constants. -/
import Derived.Test.YtlbfcneboaihnabRows
import Derived.Test.YtlbfcneboaihnabK1
import Derived.Test.YtlbfcneboaihnabLaws
import Derived.WalkKit
import Derived.WalkSpells
import Derived.WalkLawsBesides
import Derived.Deep.QuietTactic
import Derived.BigQuiet
import Derived.Deep.WholeRow
namespace Go.Proofs.Ytlbfcneboaihnab
open Go.RowKit Go.Great

theorem ret_int {k : IntKind} {a b : Int} (h : a = b) : Ending.returned (.int k a) = .returned (.int k b) := by rw [h]
theorem neg31 (n : Nat) (h1 : 1 ≤ n) (h2 : n ≤ 31) : bits .and .u64 (IntKind.u64.wrap (-(n : Int))) 31 = ((32 - n : Nat) : Int) := by
  have : ∀ n : Fin 32, 1 ≤ n.val → bits .and .u64 (IntKind.u64.wrap (-(n.val : Int))) 31 = ((32 - n.val : Nat) : Int) := by decide
  exact this ⟨n, by omega⟩ h1

theorem mod32 (y : Nat) : ((y : Int) % 4294967296) = ((y % 4294967296 : Nat) : Int) := by omega
theorem mul_pow (x m : Nat) : (x : Int) * 2 ^ m = ((x * 2 ^ m : Nat) : Int) := by push_cast; rfl
theorem or_rotr (x n : Nat) (hx : x < 4294967296) : bits .or .u32 ((x : Int) / 2 ^ n) ((x : Int) * 2 ^ (32 - n) % 4294967296) = (Sha.rotr x n : Nat) := by
  have e1 : ((x : Int) / 2 ^ n) = ((x / 2 ^ n : Nat) : Int) := by push_cast; rfl
  have e2 : ((x : Int) * 2 ^ (32 - n) % 4294967296) = ((x * 2 ^ (32 - n) % 4294967296 : Nat) : Int) := by rw [mul_pow, mod32]
  rw [e1, e2, u32_or_nat _ _ (Sha.lt_div hx) (Nat.mod_lt _ (by omega))]; rfl
theorem or_rotr' (x n m : Nat) (hx : x < 4294967296) (h2 : n ≤ 31) (hm : 32 - n = m) : bits .or .u32 ((x : Int) * 2 ^ m % 4294967296) ((x : Int) / 2 ^ (32 - m)) = (Sha.rotr x n : Nat) := by
  have e3 : 32 - m = n := by omega
  rw [e3]; subst hm
  have e1 : ((x : Int) / 2 ^ n) = ((x / 2 ^ n : Nat) : Int) := by push_cast; rfl
  have e2 : ((x : Int) * 2 ^ (32 - n) % 4294967296) = ((x * 2 ^ (32 - n) % 4294967296 : Nat) : Int) := by rw [mul_pow, mod32]
  rw [e1, e2, u32_or_nat _ _ (Nat.mod_lt _ (by omega)) (Sha.lt_div hx), Nat.or_comm]; rfl

/-! Sums and digits of words, brought to natural numbers as the walk goes. -/
def x32 (a b : Nat) : Nat := (bits .xor .u32 (a : Int) (b : Int)).toNat
def a32 (a b : Nat) : Nat := (bits .and .u32 (a : Int) (b : Int)).toNat
def n32 (a : Nat) : Nat := 4294967295 - a
theorem x32_eq {a b : Nat} (ha : a < 4294967296) (hb : b < 4294967296) : x32 a b = a ^^^ b := by unfold x32; rw [u32_xor_nat a b ha hb]; rfl
theorem a32_eq {a b : Nat} (ha : a < 4294967296) (hb : b < 4294967296) : a32 a b = a &&& b := by unfold a32; rw [u32_and_nat a b ha hb]; rfl
theorem bits_pos (op : BinOp) (a b : Int) : 0 ≤ bits op .u32 a b := by
  have h := (bits_within op .u32 a b).1
  have e : IntKind.u32.min = 0 := by decide
  rw [e] at h; exact h
@[go_sem] theorem f_xor (a b : Nat) : bits .xor .u32 (a : Int) (b : Int) = ((x32 a b : Nat) : Int) := by unfold x32; have := bits_pos .xor (a : Int) (b : Int); omega
@[go_sem] theorem f_and (a b : Nat) : bits .and .u32 (a : Int) (b : Int) = ((a32 a b : Nat) : Int) := by unfold a32; have := bits_pos .and (a : Int) (b : Int); omega
@[go_sem] theorem sig0_x (x : Nat) (hx : x < 4294967296) : x32 (x32 (Sha.rotr x 7) (Sha.rotr x 18)) (Sha.shr x 3) = Sha.sig0 x := by
  rw [x32_eq (Sha.rotr_lt hx) (Sha.rotr_lt hx), x32_eq (Sha.lt_xor (Sha.rotr_lt hx) (Sha.rotr_lt hx)) (Sha.shr_lt hx)]; rfl
@[go_sem] theorem sig1_x (x : Nat) (hx : x < 4294967296) : x32 (x32 (Sha.rotr x 17) (Sha.rotr x 19)) (Sha.shr x 10) = Sha.sig1 x := by
  rw [x32_eq (Sha.rotr_lt hx) (Sha.rotr_lt hx), x32_eq (Sha.lt_xor (Sha.rotr_lt hx) (Sha.rotr_lt hx)) (Sha.shr_lt hx)]; rfl
@[go_sem] theorem sum0_x (x : Nat) (hx : x < 4294967296) : x32 (x32 (Sha.rotr x 2) (Sha.rotr x 13)) (Sha.rotr x 22) = Sha.sum0 x := by
  rw [x32_eq (Sha.rotr_lt hx) (Sha.rotr_lt hx), x32_eq (Sha.lt_xor (Sha.rotr_lt hx) (Sha.rotr_lt hx)) (Sha.rotr_lt hx)]; rfl
@[go_sem] theorem sum1_x (x : Nat) (hx : x < 4294967296) : x32 (x32 (Sha.rotr x 6) (Sha.rotr x 11)) (Sha.rotr x 25) = Sha.sum1 x := by
  rw [x32_eq (Sha.rotr_lt hx) (Sha.rotr_lt hx), x32_eq (Sha.lt_xor (Sha.rotr_lt hx) (Sha.rotr_lt hx)) (Sha.rotr_lt hx)]; rfl
@[go_sem] theorem ch_x (e f g : Nat) (he : e < 4294967296) (hf : f < 4294967296) (hg : g < 4294967296) : x32 (a32 e f) (a32 (n32 e) g) = Sha.ch e f g := by
  rw [a32_eq he hf, a32_eq (show n32 e < 4294967296 by unfold n32; omega) hg, x32_eq (Sha.lt_and he) (Sha.lt_and (by unfold n32; omega))]; rfl
@[go_sem] theorem maj_x (a b c : Nat) (ha : a < 4294967296) (hb : b < 4294967296) (hc : c < 4294967296) : x32 (x32 (a32 a b) (a32 a c)) (a32 b c) = Sha.maj a b c := by
  rw [a32_eq ha hb, a32_eq ha hc, a32_eq hb hc, x32_eq (Sha.lt_and ha) (Sha.lt_and ha), x32_eq (Sha.lt_xor (Sha.lt_and ha) (Sha.lt_and ha)) (Sha.lt_and hb)]; rfl
theorem xor_ones (e : Nat) (he : e < 4294967296) : 4294967295 ^^^ e = 4294967295 - e := by
  have h := congrArg BitVec.toNat (BitVec.xor_allOnes (x := BitVec.ofNat 32 e))
  rw [BitVec.toNat_xor, BitVec.toNat_not, BitVec.toNat_ofNat, BitVec.toNat_allOnes, Nat.mod_eq_of_lt he] at h
  rw [Nat.xor_comm]
  exact h
@[go_sem] theorem f_not (e : Nat) (he : e < 4294967296) : bits .xor .u32 (if IntKind.u32.signed = true then -1 else IntKind.u32.max) (e : Int) = ((n32 e : Nat) : Int) := by
  have h : (if IntKind.u32.signed = true then (-1 : Int) else IntKind.u32.max) = ((4294967295 : Nat) : Int) := by decide
  rw [h, u32_xor_nat _ _ (by omega) he, xor_ones e he]; rfl
@[go_sem] theorem f_add (a b : Nat) : ((a : Int) + (b : Int)) % 4294967296 = ((Sha.add a b : Nat) : Int) := by unfold Sha.add; omega
theorem f_8 (a : Nat) : (a : Int) / 8 = ((Sha.shr a 3 : Nat) : Int) := by unfold Sha.shr; omega
theorem f_1024 (a : Nat) : (a : Int) / 1024 = ((Sha.shr a 10 : Nat) : Int) := by unfold Sha.shr; omega

theorem or_word (x0 x1 x2 x3 : Nat) (l0 : x0 < 256) (l1 : x1 < 256) (l2 : x2 < 256) (l3 : x3 < 256) :
    bits .or .u32 (bits .or .u32 (bits .or .u32 ((x0 : Int) * 16777216) ((x1 : Int) * 65536)) ((x2 : Int) * 256)) (x3 : Int) = (Sha.word x0 x1 x2 x3 : Nat) := by
  have e0 : ((x0 : Int) * 16777216) = ((x0 * 2 ^ 24 % 4294967296 : Nat) : Int) := by omega
  have e1 : ((x1 : Int) * 65536) = ((x1 * 2 ^ 16 % 4294967296 : Nat) : Int) := by omega
  have e2 : ((x2 : Int) * 256) = ((x2 * 2 ^ 8 % 4294967296 : Nat) : Int) := by omega
  have m (a : Nat) : a % 4294967296 < 4294967296 := Nat.mod_lt _ (by omega)
  rw [e0, e1, e2, u32_or_nat _ _ (m _) (m _), u32_or_nat _ _ (Sha.lt_or (m _) (m _)) (m _), u32_or_nat _ _ (Sha.lt_or (Sha.lt_or (m _) (m _)) (m _)) (by omega)]
  rfl

theorem K_ints : (((Sha.K.map Int.ofNat).map (Value.int .u32)).toArray : Array Value) = E32 Sha.K := by
  rw [List.map_map]; rfl
end Go.Proofs.Ytlbfcneboaihnab
