/- The plain mathematics of bytes and digits: a row of bytes as a number, its digits to the base thirty-two, and back. No Go text is named here. -/
import Derived.Test.YtlbfcneboaihnaaK1
namespace Go.Proofs.Ytlbfcneboaihnaa
namespace Sha
/-- A row of bytes as a number, the first counts least. -/
def num : List Nat → Nat
  | [] => 0
  | x :: l => x + 256 * num l
theorem num_cons (x : Nat) (l : List Nat) : num (x :: l) = x + 256 * num l := rfl
/-- So many digits (of two) of a number from a place on. -/
def W (N p h : Nat) : Nat := N / 2 ^ p % 2 ^ h
theorem W_lt (N p h : Nat) : W N p h < 2 ^ h := Nat.mod_lt _ (Nat.pow_pos (by omega))
theorem W_zero (N p : Nat) : W N p 0 = 0 := by unfold W; rw [Nat.pow_zero]; omega
theorem W_more (N p h q : Nat) : W N p (h + q) = 2 ^ h * W N (p + h) q + W N p h := by
  unfold W
  rw [Nat.pow_add, Nat.mod_mul, Nat.div_div_eq_div_mul, ← Nat.pow_add, Nat.add_comm]
theorem W_or (N p h q : Nat) : W N p h ||| W N (p + h) q * 2 ^ h = W N p (h + q) := by
  rw [W_more, Nat.two_pow_add_eq_or_of_lt (W_lt N p h), Nat.or_comm, Nat.mul_comm]
theorem W_low (N p h q : Nat) (hq : q ≤ h) : W N p h % 2 ^ q = W N p q := by
  unfold W
  rw [Nat.mod_mod_of_dvd _ (Nat.pow_dvd_pow 2 hq)]
theorem W_high (N p h q : Nat) (hq : q ≤ h) : W N p h / 2 ^ q = W N (p + q) (h - q) := by
  unfold W
  obtain ⟨r, rfl⟩ := Nat.exists_eq_add_of_le hq
  rw [Nat.pow_add, Nat.mod_mul_right_div_self, Nat.div_div_eq_div_mul, ← Nat.pow_add, Nat.add_sub_cancel_left]
theorem W_small (N p h q : Nat) (hN : N < 2 ^ (p + h)) (hq : h ≤ q) : W N p q = W N p h := by
  unfold W
  have h1 : N / 2 ^ p < 2 ^ h := by rw [Nat.div_lt_iff_lt_mul (Nat.pow_pos (by omega)), ← Nat.pow_add, Nat.add_comm]; exact hN
  rw [Nat.mod_eq_of_lt h1, Nat.mod_eq_of_lt (Nat.lt_of_lt_of_le h1 (Nat.pow_le_pow_right (by omega) hq))]
theorem num_lt {b : List Nat} (h : Bytes b) : num b < 2 ^ (8 * b.length) := by
  induction b with
  | nil => simp [num]
  | cons x l ih =>
    have hx := h x (by simp)
    have hl := ih (fun y hy => h y (by simp [hy]))
    rw [List.length_cons, Nat.mul_add, Nat.pow_add]
    unfold num; omega
theorem num_byte {b : List Nat} (h : Bytes b) (k : Nat) : W (num b) (8 * k) 8 = nth b k := by
  induction b generalizing k with
  | nil => simp [num, W, nth]
  | cons x l ih =>
    have hx := h x (by simp)
    have hl := ih (fun y hy => h y (by simp [hy]))
    cases k with
    | zero => simp only [W, num, nth, Nat.mul_zero, Nat.pow_zero, Nat.div_one]; simp; omega
    | succ k =>
      have e : nth (x :: l) (k + 1) = nth l k := by simp [nth]
      rw [e, ← hl k]
      unfold W
      rw [num_cons, Nat.mul_add, Nat.add_comm (8 * k), Nat.pow_add, ← Nat.div_div_eq_div_mul]
      congr 2
      omega
theorem num_append (a b : List Nat) : num (a ++ b) = num a + 2 ^ (8 * a.length) * num b := by
  induction a with
  | nil => simp [num]
  | cons x l ih =>
    rw [List.cons_append, List.length_cons, Nat.mul_add, Nat.pow_add]
    rw [num_cons, num_cons, ih, Nat.mul_add, ← Nat.add_assoc, Nat.mul_one]
    congr 1
    rw [← Nat.mul_assoc, Nat.mul_comm 256, show (2 : Nat) ^ 8 = 256 from rfl]
/-- Two numbers with the same digits below a place, and none above, are one. -/
theorem W_inj {N M q : Nat} (L : Nat) (h : ∀ i, i < L → W N (q * i) q = W M (q * i) q) : W N 0 (q * L) = W M 0 (q * L) := by
  induction L with
  | zero => rw [Nat.mul_zero, W_zero, W_zero]
  | succ L ih =>
    rw [Nat.mul_succ, W_more, W_more, ih (fun i hi => h i (by omega)), Nat.zero_add, h L (by omega)]
theorem W_all {N h : Nat} (hN : N < 2 ^ h) : W N 0 h = N := by unfold W; rw [Nat.pow_zero, Nat.div_one, Nat.mod_eq_of_lt hN]
/-- How many digits so many bytes have. -/
def lenOf (n : Nat) : Nat := (8 * n + 4) / 5
/-- The digits. -/
def digits : List Nat := [48, 49, 50, 51, 52, 53, 54, 55, 56, 57, 97, 98, 99, 100, 102, 103, 104, 105, 106, 107, 108, 109, 110, 112, 113, 114, 115, 118, 119, 120, 121, 122]
def dg (d : Nat) : Nat := nth digits d
theorem dg_lt (d : Nat) : dg d < 256 := (show Bytes digits by unfold Bytes digits; decide).at d
/-- The last d of L digits, noughts ahead of them. -/
def part (L N d : Nat) : List Nat := (List.range L).map fun j => if L - d ≤ j then dg (W N (5 * (L - 1 - j)) 5) else 0
theorem part_length (L N d : Nat) : (part L N d).length = L := by simp [part]
theorem part_nth (L N d j : Nat) (hj : j < L) : nth (part L N d) j = if L - d ≤ j then dg (W N (5 * (L - 1 - j)) 5) else 0 := by
  unfold nth part
  rw [List.getElem?_map, List.getElem?_range hj]
  rfl
theorem part_zero (L N : Nat) : part L N 0 = List.replicate L 0 := by
  apply nth_ext (by simp [part_length])
  intro i hi
  rw [part_length] at hi
  rw [part_nth _ _ _ _ hi, nth_replicate, if_neg (by omega)]
theorem part_set (L N d x : Nat) (hd : d < L) (hx : x = W N (5 * d) 5) : (part L N d).set (L - 1 - d) (dg x) = part L N (d + 1) := by
  subst hx
  apply nth_ext (by simp [part_length])
  intro i hi
  simp only [List.length_set, part_length] at hi
  by_cases h : L - 1 - d = i
  · rw [← h, nth_set_same (by rw [part_length]; omega), part_nth _ _ _ _ (by omega), if_pos (by omega)]
    congr 3; omega
  · rw [nth_set_other h, part_nth _ _ _ _ hi, part_nth _ _ _ _ hi]
    by_cases h2 : L - d ≤ i
    · rw [if_pos h2, if_pos (by omega)]
    · rw [if_neg h2, if_neg (by omega)]
/-- The text of a number, in so many digits. -/
def text (L N : Nat) : List Nat := part L N L
theorem text_length (L N : Nat) : (text L N).length = L := part_length _ _ _
theorem text_nth (L N j : Nat) (hj : j < L) : nth (text L N) j = dg (W N (5 * (L - 1 - j)) 5) := by
  unfold text; rw [part_nth _ _ _ _ hj, if_pos (by omega)]
theorem text_bytes (L N : Nat) : Bytes (text L N) := by
  intro x hx
  unfold text part at hx
  obtain ⟨j, -, rfl⟩ := List.mem_map.1 hx
  split
  · exact dg_lt _
  · omega
theorem dg_inj {a b : Nat} (ha : a < 32) (hb : b < 32) (h : dg a = dg b) : a = b := by
  have : ∀ a b : Fin 32, dg a.val = dg b.val → a.val = b.val := by decide
  exact this ⟨a, ha⟩ ⟨b, hb⟩ h
theorem text_inj {L N M : Nat} (hN : N < 2 ^ (5 * L)) (hM : M < 2 ^ (5 * L)) (h : text L N = text L M) : N = M := by
  rw [← W_all hN, ← W_all hM]
  apply W_inj
  intro i hi
  have h1 : nth (text L N) (L - 1 - i) = nth (text L M) (L - 1 - i) := by rw [h]
  rw [text_nth _ _ _ (by omega), text_nth _ _ _ (by omega), show L - 1 - (L - 1 - i) = i by omega] at h1
  exact dg_inj (W_lt _ _ 5) (W_lt _ _ 5) h1
theorem num_inj {a b : List Nat} (ha : Bytes a) (hb : Bytes b) (hl : a.length = b.length) (h : num a = num b) : a = b := by
  apply nth_ext hl
  intro i _
  rw [← num_byte ha, ← num_byte hb, h]
theorem lenOf_le (n : Nat) : 8 * n ≤ 5 * lenOf n := by unfold lenOf; omega
theorem num_lt_len {b : List Nat} (h : Bytes b) : num b < 2 ^ (5 * lenOf b.length) :=
  Nat.lt_of_lt_of_le (num_lt h) (Nat.pow_le_pow_right (by omega) (lenOf_le _))
/-- The text of a row of bytes. -/
def textOf (b : List Nat) : List Nat := text (lenOf b.length) (num b)
theorem textOf_length (b : List Nat) : (textOf b).length = lenOf b.length := text_length _ _
theorem textOf_inj {a b : List Nat} (ha : Bytes a) (hb : Bytes b) (hl : a.length = b.length) (h : textOf a = textOf b) : a = b := by
  unfold textOf at h
  rw [← hl] at h
  exact num_inj ha hb hl (text_inj (num_lt_len ha) (by rw [hl]; exact num_lt_len hb) h)
end Sha
end Go.Proofs.Ytlbfcneboaihnaa
