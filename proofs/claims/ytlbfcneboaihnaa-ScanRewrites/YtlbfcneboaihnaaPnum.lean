/- The plain mathematics of the way back: a text of digits as a number, and its bytes. No Go text is named here. -/
import Derived.Test.YtlbfcneboaihnaaNum
namespace Go.Proofs.Ytlbfcneboaihnaa
namespace Sha
/-- Is a byte a digit, and what does it count? -/
def isD (c : Nat) : Bool := (48 ≤ c && c ≤ 57) || (97 ≤ c && c ≤ 100) || (102 ≤ c && c ≤ 110) || (112 ≤ c && c ≤ 115) || (118 ≤ c && c ≤ 122)
def vd (c : Nat) : Nat := if c ≤ 57 then c - 48 else if c ≤ 100 then c - 97 + 10 else if c ≤ 110 then c - 102 + 14 else if c ≤ 115 then c - 112 + 23 else c - 118 + 27
theorem isD_dg (d : Nat) (h : d < 32) : isD (dg d) = true ∧ vd (dg d) = d := by
  have : ∀ d : Fin 32, isD (dg d.val) = true ∧ vd (dg d.val) = d.val := by decide
  exact this ⟨d, h⟩
theorem isD_bound {c : Nat} (h : isD c = true) : 48 ≤ c ∧ c ≤ 122 := by
  simp [isD] at h; omega
theorem vd_lt {c : Nat} (h : isD c = true) : vd c < 32 := by
  simp [isD] at h; unfold vd
  repeat' split
  all_goals omega
theorem dg_vd {c : Nat} (h : isD c = true) : dg (vd c) = c := by
  have : ∀ c : Fin 123, isD c.val = true → dg (vd c.val) = c.val := by decide
  exact this ⟨c, by have := isD_bound h; omega⟩ h
/-- The number of the last t digits of a text. -/
def dnumTo (S : List Nat) : Nat → Nat
  | 0 => 0
  | t + 1 => dnumTo S t + 2 ^ (5 * t) * (vd (nth S (S.length - 1 - t)) % 32)
def dnum (S : List Nat) : Nat := dnumTo S S.length
theorem dnumTo_lt (S : List Nat) (t : Nat) : dnumTo S t < 2 ^ (5 * t) := by
  induction t with
  | zero => simp [dnumTo]
  | succ t ih =>
    unfold dnumTo
    rw [Nat.mul_add, Nat.pow_add]
    have h1 : vd (nth S (S.length - 1 - t)) % 32 ≤ 31 := by omega
    have h2 := Nat.mul_le_mul_left (2 ^ (5 * t)) h1
    generalize 2 ^ (5 * t) * (vd (nth S (S.length - 1 - t)) % 32) = y at *
    omega
theorem dnumTo_digit (S : List Nat) (t i : Nat) (h : i < t) : W (dnumTo S t) (5 * i) 5 = vd (nth S (S.length - 1 - i)) % 32 := by
  induction t with
  | zero => omega
  | succ t ih =>
    have hl := dnumTo_lt S t
    by_cases hi : i = t
    · subst hi
      unfold W
      show (dnumTo S i + 2 ^ (5 * i) * (vd (nth S (S.length - 1 - i)) % 32)) / 2 ^ (5 * i) % 2 ^ 5 = _
      rw [Nat.add_mul_div_left _ _ (Nat.pow_pos (by omega)), Nat.div_eq_of_lt hl]
      omega
    · rw [← ih (by omega)]
      unfold W
      show (dnumTo S t + 2 ^ (5 * t) * (vd (nth S (S.length - 1 - t)) % 32)) / 2 ^ (5 * i) % 2 ^ 5 = _
      obtain ⟨r, rfl⟩ : ∃ r, t = i + 1 + r := ⟨t - i - 1, by omega⟩
      have e : (2 : Nat) ^ (5 * (i + 1 + r)) = 2 ^ (5 * i) * (2 ^ 5 * 2 ^ (5 * r)) := by rw [← Nat.pow_add, ← Nat.pow_add]; congr 1; omega
      rw [e, Nat.mul_assoc, Nat.add_mul_div_left _ _ (Nat.pow_pos (by omega)), Nat.mul_assoc, Nat.add_mul_mod_self_left]
theorem dnum_digit (S : List Nat) (i : Nat) (h : i < S.length) (hd : isD (nth S (S.length - 1 - i)) = true) : W (dnum S) (5 * i) 5 = vd (nth S (S.length - 1 - i)) := by
  unfold dnum
  rw [dnumTo_digit S _ i h, Nat.mod_eq_of_lt (vd_lt hd)]
theorem dnum_lt (S : List Nat) : dnum S < 2 ^ (5 * S.length) := dnumTo_lt S _
def allD (S : List Nat) : Prop := ∀ i, i < S.length → isD (nth S i) = true
/-- The first e bytes of a number. -/
def bytesL (e N : Nat) : List Nat := (List.range e).map fun i => W N (8 * i) 8
theorem bytesL_length (e N : Nat) : (bytesL e N).length = e := by simp [bytesL]
theorem bytesL_nth (e N i : Nat) (h : i < e) : nth (bytesL e N) i = W N (8 * i) 8 := by
  unfold nth bytesL
  rw [List.getElem?_map, List.getElem?_range h]; rfl
theorem bytesL_succ (e N : Nat) : bytesL (e + 1) N = bytesL e N ++ [W N (8 * e) 8] := by
  unfold bytesL; rw [List.range_succ, List.map_append]; rfl
theorem bytesL_bytes (e N : Nat) : Bytes (bytesL e N) := fun x hx => by
  unfold bytesL at hx
  obtain ⟨i, -, rfl⟩ := List.mem_map.1 hx
  exact W_lt N (8 * i) 8
theorem bytesL_num {b : List Nat} (h : Bytes b) : bytesL b.length (num b) = b := by
  apply nth_ext (bytesL_length _ _)
  intro i hi
  rw [bytesL_length] at hi
  rw [bytesL_nth _ _ _ hi, num_byte h]
theorem num_bytesL {n N : Nat} (h : N < 2 ^ (8 * n)) : num (bytesL n N) = N := by
  have h1 : num (bytesL n N) < 2 ^ (8 * n) := by have := num_lt (bytesL_bytes n N); rwa [bytesL_length] at this
  have h2 : W (num (bytesL n N)) 0 (8 * n) = W N 0 (8 * n) := W_inj n (fun i hi => by rw [num_byte (bytesL_bytes n N), bytesL_nth _ _ _ hi])
  rwa [W_all h1, W_all h] at h2
/-- A text that can be read as n bytes. -/
def good (S : List Nat) (n : Nat) : Prop := allD S ∧ dnum S < 2 ^ (8 * n)
theorem text_dnum {S : List Nat} (h : allD S) : text S.length (dnum S) = S := by
  apply nth_ext (text_length _ _)
  intro j hj
  rw [text_length] at hj
  have h1 : S.length - 1 - (S.length - 1 - j) = j := by omega
  rw [text_nth _ _ _ hj, dnum_digit S _ (by omega) (by rw [h1]; exact h j hj), h1, dg_vd (h j hj)]
theorem allD_text (L N : Nat) : allD (text L N) := fun i hi => by
  rw [text_length] at hi
  rw [text_nth _ _ _ hi]; exact (isD_dg _ (W_lt _ _ 5)).1
theorem dnum_text {L N : Nat} (h : N < 2 ^ (5 * L)) : dnum (text L N) = N := by
  have h1 : dnum (text L N) < 2 ^ (5 * L) := by have := dnum_lt (text L N); rwa [text_length] at this
  have h2 : text L (dnum (text L N)) = text L N := by have := text_dnum (allD_text L N); rwa [text_length] at this
  exact text_inj h1 h h2
theorem good_text {b : List Nat} (h : Bytes b) : good (textOf b) b.length := ⟨allD_text _ _, by unfold textOf; rw [dnum_text (num_lt_len h)]; exact num_lt h⟩
theorem back_text {b : List Nat} (h : Bytes b) : bytesL b.length (dnum (textOf b)) = b := by
  unfold textOf; rw [dnum_text (num_lt_len h), bytesL_num h]
theorem text_back {S : List Nat} {n : Nat} (hl : S.length = lenOf n) (h : good S n) : textOf (bytesL n (dnum S)) = S := by
  unfold textOf; rw [bytesL_length, num_bytesL h.2, ← hl, text_dnum h.1]
/-- The bytes of a number's first p digits (of two). -/
def cellG (N p i : Nat) : Nat := W N (8 * i) (min 8 (p - 8 * i))
def rowG (n N p : Nat) : List Nat := (List.range n).map (cellG N p)
theorem rowG_length (n N p : Nat) : (rowG n N p).length = n := by simp [rowG]
theorem rowG_nth (n N p i : Nat) (h : i < n) : nth (rowG n N p) i = cellG N p i := by
  unfold nth rowG
  rw [List.getElem?_map, List.getElem?_range h]; rfl
theorem rowG_zero (n N : Nat) : rowG n N 0 = List.replicate n 0 := by
  apply nth_ext (by simp [rowG_length])
  intro i hi
  rw [rowG_length] at hi
  rw [rowG_nth _ _ _ _ hi, nth_replicate]; unfold cellG
  rw [show min 8 (0 - 8 * i) = 0 by omega, W_zero]
theorem rowG_full (n N p : Nat) (h : 8 * n ≤ p) : rowG n N p = bytesL n N := by
  apply nth_ext (by simp [rowG_length, bytesL_length])
  intro i hi
  rw [rowG_length] at hi
  rw [rowG_nth _ _ _ _ hi, bytesL_nth _ _ _ hi]; unfold cellG
  rw [show min 8 (p - 8 * i) = 8 by omega]
theorem cellG_same (N p i : Nat) (h : i ≠ p / 8) : cellG N (p + 1) i = cellG N p i := by
  unfold cellG
  rw [show min 8 (p + 1 - 8 * i) = min 8 (p - 8 * i) by omega]
theorem cellG_here (N p : Nat) : cellG N (p + 1) (p / 8) = cellG N p (p / 8) ||| W N p 1 * 2 ^ (p % 8) := by
  unfold cellG
  rw [show min 8 (p + 1 - 8 * (p / 8)) = p % 8 + 1 by omega, show min 8 (p - 8 * (p / 8)) = p % 8 by omega, ← W_or]
  congr 3; omega
theorem rowG_skip (n N p : Nat) (h : W N p 1 = 0) : rowG n N (p + 1) = rowG n N p := by
  apply nth_ext (by simp [rowG_length])
  intro i hi
  rw [rowG_length] at hi
  rw [rowG_nth _ _ _ _ hi, rowG_nth _ _ _ _ hi]
  by_cases hi' : i = p / 8
  · subst hi'; rw [cellG_here, h, Nat.zero_mul, Nat.or_zero]
  · exact cellG_same N p i hi'
theorem rowG_set (n N p x : Nat) (h : W N p 1 = 1) (hx : x = cellG N p (p / 8) ||| 2 ^ (p % 8)) : (rowG n N p).set (p / 8) x = rowG n N (p + 1) := by
  subst hx
  apply nth_ext (by simp [rowG_length])
  intro i hi
  simp only [List.length_set, rowG_length] at hi
  by_cases hi' : p / 8 = i
  · subst hi'
    rw [nth_set_same (by rw [rowG_length]; exact hi), rowG_nth _ _ _ _ hi, cellG_here, h, Nat.one_mul]
  · rw [nth_set_other hi', rowG_nth _ _ _ _ hi, rowG_nth _ _ _ _ hi, cellG_same N p i (by omega)]
theorem cellG_lt (N p i : Nat) : cellG N p i < 256 :=
  Nat.lt_of_lt_of_le (W_lt _ _ _) (show 2 ^ min 8 (p - 8 * i) ≤ 2 ^ 8 from Nat.pow_le_pow_right (by omega) (by omega))
theorem over_skip (n N p : Nat) (h : W N p 1 = 0) (hz : W N (8 * n) (p - 8 * n) = 0) : W N (8 * n) (p + 1 - 8 * n) = 0 := by
  by_cases hp : 8 * n ≤ p
  · rw [show p + 1 - 8 * n = (p - 8 * n) + 1 by omega, W_more, hz, show 8 * n + (p - 8 * n) = p by omega, h]; rfl
  · rw [show p + 1 - 8 * n = 0 by omega, W_zero]
theorem W_pos_big {N p : Nat} (h : W N p 1 ≠ 0) : 2 ^ p ≤ N := by
  rcases Nat.lt_or_ge N (2 ^ p) with h1 | h1
  · exfalso; apply h; unfold W; rw [Nat.div_eq_of_lt h1]
  · exact h1
theorem W_top_zero {N p q : Nat} (hN : N < 2 ^ (p + q)) : W N p q = 0 ↔ N < 2 ^ p := by
  unfold W
  have h1 : N / 2 ^ p < 2 ^ q := by rw [Nat.div_lt_iff_lt_mul (Nat.pow_pos (by omega)), ← Nat.pow_add, Nat.add_comm]; exact hN
  rw [Nat.mod_eq_of_lt h1]
  constructor
  · intro h
    rcases Nat.div_eq_zero_iff.1 h with h2 | h2
    · have := Nat.pow_pos (n := p) (show 0 < 2 by omega); omega
    · exact h2
  · exact fun h => Nat.div_eq_of_lt h
end Sha
end Go.Proofs.Ytlbfcneboaihnaa
