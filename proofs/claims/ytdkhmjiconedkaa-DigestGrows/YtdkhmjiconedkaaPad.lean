/- The padded end of a row of bytes, and that blocks of a row are those of its parts. No Go text is named here. -/
import Derived.Test.YtdkhmjiconedkaaSpec
namespace Go.Proofs.Ytdkhmjiconedkaa
namespace Sha

theorem nth_ext {l m : List Nat} (hl : l.length = m.length) (h : ∀ i, i < l.length → nth l i = nth m i) : l = m := by
  apply List.ext_getElem hl
  intro i h1 h2
  have := h i h1
  unfold nth at this
  rw [List.getElem?_eq_getElem h1, List.getElem?_eq_getElem h2] at this
  simpa using this
theorem nth_append_left {l m : List Nat} {i : Nat} (h : i < l.length) : nth (l ++ m) i = nth l i := by unfold nth; rw [List.getElem?_append_left h]
theorem nth_append_right {l m : List Nat} {i : Nat} (h : l.length ≤ i) : nth (l ++ m) i = nth m (i - l.length) := by unfold nth; rw [List.getElem?_append_right h]
theorem nth_set_same {l : List Nat} {i x : Nat} (h : i < l.length) : nth (l.set i x) i = x := by unfold nth; rw [List.getElem?_set_self h]; rfl
theorem nth_set_other {l : List Nat} {i j x : Nat} (h : i ≠ j) : nth (l.set i x) j = nth l j := by unfold nth; rw [List.getElem?_set_ne h]
theorem nth_replicate (n i : Nat) : nth (List.replicate n 0) i = 0 := by
  unfold nth; rw [List.getElem?_replicate]; split <;> rfl
theorem nth_beyond {l : List Nat} {i : Nat} (h : l.length ≤ i) : nth l i = 0 := by unfold nth; rw [List.getElem?_eq_none h]; rfl
theorem nth_take {l : List Nat} {n i : Nat} (h : i < n) : nth (l.take n) i = nth l i := by unfold nth; rw [List.getElem?_take_of_lt h]
theorem nth_drop (l : List Nat) (n i : Nat) : nth (l.drop n) i = nth l (n + i) := by unfold nth; rw [List.getElem?_drop]
theorem nth_one (x i : Nat) : nth [x] i = if i = 0 then x else 0 := by
  unfold nth; cases i <;> simp

/-- A number in eight bytes, the highest first. -/
def count (c : Nat) : List Nat := [c / 2 ^ 56 % 256, c / 2 ^ 48 % 256, c / 2 ^ 40 % 256, c / 2 ^ 32 % 256, c / 2 ^ 24 % 256, c / 2 ^ 16 % 256, c / 2 ^ 8 % 256, c % 256]
theorem count_nth (c : Nat) (i : Nat) (h : i < 8) : nth (count c) (7 - i) = c / 2 ^ (8 * i) % 256 := by
  match i, h with
  | 0, _ => simp [nth, count]
  | 1, _ => rfl
  | 2, _ => rfl
  | 3, _ => rfl
  | 4, _ => rfl
  | 5, _ => rfl
  | 6, _ => rfl
  | 7, _ => rfl
/-- How many bytes the padded end of so many has. -/
def endOf (n : Nat) : Nat := if n + 1 > 56 then 128 else 64
/-- The padded end of what is left (fewer than sixty-four bytes). -/
def tail (r : List Nat) (c : Nat) : List Nat := r ++ [128] ++ List.replicate (endOf r.length - 9 - r.length) 0 ++ count c
theorem endOf_cases (n : Nat) : (n + 1 > 56 ∧ endOf n = 128) ∨ (n + 1 ≤ 56 ∧ endOf n = 64) := by
  unfold endOf; split
  · exact Or.inl ⟨by omega, rfl⟩
  · exact Or.inr ⟨by omega, rfl⟩
theorem tail_length (r : List Nat) (c : Nat) (h : r.length < 64) : (tail r c).length = endOf r.length := by
  have := endOf_cases r.length
  simp [tail, count]; omega
theorem count_bytes (c : Nat) : Bytes (count c) := by
  intro x hx
  simp [count] at hx
  rcases hx with h | h | h | h | h | h | h | h <;> (rw [h]; exact Nat.mod_lt _ (by omega))
theorem Bytes.append {l m : List Nat} (h : Bytes l) (k : Bytes m) : Bytes (l ++ m) := fun x hx => by
  rcases List.mem_append.1 hx with hx | hx
  · exact h x hx
  · exact k x hx
theorem Bytes.rep (n : Nat) : Bytes (List.replicate n 0) := fun x hx => by rw [(List.mem_replicate.1 hx).2]; omega
theorem Bytes.one {x : Nat} (h : x < 256) : Bytes [x] := fun y hy => by simp at hy; omega
theorem Bytes.take {l : List Nat} (h : Bytes l) (n : Nat) : Bytes (l.take n) := fun x hx => h x (List.mem_of_mem_take hx)
theorem Bytes.drop {l : List Nat} (h : Bytes l) (n : Nat) : Bytes (l.drop n) := fun x hx => h x (List.mem_of_mem_drop hx)
theorem tail_bytes {r : List Nat} (h : Bytes r) (c : Nat) : Bytes (tail r c) :=
  ((h.append (Bytes.one (by omega))).append (Bytes.rep _)).append (count_bytes c)

/-- The count's bytes laid one by one, from the last on, into the end of the first e places. -/
def setTo (l : List Nat) (e c : Nat) : Nat → List Nat
  | 0 => l
  | i + 1 => (setTo l e c i).set (e - 1 - i) (c / 2 ^ (8 * i) % 256)
theorem setTo_length (l : List Nat) (e c i : Nat) : (setTo l e c i).length = l.length := by
  induction i with
  | zero => rfl
  | succ i ih => simp [setTo, ih]
theorem setTo_nth (l : List Nat) (e c : Nat) (he : e ≤ l.length) (i : Nat) (hi : i ≤ e) (p : Nat) (hp : p < e) :
    nth (setTo l e c i) p = if e ≤ p + i then c / 2 ^ (8 * (e - 1 - p)) % 256 else nth l p := by
  induction i with
  | zero => rw [if_neg (by omega)]; rfl
  | succ i ih =>
    by_cases h : p = e - 1 - i
    · subst h
      show nth ((setTo l e c i).set (e - 1 - i) _) (e - 1 - i) = _
      rw [nth_set_same (by rw [setTo_length]; omega), if_pos (by omega), show e - 1 - (e - 1 - i) = i by omega]
    · show nth ((setTo l e c i).set (e - 1 - i) _) p = _
      rw [nth_set_other (by omega), ih (by omega)]
      by_cases h2 : e ≤ p + i
      · rw [if_pos h2, if_pos (by omega)]
      · rw [if_neg h2, if_neg (by omega)]
theorem setTo_tail (r : List Nat) (c : Nat) (hr : r.length < 64) : (setTo (r ++ [128] ++ List.replicate (127 - r.length) 0) (endOf r.length) c 8).take (endOf r.length) = tail r c := by
  have hc := endOf_cases r.length
  apply nth_ext
  · rw [tail_length r c hr, List.length_take, setTo_length]; simp; omega
  · intro i hi
    have hi' : i < endOf r.length := by rw [List.length_take] at hi; omega
    rw [nth_take hi', setTo_nth _ _ _ (by simp; omega) _ (by omega) _ hi']
    by_cases h : endOf r.length ≤ i + 8
    · rw [if_pos h]
      unfold tail
      rw [nth_append_right (by simp; omega)]
      have e : i - (r ++ [128] ++ List.replicate (endOf r.length - 9 - r.length) 0).length = 7 - (endOf r.length - 1 - i) := by simp; omega
      rw [e, count_nth _ _ (by omega)]
    · rw [if_neg h]
      unfold tail
      rw [nth_append_left (l := r ++ [128] ++ List.replicate (endOf r.length - 9 - r.length) 0) (by simp; omega)]
      by_cases h2 : i < (r ++ [128]).length
      · rw [nth_append_left h2, nth_append_left h2]
      · rw [nth_append_right (by omega), nth_append_right (by omega), nth_replicate, nth_replicate]

/-- The blocks of a row are those of its parts, one behind the other. -/
theorem blocks_part (s : St) (x y : List Nat) (n : Nat) (h : 64 * n ≤ x.length) : blocks s (x ++ y) n = blocks s x n := by
  induction n with
  | zero => rfl
  | succ n ih =>
    unfold blocks
    rw [ih (by omega)]
    congr 1
    apply nth_ext
    · simp; omega
    · intro i hi
      have hi : i < 64 := by simp at hi; omega
      rw [nth_take hi, nth_take hi, nth_drop, nth_drop, nth_append_left (by omega)]
theorem blocks_append (s : St) (x y : List Nat) (n k : Nat) (h : x.length = 64 * n) : blocks s (x ++ y) (n + k) = blocks (blocks s x n) y k := by
  induction k with
  | zero => exact blocks_part s x y n (by omega)
  | succ k ih =>
    show block (blocks s (x ++ y) (n + k)) _ = block (blocks (blocks s x n) y k) _
    rw [ih]
    congr 2
    show List.drop (64 * (n + k)) (x ++ y) = List.drop (64 * k) y
    rw [show 64 * (n + k) = x.length + 64 * k by omega, List.drop_append]
    simp

/-- The digest: what stands behind so many bytes (whole blocks) that are in the state already. -/
def sumBehind (s : St) (before : Nat) (b : List Nat) : List Nat :=
  out (blocks (blocks s (b.take (b.length - b.length % 64)) (b.length / 64)) (tail (b.drop (b.length - b.length % 64)) (8 * (before + b.length))) (endOf (b.length % 64) / 64))
def sum (b : List Nat) : List Nat := sumBehind start 0 b
theorem sumBehind_length (s : St) (n : Nat) (b : List Nat) : (sumBehind s n b).length = 32 := out_length _
theorem sumBehind_bytes (s : St) (n : Nat) (b : List Nat) : Bytes (sumBehind s n b) := out_bytes _
/-- A row of numbers, and noughts behind it up to n. -/
def fill (n : Nat) (l : List Nat) : List Nat := l ++ List.replicate (n - l.length) 0
theorem fill_length (n : Nat) (l : List Nat) (h : l.length ≤ n) : (fill n l).length = n := by simp [fill]; omega
theorem fill_bytes {n : Nat} {l : List Nat} (h : Bytes l) : Bytes (fill n l) := h.append (Bytes.rep _)
/-- A key in sixty-four bytes. -/
def padKey (key : List Nat) : List Nat := fill 64 (if key.length > 64 then sum key else key)
theorem padKey_length (key : List Nat) : (padKey key).length = 64 := by
  unfold padKey; apply fill_length; split
  · rw [show (sum key).length = 32 from sumBehind_length _ _ _]; omega
  · omega
theorem padKey_bytes {key : List Nat} (h : Bytes key) : Bytes (padKey key) := by
  unfold padKey; apply fill_bytes; split
  · exact sumBehind_bytes _ _ _
  · exact h
/-- Each byte turned by a mask. -/
def turned (l : List Nat) (m : Nat) : List Nat := l.map fun x => x ^^^ m
theorem turned_bytes {l : List Nat} (h : Bytes l) {m : Nat} (hm : m < 256) : Bytes (turned l m) := by
  intro x hx
  obtain ⟨y, hy, rfl⟩ := List.mem_map.1 hx
  exact Nat.xor_lt_two_pow (n := 8) (h y hy) hm
theorem turned_length (l : List Nat) (m : Nat) : (turned l m).length = l.length := List.length_map _
def mac (key b : List Nat) : List Nat := sumBehind (blocks start (turned (padKey key) 92) 1) 64 (sumBehind (blocks start (turned (padKey key) 54) 1) 64 b)
/-- The first i bytes turned by a mask. -/
def turnTo (l : List Nat) (m : Nat) : Nat → List Nat
  | 0 => l
  | i + 1 => (turnTo l m i).set i (nth l i ^^^ m)
theorem turnTo_length (l : List Nat) (m i : Nat) : (turnTo l m i).length = l.length := by
  induction i with
  | zero => rfl
  | succ i ih => simp [turnTo, ih]
theorem turnTo_nth (l : List Nat) (m i : Nat) (hi : i ≤ l.length) (j : Nat) : nth (turnTo l m i) j = if j < i then nth l j ^^^ m else nth l j := by
  induction i with
  | zero => rfl
  | succ i ih =>
    by_cases h : j = i
    · subst h
      show nth ((turnTo l m j).set j _) j = _
      rw [nth_set_same (by rw [turnTo_length]; omega), if_pos (by omega)]
    · show nth ((turnTo l m i).set i _) j = _
      rw [nth_set_other (fun e => h e.symm), ih (by omega)]
      by_cases h2 : j < i
      · rw [if_pos h2, if_pos (by omega)]
      · rw [if_neg h2, if_neg (by omega)]
theorem turnTo_all (l : List Nat) (m : Nat) : turnTo l m l.length = turned l m := by
  apply nth_ext
  · rw [turnTo_length, turned_length]
  · intro i hi
    rw [turnTo_length] at hi
    rw [turnTo_nth l m _ (Nat.le_refl _) i, if_pos hi]
    unfold turned nth
    rw [List.getElem?_map, List.getElem?_eq_getElem hi]; rfl
end Sha
end Go.Proofs.Ytdkhmjiconedkaa
