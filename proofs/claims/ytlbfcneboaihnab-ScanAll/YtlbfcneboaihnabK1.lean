import Derived.Test.YtlbfcneboaihnabRows
import Derived.WalkKit
/- The plain mathematics of SHA-256 on natural numbers: rotations, schedule, rounds, padding. No Go text is named here. -/
namespace Go.Proofs.Ytlbfcneboaihnab
namespace Sha

def M : Nat := 4294967296
def rotr (x n : Nat) : Nat := x / 2 ^ n ||| x * 2 ^ (32 - n) % 4294967296
def add (a b : Nat) : Nat := (a + b) % 4294967296
def shr (x n : Nat) : Nat := x / 2 ^ n
def sig0 (x : Nat) : Nat := rotr x 7 ^^^ rotr x 18 ^^^ shr x 3
def sig1 (x : Nat) : Nat := rotr x 17 ^^^ rotr x 19 ^^^ shr x 10
def sum0 (x : Nat) : Nat := rotr x 2 ^^^ rotr x 13 ^^^ rotr x 22
def sum1 (x : Nat) : Nat := rotr x 6 ^^^ rotr x 11 ^^^ rotr x 25
def ch (e f g : Nat) : Nat := (e &&& f) ^^^ ((4294967295 - e) &&& g)
def maj (a b c : Nat) : Nat := (a &&& b) ^^^ (a &&& c) ^^^ (b &&& c)

theorem lt_or {a b : Nat} (ha : a < 4294967296) (hb : b < 4294967296) : a ||| b < 4294967296 := Nat.or_lt_two_pow (n := 32) ha hb
theorem lt_xor {a b : Nat} (ha : a < 4294967296) (hb : b < 4294967296) : a ^^^ b < 4294967296 := Nat.xor_lt_two_pow (n := 32) ha hb
theorem lt_and {a b : Nat} (ha : a < 4294967296) : a &&& b < 4294967296 := Nat.lt_of_le_of_lt Nat.and_le_left ha
theorem lt_div {a n : Nat} (ha : a < 4294967296) : a / 2 ^ n < 4294967296 := Nat.lt_of_le_of_lt (Nat.div_le_self _ _) ha
theorem rotr_lt {x n : Nat} (hx : x < 4294967296) : rotr x n < 4294967296 := lt_or (lt_div hx) (Nat.mod_lt _ (by omega))
theorem add_lt (a b : Nat) : add a b < 4294967296 := Nat.mod_lt _ (by omega)
theorem shr_lt {x n : Nat} (hx : x < 4294967296) : shr x n < 4294967296 := lt_div hx
theorem sig0_lt {x : Nat} (hx : x < 4294967296) : sig0 x < 4294967296 := lt_xor (lt_xor (rotr_lt hx) (rotr_lt hx)) (shr_lt hx)
theorem sig1_lt {x : Nat} (hx : x < 4294967296) : sig1 x < 4294967296 := lt_xor (lt_xor (rotr_lt hx) (rotr_lt hx)) (shr_lt hx)
theorem sum0_lt {x : Nat} (hx : x < 4294967296) : sum0 x < 4294967296 := lt_xor (lt_xor (rotr_lt hx) (rotr_lt hx)) (rotr_lt hx)
theorem sum1_lt {x : Nat} (hx : x < 4294967296) : sum1 x < 4294967296 := lt_xor (lt_xor (rotr_lt hx) (rotr_lt hx)) (rotr_lt hx)
theorem ch_lt {e f g : Nat} (he : e < 4294967296) : ch e f g < 4294967296 := lt_xor (lt_and he) (lt_and (by omega))
theorem maj_lt {a b c : Nat} (ha : a < 4294967296) (hb : b < 4294967296) : maj a b c < 4294967296 := lt_xor (lt_xor (lt_and ha) (lt_and ha)) (lt_and hb)

/-- The rounds' numbers. -/
def K : List Nat := [
  0x428a2f98, 0x71374491, 0xb5c0fbcf, 0xe9b5dba5, 0x3956c25b, 0x59f111f1, 0x923f82a4, 0xab1c5ed5,
  0xd807aa98, 0x12835b01, 0x243185be, 0x550c7dc3, 0x72be5d74, 0x80deb1fe, 0x9bdc06a7, 0xc19bf174,
  0xe49b69c1, 0xefbe4786, 0x0fc19dc6, 0x240ca1cc, 0x2de92c6f, 0x4a7484aa, 0x5cb0a9dc, 0x76f988da,
  0x983e5152, 0xa831c66d, 0xb00327c8, 0xbf597fc7, 0xc6e00bf3, 0xd5a79147, 0x06ca6351, 0x14292967,
  0x27b70a85, 0x2e1b2138, 0x4d2c6dfc, 0x53380d13, 0x650a7354, 0x766a0abb, 0x81c2c92e, 0x92722c85,
  0xa2bfe8a1, 0xa81a664b, 0xc24b8b70, 0xc76c51a3, 0xd192e819, 0xd6990624, 0xf40e3585, 0x106aa070,
  0x19a4c116, 0x1e376c08, 0x2748774c, 0x34b0bcb5, 0x391c0cb3, 0x4ed8aa4a, 0x5b9cca4f, 0x682e6ff3,
  0x748f82ee, 0x78a5636f, 0x84c87814, 0x8cc70208, 0x90befffa, 0xa4506ceb, 0xbef9a3f7, 0xc67178f2]
def H0 : List Nat := [0x6a09e667, 0xbb67ae85, 0x3c6ef372, 0xa54ff53a, 0x510e527f, 0x9b05688c, 0x1f83d9ab, 0x5be0cd19]

/-- What stands at a place of a list; nought behind its end. -/
def nth (l : List Nat) (i : Nat) : Nat := l[i]?.getD 0
/-- All numbers of a list are words. -/
def Words (l : List Nat) : Prop := ∀ x ∈ l, x < 4294967296
theorem Words.at {l : List Nat} (h : Words l) (i : Nat) : nth l i < 4294967296 := by
  unfold nth
  cases e : l[i]? with
  | none => simp
  | some v => exact h v (List.mem_of_getElem? e)
theorem Words.append {l m : List Nat} (h : Words l) (k : Words m) : Words (l ++ m) := fun x hx => by
  rcases List.mem_append.1 hx with hx | hx
  · exact h x hx
  · exact k x hx
theorem Words.one {x : Nat} (h : x < 4294967296) : Words [x] := fun y hy => by simp at hy; omega
theorem Words.nil : Words [] := fun y hy => by simp at hy
theorem K_words : Words K := by unfold Words; decide
theorem H0_words : Words H0 := by unfold Words; decide
theorem K_length : K.length = 64 := by decide
theorem H0_length : H0.length = 8 := by decide

/-- Four bytes as a word, the highest first. -/
def word (a b c d : Nat) : Nat := a * 2 ^ 24 % 4294967296 ||| b * 2 ^ 16 % 4294967296 ||| c * 2 ^ 8 % 4294967296 ||| d
/-- The word at place i of a row of bytes. -/
def wordAt (p : List Nat) (i : Nat) : Nat := word (nth p (4 * i)) (nth p (4 * i + 1)) (nth p (4 * i + 2)) (nth p (4 * i + 3))
def Bytes (l : List Nat) : Prop := ∀ x ∈ l, x < 256
theorem Bytes.at {l : List Nat} (h : Bytes l) (i : Nat) : nth l i < 256 := by
  unfold nth
  cases e : l[i]? with
  | none => simp
  | some v => exact h v (List.mem_of_getElem? e)
theorem word_lt {a b c d : Nat} (hd : d < 4294967296) : word a b c d < 4294967296 :=
  lt_or (lt_or (lt_or (Nat.mod_lt _ (by omega)) (Nat.mod_lt _ (by omega))) (Nat.mod_lt _ (by omega))) hd
theorem wordAt_lt {p : List Nat} (h : Bytes p) (i : Nat) : wordAt p i < 4294967296 := word_lt (Nat.lt_trans (h.at _) (by omega))

/-- The first words of a block. -/
def first (p : List Nat) : Nat → List Nat
  | 0 => []
  | k + 1 => first p k ++ [wordAt p k]
theorem first_length (p : List Nat) (k : Nat) : (first p k).length = k := by
  induction k with
  | zero => rfl
  | succ k ih => simp [first, ih]
theorem first_words {p : List Nat} (h : Bytes p) (k : Nat) : Words (first p k) := by
  induction k with
  | zero => exact Words.nil
  | succ k ih => exact ih.append (Words.one (wordAt_lt h k))
/-- The next word behind a row of them. -/
def next (l : List Nat) (i : Nat) : Nat := add (add (add (nth l (i - 16)) (sig0 (nth l (i - 15)))) (nth l (i - 7))) (sig1 (nth l (i - 2)))
def more (l : List Nat) : Nat → List Nat
  | 0 => l
  | k + 1 => more l k ++ [next (more l k) (16 + k)]
theorem more_length (l : List Nat) (k : Nat) : (more l k).length = l.length + k := by
  induction k with
  | zero => rfl
  | succ k ih => simp [more, ih]; omega
theorem more_words {l : List Nat} (h : Words l) (k : Nat) : Words (more l k) := by
  induction k with
  | zero => exact h
  | succ k ih => exact ih.append (Words.one (add_lt _ _))
/-- The words w(0) to w(63) of a block. -/
def sched (p : List Nat) : List Nat := more (first p 16) 48
theorem sched_length (p : List Nat) : (sched p).length = 64 := by simp [sched, more_length, first_length]
theorem sched_words {p : List Nat} (h : Bytes p) : Words (sched p) := more_words (first_words h 16) 48

/-- The eight words of a state. -/
structure St where
  a : Nat
  b : Nat
  c : Nat
  d : Nat
  e : Nat
  f : Nat
  g : Nat
  h : Nat
def St.list (s : St) : List Nat := [s.a, s.b, s.c, s.d, s.e, s.f, s.g, s.h]
def St.ok (s : St) : Prop := s.a < 4294967296 ∧ s.b < 4294967296 ∧ s.c < 4294967296 ∧ s.d < 4294967296 ∧ s.e < 4294967296 ∧ s.f < 4294967296 ∧ s.g < 4294967296 ∧ s.h < 4294967296
def t1 (s : St) (k w : Nat) : Nat := add (add (add (add s.h (sum1 s.e)) (ch s.e s.f s.g)) k) w
def t2 (s : St) : Nat := add (sum0 s.a) (maj s.a s.b s.c)
def round (s : St) (k w : Nat) : St := ⟨add (t1 s k w) (t2 s), s.a, s.b, s.c, add s.d (t1 s k w), s.e, s.f, s.g⟩
theorem round_ok {s : St} (h : s.ok) (k w : Nat) : (round s k w).ok := by
  obtain ⟨ha, hb, hc, hd, he, hf, hg, hh⟩ := h
  exact ⟨add_lt _ _, ha, hb, hc, add_lt _ _, he, hf, hg⟩
def rounds (s : St) (w : List Nat) : Nat → St
  | 0 => s
  | i + 1 => round (rounds s w i) (nth K i) (nth w i)
theorem rounds_ok {s : St} (h : s.ok) (w : List Nat) (i : Nat) : (rounds s w i).ok := by
  induction i with
  | zero => exact h
  | succ i ih => exact round_ok ih _ _
def plus (s t : St) : St := ⟨add s.a t.a, add s.b t.b, add s.c t.c, add s.d t.d, add s.e t.e, add s.f t.f, add s.g t.g, add s.h t.h⟩
theorem plus_ok (s t : St) : (plus s t).ok := ⟨add_lt _ _, add_lt _ _, add_lt _ _, add_lt _ _, add_lt _ _, add_lt _ _, add_lt _ _, add_lt _ _⟩
/-- One block. -/
def block (s : St) (p : List Nat) : St := plus s (rounds s (sched p) 64)
theorem block_ok (s : St) (p : List Nat) : (block s p).ok := plus_ok _ _
def start : St := ⟨0x6a09e667, 0xbb67ae85, 0x3c6ef372, 0xa54ff53a, 0x510e527f, 0x9b05688c, 0x1f83d9ab, 0x5be0cd19⟩
theorem start_ok : start.ok := by unfold St.ok start; decide
/-- The first n blocks of a row of bytes. -/
def blocks (s : St) (m : List Nat) : Nat → St
  | 0 => s
  | n + 1 => block (blocks s m n) ((m.drop (64 * n)).take 64)
theorem blocks_ok {s : St} (h : s.ok) (m : List Nat) (n : Nat) : (blocks s m n).ok := by
  cases n with
  | zero => exact h
  | succ n => exact block_ok _ _

/-- The byte i of a state, the highest of each word first. -/
def outAt (l : List Nat) (i : Nat) : Nat := nth l (i / 4) / 2 ^ (24 - 8 * (i % 4)) % 256
def outTo (l : List Nat) : Nat → List Nat
  | 0 => []
  | k + 1 => outTo l k ++ [outAt l k]
theorem outTo_length (l : List Nat) (k : Nat) : (outTo l k).length = k := by
  induction k with
  | zero => rfl
  | succ k ih => simp [outTo, ih]
theorem outTo_bytes (l : List Nat) (k : Nat) : Bytes (outTo l k) := by
  induction k with
  | zero => intro x hx; simp [outTo] at hx
  | succ k ih =>
    intro x hx
    rcases List.mem_append.1 hx with hx | hx
    · exact ih x hx
    · simp at hx; subst hx; exact Nat.mod_lt _ (by omega)
/-- A state as bytes. -/
def out (s : St) : List Nat := outTo s.list 32
theorem out_length (s : St) : (out s).length = 32 := outTo_length _ _
theorem out_bytes (s : St) : Bytes (out s) := outTo_bytes _ _

end Sha
end Go.Proofs.Ytlbfcneboaihnab
/- The padded end of a row of bytes, and that blocks of a row are those of its parts. No Go text is named here. -/
namespace Go.Proofs.Ytlbfcneboaihnab
namespace Sha

theorem nth_ext {l m : List Nat} (hl : l.length = m.length) (h : ∀ i, i < l.length → nth l i = nth m i) : l = m := by
  apply List.ext_getElem hl
  intro i h1 h2
  have := h i h1
  unfold nth at this
  rw [List.getElem?_eq_getElem h1, List.getElem?_eq_getElem h2] at this
  simpa using this
theorem nth_append_left {l m : List Nat} {i : Nat} (h : i < l.length) : nth (l ++ m) i = nth l i := by unfold nth; rw [List.getElem?_append_left h]
theorem nth_append_right {l m : List Nat} {i : Nat} (h : l.length ≤ i) : nth (l ++ m) i = nth m (i - l.length) := by unfold nth; rw [List.getElem?_append_right h]
theorem nth_set_same {l : List Nat} {i x : Nat} (h : i < l.length) : nth (l.set i x) i = x := by unfold nth; rw [List.getElem?_set_self h]; rfl
theorem nth_set_other {l : List Nat} {i j x : Nat} (h : i ≠ j) : nth (l.set i x) j = nth l j := by unfold nth; rw [List.getElem?_set_ne h]
theorem nth_replicate (n i : Nat) : nth (List.replicate n 0) i = 0 := by
  unfold nth; rw [List.getElem?_replicate]; split <;> rfl
theorem nth_beyond {l : List Nat} {i : Nat} (h : l.length ≤ i) : nth l i = 0 := by unfold nth; rw [List.getElem?_eq_none h]; rfl
theorem nth_take {l : List Nat} {n i : Nat} (h : i < n) : nth (l.take n) i = nth l i := by unfold nth; rw [List.getElem?_take_of_lt h]
theorem nth_drop (l : List Nat) (n i : Nat) : nth (l.drop n) i = nth l (n + i) := by unfold nth; rw [List.getElem?_drop]
theorem nth_one (x i : Nat) : nth [x] i = if i = 0 then x else 0 := by
  unfold nth; cases i <;> simp

/-- A number in eight bytes, the highest first. -/
def count (c : Nat) : List Nat := [c / 2 ^ 56 % 256, c / 2 ^ 48 % 256, c / 2 ^ 40 % 256, c / 2 ^ 32 % 256, c / 2 ^ 24 % 256, c / 2 ^ 16 % 256, c / 2 ^ 8 % 256, c % 256]
theorem count_nth (c : Nat) (i : Nat) (h : i < 8) : nth (count c) (7 - i) = c / 2 ^ (8 * i) % 256 := by
  match i, h with
  | 0, _ => simp [nth, count]
  | 1, _ => rfl
  | 2, _ => rfl
  | 3, _ => rfl
  | 4, _ => rfl
  | 5, _ => rfl
  | 6, _ => rfl
  | 7, _ => rfl
/-- How many bytes the padded end of so many has. -/
def endOf (n : Nat) : Nat := if n + 1 > 56 then 128 else 64
/-- The padded end of what is left (fewer than sixty-four bytes). -/
def tail (r : List Nat) (c : Nat) : List Nat := r ++ [128] ++ List.replicate (endOf r.length - 9 - r.length) 0 ++ count c
theorem endOf_cases (n : Nat) : (n + 1 > 56 ∧ endOf n = 128) ∨ (n + 1 ≤ 56 ∧ endOf n = 64) := by
  unfold endOf; split
  · exact Or.inl ⟨by omega, rfl⟩
  · exact Or.inr ⟨by omega, rfl⟩
theorem tail_length (r : List Nat) (c : Nat) (h : r.length < 64) : (tail r c).length = endOf r.length := by
  have := endOf_cases r.length
  simp [tail, count]; omega
theorem count_bytes (c : Nat) : Bytes (count c) := by
  intro x hx
  simp [count] at hx
  rcases hx with h | h | h | h | h | h | h | h <;> (rw [h]; exact Nat.mod_lt _ (by omega))
theorem Bytes.append {l m : List Nat} (h : Bytes l) (k : Bytes m) : Bytes (l ++ m) := fun x hx => by
  rcases List.mem_append.1 hx with hx | hx
  · exact h x hx
  · exact k x hx
theorem Bytes.rep (n : Nat) : Bytes (List.replicate n 0) := fun x hx => by rw [(List.mem_replicate.1 hx).2]; omega
theorem Bytes.one {x : Nat} (h : x < 256) : Bytes [x] := fun y hy => by simp at hy; omega
theorem Bytes.take {l : List Nat} (h : Bytes l) (n : Nat) : Bytes (l.take n) := fun x hx => h x (List.mem_of_mem_take hx)
theorem Bytes.drop {l : List Nat} (h : Bytes l) (n : Nat) : Bytes (l.drop n) := fun x hx => h x (List.mem_of_mem_drop hx)
theorem tail_bytes {r : List Nat} (h : Bytes r) (c : Nat) : Bytes (tail r c) :=
  ((h.append (Bytes.one (by omega))).append (Bytes.rep _)).append (count_bytes c)

/-- The count's bytes laid one by one, from the last on, into the end of the first e places. -/
def setTo (l : List Nat) (e c : Nat) : Nat → List Nat
  | 0 => l
  | i + 1 => (setTo l e c i).set (e - 1 - i) (c / 2 ^ (8 * i) % 256)
theorem setTo_length (l : List Nat) (e c i : Nat) : (setTo l e c i).length = l.length := by
  induction i with
  | zero => rfl
  | succ i ih => simp [setTo, ih]
theorem setTo_nth (l : List Nat) (e c : Nat) (he : e ≤ l.length) (i : Nat) (hi : i ≤ e) (p : Nat) (hp : p < e) :
    nth (setTo l e c i) p = if e ≤ p + i then c / 2 ^ (8 * (e - 1 - p)) % 256 else nth l p := by
  induction i with
  | zero => rw [if_neg (by omega)]; rfl
  | succ i ih =>
    by_cases h : p = e - 1 - i
    · subst h
      show nth ((setTo l e c i).set (e - 1 - i) _) (e - 1 - i) = _
      rw [nth_set_same (by rw [setTo_length]; omega), if_pos (by omega), show e - 1 - (e - 1 - i) = i by omega]
    · show nth ((setTo l e c i).set (e - 1 - i) _) p = _
      rw [nth_set_other (by omega), ih (by omega)]
      by_cases h2 : e ≤ p + i
      · rw [if_pos h2, if_pos (by omega)]
      · rw [if_neg h2, if_neg (by omega)]
theorem setTo_tail (r : List Nat) (c : Nat) (hr : r.length < 64) : (setTo (r ++ [128] ++ List.replicate (127 - r.length) 0) (endOf r.length) c 8).take (endOf r.length) = tail r c := by
  have hc := endOf_cases r.length
  apply nth_ext
  · rw [tail_length r c hr, List.length_take, setTo_length]; simp; omega
  · intro i hi
    have hi' : i < endOf r.length := by rw [List.length_take] at hi; omega
    rw [nth_take hi', setTo_nth _ _ _ (by simp; omega) _ (by omega) _ hi']
    by_cases h : endOf r.length ≤ i + 8
    · rw [if_pos h]
      unfold tail
      rw [nth_append_right (by simp; omega)]
      have e : i - (r ++ [128] ++ List.replicate (endOf r.length - 9 - r.length) 0).length = 7 - (endOf r.length - 1 - i) := by simp; omega
      rw [e, count_nth _ _ (by omega)]
    · rw [if_neg h]
      unfold tail
      rw [nth_append_left (l := r ++ [128] ++ List.replicate (endOf r.length - 9 - r.length) 0) (by simp; omega)]
      by_cases h2 : i < (r ++ [128]).length
      · rw [nth_append_left h2, nth_append_left h2]
      · rw [nth_append_right (by omega), nth_append_right (by omega), nth_replicate, nth_replicate]

/-- The blocks of a row are those of its parts, one behind the other. -/
theorem blocks_part (s : St) (x y : List Nat) (n : Nat) (h : 64 * n ≤ x.length) : blocks s (x ++ y) n = blocks s x n := by
  induction n with
  | zero => rfl
  | succ n ih =>
    unfold blocks
    rw [ih (by omega)]
    congr 1
    apply nth_ext
    · simp; omega
    · intro i hi
      have hi : i < 64 := by simp at hi; omega
      rw [nth_take hi, nth_take hi, nth_drop, nth_drop, nth_append_left (by omega)]
theorem blocks_append (s : St) (x y : List Nat) (n k : Nat) (h : x.length = 64 * n) : blocks s (x ++ y) (n + k) = blocks (blocks s x n) y k := by
  induction k with
  | zero => exact blocks_part s x y n (by omega)
  | succ k ih =>
    show block (blocks s (x ++ y) (n + k)) _ = block (blocks (blocks s x n) y k) _
    rw [ih]
    congr 2
    show List.drop (64 * (n + k)) (x ++ y) = List.drop (64 * k) y
    rw [show 64 * (n + k) = x.length + 64 * k by omega, List.drop_append]
    simp

/-- The digest: what stands behind so many bytes (whole blocks) that are in the state already. -/
def sumBehind (s : St) (before : Nat) (b : List Nat) : List Nat :=
  out (blocks (blocks s (b.take (b.length - b.length % 64)) (b.length / 64)) (tail (b.drop (b.length - b.length % 64)) (8 * (before + b.length))) (endOf (b.length % 64) / 64))
def sum (b : List Nat) : List Nat := sumBehind start 0 b
theorem sumBehind_length (s : St) (n : Nat) (b : List Nat) : (sumBehind s n b).length = 32 := out_length _
theorem sumBehind_bytes (s : St) (n : Nat) (b : List Nat) : Bytes (sumBehind s n b) := out_bytes _
/-- A row of numbers, and noughts behind it up to n. -/
def fill (n : Nat) (l : List Nat) : List Nat := l ++ List.replicate (n - l.length) 0
theorem fill_length (n : Nat) (l : List Nat) (h : l.length ≤ n) : (fill n l).length = n := by simp [fill]; omega
theorem fill_bytes {n : Nat} {l : List Nat} (h : Bytes l) : Bytes (fill n l) := h.append (Bytes.rep _)
/-- A key in sixty-four bytes. -/
def padKey (key : List Nat) : List Nat := fill 64 (if key.length > 64 then sum key else key)
theorem padKey_length (key : List Nat) : (padKey key).length = 64 := by
  unfold padKey; apply fill_length; split
  · rw [show (sum key).length = 32 from sumBehind_length _ _ _]; omega
  · omega
theorem padKey_bytes {key : List Nat} (h : Bytes key) : Bytes (padKey key) := by
  unfold padKey; apply fill_bytes; split
  · exact sumBehind_bytes _ _ _
  · exact h
/-- Each byte turned by a mask. -/
def turned (l : List Nat) (m : Nat) : List Nat := l.map fun x => x ^^^ m
theorem turned_bytes {l : List Nat} (h : Bytes l) {m : Nat} (hm : m < 256) : Bytes (turned l m) := by
  intro x hx
  obtain ⟨y, hy, rfl⟩ := List.mem_map.1 hx
  exact Nat.xor_lt_two_pow (n := 8) (h y hy) hm
theorem turned_length (l : List Nat) (m : Nat) : (turned l m).length = l.length := List.length_map _
def mac (key b : List Nat) : List Nat := sumBehind (blocks start (turned (padKey key) 92) 1) 64 (sumBehind (blocks start (turned (padKey key) 54) 1) 64 b)
/-- The first i bytes turned by a mask. -/
def turnTo (l : List Nat) (m : Nat) : Nat → List Nat
  | 0 => l
  | i + 1 => (turnTo l m i).set i (nth l i ^^^ m)
theorem turnTo_length (l : List Nat) (m i : Nat) : (turnTo l m i).length = l.length := by
  induction i with
  | zero => rfl
  | succ i ih => simp [turnTo, ih]
theorem turnTo_nth (l : List Nat) (m i : Nat) (hi : i ≤ l.length) (j : Nat) : nth (turnTo l m i) j = if j < i then nth l j ^^^ m else nth l j := by
  induction i with
  | zero => rfl
  | succ i ih =>
    by_cases h : j = i
    · subst h
      show nth ((turnTo l m j).set j _) j = _
      rw [nth_set_same (by rw [turnTo_length]; omega), if_pos (by omega)]
    · show nth ((turnTo l m i).set i _) j = _
      rw [nth_set_other (fun e => h e.symm), ih (by omega)]
      by_cases h2 : j < i
      · rw [if_pos h2, if_pos (by omega)]
      · rw [if_neg h2, if_neg (by omega)]
theorem turnTo_all (l : List Nat) (m : Nat) : turnTo l m l.length = turned l m := by
  apply nth_ext
  · rw [turnTo_length, turned_length]
  · intro i hi
    rw [turnTo_length] at hi
    rw [turnTo_nth l m _ (Nat.le_refl _) i, if_pos hi]
    unfold turned nth
    rw [List.getElem?_map, List.getElem?_eq_getElem hi]; rfl
end Sha
end Go.Proofs.Ytlbfcneboaihnab
