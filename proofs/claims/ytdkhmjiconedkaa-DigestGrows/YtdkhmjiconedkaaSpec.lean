/- The plain mathematics of SHA-256 on natural numbers: rotations, schedule, rounds, padding. No Go text is named here. -/
import Derived.WalkKit
namespace Go.Proofs.Ytdkhmjiconedkaa
namespace Sha

def M : Nat := 4294967296
def rotr (x n : Nat) : Nat := x / 2 ^ n ||| x * 2 ^ (32 - n) % 4294967296
def add (a b : Nat) : Nat := (a + b) % 4294967296
def shr (x n : Nat) : Nat := x / 2 ^ n
def sig0 (x : Nat) : Nat := rotr x 7 ^^^ rotr x 18 ^^^ shr x 3
def sig1 (x : Nat) : Nat := rotr x 17 ^^^ rotr x 19 ^^^ shr x 10
def sum0 (x : Nat) : Nat := rotr x 2 ^^^ rotr x 13 ^^^ rotr x 22
def sum1 (x : Nat) : Nat := rotr x 6 ^^^ rotr x 11 ^^^ rotr x 25
def ch (e f g : Nat) : Nat := (e &&& f) ^^^ ((4294967295 - e) &&& g)
def maj (a b c : Nat) : Nat := (a &&& b) ^^^ (a &&& c) ^^^ (b &&& c)

theorem lt_or {a b : Nat} (ha : a < 4294967296) (hb : b < 4294967296) : a ||| b < 4294967296 := Nat.or_lt_two_pow (n := 32) ha hb
theorem lt_xor {a b : Nat} (ha : a < 4294967296) (hb : b < 4294967296) : a ^^^ b < 4294967296 := Nat.xor_lt_two_pow (n := 32) ha hb
theorem lt_and {a b : Nat} (ha : a < 4294967296) : a &&& b < 4294967296 := Nat.lt_of_le_of_lt Nat.and_le_left ha
theorem lt_div {a n : Nat} (ha : a < 4294967296) : a / 2 ^ n < 4294967296 := Nat.lt_of_le_of_lt (Nat.div_le_self _ _) ha
theorem rotr_lt {x n : Nat} (hx : x < 4294967296) : rotr x n < 4294967296 := lt_or (lt_div hx) (Nat.mod_lt _ (by omega))
theorem add_lt (a b : Nat) : add a b < 4294967296 := Nat.mod_lt _ (by omega)
theorem shr_lt {x n : Nat} (hx : x < 4294967296) : shr x n < 4294967296 := lt_div hx
theorem sig0_lt {x : Nat} (hx : x < 4294967296) : sig0 x < 4294967296 := lt_xor (lt_xor (rotr_lt hx) (rotr_lt hx)) (shr_lt hx)
theorem sig1_lt {x : Nat} (hx : x < 4294967296) : sig1 x < 4294967296 := lt_xor (lt_xor (rotr_lt hx) (rotr_lt hx)) (shr_lt hx)
theorem sum0_lt {x : Nat} (hx : x < 4294967296) : sum0 x < 4294967296 := lt_xor (lt_xor (rotr_lt hx) (rotr_lt hx)) (rotr_lt hx)
theorem sum1_lt {x : Nat} (hx : x < 4294967296) : sum1 x < 4294967296 := lt_xor (lt_xor (rotr_lt hx) (rotr_lt hx)) (rotr_lt hx)
theorem ch_lt {e f g : Nat} (he : e < 4294967296) : ch e f g < 4294967296 := lt_xor (lt_and he) (lt_and (by omega))
theorem maj_lt {a b c : Nat} (ha : a < 4294967296) (hb : b < 4294967296) : maj a b c < 4294967296 := lt_xor (lt_xor (lt_and ha) (lt_and ha)) (lt_and hb)

/-- The rounds' numbers. -/
def K : List Nat := [
  0x428a2f98, 0x71374491, 0xb5c0fbcf, 0xe9b5dba5, 0x3956c25b, 0x59f111f1, 0x923f82a4, 0xab1c5ed5,
  0xd807aa98, 0x12835b01, 0x243185be, 0x550c7dc3, 0x72be5d74, 0x80deb1fe, 0x9bdc06a7, 0xc19bf174,
  0xe49b69c1, 0xefbe4786, 0x0fc19dc6, 0x240ca1cc, 0x2de92c6f, 0x4a7484aa, 0x5cb0a9dc, 0x76f988da,
  0x983e5152, 0xa831c66d, 0xb00327c8, 0xbf597fc7, 0xc6e00bf3, 0xd5a79147, 0x06ca6351, 0x14292967,
  0x27b70a85, 0x2e1b2138, 0x4d2c6dfc, 0x53380d13, 0x650a7354, 0x766a0abb, 0x81c2c92e, 0x92722c85,
  0xa2bfe8a1, 0xa81a664b, 0xc24b8b70, 0xc76c51a3, 0xd192e819, 0xd6990624, 0xf40e3585, 0x106aa070,
  0x19a4c116, 0x1e376c08, 0x2748774c, 0x34b0bcb5, 0x391c0cb3, 0x4ed8aa4a, 0x5b9cca4f, 0x682e6ff3,
  0x748f82ee, 0x78a5636f, 0x84c87814, 0x8cc70208, 0x90befffa, 0xa4506ceb, 0xbef9a3f7, 0xc67178f2]
def H0 : List Nat := [0x6a09e667, 0xbb67ae85, 0x3c6ef372, 0xa54ff53a, 0x510e527f, 0x9b05688c, 0x1f83d9ab, 0x5be0cd19]

/-- What stands at a place of a list; nought behind its end. -/
def nth (l : List Nat) (i : Nat) : Nat := l[i]?.getD 0
/-- All numbers of a list are words. -/
def Words (l : List Nat) : Prop := ∀ x ∈ l, x < 4294967296
theorem Words.at {l : List Nat} (h : Words l) (i : Nat) : nth l i < 4294967296 := by
  unfold nth
  cases e : l[i]? with
  | none => simp
  | some v => exact h v (List.mem_of_getElem? e)
theorem Words.append {l m : List Nat} (h : Words l) (k : Words m) : Words (l ++ m) := fun x hx => by
  rcases List.mem_append.1 hx with hx | hx
  · exact h x hx
  · exact k x hx
theorem Words.one {x : Nat} (h : x < 4294967296) : Words [x] := fun y hy => by simp at hy; omega
theorem Words.nil : Words [] := fun y hy => by simp at hy
theorem K_words : Words K := by unfold Words; decide
theorem H0_words : Words H0 := by unfold Words; decide
theorem K_length : K.length = 64 := by decide
theorem H0_length : H0.length = 8 := by decide

/-- Four bytes as a word, the highest first. -/
def word (a b c d : Nat) : Nat := a * 2 ^ 24 % 4294967296 ||| b * 2 ^ 16 % 4294967296 ||| c * 2 ^ 8 % 4294967296 ||| d
/-- The word at place i of a row of bytes. -/
def wordAt (p : List Nat) (i : Nat) : Nat := word (nth p (4 * i)) (nth p (4 * i + 1)) (nth p (4 * i + 2)) (nth p (4 * i + 3))
def Bytes (l : List Nat) : Prop := ∀ x ∈ l, x < 256
theorem Bytes.at {l : List Nat} (h : Bytes l) (i : Nat) : nth l i < 256 := by
  unfold nth
  cases e : l[i]? with
  | none => simp
  | some v => exact h v (List.mem_of_getElem? e)
theorem word_lt {a b c d : Nat} (hd : d < 4294967296) : word a b c d < 4294967296 :=
  lt_or (lt_or (lt_or (Nat.mod_lt _ (by omega)) (Nat.mod_lt _ (by omega))) (Nat.mod_lt _ (by omega))) hd
theorem wordAt_lt {p : List Nat} (h : Bytes p) (i : Nat) : wordAt p i < 4294967296 := word_lt (Nat.lt_trans (h.at _) (by omega))

/-- The first words of a block. -/
def first (p : List Nat) : Nat → List Nat
  | 0 => []
  | k + 1 => first p k ++ [wordAt p k]
theorem first_length (p : List Nat) (k : Nat) : (first p k).length = k := by
  induction k with
  | zero => rfl
  | succ k ih => simp [first, ih]
theorem first_words {p : List Nat} (h : Bytes p) (k : Nat) : Words (first p k) := by
  induction k with
  | zero => exact Words.nil
  | succ k ih => exact ih.append (Words.one (wordAt_lt h k))
/-- The next word behind a row of them. -/
def next (l : List Nat) (i : Nat) : Nat := add (add (add (nth l (i - 16)) (sig0 (nth l (i - 15)))) (nth l (i - 7))) (sig1 (nth l (i - 2)))
def more (l : List Nat) : Nat → List Nat
  | 0 => l
  | k + 1 => more l k ++ [next (more l k) (16 + k)]
theorem more_length (l : List Nat) (k : Nat) : (more l k).length = l.length + k := by
  induction k with
  | zero => rfl
  | succ k ih => simp [more, ih]; omega
theorem more_words {l : List Nat} (h : Words l) (k : Nat) : Words (more l k) := by
  induction k with
  | zero => exact h
  | succ k ih => exact ih.append (Words.one (add_lt _ _))
/-- The words w(0) to w(63) of a block. -/
def sched (p : List Nat) : List Nat := more (first p 16) 48
theorem sched_length (p : List Nat) : (sched p).length = 64 := by simp [sched, more_length, first_length]
theorem sched_words {p : List Nat} (h : Bytes p) : Words (sched p) := more_words (first_words h 16) 48

/-- The eight words of a state. -/
structure St where
  a : Nat
  b : Nat
  c : Nat
  d : Nat
  e : Nat
  f : Nat
  g : Nat
  h : Nat
def St.list (s : St) : List Nat := [s.a, s.b, s.c, s.d, s.e, s.f, s.g, s.h]
def St.ok (s : St) : Prop := s.a < 4294967296 ∧ s.b < 4294967296 ∧ s.c < 4294967296 ∧ s.d < 4294967296 ∧ s.e < 4294967296 ∧ s.f < 4294967296 ∧ s.g < 4294967296 ∧ s.h < 4294967296
def t1 (s : St) (k w : Nat) : Nat := add (add (add (add s.h (sum1 s.e)) (ch s.e s.f s.g)) k) w
def t2 (s : St) : Nat := add (sum0 s.a) (maj s.a s.b s.c)
def round (s : St) (k w : Nat) : St := ⟨add (t1 s k w) (t2 s), s.a, s.b, s.c, add s.d (t1 s k w), s.e, s.f, s.g⟩
theorem round_ok {s : St} (h : s.ok) (k w : Nat) : (round s k w).ok := by
  obtain ⟨ha, hb, hc, hd, he, hf, hg, hh⟩ := h
  exact ⟨add_lt _ _, ha, hb, hc, add_lt _ _, he, hf, hg⟩
def rounds (s : St) (w : List Nat) : Nat → St
  | 0 => s
  | i + 1 => round (rounds s w i) (nth K i) (nth w i)
theorem rounds_ok {s : St} (h : s.ok) (w : List Nat) (i : Nat) : (rounds s w i).ok := by
  induction i with
  | zero => exact h
  | succ i ih => exact round_ok ih _ _
def plus (s t : St) : St := ⟨add s.a t.a, add s.b t.b, add s.c t.c, add s.d t.d, add s.e t.e, add s.f t.f, add s.g t.g, add s.h t.h⟩
theorem plus_ok (s t : St) : (plus s t).ok := ⟨add_lt _ _, add_lt _ _, add_lt _ _, add_lt _ _, add_lt _ _, add_lt _ _, add_lt _ _, add_lt _ _⟩
/-- One block. -/
def block (s : St) (p : List Nat) : St := plus s (rounds s (sched p) 64)
theorem block_ok (s : St) (p : List Nat) : (block s p).ok := plus_ok _ _
def start : St := ⟨0x6a09e667, 0xbb67ae85, 0x3c6ef372, 0xa54ff53a, 0x510e527f, 0x9b05688c, 0x1f83d9ab, 0x5be0cd19⟩
theorem start_ok : start.ok := by unfold St.ok start; decide
/-- The first n blocks of a row of bytes. -/
def blocks (s : St) (m : List Nat) : Nat → St
  | 0 => s
  | n + 1 => block (blocks s m n) ((m.drop (64 * n)).take 64)
theorem blocks_ok {s : St} (h : s.ok) (m : List Nat) (n : Nat) : (blocks s m n).ok := by
  cases n with
  | zero => exact h
  | succ n => exact block_ok _ _

/-- The byte i of a state, the highest of each word first. -/
def outAt (l : List Nat) (i : Nat) : Nat := nth l (i / 4) / 2 ^ (24 - 8 * (i % 4)) % 256
def outTo (l : List Nat) : Nat → List Nat
  | 0 => []
  | k + 1 => outTo l k ++ [outAt l k]
theorem outTo_length (l : List Nat) (k : Nat) : (outTo l k).length = k := by
  induction k with
  | zero => rfl
  | succ k ih => simp [outTo, ih]
theorem outTo_bytes (l : List Nat) (k : Nat) : Bytes (outTo l k) := by
  induction k with
  | zero => intro x hx; simp [outTo] at hx
  | succ k ih =>
    intro x hx
    rcases List.mem_append.1 hx with hx | hx
    · exact ih x hx
    · simp at hx; subst hx; exact Nat.mod_lt _ (by omega)
/-- A state as bytes. -/
def out (s : St) : List Nat := outTo s.list 32
theorem out_length (s : St) : (out s).length = 32 := outTo_length _ _
theorem out_bytes (s : St) : Bytes (out s) := outTo_bytes _ _

end Sha
end Go.Proofs.Ytdkhmjiconedkaa
