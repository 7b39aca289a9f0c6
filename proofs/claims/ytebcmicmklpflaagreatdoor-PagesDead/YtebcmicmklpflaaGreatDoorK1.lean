import Derived.Test.YtebcmicmklpflaaGreatDoorProg
import Derived.WalkKit
import Derived.WalkSpells
import Derived.WalkLawsBesides
import Derived.Deep.QuietTactic
import Derived.BigQuiet
import Derived.Deep.WholeRow
import Derived.Great.Walk
import Derived.Deep.RegionWith
import Derived.Deep.MidRow
/- The plain mathematics of SHA-256 on natural numbers: rotations, schedule, rounds, padding. No Go text is named here. -/
namespace Go.Proofs.YtebcmicmklpflaaGreatDoor.Dg
namespace Sha

def M : Nat := 4294967296
def rotr (x n : Nat) : Nat := x / 2 ^ n ||| x * 2 ^ (32 - n) % 4294967296
def add (a b : Nat) : Nat := (a + b) % 4294967296
def shr (x n : Nat) : Nat := x / 2 ^ n
def sig0 (x : Nat) : Nat := rotr x 7 ^^^ rotr x 18 ^^^ shr x 3
def sig1 (x : Nat) : Nat := rotr x 17 ^^^ rotr x 19 ^^^ shr x 10
def sum0 (x : Nat) : Nat := rotr x 2 ^^^ rotr x 13 ^^^ rotr x 22
def sum1 (x : Nat) : Nat := rotr x 6 ^^^ rotr x 11 ^^^ rotr x 25
def ch (e f g : Nat) : Nat := (e &&& f) ^^^ ((4294967295 - e) &&& g)
def maj (a b c : Nat) : Nat := (a &&& b) ^^^ (a &&& c) ^^^ (b &&& c)

theorem lt_or {a b : Nat} (ha : a < 4294967296) (hb : b < 4294967296) : a ||| b < 4294967296 := Nat.or_lt_two_pow (n := 32) ha hb
theorem lt_xor {a b : Nat} (ha : a < 4294967296) (hb : b < 4294967296) : a ^^^ b < 4294967296 := Nat.xor_lt_two_pow (n := 32) ha hb
theorem lt_and {a b : Nat} (ha : a < 4294967296) : a &&& b < 4294967296 := Nat.lt_of_le_of_lt Nat.and_le_left ha
theorem lt_div {a n : Nat} (ha : a < 4294967296) : a / 2 ^ n < 4294967296 := Nat.lt_of_le_of_lt (Nat.div_le_self _ _) ha
theorem rotr_lt {x n : Nat} (hx : x < 4294967296) : rotr x n < 4294967296 := lt_or (lt_div hx) (Nat.mod_lt _ (by omega))
theorem add_lt (a b : Nat) : add a b < 4294967296 := Nat.mod_lt _ (by omega)
theorem shr_lt {x n : Nat} (hx : x < 4294967296) : shr x n < 4294967296 := lt_div hx
theorem sig0_lt {x : Nat} (hx : x < 4294967296) : sig0 x < 4294967296 := lt_xor (lt_xor (rotr_lt hx) (rotr_lt hx)) (shr_lt hx)
theorem sig1_lt {x : Nat} (hx : x < 4294967296) : sig1 x < 4294967296 := lt_xor (lt_xor (rotr_lt hx) (rotr_lt hx)) (shr_lt hx)
theorem sum0_lt {x : Nat} (hx : x < 4294967296) : sum0 x < 4294967296 := lt_xor (lt_xor (rotr_lt hx) (rotr_lt hx)) (rotr_lt hx)
theorem sum1_lt {x : Nat} (hx : x < 4294967296) : sum1 x < 4294967296 := lt_xor (lt_xor (rotr_lt hx) (rotr_lt hx)) (rotr_lt hx)
theorem ch_lt {e f g : Nat} (he : e < 4294967296) : ch e f g < 4294967296 := lt_xor (lt_and he) (lt_and (by omega))
theorem maj_lt {a b c : Nat} (ha : a < 4294967296) (hb : b < 4294967296) : maj a b c < 4294967296 := lt_xor (lt_xor (lt_and ha) (lt_and ha)) (lt_and hb)

/-- The rounds' numbers. -/
def K : List Nat := [
  0x428a2f98, 0x71374491, 0xb5c0fbcf, 0xe9b5dba5, 0x3956c25b, 0x59f111f1, 0x923f82a4, 0xab1c5ed5,
  0xd807aa98, 0x12835b01, 0x243185be, 0x550c7dc3, 0x72be5d74, 0x80deb1fe, 0x9bdc06a7, 0xc19bf174,
  0xe49b69c1, 0xefbe4786, 0x0fc19dc6, 0x240ca1cc, 0x2de92c6f, 0x4a7484aa, 0x5cb0a9dc, 0x76f988da,
  0x983e5152, 0xa831c66d, 0xb00327c8, 0xbf597fc7, 0xc6e00bf3, 0xd5a79147, 0x06ca6351, 0x14292967,
  0x27b70a85, 0x2e1b2138, 0x4d2c6dfc, 0x53380d13, 0x650a7354, 0x766a0abb, 0x81c2c92e, 0x92722c85,
  0xa2bfe8a1, 0xa81a664b, 0xc24b8b70, 0xc76c51a3, 0xd192e819, 0xd6990624, 0xf40e3585, 0x106aa070,
  0x19a4c116, 0x1e376c08, 0x2748774c, 0x34b0bcb5, 0x391c0cb3, 0x4ed8aa4a, 0x5b9cca4f, 0x682e6ff3,
  0x748f82ee, 0x78a5636f, 0x84c87814, 0x8cc70208, 0x90befffa, 0xa4506ceb, 0xbef9a3f7, 0xc67178f2]
def H0 : List Nat := [0x6a09e667, 0xbb67ae85, 0x3c6ef372, 0xa54ff53a, 0x510e527f, 0x9b05688c, 0x1f83d9ab, 0x5be0cd19]

/-- What stands at a place of a list; nought behind its end. -/
def nth (l : List Nat) (i : Nat) : Nat := l[i]?.getD 0
/-- All numbers of a list are words. -/
def Words (l : List Nat) : Prop := ∀ x ∈ l, x < 4294967296
theorem Words.at {l : List Nat} (h : Words l) (i : Nat) : nth l i < 4294967296 := by
  unfold nth
  cases e : l[i]? with
  | none => simp
  | some v => exact h v (List.mem_of_getElem? e)
theorem Words.append {l m : List Nat} (h : Words l) (k : Words m) : Words (l ++ m) := fun x hx => by
  rcases List.mem_append.1 hx with hx | hx
  · exact h x hx
  · exact k x hx
theorem Words.one {x : Nat} (h : x < 4294967296) : Words [x] := fun y hy => by simp at hy; omega
theorem Words.nil : Words [] := fun y hy => by simp at hy
theorem K_words : Words K := by unfold Words; decide
theorem H0_words : Words H0 := by unfold Words; decide
theorem K_length : K.length = 64 := by decide
theorem H0_length : H0.length = 8 := by decide

/-- Four bytes as a word, the highest first. -/
def word (a b c d : Nat) : Nat := a * 2 ^ 24 % 4294967296 ||| b * 2 ^ 16 % 4294967296 ||| c * 2 ^ 8 % 4294967296 ||| d
/-- The word at place i of a row of bytes. -/
def wordAt (p : List Nat) (i : Nat) : Nat := word (nth p (4 * i)) (nth p (4 * i + 1)) (nth p (4 * i + 2)) (nth p (4 * i + 3))
def Bytes (l : List Nat) : Prop := ∀ x ∈ l, x < 256
theorem Bytes.at {l : List Nat} (h : Bytes l) (i : Nat) : nth l i < 256 := by
  unfold nth
  cases e : l[i]? with
  | none => simp
  | some v => exact h v (List.mem_of_getElem? e)
theorem word_lt {a b c d : Nat} (hd : d < 4294967296) : word a b c d < 4294967296 :=
  lt_or (lt_or (lt_or (Nat.mod_lt _ (by omega)) (Nat.mod_lt _ (by omega))) (Nat.mod_lt _ (by omega))) hd
theorem wordAt_lt {p : List Nat} (h : Bytes p) (i : Nat) : wordAt p i < 4294967296 := word_lt (Nat.lt_trans (h.at _) (by omega))

/-- The first words of a block. -/
def first (p : List Nat) : Nat → List Nat
  | 0 => []
  | k + 1 => first p k ++ [wordAt p k]
theorem first_length (p : List Nat) (k : Nat) : (first p k).length = k := by
  induction k with
  | zero => rfl
  | succ k ih => simp [first, ih]
theorem first_words {p : List Nat} (h : Bytes p) (k : Nat) : Words (first p k) := by
  induction k with
  | zero => exact Words.nil
  | succ k ih => exact ih.append (Words.one (wordAt_lt h k))
/-- The next word behind a row of them. -/
def next (l : List Nat) (i : Nat) : Nat := add (add (add (nth l (i - 16)) (sig0 (nth l (i - 15)))) (nth l (i - 7))) (sig1 (nth l (i - 2)))
def more (l : List Nat) : Nat → List Nat
  | 0 => l
  | k + 1 => more l k ++ [next (more l k) (16 + k)]
theorem more_length (l : List Nat) (k : Nat) : (more l k).length = l.length + k := by
  induction k with
  | zero => rfl
  | succ k ih => simp [more, ih]; omega
theorem more_words {l : List Nat} (h : Words l) (k : Nat) : Words (more l k) := by
  induction k with
  | zero => exact h
  | succ k ih => exact ih.append (Words.one (add_lt _ _))
/-- The words w(0) to w(63) of a block. -/
def sched (p : List Nat) : List Nat := more (first p 16) 48
theorem sched_length (p : List Nat) : (sched p).length = 64 := by simp [sched, more_length, first_length]
theorem sched_words {p : List Nat} (h : Bytes p) : Words (sched p) := more_words (first_words h 16) 48

/-- The eight words of a state. -/
structure St where
  a : Nat
  b : Nat
  c : Nat
  d : Nat
  e : Nat
  f : Nat
  g : Nat
  h : Nat
def St.list (s : St) : List Nat := [s.a, s.b, s.c, s.d, s.e, s.f, s.g, s.h]
def St.ok (s : St) : Prop := s.a < 4294967296 ∧ s.b < 4294967296 ∧ s.c < 4294967296 ∧ s.d < 4294967296 ∧ s.e < 4294967296 ∧ s.f < 4294967296 ∧ s.g < 4294967296 ∧ s.h < 4294967296
def t1 (s : St) (k w : Nat) : Nat := add (add (add (add s.h (sum1 s.e)) (ch s.e s.f s.g)) k) w
def t2 (s : St) : Nat := add (sum0 s.a) (maj s.a s.b s.c)
def round (s : St) (k w : Nat) : St := ⟨add (t1 s k w) (t2 s), s.a, s.b, s.c, add s.d (t1 s k w), s.e, s.f, s.g⟩
theorem round_ok {s : St} (h : s.ok) (k w : Nat) : (round s k w).ok := by
  obtain ⟨ha, hb, hc, hd, he, hf, hg, hh⟩ := h
  exact ⟨add_lt _ _, ha, hb, hc, add_lt _ _, he, hf, hg⟩
def rounds (s : St) (w : List Nat) : Nat → St
  | 0 => s
  | i + 1 => round (rounds s w i) (nth K i) (nth w i)
theorem rounds_ok {s : St} (h : s.ok) (w : List Nat) (i : Nat) : (rounds s w i).ok := by
  induction i with
  | zero => exact h
  | succ i ih => exact round_ok ih _ _
def plus (s t : St) : St := ⟨add s.a t.a, add s.b t.b, add s.c t.c, add s.d t.d, add s.e t.e, add s.f t.f, add s.g t.g, add s.h t.h⟩
theorem plus_ok (s t : St) : (plus s t).ok := ⟨add_lt _ _, add_lt _ _, add_lt _ _, add_lt _ _, add_lt _ _, add_lt _ _, add_lt _ _, add_lt _ _⟩
/-- One block. -/
def block (s : St) (p : List Nat) : St := plus s (rounds s (sched p) 64)
theorem block_ok (s : St) (p : List Nat) : (block s p).ok := plus_ok _ _
def start : St := ⟨0x6a09e667, 0xbb67ae85, 0x3c6ef372, 0xa54ff53a, 0x510e527f, 0x9b05688c, 0x1f83d9ab, 0x5be0cd19⟩
theorem start_ok : start.ok := by unfold St.ok start; decide
/-- The first n blocks of a row of bytes. -/
def blocks (s : St) (m : List Nat) : Nat → St
  | 0 => s
  | n + 1 => block (blocks s m n) ((m.drop (64 * n)).take 64)
theorem blocks_ok {s : St} (h : s.ok) (m : List Nat) (n : Nat) : (blocks s m n).ok := by
  cases n with
  | zero => exact h
  | succ n => exact block_ok _ _

/-- The byte i of a state, the highest of each word first. -/
def outAt (l : List Nat) (i : Nat) : Nat := nth l (i / 4) / 2 ^ (24 - 8 * (i % 4)) % 256
def outTo (l : List Nat) : Nat → List Nat
  | 0 => []
  | k + 1 => outTo l k ++ [outAt l k]
theorem outTo_length (l : List Nat) (k : Nat) : (outTo l k).length = k := by
  induction k with
  | zero => rfl
  | succ k ih => simp [outTo, ih]
theorem outTo_bytes (l : List Nat) (k : Nat) : Bytes (outTo l k) := by
  induction k with
  | zero => intro x hx; simp [outTo] at hx
  | succ k ih =>
    intro x hx
    rcases List.mem_append.1 hx with hx | hx
    · exact ih x hx
    · simp at hx; subst hx; exact Nat.mod_lt _ (by omega)
/-- A state as bytes. -/
def out (s : St) : List Nat := outTo s.list 32
theorem out_length (s : St) : (out s).length = 32 := outTo_length _ _
theorem out_bytes (s : St) : Bytes (out s) := outTo_bytes _ _

end Sha
end Go.Proofs.YtebcmicmklpflaaGreatDoor.Dg
/- Laws of the walk for arrays by value in this program: a whole array is loaded from, and stored into, a block, whatever its cells are. -/
namespace Go.Proofs.YtebcmicmklpflaaGreatDoor.Dg
open Go.RowKit

theorem hide {p : Prop} (h : p) : Hid p := h
theorem unhide {p : Prop} (h : Hid p) : p := h
/-- A word, a byte, as a value; a row of them as cells. -/
def W32 (n : Nat) : Value := .int .u32 (n : Int)
def B8 (n : Nat) : Value := .int .u8 (n : Int)
def E32 (l : List Nat) : Array Value := (l.map W32).toArray
def E8 (l : List Nat) : Array Value := (l.map B8).toArray
@[simp] theorem E32_size (l : List Nat) : (E32 l).size = l.length := by simp [E32]
@[simp] theorem E8_size (l : List Nat) : (E8 l).size = l.length := by simp [E8]
theorem E32_get (l : List Nat) (i : Nat) (h : i < l.length) : (E32 l)[i]? = some (.int .u32 ((Sha.nth l i : Nat) : Int)) := by
  simp [E32, W32, List.getElem?_eq_getElem h, Sha.nth]
theorem E8_get (l : List Nat) (i : Nat) (h : i < l.length) : (E8 l)[i]? = some (.int .u8 ((Sha.nth l i : Nat) : Int)) := by
  simp [E8, B8, List.getElem?_eq_getElem h, Sha.nth]
theorem E32_set (l : List Nat) (i : Nat) (n : Nat) : (E32 l).setIfInBounds i (.int .u32 (n : Int)) = E32 (l.set i n) := by
  simp [E32, List.map_set, W32]
theorem E8_set (l : List Nat) (i : Nat) (n : Nat) : (E8 l).setIfInBounds i (.int .u8 (n : Int)) = E8 (l.set i n) := by
  simp [E8, List.map_set, B8]
/-- Every cell is one cell wide. -/
def ones (c : Array Value) : Bool := c.all (·.oneCell')
@[simp] theorem E32_all (l : List Nat) : ones (E32 l) = true := by simp [ones, E32, W32, Value.oneCell']
@[simp] theorem E8_all (l : List Nat) : ones (E8 l) = true := by simp [ones, E8, B8, Value.oneCell']
@[go_sem, simp] theorem E32_getElem (l : List Nat) (i : Nat) (h : i < (E32 l).size) : (E32 l)[i] = .int .u32 ((Sha.nth l i : Nat) : Int) := by
  have := E32_get l i (by simpa using h)
  rw [Array.getElem?_eq_getElem h] at this
  exact Option.some.inj this
@[go_sem, simp] theorem E8_getElem (l : List Nat) (i : Nat) (h : i < (E8 l).size) : (E8 l)[i] = .int .u8 ((Sha.nth l i : Nat) : Int) := by
  have := E8_get l i (by simpa using h)
  rw [Array.getElem?_eq_getElem h] at this
  exact Option.some.inj this
attribute [go_sem] E32_get E8_get E32_set E8_set

/-- The cells of a block. -/
def rowOf (w : World) (b : Nat) : Array Value := match w.heap[b]? with | some (.cells cs _ _) => cs | _ => #[]
/-- A block of so many cells, none of them frozen. -/
def fits (w : World) (b n : Nat) : Bool := match w.heap[b]? with | some (.cells cs _ fr) => cs.size == n && fr == (0, 0) | _ => false

theorem rowOf_of {w w' : World} {b : Nat} (h : w'.heap[b]? = w.heap[b]?) : rowOf w' b = rowOf w b := by unfold rowOf; rw [h]
theorem fits_of {w w' : World} {b n : Nat} (h : w'.heap[b]? = w.heap[b]?) : fits w' b n = fits w b n := by unfold fits; rw [h]
@[go_sem] theorem rowOf_alloc_at (w : World) (c : Array Value) (t : TypeId) (n : Nat) (hn : n = w.heap.size) : rowOf (w.alloc (.cells c t)) n = c := by
  subst hn; unfold rowOf; rw [heap_alloc_new]
@[go_sem] theorem rowOf_alloc_past (w : World) (o : Obj) (n : Nat) (hn : n < w.heap.size) : rowOf (w.alloc o) n = rowOf w n := rowOf_of (Below.heap_alloc w o n hn)
@[go_sem] theorem fits_alloc_at (w : World) (c : Array Value) (t : TypeId) (n k : Nat) (hn : n = w.heap.size) : fits (w.alloc (.cells c t)) n k = (c.size == k) := by
  subst hn; unfold fits; rw [heap_alloc_new]; simp
@[go_sem] theorem fits_alloc_past (w : World) (o : Obj) (n k : Nat) (hn : n < w.heap.size) : fits (w.alloc o) n k = fits w n k := fits_of (Below.heap_alloc w o n hn)
@[go_sem] theorem rowOf_drew (w : World) (n : Nat) : rowOf w.drew n = rowOf w n := rfl
@[go_sem] theorem fits_drew (w : World) (n k : Nat) : fits w.drew n k = fits w n k := rfl
@[go_sem] theorem rowOf_drewN (w : World) (m n : Nat) : rowOf (w.drewN m) n = rowOf w n := rfl
@[go_sem] theorem fits_drewN (w : World) (m n k : Nat) : fits (w.drewN m) n k = fits w n k := rfl
@[go_sem] theorem rowOf_setCell_other (w : World) (a : Addr) (v : Value) (n : Nat) (hn : n ≠ a.block) : rowOf (w.setCell a v) n = rowOf w n := rowOf_of (Below.heap_setCell w a v n hn)
@[go_sem] theorem fits_setCell_other (w : World) (a : Addr) (v : Value) (n k : Nat) (hn : n ≠ a.block) : fits (w.setCell a v) n k = fits w n k := fits_of (Below.heap_setCell w a v n hn)
theorem fits_some {w : World} {b n : Nat} (h : fits w b n = true) : ∃ cs t, w.heap[b]? = some (.cells cs t (0, 0)) ∧ cs.size = n ∧ rowOf w b = cs := by
  unfold fits at h
  split at h
  · rename_i cs t fr e
    simp at h
    obtain ⟨h1, h2⟩ := h
    refine ⟨cs, t, ?_, h1, ?_⟩
    · rw [e, h2]
    · unfold rowOf; rw [e]
  · simp at h
theorem rowOf_some {w : World} {b n : Nat} (h : (rowOf w b).size = n) (hn : 0 < n) : ∃ cs t fr, w.heap[b]? = some (.cells cs t fr) ∧ rowOf w b = cs := by
  unfold rowOf at h ⊢
  split at h
  · rename_i cs t fr e
    exact ⟨cs, t, fr, e, rfl⟩
  · simp at h; omega
theorem cell_row (w : World) (b i : Nat) (v : Value) (h : (rowOf w b)[i]? = some v) : w.cell? ⟨b, i, none⟩ = some v := by
  unfold rowOf at h
  split at h
  · rename_i cs t fr e
    rw [cell_of_row w b i cs t fr e]; exact h
  · simp at h
theorem frozen_fits {w : World} {b n : Nat} (h : fits w b n = true) (i : Nat) : w.frozen? ⟨b, i, none⟩ = false := by
  obtain ⟨cs, t, e, -, -⟩ := fits_some h
  simp [World.frozen?, e]

section
variable {P : Program}
theorem run_loadVar_rowOf (w : World) (b : Nat) (ty : TypeId) (n : Nat) (d : TypeDesc) (hu : P.underlying ty = some d) (hd : (match d with | .struct _ | .array _ _ => true | _ => false) = true)
    (hi : (P.info? ty).map (·.size) = some n) (hn : 0 < n) (h : (rowOf w b).size = n) : (loadVar ty ⟨b, 0, none⟩).run P w = .ok (.agg (rowOf w b)) w := by
  obtain ⟨cs, t, fr, e, er⟩ := rowOf_some h hn
  rw [er]
  exact run_loadVar_row w b t ty cs fr d e hu hd (by rw [hi, ← h, er])
theorem run_storeVar_rowOf (w : World) (b : Nat) (ty : TypeId) (n : Nat) (c : Array Value) (hi : (P.info? ty).map (·.size) = some n) (h : fits w b n = true) (hc : c.size = n) (h1 : ones c = true) :
    (storeVar ty ⟨b, 0, none⟩ (.agg c)).run P w = .ok () (w.setRow b c) := by
  obtain ⟨cs, t, e, es, er⟩ := fits_some h
  exact run_storeVar_row w b t ty cs c e (by rw [hi, hc]) (by rw [es, hc]) h1
@[go_sem ↓] theorem run_storeCells_rowOf (w : World) (b : Nat) (c : Array Value) (h : fits w b c.size = true) (h1 : ones c = true) :
    (storeCells ⟨b, 0, none⟩ c.toList 0).run P w = .ok () (w.setRow b c) := by
  obtain ⟨cs, t, e, es, er⟩ := fits_some h
  have := run_storeCells_from (P := P) b t c.toList 0 cs w e (by simp; omega) (fun v hv => (Array.all_eq_true_iff_forall_mem.1 h1) v (by simpa using hv))
  simpa using this
@[go_sem ↓] theorem run_loadCells_rowOf (w : World) (b n : Nat) (h : (rowOf w b).size = n) (hn : 0 < n) :
    (loadCellsFrom ⟨b, 0, none⟩ 0 n #[]).run P w = .ok (rowOf w b) w := by
  obtain ⟨cs, t, fr, e, er⟩ := rowOf_some h hn
  rw [er] at h ⊢
  subst h
  have := run_loadCells_list (P := P) w ⟨b, 0, none⟩ cs.toList (fun j v hv => by
    have hadd : (⟨b, 0, none⟩ : Addr).add j = ⟨b, j, none⟩ := by unfold Addr.add; split <;> simp_all
    rw [hadd, cell_of_row w b j cs t fr e]
    simpa using hv)
  simpa [loadCells] using this
/-- The result that lies in a block: its cells. -/
theorem results_rowOf {fn : Func} {p : Tmp} {ty : TypeId} (h : fn.results = #[.cell p ty]) (n : Nat) (d : TypeDesc) (hu : P.underlying ty = some d) (hd : (match d with | .struct _ | .array _ _ => true | _ => false) = true)
    (hi : (P.info? ty).map (·.size) = some n) (hn : 0 < n) {tmps : Array Value} {w : World} {b : Nat} (hp : tmps.getD p undef = .pointer (some ⟨b, 0, none⟩)) {c : Array Value} (hr : rowOf w b = c) (hs : c.size = n) :
    (results fn tmps).run P w = .ok (.agg c) w := by
  obtain ⟨cs, t, fr, e, er⟩ := rowOf_some (by rw [hr, hs]) hn
  have ec : cs = c := by rw [← er, hr]
  subst ec
  exact results_cell_row h tmps w b t cs fr d hp e hu hd (by rw [hi, hs])
end

@[go_sem] theorem setRow_alloc_at (w : World) (c c' : Array Value) (t : TypeId) (n : Nat) (hn : n = w.heap.size) : (w.alloc (.cells c t)).setRow n c' = w.alloc (.cells c' t) := by
  subst hn; exact World.setRow_alloc_new w c c' t
@[go_sem] theorem setRow_alloc_past (w : World) (o : Obj) (c' : Array Value) (n : Nat) (hn : n < w.heap.size) : (w.alloc o).setRow n c' = (w.setRow n c').alloc o := by
  unfold World.setRow World.alloc
  congr 1
  apply Array.ext_getElem?
  intro k
  simp only [Array.getElem?_modify, Array.getElem?_push, Array.size_modify]
  by_cases hk : k = w.heap.size
  · subst hk
    simp [Nat.ne_of_lt hn]
  · simp [hk]
@[go_sem] theorem setRow_drew (w : World) (n : Nat) (c : Array Value) : w.drew.setRow n c = (w.setRow n c).drew := rfl
@[go_sem] theorem drewN_setCell (w : World) (m : Nat) (a : Addr) (v : Value) : (w.drewN m).setCell a v = (w.setCell a v).drewN m := rfl
@[go_sem] theorem drewN_setRow (w : World) (m n : Nat) (c : Array Value) : (w.drewN m).setRow n c = (w.setRow n c).drewN m := rfl
@[go_sem] theorem rowOf_setRow_at (w : World) (n k : Nat) (c : Array Value) (h : fits w n k = true) : rowOf (w.setRow n c) n = c := by
  obtain ⟨cs, t, e, -, -⟩ := fits_some h
  unfold rowOf; rw [setRow_heap w n cs c t _ e]
theorem below_setRow {B : Nat} {a w : World} (h : Below B a w) {g : Nat} (hg : B ≤ g) (c : Array Value) : Below B a (w.setRow g c) :=
  h.trans ⟨rfl, rfl, rfl, by simp, fun k hk => setRow_other w g k c (by omega)⟩
theorem below_drews {B : Nat} {a w : World} (h : Below B a w) (n : Nat) : Below B a (w.drewN n) := ⟨h.os, h.tape, h.output, h.size, h.block⟩
theorem below_rowOf {B : Nat} {a w : World} (h : Below B a w) {b : Nat} (hb : b < B) : rowOf w b = rowOf a b := rowOf_of (h.block b hb)
theorem below_fits {B : Nat} {a w : World} (h : Below B a w) {b n : Nat} (hb : b < B) : fits w b n = fits a b n := fits_of (h.block b hb)

/-! The array types of this program: 54 is sixty-four words, 50 eight words, 25 thirty-two bytes, 58 sixty-four bytes, 93 a hundred and twenty-eight, 30 twenty. -/
attribute [simp] Sha.K_length Sha.sched_length

def Z275 : Array Value := E32 (List.replicate 64 0)
set_option maxRecDepth 20000 in
theorem Z275_info : ((Tryz.prog.info? 275).map (fun i => (i.zero, i.size))) = some (some (.agg Z275), 64) := by kernel_rfl
@[go_sem ↓] theorem zero275 (w : World) : (zeroValue 275).run Tryz.prog w = .ok (.agg Z275) w := (zero_of_info Z275_info).1 w
@[simp] theorem Z275_size : Z275.size = 64 := by simp [Z275]
def ld275 (v : Value) : Sem Value := Instr.loadAt 275 v
def st275 (p v : Value) : Sem Unit := Instr.storeAt 275 p v
@[go_sem ↓] theorem loadAt275 (v : Value) : Instr.loadAt 275 v = ld275 v := rfl
@[go_sem ↓] theorem storeAt275 (p v : Value) : Instr.storeAt 275 p v = st275 p v := rfl
@[go_sem] theorem run_ld275 (w : World) (b : Nat) (h : (rowOf w b).size = 64) : (ld275 (.pointer (some ⟨b, 0, none⟩))).run Tryz.prog w = .ok (.agg (rowOf w b)) w := by
  unfold ld275
  simp only [Instr.loadAt, Instr.sureAddr, Sem.run_bind, Sem.run_pure, Result.andThen]
  exact run_loadVar_rowOf w b 275 64 _ Tryz.underlying275 rfl (zero_of_info Z275_info).2 (by omega) h
@[go_sem] theorem run_st275 (w : World) (b : Nat) (c : Array Value) (h : fits w b 64 = true) (hc : c.size = 64) (h1 : ones c = true) :
    (st275 (.pointer (some ⟨b, 0, none⟩)) (.agg c)).run Tryz.prog w = .ok () (w.setRow b c) := by
  unfold st275
  simp only [Instr.storeAt, Instr.sureAddr, Sem.run_bind, Sem.run_pure, Result.andThen]
  exact run_storeVar_rowOf w b 275 64 c (zero_of_info Z275_info).2 h hc h1
theorem res275 {fn : Func} {p : Tmp} (h : fn.results = #[.cell p 275]) {tmps : Array Value} {w : World} {b : Nat} (hp : tmps.getD p undef = .pointer (some ⟨b, 0, none⟩)) {c : Array Value} (hr : rowOf w b = c) (hs : c.size = 64) :
    (results fn tmps).run Tryz.prog w = .ok (.agg c) w := results_rowOf h 64 _ Tryz.underlying275 rfl (zero_of_info Z275_info).2 (by omega) hp hr hs

def Z250 : Array Value := E32 (List.replicate 8 0)
set_option maxRecDepth 20000 in
theorem Z250_info : ((Tryz.prog.info? 250).map (fun i => (i.zero, i.size))) = some (some (.agg Z250), 8) := by kernel_rfl
theorem zero250 (w : World) : (zeroValue 250).run Tryz.prog w = .ok (.agg Z250) w := (zero_of_info Z250_info).1 w
@[simp] theorem Z250_size : Z250.size = 8 := by simp [Z250]
def ld250 (v : Value) : Sem Value := Instr.loadAt 250 v
def st250 (p v : Value) : Sem Unit := Instr.storeAt 250 p v
@[go_sem ↓] theorem loadAt250 (v : Value) : Instr.loadAt 250 v = ld250 v := rfl
@[go_sem ↓] theorem storeAt250 (p v : Value) : Instr.storeAt 250 p v = st250 p v := rfl
@[go_sem] theorem run_ld250 (w : World) (b : Nat) (h : (rowOf w b).size = 8) : (ld250 (.pointer (some ⟨b, 0, none⟩))).run Tryz.prog w = .ok (.agg (rowOf w b)) w := by
  unfold ld250
  simp only [Instr.loadAt, Instr.sureAddr, Sem.run_bind, Sem.run_pure, Result.andThen]
  exact run_loadVar_rowOf w b 250 8 _ Tryz.underlying250 rfl (zero_of_info Z250_info).2 (by omega) h
@[go_sem] theorem run_st250 (w : World) (b : Nat) (c : Array Value) (h : fits w b 8 = true) (hc : c.size = 8) (h1 : ones c = true) :
    (st250 (.pointer (some ⟨b, 0, none⟩)) (.agg c)).run Tryz.prog w = .ok () (w.setRow b c) := by
  unfold st250
  simp only [Instr.storeAt, Instr.sureAddr, Sem.run_bind, Sem.run_pure, Result.andThen]
  exact run_storeVar_rowOf w b 250 8 c (zero_of_info Z250_info).2 h hc h1
theorem res250 {fn : Func} {p : Tmp} (h : fn.results = #[.cell p 250]) {tmps : Array Value} {w : World} {b : Nat} (hp : tmps.getD p undef = .pointer (some ⟨b, 0, none⟩)) {c : Array Value} (hr : rowOf w b = c) (hs : c.size = 8) :
    (results fn tmps).run Tryz.prog w = .ok (.agg c) w := results_rowOf h 8 _ Tryz.underlying250 rfl (zero_of_info Z250_info).2 (by omega) hp hr hs

def Z113 : Array Value := E8 (List.replicate 32 0)
set_option maxRecDepth 20000 in
theorem Z113_info : ((Tryz.prog.info? 113).map (fun i => (i.zero, i.size))) = some (some (.agg Z113), 32) := by kernel_rfl
@[go_sem ↓] theorem zero113 (w : World) : (zeroValue 113).run Tryz.prog w = .ok (.agg Z113) w := (zero_of_info Z113_info).1 w
@[simp] theorem Z113_size : Z113.size = 32 := by simp [Z113]
def ld113 (v : Value) : Sem Value := Instr.loadAt 113 v
def st113 (p v : Value) : Sem Unit := Instr.storeAt 113 p v
@[go_sem ↓] theorem loadAt113 (v : Value) : Instr.loadAt 113 v = ld113 v := rfl
@[go_sem ↓] theorem storeAt113 (p v : Value) : Instr.storeAt 113 p v = st113 p v := rfl
@[go_sem] theorem run_ld113 (w : World) (b : Nat) (h : (rowOf w b).size = 32) : (ld113 (.pointer (some ⟨b, 0, none⟩))).run Tryz.prog w = .ok (.agg (rowOf w b)) w := by
  unfold ld113
  simp only [Instr.loadAt, Instr.sureAddr, Sem.run_bind, Sem.run_pure, Result.andThen]
  exact run_loadVar_rowOf w b 113 32 _ Tryz.underlying113 rfl (zero_of_info Z113_info).2 (by omega) h
@[go_sem] theorem run_st113 (w : World) (b : Nat) (c : Array Value) (h : fits w b 32 = true) (hc : c.size = 32) (h1 : ones c = true) :
    (st113 (.pointer (some ⟨b, 0, none⟩)) (.agg c)).run Tryz.prog w = .ok () (w.setRow b c) := by
  unfold st113
  simp only [Instr.storeAt, Instr.sureAddr, Sem.run_bind, Sem.run_pure, Result.andThen]
  exact run_storeVar_rowOf w b 113 32 c (zero_of_info Z113_info).2 h hc h1
theorem res113 {fn : Func} {p : Tmp} (h : fn.results = #[.cell p 113]) {tmps : Array Value} {w : World} {b : Nat} (hp : tmps.getD p undef = .pointer (some ⟨b, 0, none⟩)) {c : Array Value} (hr : rowOf w b = c) (hs : c.size = 32) :
    (results fn tmps).run Tryz.prog w = .ok (.agg c) w := results_rowOf h 32 _ Tryz.underlying113 rfl (zero_of_info Z113_info).2 (by omega) hp hr hs

def Z251 : Array Value := E8 (List.replicate 64 0)
set_option maxRecDepth 20000 in
theorem Z251_info : ((Tryz.prog.info? 251).map (fun i => (i.zero, i.size))) = some (some (.agg Z251), 64) := by kernel_rfl
@[go_sem ↓] theorem zero251 (w : World) : (zeroValue 251).run Tryz.prog w = .ok (.agg Z251) w := (zero_of_info Z251_info).1 w
@[simp] theorem Z251_size : Z251.size = 64 := by simp [Z251]
def ld251 (v : Value) : Sem Value := Instr.loadAt 251 v
def st251 (p v : Value) : Sem Unit := Instr.storeAt 251 p v
@[go_sem ↓] theorem loadAt251 (v : Value) : Instr.loadAt 251 v = ld251 v := rfl
@[go_sem ↓] theorem storeAt251 (p v : Value) : Instr.storeAt 251 p v = st251 p v := rfl
@[go_sem] theorem run_ld251 (w : World) (b : Nat) (h : (rowOf w b).size = 64) : (ld251 (.pointer (some ⟨b, 0, none⟩))).run Tryz.prog w = .ok (.agg (rowOf w b)) w := by
  unfold ld251
  simp only [Instr.loadAt, Instr.sureAddr, Sem.run_bind, Sem.run_pure, Result.andThen]
  exact run_loadVar_rowOf w b 251 64 _ Tryz.underlying251 rfl (zero_of_info Z251_info).2 (by omega) h
@[go_sem] theorem run_st251 (w : World) (b : Nat) (c : Array Value) (h : fits w b 64 = true) (hc : c.size = 64) (h1 : ones c = true) :
    (st251 (.pointer (some ⟨b, 0, none⟩)) (.agg c)).run Tryz.prog w = .ok () (w.setRow b c) := by
  unfold st251
  simp only [Instr.storeAt, Instr.sureAddr, Sem.run_bind, Sem.run_pure, Result.andThen]
  exact run_storeVar_rowOf w b 251 64 c (zero_of_info Z251_info).2 h hc h1
theorem res251 {fn : Func} {p : Tmp} (h : fn.results = #[.cell p 251]) {tmps : Array Value} {w : World} {b : Nat} (hp : tmps.getD p undef = .pointer (some ⟨b, 0, none⟩)) {c : Array Value} (hr : rowOf w b = c) (hs : c.size = 64) :
    (results fn tmps).run Tryz.prog w = .ok (.agg c) w := results_rowOf h 64 _ Tryz.underlying251 rfl (zero_of_info Z251_info).2 (by omega) hp hr hs

def Z280 : Array Value := E8 (List.replicate 128 0)
set_option maxRecDepth 20000 in
theorem Z280_info : ((Tryz.prog.info? 280).map (fun i => (i.zero, i.size))) = some (some (.agg Z280), 128) := by kernel_rfl
@[go_sem ↓] theorem zero280 (w : World) : (zeroValue 280).run Tryz.prog w = .ok (.agg Z280) w := (zero_of_info Z280_info).1 w
@[simp] theorem Z280_size : Z280.size = 128 := by simp [Z280]
def ld280 (v : Value) : Sem Value := Instr.loadAt 280 v
def st280 (p v : Value) : Sem Unit := Instr.storeAt 280 p v
@[go_sem ↓] theorem loadAt280 (v : Value) : Instr.loadAt 280 v = ld280 v := rfl
@[go_sem ↓] theorem storeAt280 (p v : Value) : Instr.storeAt 280 p v = st280 p v := rfl
@[go_sem] theorem run_ld280 (w : World) (b : Nat) (h : (rowOf w b).size = 128) : (ld280 (.pointer (some ⟨b, 0, none⟩))).run Tryz.prog w = .ok (.agg (rowOf w b)) w := by
  unfold ld280
  simp only [Instr.loadAt, Instr.sureAddr, Sem.run_bind, Sem.run_pure, Result.andThen]
  exact run_loadVar_rowOf w b 280 128 _ Tryz.underlying280 rfl (zero_of_info Z280_info).2 (by omega) h
@[go_sem] theorem run_st280 (w : World) (b : Nat) (c : Array Value) (h : fits w b 128 = true) (hc : c.size = 128) (h1 : ones c = true) :
    (st280 (.pointer (some ⟨b, 0, none⟩)) (.agg c)).run Tryz.prog w = .ok () (w.setRow b c) := by
  unfold st280
  simp only [Instr.storeAt, Instr.sureAddr, Sem.run_bind, Sem.run_pure, Result.andThen]
  exact run_storeVar_rowOf w b 280 128 c (zero_of_info Z280_info).2 h hc h1
theorem res280 {fn : Func} {p : Tmp} (h : fn.results = #[.cell p 280]) {tmps : Array Value} {w : World} {b : Nat} (hp : tmps.getD p undef = .pointer (some ⟨b, 0, none⟩)) {c : Array Value} (hr : rowOf w b = c) (hs : c.size = 128) :
    (results fn tmps).run Tryz.prog w = .ok (.agg c) w := results_rowOf h 128 _ Tryz.underlying280 rfl (zero_of_info Z280_info).2 (by omega) hp hr hs

@[go_sem] theorem all_eight (k : IntKind) (a b c d e f g h : Int) : ones #[Value.int k a, .int k b, .int k c, .int k d, .int k e, .int k f, .int k g, .int k h] = true := by simp [ones, Value.oneCell']
theorem E32_eight (s : Sha.St) : E32 s.list = #[Value.int .u32 (s.a : Int), .int .u32 (s.b : Int), .int .u32 (s.c : Int), .int .u32 (s.d : Int), .int .u32 (s.e : Int), .int .u32 (s.f : Int), .int .u32 (s.g : Int), .int .u32 (s.h : Int)] := rfl
@[simp] theorem list_eight (s : Sha.St) : s.list.length = 8 := rfl
end Go.Proofs.YtebcmicmklpflaaGreatDoor.Dg
/- The leaves of the digest's code and of the document's own answer: rotations, a word of four bytes, the constants. -/
namespace Go.Proofs.YtebcmicmklpflaaGreatDoor.Dg
open Go.RowKit Go.Great

theorem ret_int {k : IntKind} {a b : Int} (h : a = b) : Ending.returned (.int k a) = .returned (.int k b) := by rw [h]
theorem neg31 (n : Nat) (h1 : 1 ≤ n) (h2 : n ≤ 31) : bits .and .u64 (IntKind.u64.wrap (-(n : Int))) 31 = ((32 - n : Nat) : Int) := by
  have : ∀ n : Fin 32, 1 ≤ n.val → bits .and .u64 (IntKind.u64.wrap (-(n.val : Int))) 31 = ((32 - n.val : Nat) : Int) := by decide
  exact this ⟨n, by omega⟩ h1

theorem mod32 (y : Nat) : ((y : Int) % 4294967296) = ((y % 4294967296 : Nat) : Int) := by omega
theorem mul_pow (x m : Nat) : (x : Int) * 2 ^ m = ((x * 2 ^ m : Nat) : Int) := by push_cast; rfl
theorem or_rotr (x n : Nat) (hx : x < 4294967296) : bits .or .u32 ((x : Int) / 2 ^ n) ((x : Int) * 2 ^ (32 - n) % 4294967296) = (Sha.rotr x n : Nat) := by
  have e1 : ((x : Int) / 2 ^ n) = ((x / 2 ^ n : Nat) : Int) := by push_cast; rfl
  have e2 : ((x : Int) * 2 ^ (32 - n) % 4294967296) = ((x * 2 ^ (32 - n) % 4294967296 : Nat) : Int) := by rw [mul_pow, mod32]
  rw [e1, e2, u32_or_nat _ _ (Sha.lt_div hx) (Nat.mod_lt _ (by omega))]; rfl
theorem or_rotr' (x n m : Nat) (hx : x < 4294967296) (h2 : n ≤ 31) (hm : 32 - n = m) : bits .or .u32 ((x : Int) * 2 ^ m % 4294967296) ((x : Int) / 2 ^ (32 - m)) = (Sha.rotr x n : Nat) := by
  have e3 : 32 - m = n := by omega
  rw [e3]; subst hm
  have e1 : ((x : Int) / 2 ^ n) = ((x / 2 ^ n : Nat) : Int) := by push_cast; rfl
  have e2 : ((x : Int) * 2 ^ (32 - n) % 4294967296) = ((x * 2 ^ (32 - n) % 4294967296 : Nat) : Int) := by rw [mul_pow, mod32]
  rw [e1, e2, u32_or_nat _ _ (Nat.mod_lt _ (by omega)) (Sha.lt_div hx), Nat.or_comm]; rfl

set_option maxHeartbeats 400000 in
theorem rot_any (x n : Nat) (w : World) (hx : x < 4294967296) (h1 : 1 ≤ n) (h2 : n ≤ 31) :
    Calls Tryz.prog 261 #[.int .u32 (x : Int), .int .i64 (-(n : Int))] w fun e w' => e = .returned (.int .u32 (Sha.rotr x n : Nat)) ∧ w' = w := by
  have hs := neg31 n h1 h2
  have h3 : (0 : Int) ≤ ((32 - n : Nat) : Int) := by omega
  have h4 : ((32 - n : Nat) : Int) ≤ 32 := by omega
  generalize hm : (32 - n : Nat) = m at *
  have HM : Hid (32 - n = m) := hm
  clear hm
  go_enter Tryz.func261, Tryz.ntmps261
  go_wp2
  go_ret
  exact ⟨ret_int (or_rotr' x n m hx h2 HM.out), rfl⟩

set_option maxHeartbeats 400000 in
theorem turn_any (x : Nat) (n : Nat) (w : World) (hx : x < 4294967296) (h1 : 1 ≤ n) (h2 : n ≤ 31) :
    Calls Tryz.prog 247 #[.int .u32 (x : Int), .int .i64 (n : Int)] w fun e w' => e = .returned (.int .u32 (Sha.rotr x n : Nat)) ∧ w' = w := by
  go_enter Tryz.func247, Tryz.ntmps247
  go_wp2_with (go_at_call 261; refine (rot_any x n _ hx h1 h2).mono ?_; rintro e w' ⟨rfl, rfl⟩)
  go_ret
  exact ⟨rfl, rfl⟩

theorem turn_i (x : Nat) (n : Int) (w : World) (hx : x < 4294967296) (h1 : 1 ≤ n) (h2 : n ≤ 31) :
    Calls Tryz.prog 247 #[.int .u32 (x : Int), .int .i64 n] w fun e w' => e = .returned (.int .u32 (Sha.rotr x n.toNat : Nat)) ∧ w' = w := by
  obtain ⟨m, rfl⟩ := Int.eq_ofNat_of_zero_le (show 0 ≤ n by omega)
  exact turn_any x m w hx (by omega) (by omega)
/-! Sums and digits of words, brought to natural numbers as the walk goes. -/
def x32 (a b : Nat) : Nat := (bits .xor .u32 (a : Int) (b : Int)).toNat
def a32 (a b : Nat) : Nat := (bits .and .u32 (a : Int) (b : Int)).toNat
def n32 (a : Nat) : Nat := 4294967295 - a
theorem x32_eq {a b : Nat} (ha : a < 4294967296) (hb : b < 4294967296) : x32 a b = a ^^^ b := by unfold x32; rw [u32_xor_nat a b ha hb]; rfl
theorem a32_eq {a b : Nat} (ha : a < 4294967296) (hb : b < 4294967296) : a32 a b = a &&& b := by unfold a32; rw [u32_and_nat a b ha hb]; rfl
theorem bits_pos (op : BinOp) (a b : Int) : 0 ≤ bits op .u32 a b := by
  have h := (bits_within op .u32 a b).1
  have e : IntKind.u32.min = 0 := by decide
  rw [e] at h; exact h
@[go_sem] theorem f_xor (a b : Nat) : bits .xor .u32 (a : Int) (b : Int) = ((x32 a b : Nat) : Int) := by unfold x32; have := bits_pos .xor (a : Int) (b : Int); omega
@[go_sem] theorem f_and (a b : Nat) : bits .and .u32 (a : Int) (b : Int) = ((a32 a b : Nat) : Int) := by unfold a32; have := bits_pos .and (a : Int) (b : Int); omega
@[go_sem] theorem sig0_x (x : Nat) (hx : x < 4294967296) : x32 (x32 (Sha.rotr x 7) (Sha.rotr x 18)) (Sha.shr x 3) = Sha.sig0 x := by
  rw [x32_eq (Sha.rotr_lt hx) (Sha.rotr_lt hx), x32_eq (Sha.lt_xor (Sha.rotr_lt hx) (Sha.rotr_lt hx)) (Sha.shr_lt hx)]; rfl
@[go_sem] theorem sig1_x (x : Nat) (hx : x < 4294967296) : x32 (x32 (Sha.rotr x 17) (Sha.rotr x 19)) (Sha.shr x 10) = Sha.sig1 x := by
  rw [x32_eq (Sha.rotr_lt hx) (Sha.rotr_lt hx), x32_eq (Sha.lt_xor (Sha.rotr_lt hx) (Sha.rotr_lt hx)) (Sha.shr_lt hx)]; rfl
@[go_sem] theorem sum0_x (x : Nat) (hx : x < 4294967296) : x32 (x32 (Sha.rotr x 2) (Sha.rotr x 13)) (Sha.rotr x 22) = Sha.sum0 x := by
  rw [x32_eq (Sha.rotr_lt hx) (Sha.rotr_lt hx), x32_eq (Sha.lt_xor (Sha.rotr_lt hx) (Sha.rotr_lt hx)) (Sha.rotr_lt hx)]; rfl
@[go_sem] theorem sum1_x (x : Nat) (hx : x < 4294967296) : x32 (x32 (Sha.rotr x 6) (Sha.rotr x 11)) (Sha.rotr x 25) = Sha.sum1 x := by
  rw [x32_eq (Sha.rotr_lt hx) (Sha.rotr_lt hx), x32_eq (Sha.lt_xor (Sha.rotr_lt hx) (Sha.rotr_lt hx)) (Sha.rotr_lt hx)]; rfl
@[go_sem] theorem ch_x (e f g : Nat) (he : e < 4294967296) (hf : f < 4294967296) (hg : g < 4294967296) : x32 (a32 e f) (a32 (n32 e) g) = Sha.ch e f g := by
  rw [a32_eq he hf, a32_eq (show n32 e < 4294967296 by unfold n32; omega) hg, x32_eq (Sha.lt_and he) (Sha.lt_and (by unfold n32; omega))]; rfl
@[go_sem] theorem maj_x (a b c : Nat) (ha : a < 4294967296) (hb : b < 4294967296) (hc : c < 4294967296) : x32 (x32 (a32 a b) (a32 a c)) (a32 b c) = Sha.maj a b c := by
  rw [a32_eq ha hb, a32_eq ha hc, a32_eq hb hc, x32_eq (Sha.lt_and ha) (Sha.lt_and ha), x32_eq (Sha.lt_xor (Sha.lt_and ha) (Sha.lt_and ha)) (Sha.lt_and hb)]; rfl
theorem xor_ones (e : Nat) (he : e < 4294967296) : 4294967295 ^^^ e = 4294967295 - e := by
  have h := congrArg BitVec.toNat (BitVec.xor_allOnes (x := BitVec.ofNat 32 e))
  rw [BitVec.toNat_xor, BitVec.toNat_not, BitVec.toNat_ofNat, BitVec.toNat_allOnes, Nat.mod_eq_of_lt he] at h
  rw [Nat.xor_comm]
  exact h
@[go_sem] theorem f_not (e : Nat) (he : e < 4294967296) : bits .xor .u32 (if IntKind.u32.signed = true then -1 else IntKind.u32.max) (e : Int) = ((n32 e : Nat) : Int) := by
  have h : (if IntKind.u32.signed = true then (-1 : Int) else IntKind.u32.max) = ((4294967295 : Nat) : Int) := by decide
  rw [h, u32_xor_nat _ _ (by omega) he, xor_ones e he]; rfl
@[go_sem] theorem f_add (a b : Nat) : ((a : Int) + (b : Int)) % 4294967296 = ((Sha.add a b : Nat) : Int) := by unfold Sha.add; omega
theorem f_8 (a : Nat) : (a : Int) / 8 = ((Sha.shr a 3 : Nat) : Int) := by unfold Sha.shr; omega
theorem f_1024 (a : Nat) : (a : Int) / 1024 = ((Sha.shr a 10 : Nat) : Int) := by unfold Sha.shr; omega

theorem or_word (x0 x1 x2 x3 : Nat) (l0 : x0 < 256) (l1 : x1 < 256) (l2 : x2 < 256) (l3 : x3 < 256) :
    bits .or .u32 (bits .or .u32 (bits .or .u32 ((x0 : Int) * 16777216) ((x1 : Int) * 65536)) ((x2 : Int) * 256)) (x3 : Int) = (Sha.word x0 x1 x2 x3 : Nat) := by
  have e0 : ((x0 : Int) * 16777216) = ((x0 * 2 ^ 24 % 4294967296 : Nat) : Int) := by omega
  have e1 : ((x1 : Int) * 65536) = ((x1 * 2 ^ 16 % 4294967296 : Nat) : Int) := by omega
  have e2 : ((x2 : Int) * 256) = ((x2 * 2 ^ 8 % 4294967296 : Nat) : Int) := by omega
  have m (a : Nat) : a % 4294967296 < 4294967296 := Nat.mod_lt _ (by omega)
  rw [e0, e1, e2, u32_or_nat _ _ (m _) (m _), u32_or_nat _ _ (Sha.lt_or (m _) (m _)) (m _), u32_or_nat _ _ (Sha.lt_or (Sha.lt_or (m _) (m _)) (m _)) (by omega)]
  rfl

set_option maxHeartbeats 400000 in
theorem word_any (b o : Nat) (x0 x1 x2 x3 : Nat) (cap : Nat) (w : World) (h0 : w.cell? ⟨b, o, none⟩ = some (.int .u8 (x0 : Int))) (h1 : w.cell? ⟨b, o + 1, none⟩ = some (.int .u8 (x1 : Int)))
    (h2 : w.cell? ⟨b, o + 2, none⟩ = some (.int .u8 (x2 : Int))) (h3 : w.cell? ⟨b, o + 3, none⟩ = some (.int .u8 (x3 : Int)))
    (l0 : x0 < 256) (l1 : x1 < 256) (l2 : x2 < 256) (l3 : x3 < 256) :
    Calls Tryz.prog 246 #[.slice (some ⟨b, o, none⟩) 4 cap] w fun e w' => e = .returned (.int .u32 (Sha.word x0 x1 x2 x3 : Nat)) ∧ ∃ n, w' = w.drewN n := by
  go_enter Tryz.func246, Tryz.ntmps246
  go_wp2
  go_quiet (fail)
  go_wp2
  go_ret
  exact ⟨ret_int (or_word x0 x1 x2 x3 l0 l1 l2 l3), nq, rfl⟩

set_option maxHeartbeats 400000 in
theorem firstState_any (w : World) :
    Calls Tryz.prog 221 #[] w fun e w' => e = .returned (.agg (E32 Sha.start.list)) ∧ Below w.heap.size w w' := by
  go_enter Tryz.func221, Tryz.ntmps221
  go_wp2
  refine bodyPost_ret (v := .agg (E32 Sha.start.list)) (res250 Tryz.results221 rfl (rowOf_alloc_at _ _ _ _ rfl) rfl) rfl ⟨rfl, (Below.refl _ _).alloc (Nat.le_refl _) _⟩

theorem K_ints : (((Sha.K.map Int.ofNat).map (Value.int .u32)).toArray : Array Value) = E32 Sha.K := by
  rw [List.map_map]; rfl
set_option maxRecDepth 100000 in
set_option maxHeartbeats 400000 in
theorem roundNumbers_any (w : World) :
    Calls Tryz.prog 223 #[] w fun e w' => e = .returned (.agg (E32 Sha.K)) ∧ Below w.heap.size w w' := by
  go_enter Tryz.func223, Tryz.ntmps223
  iterate 6 go_step
  iterate 3 (first | go_back | go_upon | go_step)
  iterate 2 go_step
  refine wpList_buildFlatArrTo rfl 275 82 64 _ rfl .u32 (Sha.K.map Int.ofNat) (some 1) rfl (by as_aux_lemma => kernel_rfl) (by as_aux_lemma => kernel_rfl) (by as_aux_lemma => kernel_rfl) (by as_aux_lemma => kernel_rfl) ?_
  rw [K_ints]
  go_wp2
  refine bodyPost_ret (v := .agg (E32 Sha.K)) (res275 Tryz.results223 rfl (rowOf_alloc_at _ _ _ _ rfl) (by simp)) rfl ⟨rfl, (Below.refl _ _).alloc (Nat.le_refl _) _⟩

set_option maxHeartbeats 400000 in
theorem wholeBlocks_any (a : Option Addr) (len cap : Nat) (w : World) (hl : len ≤ 9223372036854775807) :
    Calls Tryz.prog 202 #[.slice a len cap] w fun e w' => e = .returned (.int .i64 ((len - len % 64 : Nat) : Int)) ∧ w' = w := by
  go_enter Tryz.func202, Tryz.ntmps202
  go_wp2
  go_ret
  exact ⟨ret_int (by have := Nat.mod_le len 64; omega), rfl⟩
end Go.Proofs.YtebcmicmklpflaaGreatDoor.Dg
/- The words of one block: the code's schedule. -/
namespace Go.Proofs.YtebcmicmklpflaaGreatDoor.Dg
open Go.RowKit Go.Great
attribute [local go_sem] f_8 f_1024

/-- A row of words, and noughts behind it up to sixty-four. -/
def pad64 (l : List Nat) : List Nat := l ++ List.replicate (64 - l.length) 0
theorem pad64_length (l : List Nat) (h : l.length ≤ 64) : (pad64 l).length = 64 := by simp [pad64]; omega
theorem pad64_set (l : List Nat) (k n : Nat) (hk : l.length = k) (h : k < 64) : (pad64 l).set k n = pad64 (l ++ [n]) := by
  subst hk
  unfold pad64
  rw [List.set_append_right _ _ (Nat.le_refl _), Nat.sub_self]
  obtain ⟨m, hm⟩ : ∃ m, 64 - l.length = m + 1 := ⟨64 - l.length - 1, by omega⟩
  have e : 64 - (l ++ [n]).length = m := by simp; omega
  rw [hm, e, List.replicate_succ]
  simp
theorem pad64_get (l : List Nat) (i : Nat) (h : i < l.length) : Sha.nth (pad64 l) i = Sha.nth l i := by
  unfold pad64 Sha.nth; rw [List.getElem?_append_left h]
theorem pad64_full (l : List Nat) (h : l.length = 64) : pad64 l = l := by simp [pad64, h]
theorem Z275_pad : Z275 = E32 (pad64 []) := rfl

theorem wrap_sub (i c : Nat) (h : c ≤ i) (h2 : i ≤ 64) : IntKind.i64.wrap ((i : Int) - (c : Int)) = ((i - c : Nat) : Int) := by
  rw [← Int.ofNat_sub h]
  have : i - c ≤ 64 := by omega
  generalize i - c = m at *
  have all : ∀ m : Fin 65, IntKind.i64.wrap ((m.val : Nat) : Int) = ((m.val : Nat) : Int) := by decide
  exact all ⟨m, by omega⟩
theorem first_pad (p : List Nat) (k : Nat) (hk : k < 16) : (pad64 (Sha.first p k)).set k (Sha.wordAt p k) = pad64 (Sha.first p (k + 1)) :=
  pad64_set _ _ _ (Sha.first_length p k) (by omega)
theorem more_pad (l : List Nat) (hl : l.length = 16) (k : Nat) (hk : k < 48) : (pad64 (Sha.more l k)).set (16 + k) (Sha.next (Sha.more l k) (16 + k)) = pad64 (Sha.more l (k + 1)) :=
  pad64_set _ _ _ (by rw [Sha.more_length, hl]) (by omega)

set_option maxRecDepth 20000 in
set_option maxHeartbeats 1000000 in
theorem schedule_any (b o cap : Nat) (p : List Nat) (w : World) (hb : Sha.Bytes p) (hcap : 64 ≤ cap) (hB : b < w.heap.size)
    (hc : ∀ i, i < 64 → w.cell? ⟨b, o + i, none⟩ = some (.int .u8 ((Sha.nth p i : Nat) : Int))) :
    Calls Tryz.prog 224 #[.slice (some ⟨b, o, none⟩) 64 cap] w fun e w' => e = .returned (.agg (E32 (Sha.sched p))) ∧ Below w.heap.size w w' := by
  go_enter Tryz.func224, Tryz.ntmps224
  go_wp2
  go_loopw [10] (fun c wr => ∃ k n : Nat, k ≤ 16 ∧ c = .int .i64 k ∧ wr = ((w.alloc (.cells Z275 275)).alloc (.cells (E32 (pad64 (Sha.first p k))) 275)).drewN n) (fun c _ => 16 - (intOf c).toNat)
  case atStart => exact ⟨0, 0, by omega, rfl, rfl⟩
  case round =>
    obtain ⟨k, n, hk, rfl, rfl⟩ := hrel
    have hpl := pad64_length (Sha.first p k) (by rw [Sha.first_length]; omega)
    by_cases hlt : k < 16
    · have hk64 : k < 64 := by omega
      have hcell : ∀ j, j < 64 → (((w.alloc (.cells Z275 275)).alloc (.cells (E32 (pad64 (Sha.first p k))) 275)).drewN n).cell? ⟨b, o + j, none⟩ = some (.int .u8 ((Sha.nth p j : Nat) : Int)) := by
        intro j hj; rw [← hc j hj]; simp [go_sem, hB, Nat.lt_succ_of_lt hB]
      go_wp2_with fail
      refine (word_any b (o + 4 * k) (Sha.nth p (4 * k)) (Sha.nth p (4 * k + 1)) (Sha.nth p (4 * k + 2)) (Sha.nth p (4 * k + 3)) (cap - 4 * k) _ (hcell _ (by omega)) (hcell (4 * k + 1) (by omega)) (hcell (4 * k + 2) (by omega)) (hcell (4 * k + 3) (by omega)) (hb.at _) (hb.at _) (hb.at _) (hb.at _)).mono ?_
      rintro e w' ⟨rfl, m, rfl⟩
      clear hcell
      go_wp2
      go_roundw
      case rel => exact ⟨k + 1, n + m, by omega, by go_num, by rw [← first_pad p k hlt]; rfl⟩
      case measure => simp [intOf]; omega
    · have hk16 : k = 16 := by omega
      subst hk16
      obtain ⟨F, hF⟩ : ∃ F : Nat → List Nat, F = fun i => pad64 (Sha.more (Sha.first p 16) (i - 16)) := ⟨_, rfl⟩
      have hF16 : pad64 (Sha.first p 16) = F 16 := by rw [hF]; rfl
      rw [hF16]
      have hlen : ∀ i, i ≤ 64 → (F i).length = 64 := fun i hi => by rw [hF]; exact pad64_length _ (by rw [Sha.more_length, Sha.first_length]; omega)
      have hwords : ∀ i j, 16 ≤ i → j < i → Sha.nth (F i) j < 4294967296 := fun i j h1 h2 => by
        rw [hF]; simp only; rw [pad64_get _ _ (by rw [Sha.more_length, Sha.first_length]; omega)]; exact (Sha.more_words (Sha.first_words hb 16) (i - 16)).at j
      have HS : Hid (∀ i, 16 ≤ i → i < 64 → (F i).set i (Sha.next (F i) i) = F (i + 1)) := fun i h1 h2 => by
        rw [hF]; simp only
        have := more_pad (Sha.first p 16) (Sha.first_length p 16) (i - 16) (by omega)
        rw [show 16 + (i - 16) = i by omega, show i - 16 + 1 = i + 1 - 16 by omega] at this
        have e : ∀ j, j < i → Sha.nth (pad64 (Sha.more (Sha.first p 16) (i - 16))) j = Sha.nth (Sha.more (Sha.first p 16) (i - 16)) j := fun j hj => pad64_get _ _ (by rw [Sha.more_length, Sha.first_length]; omega)
        rw [← this]; unfold Sha.next
        rw [e _ (by omega), e _ (by omega), e _ (by omega), e _ (by omega)]
      have HE : Hid (F 64 = Sha.sched p) := by rw [hF]; exact pad64_full _ (Sha.sched_length p)
      clear hF hF16 hpl hlt hk
      rw [show ((16 : Nat) : Int) = 16 from rfl]
      go_wp2
      go_loopw [5] (fun c wr => ∃ i n : Nat, 16 ≤ i ∧ i ≤ 64 ∧ c = .int .i64 (i : Int) ∧ wr = ((w.alloc (.cells Z275 275)).alloc (.cells (E32 (F i)) 275)).drewN n) (fun c _ => 64 - (intOf c).toNat)
      case atStart => exact ⟨16, n, by omega, by omega, rfl, rfl⟩
      case round =>
        obtain ⟨i, m, hi1, hi2, rfl, rfl⟩ := hrel
        have hpl := hlen i hi2
        by_cases hlt : i < 64
        · have l15 := hwords i (i - 15) hi1 (by omega)
          have l2 := hwords i (i - 2) hi1 (by omega)
          have l16 := hwords i (i - 16) hi1 (by omega)
          have l7 := hwords i (i - 7) hi1 (by omega)
          have e15 : IntKind.i64.wrap ((i : Int) - 15) = ((i - 15 : Nat) : Int) := wrap_sub i 15 (by omega) (by omega)
          have e2 : IntKind.i64.wrap ((i : Int) - 2) = ((i - 2 : Nat) : Int) := wrap_sub i 2 (by omega) (by omega)
          have e16 : IntKind.i64.wrap ((i : Int) - 16) = ((i - 16 : Nat) : Int) := wrap_sub i 16 (by omega) (by omega)
          have e7 : IntKind.i64.wrap ((i : Int) - 7) = ((i - 7 : Nat) : Int) := wrap_sub i 7 (by omega) (by omega)
          have b15 : i - 15 < 64 := by omega
          have b2 : i - 2 < 64 := by omega
          have b16 : i - 16 < 64 := by omega
          have b7 : i - 7 < 64 := by omega
          clear hc hwords hlen
          go_wp2
          go_quiet (fail)
          go_wp2_with fail
          refine (turn_i _ _ _ l15 (by omega) (by omega)).mono ?_; rintro e w' ⟨rfl, rfl⟩
          go_wp2_with fail
          refine (turn_i _ _ _ l15 (by omega) (by omega)).mono ?_; rintro e w' ⟨rfl, rfl⟩
          go_wp2_with fail
          refine (turn_i _ _ _ l2 (by omega) (by omega)).mono ?_; rintro e w' ⟨rfl, rfl⟩
          go_wp2_with fail
          refine (turn_i _ _ _ l2 (by omega) (by omega)).mono ?_; rintro e w' ⟨rfl, rfl⟩
          go_wp2_with fail
          go_region
          go_wp2
          go_roundw
          case rel => exact ⟨i + 1, m + nq + 1, by omega, by omega, by go_num, by rw [← HS.out i hi1 hlt]; rfl⟩
          case measure => simp [intOf]; omega
        · have hi64 : i = 64 := by omega
          subst hi64
          clear hlen hwords hc HS
          go_wp2
          refine bodyPost_ret (v := .agg (E32 (Sha.sched p))) (res275 Tryz.results224 rfl ?_ (by simp)) rfl ⟨rfl, ?_⟩
          · rw [← HE.out]; simp [go_sem]
          · exact below_drews (((Below.refl _ _).alloc (Nat.le_refl _) _).alloc (by simp) _) _
end Go.Proofs.YtebcmicmklpflaaGreatDoor.Dg
/- The sixty-four rounds of one block: the code's mix. -/
namespace Go.Proofs.YtebcmicmklpflaaGreatDoor.Dg
open Go.RowKit Go.Great
attribute [local go_sem] f_8 f_1024

set_option maxRecDepth 20000 in
set_option maxHeartbeats 1000000 in
theorem mix_any (s : Sha.St) (kb wb : Nat) (ws : List Nat) (w : World) (hs : s.ok) (hkb : kb < w.heap.size) (hwb : wb < w.heap.size)
    (hk : rowOf w kb = E32 Sha.K) (hw : rowOf w wb = E32 ws) (hl : ws.length = 64) :
    Calls Tryz.prog 225 #[.agg (E32 s.list), .pointer (some ⟨kb, 0, none⟩), .pointer (some ⟨wb, 0, none⟩)] w fun e w' => e = .returned (.agg (E32 (Sha.rounds s ws 64).list)) ∧ Below w.heap.size w w' := by
  rw [E32_eight]
  go_enter Tryz.func225, Tryz.ntmps225
  go_wp2
  go_quiet (fail)
  go_wp2
  go_quiet (fail)
  go_wp2
  obtain ⟨G, hG⟩ : ∃ G : Nat → Sha.St, G = Sha.rounds s ws := ⟨_, rfl⟩
  have h0 : s = G 0 := by rw [hG]; rfl
  have HN : Hid (∀ k, G (k + 1) = Sha.round (G k) (Sha.nth Sha.K k) (Sha.nth ws k)) := fun k => by rw [hG]; rfl
  have hok : ∀ k, (G k).ok := fun k => by rw [hG]; exact Sha.rounds_ok hs ws k
  have HE : Hid (Sha.rounds s ws 64 = G 64) := by rw [hG]; rfl
  have hb2 : ∀ (o1 o2 : Obj) (n m : Nat), Below w.heap.size w ((((w.alloc o1).alloc o2).drewN n).drewN m) := fun o1 o2 n m => below_drews (below_drews (((Below.refl _ _).alloc (Nat.le_refl _) _).alloc (by simp) _) _) _
  rw [h0]
  clear h0 hG
  go_loopw [7, 8, 9, 10, 11, 12, 13, 14, 34] (fun t7 t8 t9 t10 t11 t12 t13 t14 i wr => ∃ k : Nat, k ≤ 64 ∧ i = .int .i64 (k : Int) ∧ t7 = .int .u32 (((G k).a : Nat) : Int) ∧ t8 = .int .u32 (((G k).b : Nat) : Int) ∧ t9 = .int .u32 (((G k).c : Nat) : Int) ∧ t10 = .int .u32 (((G k).d : Nat) : Int) ∧ t11 = .int .u32 (((G k).e : Nat) : Int) ∧ t12 = .int .u32 (((G k).f : Nat) : Int) ∧ t13 = .int .u32 (((G k).g : Nat) : Int) ∧ t14 = .int .u32 (((G k).h : Nat) : Int) ∧ Below w.heap.size w wr ∧ fits wr (w.heap.size + 1) 8 = true) (fun _ _ _ _ _ _ _ _ i _ => 64 - (intOf i).toNat)
  case atStart => exact ⟨0, by omega, rfl, rfl, rfl, rfl, rfl, rfl, rfl, rfl, rfl, by first | exact hb2 _ _ _ _ | (simp [go_sem]; done) | skip, by simp [go_sem]⟩
  case round =>
    obtain ⟨k, hk64, rfl, rfl, rfl, rfl, rfl, rfl, rfl, rfl, rfl, hbel, hfit⟩ := hrel
    by_cases hlt : k < 64
    · have hck : wr.cell? ⟨kb, k, none⟩ = some (.int .u32 ((Sha.nth Sha.K k : Nat) : Int)) := cell_row _ _ _ _ (by rw [below_rowOf hbel hkb, hk]; exact E32_get _ _ (by simp; omega))
      have hcw : wr.cell? ⟨wb, k, none⟩ = some (.int .u32 ((Sha.nth ws k : Nat) : Int)) := cell_row _ _ _ _ (by rw [below_rowOf hbel hwb, hw]; exact E32_get _ _ (by omega))
      obtain ⟨ha, hb, hc, hd, he, hf, hg, hh⟩ := hok k
      clear hk hw hl hb2 hok
      go_wp2
      go_quiet ((go_at_call 247; exact Calls.quiet_of_same (turn_i _ _ _ he (by omega) (by omega))))
      go_wp2_with (go_at_call 247; refine (turn_i _ _ _ ha (by omega) (by omega)).mono ?_; rintro e w' ⟨rfl, rfl⟩)
      go_roundw
      case rel =>
        refine ⟨k + 1, by omega, by go_num, ?_⟩
        rw [HN.out k]
        exact ⟨rfl, rfl, rfl, rfl, rfl, rfl, rfl, rfl, below_drews hbel _, hfit⟩
      case measure => simp [intOf]; omega
    · have hk' : k = 64 := by omega
      subst hk'
      clear hk hw hl hb2 hok
      go_wp2
      exact bodyPost_ret (v := .agg (E32 (G 64).list)) (res250 Tryz.results225 rfl (rowOf_setRow_at _ _ 8 _ hfit) rfl) rfl ⟨by rw [HE.out], below_setRow hbel (by omega) _⟩
end Go.Proofs.YtebcmicmklpflaaGreatDoor.Dg
/- The state behind all blocks of a row of bytes: the code's addBlocks. -/
namespace Go.Proofs.YtebcmicmklpflaaGreatDoor.Dg
open Go.RowKit Go.Great
attribute [local go_sem] f_8 f_1024

/-- A slice value whose bytes lie in a block that was there. -/
def BytesAt (w : World) (v : Value) (m : List Nat) : Prop :=
  ∃ a cap, v = .slice a m.length cap ∧ m.length ≤ cap ∧ (0 < m.length → ∃ b o, a = some ⟨b, o, none⟩ ∧ b < w.heap.size ∧ ∀ i, i < m.length → w.cell? ⟨b, o + i, none⟩ = some (.int .u8 ((Sha.nth m i : Nat) : Int)))
theorem BytesAt.below {w w' : World} {v : Value} {m : List Nat} (h : BytesAt w v m) (hb : Below w.heap.size w w') : BytesAt w' v m := by
  obtain ⟨a, cap, e, hc, hm⟩ := h
  refine ⟨a, cap, e, hc, fun hp => ?_⟩
  obtain ⟨b, o, ea, hl, hcell⟩ := hm hp
  exact ⟨b, o, ea, Nat.lt_of_lt_of_le hl hb.size, fun i hi => by rw [hb.cell (p := ⟨b, o + i, none⟩) hl]; exact hcell i hi⟩

/-- The first i words of l, each grown by that of m. -/
def addTo (l m : List Nat) : Nat → List Nat
  | 0 => l
  | i + 1 => (addTo l m i).set i (Sha.add (Sha.nth l i) (Sha.nth m i))
theorem addTo_length (l m : List Nat) (i : Nat) : (addTo l m i).length = l.length := by
  induction i with
  | zero => rfl
  | succ i ih => simp [addTo, ih]
theorem addTo_nth (l m : List Nat) (i : Nat) : ∀ j, i ≤ j → Sha.nth (addTo l m i) j = Sha.nth l j := by
  induction i with
  | zero => intro j _; rfl
  | succ i ih =>
    intro j hj
    rw [← ih j (by omega)]
    show Sha.nth ((addTo l m i).set i _) j = _
    unfold Sha.nth
    rw [List.getElem?_set_ne (by omega)]
theorem addTo_plus (s t : Sha.St) : addTo s.list t.list 8 = (Sha.plus s t).list := rfl

/-- What holds between two rounds over blocks: the state's box, the result's, the rounds' numbers. -/
structure AB (w wr : World) (kb : Nat) (l : List Nat) : Prop where
  bel : Below w.heap.size w wr
  st : rowOf wr w.heap.size = E32 l
  fst : fits wr w.heap.size 8 = true
  fres : fits wr (w.heap.size + 1) 8 = true
  k : rowOf wr kb = E32 Sha.K
  klo : w.heap.size + 1 < kb
  khi : kb < wr.heap.size
theorem AB.below {w wr wr' : World} {kb : Nat} {l : List Nat} (h : AB w wr kb l) (hb : Below wr.heap.size wr wr') : AB w wr' kb l := by
  have h1 := h.klo
  have h2 := h.khi
  exact ⟨h.bel.trans (hb.mono h.bel.size), by rw [below_rowOf hb (by omega)]; exact h.st, by rw [below_fits hb (by omega)]; exact h.fst, by rw [below_fits hb (by omega)]; exact h.fres,
    by rw [below_rowOf hb h2]; exact h.k, h1, Nat.lt_of_lt_of_le h2 hb.size⟩
theorem AB.alloc {w wr : World} {kb : Nat} {l : List Nat} (h : AB w wr kb l) (o : Obj) : AB w (wr.alloc o) kb l :=
  h.below ((Below.refl _ _).alloc (Nat.le_refl _) o)
theorem AB.drews {w wr : World} {kb : Nat} {l : List Nat} (h : AB w wr kb l) (n : Nat) : AB w (wr.drewN n) kb l :=
  h.below (below_drews (Below.refl _ _) n)
theorem rowOf_setCell_at (w : World) (b n i : Nat) (v : Value) (h : fits w b n = true) : rowOf (w.setCell ⟨b, i, none⟩ v) b = (rowOf w b).setIfInBounds i v := by
  obtain ⟨cs, t, e, -, er⟩ := fits_some h
  rw [setCell_eq_setRow w b i cs t (0, 0) v e, er]
  exact rowOf_setRow_at w b n _ h
theorem fits_setCell_at (w : World) (b n i : Nat) (v : Value) (h : fits w b n = true) : fits (w.setCell ⟨b, i, none⟩ v) b n = true := by
  obtain ⟨cs, t, e, es, er⟩ := fits_some h
  rw [setCell_eq_setRow w b i cs t (0, 0) v e]
  unfold fits
  rw [setRow_heap w b cs _ t _ e]
  simp [es]
theorem AB.set {w wr : World} {kb : Nat} {l : List Nat} (h : AB w wr kb l) (i n : Nat) : AB w (wr.setCell ⟨w.heap.size, i, none⟩ (.int .u32 (n : Int))) kb (l.set i n) := by
  have h1 := h.klo
  have h2 := h.khi
  refine ⟨h.bel.setCell (Nat.le_refl _) _, ?_, fits_setCell_at _ _ _ _ _ h.fst, ?_, ?_, h1, ?_⟩
  · rw [rowOf_setCell_at _ _ _ _ _ h.fst, h.st, E32_set]
  · rw [fits_setCell_other _ _ _ _ _ (by simp)]; exact h.fres
  · rw [rowOf_setCell_other _ _ _ _ (by simp; omega)]; exact h.k
  · simp [World.setCell]; omega

def lenOf : Value → Nat
  | .slice _ l _ => l
  | _ => 0
theorem nth_take (m : List Nat) (j i : Nat) (hi : i < 64) : Sha.nth ((m.drop j).take 64) i = Sha.nth m (j + i) := by
  unfold Sha.nth; rw [List.getElem?_take_of_lt hi, List.getElem?_drop]
theorem bytes_take {m : List Nat} (h : Sha.Bytes m) (j n : Nat) : Sha.Bytes ((m.drop j).take n) := fun x hx => h x (List.mem_of_mem_drop (List.mem_of_mem_take hx))

set_option maxRecDepth 20000 in
set_option maxHeartbeats 2000000 in
theorem addBlocks_any (s : Sha.St) (v : Value) (m : List Nat) (n : Nat) (w : World) (hs : s.ok) (hv : BytesAt w v m) (hm : Sha.Bytes m) (hn : m.length = 64 * n) (hmax : m.length ≤ 4611686018427387904) :
    Calls Tryz.prog 201 #[.agg (E32 s.list), v] w fun e w' => e = .returned (.agg (E32 (Sha.blocks s m n).list)) ∧ Below w.heap.size w w' := by
  obtain ⟨G, hG⟩ : ∃ G : Nat → Sha.St, G = Sha.blocks s m := ⟨_, rfl⟩
  have h0 : s = G 0 := by rw [hG]; rfl
  have HN : Hid (∀ j, G (j + 1) = Sha.plus (G j) (Sha.rounds (G j) (Sha.sched ((m.drop (64 * j)).take 64)) 64)) := fun j => by rw [hG]; rfl
  have hok : ∀ j, (G j).ok := fun j => by rw [hG]; exact Sha.blocks_ok hs m j
  have HE : Hid (Sha.blocks (G 0) m n = G n) := by rw [← h0, hG]; exact rfl
  have HM : Hid (m.length = 64 * n) := hn
  rw [h0]
  clear hG h0 hn
  obtain ⟨a0, cap, rfl, hcap, hbytes⟩ := hv
  have hs8 := list_eight (G 0)
  go_enter Tryz.func201, Tryz.ntmps201
  go_wp2_with fail
  refine (roundNumbers_any _).mono ?_; rintro e w1 ⟨rfl, hb1⟩
  have hz : w.heap.size + 2 ≤ w1.heap.size := by have := hb1.size; simp at this; omega
  have hab : AB w (w1.alloc (.cells (E32 Sha.K) 275)) w1.heap.size (G 0).list := by
    have hb0 : Below (w.heap.size + 2) ((w.alloc (.cells (E32 (G 0).list) 250)).alloc (.cells #[Value.int .u32 0, .int .u32 0, .int .u32 0, .int .u32 0, .int .u32 0, .int .u32 0, .int .u32 0, .int .u32 0] 250)) w1 := hb1.mono (by simp)
    refine ⟨(((((Below.refl _ _).alloc (Nat.le_refl _) _).alloc (by simp) _).trans (hb0.mono (by omega))).alloc (by omega) _), ?_, ?_, ?_, ?_, by omega, by simp⟩
    · rw [rowOf_alloc_past _ _ _ (by omega), below_rowOf hb0 (by omega)]; simp [go_sem]
    · rw [fits_alloc_past _ _ _ _ (by omega), below_fits hb0 (by omega)]; simp [go_sem]
    · rw [fits_alloc_past _ _ _ _ (by omega), below_fits hb0 (by omega)]; simp [go_sem]
    · simp [go_sem]
  clear hb1
  generalize hkb : w1.heap.size = kb at *
  go_wp2_with fail
  go_loopw [1] (fun v wr => ∃ (j L c : Nat) (a : Option Addr), L + 64 * j = m.length ∧ v = .slice a L c ∧ L ≤ c ∧ (64 ≤ L → ∃ b o, a = some ⟨b, o, none⟩ ∧ b < w.heap.size ∧ ∀ i, i < L → w.cell? ⟨b, o + i, none⟩ = some (.int .u8 ((Sha.nth m (64 * j + i) : Nat) : Int))) ∧ AB w wr kb (G j).list) (fun v _ => lenOf v)
  case atStart => 
    refine ⟨0, m.length, cap, a0, by omega, rfl, hcap, fun h => ?_, hab⟩
    obtain ⟨b, o, e, hb, hc⟩ := hbytes (by omega)
    exact ⟨b, o, e, hb, fun i hi => by rw [hc i hi]; simp⟩
  case round =>
    obtain ⟨j, L, c, a, hL, rfl, hLc, hcells, hab'⟩ := hrel
    clear hab hbytes
    by_cases hlt : 64 ≤ L
    · obtain ⟨b, o, rfl, hbw, hc⟩ := hcells hlt
      have hwr : w.heap.size ≤ wr.heap.size := hab'.bel.size
      go_wp2_with fail
      refine (schedule_any b o c ((m.drop (64 * j)).take 64) wr (bytes_take hm _ _) (by omega) (by omega) (fun i hi => ?_)).mono ?_
      · rw [hab'.bel.cell (p := ⟨b, o + i, none⟩) hbw, hc i (by omega), nth_take m (64 * j) i hi]
      rintro e w2 ⟨rfl, hb2⟩
      have hab2 := hab'.below hb2
      have HC : Hid (∀ i, i < L → w.cell? ⟨b, o + i, none⟩ = some (.int .u8 ((Sha.nth m (64 * j + i) : Nat) : Int))) := hc
      clear hab' hb2 hc hcells
      have hN := HN.out j
      generalize hP : Sha.sched ((m.drop (64 * j)).take 64) = ps at *
      have hps : ps.length = 64 := by rw [← hP]; exact Sha.sched_length _
      generalize hT : Sha.rounds (G j) ps 64 = t at *
      have HT : Hid (Sha.rounds (G j) ps 64 = t) := hT
      have HNj : Hid (G (j + 1) = Sha.plus (G j) t) := hN
      clear hP hT hN
      have hst2 := hab2.st
      have hk1 := hab2.klo
      have hk2 := hab2.khi
      have hN2 : w.heap.size < w2.heap.size := by omega
      have l8 := list_eight (G j)
      go_wp2_with fail
      have hab3 := hab2.alloc (.cells (E32 ps) 275)
      refine (mix_any (G j) kb w2.heap.size ps _ (hok j) hab3.khi (by simp) hab3.k (rowOf_alloc_at _ _ _ _ rfl) hps).mono ?_
      rw [HT.out]
      rintro e w4 ⟨rfl, hb4⟩
      have hab4 := hab3.below hb4
      have l8t := list_eight t
      have hk4 := hab4.klo
      have hk5 := hab4.khi
      clear hab2 hab3 hst2 hb4 hk1 hk2 hN2 hps HT
      go_wp2_with fail
      go_loopw [20] (fun q wr => ∃ i : Nat, i ≤ 8 ∧ q = .int .i64 (i : Int) ∧ AB w wr kb (addTo (G j).list t.list i) ∧ rowOf wr w4.heap.size = E32 t.list) (fun q _ => 8 - (intOf q).toNat)
      case atStart => exact ⟨0, by omega, rfl, hab4.alloc _, rowOf_alloc_at _ _ _ _ rfl⟩
      case round =>
        obtain ⟨i, hi, rfl, hab, hrt⟩ := hrel
        have hbel := hab.bel.size
        have hst := hab.st
        have hfst := hab.fst
        have hlen := addTo_length (G j).list t.list i
        by_cases hi8 : i < 8
        · have hc1 : wr.cell? ⟨w.heap.size, i, none⟩ = some (.int .u32 ((Sha.nth (G j).list i : Nat) : Int)) := by
            rw [← addTo_nth (G j).list t.list i i (Nat.le_refl _)]
            exact cell_row _ _ _ _ (by rw [hst]; exact E32_get _ _ (by omega))
          have hc2 : wr.cell? ⟨w4.heap.size, i, none⟩ = some (.int .u32 ((Sha.nth t.list i : Nat) : Int)) := cell_row _ _ _ _ (by rw [hrt]; exact E32_get _ _ (by omega))
          have hfz := frozen_fits hfst i
          have HR : Hid (rowOf wr w4.heap.size = E32 t.list) := hrt
          clear hst hfst hlen hrt hab4
          go_wp2
          go_region
          go_wp2
          go_roundw
          case rel => exact ⟨i + 1, by omega, by go_num, (hab.set i _).drews 1, by rw [rowOf_drew, rowOf_setCell_other _ _ _ _ (by simp; omega)]; exact HR.out⟩
          case measure => simp [intOf]; omega
        · have hi' : i = 8 := by omega
          subst hi'
          rw [addTo_plus, ← HNj.out] at hab
          clear hst hfst hlen hrt hab4 HNj
          go_wp2
          refine ⟨⟨j + 1, L - 64, c - 64, _, by omega, rfl, by omega, fun h => ⟨b, o + 64, if_neg (by omega), hbw, fun i hi => ?_⟩, hab⟩, by simp [lenOf]; omega⟩
          have := HC.out (64 + i) (by omega)
          rw [show o + 64 + i = o + (64 + i) by omega, this, show 64 * (j + 1) + i = 64 * j + (64 + i) by omega]
    · have hj : j = n := by have := HM.out; omega
      subst hj
      have hst := hab'.st
      have hfres := hab'.fres
      have l8 := list_eight (G j)
      clear hcells hok
      go_wp2
      exact bodyPost_ret (v := .agg (E32 (G j).list)) (res250 Tryz.results201 rfl (rowOf_setRow_at _ _ 8 _ hfres) (by simp)) rfl ⟨by rw [HE.out], below_setRow hab'.bel (by omega) _⟩
end Go.Proofs.YtebcmicmklpflaaGreatDoor.Dg
/- The last step: the state as bytes, and the padded end of a row of bytes. -/
namespace Go.Proofs.YtebcmicmklpflaaGreatDoor.Dg
open Go.RowKit Go.Great
attribute [local go_sem] f_8 f_1024

/-- A row of numbers, and noughts behind it up to n. -/
def padTo (n : Nat) (l : List Nat) : List Nat := l ++ List.replicate (n - l.length) 0
theorem padTo_length (n : Nat) (l : List Nat) (h : l.length ≤ n) : (padTo n l).length = n := by simp [padTo]; omega
theorem padTo_set (n : Nat) (l : List Nat) (k x : Nat) (hk : l.length = k) (h : k < n) : (padTo n l).set k x = padTo n (l ++ [x]) := by
  subst hk
  unfold padTo
  rw [List.set_append_right _ _ (Nat.le_refl _), Nat.sub_self]
  obtain ⟨m, hm⟩ : ∃ m, n - l.length = m + 1 := ⟨n - l.length - 1, by omega⟩
  have e : n - (l ++ [x]).length = m := by simp; omega
  rw [hm, e, List.replicate_succ]
  simp
theorem padTo_full (n : Nat) (l : List Nat) (h : l.length = n) : padTo n l = l := by simp [padTo, h]
theorem padTo_nil (n : Nat) : padTo n [] = List.replicate n 0 := rfl

theorem outAt_cast (l : List Nat) (k : Nat) : ((Sha.nth l (k / 4) : Nat) : Int) / 2 ^ (24 - 8 * (k % 4)) % 256 = ((Sha.outAt l k : Nat) : Int) := by
  unfold Sha.outAt
  have e : ((Sha.nth l (k / 4) : Nat) : Int) / 2 ^ (24 - 8 * (k % 4)) = ((Sha.nth l (k / 4) / 2 ^ (24 - 8 * (k % 4)) : Nat) : Int) := by push_cast; rfl
  rw [e]; omega

set_option maxRecDepth 20000 in
set_option maxHeartbeats 1000000 in
theorem stateBytes_any (s : Sha.St) (w : World) :
    Calls Tryz.prog 226 #[.agg (E32 s.list)] w fun e w' => e = .returned (.agg (E8 (Sha.out s))) ∧ Below w.heap.size w w' := by
  have hs8 := list_eight s
  obtain ⟨F, hF⟩ : ∃ F : Nat → List Nat, F = fun k => padTo 32 (Sha.outTo s.list k) := ⟨_, rfl⟩
  have h0 : Z113 = E8 (F 0) := by rw [hF]; rfl
  have hlen : ∀ k, k ≤ 32 → (F k).length = 32 := fun k hk => by rw [hF]; exact padTo_length _ _ (by rw [Sha.outTo_length]; omega)
  have HS : Hid (∀ k, k < 32 → (F k).set k (Sha.outAt s.list k) = F (k + 1)) := fun k hk => by rw [hF]; exact padTo_set 32 _ _ _ (Sha.outTo_length _ _) hk
  have HE : Hid (F 32 = Sha.out s) := by rw [hF]; exact padTo_full _ _ (Sha.outTo_length _ _)
  have HZ : Hid (Z113 = E8 (F 0)) := h0
  clear h0 hF
  go_enter Tryz.func226, Tryz.ntmps226
  go_wp2
  go_loopw [5] (fun c wr => ∃ k n : Nat, k ≤ 32 ∧ c = .int .i64 (k : Int) ∧ wr = (((w.alloc (.cells (E32 s.list) 250)).alloc (.cells Z113 113)).alloc (.cells (E8 (F k)) 113)).drewN n) (fun c _ => 32 - (intOf c).toNat)
  case atStart => exact ⟨0, 0, by omega, rfl, by rw [← HZ.out]; rfl⟩
  case round =>
    obtain ⟨k, n, hk, rfl, rfl⟩ := hrel
    have hpl := hlen k hk
    by_cases hlt : k < 32
    · clear hlen
      have hq : k / 4 < 8 := by omega
      go_wp2
      go_roundw
      case rel => exact ⟨k + 1, n, by omega, by go_num, by rw [← HS.out k hlt, outAt_cast, E8_set]⟩
      case measure => simp [intOf]; omega
    · have hk' : k = 32 := by omega
      subst hk'
      clear hlen
      go_wp2
      refine bodyPost_ret (v := .agg (E8 (Sha.out s))) (res113 Tryz.results226 rfl ?_ (by simp [Sha.out_length])) rfl ⟨rfl, ?_⟩
      · rw [← HE.out]; simp [go_sem]
      · exact below_drews ((((Below.refl _ _).alloc (Nat.le_refl _) _).alloc (by simp) _).alloc (by simp; omega) _) _
end Go.Proofs.YtebcmicmklpflaaGreatDoor.Dg
/- The padded end of a row of bytes, and that blocks of a row are those of its parts. No Go text is named here. -/
namespace Go.Proofs.YtebcmicmklpflaaGreatDoor.Dg
namespace Sha

theorem nth_ext {l m : List Nat} (hl : l.length = m.length) (h : ∀ i, i < l.length → nth l i = nth m i) : l = m := by
  apply List.ext_getElem hl
  intro i h1 h2
  have := h i h1
  unfold nth at this
  rw [List.getElem?_eq_getElem h1, List.getElem?_eq_getElem h2] at this
  simpa using this
theorem nth_append_left {l m : List Nat} {i : Nat} (h : i < l.length) : nth (l ++ m) i = nth l i := by unfold nth; rw [List.getElem?_append_left h]
theorem nth_append_right {l m : List Nat} {i : Nat} (h : l.length ≤ i) : nth (l ++ m) i = nth m (i - l.length) := by unfold nth; rw [List.getElem?_append_right h]
theorem nth_set_same {l : List Nat} {i x : Nat} (h : i < l.length) : nth (l.set i x) i = x := by unfold nth; rw [List.getElem?_set_self h]; rfl
theorem nth_set_other {l : List Nat} {i j x : Nat} (h : i ≠ j) : nth (l.set i x) j = nth l j := by unfold nth; rw [List.getElem?_set_ne h]
theorem nth_replicate (n i : Nat) : nth (List.replicate n 0) i = 0 := by
  unfold nth; rw [List.getElem?_replicate]; split <;> rfl
theorem nth_beyond {l : List Nat} {i : Nat} (h : l.length ≤ i) : nth l i = 0 := by unfold nth; rw [List.getElem?_eq_none h]; rfl
theorem nth_take {l : List Nat} {n i : Nat} (h : i < n) : nth (l.take n) i = nth l i := by unfold nth; rw [List.getElem?_take_of_lt h]
theorem nth_drop (l : List Nat) (n i : Nat) : nth (l.drop n) i = nth l (n + i) := by unfold nth; rw [List.getElem?_drop]
theorem nth_one (x i : Nat) : nth [x] i = if i = 0 then x else 0 := by
  unfold nth; cases i <;> simp

/-- A number in eight bytes, the highest first. -/
def count (c : Nat) : List Nat := [c / 2 ^ 56 % 256, c / 2 ^ 48 % 256, c / 2 ^ 40 % 256, c / 2 ^ 32 % 256, c / 2 ^ 24 % 256, c / 2 ^ 16 % 256, c / 2 ^ 8 % 256, c % 256]
theorem count_nth (c : Nat) (i : Nat) (h : i < 8) : nth (count c) (7 - i) = c / 2 ^ (8 * i) % 256 := by
  match i, h with
  | 0, _ => simp [nth, count]
  | 1, _ => rfl
  | 2, _ => rfl
  | 3, _ => rfl
  | 4, _ => rfl
  | 5, _ => rfl
  | 6, _ => rfl
  | 7, _ => rfl
/-- How many bytes the padded end of so many has. -/
def endOf (n : Nat) : Nat := if n + 1 > 56 then 128 else 64
/-- The padded end of what is left (fewer than sixty-four bytes). -/
def tail (r : List Nat) (c : Nat) : List Nat := r ++ [128] ++ List.replicate (endOf r.length - 9 - r.length) 0 ++ count c
theorem endOf_cases (n : Nat) : (n + 1 > 56 ∧ endOf n = 128) ∨ (n + 1 ≤ 56 ∧ endOf n = 64) := by
  unfold endOf; split
  · exact Or.inl ⟨by omega, rfl⟩
  · exact Or.inr ⟨by omega, rfl⟩
theorem tail_length (r : List Nat) (c : Nat) (h : r.length < 64) : (tail r c).length = endOf r.length := by
  have := endOf_cases r.length
  simp [tail, count]; omega
theorem count_bytes (c : Nat) : Bytes (count c) := by
  intro x hx
  simp [count] at hx
  rcases hx with h | h | h | h | h | h | h | h <;> (rw [h]; exact Nat.mod_lt _ (by omega))
theorem Bytes.append {l m : List Nat} (h : Bytes l) (k : Bytes m) : Bytes (l ++ m) := fun x hx => by
  rcases List.mem_append.1 hx with hx | hx
  · exact h x hx
  · exact k x hx
theorem Bytes.rep (n : Nat) : Bytes (List.replicate n 0) := fun x hx => by rw [(List.mem_replicate.1 hx).2]; omega
theorem Bytes.one {x : Nat} (h : x < 256) : Bytes [x] := fun y hy => by simp at hy; omega
theorem Bytes.take {l : List Nat} (h : Bytes l) (n : Nat) : Bytes (l.take n) := fun x hx => h x (List.mem_of_mem_take hx)
theorem Bytes.drop {l : List Nat} (h : Bytes l) (n : Nat) : Bytes (l.drop n) := fun x hx => h x (List.mem_of_mem_drop hx)
theorem tail_bytes {r : List Nat} (h : Bytes r) (c : Nat) : Bytes (tail r c) :=
  ((h.append (Bytes.one (by omega))).append (Bytes.rep _)).append (count_bytes c)

/-- The count's bytes laid one by one, from the last on, into the end of the first e places. -/
def setTo (l : List Nat) (e c : Nat) : Nat → List Nat
  | 0 => l
  | i + 1 => (setTo l e c i).set (e - 1 - i) (c / 2 ^ (8 * i) % 256)
theorem setTo_length (l : List Nat) (e c i : Nat) : (setTo l e c i).length = l.length := by
  induction i with
  | zero => rfl
  | succ i ih => simp [setTo, ih]
theorem setTo_nth (l : List Nat) (e c : Nat) (he : e ≤ l.length) (i : Nat) (hi : i ≤ e) (p : Nat) (hp : p < e) :
    nth (setTo l e c i) p = if e ≤ p + i then c / 2 ^ (8 * (e - 1 - p)) % 256 else nth l p := by
  induction i with
  | zero => rw [if_neg (by omega)]; rfl
  | succ i ih =>
    by_cases h : p = e - 1 - i
    · subst h
      show nth ((setTo l e c i).set (e - 1 - i) _) (e - 1 - i) = _
      rw [nth_set_same (by rw [setTo_length]; omega), if_pos (by omega), show e - 1 - (e - 1 - i) = i by omega]
    · show nth ((setTo l e c i).set (e - 1 - i) _) p = _
      rw [nth_set_other (by omega), ih (by omega)]
      by_cases h2 : e ≤ p + i
      · rw [if_pos h2, if_pos (by omega)]
      · rw [if_neg h2, if_neg (by omega)]
theorem setTo_tail (r : List Nat) (c : Nat) (hr : r.length < 64) : (setTo (r ++ [128] ++ List.replicate (127 - r.length) 0) (endOf r.length) c 8).take (endOf r.length) = tail r c := by
  have hc := endOf_cases r.length
  apply nth_ext
  · rw [tail_length r c hr, List.length_take, setTo_length]; simp; omega
  · intro i hi
    have hi' : i < endOf r.length := by rw [List.length_take] at hi; omega
    rw [nth_take hi', setTo_nth _ _ _ (by simp; omega) _ (by omega) _ hi']
    by_cases h : endOf r.length ≤ i + 8
    · rw [if_pos h]
      unfold tail
      rw [nth_append_right (by simp; omega)]
      have e : i - (r ++ [128] ++ List.replicate (endOf r.length - 9 - r.length) 0).length = 7 - (endOf r.length - 1 - i) := by simp; omega
      rw [e, count_nth _ _ (by omega)]
    · rw [if_neg h]
      unfold tail
      rw [nth_append_left (l := r ++ [128] ++ List.replicate (endOf r.length - 9 - r.length) 0) (by simp; omega)]
      by_cases h2 : i < (r ++ [128]).length
      · rw [nth_append_left h2, nth_append_left h2]
      · rw [nth_append_right (by omega), nth_append_right (by omega), nth_replicate, nth_replicate]

/-- The blocks of a row are those of its parts, one behind the other. -/
theorem blocks_part (s : St) (x y : List Nat) (n : Nat) (h : 64 * n ≤ x.length) : blocks s (x ++ y) n = blocks s x n := by
  induction n with
  | zero => rfl
  | succ n ih =>
    unfold blocks
    rw [ih (by omega)]
    congr 1
    apply nth_ext
    · simp; omega
    · intro i hi
      have hi : i < 64 := by simp at hi; omega
      rw [nth_take hi, nth_take hi, nth_drop, nth_drop, nth_append_left (by omega)]
theorem blocks_append (s : St) (x y : List Nat) (n k : Nat) (h : x.length = 64 * n) : blocks s (x ++ y) (n + k) = blocks (blocks s x n) y k := by
  induction k with
  | zero => exact blocks_part s x y n (by omega)
  | succ k ih =>
    show block (blocks s (x ++ y) (n + k)) _ = block (blocks (blocks s x n) y k) _
    rw [ih]
    congr 2
    show List.drop (64 * (n + k)) (x ++ y) = List.drop (64 * k) y
    rw [show 64 * (n + k) = x.length + 64 * k by omega, List.drop_append]
    simp

/-- The digest: what stands behind so many bytes (whole blocks) that are in the state already. -/
def sumBehind (s : St) (before : Nat) (b : List Nat) : List Nat :=
  out (blocks (blocks s (b.take (b.length - b.length % 64)) (b.length / 64)) (tail (b.drop (b.length - b.length % 64)) (8 * (before + b.length))) (endOf (b.length % 64) / 64))
def sum (b : List Nat) : List Nat := sumBehind start 0 b
theorem sumBehind_length (s : St) (n : Nat) (b : List Nat) : (sumBehind s n b).length = 32 := out_length _
theorem sumBehind_bytes (s : St) (n : Nat) (b : List Nat) : Bytes (sumBehind s n b) := out_bytes _
/-- A row of numbers, and noughts behind it up to n. -/
def fill (n : Nat) (l : List Nat) : List Nat := l ++ List.replicate (n - l.length) 0
theorem fill_length (n : Nat) (l : List Nat) (h : l.length ≤ n) : (fill n l).length = n := by simp [fill]; omega
theorem fill_bytes {n : Nat} {l : List Nat} (h : Bytes l) : Bytes (fill n l) := h.append (Bytes.rep _)
/-- A key in sixty-four bytes. -/
def padKey (key : List Nat) : List Nat := fill 64 (if key.length > 64 then sum key else key)
theorem padKey_length (key : List Nat) : (padKey key).length = 64 := by
  unfold padKey; apply fill_length; split
  · rw [show (sum key).length = 32 from sumBehind_length _ _ _]; omega
  · omega
theorem padKey_bytes {key : List Nat} (h : Bytes key) : Bytes (padKey key) := by
  unfold padKey; apply fill_bytes; split
  · exact sumBehind_bytes _ _ _
  · exact h
/-- Each byte turned by a mask. -/
def turned (l : List Nat) (m : Nat) : List Nat := l.map fun x => x ^^^ m
theorem turned_bytes {l : List Nat} (h : Bytes l) {m : Nat} (hm : m < 256) : Bytes (turned l m) := by
  intro x hx
  obtain ⟨y, hy, rfl⟩ := List.mem_map.1 hx
  exact Nat.xor_lt_two_pow (n := 8) (h y hy) hm
theorem turned_length (l : List Nat) (m : Nat) : (turned l m).length = l.length := List.length_map _
def mac (key b : List Nat) : List Nat := sumBehind (blocks start (turned (padKey key) 92) 1) 64 (sumBehind (blocks start (turned (padKey key) 54) 1) 64 b)
/-- The first i bytes turned by a mask. -/
def turnTo (l : List Nat) (m : Nat) : Nat → List Nat
  | 0 => l
  | i + 1 => (turnTo l m i).set i (nth l i ^^^ m)
theorem turnTo_length (l : List Nat) (m i : Nat) : (turnTo l m i).length = l.length := by
  induction i with
  | zero => rfl
  | succ i ih => simp [turnTo, ih]
theorem turnTo_nth (l : List Nat) (m i : Nat) (hi : i ≤ l.length) (j : Nat) : nth (turnTo l m i) j = if j < i then nth l j ^^^ m else nth l j := by
  induction i with
  | zero => rfl
  | succ i ih =>
    by_cases h : j = i
    · subst h
      show nth ((turnTo l m j).set j _) j = _
      rw [nth_set_same (by rw [turnTo_length]; omega), if_pos (by omega)]
    · show nth ((turnTo l m i).set i _) j = _
      rw [nth_set_other (fun e => h e.symm), ih (by omega)]
      by_cases h2 : j < i
      · rw [if_pos h2, if_pos (by omega)]
      · rw [if_neg h2, if_neg (by omega)]
theorem turnTo_all (l : List Nat) (m : Nat) : turnTo l m l.length = turned l m := by
  apply nth_ext
  · rw [turnTo_length, turned_length]
  · intro i hi
    rw [turnTo_length] at hi
    rw [turnTo_nth l m _ (Nat.le_refl _) i, if_pos hi]
    unfold turned nth
    rw [List.getElem?_map, List.getElem?_eq_getElem hi]; rfl
end Sha
end Go.Proofs.YtebcmicmklpflaaGreatDoor.Dg
/- The code's lastStep and sumBehind, and Sum. -/
namespace Go.Proofs.YtebcmicmklpflaaGreatDoor.Dg
open Go.RowKit Go.Great
attribute [local go_sem] f_8 f_1024

set_option maxRecDepth 20000 in
theorem size5 : (Tryz.prog.info? 5).map (·.size) = some 1 := by kernel_rfl
/-- copy of bytes into a block of bytes, from its first place on, that has room for all of them. -/
theorem copy_bytes (w : World) (ty : TypeId) (g cap a2 : Nat) (a : Option Addr) (L m : List Nat) (hf : fits w g L.length = true) (hr : rowOf w g = E8 L) (hv : BytesAt w (.slice a m.length a2) m) (hm : m.length ≤ L.length) :
    (Builtin.copy_ #[39, 39] ty #[.slice (some ⟨g, 0, none⟩) L.length cap, .slice a m.length a2]).run Tryz.prog w = .ok (.int .i64 (m.length : Int)) (w.setRow g (E8 (m ++ L.drop m.length))) := by
  obtain ⟨cs, t, e, es, er⟩ := fits_some hf
  obtain ⟨a', c', ev, hcap, hb⟩ := hv
  cases ev
  by_cases h0 : 0 < m.length
  · obtain ⟨b, o, rfl, hbl, hc⟩ := hb h0
    have hmin : m.length = Nat.min m.length L.length := (Nat.min_eq_left hm).symm
    have := run_copy_row (P := Tryz.prog) w 39 39 ty 5 g 0 L.length cap ⟨b, o, none⟩ m.length a2 cs t (m.map B8) Tryz.underlying39 size5 e (by rw [List.length_map]; exact hmin)
      (fun j v hj => by
        have hjl : j < m.length := by have := (List.getElem?_eq_some_iff.1 hj).1; simpa using this
        have hadd : (⟨b, o, none⟩ : Addr).add j = ⟨b, o + j, none⟩ := Addr.add_mid b o j
        rw [hadd, hc j hjl]
        rw [List.getElem?_map, List.getElem?_eq_getElem hjl] at hj
        simp at hj
        rw [← hj]; unfold B8 Sha.nth; rw [List.getElem?_eq_getElem hjl]; rfl)
      (by simp; rw [es]; omega) (fun v hv => by simp at hv; obtain ⟨x, -, rfl⟩ := hv; rfl)
    rw [this]
    have e2 : (cs.toList.take 0 ++ m.map B8 ++ cs.toList.drop (0 + (m.map B8).length)).toArray = E8 (m ++ L.drop m.length) := by
      rw [← er, hr]; simp [E8, List.map_drop]
    rw [e2]
    simp [goInt]
  · have hz : m = [] := List.length_eq_zero_iff.1 (by omega)
    subst hz
    rw [run_copy_none w 39 39 ty 5 _ _ _ _ _ _ Tryz.underlying39 size5 (by simp)]
    have e3 : w.setRow g (E8 ([] ++ L.drop ([] : List Nat).length)) = w := by
      simp only [List.nil_append, List.length_nil, List.drop_zero]
      rw [← hr, er]; exact setRow_self w g cs t (0, 0) e
    rw [e3]; rfl

@[go_sem] theorem E8_set128 (l : List Nat) (i : Nat) : (E8 l).setIfInBounds i (.int .u8 128) = E8 (l.set i 128) := E8_set l i 128
theorem bytesAt_row (w : World) (g : Nat) (L m : List Nat) (e cap : Nat) (hr : rowOf w g = E8 L) (hg : g < w.heap.size) (he : e ≤ L.length) (hcap : e ≤ cap) (hm : L.take e = m) : BytesAt w (.slice (some ⟨g, 0, none⟩) e cap) m := by
  have hl : m.length = e := by rw [← hm, List.length_take]; omega
  refine ⟨some ⟨g, 0, none⟩, cap, by rw [hl], by omega, fun _ => ⟨g, 0, rfl, hg, fun i hi => ?_⟩⟩
  rw [Nat.zero_add]
  refine cell_row _ _ _ _ ?_
  rw [hr, E8_get _ _ (by omega), ← hm, Sha.nth_take (by omega)]
theorem results_at {fn : Func} {p : Tmp} (h : fn.results = #[.cell p 113]) (tmps : Array Value) {b : Nat} (w : World) (hf : fits w b 32 = true) (hp : tmps.getD p undef = .pointer (some ⟨b, 0, none⟩)) {l : List Nat} (hl : l.length = 32) :
    (results fn tmps).run Tryz.prog (w.setRow b (E8 l)) = .ok (.agg (E8 l)) (w.setRow b (E8 l)) := res113 h hp (rowOf_setRow_at _ _ 32 _ hf) (by simp [hl])
def zs (n : Nat) : List Nat := List.replicate n 0
@[simp] theorem zs_length (n : Nat) : (zs n).length = n := by simp [zs]
theorem Z280_zs : Z280 = E8 (zs 128) := rfl
theorem mark_tail (r : List Nat) (hr : r.length < 64) : (r ++ (zs 128).drop r.length).set r.length 128 = r ++ [128] ++ List.replicate (127 - r.length) 0 := by
  unfold zs
  rw [List.drop_replicate, List.set_append_right _ _ (Nat.le_refl _), Nat.sub_self]
  obtain ⟨m, hm⟩ : ∃ m, 128 - r.length = m + 1 := ⟨127 - r.length, by omega⟩
  rw [hm, show 127 - r.length = m by omega, List.replicate_succ]
  simp
theorem count_cast (size i : Nat) : ((size : Int) * 8) / 2 ^ (8 * i) % 256 = ((8 * size / 2 ^ (8 * i) % 256 : Nat) : Int) := by
  have e : ((size : Int) * 8) / 2 ^ (8 * i) = ((8 * size / 2 ^ (8 * i) : Nat) : Int) := by push_cast; rw [Int.mul_comm]
  rw [e]; omega

set_option maxRecDepth 20000 in
set_option maxHeartbeats 1000000 in
theorem lastStep_any (s : Sha.St) (a : Option Addr) (cap : Nat) (r : List Nat) (size : Nat) (w : World) (hs : s.ok) (hv : BytesAt w (.slice a r.length cap) r) (hm : Sha.Bytes r) (hr : r.length < 64) (hsize : size ≤ 1099511627776) :
    Calls Tryz.prog 204 #[.agg (E32 s.list), .slice a r.length cap, .int .i64 (size : Int)] w fun e w' => e = .returned (.agg (E8 (Sha.out (Sha.blocks s (Sha.tail r (8 * size)) (Sha.endOf r.length / 64))))) ∧ Below w.heap.size w w' := by
  have hs8 := list_eight s
  have hb2 : Below w.heap.size w (((w.alloc (.cells (E32 s.list) 250)).alloc (.cells Z113 113)).alloc (.cells Z280 280)) := (((Below.refl _ _).alloc (Nat.le_refl _) _).alloc (by simp) _).alloc (by simp; omega) _
  have hcopy : ∀ ty, (Builtin.copy_ #[39, 39] ty #[.slice (some ⟨w.heap.size + 2, 0, none⟩) 128 128, .slice a r.length cap]).run Tryz.prog (((w.alloc (.cells (E32 s.list) 250)).alloc (.cells Z113 113)).alloc (.cells Z280 280))
      = .ok (.int .i64 (r.length : Int)) (((w.alloc (.cells (E32 s.list) 250)).alloc (.cells Z113 113)).alloc (.cells (E8 (r ++ (zs 128).drop r.length)) 280)) := fun ty => by
    have := copy_bytes (((w.alloc (.cells (E32 s.list) 250)).alloc (.cells Z113 113)).alloc (.cells Z280 280)) ty (w.heap.size + 2) 128 cap a (zs 128) r (by simp [go_sem]) (by simp [go_sem]; rfl) (hv.below hb2) (by simp; omega)
    rw [zs_length] at this
    rw [this]
    simp [go_sem]
  have hL : (r ++ (zs 128).drop r.length).length = 128 := by simp; omega
  have hmk := mark_tail r hr
  have hr128 : r.length < 128 := by omega
  generalize r ++ (zs 128).drop r.length = L0 at *
  have HMK : Hid (L0.set r.length 128 = r ++ [128] ++ List.replicate (127 - r.length) 0) := hmk
  clear hmk
  rcases Sha.endOf_cases r.length with ⟨h56, he⟩ | ⟨h56, he⟩
  all_goals
    rw [he]
    simp only [Nat.reduceDiv]
    obtain ⟨F, hF⟩ : ∃ F : Nat → List Nat, F = Sha.setTo (r ++ [128] ++ List.replicate (127 - r.length) 0) (Sha.endOf r.length) (8 * size) := ⟨_, rfl⟩
    have hF0 : L0.set r.length 128 = F 0 := by rw [hF, HMK.out]; rfl
    have hlen : ∀ i, (F i).length = 128 := fun i => by rw [hF, Sha.setTo_length]; simp; omega
    have HS : Hid (∀ i, (F i).set (Sha.endOf r.length - 1 - i) (8 * size / 2 ^ (8 * i) % 256) = F (i + 1)) := fun i => by rw [hF]; rfl
    have HE : Hid ((F 8).take (Sha.endOf r.length) = Sha.tail r (8 * size)) := by rw [hF]; exact Sha.setTo_tail r (8 * size) hr
    have HV : Hid (BytesAt w (.slice a r.length cap) r) := hv
    rw [he] at HS HE
    clear hF
    first
      | have hdec : decide ((56 : Int) < (r.length : Int) + 1) = true := by simp; omega
      | have hdec : decide ((56 : Int) < (r.length : Int) + 1) = false := by simp; omega
    go_enter Tryz.func204, Tryz.ntmps204
    go_wp2
    clear hcopy hF0 hb2
    go_loopw [23] (fun c wr => ∃ i n : Nat, i ≤ 8 ∧ c = .int .i64 (i : Int) ∧ wr = (((w.alloc (.cells (E32 s.list) 250)).alloc (.cells Z113 113)).alloc (.cells (E8 (F i)) 280)).drewN n) (fun c _ => 8 - (intOf c).toNat)
    case atStart => exact ⟨0, 0, by omega, rfl, rfl⟩
    case round =>
      obtain ⟨i, n, hi, rfl, rfl⟩ := hrel
      have hpl := hlen i
      by_cases hlt : i < 8
      · clear hlen
        have hx1 : 127 - i < 128 := by omega
        have hx2 : 63 - i < 128 := by omega
        go_wp2
        go_roundw
        case rel => exact ⟨i + 1, n, by omega, by go_num, by rw [← HS.out i, count_cast, E8_set]⟩
        case measure => simp [intOf]; omega
      · have hi' : i = 8 := by omega
        subst hi'
        clear hlen
        have htl : (Sha.tail r (8 * size)).length = Sha.endOf r.length := Sha.tail_length r _ hr
        rw [he] at htl
        have htb := Sha.tail_bytes hm (8 * size)
        have HT := HE.out
        generalize hTE : Sha.tail r (8 * size) = T at *
        have HTE := hide hTE
        clear hTE
        have hrow : rowOf (((w.alloc (.cells (E32 s.list) 250)).alloc (.cells Z113 113)).alloc (.cells (E8 (F 8)) 280)) w.heap.size = E32 s.list := by simp [go_sem]
        have hnT : T.length = 64 * (T.length / 64) := by omega
        have hmT : T.length ≤ 4611686018427387904 := by omega
        have hbW : ∀ k, Below w.heap.size w ((((w.alloc (.cells (E32 s.list) 250)).alloc (.cells Z113 113)).alloc (.cells (E8 (F 8)) 280)).drewN k) := fun k => below_drews ((((Below.refl _ _).alloc (Nat.le_refl _) _).alloc (by simp) _).alloc (by simp; omega) _) _
        have hfW : ∀ k, fits ((((w.alloc (.cells (E32 s.list) 250)).alloc (.cells Z113 113)).alloc (.cells (E8 (F 8)) 280)).drewN k) (w.heap.size + 1) 32 = true := fun k => by simp [go_sem]
        have hrW : ∀ k, rowOf ((((w.alloc (.cells (E32 s.list) 250)).alloc (.cells Z113 113)).alloc (.cells (E8 (F 8)) 280)).drewN k) (w.heap.size + 1 + 1) = E8 (F 8) := fun k => by simp [go_sem]
        have hzW : ∀ k, ((((w.alloc (.cells (E32 s.list) 250)).alloc (.cells Z113 113)).alloc (.cells (E8 (F 8)) 280)).drewN k).heap.size = w.heap.size + 3 := fun k => by simp
        have HbW := hide hbW
        have HfW := hide hfW
        have HrW := hide hrW
        have HzW := hide hzW
        have HnT := hide hnT
        have HTT := hide HT
        clear hbW hfW hrW hzW hnT HT
        go_wp2
        go_region_with (first
          | (go_at_call 201
             refine (addBlocks_any s _ T (T.length / 64) _ hs ?_ htb (unhide HnT) hmT).mono ?_
             · exact bytesAt_row _ _ (F 8) T _ _ (unhide HrW _) (by rw [unhide HzW]; omega) (by omega) (by omega) (unhide HTT)
             rintro e w5 ⟨rfl, hb5⟩
             have hz5 : w.heap.size + 3 ≤ w5.heap.size := by have := hb5.size; rw [unhide HzW] at this; exact this
             have hfit5 : fits w5 (w.heap.size + 1) 32 = true := by rw [below_fits hb5 (by rw [unhide HzW]; omega)]; exact unhide HfW _
             have hbel5 : Below w.heap.size w w5 := (unhide HbW _).trans (hb5.mono (by rw [unhide HzW]; omega))
             clear hb5)
          | (go_at_call 226
             refine (stateBytes_any _ _).mono ?_
             rintro e w6 ⟨rfl, hb6⟩
             have hfit6 : fits w6 (w.heap.size + 1) 32 = true := by rw [below_fits hb6 (by omega)]; exact hfit5
             have hbel6 : Below w.heap.size w w6 := hbel5.trans (hb6.mono (by omega))
             have hol := Sha.out_length (Sha.blocks s T 2)
             have hol1 := Sha.out_length (Sha.blocks s T 1)
             clear hb6))
        go_wp2
        refine bodyPost_ret (results_at Tryz.results204 _ _ hfit6 rfl (Sha.out_length _)) rfl ⟨by rw [unhide HTE], below_setRow hbel6 (by omega) _⟩
end Go.Proofs.YtebcmicmklpflaaGreatDoor.Dg
/- The code's sumBehind and Sum: the digest of any bytes. -/
namespace Go.Proofs.YtebcmicmklpflaaGreatDoor.Dg
open Go.RowKit Go.Great
attribute [local go_sem] f_8 f_1024

theorem lastStep_n (s : Sha.St) (a : Option Addr) (n cap : Nat) (r : List Nat) (size : Int) (N : Nat) (hN : size = (N : Int)) (w : World) (hs : s.ok) (hn : r.length = n) (hv : BytesAt w (.slice a n cap) r) (hm : Sha.Bytes r) (hr : n < 64) (hsize : N ≤ 1099511627776) :
    Calls Tryz.prog 204 #[.agg (E32 s.list), .slice a n cap, .int .i64 size] w fun e w' => e = .returned (.agg (E8 (Sha.out (Sha.blocks s (Sha.tail r (8 * N)) (Sha.endOf n / 64))))) ∧ Below w.heap.size w w' := by
  subst hn hN; exact lastStep_any s a cap r N w hs hv hm hr hsize
theorem BytesAt.firsts {w : World} {a : Option Addr} {n cap : Nat} {b : List Nat} (h : BytesAt w (.slice a n cap) b) (q : Nat) (hq : q ≤ b.length) : BytesAt w (.slice a q cap) (b.take q) := by
  obtain ⟨a', c, e, hc, hb⟩ := h
  cases e
  have hl : (b.take q).length = q := by rw [List.length_take]; omega
  refine ⟨a, cap, by rw [hl], by omega, fun h0 => ?_⟩
  obtain ⟨g, o, ea, hg, hcell⟩ := hb (by omega)
  exact ⟨g, o, ea, hg, fun i hi => by rw [hcell i (by omega), Sha.nth_take (by omega)]⟩
theorem BytesAt.suffix {w : World} {g o n cap : Nat} {b : List Nat} (h : BytesAt w (.slice (some ⟨g, o, none⟩) n cap) b) (q : Nat) (hq : q ≤ b.length) :
    BytesAt w (.slice (if cap = q then some ⟨g, o, none⟩ else some ⟨g, o + q, none⟩) (b.length - q) (cap - q)) (b.drop q) := by
  obtain ⟨a', c, e, hc, hb⟩ := h
  cases e
  have hl : (b.drop q).length = b.length - q := by rw [List.length_drop]
  refine ⟨_, cap - q, by rw [hl], by omega, fun h0 => ?_⟩
  obtain ⟨g', o', ea, hg, hcell⟩ := hb (by omega)
  cases ea
  exact ⟨g, o + q, if_neg (by omega), hg, fun i hi => by rw [Nat.add_assoc, hcell (q + i) (by omega), Sha.nth_drop]⟩

theorem wrap_i64 (n : Nat) (h : n ≤ 4611686018427387904) : IntKind.i64.wrap (n : Int) = (n : Int) := by
  exact IntWalk.i64_in _ (by omega)
end Go.Proofs.YtebcmicmklpflaaGreatDoor.Dg
