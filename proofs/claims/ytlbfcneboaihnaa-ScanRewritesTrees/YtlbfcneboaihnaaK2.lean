import Derived.Test.YtlbfcneboaihnaaK1
import Derived.Deep.AppendSrc
import Derived.Deep.Upon
/- The plain mathematics of bytes and digits: a row of bytes as a number, its digits to the base thirty-two, and back. No Go text is named here. -/
namespace Go.Proofs.Ytlbfcneboaihnaa
namespace Sha
/-- A row of bytes as a number, the first counts least. -/
def num : List Nat → Nat
  | [] => 0
  | x :: l => x + 256 * num l
theorem num_cons (x : Nat) (l : List Nat) : num (x :: l) = x + 256 * num l := rfl
/-- So many digits (of two) of a number from a place on. -/
def W (N p h : Nat) : Nat := N / 2 ^ p % 2 ^ h
theorem W_lt (N p h : Nat) : W N p h < 2 ^ h := Nat.mod_lt _ (Nat.pow_pos (by omega))
theorem W_zero (N p : Nat) : W N p 0 = 0 := by unfold W; rw [Nat.pow_zero]; omega
theorem W_more (N p h q : Nat) : W N p (h + q) = 2 ^ h * W N (p + h) q + W N p h := by
  unfold W
  rw [Nat.pow_add, Nat.mod_mul, Nat.div_div_eq_div_mul, ← Nat.pow_add, Nat.add_comm]
theorem W_or (N p h q : Nat) : W N p h ||| W N (p + h) q * 2 ^ h = W N p (h + q) := by
  rw [W_more, Nat.two_pow_add_eq_or_of_lt (W_lt N p h), Nat.or_comm, Nat.mul_comm]
theorem W_low (N p h q : Nat) (hq : q ≤ h) : W N p h % 2 ^ q = W N p q := by
  unfold W
  rw [Nat.mod_mod_of_dvd _ (Nat.pow_dvd_pow 2 hq)]
theorem W_high (N p h q : Nat) (hq : q ≤ h) : W N p h / 2 ^ q = W N (p + q) (h - q) := by
  unfold W
  obtain ⟨r, rfl⟩ := Nat.exists_eq_add_of_le hq
  rw [Nat.pow_add, Nat.mod_mul_right_div_self, Nat.div_div_eq_div_mul, ← Nat.pow_add, Nat.add_sub_cancel_left]
theorem W_small (N p h q : Nat) (hN : N < 2 ^ (p + h)) (hq : h ≤ q) : W N p q = W N p h := by
  unfold W
  have h1 : N / 2 ^ p < 2 ^ h := by rw [Nat.div_lt_iff_lt_mul (Nat.pow_pos (by omega)), ← Nat.pow_add, Nat.add_comm]; exact hN
  rw [Nat.mod_eq_of_lt h1, Nat.mod_eq_of_lt (Nat.lt_of_lt_of_le h1 (Nat.pow_le_pow_right (by omega) hq))]
theorem num_lt {b : List Nat} (h : Bytes b) : num b < 2 ^ (8 * b.length) := by
  induction b with
  | nil => simp [num]
  | cons x l ih =>
    have hx := h x (by simp)
    have hl := ih (fun y hy => h y (by simp [hy]))
    rw [List.length_cons, Nat.mul_add, Nat.pow_add]
    unfold num; omega
theorem num_byte {b : List Nat} (h : Bytes b) (k : Nat) : W (num b) (8 * k) 8 = nth b k := by
  induction b generalizing k with
  | nil => simp [num, W, nth]
  | cons x l ih =>
    have hx := h x (by simp)
    have hl := ih (fun y hy => h y (by simp [hy]))
    cases k with
    | zero => simp only [W, num, nth, Nat.mul_zero, Nat.pow_zero, Nat.div_one]; simp; omega
    | succ k =>
      have e : nth (x :: l) (k + 1) = nth l k := by simp [nth]
      rw [e, ← hl k]
      unfold W
      rw [num_cons, Nat.mul_add, Nat.add_comm (8 * k), Nat.pow_add, ← Nat.div_div_eq_div_mul]
      congr 2
      omega
theorem num_append (a b : List Nat) : num (a ++ b) = num a + 2 ^ (8 * a.length) * num b := by
  induction a with
  | nil => simp [num]
  | cons x l ih =>
    rw [List.cons_append, List.length_cons, Nat.mul_add, Nat.pow_add]
    rw [num_cons, num_cons, ih, Nat.mul_add, ← Nat.add_assoc, Nat.mul_one]
    congr 1
    rw [← Nat.mul_assoc, Nat.mul_comm 256, show (2 : Nat) ^ 8 = 256 from rfl]
/-- Two numbers with the same digits below a place, and none above, are one. -/
theorem W_inj {N M q : Nat} (L : Nat) (h : ∀ i, i < L → W N (q * i) q = W M (q * i) q) : W N 0 (q * L) = W M 0 (q * L) := by
  induction L with
  | zero => rw [Nat.mul_zero, W_zero, W_zero]
  | succ L ih =>
    rw [Nat.mul_succ, W_more, W_more, ih (fun i hi => h i (by omega)), Nat.zero_add, h L (by omega)]
theorem W_all {N h : Nat} (hN : N < 2 ^ h) : W N 0 h = N := by unfold W; rw [Nat.pow_zero, Nat.div_one, Nat.mod_eq_of_lt hN]
/-- How many digits so many bytes have. -/
def lenOf (n : Nat) : Nat := (8 * n + 4) / 5
/-- The digits. -/
def digits : List Nat := [48, 49, 50, 51, 52, 53, 54, 55, 56, 57, 97, 98, 99, 100, 102, 103, 104, 105, 106, 107, 108, 109, 110, 112, 113, 114, 115, 118, 119, 120, 121, 122]
def dg (d : Nat) : Nat := nth digits d
theorem dg_lt (d : Nat) : dg d < 256 := (show Bytes digits by unfold Bytes digits; decide).at d
/-- The last d of L digits, noughts ahead of them. -/
def part (L N d : Nat) : List Nat := (List.range L).map fun j => if L - d ≤ j then dg (W N (5 * (L - 1 - j)) 5) else 0
theorem part_length (L N d : Nat) : (part L N d).length = L := by simp [part]
theorem part_nth (L N d j : Nat) (hj : j < L) : nth (part L N d) j = if L - d ≤ j then dg (W N (5 * (L - 1 - j)) 5) else 0 := by
  unfold nth part
  rw [List.getElem?_map, List.getElem?_range hj]
  rfl
theorem part_zero (L N : Nat) : part L N 0 = List.replicate L 0 := by
  apply nth_ext (by simp [part_length])
  intro i hi
  rw [part_length] at hi
  rw [part_nth _ _ _ _ hi, nth_replicate, if_neg (by omega)]
theorem part_set (L N d x : Nat) (hd : d < L) (hx : x = W N (5 * d) 5) : (part L N d).set (L - 1 - d) (dg x) = part L N (d + 1) := by
  subst hx
  apply nth_ext (by simp [part_length])
  intro i hi
  simp only [List.length_set, part_length] at hi
  by_cases h : L - 1 - d = i
  · rw [← h, nth_set_same (by rw [part_length]; omega), part_nth _ _ _ _ (by omega), if_pos (by omega)]
    congr 3; omega
  · rw [nth_set_other h, part_nth _ _ _ _ hi, part_nth _ _ _ _ hi]
    by_cases h2 : L - d ≤ i
    · rw [if_pos h2, if_pos (by omega)]
    · rw [if_neg h2, if_neg (by omega)]
/-- The text of a number, in so many digits. -/
def text (L N : Nat) : List Nat := part L N L
theorem text_length (L N : Nat) : (text L N).length = L := part_length _ _ _
theorem text_nth (L N j : Nat) (hj : j < L) : nth (text L N) j = dg (W N (5 * (L - 1 - j)) 5) := by
  unfold text; rw [part_nth _ _ _ _ hj, if_pos (by omega)]
theorem text_bytes (L N : Nat) : Bytes (text L N) := by
  intro x hx
  unfold text part at hx
  obtain ⟨j, -, rfl⟩ := List.mem_map.1 hx
  split
  · exact dg_lt _
  · omega
theorem dg_inj {a b : Nat} (ha : a < 32) (hb : b < 32) (h : dg a = dg b) : a = b := by
  have : ∀ a b : Fin 32, dg a.val = dg b.val → a.val = b.val := by decide
  exact this ⟨a, ha⟩ ⟨b, hb⟩ h
theorem text_inj {L N M : Nat} (hN : N < 2 ^ (5 * L)) (hM : M < 2 ^ (5 * L)) (h : text L N = text L M) : N = M := by
  rw [← W_all hN, ← W_all hM]
  apply W_inj
  intro i hi
  have h1 : nth (text L N) (L - 1 - i) = nth (text L M) (L - 1 - i) := by rw [h]
  rw [text_nth _ _ _ (by omega), text_nth _ _ _ (by omega), show L - 1 - (L - 1 - i) = i by omega] at h1
  exact dg_inj (W_lt _ _ 5) (W_lt _ _ 5) h1
theorem num_inj {a b : List Nat} (ha : Bytes a) (hb : Bytes b) (hl : a.length = b.length) (h : num a = num b) : a = b := by
  apply nth_ext hl
  intro i _
  rw [← num_byte ha, ← num_byte hb, h]
theorem lenOf_le (n : Nat) : 8 * n ≤ 5 * lenOf n := by unfold lenOf; omega
theorem num_lt_len {b : List Nat} (h : Bytes b) : num b < 2 ^ (5 * lenOf b.length) :=
  Nat.lt_of_lt_of_le (num_lt h) (Nat.pow_le_pow_right (by omega) (lenOf_le _))
/-- The text of a row of bytes. -/
def textOf (b : List Nat) : List Nat := text (lenOf b.length) (num b)
theorem textOf_length (b : List Nat) : (textOf b).length = lenOf b.length := text_length _ _
theorem textOf_inj {a b : List Nat} (ha : Bytes a) (hb : Bytes b) (hl : a.length = b.length) (h : textOf a = textOf b) : a = b := by
  unfold textOf at h
  rw [← hl] at h
  exact num_inj ha hb hl (text_inj (num_lt_len ha) (by rw [hl]; exact num_lt_len hb) h)
end Sha
end Go.Proofs.Ytlbfcneboaihnaa
/- Bytes appended to a row of the call's own: it has room, or a new row is made. -/
namespace Go.Proofs.Ytlbfcneboaihnaa
open Go.RowKit Go.Great
attribute [local go_sem] f_8 f_1024 f_hi4 f_lo4

/-- A slice of bytes whose row is the call's own. -/
def OwnB (w : World) (base : Nat) (v : Value) (L : List Nat) : Prop :=
  ∃ (g : Nat) (R : List Nat), v = .slice (some ⟨g, 0, none⟩) L.length (L ++ R).length ∧ base ≤ g ∧ w.heap[g]? = some (.cells (E8 (L ++ R)) 5 (0, 0))
theorem E8_append (a b : List Nat) : E8 (a ++ b) = E8 a ++ E8 b := by simp [E8]
theorem nth_map (m : List Nat) (j : Nat) (u : Value) (h : (m.map B8)[j]? = some u) : j < m.length ∧ u = .int .u8 ((Sha.nth m j : Nat) : Int) := by
  rw [List.getElem?_map] at h
  cases e : m[j]? with
  | none => simp [e] at h
  | some x =>
    simp [e] at h
    refine ⟨(List.getElem?_eq_some_iff.1 e).1, ?_⟩
    rw [← h]; unfold B8 Sha.nth; rw [e]; rfl
theorem app_own (w : World) (base : Nat) (v : Value) (L : List Nat) (a : Option Addr) (m : List Nat) (c : Nat) (ho : OwnB w base v L) (hs : BytesAt w (.slice a m.length c) m) (hm : 0 < m.length) (hmax : L.length + m.length ≤ 1000000) :
    ∃ v' w', (∀ ty, (app52 ty #[v, .slice a m.length c]).run Try.prog w = .ok v' w') ∧ OwnB w' base v' (L ++ m) ∧ Below base w w' ∧ w.heap.size ≤ w'.heap.size := by
  obtain ⟨g, R, rfl, hg, hh⟩ := ho
  obtain ⟨a', c', ev, hc, hb⟩ := hs
  cases ev
  obtain ⟨b, o, rfl, hbl, hcell⟩ := hb hm
  obtain ⟨i, hi, hz, hsz, hby⟩ := info5_at
  have hlt : g < w.heap.size := (Array.getElem?_eq_some_iff.1 hh).1
  have hnews : ∀ j u, (m.map B8)[j]? = some u → w.cell? ((⟨b, o, none⟩ : Addr).add j) = some u := fun j u hj => by
    obtain ⟨hj1, rfl⟩ := nth_map m j u hj
    rw [Addr.add_mid]; exact hcell j hj1
  have hone : ∀ u ∈ m.map B8, u.oneCell' = true := fun u hu => by obtain ⟨x, -, rfl⟩ := List.mem_map.1 hu; rfl
  by_cases hroom : L.length + m.length ≤ (L ++ R).length
  · have hrl : m.length ≤ R.length := by simp at hroom; omega
    refine ⟨.slice (some ⟨g, 0, none⟩) (L.length + m.length) (L ++ R).length, w.setRow g (E8 (L ++ m ++ R.drop m.length)), fun ty => ?_, ?_, ?_, ?_⟩
    · unfold app52
      rw [run_append_room (P := Try.prog) w 22 ty 5 i Try.underlying22 hi g L.length (L ++ R).length (E8 (L ++ R)) hh ⟨b, o, none⟩ m.length c (m.map B8) (by simp [hsz]) hnews hone hroom (by simp [hsz]; omega)]
      rw [hsz, Nat.mul_one]
      have e : ((E8 (L ++ R)).toList.take L.length ++ m.map B8 ++ (E8 (L ++ R)).toList.drop (L.length + (m.map B8).length)).toArray = E8 (L ++ m ++ R.drop m.length) := by
        unfold E8
        rw [List.toList_toArray, List.map_append, List.take_left' (by simp), List.drop_append]
        simp [List.map_drop]
      rw [e]
    · refine ⟨g, R.drop m.length, by simp; omega, hg, ?_⟩
      rw [setRow_heap w g _ _ 5 _ hh]
    · exact below_setRow (Below.refl _ _) hg _
    · simp
  · refine ⟨.slice (some ⟨w.heap.size, 0, none⟩) (L.length + m.length) (grownCap w (L.length + m.length) (L ++ R).length 5), w.drew.alloc (.cells (E8 (L ++ m ++ zs (grownCap w (L.length + m.length) (L ++ R).length 5 - (L.length + m.length)))) 5), fun ty => ?_, ?_, ?_, ?_⟩
    · unfold app52
      have hold : (Builtin.firstCells i.size L.length (.slice (some ⟨g, 0, none⟩) L.length (L ++ R).length)).run Try.prog w.drew = .ok (L.map B8).toArray w.drew :=
        run_firstCells_some w.drew i.size L.length ⟨g, 0, none⟩ L.length _ (L.map B8) (by simp [hsz]) (fun j u hj => by
          obtain ⟨hj1, rfl⟩ := nth_map L j u hj
          rw [Addr.add_mid, Nat.zero_add]
          have : w.cell? ⟨g, j, none⟩ = some (.int .u8 ((Sha.nth L j : Nat) : Int)) := by
            rw [cell_of_row w g j _ 5 _ hh, E8_get _ _ (by simp; omega), Sha.nth_append_left hj1]
          exact this)
      rw [run_append_grow_src (P := Try.prog) w 22 22 ty 5 i (.int .u8 0) Try.underlying22 hi hz (some ⟨g, 0, none⟩) L.length (L ++ R).length (L.map B8) hold (.slice (some ⟨b, o, none⟩) m.length c) m.length (m.map B8)
        (Src.ofSlice w Try.underlying22 ⟨b, o, none⟩ m.length c (m.map B8) (by simp [hsz]) hnews hone) (by omega) (by omega) (growslice_fits (by omega) (by rw [hby]; omega))]
      have hzc : ∀ k, Builtin.zeroCells (Value.int .u8 0).cells k = E8 (zs k) := fun k => by
        have := made_zs k
        unfold madeCells at this
        unfold Builtin.zeroCells
        simpa [Value.cells] using this
      have e : ((L.map B8 ++ m.map B8).toArray : Array Value) = E8 (L ++ m) := by unfold E8; rw [List.map_append]
      rw [hzc, e, ← E8_append]
    · refine ⟨w.heap.size, zs (grownCap w (L.length + m.length) (L ++ R).length 5 - (L.length + m.length)), ?_, by omega, ?_⟩
      · have hge := grownCap_ge w (L.length + m.length) (L ++ R).length 5
        have e1 : (L ++ m).length = L.length + m.length := List.length_append
        have e2 : (L ++ m ++ zs (grownCap w (L.length + m.length) (L ++ R).length 5 - (L.length + m.length))).length = grownCap w (L.length + m.length) (L ++ R).length 5 := by
          rw [List.length_append, e1, zs_length]; omega
        rw [e2, e1]
      · exact heap_alloc_last w.drew _
    · exact (Below.refl _ _).drew.alloc (by show base ≤ w.heap.size; omega) _
    · simp
end Go.Proofs.Ytlbfcneboaihnaa
/- The law's own helper roomy: bytes in a list of their own, with room behind them, which is marked. -/
namespace Go.Proofs.Ytlbfcneboaihnaa
open Go.RowKit Go.Great

theorem app_none (w : World) (a a' : Option Addr) (n cap c : Nat) (h : n ≤ cap) : ∀ ty, (app52 ty #[.slice a n cap, .slice a' 0 c]).run Try.prog w = .ok (.slice a n cap) w := by
  intro ty
  obtain ⟨i, hi, hz, hsz, hby⟩ := info5_at
  unfold app52
  refine run_append_nothing w 22 22 ty 5 i Try.underlying22 hi a n cap h _ ?_
  cases a' with
  | none => exact Src.ofNil w Try.underlying22 c
  | some x => exact Src.ofSlice w Try.underlying22 x 0 c [] (by simp) (fun j u hj => by simp at hj) (fun u hu => by simp at hu)

theorem OwnB.alloc {w : World} {base : Nat} {v : Value} {L : List Nat} (h : OwnB w base v L) (o : Obj) : OwnB (w.alloc o) base v L := by
  obtain ⟨g, R, rfl, hg, hh⟩ := h
  exact ⟨g, R, rfl, hg, by rw [Below.heap_alloc w o g (Array.getElem?_eq_some_iff.1 hh).1]; exact hh⟩
theorem one_at (w : World) (x : Nat) : BytesAt (w.alloc (.cells #[.int .u8 (x : Int)] 5)) (.slice (some ⟨w.heap.size, 0, none⟩) [x].length 1) [x] :=
  bytesAt_row _ _ [x] [x] 1 1 (rowOf_alloc_at _ _ _ _ rfl) (by simp) (by simp) (by simp) rfl
end Go.Proofs.Ytlbfcneboaihnaa
/- FromHex, in the code and in the document's own answer: the same digest, the same refusals. -/
namespace Go.Proofs.Ytlbfcneboaihnaa
open Go.RowKit Go.Great

/-- A text's bytes as numbers. -/
def bytesOf (s : ByteArray) : List Nat := s.data.toList.map UInt8.toNat
theorem bytesOf_length (s : ByteArray) : (bytesOf s).length = s.size := by simp [bytesOf]
theorem bytesOf_bytes (s : ByteArray) : Sha.Bytes (bytesOf s) := by
  intro x hx
  obtain ⟨b, -, rfl⟩ := List.mem_map.1 hx
  exact b.toNat_lt
theorem bytesOf_get (s : ByteArray) (i : Nat) (h : i < s.size) : s[i]? = some s[i] ∧ s[i].toNat = Sha.nth (bytesOf s) i := by
  refine ⟨by simp [h], ?_⟩
  unfold Sha.nth bytesOf
  rw [List.getElem?_map, List.getElem?_eq_getElem (by simpa using h)]
  rfl
def strIx (s : ByteArray) (v : Value) : Sem Value := Instr.index 9 (.string s) v
theorem index_strIx (s : ByteArray) (v : Value) : Instr.index 9 (.string s) v = strIx s v := rfl
theorem run_strIx (w : World) (s : ByteArray) (i : Nat) (h : i < s.size) : (strIx s (.int .i64 (i : Int))).run Try.prog w = .ok (.int .u8 ((Sha.nth (bytesOf s) i : Nat) : Int)) w := by
  obtain ⟨h1, h2⟩ := bytesOf_get s i h
  unfold strIx
  simp only [Instr.index, asIntOf, Sem.run_bind, Sem.run_pure, Result.andThen_ok, run_underlying Try.underlying9, Int.natCast_nonneg, if_true, Int.toNat_natCast, h1, h2]
theorem run_strIx_i (s : ByteArray) (x : Int) (i : Nat) (hx : x = (i : Int)) (h : i < s.size) : ∀ w, (strIx s (.int .i64 x)).run Try.prog w = .ok (.int .u8 ((Sha.nth (bytesOf s) i : Nat) : Int)) w := by
  subst hx; exact fun w => run_strIx w s i h
attribute [local go_sem] index_strIx
end Go.Proofs.Ytlbfcneboaihnaa
/- The document's own Hex. -/
namespace Go.Proofs.Ytlbfcneboaihnaa
open Go.RowKit Go.Great
attribute [local go_sem] f_8 f_1024 f_hi4 f_lo4

theorem wrap_u8' (n : Int) (h0 : 0 ≤ n) (h : n < 256) : IntKind.u8.wrap n = n := by rw [IntKind.wrap_u8]; omega
theorem wrap_u8 (n : Nat) (h : n < 256) : IntKind.u8.wrap (n : Int) = (n : Int) := wrap_u8' _ (by omega) (by omega)
@[go_sem] theorem strOf_size (l : List Nat) : (strOf l).size = l.length := by simp [strOf, ByteArray.size]
theorem strOf_append (a b : List Nat) : strOf a ++ strOf b = strOf (a ++ b) := by
  apply ByteArray.ext
  simp [ByteArray.data_append, strOf]
def hexS : ByteArray := ⟨#[48, 49, 50, 51, 52, 53, 54, 55, 56, 57, 97, 98, 99, 100, 101, 102]⟩
def hexSl (lo hi mx : Option Value) : Sem Value := Instr.sliceAt 9 (.string hexS) lo hi mx
@[go_sem] theorem sliceAt_hexS (lo hi mx : Option Value) : Instr.sliceAt 9 (.string ⟨#[48, 49, 50, 51, 52, 53, 54, 55, 56, 57, 97, 98, 99, 100, 101, 102]⟩) lo hi mx = hexSl lo hi mx := rfl
theorem hex_cut (k : Nat) (hk : k < 16) : hexS.extract k (k + 1) = strOf [hexd k] := by
  have : ∀ k : Fin 16, hexS.extract k.val (k.val + 1) = strOf [hexd k.val] := by decide +kernel
  exact this ⟨k, hk⟩
@[go_sem] theorem run_hexSl (w : World) (k : Nat) (hk : k < 16) : (hexSl (some (.int .u8 (k : Int))) (some (.int .u8 ((k : Int) + 1))) none).run Try.prog w = .ok (.string (strOf [hexd k])) w := by
  unfold hexSl
  rw [run_sliceAt_string w 9 _ _ _ _ Try.underlying9, run_slice_string w 9 hexS .u8 .u8 (k : Int) ((k : Int) + 1) Try.underlying9 (by omega) (by omega) (by show (k : Int) + 1 ≤ 16; omega)]
  rw [show ((k : Int) + 1).toNat = k + 1 by omega, Int.toNat_natCast, hex_cut k hk]
/-- The way back from a digest's own text. -/
theorem bytesOf_strOf (b : List Nat) (h : Sha.Bytes b) : bytesOf (strOf b) = b := by
  unfold bytesOf strOf
  simp only [List.map_map]
  apply List.ext_getElem (by simp)
  intro i h1 h2
  simp only [List.getElem_map, Function.comp]
  exact UInt8.toNat_ofNat_of_lt' (h _ (List.getElem_mem h2))
theorem hexTo_bytes (l : List Nat) (hb : Sha.Bytes l) (k : Nat) : Sha.Bytes (hexTo l k) := by
  induction k with
  | zero => intro x hx; simp [hexTo] at hx
  | succ k ih => exact (ih.append (Sha.Bytes.one (hexd_lt _ (hi4_lt _ (hb.at k))))).append (Sha.Bytes.one (hexd_lt _ (lo4_lt _)))
theorem hexTo_nth (l : List Nat) (n k : Nat) (h : k < n) : Sha.nth (hexTo l n) (2 * k) = hexd (hi4 (Sha.nth l k)) ∧ Sha.nth (hexTo l n) (2 * k + 1) = hexd (lo4 (Sha.nth l k)) := by
  induction n with
  | zero => omega
  | succ n ih =>
    by_cases hk : k = n
    · subst hk
      unfold hexTo
      constructor
      · rw [Sha.nth_append_left (by simp [hexTo_length]), Sha.nth_append_right (by rw [hexTo_length]; omega), hexTo_length, Nat.sub_self]; rfl
      · rw [Sha.nth_append_right (by simp [hexTo_length])]
        simp only [List.length_append, hexTo_length, List.length_singleton, Nat.sub_self]; rfl
    · obtain ⟨i1, i2⟩ := ih (by omega)
      unfold hexTo
      constructor
      · rw [Sha.nth_append_left (by simp [hexTo_length]; omega), Sha.nth_append_left (by rw [hexTo_length]; omega)]; exact i1
      · rw [Sha.nth_append_left (by simp [hexTo_length]; omega), Sha.nth_append_left (by rw [hexTo_length]; omega)]; exact i2
end Go.Proofs.Ytlbfcneboaihnaa
/- Len, in the code and in the document's own answer. -/
namespace Go.Proofs.Ytlbfcneboaihnaa
open Go.RowKit Go.Great
/-- How many digits. -/
def lenI (n : Int) : Int := (8 * max 0 (min n 16777216) + 4) / 5
theorem lenI_nat (n : Nat) (h : n ≤ 16777216) : lenI (n : Int) = ((Sha.lenOf n : Nat) : Int) := by
  unfold lenI Sha.lenOf; omega
set_option maxHeartbeats 400000 in
theorem len_any (n : Int) (w : World) : Calls Try.prog 99 #[.int .i64 n] w fun e w' => e = .returned (.int .i64 (lenI n)) ∧ w' = w := by
  by_cases h : n < 1
  · go_enter Try.func99, Try.ntmps99
    go_wp2
    go_ret
    exact ⟨ret_int (by unfold lenI; omega), rfl⟩
  · by_cases h2 : n ≤ 16777216
    · go_enter Try.func99, Try.ntmps99
      go_wp2
      go_ret
      exact ⟨ret_int (by unfold lenI; omega), rfl⟩
    · go_enter Try.func99, Try.ntmps99
      go_wp2
      go_ret
      exact ⟨ret_int (by unfold lenI; omega), rfl⟩
set_option maxHeartbeats 400000 in
theorem lenRef_any (n : Int) (w : World) : Calls Try.prog 61 #[.int .i64 n] w fun e w' => e = .returned (.int .i64 (lenI n)) ∧ w' = w := by
  go_enter Try.func61, Try.ntmps61
  go_wp2
  go_ret
  exact ⟨ret_int (by unfold lenI; omega), rfl⟩
end Go.Proofs.Ytlbfcneboaihnaa
/- The code's Text: bytes as digits. -/
namespace Go.Proofs.Ytlbfcneboaihnaa
open Go.RowKit Go.Great

theorem len_n (n : Nat) (h : n ≤ 16777216) (w : World) : Calls Try.prog 99 #[.int .i64 (n : Int)] w fun e w' => e = .returned (.int .i64 ((Sha.lenOf n : Nat) : Int)) ∧ w' = w := by
  rw [← lenI_nat n h]; exact len_any n w
def digS : ByteArray := ⟨#[48, 49, 50, 51, 52, 53, 54, 55, 56, 57, 97, 98, 99, 100, 102, 103, 104, 105, 106, 107, 108, 109, 110, 112, 113, 114, 115, 118, 119, 120, 121, 122]⟩
theorem dig_byte (k : Nat) (hk : k < 32) : digS[k]?.map UInt8.toNat = some (Sha.dg k) := by
  have : ∀ k : Fin 32, digS[k.val]?.map UInt8.toNat = some (Sha.dg k.val) := by decide
  exact this ⟨k, hk⟩
def digIx (v : Value) : Sem Value := Instr.index 9 (.string digS) v
@[go_sem] theorem index_digIx (v : Value) : Instr.index 9 (.string ⟨#[48, 49, 50, 51, 52, 53, 54, 55, 56, 57, 97, 98, 99, 100, 102, 103, 104, 105, 106, 107, 108, 109, 110, 112, 113, 114, 115, 118, 119, 120, 121, 122]⟩) v = digIx v := rfl
@[go_sem] theorem run_digIx (w : World) (K : IntKind) (k : Nat) (hk : k < 32) : (digIx (.int K (k : Int))).run Try.prog w = .ok (.int .u8 ((Sha.dg k : Nat) : Int)) w := by
  have h := dig_byte k hk
  unfold digIx
  cases e : digS[k]? with
  | none => simp [e] at h
  | some b =>
    simp [e] at h
    simp only [Instr.index, asIntOf, Sem.run_bind, Sem.run_pure, Result.andThen_ok, run_underlying Try.underlying9, Int.natCast_nonneg, if_true, Int.toNat_natCast, e, h]
theorem or_step (N d h k c : Nat) (h1 : h < 5) (hk : 5 * d + h = 8 * k) (hc : Sha.W N (8 * k) 8 = c) :
    bits .or .u32 ((Sha.W N (5 * d) h : Nat) : Int) ((c : Int) * 2 ^ h % 4294967296) = ((Sha.W N (5 * d) (h + 8) : Nat) : Int) := by
  have h2 : 2 ^ h ≤ 2 ^ 4 := Nat.pow_le_pow_right (by omega) (by omega)
  have h3 := Sha.W_lt N (5 * d) h
  have h4 : c < 256 := by rw [← hc]; exact Sha.W_lt N (8 * k) 8
  have h5 : c * 2 ^ h ≤ 255 * 2 ^ 4 := Nat.mul_le_mul (by omega) h2
  have e : ((c : Int) * 2 ^ h % 4294967296) = ((c * 2 ^ h : Nat) : Int) := by
    have e1 : ((c : Int) * 2 ^ h) = ((c * 2 ^ h : Nat) : Int) := by push_cast; rfl
    rw [e1]; generalize c * 2 ^ h = y at *; omega
  rw [e, u32_or_nat _ _ (by omega) (by omega), ← hc, ← hk, Sha.W_or]
theorem and_step (N d h : Nat) (h5 : 5 ≤ h) (hh : h ≤ 12) : bits .and .u32 ((Sha.W N (5 * d) h : Nat) : Int) 31 = ((Sha.W N (5 * d) 5 : Nat) : Int) := by
  have h2 : 2 ^ h ≤ 2 ^ 12 := Nat.pow_le_pow_right (by omega) (by omega)
  have h3 := Sha.W_lt N (5 * d) h
  have e : (31 : Int) = ((31 : Nat) : Int) := rfl
  rw [e, u32_and_nat _ _ (by omega) (by omega), show (31 : Nat) = 2 ^ 5 - 1 from rfl, Nat.and_two_pow_sub_one_eq_mod, Sha.W_low _ _ _ _ h5]
theorem shr_step (N d h : Nat) : ((Sha.W N (5 * d) (h + 5) : Nat) : Int) / 32 = ((Sha.W N (5 * (d + 1)) h : Nat) : Int) := by
  have e := Sha.W_high N (5 * d) (h + 5) 5 (by omega)
  rw [show 5 * (d + 1) = 5 * d + 5 by omega, show h = h + 5 - 5 by omega, ← e, show h + 5 - 5 + 5 = h + 5 by omega]
  generalize Sha.W N (5 * d) (h + 5) = y
  omega
theorem W_last (N d h k : Nat) (hk : 5 * d + h = 8 * k) (hh : h ≤ 5) (hN : N < 2 ^ (8 * k)) : Sha.W N (5 * d) h = Sha.W N (5 * d) 5 := by
  rw [Sha.W_small N (5 * d) h 5 (by rw [hk]; exact hN) hh]
end Go.Proofs.Ytlbfcneboaihnaa
/- The law's own helpers: same, roomy, stands; a slice of bytes that was handed in, as a list of numbers. -/
namespace Go.Proofs.Ytlbfcneboaihnaa
open Go.RowKit Go.Great

def IsRow (k : IntKind) (w : World) (a : Option Addr) (len cap : Nat) (zs : List Int) : Prop :=
  (a = none ∧ len = 0 ∧ cap = 0 ∧ zs = []) ∨
  ∃ x, a = some x ∧ len ≤ cap ∧ cap ≤ maxLen ∧ zs.length = cap ∧ (∀ i, i < zs.length → w.cell? (x.add i) = some (.int k (zs.getD i 0))) ∧ ∀ n ∈ zs, (Lit.int k n).wf = true
theorem isRow_len {k : IntKind} {w : World} {a : Option Addr} {len cap : Nat} {zs : List Int} (h : IsRow k w a len cap zs) : len ≤ 9223372036854775807 := by
  rcases h with ⟨rfl, rfl, rfl, rfl⟩ | ⟨x, rfl, hl, hm, hz, hcell, hwz⟩
  · omega
  · unfold maxLen at hm; omega
theorem cell_spot {w : World} {x : Addr} {v : Value} (h : w.cell? x = some v) : x = ⟨x.block, x.off, none⟩ ∧ x.block < w.heap.size := by
  unfold World.cell? at h
  split at h
  · rename_i c t fr e
    refine ⟨?_, (Array.getElem?_eq_some_iff.1 e).1⟩
    cases x with
    | mk b o s => cases s with
      | none => rfl
      | some s => simp at h
  · simp at h
theorem isRow_bytes {w : World} {a : Option Addr} {len cap : Nat} {zs : List Int} (h : IsRow .u8 w a len cap zs) :
    ∃ b : List Nat, b.length = len ∧ Sha.Bytes b ∧ BytesAt w (.slice a len cap) b := by
  rcases h with ⟨rfl, rfl, rfl, rfl⟩ | ⟨x, rfl, hl, hm, hz, hcell, hwz⟩
  · exact ⟨[], rfl, fun y hy => by simp at hy, none, 0, rfl, Nat.le_refl _, fun h => by simp at h⟩
  · have hlen : ((zs.take len).map Int.toNat).length = len := by simp; omega
    have hw : ∀ n ∈ zs, 0 ≤ n ∧ n < 256 := fun n hn => by
      have := hwz n hn
      have e1 : IntKind.u8.min = 0 := rfl
      have e2 : IntKind.u8.max = 255 := rfl
      simp [Lit.wf] at this
      omega
    refine ⟨(zs.take len).map Int.toNat, hlen, fun y hy => ?_, some x, cap, by rw [hlen], by omega, fun h0 => ?_⟩
    · obtain ⟨n, hn, rfl⟩ := List.mem_map.1 hy
      have := hw n (List.mem_of_mem_take hn); omega
    · have h00 : 0 < zs.length := by omega
      obtain ⟨hx, hlt⟩ := cell_spot (show w.cell? x = some _ from by have := hcell 0 h00; simpa [Addr.add] using this)
      refine ⟨x.block, x.off, congrArg some hx, hlt, fun i hi => ?_⟩
      have hi' : i < zs.length := by omega
      have hc := hcell i hi'
      rw [hx, Addr.add_mid] at hc
      rw [hc]
      have hm := hw zs[i] (List.getElem_mem hi')
      unfold Sha.nth
      rw [List.getElem?_map, List.getElem?_take_of_lt (by omega), List.getElem?_eq_getElem hi']
      simp only [Option.map_some, Option.getD_some, List.getD_eq_getElem?_getD, List.getElem?_eq_getElem hi']
      congr 2; omega
theorem strOf_inj {a b : List Nat} (ha : Sha.Bytes a) (hb : Sha.Bytes b) (h : strOf a = strOf b) : a = b := by
  have h1 : a.map UInt8.ofNat = b.map UInt8.ofNat := by
    have := congrArg (fun s => s.data.toList) h
    simpa [strOf] using this
  have key : ∀ l : List Nat, Sha.Bytes l → (l.map UInt8.ofNat).map UInt8.toNat = l := fun l hl => by
    rw [List.map_map]
    apply List.ext_getElem (by simp)
    intro i h1 h2
    simp only [List.getElem_map, Function.comp]
    exact UInt8.toNat_ofNat_of_lt' (hl _ (List.getElem_mem h2))
  rw [← key a ha, ← key b hb, h1]
end Go.Proofs.Ytlbfcneboaihnaa
/- The plain mathematics of the way back: a text of digits as a number, and its bytes. No Go text is named here. -/
namespace Go.Proofs.Ytlbfcneboaihnaa
namespace Sha
/-- Is a byte a digit, and what does it count? -/
def isD (c : Nat) : Bool := (48 ≤ c && c ≤ 57) || (97 ≤ c && c ≤ 100) || (102 ≤ c && c ≤ 110) || (112 ≤ c && c ≤ 115) || (118 ≤ c && c ≤ 122)
def vd (c : Nat) : Nat := if c ≤ 57 then c - 48 else if c ≤ 100 then c - 97 + 10 else if c ≤ 110 then c - 102 + 14 else if c ≤ 115 then c - 112 + 23 else c - 118 + 27
theorem isD_dg (d : Nat) (h : d < 32) : isD (dg d) = true ∧ vd (dg d) = d := by
  have : ∀ d : Fin 32, isD (dg d.val) = true ∧ vd (dg d.val) = d.val := by decide
  exact this ⟨d, h⟩
theorem isD_bound {c : Nat} (h : isD c = true) : 48 ≤ c ∧ c ≤ 122 := by
  simp [isD] at h; omega
theorem vd_lt {c : Nat} (h : isD c = true) : vd c < 32 := by
  simp [isD] at h; unfold vd
  repeat' split
  all_goals omega
theorem dg_vd {c : Nat} (h : isD c = true) : dg (vd c) = c := by
  have : ∀ c : Fin 123, isD c.val = true → dg (vd c.val) = c.val := by decide
  exact this ⟨c, by have := isD_bound h; omega⟩ h
/-- The number of the last t digits of a text. -/
def dnumTo (S : List Nat) : Nat → Nat
  | 0 => 0
  | t + 1 => dnumTo S t + 2 ^ (5 * t) * (vd (nth S (S.length - 1 - t)) % 32)
def dnum (S : List Nat) : Nat := dnumTo S S.length
theorem dnumTo_lt (S : List Nat) (t : Nat) : dnumTo S t < 2 ^ (5 * t) := by
  induction t with
  | zero => simp [dnumTo]
  | succ t ih =>
    unfold dnumTo
    rw [Nat.mul_add, Nat.pow_add]
    have h1 : vd (nth S (S.length - 1 - t)) % 32 ≤ 31 := by omega
    have h2 := Nat.mul_le_mul_left (2 ^ (5 * t)) h1
    generalize 2 ^ (5 * t) * (vd (nth S (S.length - 1 - t)) % 32) = y at *
    omega
theorem dnumTo_digit (S : List Nat) (t i : Nat) (h : i < t) : W (dnumTo S t) (5 * i) 5 = vd (nth S (S.length - 1 - i)) % 32 := by
  induction t with
  | zero => omega
  | succ t ih =>
    have hl := dnumTo_lt S t
    by_cases hi : i = t
    · subst hi
      unfold W
      show (dnumTo S i + 2 ^ (5 * i) * (vd (nth S (S.length - 1 - i)) % 32)) / 2 ^ (5 * i) % 2 ^ 5 = _
      rw [Nat.add_mul_div_left _ _ (Nat.pow_pos (by omega)), Nat.div_eq_of_lt hl]
      omega
    · rw [← ih (by omega)]
      unfold W
      show (dnumTo S t + 2 ^ (5 * t) * (vd (nth S (S.length - 1 - t)) % 32)) / 2 ^ (5 * i) % 2 ^ 5 = _
      obtain ⟨r, rfl⟩ : ∃ r, t = i + 1 + r := ⟨t - i - 1, by omega⟩
      have e : (2 : Nat) ^ (5 * (i + 1 + r)) = 2 ^ (5 * i) * (2 ^ 5 * 2 ^ (5 * r)) := by rw [← Nat.pow_add, ← Nat.pow_add]; congr 1; omega
      rw [e, Nat.mul_assoc, Nat.add_mul_div_left _ _ (Nat.pow_pos (by omega)), Nat.mul_assoc, Nat.add_mul_mod_self_left]
theorem dnum_digit (S : List Nat) (i : Nat) (h : i < S.length) (hd : isD (nth S (S.length - 1 - i)) = true) : W (dnum S) (5 * i) 5 = vd (nth S (S.length - 1 - i)) := by
  unfold dnum
  rw [dnumTo_digit S _ i h, Nat.mod_eq_of_lt (vd_lt hd)]
theorem dnum_lt (S : List Nat) : dnum S < 2 ^ (5 * S.length) := dnumTo_lt S _
def allD (S : List Nat) : Prop := ∀ i, i < S.length → isD (nth S i) = true
/-- The first e bytes of a number. -/
def bytesL (e N : Nat) : List Nat := (List.range e).map fun i => W N (8 * i) 8
theorem bytesL_length (e N : Nat) : (bytesL e N).length = e := by simp [bytesL]
theorem bytesL_nth (e N i : Nat) (h : i < e) : nth (bytesL e N) i = W N (8 * i) 8 := by
  unfold nth bytesL
  rw [List.getElem?_map, List.getElem?_range h]; rfl
theorem bytesL_succ (e N : Nat) : bytesL (e + 1) N = bytesL e N ++ [W N (8 * e) 8] := by
  unfold bytesL; rw [List.range_succ, List.map_append]; rfl
theorem bytesL_bytes (e N : Nat) : Bytes (bytesL e N) := fun x hx => by
  unfold bytesL at hx
  obtain ⟨i, -, rfl⟩ := List.mem_map.1 hx
  exact W_lt N (8 * i) 8
theorem bytesL_num {b : List Nat} (h : Bytes b) : bytesL b.length (num b) = b := by
  apply nth_ext (bytesL_length _ _)
  intro i hi
  rw [bytesL_length] at hi
  rw [bytesL_nth _ _ _ hi, num_byte h]
theorem num_bytesL {n N : Nat} (h : N < 2 ^ (8 * n)) : num (bytesL n N) = N := by
  have h1 : num (bytesL n N) < 2 ^ (8 * n) := by have := num_lt (bytesL_bytes n N); rwa [bytesL_length] at this
  have h2 : W (num (bytesL n N)) 0 (8 * n) = W N 0 (8 * n) := W_inj n (fun i hi => by rw [num_byte (bytesL_bytes n N), bytesL_nth _ _ _ hi])
  rwa [W_all h1, W_all h] at h2
/-- A text that can be read as n bytes. -/
def good (S : List Nat) (n : Nat) : Prop := allD S ∧ dnum S < 2 ^ (8 * n)
theorem text_dnum {S : List Nat} (h : allD S) : text S.length (dnum S) = S := by
  apply nth_ext (text_length _ _)
  intro j hj
  rw [text_length] at hj
  have h1 : S.length - 1 - (S.length - 1 - j) = j := by omega
  rw [text_nth _ _ _ hj, dnum_digit S _ (by omega) (by rw [h1]; exact h j hj), h1, dg_vd (h j hj)]
theorem allD_text (L N : Nat) : allD (text L N) := fun i hi => by
  rw [text_length] at hi
  rw [text_nth _ _ _ hi]; exact (isD_dg _ (W_lt _ _ 5)).1
theorem dnum_text {L N : Nat} (h : N < 2 ^ (5 * L)) : dnum (text L N) = N := by
  have h1 : dnum (text L N) < 2 ^ (5 * L) := by have := dnum_lt (text L N); rwa [text_length] at this
  have h2 : text L (dnum (text L N)) = text L N := by have := text_dnum (allD_text L N); rwa [text_length] at this
  exact text_inj h1 h h2
theorem good_text {b : List Nat} (h : Bytes b) : good (textOf b) b.length := ⟨allD_text _ _, by unfold textOf; rw [dnum_text (num_lt_len h)]; exact num_lt h⟩
theorem back_text {b : List Nat} (h : Bytes b) : bytesL b.length (dnum (textOf b)) = b := by
  unfold textOf; rw [dnum_text (num_lt_len h), bytesL_num h]
theorem text_back {S : List Nat} {n : Nat} (hl : S.length = lenOf n) (h : good S n) : textOf (bytesL n (dnum S)) = S := by
  unfold textOf; rw [bytesL_length, num_bytesL h.2, ← hl, text_dnum h.1]
/-- The bytes of a number's first p digits (of two). -/
def cellG (N p i : Nat) : Nat := W N (8 * i) (min 8 (p - 8 * i))
def rowG (n N p : Nat) : List Nat := (List.range n).map (cellG N p)
theorem rowG_length (n N p : Nat) : (rowG n N p).length = n := by simp [rowG]
theorem rowG_nth (n N p i : Nat) (h : i < n) : nth (rowG n N p) i = cellG N p i := by
  unfold nth rowG
  rw [List.getElem?_map, List.getElem?_range h]; rfl
theorem rowG_zero (n N : Nat) : rowG n N 0 = List.replicate n 0 := by
  apply nth_ext (by simp [rowG_length])
  intro i hi
  rw [rowG_length] at hi
  rw [rowG_nth _ _ _ _ hi, nth_replicate]; unfold cellG
  rw [show min 8 (0 - 8 * i) = 0 by omega, W_zero]
theorem rowG_full (n N p : Nat) (h : 8 * n ≤ p) : rowG n N p = bytesL n N := by
  apply nth_ext (by simp [rowG_length, bytesL_length])
  intro i hi
  rw [rowG_length] at hi
  rw [rowG_nth _ _ _ _ hi, bytesL_nth _ _ _ hi]; unfold cellG
  rw [show min 8 (p - 8 * i) = 8 by omega]
theorem cellG_same (N p i : Nat) (h : i ≠ p / 8) : cellG N (p + 1) i = cellG N p i := by
  unfold cellG
  rw [show min 8 (p + 1 - 8 * i) = min 8 (p - 8 * i) by omega]
theorem cellG_here (N p : Nat) : cellG N (p + 1) (p / 8) = cellG N p (p / 8) ||| W N p 1 * 2 ^ (p % 8) := by
  unfold cellG
  rw [show min 8 (p + 1 - 8 * (p / 8)) = p % 8 + 1 by omega, show min 8 (p - 8 * (p / 8)) = p % 8 by omega, ← W_or]
  congr 3; omega
theorem rowG_skip (n N p : Nat) (h : W N p 1 = 0) : rowG n N (p + 1) = rowG n N p := by
  apply nth_ext (by simp [rowG_length])
  intro i hi
  rw [rowG_length] at hi
  rw [rowG_nth _ _ _ _ hi, rowG_nth _ _ _ _ hi]
  by_cases hi' : i = p / 8
  · subst hi'; rw [cellG_here, h, Nat.zero_mul, Nat.or_zero]
  · exact cellG_same N p i hi'
theorem rowG_set (n N p x : Nat) (h : W N p 1 = 1) (hx : x = cellG N p (p / 8) ||| 2 ^ (p % 8)) : (rowG n N p).set (p / 8) x = rowG n N (p + 1) := by
  subst hx
  apply nth_ext (by simp [rowG_length])
  intro i hi
  simp only [List.length_set, rowG_length] at hi
  by_cases hi' : p / 8 = i
  · subst hi'
    rw [nth_set_same (by rw [rowG_length]; exact hi), rowG_nth _ _ _ _ hi, cellG_here, h, Nat.one_mul]
  · rw [nth_set_other hi', rowG_nth _ _ _ _ hi, rowG_nth _ _ _ _ hi, cellG_same N p i (by omega)]
theorem cellG_lt (N p i : Nat) : cellG N p i < 256 :=
  Nat.lt_of_lt_of_le (W_lt _ _ _) (show 2 ^ min 8 (p - 8 * i) ≤ 2 ^ 8 from Nat.pow_le_pow_right (by omega) (by omega))
theorem over_skip (n N p : Nat) (h : W N p 1 = 0) (hz : W N (8 * n) (p - 8 * n) = 0) : W N (8 * n) (p + 1 - 8 * n) = 0 := by
  by_cases hp : 8 * n ≤ p
  · rw [show p + 1 - 8 * n = (p - 8 * n) + 1 by omega, W_more, hz, show 8 * n + (p - 8 * n) = p by omega, h]; rfl
  · rw [show p + 1 - 8 * n = 0 by omega, W_zero]
theorem W_pos_big {N p : Nat} (h : W N p 1 ≠ 0) : 2 ^ p ≤ N := by
  rcases Nat.lt_or_ge N (2 ^ p) with h1 | h1
  · exfalso; apply h; unfold W; rw [Nat.div_eq_of_lt h1]
  · exact h1
theorem W_top_zero {N p q : Nat} (hN : N < 2 ^ (p + q)) : W N p q = 0 ↔ N < 2 ^ p := by
  unfold W
  have h1 : N / 2 ^ p < 2 ^ q := by rw [Nat.div_lt_iff_lt_mul (Nat.pow_pos (by omega)), ← Nat.pow_add, Nat.add_comm]; exact hN
  rw [Nat.mod_eq_of_lt h1]
  constructor
  · intro h
    rcases Nat.div_eq_zero_iff.1 h with h2 | h2
    · have := Nat.pow_pos (n := p) (show 0 < 2 by omega); omega
    · exact h2
  · exact fun h => Nat.div_eq_of_lt h
end Sha
end Go.Proofs.Ytlbfcneboaihnaa
/- The leaves: a digit's value in the code and in the document's own answer; a digit (of two) of bytes. -/
namespace Go.Proofs.Ytlbfcneboaihnaa
open Go.RowKit Go.Great
theorem dv_ret {c : Nat} {x : Int} {ok : Bool} {w : World} (h1 : Sha.isD c = ok) (h0 : 0 ≤ x) (h2 : ok = true → x = ((Sha.vd c : Nat) : Int)) :
    (∃ v : Nat, Ending.returned (.tuple #[.int .u32 x, .bool ok]) = .returned (.tuple #[.int .u32 (v : Int), .bool (Sha.isD c)]) ∧ (Sha.isD c = true → v = Sha.vd c)) ∧ w = w := by
  subst h1
  refine ⟨⟨x.toNat, by rw [Int.toNat_of_nonneg h0], fun h => ?_⟩, rfl⟩
  have := h2 h; omega
set_option maxRecDepth 20000 in
set_option maxHeartbeats 1000000 in
theorem digitValue_any (c : Nat) (w : World) (hc : c < 256) :
    Calls Try.prog 100 #[.int .u8 (c : Int)] w fun e w' => (∃ v : Nat, e = .returned (.tuple #[.int .u32 (v : Int), .bool (Sha.isD c)]) ∧ (Sha.isD c = true → v = Sha.vd c)) ∧ w' = w := by
  go_enter Try.func100, Try.ntmps100
  go_wp2
  all_goals go_ret2
  all_goals
    refine dv_ret ?_ (by omega) ?_
    · first
        | (rw [Bool.eq_false_iff]; intro h; simp [Sha.isD] at h; omega)
        | (simp [Sha.isD]; omega)
    · intro h
      first
        | (cases h; done)
        | (unfold Sha.vd; repeat' split
           all_goals omega)
set_option maxRecDepth 20000 in
set_option maxHeartbeats 1000000 in
theorem value_any (c : Nat) (w : World) :
    Calls Try.prog 62 #[.int .u8 (c : Int)] w fun e w' => ∃ v : Int, e = .returned (.int .i64 v) ∧ ((Sha.isD c = true ∧ v = ((Sha.vd c : Nat) : Int)) ∨ (Sha.isD c = false ∧ v = -1)) ∧ w' = w := by
  go_enter Try.func62, Try.ntmps62
  go_wp2
  go_loopw [3] (fun vi wr => ∃ i : Nat, i ≤ 32 ∧ vi = .int .i64 (i : Int) ∧ wr = w ∧ ∀ j, j < i → Sha.dg j ≠ c) (fun vi _ => 32 - (intOf vi).toNat)
  case atStart => exact ⟨0, by omega, rfl, rfl, fun j hj => by omega⟩
  case round =>
    obtain ⟨i, hi, rfl, rfl, hno⟩ := hrel
    have HN := hide hno
    clear hno
    by_cases hlt : i < 32
    · by_cases he : Sha.dg i = c
      · have hd : ((Sha.dg i : Int) == (c : Int)) = true := by rw [he]; simp
        go_wp2
        go_ret
        obtain ⟨h1, h2⟩ := Sha.isD_dg i hlt
        rw [he] at h1 h2
        exact ⟨_, rfl, .inl ⟨h1, by rw [h2]⟩, rfl⟩
      · have hd : ((Sha.dg i : Int) == (c : Int)) = false := by rw [beq_eq_false_iff_ne]; omega
        go_wp2
        go_roundw
        case rel => exact ⟨i + 1, by omega, by go_num, by first | rfl | trivial, fun j hj => by
          by_cases hji : j = i
          · subst hji; exact he
          · exact unhide HN j (by omega)⟩
        case measure => simp [intOf]; omega
    · go_wp2
      go_ret
      refine ⟨_, rfl, .inr ⟨?_, rfl⟩, rfl⟩
      cases hD : Sha.isD c with
      | false => rfl
      | true => exact absurd (Sha.dg_vd hD) (unhide HN _ (by have := Sha.vd_lt hD; omega))
end Go.Proofs.Ytlbfcneboaihnaa
/- The document's own Text. -/
namespace Go.Proofs.Ytlbfcneboaihnaa
open Go.RowKit Go.Great
theorem app_nil (w : World) (base : Nat) (a : Option Addr) (m : List Nat) (c : Nat) (hbase : base ≤ w.heap.size) (hs : BytesAt w (.slice a m.length c) m) (hm : 0 < m.length) (hmax : m.length ≤ 1000000) :
    ∃ v' w', (∀ ty, (app52 ty #[.slice none 0 0, .slice a m.length c]).run Try.prog w = .ok v' w') ∧ OwnB w' base v' m ∧ Below base w w' ∧ w.heap.size ≤ w'.heap.size := by
  obtain ⟨a', c', ev, hc, hb⟩ := hs
  cases ev
  obtain ⟨b, o, rfl, hbl, hcell⟩ := hb hm
  obtain ⟨i, hi, hz, hsz, hby⟩ := info5_at
  have hnews : ∀ j u, (m.map B8)[j]? = some u → w.cell? ((⟨b, o, none⟩ : Addr).add j) = some u := fun j u hj => by
    obtain ⟨hj1, rfl⟩ := nth_map m j u hj
    rw [Addr.add_mid]; exact hcell j hj1
  have hone : ∀ u ∈ m.map B8, u.oneCell' = true := fun u hu => by obtain ⟨x, -, rfl⟩ := List.mem_map.1 hu; rfl
  refine ⟨.slice (some ⟨w.heap.size, 0, none⟩) (0 + m.length) (grownCap w (0 + m.length) 0 5), w.drew.alloc (.cells (E8 (m ++ zs (grownCap w (0 + m.length) 0 5 - (0 + m.length)))) 5), fun ty => ?_, ?_, ?_, ?_⟩
  · unfold app52
    rw [run_append_grow_src (P := Try.prog) w 22 22 ty 5 i (.int .u8 0) Try.underlying22 hi hz none 0 0 [] (run_firstCells_none _ _ _ _ _) (.slice (some ⟨b, o, none⟩) m.length c) m.length (m.map B8)
      (Src.ofSlice w Try.underlying22 ⟨b, o, none⟩ m.length c (m.map B8) (by simp [hsz]) hnews hone) (by omega) (by omega) (growslice_fits (by omega) (by rw [hby]; omega))]
    have hzc : ∀ k, Builtin.zeroCells (Value.int .u8 0).cells k = E8 (zs k) := fun k => by
      have := made_zs k
      unfold madeCells at this
      unfold Builtin.zeroCells
      simpa [Value.cells] using this
    have e : (([] ++ m.map B8 : List Value).toArray : Array Value) = E8 m := by unfold E8; simp
    rw [hzc, e, ← E8_append]
  · refine ⟨w.heap.size, zs (grownCap w (0 + m.length) 0 5 - (0 + m.length)), ?_, hbase, ?_⟩
    · have hge := grownCap_ge w (0 + m.length) 0 5
      have e2 : (m ++ zs (grownCap w (0 + m.length) 0 5 - (0 + m.length))).length = grownCap w (0 + m.length) 0 5 := by
        rw [List.length_append, zs_length]; omega
      rw [e2, Nat.zero_add]
    · exact heap_alloc_last w.drew _
  · exact (Below.refl _ _).drew.alloc (by show base ≤ w.heap.size; omega) _
  · simp
/-- Nothing yet, or a slice whose row is the call's own. -/
def OwnN (w : World) (base : Nat) (v : Value) (L : List Nat) : Prop := (v = .slice none 0 0 ∧ L = []) ∨ OwnB w base v L
theorem app_ownN (w : World) (base : Nat) (v : Value) (L : List Nat) (a : Option Addr) (m : List Nat) (c : Nat) (hbase : base ≤ w.heap.size) (ho : OwnN w base v L) (hs : BytesAt w (.slice a m.length c) m) (hm : 0 < m.length) (hmax : L.length + m.length ≤ 1000000) :
    ∃ v' w', (∀ ty, (app52 ty #[v, .slice a m.length c]).run Try.prog w = .ok v' w') ∧ OwnB w' base v' (L ++ m) ∧ Below base w w' ∧ w.heap.size ≤ w'.heap.size := by
  rcases ho with ⟨rfl, rfl⟩ | ho
  · exact app_nil w base a m c hbase hs hm (by simpa using hmax)
  · exact app_own w base v L a m c ho hs hm hmax
theorem OwnN.alloc {w : World} {base : Nat} {v : Value} {L : List Nat} (h : OwnN w base v L) (o : Obj) : OwnN (w.alloc o) base v L := by
  rcases h with h | h
  · exact .inl h
  · exact .inr (h.alloc o)
theorem OwnB.bytesAt {w : World} {base : Nat} {v : Value} {L : List Nat} (h : OwnB w base v L) : BytesAt w v L := by
  obtain ⟨g, R, rfl, hg, hh⟩ := h
  exact bytesAt_row w g (L ++ R) L _ _ (by unfold rowOf; rw [hh]) (Array.getElem?_eq_some_iff.1 hh).1 (by simp) (by simp) (List.take_left' rfl)
theorem conv_at (w : World) (v : Value) (L : List Nat) (h : BytesAt w v L) : (convert 22 9 v).run Try.prog w = .ok (.string (strOf L)) w := by
  obtain ⟨a, cap, rfl, hc, hx⟩ := h
  rw [run_convert_bytes_string w 22 9 5 _ _ _ Try.underlying22 Try.underlying5 Try.underlying9]
  by_cases h0 : 0 < L.length
  · obtain ⟨g, o, rfl, hl, hcell⟩ := hx h0
    have hload : (loadCells ⟨g, o, none⟩ L.length).run Try.prog w = .ok ((L.map Int.ofNat).map (Value.int .u8)).toArray w := by
      have := run_loadCells_list (P := Try.prog) w ⟨g, o, none⟩ ((L.map Int.ofNat).map (Value.int .u8)) (fun j v hv => by
        rw [Addr.add_mid]
        rw [List.map_map] at hv
        obtain ⟨hj, rfl⟩ := nth_map L j v hv
        exact hcell j hj)
      simpa using this
    rw [run_bytesToString w _ L.length cap _ hload, strOf_fold]
    simp [strOf, ByteArray.empty, ByteArray.emptyWithCapacity]
    rfl
  · obtain rfl : L = [] := List.eq_nil_of_length_eq_zero (by omega)
    cases a with
    | none => rfl
    | some x =>
      show (Conv.bytesToString (.slice (some x) 0 cap)).run Try.prog w = _
      rw [run_bytesToString w _ 0 cap [] rfl]; rfl
theorem and_one (y : Nat) (hy : y < 9223372036854775808) : bits .and .i64 (y : Int) 1 = ((y % 2 : Nat) : Int) := by
  show IntKind.i64.wrap ((BitVec.ofInt 64 (y : Int) &&& BitVec.ofInt 64 1).toNat : Int) = _
  have e1 : (BitVec.ofInt 64 (1 : Int)).toNat = 1 := by decide
  have e2 : (BitVec.ofInt 64 (y : Int)).toNat = y := by rw [BitVec.ofInt_natCast, BitVec.toNat_ofNat]; omega
  rw [BitVec.toNat_and, e1, e2, Nat.and_one_is_mod]
  exact IntWalk.i64_in _ (by omega)
theorem bit_val {b : List Nat} (hb : Sha.Bytes b) (i : Nat) : Sha.nth b (i / 8) / 2 ^ (i % 8) % 2 = Sha.W (Sha.num b) i 1 := by
  rw [← Sha.num_byte hb (i / 8)]
  have h1 := Sha.W_high (Sha.num b) (8 * (i / 8)) 8 (i % 8) (by omega)
  rw [h1, show 8 * (i / 8) + i % 8 = i by omega]
  exact Sha.W_low (Sha.num b) i (8 - i % 8) 1 (by omega)
theorem bit_zero {b : List Nat} (hb : Sha.Bytes b) (i : Nat) (h : b.length ≤ i / 8) : Sha.W (Sha.num b) i 1 = 0 := by
  unfold Sha.W
  rw [Nat.div_eq_of_lt (Nat.lt_of_lt_of_le (Sha.num_lt hb) (Nat.pow_le_pow_right (by omega) (by omega)))]
theorem OwnN.bytesAt {w : World} {base : Nat} {v : Value} {L : List Nat} (h : OwnN w base v L) : BytesAt w v L := by
  rcases h with ⟨rfl, rfl⟩ | h
  · exact ⟨none, 0, rfl, Nat.le_refl _, fun h => by simp at h⟩
  · exact h.bytesAt
theorem take_text (L N I : Nat) (h : I < L) : (Sha.text L N).take (L - I) = (Sha.text L N).take (L - (I + 1)) ++ [Sha.dg (Sha.W N (5 * I) 5)] := by
  have e : L - I = (L - (I + 1)) + 1 := by omega
  have hl : L - (I + 1) < (Sha.text L N).length := by rw [Sha.text_length]; omega
  rw [e, List.take_add_one]
  congr 1
  have := Sha.text_nth L N (L - (I + 1)) (by omega)
  unfold Sha.nth at this
  rw [List.getElem?_eq_getElem hl] at this ⊢
  simp only [Option.getD_some, Option.toList_some] at this ⊢
  rw [this]
  congr 4; omega
theorem lenRef_n (n : Nat) (h : n ≤ 16777216) (w : World) : Calls Try.prog 61 #[.int .i64 (n : Int)] w fun e w' => e = .returned (.int .i64 ((Sha.lenOf n : Nat) : Int)) ∧ w' = w := by
  rw [← lenI_nat n h]; exact lenRef_any n w
theorem two_more (N p q : Nat) : 2 * ((Sha.W N (p + 1) q : Nat) : Int) + ((Sha.W N p 1 : Nat) : Int) = ((Sha.W N p (q + 1) : Nat) : Int) := by
  have := Sha.W_more N p 1 q
  rw [Nat.add_comm q 1, this]; omega
end Go.Proofs.Ytlbfcneboaihnaa
/- The code's Parse: a text as so many bytes. -/
namespace Go.Proofs.Ytlbfcneboaihnaa
open Go.RowKit Go.Great
attribute [local go_sem] index_strIx
theorem or_step5 (N e h t d : Nat) (h1 : h < 8) (hk : 8 * e + h = 5 * t) (hd : Sha.W N (5 * t) 5 = d) :
    bits .or .u32 ((Sha.W N (8 * e) h : Nat) : Int) ((d : Int) * 2 ^ h % 4294967296) = ((Sha.W N (8 * e) (h + 5) : Nat) : Int) := by
  have h2 : 2 ^ h ≤ 2 ^ 7 := Nat.pow_le_pow_right (by omega) (by omega)
  have h3 := Sha.W_lt N (8 * e) h
  have h4 : d < 32 := by rw [← hd]; exact Sha.W_lt N (5 * t) 5
  have h5 : d * 2 ^ h ≤ 31 * 2 ^ 7 := Nat.mul_le_mul (by omega) h2
  have e : ((d : Int) * 2 ^ h % 4294967296) = ((d * 2 ^ h : Nat) : Int) := by
    have e1 : ((d : Int) * 2 ^ h) = ((d * 2 ^ h : Nat) : Int) := by push_cast; rfl
    rw [e1]; generalize d * 2 ^ h = y at *; omega
  rw [e, u32_or_nat _ _ (by omega) (by omega), ← hd, ← hk, Sha.W_or]
theorem byte_step (N e h : Nat) (hh : 8 ≤ h) : ((Sha.W N (8 * e) h : Nat) : Int) % 256 = ((Sha.W N (8 * e) 8 : Nat) : Int) := by
  have := Sha.W_low N (8 * e) h 8 hh
  rw [← this]; omega
theorem shr_step8 (N e h : Nat) (hh : 8 ≤ h) : ((Sha.W N (8 * e) h : Nat) : Int) / 256 = ((Sha.W N (8 * (e + 1)) (h - 8) : Nat) : Int) := by
  have := Sha.W_high N (8 * e) h 8 hh
  rw [show 8 * (e + 1) = 8 * e + 8 by omega, ← this]; omega
set_option maxRecDepth 20000 in
set_option maxHeartbeats 1000000 in
theorem parse_main (s : ByteArray) (n : Nat) (w : World) (hl : s.size = Sha.lenOf n) (hmax : n ≤ 600) :
    Calls Try.prog 70 #[.string s, .int .i64 (n : Int)] w fun e w' => Below w.heap.size w w' ∧
      ((Sha.good (bytesOf s) n ∧ ∃ v, e = .returned (.tuple #[v, .int .i64 0]) ∧ OwnB w' w.heap.size v (Sha.bytesL n (Sha.dnum (bytesOf s)))) ∨
       (¬ Sha.good (bytesOf s) n ∧ e = .returned (.tuple #[.slice none 0 0, .int .i64 3]))) := by
  obtain ⟨S, hS⟩ : ∃ S, S = bytesOf s := ⟨_, rfl⟩
  obtain ⟨N, hN⟩ : ∃ N, N = Sha.dnum S := ⟨_, rfl⟩
  obtain ⟨L, hL⟩ : ∃ L, L = s.size := ⟨_, rfl⟩
  have hSl : S.length = L := by rw [hS, hL, bytesOf_length]
  have HX : Hid (∀ i, Sha.nth S i < 256) := fun i => by rw [hS]; exact (bytesOf_bytes s).at i
  have HIx : Hid (∀ i, i < L → ∀ w, (strIx s (.int .i64 (i : Int))).run Try.prog w = .ok (.int .u8 ((Sha.nth S i : Nat) : Int)) w) := fun i hi w => by rw [hS]; exact run_strIx w s i (by omega)
  have HD : Hid (∀ t, t < L → Sha.isD (Sha.nth S (L - 1 - t)) = true → Sha.W N (5 * t) 5 = Sha.vd (Sha.nth S (L - 1 - t))) := fun t ht hd => by
    rw [hN]; rw [← hSl] at ht hd ⊢; exact Sha.dnum_digit S t ht hd
  have HNl : Hid (N < 2 ^ (5 * L)) := by rw [hN, ← hSl]; exact Sha.dnum_lt S
  have HO : Hid (∀ e, Sha.bytesL (e + 1) N = Sha.bytesL e N ++ [Sha.W N (8 * e) 8]) := fun e => Sha.bytesL_succ e N
  have HOl : Hid (∀ e, (Sha.bytesL e N).length = e) := fun e => Sha.bytesL_length e N
  have HG : Hid (Sha.good S n ↔ Sha.allD S ∧ N < 2 ^ (8 * n)) := by rw [hN]; exact Iff.rfl
  have HO0 : Hid (Sha.bytesL 0 N = []) := rfl
  rw [← hS, ← hN]
  have hL1 : 8 * n ≤ 5 * L := by rw [hL, hl]; exact Sha.lenOf_le n
  have hL2 : 5 * L ≤ 8 * n + 4 := by rw [hL, hl]; unfold Sha.lenOf; omega
  have hll : L = Sha.lenOf n := by rw [hL, hl]
  have hsz : s.size = L := hL.symm
  obtain ⟨O, hOd⟩ : ∃ O : Nat → List Nat, O = fun e => Sha.bytesL e N := ⟨_, rfl⟩
  have HO' : Hid (∀ e, O (e + 1) = O e ++ [Sha.W N (8 * e) 8]) := fun e => by rw [hOd]; exact unhide HO e
  have HOl' : Hid (∀ e, (O e).length = e) := fun e => by rw [hOd]; exact unhide HOl e
  have HO0' : Hid (O 0 = []) := by rw [hOd]; exact rfl
  rw [show Sha.bytesL n N = O n by rw [hOd]]
  have HLe := hide hll
  have HSl := hide hSl
  clear hN hS hL hl hOd HO HOl HO0 hll hSl
  have hd1 : decide ((n : Int) < 0) = false := by simp
  have hd2 : decide ((16777216 : Int) < (n : Int)) = false := by simp; omega
  have hne : ((L : Int) != (L : Int)) = false := by simp
  have hnm : (n : Int) ≤ 65536 := by omega
  go_enter Try.func70, Try.ntmps70
  go_wp2_with (go_at_call 99; refine (len_n n (by omega) _).mono ?_; rintro e w' ⟨rfl, hw'⟩; rw [hw', ← unhide HLe]; clear hw' w')
  go_loopw [6, 7, 8, 9] (fun vo vb vh vi wr => ∃ I t e h : Nat, I + t = L ∧ h < 8 ∧ 8 * e + h = 5 * t ∧ vi = .int .i64 ((I : Int) - 1) ∧ vh = .int .i64 (h : Int) ∧ vb = .int .u32 ((Sha.W N (8 * e) h : Nat) : Int) ∧ OwnB wr w.heap.size vo (O e) ∧ Below w.heap.size w wr ∧ Hid (∀ i, I ≤ i → i < L → Sha.isD (Sha.nth S i) = true)) (fun _ _ _ vi _ => (intOf vi + 1).toNat)
  case atStart => exact ⟨L, 0, 0, 0, by omega, by omega, by omega, rfl, rfl, by rw [Sha.W_zero]; rfl, ⟨w.heap.size, zs n, by rw [unhide HO0']; simp, Nat.le_refl _, by rw [unhide HO0']; exact heap_alloc_last w _⟩, (Below.refl _ _).alloc (Nat.le_refl _) _, fun i h1 h2 => by omega⟩
  case round =>
    obtain ⟨I, t, e, h, hI, hh, heh, rfl, rfl, rfl, ho, hbl, hall⟩ := hrel
    by_cases hlt : 0 < I
    · obtain ⟨I, rfl⟩ : ∃ q, I = q + 1 := ⟨I - 1, by omega⟩
      rw [show (((I + 1 : Nat) : Int) - 1) = (I : Int) by omega]
      have hix := unhide HIx I (by omega)
      have hx := unhide HX I
      have HDt := hide (unhide HD t (by omega))
      rw [show L - 1 - t = I by omega] at HDt
      generalize hX : Sha.nth S I = x at *
      have HXI := hide hX
      clear hX
      cases hD : Sha.isD x with
      | false =>
        go_wp2_with (go_at_call 100; refine (digitValue_any x _ hx).mono ?_; rintro e w' ⟨⟨v, rfl, hv⟩, hw'⟩; rw [hw', hD]; clear hw' hv w')
        go_ret2
        refine ⟨hbl, .inr ⟨fun hg => ?_, rfl⟩⟩
        have := ((unhide HG).1 hg).1 I (by rw [unhide HSl]; omega)
        rw [unhide HXI, hD] at this; cases this
      | true =>
        have hor := or_step5 N e h t (Sha.vd x) hh heh (unhide HDt hD)
        by_cases h8 : 8 ≤ h + 5
        · have hb1 := byte_step N e (h + 5) h8
          have hb2 := shr_step8 N e (h + 5) h8
          have hOs := hide (unhide HO' e)
          have hy : Sha.W N (8 * e) 8 < 256 := Sha.W_lt N (8 * e) 8
          generalize Sha.W N (8 * e) (h + 5) = B at *
          generalize Sha.W N (8 * e) 8 = y at *
          generalize hVD : Sha.vd x = vx at *
          go_wp2_with (go_at_call 100; refine (digitValue_any x _ hx).mono ?_; rintro e w' ⟨⟨v, rfl, hv⟩, hw'⟩; rw [hw', hv hD, hD, hVD]; clear hw' hv w')
          have hbs := hbl.size
          obtain ⟨v', w', hr, ho', hbl', hsz'⟩ := app_own (wr.alloc (.cells #[.int .u8 (y : Int)] 5)) w.heap.size _ (O e) (some ⟨wr.heap.size, 0, none⟩) [y] 1 (ho.alloc _) (one_at wr y) (by simp) (by have := unhide HOl' e; simp; omega)
          simp only [List.length_singleton] at hr
          rw [hr]
          clear hr
          have hbl2 : Below w.heap.size w w' := (hbl.alloc hbs _).trans hbl'
          rw [← unhide hOs] at ho'
          go_wp2
          go_roundw
          case rel => exact ⟨I, t + 1, e + 1, h + 5 - 8, by omega, by omega, by omega, by first | rfl | go_num, by go_num, by first | rfl | (rw [hb2]), ho', hbl2, fun i h1 h2 => by
            by_cases hi : i = I
            · rw [hi, unhide HXI]; exact hD
            · exact unhide hall i (by omega) h2⟩
          case measure => simp [intOf]; try omega
        · generalize hVD : Sha.vd x = vx at *
          generalize hB : Sha.W N (8 * e) (h + 5) = B at *
          have HB := hide hB
          clear hB
          go_wp2_with (go_at_call 100; refine (digitValue_any x _ hx).mono ?_; rintro e w' ⟨⟨v, rfl, hv⟩, hw'⟩; rw [hw', hv hD, hD, hVD]; clear hw' hv w')
          go_roundw
          case rel => exact ⟨I, t + 1, e, h + 5, by omega, by omega, by omega, by first | rfl | go_num, by go_num, by rw [unhide HB], ho, hbl, fun i h1 h2 => by
            by_cases hi : i = I
            · rw [hi, unhide HXI]; exact hD
            · exact unhide hall i (by omega) h2⟩
          case measure => simp [intOf]; try omega
    · obtain rfl : I = 0 := by omega
      obtain rfl : e = n := by omega
      have htop := Sha.W_top_zero (N := N) (p := 8 * e) (q := h) (by rw [heh, show t = L by omega]; exact unhide HNl)
      have HAll : Hid (Sha.allD S) := fun i hi => unhide hall i (by omega) (by rw [← unhide HSl]; exact hi)
      by_cases hz : Sha.W N (8 * e) h = 0
      · have HZ := hide (htop.1 hz)
        rw [hz]
        clear htop hz
        go_wp2
        go_ret2
        exact ⟨hbl, .inl ⟨(unhide HG).2 ⟨unhide HAll, unhide HZ⟩, _, rfl, ho⟩⟩
      · have HZ : Hid (¬ N < 2 ^ (8 * e)) := fun hc => hz (htop.2 hc)
        have hne2 : (((Sha.W N (8 * e) h : Nat) : Int) != 0) = true := by rw [bne_iff_ne]; omega
        clear htop
        go_wp2
        go_ret2
        exact ⟨hbl, .inr ⟨fun hg => unhide HZ ((unhide HG).1 hg).2, rfl⟩⟩
end Go.Proofs.Ytlbfcneboaihnaa
/- The document's own Parse. -/
namespace Go.Proofs.Ytlbfcneboaihnaa
open Go.RowKit Go.Great
attribute [local go_sem] index_strIx
theorem over_fail {N n p : Nat} (h : Sha.W N p 1 ≠ 0) (hp : n ≤ p / 8) : ¬ N < 2 ^ (8 * n) := by
  have h1 := Sha.W_pos_big h
  have h2 : 2 ^ (8 * n) ≤ 2 ^ p := Nat.pow_le_pow_right (by omega) (by omega)
  omega
theorem W_bit (N t j d : Nat) (hj : j < 5) (hd : Sha.W N (5 * t) 5 = d) : d / 2 ^ j % 2 = Sha.W N (5 * t + j) 1 := by
  rw [← hd, Sha.W_high N (5 * t) 5 j (by omega)]
  exact Sha.W_low N (5 * t + j) (5 - j) 1 (by omega)
theorem or_bit8 (y r : Nat) (hy : y < 256) (hr : r < 8) : bits .or .u8 (y : Int) (2 ^ r % 256) = ((y ||| 2 ^ r : Nat) : Int) := by
  have h1 : 2 ^ r ≤ 2 ^ 7 := Nat.pow_le_pow_right (by omega) (by omega)
  have e : ((2 : Int) ^ r % 256) = ((2 ^ r : Nat) : Int) := by
    have e1 : ((2 : Int) ^ r) = ((2 ^ r : Nat) : Int) := by push_cast; rfl
    rw [e1]; generalize 2 ^ r = q at *; omega
  rw [e, u8_or_nat _ _ hy (by omega)]
set_option maxRecDepth 20000 in
set_option maxHeartbeats 1000000 in
theorem parseRef_main (s : ByteArray) (n : Nat) (w : World) (hl : s.size = Sha.lenOf n) (hmax : n ≤ 600) :
    Calls Try.prog 47 #[.string s, .int .i64 (n : Int)] w fun e w' => Below w.heap.size w w' ∧
      ((Sha.good (bytesOf s) n ∧ ∃ v, e = .returned (.tuple #[v, .int .i64 0]) ∧ OwnB w' w.heap.size v (Sha.bytesL n (Sha.dnum (bytesOf s)))) ∨
       (¬ Sha.good (bytesOf s) n ∧ e = .returned (.tuple #[.slice none 0 0, .int .i64 3]))) := by
  obtain ⟨S, hS⟩ : ∃ S, S = bytesOf s := ⟨_, rfl⟩
  obtain ⟨N, hN⟩ : ∃ N, N = Sha.dnum S := ⟨_, rfl⟩
  obtain ⟨L, hL⟩ : ∃ L, L = s.size := ⟨_, rfl⟩
  have hSl : S.length = L := by rw [hS, hL, bytesOf_length]
  have HIx : Hid (∀ i, i < L → ∀ w, (strIx s (.int .i64 (i : Int))).run Try.prog w = .ok (.int .u8 ((Sha.nth S i : Nat) : Int)) w) := fun i hi w => by rw [hS]; exact run_strIx w s i (by omega)
  have HD : Hid (∀ t, t < L → Sha.isD (Sha.nth S (L - 1 - t)) = true → Sha.W N (5 * t) 5 = Sha.vd (Sha.nth S (L - 1 - t))) := fun t ht hd => by
    rw [hN]; rw [← hSl] at ht hd ⊢; exact Sha.dnum_digit S t ht hd
  have HNl : Hid (N < 2 ^ (5 * L)) := by rw [hN, ← hSl]; exact Sha.dnum_lt S
  have HG : Hid (Sha.good S n ↔ Sha.allD S ∧ N < 2 ^ (8 * n)) := by rw [hN]; exact Iff.rfl
  rw [← hS, ← hN]
  have hL1 : 8 * n ≤ 5 * L := by rw [hL, hl]; exact Sha.lenOf_le n
  have hL2 : 5 * L ≤ 8 * n + 4 := by rw [hL, hl]; unfold Sha.lenOf; omega
  have hll : L = Sha.lenOf n := by rw [hL, hl]
  have hsz : s.size = L := hL.symm
  obtain ⟨G, hGd⟩ : ∃ G : Nat → List Nat, G = Sha.rowG n N := ⟨_, rfl⟩
  have HGl : Hid (∀ p, (G p).length = n) := fun p => by rw [hGd]; exact Sha.rowG_length n N p
  have HG0 : Hid (E8 (zs n) = E8 (G 0)) := by rw [hGd, Sha.rowG_zero]; rfl
  have HGe : Hid (Sha.bytesL n N = G (5 * L)) := by rw [hGd, Sha.rowG_full n N _ hL1]; exact rfl
  have HGk : Hid (∀ p, Sha.W N p 1 = 0 → G (p + 1) = G p) := fun p h => by rw [hGd]; exact Sha.rowG_skip n N p h
  have HGc : Hid (∀ p, p / 8 < n → Sha.nth (G p) (p / 8) = Sha.cellG N p (p / 8)) := fun p h => by rw [hGd]; exact Sha.rowG_nth n N p _ h
  have HGs : Hid (∀ p x, Sha.W N p 1 = 1 → x = Sha.cellG N p (p / 8) ||| 2 ^ (p % 8) → (G p).set (p / 8) x = G (p + 1)) := fun p x h hx => by rw [hGd]; exact Sha.rowG_set n N p x h hx
  have HLe := hide hll
  have HSl := hide hSl
  clear hN hS hL hl hGd hll hSl
  have hd1 : decide ((n : Int) < 0) = false := by simp
  have hd2 : decide ((16777216 : Int) < (n : Int)) = false := by simp; omega
  have hne : ((L : Int) != (L : Int)) = false := by simp
  have hnm : (n : Int) ≤ 65536 := by omega
  go_enter Try.func47, Try.ntmps47
  go_wp2_with (go_at_call 61; refine (lenRef_n n (by omega) _).mono ?_; rintro e w' ⟨rfl, hw'⟩; rw [hw', ← unhide HLe]; clear hw' w')
  go_loopw [7] (fun vi wr => ∃ t : Nat, t ≤ L ∧ vi = .int .i64 (t : Int) ∧ wr = w.alloc (.cells (E8 (G (5 * t))) 5) ∧ Hid (Sha.W N (8 * n) (5 * t - 8 * n) = 0) ∧ Hid (∀ i, L - t ≤ i → i < L → Sha.isD (Sha.nth S i) = true)) (fun vi _ => L - (intOf vi).toNat)
  case atStart => exact ⟨0, by omega, rfl, by rw [← unhide HG0], by rw [Nat.mul_zero, Nat.zero_sub]; exact Sha.W_zero _ _, fun i h1 h2 => by omega⟩
  case round =>
    obtain ⟨t, ht, rfl, rfl, hov, hall⟩ := hrel
    by_cases hlt : t < L
    · obtain ⟨I, hI⟩ : ∃ I, I + 1 + t = L := ⟨L - 1 - t, by omega⟩
      have hix := unhide HIx I (by omega)
      have hLI : (L : Int) - 1 - (t : Int) = (I : Int) := by omega
      have HDt := hide (unhide HD t hlt)
      rw [show L - 1 - t = I by omega] at HDt
      generalize hX : Sha.nth S I = x at *
      have HXI := hide hX
      clear hX
      cases hD : Sha.isD x with
      | false =>
        go_wp2_with (go_at_call 62; refine (value_any x _).mono ?_; rintro e w' ⟨v, rfl, hv, hw'⟩; rcases hv with ⟨hv1, hv2⟩ | ⟨hv1, rfl⟩; (exact absurd (hD.symm.trans hv1) (by simp)); rw [hw']; clear hw' hv1 w')
        go_ret2
        refine ⟨(Below.refl _ _).alloc (Nat.le_refl _) _, .inr ⟨fun hg => ?_, rfl⟩⟩
        have := ((unhide HG).1 hg).1 I (by rw [unhide HSl]; omega)
        rw [unhide HXI, hD] at this; cases this
      | true =>
        have hvl : Sha.vd x < 32 := Sha.vd_lt hD
        have HDx := hide (unhide HDt hD)
        generalize hVD : Sha.vd x = d at *
        go_wp2_with (go_at_call 62; refine (value_any x _).mono ?_; rintro e w' ⟨v, rfl, hv, hw'⟩; rcases hv with ⟨hv1, rfl⟩ | ⟨hv1, hv2⟩; rotate_left; (exact absurd (hD.symm.trans hv1) (by simp)); rw [hw', hVD]; clear hw' hv1 w')
        go_loopw [9] (fun vj wr => ∃ j : Nat, j ≤ 5 ∧ vj = .int .i64 (j : Int) ∧ wr = w.alloc (.cells (E8 (G (5 * t + j))) 5) ∧ Hid (Sha.W N (8 * n) (5 * t + j - 8 * n) = 0)) (fun vj _ => 5 - (intOf vj).toNat)
        case atStart => exact ⟨0, by omega, rfl, rfl, hov⟩
        case round =>
          clear hov
          obtain ⟨j, hj, rfl, rfl, hov⟩ := hrel
          by_cases hj5 : j < 5
          · have hbit := W_bit N t j d hj5 (unhide HDx)
            have hdj : d / 2 ^ j < 32 := Nat.lt_of_le_of_lt (Nat.div_le_self _ _) hvl
            have band : bits .and .i64 ((d : Int) / 2 ^ j) 1 = ((Sha.W N (5 * t + j) 1 : Nat) : Int) := by
              have e : ((d : Int) / 2 ^ j) = ((d / 2 ^ j : Nat) : Int) := by push_cast; rfl
              rw [e, and_one _ (by omega), hbit]
            have hp : 5 * (t : Int) + (j : Int) = ((5 * t + j : Nat) : Int) := by omega
            have hGk := hide (unhide HGk (5 * t + j))
            have hGc := hide (unhide HGc (5 * t + j))
            have hGs := hide (unhide HGs (5 * t + j))
            have hGl := unhide HGl (5 * t + j)
            have hw2 : Sha.W N (5 * t + j) 1 < 2 := Sha.W_lt N (5 * t + j) 1
            have hcl : Sha.cellG N (5 * t + j) ((5 * t + j) / 8) < 256 := Sha.cellG_lt N _ _
            generalize hP : 5 * t + j = p at *
            have HP := hide hP
            clear hP hbit
            by_cases hb0 : Sha.W N p 1 = 0
            · rw [hb0] at band
              have hov2 := hide (Sha.over_skip n N p hb0 (unhide hov))
              have hGk' := hide (unhide hGk hb0)
              clear hcl
              go_wp2
              go_roundw
              case rel => exact ⟨j + 1, by omega, by go_num, by rw [← Nat.add_assoc, unhide HP, unhide hGk'], by rw [← Nat.add_assoc, unhide HP]; exact hov2⟩
              case measure => simp [intOf]; omega
            · have hb1 : Sha.W N p 1 = 1 := by omega
              rw [hb1] at band
              by_cases hpn : p / 8 < n
              · have hdp : decide ((n : Int) ≤ (p : Int) / 8) = false := by simp; omega
                have hcell := unhide hGc hpn
                have hGs' := hide (fun x => unhide hGs x hb1)
                generalize hy : Sha.cellG N p (p / 8) = y at *
                clear hy
                have hp8 : p % 8 < 8 := by omega
                clear hb0 hb1
                have hor := or_bit8 y (p % 8) hcl hp8
                have hset := hide (unhide hGs' _ rfl)
                have hov3 : Hid (Sha.W N (8 * n) (p + 1 - 8 * n) = 0) := by rw [show p + 1 - 8 * n = 0 by omega]; exact Sha.W_zero _ _
                generalize (y ||| 2 ^ (p % 8)) = z at *
                go_wp2
                go_roundw
                case rel => exact ⟨j + 1, by omega, by go_num, by rw [← Nat.add_assoc, unhide HP, ← unhide hset], by rw [← Nat.add_assoc, unhide HP]; exact hov3⟩
                case measure => simp [intOf]; omega
              · have hdp : decide ((n : Int) ≤ (p : Int) / 8) = true := by simp; omega
                have HF := hide (over_fail hb0 (show n ≤ p / 8 by omega))
                clear hcl
                go_wp2
                go_ret2
                exact ⟨(Below.refl _ _).alloc (Nat.le_refl _) _, .inr ⟨fun hg => unhide HF ((unhide HG).1 hg).2, rfl⟩⟩
          · obtain rfl : j = 5 := by omega
            go_wp2
            go_roundw
            case rel => exact ⟨t + 1, by omega, by go_num, rfl, hov, fun i h1 h2 => by
              by_cases hi : i = I
              · rw [hi, unhide HXI]; exact hD
              · exact unhide hall i (by omega) h2⟩
            case measure => simp [intOf]; omega
    · obtain rfl : t = L := by omega
      have HAll : Hid (Sha.allD S) := fun i hi => unhide hall i (by omega) (by rw [← unhide HSl]; exact hi)
      have HZ : Hid (N < 2 ^ (8 * n)) := (Sha.W_top_zero (N := N) (p := 8 * n) (q := 5 * t - 8 * n) (by rw [show 8 * n + (5 * t - 8 * n) = 5 * t by omega]; exact unhide HNl)).1 (unhide hov)
      go_wp2
      go_ret2
      exact ⟨(Below.refl _ _).alloc (Nat.le_refl _) _, .inl ⟨(unhide HG).2 ⟨unhide HAll, unhide HZ⟩, _, rfl, w.heap.size, [], by rw [List.append_nil, unhide HGe, unhide HGl]; rfl, Nat.le_refl _, by rw [List.append_nil, unhide HGe]; exact heap_alloc_last w _⟩⟩
end Go.Proofs.Ytlbfcneboaihnaa
/- Names: IsName, in the code and in the document's own answer. -/
namespace Go.Proofs.Ytlbfcneboaihnaa
namespace Sha
/-- A byte that may stand in a name. -/
def nameB (c : Nat) : Bool := decide ((48 ≤ c ∧ c ≤ 57) ∨ (65 ≤ c ∧ c ≤ 90) ∨ (97 ≤ c ∧ c ≤ 122) ∨ c = 43 ∨ c = 45 ∨ c = 46 ∨ c = 95 ∨ c = 63 ∨ c = 61)
/-- A name. -/
def isNm (b : List Nat) : Bool := decide (1 ≤ b.length) && decide (b.length ≤ 80) && decide (nth b 0 ≠ 46) && b.all nameB
theorem all_nth {b : List Nat} {p : Nat → Bool} (h : ∀ i, i < b.length → p (nth b i) = true) : b.all p = true := by
  rw [List.all_eq_true]
  intro x hx
  obtain ⟨i, hi, rfl⟩ := List.getElem_of_mem hx
  have := h i hi
  unfold nth at this
  rw [List.getElem?_eq_getElem hi] at this
  exact this
theorem not_all_nth {b : List Nat} {p : Nat → Bool} (i : Nat) (hi : i < b.length) (h : p (nth b i) = false) : b.all p = false := by
  rw [List.all_eq_false]
  refine ⟨b[i], List.getElem_mem hi, ?_⟩
  unfold nth at h
  rw [List.getElem?_eq_getElem hi] at h
  simpa using h
end Sha
open Go.RowKit Go.Great
attribute [local go_sem] index_strIx
theorem ret_bool {a b : Bool} (h : a = b) : Ending.returned (.bool a) = .returned (.bool b) := by rw [h]
set_option maxRecDepth 20000 in
set_option maxHeartbeats 1000000 in
theorem nameByte_any (c : Nat) (w : World) (hc : c < 256) :
    Calls Try.prog 98 #[.int .u8 (c : Int)] w fun e w' => e = .returned (.bool (Sha.nameB c)) ∧ w' = w := by
  go_enter Try.func98, Try.ntmps98
  go_wp2
  all_goals go_ret
  all_goals
    refine ⟨ret_bool ?_, rfl⟩
    unfold Sha.nameB
    try simp only [beq_iff_eq, beq_eq_false_iff_ne, ne_eq] at *
    first
      | (symm; rw [decide_eq_true_iff]; omega)
      | (symm; rw [decide_eq_false_iff_not]; omega)
theorem isNm_short {b : List Nat} (h : b.length < 1) : Sha.isNm b = false := by
  unfold Sha.isNm; rw [decide_eq_false (by omega)]; rfl
theorem isNm_long {b : List Nat} (h : 80 < b.length) : Sha.isNm b = false := by
  unfold Sha.isNm; rw [decide_eq_false (show ¬ b.length ≤ 80 by omega)]; simp
theorem isNm_dot {b : List Nat} (h : Sha.nth b 0 = 46) : Sha.isNm b = false := by
  unfold Sha.isNm; rw [decide_eq_false (show ¬ Sha.nth b 0 ≠ 46 by omega)]; simp
theorem isNm_at {b : List Nat} (i : Nat) (hi : i < b.length) (h : Sha.nameB (Sha.nth b i) = false) : Sha.isNm b = false := by
  unfold Sha.isNm; rw [Sha.not_all_nth i hi h]; simp
theorem isNm_yes {b : List Nat} (h1 : 1 ≤ b.length) (h2 : b.length ≤ 80) (h3 : Sha.nth b 0 ≠ 46) (h : ∀ i, i < b.length → Sha.nameB (Sha.nth b i) = true) : Sha.isNm b = true := by
  unfold Sha.isNm; rw [Sha.all_nth h, decide_eq_true h1, decide_eq_true h2, decide_eq_true h3]; rfl
set_option maxRecDepth 20000 in
set_option maxHeartbeats 1000000 in
theorem isName_any (s : ByteArray) (w : World) (hm : s.size ≤ 9223372036854775807) :
    Calls Try.prog 69 #[.string s] w fun e w' => e = .returned (.bool (Sha.isNm (bytesOf s))) ∧ w' = w := by
  obtain ⟨L, hL⟩ : ∃ L, L = s.size := ⟨_, rfl⟩
  have hsz : s.size = L := hL.symm
  obtain ⟨S, hS⟩ : ∃ S, S = bytesOf s := ⟨_, rfl⟩
  have hSl : S.length = L := by rw [hS, hL, bytesOf_length]
  have HX : Hid (∀ i, Sha.nth S i < 256) := fun i => by rw [hS]; exact (bytesOf_bytes s).at i
  have HIx : Hid (∀ i, i < L → ∀ w, (strIx s (.int .i64 (i : Int))).run Try.prog w = .ok (.int .u8 ((Sha.nth S i : Nat) : Int)) w) := fun i hi w => by rw [hS]; exact run_strIx w s i (by omega)
  rw [← hS]
  have HSl := hide hSl
  clear hL hS hSl
  by_cases h0 : L < 1
  · go_enter Try.func69, Try.ntmps69
    go_wp2
    go_ret
    exact ⟨ret_bool (isNm_short (by rw [unhide HSl]; exact h0)).symm, rfl⟩
  · by_cases h80 : 80 < L
    · go_enter Try.func69, Try.ntmps69
      go_wp2
      go_ret
      exact ⟨ret_bool (isNm_long (by rw [unhide HSl]; exact h80)).symm, rfl⟩
    · have hix0 : ∀ w, (strIx s (.int .i64 0)).run Try.prog w = .ok (.int .u8 ((Sha.nth S 0 : Nat) : Int)) w := unhide HIx 0 (by omega)
      have hx0 := unhide HX 0
      by_cases hd : Sha.nth S 0 = 46
      · have hde : (((Sha.nth S 0 : Nat) : Int) == 46) = true := by rw [hd]; rfl
        go_enter Try.func69, Try.ntmps69
        go_wp2
        go_ret
        exact ⟨ret_bool (isNm_dot hd).symm, rfl⟩
      · have hde : (((Sha.nth S 0 : Nat) : Int) == 46) = false := by rw [beq_eq_false_iff_ne]; omega
        have HD := hide hd
        clear hd
        go_enter Try.func69, Try.ntmps69
        go_wp2
        go_loopw [19] (fun vi wr => ∃ i : Nat, i ≤ L ∧ vi = .int .i64 (i : Int) ∧ wr = w ∧ Hid (∀ j, j < i → Sha.nameB (Sha.nth S j) = true)) (fun vi _ => L - (intOf vi).toNat)
        case atStart => exact ⟨0, by omega, rfl, rfl, fun j hj => by omega⟩
        case round =>
          obtain ⟨i, hi, rfl, rfl, hall⟩ := hrel
          by_cases hlt : i < L
          · have hix := unhide HIx i hlt
            have hx := unhide HX i
            generalize hX : Sha.nth S i = x at *
            have HXI := hide hX
            clear hX
            cases hN : Sha.nameB x with
            | false =>
              go_wp2_with (go_at_call 98; refine (nameByte_any x _ hx).mono ?_; rintro e w' ⟨rfl, hw'⟩; rw [hw', hN]; clear hw' w')
              go_ret
              exact ⟨ret_bool (isNm_at i (by rw [unhide HSl]; exact hlt) (by rw [unhide HXI]; exact hN)).symm, rfl⟩
            | true =>
              go_wp2_with (go_at_call 98; refine (nameByte_any x _ hx).mono ?_; rintro e w' ⟨rfl, hw'⟩; rw [hw', hN]; clear hw' w')
              go_roundw
              case rel => exact ⟨i + 1, by omega, by go_num, by first | rfl | trivial, fun j hj => by
                by_cases hji : j = i
                · rw [hji, unhide HXI]; exact hN
                · exact unhide hall j (by omega)⟩
              case measure => simp [intOf]; try omega
          · obtain rfl : i = L := by omega
            go_wp2
            go_ret
            exact ⟨ret_bool (isNm_yes (by rw [unhide HSl]; omega) (by rw [unhide HSl]; omega) (unhide HD) (by rw [unhide HSl]; exact unhide hall)).symm, rfl⟩

set_option maxRecDepth 20000 in
set_option maxHeartbeats 1000000 in
theorem isNameRef_any (s : ByteArray) (w : World) (hm : s.size ≤ 9223372036854775807) :
    Calls Try.prog 46 #[.string s] w fun e w' => e = .returned (.bool (Sha.isNm (bytesOf s))) ∧ w' = w := by
  obtain ⟨L, hL⟩ : ∃ L, L = s.size := ⟨_, rfl⟩
  have hsz : s.size = L := hL.symm
  obtain ⟨S, hS⟩ : ∃ S, S = bytesOf s := ⟨_, rfl⟩
  have hSl : S.length = L := by rw [hS, hL, bytesOf_length]
  have HX : Hid (∀ i, Sha.nth S i < 256) := fun i => by rw [hS]; exact (bytesOf_bytes s).at i
  have HIx : Hid (∀ i, i < L → ∀ w, (strIx s (.int .i64 (i : Int))).run Try.prog w = .ok (.int .u8 ((Sha.nth S i : Nat) : Int)) w) := fun i hi w => by rw [hS]; exact run_strIx w s i (by omega)
  rw [← hS]
  have HSl := hide hSl
  clear hL hS hSl
  by_cases h0 : L < 1
  · go_enter Try.func46, Try.ntmps46
    go_wp2
    go_ret
    exact ⟨ret_bool (isNm_short (by rw [unhide HSl]; exact h0)).symm, rfl⟩
  · by_cases h80 : 80 < L
    · go_enter Try.func46, Try.ntmps46
      go_wp2
      go_ret
      exact ⟨ret_bool (isNm_long (by rw [unhide HSl]; exact h80)).symm, rfl⟩
    · have hix0 : ∀ w, (strIx s (.int .i64 0)).run Try.prog w = .ok (.int .u8 ((Sha.nth S 0 : Nat) : Int)) w := unhide HIx 0 (by omega)
      have hx0 := unhide HX 0
      by_cases hd : Sha.nth S 0 = 46
      · have hde : (((Sha.nth S 0 : Nat) : Int) == 46) = true := by rw [hd]; rfl
        go_enter Try.func46, Try.ntmps46
        go_wp2
        go_ret
        exact ⟨ret_bool (isNm_dot hd).symm, rfl⟩
      · have hde : (((Sha.nth S 0 : Nat) : Int) == 46) = false := by rw [beq_eq_false_iff_ne]; omega
        have HD := hide hd
        clear hd
        go_enter Try.func46, Try.ntmps46
        go_wp2
        go_loopw [3] (fun vi wr => ∃ i : Nat, i ≤ L ∧ vi = .int .i64 (i : Int) ∧ wr = w ∧ Hid (∀ j, j < i → Sha.nameB (Sha.nth S j) = true)) (fun vi _ => L - (intOf vi).toNat)
        case atStart => exact ⟨0, by omega, rfl, rfl, fun j hj => by omega⟩
        case round =>
          obtain ⟨i, hi, rfl, rfl, hall⟩ := hrel
          by_cases hlt : i < L
          · have hix := unhide HIx i hlt
            have hx := unhide HX i
            generalize hX : Sha.nth S i = x at *
            have HXI := hide hX
            clear hX
            have HF : Hid (Sha.nameB x = false → Sha.isNm S = false) := fun hN => isNm_at i (by rw [unhide HSl]; exact hlt) (by rw [unhide HXI]; exact hN)
            have HT : Hid (Sha.nameB x = true → ∀ j, j < i + 1 → Sha.nameB (Sha.nth S j) = true) := fun hN j hj => by
              by_cases hji : j = i
              · rw [hji, unhide HXI]; exact hN
              · exact unhide hall j (by omega)
            clear hall
            go_wp2
            all_goals try go_ret
            all_goals
              first
                | (refine ⟨ret_bool (unhide HF ?_).symm, rfl⟩
                   clear HF HT HX HIx HSl HD HXI hix hix0 hde
                   unfold Sha.nameB
                   simp only [bne_iff_ne, ne_eq, Bool.not_eq_true', decide_eq_false_iff_not] at *
                   omega)
                | (refine ⟨⟨i + 1, by omega, by go_num, by first | rfl | trivial, unhide HT ?_⟩, by simp [intOf]; omega⟩
                   clear HF HT HX HIx HSl HD HXI hix hix0 hde
                   unfold Sha.nameB
                   simp only [bne_eq_false_iff_eq, Bool.not_eq_false', decide_eq_true_eq] at *
                   omega)
          · obtain rfl : i = L := by omega
            go_wp2
            go_ret
            exact ⟨ret_bool (isNm_yes (by rw [unhide HSl]; omega) (by rw [unhide HSl]; omega) (unhide HD) (by rw [unhide HSl]; exact unhide hall)).symm, rfl⟩
end Go.Proofs.Ytlbfcneboaihnaa
