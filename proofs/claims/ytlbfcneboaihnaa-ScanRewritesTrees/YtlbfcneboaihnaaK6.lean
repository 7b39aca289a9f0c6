import Derived.WalkKit
import Derived.Test.YtlbfcneboaihnaaK2
import Derived.Test.YtlbfcneboaihnaaK1
import Derived.Deep.RegionHeld3
import Derived.Lib.ConvBytes
import Derived.Shelf.LaysM
import Derived.Shelf.Strconv.Clone
import Derived.OwnWalk
/- Rows of digits that stand in bytes, and the run of digits that a look keeps: the plain mathematics. No Go text is named here. -/
namespace Go.Proofs.Ytlbfcneboaihnaa
/-- d stands in B at k. -/
def StandsAt (B d : List Nat) (k : Nat) : Prop := k + d.length ≤ B.length ∧ (B.drop k).take d.length = d
def Stands (B d : List Nat) : Prop := ∃ k, StandsAt B d k
/-- d stands in B and ends by i. -/
def StandsBy (B d : List Nat) (i : Nat) : Prop := ∃ k, k + d.length ≤ i ∧ StandsAt B d k
theorem standsBy_all (B d : List Nat) : StandsBy B d B.length ↔ Stands B d :=
  ⟨fun ⟨k, _, h⟩ => ⟨k, h⟩, fun ⟨k, h⟩ => ⟨k, h.1, h⟩⟩
theorem standsBy_stands {B d : List Nat} {i : Nat} (h : StandsBy B d i) : Stands B d := by obtain ⟨k, _, h⟩ := h; exact ⟨k, h⟩
theorem standsBy_zero {B d : List Nat} (hd : 0 < d.length) : ¬ StandsBy B d 0 := fun ⟨k, h, _⟩ => by omega
theorem standsBy_succ (B d : List Nat) (i : Nat) : StandsBy B d (i + 1) ↔ StandsBy B d i ∨ (d.length ≤ i + 1 ∧ StandsAt B d (i + 1 - d.length)) := by
  constructor
  · rintro ⟨k, h1, h2⟩
    rcases Nat.lt_or_ge i (k + d.length) with h | h
    · exact .inr ⟨by omega, by rw [show i + 1 - d.length = k by omega]; exact h2⟩
    · exact .inl ⟨k, h, h2⟩
  · rintro (⟨k, h1, h2⟩ | ⟨h1, h2⟩)
    · exact ⟨k, by omega, h2⟩
    · exact ⟨_, by omega, h2⟩
/-- r digits stand ahead of i, and no more. -/
structure RunAt (dig : Nat → Bool) (B : List Nat) (i r : Nat) : Prop where
  le : r ≤ i
  all : ∀ j, i - r ≤ j → j < i → dig (B.getD j 0) = true
  max : r < i → dig (B.getD (i - r - 1) 0) = false
theorem RunAt.start (dig : Nat → Bool) (B : List Nat) : RunAt dig B 0 0 := ⟨Nat.le_refl _, fun j _ h => by omega, fun h => by omega⟩
theorem RunAt.more {dig : Nat → Bool} {B : List Nat} {i r : Nat} (h : RunAt dig B i r) (hd : dig (B.getD i 0) = true) : RunAt dig B (i + 1) (r + 1) where
  le := by have := h.le; omega
  all := fun j h1 h2 => by
    rcases Nat.lt_or_ge j i with h3 | h3
    · exact h.all j (by omega) h3
    · obtain rfl : j = i := by omega
      exact hd
  max := fun h1 => by have := h.max (by omega); rw [show i + 1 - (r + 1) - 1 = i - r - 1 by omega]; exact this
theorem RunAt.stop {dig : Nat → Bool} {B : List Nat} {i : Nat} (hd : dig (B.getD i 0) = false) : RunAt dig B (i + 1) 0 where
  le := by omega
  all := fun j h1 h2 => by omega
  max := fun _ => by rw [show i + 1 - 0 - 1 = i by omega]; exact hd
theorem standsAt_get {B d : List Nat} {k : Nat} (h : StandsAt B d k) (j : Nat) (hj : j < d.length) : B.getD (k + j) 0 = d.getD j 0 := by
  have e : ((B.drop k).take d.length).getD j 0 = d.getD j 0 := by rw [h.2]
  rw [← e]
  simp only [List.getD_eq_getElem?_getD]
  rw [List.getElem?_take, if_pos hj, List.getElem?_drop]
/-- Where digits that stand end, the run is at least as long. -/
theorem RunAt.long {dig : Nat → Bool} {B d : List Nat} {i r : Nat} (h : RunAt dig B i r) (hd : ∀ j, j < d.length → dig (d.getD j 0) = true) (hi : d.length ≤ i) (hs : StandsAt B d (i - d.length)) : d.length ≤ r := by
  rcases Nat.lt_or_ge r d.length with hr | hr
  · have h1 := h.max (by omega)
    have h2 := standsAt_get hs (d.length - r - 1) (by omega)
    rw [show i - d.length + (d.length - r - 1) = i - r - 1 by omega] at h2
    rw [h2] at h1
    rw [hd _ (by omega)] at h1
    cases h1
  · exact hr
/-- What one step of the look strikes out, among rows of digits: the row that ends there, asked for only behind a run that is long enough. -/
theorem standsBy_step {dig : Nat → Bool} {B d : List Nat} {i r : Nat} (h : RunAt dig B (i + 1) r) (hd : ∀ j, j < d.length → dig (d.getD j 0) = true) (hi : i < B.length) :
    StandsBy B d (i + 1) ↔ StandsBy B d i ∨ (d.length ≤ r ∧ (B.drop (i + 1 - d.length)).take d.length = d) := by
  rw [standsBy_succ B d i]
  constructor
  · rintro (h1 | ⟨h1, h2⟩)
    · exact .inl h1
    · exact .inr ⟨h.long hd h1 h2, h2.2⟩
  · rintro (h1 | ⟨h1, h2⟩)
    · exact .inl h1
    · have := h.le
      exact .inr ⟨by omega, by omega, h2⟩
end Go.Proofs.Ytlbfcneboaihnaa
/- isDigit: is a byte one of the digits? -/
namespace Go.Proofs.Ytlbfcneboaihnaa
open Go.RowKit Go.Great
set_option linter.unusedSimpArgs false
/-- A digit of the base thirty-two. -/
def digB (c : Nat) : Bool := decide (48 ≤ c ∧ c ≤ 57) || decide (97 ≤ c ∧ c ≤ 122 ∧ c ≠ 101 ∧ c ≠ 111 ∧ c ≠ 116 ∧ c ≠ 117)
set_option maxRecDepth 20000 in
set_option maxHeartbeats 1000000 in
theorem isDigit_any (c : Nat) (w : World) : Calls Try.prog 44 #[.int .u8 (c : Int)] w fun e w' => e = .returned (.bool (digB c)) ∧ w' = w := by
  have HD : Hid (∀ b : Bool, (b = true ↔ (48 ≤ (c : Int) ∧ (c : Int) ≤ 57) ∨ (97 ≤ (c : Int) ∧ (c : Int) ≤ 122 ∧ (c : Int) ≠ 101 ∧ (c : Int) ≠ 111 ∧ (c : Int) ≠ 116 ∧ (c : Int) ≠ 117)) → b = digB c) := by
    intro b hb
    rw [Bool.eq_iff_iff, hb]
    unfold digB
    rw [Bool.or_eq_true, decide_eq_true_iff, decide_eq_true_iff]
    omega
  obtain ⟨D, hD⟩ : ∃ D, D = digB c := ⟨_, rfl⟩
  rw [← hD] at HD ⊢
  clear hD
  go_enter Try.func44, Try.ntmps44
  go_wp2_with fail
  all_goals
    go_ret
    refine ⟨congrArg (fun b => Ending.returned (Value.bool b)) (unhide HD _ ?_), rfl⟩
    first
    | (simp; done)
    | (simp; omega)
    | omega
    | trace_state
end Go.Proofs.Ytlbfcneboaihnaa
/- The document's own block. -/
namespace Go.Proofs.Ytlbfcneboaihnaa
open Go.RowKit Go.Great
attribute [local go_sem] f_8 f_1024 f_hi4 f_lo4

theorem cell_set_other (w : World) (b i j : Nat) (v : Value) (h : i ≠ j) : (w.setCell ⟨b, i, none⟩ v).cell? ⟨b, j, none⟩ = w.cell? ⟨b, j, none⟩ := by
  refine World.cell?_setCell_other _ _ _ _ (fun e => ?_)
  simp_all
theorem wrap_add (a b : Nat) : IntKind.u32.wrap ((a : Int) + (b : Int)) = ((Sha.add a b : Nat) : Int) := by rw [IntKind.wrap_u32]; exact f_add a b
theorem row_cell32 (w : World) (b : Nat) (l : List Nat) (h : rowOf w b = E32 l) (i : Nat) (hi : i < l.length) : w.cell? ⟨b, i, none⟩ = some (.int .u32 ((Sha.nth l i : Nat) : Int)) :=
  cell_row _ _ _ _ (by rw [h]; exact E32_get _ _ hi)
theorem block_plus (s : Sha.St) (p : List Nat) : Sha.block s p = Sha.plus s (Sha.rounds s (Sha.sched p) 64) := by unfold Sha.block; rfl
/-- The cells that one of the document's rounds reads. -/
structure R3 (wr : World) (kb z k : Nat) (t : Sha.St) (kk ss : Nat) : Prop where
  ck : wr.cell? ⟨kb, k, none⟩ = some (.int .u32 (kk : Int))
  cs : wr.cell? ⟨z + 1 + 1, k, none⟩ = some (.int .u32 (ss : Int))
  c0 : wr.cell? ⟨z + 1 + 1 + 1, 0, none⟩ = some (.int .u32 (t.a : Int))
  c1 : wr.cell? ⟨z + 1 + 1 + 1, 1, none⟩ = some (.int .u32 (t.b : Int))
  c2 : wr.cell? ⟨z + 1 + 1 + 1, 2, none⟩ = some (.int .u32 (t.c : Int))
  c3 : wr.cell? ⟨z + 1 + 1 + 1, 3, none⟩ = some (.int .u32 (t.d : Int))
  c4 : wr.cell? ⟨z + 1 + 1 + 1, 4, none⟩ = some (.int .u32 (t.e : Int))
  c5 : wr.cell? ⟨z + 1 + 1 + 1, 5, none⟩ = some (.int .u32 (t.f : Int))
  c6 : wr.cell? ⟨z + 1 + 1 + 1, 6, none⟩ = some (.int .u32 (t.g : Int))
  c7 : wr.cell? ⟨z + 1 + 1 + 1, 7, none⟩ = some (.int .u32 (t.h : Int))
theorem R3.drews {wr : World} {kb z k : Nat} {t : Sha.St} {kk ss : Nat} (h : R3 wr kb z k t kk ss) (n : Nat) : R3 (wr.drewN n) kb z k t kk ss :=
  ⟨h.ck, h.cs, h.c0, h.c1, h.c2, h.c3, h.c4, h.c5, h.c6, h.c7⟩
theorem R3.mk' {wr : World} {kb z k : Nat} {t : Sha.St} {kk ss : Nat} (ck : wr.cell? ⟨kb, k, none⟩ = some (.int .u32 (kk : Int))) (cs : wr.cell? ⟨z + 1 + 1, k, none⟩ = some (.int .u32 (ss : Int))) (h : rowOf wr (z + 1 + 1 + 1) = E32 t.list) : R3 wr kb z k t kk ss := by
  have e : ∀ i, i < 8 → wr.cell? ⟨z + 1 + 1 + 1, i, none⟩ = some (.int .u32 ((Sha.nth t.list i : Nat) : Int)) := fun i hi => row_cell32 _ _ _ h i (by simpa using hi)
  exact ⟨ck, cs, e 0 (by omega), e 1 (by omega), e 2 (by omega), e 3 (by omega), e 4 (by omega), e 5 (by omega), e 6 (by omega), e 7 (by omega)⟩
theorem fits_setRow_at (w : World) (n k : Nat) (c : Array Value) (h : fits w n k = true) (hc : c.size = k) : fits (w.setRow n c) n k = true := by
  obtain ⟨cs, t, e, -, -⟩ := fits_some h
  unfold fits; rw [setRow_heap w n cs c t _ e]; simp [hc]
end Go.Proofs.Ytlbfcneboaihnaa
/- The document's own Sum: the padded row, block by block. -/
namespace Go.Proofs.Ytlbfcneboaihnaa
namespace Sha
/-- How many noughts stand behind the mark. -/
def gap (n : Nat) : Nat := endOf (n % 64) - 9 - n % 64
theorem gap_lt (n : Nat) : gap n < 64 := by
  unfold gap; have := endOf_cases (n % 64); omega
theorem gap_at (n k : Nat) (h : k ≤ gap n) : (n + 1 + k) % 64 = 56 ↔ k = gap n := by
  unfold gap at h ⊢; have := endOf_cases (n % 64); omega
/-- The padded row. -/
def padded (b : List Nat) : List Nat := b ++ [128] ++ List.replicate (gap b.length) 0 ++ count (8 * b.length)
theorem padded_length (b : List Nat) : (padded b).length = 64 * (b.length / 64 + endOf (b.length % 64) / 64) := by
  unfold padded gap
  have := endOf_cases (b.length % 64)
  simp [count]; omega
theorem padded_bytes {b : List Nat} (h : Bytes b) : Bytes (padded b) :=
  ((h.append (Bytes.one (by omega))).append (Bytes.rep _)).append (count_bytes _)
theorem sum_padded (b : List Nat) : out (blocks start (padded b) (b.length / 64 + endOf (b.length % 64) / 64)) = sum b := by
  have hq : (b.take (b.length - b.length % 64)).length = 64 * (b.length / 64) := by rw [List.length_take]; omega
  have hr : (b.drop (b.length - b.length % 64)).length = b.length % 64 := by rw [List.length_drop]; omega
  unfold sum sumBehind
  rw [← blocks_append start (b.take (b.length - b.length % 64)) _ (b.length / 64) _ hq]
  congr 2
  unfold tail padded gap
  rw [hr, Nat.zero_add]
  simp only [← List.append_assoc]
  rw [List.take_append_drop]
theorem count_take (c J : Nat) (h : J < 8) : (count c).take (8 - J) = (count c).take (8 - (J + 1)) ++ [c / 2 ^ (8 * J) % 256] := by
  match J, h with
  | 0, _ => simp [count]
  | 1, _ => rfl
  | 2, _ => rfl
  | 3, _ => rfl
  | 4, _ => rfl
  | 5, _ => rfl
  | 6, _ => rfl
  | 7, _ => rfl
end Sha
open Go.RowKit Go.Great
attribute [local go_sem] f_8 f_1024 f_hi4 f_lo4
theorem OwnB.below' {w w' : World} {base : Nat} {v : Value} {L : List Nat} (h : OwnB w base v L) (hb : Below w.heap.size w w') : OwnB w' base v L := by
  obtain ⟨g, R, rfl, hg, hh⟩ := h
  exact ⟨g, R, rfl, hg, by rw [hb.block g (Array.getElem?_eq_some_iff.1 hh).1]; exact hh⟩
theorem OwnB.bytesAt2 {w : World} {base : Nat} {v : Value} {L : List Nat} (h : OwnB w base v L) : BytesAt w v L := by
  obtain ⟨g, R, rfl, hg, hh⟩ := h
  exact bytesAt_row w g (L ++ R) L _ _ (by unfold rowOf; rw [hh]) (Array.getElem?_eq_some_iff.1 hh).1 (by simp) (by simp) (List.take_left' rfl)
theorem shr_byte (c J : Nat) (hJ : J < 8) (hc : c < 18446744073709551616) : ((c : Int) / 2 ^ (8 * J)) % 256 = ((c / 2 ^ (8 * J) % 256 : Nat) : Int) := by
  have _ := hJ
  have _ := hc
  have e : ((c : Int) / 2 ^ (8 * J)) = ((c / 2 ^ (8 * J) : Nat) : Int) := by push_cast; rfl
  rw [e]; omega
theorem app_first (w : World) (base : Nat) (a : Option Addr) (b : List Nat) (cap : Nat) (hbase : base = w.heap.size) (hv : BytesAt w (.slice a b.length cap) b) (hmax : b.length ≤ 200000) :
    ∃ v' w', (∀ ty, (app52 ty #[.slice (some ⟨w.heap.size, 0, none⟩) 0 0, .slice a b.length cap]).run Try.prog (w.alloc (.cells #[] 5)) = .ok v' w') ∧ OwnB w' base v' b ∧ Below base w w' ∧ w.heap.size + 1 ≤ w'.heap.size := by
  subst hbase
  have hb0 : Below w.heap.size w (w.alloc (.cells #[] 5)) := (Below.refl _ _).alloc (Nat.le_refl _) _
  by_cases h0 : 0 < b.length
  · obtain ⟨v1, w1, hr1, ho1, hbl1, hz1⟩ := app_own (w.alloc (.cells #[] 5)) w.heap.size (.slice (some ⟨w.heap.size, 0, none⟩) 0 0) [] a b cap ⟨w.heap.size, [], rfl, Nat.le_refl _, heap_alloc_last w _⟩ (hv.below hb0) h0 (by simp; omega)
    exact ⟨v1, w1, hr1, by simpa using ho1, hb0.trans hbl1, by simpa using hz1⟩
  · obtain rfl : b = [] := List.eq_nil_of_length_eq_zero (by omega)
    exact ⟨_, _, app_none (w.alloc (.cells #[] 5)) (some ⟨w.heap.size, 0, none⟩) a 0 0 cap (Nat.le_refl _), ⟨w.heap.size, [], rfl, Nat.le_refl _, heap_alloc_last w _⟩, hb0, by simp⟩
def lenV : Value → Nat
  | .slice _ l _ => l
  | _ => 0
theorem OwnB.len {w : World} {base : Nat} {v : Value} {L : List Nat} (h : OwnB w base v L) : lenV v = L.length := by
  obtain ⟨g, R, rfl, hg, hh⟩ := h; rfl
end Go.Proofs.Ytlbfcneboaihnaa
/- Make, in the code and in the document's own answer. -/
namespace Go.Proofs.Ytlbfcneboaihnaa
namespace Sha
/-- What a path's digits are made of. -/
def inside (k l n : List Nat) : List Nat := k ++ [58] ++ hexTo l 32 ++ [58] ++ n
/-- The path of a kind, a digest and a name. -/
def pathOf (k l n : List Nat) : List Nat := textOf (foldTo (sum (inside k l n)) 32) ++ [45] ++ n
end Sha
open Go.RowKit Go.Great
def cvB (v : Value) : Sem Value := convert 9 22 v
@[go_sem ↓] theorem convert_cvB (v : Value) : convert 9 22 v = cvB v := rfl
theorem below_of_blocks {w w' : World} (h1 : w'.os = w.os) (h2 : w'.tape = w.tape) (h3 : w'.output = w.output) (hs : w.heap.size ≤ w'.heap.size) (hb : ∀ j, j < w.heap.size → w'.heap[j]? = w.heap[j]?) : Below w.heap.size w w' := ⟨h1, h2, h3, hs, hb⟩
theorem run_cvB (w : World) (s : ByteArray) : ∃ cap w', (cvB (.string s)).run Try.prog w = .ok (.slice (some ⟨w.heap.size, 0, none⟩) s.size cap) w' ∧ Below w.heap.size w w' ∧ BytesAt w' (.slice (some ⟨w.heap.size, 0, none⟩) s.size cap) (bytesOf s) ∧ w.heap.size + 1 ≤ w'.heap.size := by
  refine ⟨grownCap w s.size 0 5, Lib.bytesWorld w 5 s, ?_, ?_, ?_, ?_⟩
  · exact Lib.run_convert_string_bytes w 9 22 5 s Try.underlying9 Try.underlying22 Try.underlying5
  · exact ⟨rfl, rfl, rfl, by rw [Lib.bytesWorld_size]; omega, fun j hj => Lib.bytesWorld_at_old w 5 s j hj⟩
  · refine ⟨_, _, by rw [bytesOf_length], by rw [bytesOf_length]; exact grownCap_ge w s.size 0 5, fun _ => ⟨w.heap.size, 0, rfl, by rw [Lib.bytesWorld_size]; omega, fun i hi => ?_⟩⟩
    rw [bytesOf_length] at hi
    rw [Nat.zero_add, Lib.bytesWorld_cell w 5 s i hi]
    congr 2
    unfold Sha.nth bytesOf
    rw [List.getElem?_map]
    simp [List.getD, hi]
  · rw [Lib.bytesWorld_size]; omega
theorem strOf_bytesOf (s : ByteArray) : strOf (bytesOf s) = s := by
  apply ByteArray.ext
  unfold strOf bytesOf
  rw [List.map_map]
  apply Array.ext'
  simp [Function.comp_def]
theorem colon : (⟨#[58]⟩ : ByteArray) = strOf [58] := rfl
theorem hyphen : (⟨#[45]⟩ : ByteArray) = strOf [45] := rfl
theorem nil_str : (⟨#[]⟩ : ByteArray) = strOf [] := rfl
theorem isName_l (n : List Nat) (w : World) (hb : Sha.Bytes n) (hm : n.length ≤ 9223372036854775807) :
    Calls Try.prog 69 #[.string (strOf n)] w fun e w' => e = .returned (.bool (Sha.isNm n)) ∧ w' = w := by
  have := isName_any (strOf n) w (by rw [strOf_size]; exact hm)
  rwa [bytesOf_strOf n hb] at this
theorem isNameRef_l (n : List Nat) (w : World) (hb : Sha.Bytes n) (hm : n.length ≤ 9223372036854775807) :
    Calls Try.prog 46 #[.string (strOf n)] w fun e w' => e = .returned (.bool (Sha.isNm n)) ∧ w' = w := by
  have := isNameRef_any (strOf n) w (by rw [strOf_size]; exact hm)
  rwa [bytesOf_strOf n hb] at this
theorem isNm_len {n : List Nat} (h : Sha.isNm n = true) : 1 ≤ n.length ∧ n.length ≤ 80 := by
  by_cases h1 : n.length < 1
  · rw [isNm_short h1] at h; cases h
  · by_cases h2 : 80 < n.length
    · rw [isNm_long h2] at h; cases h
    · omega
theorem x8_lt (a b : Nat) : x8 a b < 256 := by
  unfold x8
  have h := (bits_within .xor .u8 (a : Int) (b : Int)).2
  have e : IntKind.u8.max = 255 := by decide
  rw [e] at h
  have := bits_pos8 .xor (a : Int) (b : Int)
  omega
theorem foldTo_bytes (l : List Nat) (_ : Sha.Bytes l) (i : Nat) : Sha.Bytes (foldTo l i) := by
  induction i with
  | zero => exact Sha.Bytes.rep _
  | succ i ih =>
    intro x hx
    rcases List.mem_or_eq_of_mem_set hx with h | h
    · exact ih x h
    · rw [h]; exact x8_lt _ _
end Go.Proofs.Ytlbfcneboaihnaa
/- strings.Clone: the same bytes, and nothing that was there has changed: the library's own contract, laid at this program. -/
namespace Go.Proofs.Ytlbfcneboaihnaa
open Go.Shelf
def laysClone_ren : Go.Shelf.Ren := ⟨fun | 316 => 60 | n => n, fun | 9 => 9 | 3 => 3 | 4 => 4 | 37 => 22 | 0 => 0 | 127 => 128 | 5 => 5 | n => n, fun | n => n⟩
theorem laysClone : Go.Proofs.LaysM.n316 Try.prog laysClone_ren := {
  mixed := by kernel_rfl
  f316 := Try.func60.trans (congrArg some (by kernel_rfl))
  t0 := Try.underlying0
  a0 := Try.isAgg0
  z0 := Try.sizeOf0
  v0 := Try.zeroValue0
  t3 := Try.underlying3
  a3 := Try.isAgg3
  z3 := Try.sizeOf3
  v3 := Try.zeroValue3
  t4 := Try.underlying4
  a4 := Try.isAgg4
  z4 := Try.sizeOf4
  v4 := Try.zeroValue4
  t9 := Try.underlying9
  a9 := Try.isAgg9
  z9 := Try.sizeOf9
  v9 := Try.zeroValue9
  t37 := Try.underlying22
  a37 := Try.isAgg22
  z37 := Try.sizeOf22
  v37 := Try.zeroValue22
  t127 := Try.underlying128
  a127 := Try.isAgg128
  z127 := Try.sizeOf128
  v127 := Try.zeroValue128
  t5 := Try.underlying5
  a5 := Try.isAgg5
  z5 := Try.sizeOf5
  v5 := Try.zeroValue5
  i0 := by kernel_rfl
  i3 := by kernel_rfl
  i4 := by kernel_rfl
  i5 := by kernel_rfl
  i9 := by kernel_rfl
  i37 := by kernel_rfl
  i127 := by kernel_rfl }
open Go.RowKit Go.Great
theorem clone_in (s : ByteArray) (w : World) (hlim : s.size ≤ 281474976710656) :
    Calls Try.prog 60 #[.string s] w fun e w' => e = .returned (.string s) ∧ Below w.heap.size w w' := Any.stringslite_Clone laysClone s w hlim
set_option maxHeartbeats 400000 in
theorem clone_any (s : ByteArray) (w : World) (hlim : s.size ≤ 281474976710656) :
    Calls Try.prog 45 #[.string s] w fun e w' => e = .returned (.string s) ∧ Below w.heap.size w w' := by
  go_enter Try.func45, Try.ntmps45
  go_wp2_with (go_at_call 60; refine (clone_in s _ hlim).mono ?_; rintro e w' ⟨rfl, hb⟩)
  go_ret
  exact ⟨rfl, hb⟩
end Go.Proofs.Ytlbfcneboaihnaa
/- isPath and Split, in the code and in the document's own answer. -/
namespace Go.Proofs.Ytlbfcneboaihnaa
namespace Sha
/-- A path: thirty-two digits of twenty bytes, a hyphen, a name. -/
def isPth (p : List Nat) : Prop := 33 ≤ p.length ∧ nth p 32 = 45 ∧ isNm (p.drop 33) = true ∧ good (p.take 32) 20
end Sha
open Go.RowKit Go.Great
def pIx (s : ByteArray) (v : Value) : Sem Value := Instr.index 25 (.string s) v
theorem index_pIx (s : ByteArray) (v : Value) : Instr.index 25 (.string s) v = pIx s v := rfl
theorem run_pIx (p : List Nat) (hb : Sha.Bytes p) (x : Int) (i : Nat) (hx : x = (i : Int)) (h : i < p.length) : ∀ w, (pIx (strOf p) (.int .i64 x)).run Try.prog w = .ok (.int .u8 ((Sha.nth p i : Nat) : Int)) w := by
  subst hx
  intro w
  obtain ⟨h1, h2⟩ := bytesOf_get (strOf p) i (by rw [strOf_size]; exact h)
  rw [bytesOf_strOf p hb] at h2
  unfold pIx
  simp only [Instr.index, asIntOf, Sem.run_bind, Sem.run_pure, Result.andThen_ok, run_underlying Try.underlying25, Int.natCast_nonneg, if_true, Int.toNat_natCast, h1, h2]
theorem run_sIx (p : List Nat) (hb : Sha.Bytes p) (x : Int) (i : Nat) (hx : x = (i : Int)) (h : i < p.length) : ∀ w, (strIx (strOf p) (.int .i64 x)).run Try.prog w = .ok (.int .u8 ((Sha.nth p i : Nat) : Int)) w := by
  have := run_strIx_i (strOf p) x i hx (by rw [strOf_size]; exact h)
  rwa [bytesOf_strOf p hb] at this
theorem strOf_extract (p : List Nat) (a b : Nat) : (strOf p).extract a b = strOf ((p.take b).drop a) := by
  apply ByteArray.ext
  rw [ByteArray.data_extract]
  unfold strOf
  apply Array.ext'
  rw [Array.toList_extract]
  simp [List.drop_take]
theorem parse_20 (q : List Nat) (w : World) (hb : Sha.Bytes q) (hl : q.length = 32) :
    Calls Try.prog 70 #[.string (strOf q), .int .i64 20] w fun e w' => Below w.heap.size w w' ∧ ((Sha.good q 20 ∧ ∃ v, e = .returned (.tuple #[v, .int .i64 0])) ∨ (¬ Sha.good q 20 ∧ e = .returned (.tuple #[.slice none 0 0, .int .i64 3]))) := by
  have := parse_main (strOf q) 20 w (by rw [strOf_size, hl]; rfl) (by omega)
  rw [bytesOf_strOf q hb] at this
  refine Calls.mono this fun e w' h => ⟨h.1, ?_⟩
  rcases h.2 with ⟨h1, v, h2, -⟩ | h
  · exact .inl ⟨h1, v, h2⟩
  · exact .inr h
theorem parseRef_20 (q : List Nat) (w : World) (hb : Sha.Bytes q) (hl : q.length = 32) :
    Calls Try.prog 47 #[.string (strOf q), .int .i64 20] w fun e w' => Below w.heap.size w w' ∧ ((Sha.good q 20 ∧ ∃ v, e = .returned (.tuple #[v, .int .i64 0])) ∨ (¬ Sha.good q 20 ∧ e = .returned (.tuple #[.slice none 0 0, .int .i64 3]))) := by
  have := parseRef_main (strOf q) 20 w (by rw [strOf_size, hl]; rfl) (by omega)
  rw [bytesOf_strOf q hb] at this
  refine Calls.mono this fun e w' h => ⟨h.1, ?_⟩
  rcases h.2 with ⟨h1, v, h2, -⟩ | h
  · exact .inl ⟨h1, v, h2⟩
  · exact .inr h
attribute [local go_sem] index_pIx index_strIx
set_option maxRecDepth 20000 in
set_option maxHeartbeats 1000000 in
theorem isPath_any (p : List Nat) (w : World) (hb : Sha.Bytes p) (hm : p.length ≤ 9223372036854775807) :
    Calls Try.prog 57 #[.string (strOf p)] w fun e w' => Below w.heap.size w w' ∧ ((Sha.isPth p ∧ e = .returned (.bool true)) ∨ (¬ Sha.isPth p ∧ e = .returned (.bool false))) := by
  by_cases h32 : p.length ≤ 32
  · go_enter Try.func57, Try.ntmps57
    go_wp2
    go_ret
    exact ⟨Below.refl _ _, .inr ⟨fun h => by have := h.1; omega, rfl⟩⟩
  · have hix := run_pIx p hb 32 32 rfl (by omega)
    by_cases h45 : Sha.nth p 32 = 45
    · have hx1 : (strOf p).extract 33 p.length = strOf (p.drop 33) := by rw [strOf_extract, List.take_length]
      have hx2 : (strOf p).extract 0 32 = strOf (p.take 32) := by rw [strOf_extract]; rfl
      have hne : (((Sha.nth p 32 : Nat) : Int) != 45) = false := by rw [h45]; rfl
      have hdl : (p.drop 33).length ≤ 9223372036854775807 := by rw [List.length_drop]; omega
      have htl : (p.take 32).length = 32 := by rw [List.length_take]; omega
      have HI : Hid (Sha.isPth p ↔ (Sha.isNm (p.drop 33) = true ∧ Sha.good (p.take 32) 20)) := ⟨fun h => h.2.2, fun h => ⟨by omega, h45, h.1, h.2⟩⟩
      have hb1 := hb.drop 33
      have hb2 := hb.take 32
      generalize List.drop 33 p = N at *
      generalize List.take 32 p = D at *
      cases hN : Sha.isNm N with
      | false =>
        go_enter Try.func57, Try.ntmps57
        go_wp2_with (go_at_call 69; refine (isName_l N _ hb1 hdl).mono ?_; rintro e w' ⟨rfl, hw'⟩; rw [hw', hN]; clear hw' w')
        go_ret
        exact ⟨Below.refl _ _, .inr ⟨fun h => Bool.noConfusion (hN.symm.trans ((unhide HI).1 h).1), rfl⟩⟩
      | true =>
        go_enter Try.func57, Try.ntmps57
        go_wp2_with (first
          | (go_at_call 69; refine (isName_l N _ hb1 hdl).mono ?_; rintro e w' ⟨rfl, hw'⟩; rw [hw', hN]; clear hw' w')
          | (go_at_call 70; fail))
        refine (parse_20 D _ hb2 htl).mono ?_
        rintro e w' ⟨hbl, ⟨hg, v, rfl⟩ | ⟨hg, rfl⟩⟩
        · have HG := hide hg
          clear hg
          go_wp2
          go_ret
          exact ⟨hbl, .inl ⟨(unhide HI).2 ⟨hN, unhide HG⟩, rfl⟩⟩
        · have HG := hide hg
          clear hg
          go_wp2
          go_ret
          exact ⟨hbl, .inr ⟨fun h => unhide HG ((unhide HI).1 h).2, rfl⟩⟩
    · have hne : (((Sha.nth p 32 : Nat) : Int) != 45) = true := by rw [bne_iff_ne]; omega
      go_enter Try.func57, Try.ntmps57
      go_wp2
      go_ret
      exact ⟨Below.refl _ _, .inr ⟨fun h => h45 h.2.1, rfl⟩⟩
/-- What Split answers: the digits and the name, or nothing and an error. -/
def splitV (p : List Nat) (ok : Bool) : Value := if ok then .tuple #[.string (strOf (p.take 32)), .string (strOf (p.drop 33)), .int .i64 0] else .tuple #[.string ⟨#[]⟩, .string ⟨#[]⟩, .int .i64 3]
set_option maxRecDepth 20000 in
set_option maxHeartbeats 1000000 in
theorem split_any (p : List Nat) (w : World) (hb : Sha.Bytes p) (hm : p.length ≤ 281474976710656) :
    Calls Try.prog 41 #[.string (strOf p)] w fun e w' => Below w.heap.size w w' ∧ ((Sha.isPth p ∧ e = .returned (splitV p true)) ∨ (¬ Sha.isPth p ∧ e = .returned (splitV p false))) := by
  go_enter Try.func41, Try.ntmps41
  go_wp2_with fail
  refine (isPath_any p _ hb (by omega)).mono ?_
  rintro e w1 ⟨hbl, ⟨hp, rfl⟩ | ⟨hp, rfl⟩⟩
  · have h33 := hp.1
    have HP := hide hp
    clear hp
    have hx1 : (strOf p).extract 33 p.length = strOf (p.drop 33) := by rw [strOf_extract, List.take_length]
    have hx2 : (strOf p).extract 0 32 = strOf (p.take 32) := by rw [strOf_extract]; rfl
    have hdl : (p.drop 33).length ≤ 281474976710656 := by rw [List.length_drop]; omega
    have htl : (p.take 32).length = 32 := by rw [List.length_take]; omega
    have HV : Hid (splitV p true = .tuple #[.string (strOf (p.take 32)), .string (strOf (p.drop 33)), .int .i64 0]) := rfl
    generalize List.drop 33 p = N at *
    generalize List.take 32 p = D at *
    have hbz := hbl.size
    go_wp2
    go_region_with (go_at_call 45
                    refine (clone_any _ _ (by rw [strOf_size]; omega)).mono ?_
                    rintro e w2 ⟨rfl, hb2⟩
                    have hbl : Below w.heap.size w w2 := (by first | exact hbl | exact hbl.drew : Below w.heap.size w _).trans (hb2.mono (by first | exact hbz | (simp; exact hbz)))
                    have hbz : w.heap.size ≤ w2.heap.size := hbl.size
                    clear hb2)
    all_goals
      go_wp2
      go_ret3
      exact ⟨hbl, .inl ⟨unhide HP, by rw [unhide HV]; rfl⟩⟩
  · have HP := hide hp
    clear hp
    go_wp2
    go_ret3
    exact ⟨hbl, .inr ⟨unhide HP, rfl⟩⟩
set_option maxRecDepth 20000 in
set_option maxHeartbeats 1000000 in
theorem splitRef_any (p : List Nat) (w : World) (hb : Sha.Bytes p) (hm : p.length ≤ 281474976710656) :
    Calls Try.prog 27 #[.string (strOf p)] w fun e w' => Below w.heap.size w w' ∧ ((Sha.isPth p ∧ e = .returned (splitV p true)) ∨ (¬ Sha.isPth p ∧ e = .returned (splitV p false))) := by
  by_cases h32 : p.length < 34
  · go_enter Try.func27, Try.ntmps27
    go_wp2
    go_ret3
    refine ⟨Below.refl _ _, .inr ⟨fun h => ?_, rfl⟩⟩
    have h1 := (isNm_len h.2.2.1).1
    rw [List.length_drop] at h1
    omega
  · have hix := run_sIx p hb 32 32 rfl (by omega)
    by_cases h45 : Sha.nth p 32 = 45
    · have hx1 : (strOf p).extract 33 p.length = strOf (p.drop 33) := by rw [strOf_extract, List.take_length]
      have hx2 : (strOf p).extract 0 32 = strOf (p.take 32) := by rw [strOf_extract]; rfl
      have hne : (((Sha.nth p 32 : Nat) : Int) != 45) = false := by rw [h45]; rfl
      have hdl : (p.drop 33).length ≤ 9223372036854775807 := by rw [List.length_drop]; omega
      have htl : (p.take 32).length = 32 := by rw [List.length_take]; omega
      have HI : Hid (Sha.isPth p ↔ (Sha.isNm (p.drop 33) = true ∧ Sha.good (p.take 32) 20)) := ⟨fun h => h.2.2, fun h => ⟨by omega, h45, h.1, h.2⟩⟩
      have HV : Hid (splitV p true = .tuple #[.string (strOf (p.take 32)), .string (strOf (p.drop 33)), .int .i64 0]) := rfl
      have hb1 := hb.drop 33
      have hb2 := hb.take 32
      generalize List.drop 33 p = N at *
      generalize List.take 32 p = D at *
      cases hN : Sha.isNm N with
      | false =>
        go_enter Try.func27, Try.ntmps27
        go_wp2_with (go_at_call 46; refine (isNameRef_l N _ hb1 hdl).mono ?_; rintro e w' ⟨rfl, hw'⟩; rw [hw', hN]; clear hw' w')
        go_ret3
        exact ⟨Below.refl _ _, .inr ⟨fun h => Bool.noConfusion (hN.symm.trans ((unhide HI).1 h).1), rfl⟩⟩
      | true =>
        go_enter Try.func27, Try.ntmps27
        go_wp2_with (first
          | (go_at_call 46; refine (isNameRef_l N _ hb1 hdl).mono ?_; rintro e w' ⟨rfl, hw'⟩; rw [hw', hN]; clear hw' w')
          | (go_at_call 47; fail))
        refine (parseRef_20 D _ hb2 htl).mono ?_
        rintro e w' ⟨hbl, ⟨hg, v, rfl⟩ | ⟨hg, rfl⟩⟩
        · have HG := hide hg
          clear hg
          go_wp2
          go_region
          all_goals
            go_wp2
            go_ret3
            exact ⟨by first | exact hbl | exact hbl.drew, .inl ⟨(unhide HI).2 ⟨hN, unhide HG⟩, by rw [unhide HV]; rfl⟩⟩
        · have HG := hide hg
          clear hg
          go_wp2
          go_ret3
          exact ⟨hbl, .inr ⟨fun h => unhide HG ((unhide HI).1 h).2, rfl⟩⟩
    · have hne : (((Sha.nth p 32 : Nat) : Int) != 45) = true := by rw [bne_iff_ne]; omega
      go_enter Try.func27, Try.ntmps27
      go_wp2
      go_ret3
      exact ⟨Below.refl _ _, .inr ⟨fun h => h45 h.2.1, rfl⟩⟩
end Go.Proofs.Ytlbfcneboaihnaa
/- The digits of scan are those of chapter 2. -/
namespace Go.Proofs.Ytlbfcneboaihnaa
open Sha
theorem digB_isD (c : Nat) : digB c = isD c := by
  rw [Bool.eq_iff_iff]
  unfold digB isD
  simp only [Bool.or_eq_true, Bool.and_eq_true, decide_eq_true_iff]
  omega
/-- A path's digits are digits. -/
theorem path_digits {p : List Nat} (h : isPth p) : (p.take 32).length = 32 ∧ ∀ j, j < 32 → digB ((p.take 32).getD j 0) = true := by
  obtain ⟨h1, _, _, h4⟩ := h
  have hl : (p.take 32).length = 32 := by rw [List.length_take]; omega
  refine ⟨hl, fun j hj => ?_⟩
  rw [digB_isD]
  have := h4.1 j (by omega)
  simpa [Sha.nth, List.getD_eq_getElem?_getD] using this
end Go.Proofs.Ytlbfcneboaihnaa
