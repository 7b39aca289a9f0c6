/- Make, in the code and in the document's own answer. -/
import Derived.Test.YtlbfcneboaihnaaK2
import Derived.Test.YtlbfcneboaihnaaRefsum
import Derived.Lib.ConvBytes
namespace Go.Proofs.Ytlbfcneboaihnaa
namespace Sha
/-- What a path's digits are made of. -/
def inside (k l n : List Nat) : List Nat := k ++ [58] ++ hexTo l 32 ++ [58] ++ n
/-- The path of a kind, a digest and a name. -/
def pathOf (k l n : List Nat) : List Nat := textOf (foldTo (sum (inside k l n)) 32) ++ [45] ++ n
end Sha
open Go.RowKit Go.Great
def cvB (v : Value) : Sem Value := convert 9 22 v
@[go_sem ↓] theorem convert_cvB (v : Value) : convert 9 22 v = cvB v := rfl
theorem below_of_blocks {w w' : World} (h1 : w'.os = w.os) (h2 : w'.tape = w.tape) (h3 : w'.output = w.output) (hs : w.heap.size ≤ w'.heap.size) (hb : ∀ j, j < w.heap.size → w'.heap[j]? = w.heap[j]?) : Below w.heap.size w w' := ⟨h1, h2, h3, hs, hb⟩
theorem run_cvB (w : World) (s : ByteArray) : ∃ cap w', (cvB (.string s)).run Try.prog w = .ok (.slice (some ⟨w.heap.size, 0, none⟩) s.size cap) w' ∧ Below w.heap.size w w' ∧ BytesAt w' (.slice (some ⟨w.heap.size, 0, none⟩) s.size cap) (bytesOf s) ∧ w.heap.size + 1 ≤ w'.heap.size := by
  refine ⟨grownCap w s.size 0 5, Lib.bytesWorld w 5 s, ?_, ?_, ?_, ?_⟩
  · exact Lib.run_convert_string_bytes w 9 22 5 s Try.underlying9 Try.underlying22 Try.underlying5
  · exact ⟨rfl, rfl, rfl, by rw [Lib.bytesWorld_size]; omega, fun j hj => Lib.bytesWorld_at_old w 5 s j hj⟩
  · refine ⟨_, _, by rw [bytesOf_length], by rw [bytesOf_length]; exact grownCap_ge w s.size 0 5, fun _ => ⟨w.heap.size, 0, rfl, by rw [Lib.bytesWorld_size]; omega, fun i hi => ?_⟩⟩
    rw [bytesOf_length] at hi
    rw [Nat.zero_add, Lib.bytesWorld_cell w 5 s i hi]
    congr 2
    unfold Sha.nth bytesOf
    rw [List.getElem?_map]
    simp [List.getD, hi]
  · rw [Lib.bytesWorld_size]; omega
theorem strOf_bytesOf (s : ByteArray) : strOf (bytesOf s) = s := by
  apply ByteArray.ext
  unfold strOf bytesOf
  rw [List.map_map]
  apply Array.ext'
  simp [Function.comp_def]
theorem colon : (⟨#[58]⟩ : ByteArray) = strOf [58] := rfl
theorem hyphen : (⟨#[45]⟩ : ByteArray) = strOf [45] := rfl
theorem nil_str : (⟨#[]⟩ : ByteArray) = strOf [] := rfl
theorem isName_l (n : List Nat) (w : World) (hb : Sha.Bytes n) (hm : n.length ≤ 9223372036854775807) :
    Calls Try.prog 69 #[.string (strOf n)] w fun e w' => e = .returned (.bool (Sha.isNm n)) ∧ w' = w := by
  have := isName_any (strOf n) w (by rw [strOf_size]; exact hm)
  rwa [bytesOf_strOf n hb] at this
theorem isNameRef_l (n : List Nat) (w : World) (hb : Sha.Bytes n) (hm : n.length ≤ 9223372036854775807) :
    Calls Try.prog 46 #[.string (strOf n)] w fun e w' => e = .returned (.bool (Sha.isNm n)) ∧ w' = w := by
  have := isNameRef_any (strOf n) w (by rw [strOf_size]; exact hm)
  rwa [bytesOf_strOf n hb] at this
theorem isNm_len {n : List Nat} (h : Sha.isNm n = true) : 1 ≤ n.length ∧ n.length ≤ 80 := by
  by_cases h1 : n.length < 1
  · rw [isNm_short h1] at h; cases h
  · by_cases h2 : 80 < n.length
    · rw [isNm_long h2] at h; cases h
    · omega
theorem x8_lt (a b : Nat) : x8 a b < 256 := by
  unfold x8
  have h := (bits_within .xor .u8 (a : Int) (b : Int)).2
  have e : IntKind.u8.max = 255 := by decide
  rw [e] at h
  have := bits_pos8 .xor (a : Int) (b : Int)
  omega
theorem foldTo_bytes (l : List Nat) (_ : Sha.Bytes l) (i : Nat) : Sha.Bytes (foldTo l i) := by
  induction i with
  | zero => exact Sha.Bytes.rep _
  | succ i ih =>
    intro x hx
    rcases List.mem_or_eq_of_mem_set hx with h | h
    · exact ih x h
    · rw [h]; exact x8_lt _ _
end Go.Proofs.Ytlbfcneboaihnaa
