/- What the law asks beside: a name, none, and the length of one path. -/
import Derived.Test.YtlbfcneboaihnaaK6
namespace Go.Proofs.Ytlbfcneboaihnaa
open Go.RowKit Go.Great
theorem pathOf_length (k l n : List Nat) : (Sha.pathOf k l n).length = 33 + n.length := by
  unfold Sha.pathOf
  rw [List.length_append, List.length_append, Sha.textOf_length, foldTo_length]
  show 32 + 1 + n.length = _
  omega
theorem pathOf_bytes {k l n : List Nat} (hn : Sha.Bytes n) : Sha.Bytes (Sha.pathOf k l n) :=
  ((Sha.text_bytes _ _).append (Sha.Bytes.one (by omega))).append hn
def tSrc : List Nat := [115, 111, 117, 114, 99, 101]
def tName : List Nat := [97, 45, 49, 46, 48]
def tDot : List Nat := [46, 97]
theorem src_str : (⟨#[115, 111, 117, 114, 99, 101]⟩ : ByteArray) = strOf tSrc := rfl
theorem name_str : (⟨#[97, 45, 49, 46, 48]⟩ : ByteArray) = strOf tName := rfl
theorem dot_str : (⟨#[46, 97]⟩ : ByteArray) = strOf tDot := rfl
theorem src_bytes : Sha.Bytes tSrc := by unfold Sha.Bytes tSrc; decide
theorem name_bytes : Sha.Bytes tName := by unfold Sha.Bytes tName; decide
theorem dot_bytes : Sha.Bytes tDot := by unfold Sha.Bytes tDot; decide
theorem name_is : Sha.isNm tName = true := by decide
theorem dot_not : Sha.isNm tDot = false := by decide
theorem Z25_bytes : Sha.Bytes (List.replicate 32 0) := Sha.Bytes.rep _
theorem isName_known (w : World) : Calls Try.prog 69 #[.string ⟨#[97, 45, 49, 46, 48]⟩] w fun e w' => e = .returned (.bool true) ∧ w' = w := by
  have := isName_l tName w name_bytes (by unfold tName; decide)
  rwa [name_is] at this
theorem isName_dot (w : World) : Calls Try.prog 69 #[.string ⟨#[46, 97]⟩] w fun e w' => e = .returned (.bool false) ∧ w' = w := by
  have := isName_l tDot w dot_bytes (by unfold tDot; decide)
  rwa [dot_not] at this
end Go.Proofs.Ytlbfcneboaihnaa
