/- What the law asks beside: a name, none, and the length of one path. -/
import Derived.Test.YtfoghaocfkcggaaMake
namespace Go.Proofs.Ytfoghaocfkcggaa
open Go.RowKit Go.Great
theorem pathOf_length (k l n : List Nat) : (Sha.pathOf k l n).length = 33 + n.length := by
  unfold Sha.pathOf
  rw [List.length_append, List.length_append, Sha.textOf_length, foldTo_length]
  show 32 + 1 + n.length = _
  omega
theorem pathOf_bytes {k l n : List Nat} (hn : Sha.Bytes n) : Sha.Bytes (Sha.pathOf k l n) :=
  ((Sha.text_bytes _ _).append (Sha.Bytes.one (by omega))).append hn
def tSrc : List Nat := [115, 111, 117, 114, 99, 101]
def tName : List Nat := [97, 45, 49, 46, 48]
def tDot : List Nat := [46, 97]
theorem src_str : (⟨#[115, 111, 117, 114, 99, 101]⟩ : ByteArray) = strOf tSrc := rfl
theorem name_str : (⟨#[97, 45, 49, 46, 48]⟩ : ByteArray) = strOf tName := rfl
theorem dot_str : (⟨#[46, 97]⟩ : ByteArray) = strOf tDot := rfl
theorem src_bytes : Sha.Bytes tSrc := by unfold Sha.Bytes tSrc; decide
theorem name_bytes : Sha.Bytes tName := by unfold Sha.Bytes tName; decide
theorem dot_bytes : Sha.Bytes tDot := by unfold Sha.Bytes tDot; decide
theorem name_is : Sha.isNm tName = true := by decide
theorem dot_not : Sha.isNm tDot = false := by decide
theorem Z25_bytes : Sha.Bytes (List.replicate 32 0) := Sha.Bytes.rep _
theorem make_known (w : World) : Calls Try.prog 11 #[.string ⟨#[115, 111, 117, 114, 99, 101]⟩, .agg Z25, .string ⟨#[97, 45, 49, 46, 48]⟩] w fun e w' => ∃ p : List Nat, p.length = 38 ∧ e = .returned (.tuple #[.string (strOf p), .int .i64 0]) ∧ Below w.heap.size w w' := by
  have h : ∀ l : List Nat, l.length = 32 → Sha.Bytes l → Calls Try.prog 11 #[.string ⟨#[115, 111, 117, 114, 99, 101]⟩, .agg (E8 l), .string ⟨#[97, 45, 49, 46, 48]⟩] w fun e w' => ∃ p : List Nat, p.length = 38 ∧ e = .returned (.tuple #[.string (strOf p), .int .i64 0]) ∧ Below w.heap.size w w' := fun l hl hb => by
    rw [src_str, name_str]
    exact (make_yes tSrc tName l w hl hb src_bytes (by unfold tSrc; decide) name_bytes name_is).mono fun e w' h => ⟨_, pathOf_length _ _ _, h.1, h.2⟩
  exact h _ (by simp) Z25_bytes
theorem isName_known (w : World) : Calls Try.prog 8 #[.string ⟨#[97, 45, 49, 46, 48]⟩] w fun e w' => e = .returned (.bool true) ∧ w' = w := by
  have := isName_l tName w name_bytes (by unfold tName; decide)
  rwa [name_is] at this
theorem isName_dot (w : World) : Calls Try.prog 8 #[.string ⟨#[46, 97]⟩] w fun e w' => e = .returned (.bool false) ∧ w' = w := by
  have := isName_l tDot w dot_bytes (by unfold tDot; decide)
  rwa [dot_not] at this
set_option maxRecDepth 20000 in
set_option maxHeartbeats 1000000 in
theorem known_any (w : World) : Calls Try.prog 10 #[] w fun e w' => e = .returned (.bool true) ∧ Below w.heap.size w w' := by
  go_enter Try.func10, Try.ntmps10
  go_wp2_with fail
  refine (make_known _).mono ?_
  rintro e w1 ⟨PP, hpl, rfl, hb1⟩
  go_wp2_with fail
  refine (isName_known _).mono ?_; rintro e w' ⟨rfl, hw'⟩; rw [hw']; clear hw' w'
  go_wp2_with fail
  refine (isName_dot _).mono ?_; rintro e w' ⟨rfl, hw'⟩; rw [hw']; clear hw' w'
  go_wp2
  go_ret
  exact ⟨rfl, hb1⟩
set_option maxRecDepth 20000 in
set_option maxHeartbeats 1000000 in
theorem names_walk (W : World) (s : ByteArray) (hm : s.size ≤ 9223372036854775807) : Calls Try.prog 3 #[.string s] W fun e w' => e = .returned (.bool true) ∧ Below W.heap.size W w' := by
  have hq : ((Sha.isNm (bytesOf s)) == (Sha.isNm (bytesOf s))) = true := by simp
  by_cases hl : s.size ≤ 600
  · have hl' : ¬ (600 < s.size) := by omega
    go_enter Try.func3, Try.ntmps3
    go_wp2_with (first
      | (go_at_call 8; refine (isName_any s _ hm).mono ?_; rintro e w' ⟨rfl, hw'⟩; rw [hw']; clear hw' w')
      | (go_at_call 9; refine (isNameRef_any s _ hm).mono ?_; rintro e w' ⟨rfl, hw'⟩; rw [hw']; clear hw' w')
      | (go_at_call 10; fail))
    refine (known_any _).mono ?_; rintro e w1 ⟨rfl, hb1⟩
    go_wp2
    go_ret
    exact ⟨rfl, hb1⟩
  · go_enter Try.func3, Try.ntmps3
    go_wp2
    go_ret
    exact ⟨rfl, Below.refl _ _⟩
end Go.Proofs.Ytfoghaocfkcggaa
