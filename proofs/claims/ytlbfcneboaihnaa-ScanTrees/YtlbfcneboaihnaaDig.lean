/- isDigit: is a byte one of the digits? -/
import Derived.Test.YtlbfcneboaihnaaK2
import Derived.Test.YtlbfcneboaihnaaRefm
namespace Go.Proofs.Ytlbfcneboaihnaa
open Go.RowKit Go.Great
set_option linter.unusedSimpArgs false
/-- A digit of the base thirty-two. -/
def digB (c : Nat) : Bool := decide (48 ≤ c ∧ c ≤ 57) || decide (97 ≤ c ∧ c ≤ 122 ∧ c ≠ 101 ∧ c ≠ 111 ∧ c ≠ 116 ∧ c ≠ 117)
set_option maxRecDepth 20000 in
set_option maxHeartbeats 1000000 in
theorem isDigit_any (c : Nat) (w : World) : Calls Try.prog 44 #[.int .u8 (c : Int)] w fun e w' => e = .returned (.bool (digB c)) ∧ w' = w := by
  have HD : Hid (∀ b : Bool, (b = true ↔ (48 ≤ (c : Int) ∧ (c : Int) ≤ 57) ∨ (97 ≤ (c : Int) ∧ (c : Int) ≤ 122 ∧ (c : Int) ≠ 101 ∧ (c : Int) ≠ 111 ∧ (c : Int) ≠ 116 ∧ (c : Int) ≠ 117)) → b = digB c) := by
    intro b hb
    rw [Bool.eq_iff_iff, hb]
    unfold digB
    rw [Bool.or_eq_true, decide_eq_true_iff, decide_eq_true_iff]
    omega
  obtain ⟨D, hD⟩ : ∃ D, D = digB c := ⟨_, rfl⟩
  rw [← hD] at HD ⊢
  clear hD
  go_enter Try.func44, Try.ntmps44
  go_wp2_with fail
  all_goals
    go_ret
    refine ⟨congrArg (fun b => Ending.returned (Value.bool b)) (unhide HD _ ?_), rfl⟩
    first
    | (simp; done)
    | (simp; omega)
    | omega
    | trace_state
end Go.Proofs.Ytlbfcneboaihnaa
