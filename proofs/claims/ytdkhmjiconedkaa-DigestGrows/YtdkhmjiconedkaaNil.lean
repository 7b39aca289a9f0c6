/- A nil Hasher: Write, Sum and Len. -/
import Derived.Test.YtdkhmjiconedkaaEq
namespace Go.Proofs.Ytdkhmjiconedkaa
open Go.RowKit Go.Great
@[simp] theorem Z25_ones : ones Z25 = true := E8_all _

set_option maxHeartbeats 400000 in
theorem write_nil (v : Value) (w : World) : Calls Try.prog 23 #[.pointer none, v] w fun e w' => e = .returned (.bool false) ∧ w' = w := by
  go_enter Try.func23, Try.ntmps23
  go_wp2
  go_ret
  exact ⟨rfl, rfl⟩
set_option maxHeartbeats 400000 in
theorem len_nil (w : World) : Calls Try.prog 25 #[.pointer none] w fun e w' => e = .returned (.int .i64 0) ∧ w' = w := by
  go_enter Try.func25, Try.ntmps25
  go_wp2
  go_ret
  exact ⟨rfl, rfl⟩
set_option maxRecDepth 20000 in
set_option maxHeartbeats 400000 in
theorem sum_nil (w : World) : Calls Try.prog 26 #[.pointer none] w fun e w' => e = .returned (.agg Z25) ∧ Below w.heap.size w w' := by
  go_enter Try.func26, Try.ntmps26
  go_wp2
  exact bodyPost_ret (res25 Try.results26 rfl (rowOf_alloc_at _ _ _ _ (by simp)) (by simp)) rfl ⟨rfl, ((Below.refl _ _).alloc (Nat.le_refl _) _).alloc (by simp) _⟩
end Go.Proofs.Ytdkhmjiconedkaa
