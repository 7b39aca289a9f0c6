/- The walk of the law B32Lens. -/
import Derived.Test.YtgchndogklmpdaaKnown
namespace Go.Proofs.Ytgchndogklmpdaa
open Go.RowKit Go.Great
set_option maxRecDepth 20000 in
set_option maxHeartbeats 400000 in
theorem lens_walk (n : Int) (_ : (Lit.int .i64 n).wf = true) (w : World) : Calls Try.prog 5 #[.int .i64 n] w fun e w' => e = .returned (.bool true) ∧ Below w.heap.size w w' := by
  have hne : (lenI n != lenI n) = false := by simp
  by_cases hn : n < 0
  · go_enter Try.func5, Try.ntmps5
    go_wp2_with (first
      | (go_at_call 11; refine (len_any n _).mono ?_; rintro e w' ⟨rfl, hw'⟩; rw [hw']; clear hw' w')
      | (go_at_call 16; refine (lenRef_any n _).mono ?_; rintro e w' ⟨rfl, hw'⟩; rw [hw']; clear hw' w')
      | (go_at_call 14; refine (known_any _).mono ?_; rintro e w' ⟨rfl, hb⟩))
    go_ret
    exact ⟨rfl, hb⟩
  · by_cases hn2 : n ≥ 16777216
    · have hn' : decide (n < 0) = false := by simp; omega
      have hn2' : decide (16777216 ≤ n) = true := by simp; omega
      go_enter Try.func5, Try.ntmps5
      go_wp2_with (first
        | (go_at_call 11; refine (len_any n _).mono ?_; rintro e w' ⟨rfl, hw'⟩; rw [hw']; clear hw' w')
        | (go_at_call 16; refine (lenRef_any n _).mono ?_; rintro e w' ⟨rfl, hw'⟩; rw [hw']; clear hw' w')
        | (go_at_call 14; refine (known_any _).mono ?_; rintro e w' ⟨rfl, hb⟩))
      go_ret
      exact ⟨rfl, hb⟩
    · have hn' : decide (n < 0) = false := by simp; omega
      have hn2' : decide (16777216 ≤ n) = false := by simp; omega
      have hd : lenI (n + 1) - lenI n = 1 ∨ lenI (n + 1) - lenI n = 2 := by unfold lenI; omega
      have hd0 : 0 ≤ lenI n ∧ lenI n ≤ 1000000000 ∧ 0 ≤ lenI (n + 1) ∧ lenI (n + 1) ≤ 1000000000 := by unfold lenI; omega
      have HA := hide (fun m => len_any m w)
      have HR := hide (lenRef_any n w)
      generalize lenI = f at *
      rcases hd with hd | hd
      all_goals
        go_enter Try.func5, Try.ntmps5
        go_wp2_with (first
          | (go_at_call 11; refine (unhide HA _).mono ?_; rintro e w' ⟨rfl, hw'⟩; rw [hw']; clear hw' w')
          | (go_at_call 16; refine (unhide HR).mono ?_; rintro e w' ⟨rfl, hw'⟩; rw [hw']; clear hw' w')
          | (go_at_call 14; refine (known_any _).mono ?_; rintro e w' ⟨rfl, hb⟩))
        go_ret
        exact ⟨rfl, hb⟩
end Go.Proofs.Ytgchndogklmpdaa
