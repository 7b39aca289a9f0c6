/- The law's own helper same: two rows of the same bytes. -/
import Derived.Test.YtdkhmjiconedkaaFold
namespace Go.Proofs.Ytdkhmjiconedkaa
open Go.RowKit Go.Great

set_option maxHeartbeats 400000 in
theorem same_none (a a' : Option Addr) (c1 c2 : Nat) (w : World) :
    Calls Try.prog 31 #[.slice a 0 c1, .slice a' 0 c2] w fun e w' => e = .returned (.bool true) ∧ ∃ n, w' = w.drewN n := by
  go_enter Try.func31, Try.ntmps31
  go_wp2
  go_loopw [5] (fun c wr => c = .int .i64 0 ∧ wr = w) (fun _ _ => 0)
  case atStart => exact ⟨rfl, rfl⟩
  case round =>
    obtain ⟨rfl, rfl⟩ := hrel
    go_wp2
    go_ret
    exact ⟨rfl, 0, rfl⟩

set_option maxHeartbeats 400000 in
theorem same_some (g o g2 o2 n c1 c2 : Nat) (m : List Nat) (w : World) (hn : n ≤ 1000000)
    (h1 : ∀ i, i < n → w.cell? ⟨g, o + i, none⟩ = some (.int .u8 ((Sha.nth m i : Nat) : Int))) (h2 : ∀ i, i < n → w.cell? ⟨g2, o2 + i, none⟩ = some (.int .u8 ((Sha.nth m i : Nat) : Int))) :
    Calls Try.prog 31 #[.slice (some ⟨g, o, none⟩) n c1, .slice (some ⟨g2, o2, none⟩) n c2] w fun e w' => e = .returned (.bool true) ∧ ∃ n, w' = w.drewN n := by
  have H1 := hide h1
  have H2 := hide h2
  have hne : ((n : Int) != (n : Int)) = false := by simp
  clear h1 h2
  go_enter Try.func31, Try.ntmps31
  go_wp2
  go_loopw [5] (fun c wr => ∃ i k : Nat, i ≤ n ∧ c = .int .i64 (i : Int) ∧ wr = w.drewN k) (fun c _ => n - (intOf c).toNat)
  case atStart => exact ⟨0, 0, by omega, rfl, rfl⟩
  case round =>
    obtain ⟨i, k, hi, rfl, rfl⟩ := hrel
    by_cases hlt : i < n
    · have c1 := unhide H1 i hlt
      have c2 := unhide H2 i hlt
      go_wp2
      go_quiet (fail)
      go_wp2
      go_roundw
      case rel => exact ⟨i + 1, k + nq, by omega, by go_num, rfl⟩
      case measure => simp [intOf]; omega
    · have hi' : i = n := by omega
      subst hi'
      go_wp2
      go_ret
      exact ⟨rfl, k, rfl⟩
end Go.Proofs.Ytdkhmjiconedkaa
