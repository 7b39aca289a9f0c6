/- The law's own helper stands: the bytes, and the mark behind them, are as they were. -/
import Derived.Test.YtdkhmjiconedkaaRoomy
namespace Go.Proofs.Ytdkhmjiconedkaa
open Go.RowKit Go.Great

set_option maxRecDepth 20000 in
set_option maxHeartbeats 400000 in
theorem stands_some (q c g o n cap : Nat) (m : List Nat) (w : World) (hn : n ≤ 3000) (hc : n + 1 ≤ c)
    (h1 : ∀ i, i < n → w.cell? ⟨q, 0 + i, none⟩ = some (.int .u8 ((Sha.nth m i : Nat) : Int))) (hm : w.cell? ⟨q, n, none⟩ = some (.int .u8 171))
    (h2 : ∀ i, i < n → w.cell? ⟨g, o + i, none⟩ = some (.int .u8 ((Sha.nth m i : Nat) : Int))) :
    Calls Try.prog 12 #[.slice (some ⟨q, 0, none⟩) (n + 1) c, .slice (some ⟨g, o, none⟩) n cap] w fun e w' => e = .returned (.bool true) ∧ ∃ k, w' = w.drewN k := by
  have H := hide (same_some q 0 g o n c cap m w (by omega) h1 h2)
  have hnc : n ≤ c := by omega
  clear h1 h2
  go_enter Try.func12, Try.ntmps12
  go_wp2_with (go_at_call 31; refine (unhide H).mono ?_; rintro e w' ⟨rfl, k, rfl⟩)
  go_ret
  exact ⟨rfl, k, rfl⟩

set_option maxRecDepth 20000 in
set_option maxHeartbeats 400000 in
theorem stands_zero (q c cap : Nat) (a : Option Addr) (w : World) (hc : 1 ≤ c) (hm : w.cell? ⟨q, 0, none⟩ = some (.int .u8 171)) :
    Calls Try.prog 12 #[.slice (some ⟨q, 0, none⟩) (0 + 1) c, .slice a 0 cap] w fun e w' => e = .returned (.bool true) ∧ ∃ k, w' = w.drewN k := by
  have H := hide (same_none (some ⟨q, 0, none⟩) a c cap w)
  go_enter Try.func12, Try.ntmps12
  go_wp2_with (go_at_call 31; refine (unhide H).mono ?_; rintro e w' ⟨rfl, k, rfl⟩)
  go_ret
  exact ⟨rfl, k, rfl⟩
end Go.Proofs.Ytdkhmjiconedkaa
