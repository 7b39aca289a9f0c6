/- A new Hasher. -/
import Derived.Test.YtdkhmjiconedkaaHash
namespace Go.Proofs.Ytdkhmjiconedkaa
open Go.RowKit Go.Great
@[go_sem ↓] theorem zero78 (w : World) : (zeroValue 78).run Try.prog w = .ok (.agg H0) w := (zero_of_info H0_info).1 w
@[simp] theorem H0_size : H0.size = 109 := by simp [H0, hcells]
theorem H0_ones : ones H0 = true := by
  simp [ones, H0, hcells, E32, E8, W32, B8, Value.oneCell', zs]
set_option maxRecDepth 20000 in
set_option maxHeartbeats 400000 in
theorem new_any (w : World) : Calls Try.prog 22 #[] w fun e w' => e = .returned (.pointer (some ⟨w.heap.size, 0, none⟩)) ∧ w' = w.alloc (.cells H0 78) := by
  go_enter Try.func22, Try.ntmps22
  go_wp2
  go_ret
  exact ⟨rfl, rfl⟩
end Go.Proofs.Ytdkhmjiconedkaa
