/- The law's own helper known: a byte's text, and a length. -/
import Derived.Test.YtgchndogklmpdaaText
namespace Go.Proofs.Ytgchndogklmpdaa
open Go.RowKit Go.Great
theorem text31 : strOf (Sha.textOf [31]) = ⟨#[48, 122]⟩ := by decide +kernel
set_option maxRecDepth 20000 in
set_option maxHeartbeats 400000 in
theorem known_any (w : World) : Calls Try.prog 14 #[] w fun e w' => e = .returned (.bool true) ∧ Below w.heap.size w w' := by
  go_enter Try.func14, Try.ntmps14
  go_wp2_with fail
  have hb0 : Below w.heap.size w (w.alloc (.cells #[.int .u8 31] 5)) := (Below.refl _ _).alloc (Nat.le_refl _) _
  refine (text_any _ 1 1 [31] _ rfl (one_at w 31) (Sha.Bytes.one (by omega)) (by omega)).mono ?_
  rintro e w1 ⟨rfl, hb1⟩
  have hbl1 : Below w.heap.size w w1 := hb0.trans (hb1.mono (by simp))
  rw [text31]
  clear hb1 hb0
  go_wp2_with (go_at_call 11; refine (len_n 20 (by omega) _).mono ?_; rintro e w' ⟨rfl, hw'⟩; rw [hw', show Sha.lenOf 20 = 32 from rfl]; clear hw' w')
  go_ret
  exact ⟨rfl, hbl1⟩
end Go.Proofs.Ytgchndogklmpdaa
