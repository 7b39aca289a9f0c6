/- The law's own helper spoil: bytes are written over, and grown: nothing ahead of their own row is touched. -/
import Derived.Test.YtdkhmjiconedkaaHstart
namespace Go.Proofs.Ytdkhmjiconedkaa
open Go.RowKit Go.Great
set_option maxRecDepth 20000 in
set_option maxHeartbeats 400000 in
theorem spoil_any (base : Nat) (v : Value) (L : List Nat) (w : World) (ho : OwnB w base v L) (hL : L.length ≤ 4000) (hb : base ≤ w.heap.size) :
    Calls Try.prog 24 #[v] w fun e w' => e = .returned (.tuple #[]) ∧ Below base w w' := by
  obtain ⟨v1, w1, hr1, ho1, hbl1, hz1⟩ := app_own (w.alloc (.cells #[.int .u8 99] 5)) base v L (some ⟨w.heap.size, 0, none⟩) [99] 1 (ho.alloc _) (one_at w 99) (by simp) (by simp; omega)
  simp only [List.length_singleton] at hr1
  have hbl : Below base w w1 := ((Below.refl _ _).alloc hb _).trans hbl1
  have HR := hide hr1
  clear hr1 ho hbl1
  obtain ⟨g, R, rfl, hg, hh⟩ := ho1
  have hlen : (L ++ [99]).length = L.length + 1 := by simp
  rw [hlen] at HR
  have hC : L.length + 1 ≤ (L ++ [99] ++ R).length := by simp
  have hfit : fits w1 g (L ++ [99] ++ R).length = true := by unfold fits; rw [hh]; simp
  have hsz : (L ++ [99] ++ R).length = (L ++ [99] ++ R).length := rfl
  generalize (L ++ [99] ++ R).length = C at *
  clear hh hlen hsz
  go_enter Try.func24, Try.ntmps24
  go_wp2_with fail
  rw [unhide HR]
  clear HR
  go_wp2_with fail
  go_loopw [3] (fun c wr => ∃ i : Nat, i ≤ L.length + 1 ∧ c = .int .i64 (i : Int) ∧ Below base w wr ∧ fits wr g C = true) (fun c _ => L.length + 1 - (intOf c).toNat)
  case atStart => exact ⟨0, by omega, rfl, hbl, hfit⟩
  case round =>
    clear hbl hfit
    obtain ⟨i, hi, rfl, hbl, hfit⟩ := hrel
    by_cases hlt : i < L.length + 1
    · have hfz := frozen_fits hfit i
      obtain ⟨x, hx⟩ : ∃ x, wr.cell? ⟨g, i, none⟩ = some x := by
        obtain ⟨cs, t, e, es, er⟩ := fits_some hfit
        have hic : i < cs.size := by omega
        exact ⟨cs[i], cell_row _ _ _ _ (by rw [er]; exact Array.getElem?_eq_getElem hic)⟩
      have HF := hide hfit
      clear hfit
      go_wp2
      go_roundw
      case rel => exact ⟨i + 1, by omega, by go_num, hbl.setCell hg _, by rw [fits_set]; exact unhide HF⟩
      case measure => simp [intOf]; omega
    · go_wp2
      first | go_end0 | skip
      exact ⟨rfl, hbl⟩
end Go.Proofs.Ytdkhmjiconedkaa
