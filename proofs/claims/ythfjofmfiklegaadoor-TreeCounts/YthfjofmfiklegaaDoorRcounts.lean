/- The document's Count: checked first. -/
import Derived.Test.YthfjofmfiklegaaDoorRcount
namespace Go.Proofs.YthfjofmfiklegaaDoor
open Go.RowKit
/-- Nodes and bytes, or nothing. -/
noncomputable def countS (T : Tr) : Nat × Nat := if (chk T 1 0).1 = 0 then (cn T, cb T) else (0, 0)
set_option maxRecDepth 20000 in
set_option maxHeartbeats 1000000 in
theorem rcounts_any (T : Tr) (lo hi : Nat) (cs : List Value) (w : World) (hL : Lies lo hi w T cs) (hW : wt T ≤ 100000) (hhi : hi ≤ w.heap.size) :
    Calls Tryd.prog 16 #[.agg cs.toArray] w fun e w' => e = .returned (.tuple #[.int .i64 (((countS T).1 : Nat) : Int), .int .i64 (((countS T).2 : Nat) : Int)]) ∧ Below w.heap.size w w' := by
  obtain ⟨kt, xt, at0, nt, ct, bt, mt, dt, et, pt, qt, rfl⟩ := hL.form
  have HC1 := hide (fun W (h : Below w.heap.size w W) => checkR_any T lo hi _ W (hL.kept h hhi) hW (by have := h.size; omega))
  have HC2 := hide (fun W (h : Below w.heap.size w W) => rcount_any T lo hi _ W (hL.kept h hhi) hW (by have := h.size; omega))
  obtain ⟨wA, hwA⟩ : ∃ wA, wA = w.alloc (.cells #[.int .i64 kt, .bool xt, .slice at0 nt ct, .slice bt mt dt, .slice et pt qt] 26) := ⟨_, rfl⟩
  have hbA : Below w.heap.size w wA := by rw [hwA]; exact (Below.refl _ _).alloc (Nat.le_refl _) _
  have hsA : wA.heap.size = w.heap.size + 1 := by rw [hwA]; simp
  have hbx : Bx wA w.heap.size (.int .i64 kt) (.bool xt) (.slice at0 nt ct) (.slice bt mt dt) (.slice et pt qt) := by rw [hwA]; exact bx_new _ _ _ _ _ _
  have HA := hide (And.intro hbA (And.intro hsA hbx))
  have HwA := hide hwA
  have HF : Hid (countS T = if (chk T 1 0).1 = 0 then (cn T, cb T) else (0, 0)) := rfl
  clear hL hwA hbA hsA hbx
  go_enter Tryd.func16, Tryd.ntmps16
  go_wp2_with fail
  rw [← unhide HwA]
  refine (unhide HC1 wA (unhide HA).1).mono ?_
  rintro e w1 ⟨rfl, hb1⟩
  have hs1 := hb1.size
  have HA1 := hide (And.intro ((unhide HA).1.trans (hb1.mono (by have := (unhide HA).2.1; omega))) ((unhide HA).2.2.kept hb1 (by have := (unhide HA).2.1; omega)))
  clear HC1 HwA hb1 HA
  by_cases hc1 : (chk T 1 0).1 = 0
  case neg =>
    have hn1 := ne0 hc1
    rw [if_neg hc1] at HF
    clear hc1
    generalize (chk T 1 0).1 = c1 at *
    go_wp2_with fail
    rw [unhide HF]
    go_ret2
    exact ⟨rfl, (unhide HA1).1⟩
  case pos =>
  rw [if_pos hc1] at HF
  rw [hc1]
  clear hc1
  obtain ⟨y0, y1, y2, y3, y4⟩ := (unhide HA1).2.cells
  go_wp2_with fail
  refine (unhide HC2 w1 (unhide HA1).1).mono ?_
  rintro e w2 ⟨rfl, hb2⟩
  have hs2 := (unhide HA1).1.size
  generalize cn T = a at *
  generalize cb T = b at *
  go_wp2_with fail
  rw [unhide HF]
  go_ret2
  exact ⟨rfl, (unhide HA1).1.trans (hb2.mono (by omega))⟩
end Go.Proofs.YthfjofmfiklegaaDoor
