/- Count, in the code. -/
import Derived.Test.YthfjofmfiklegabDoorCount
namespace Go.Proofs.YthfjofmfiklegabDoor
open Go.RowKit
set_option maxRecDepth 20000 in
set_option maxHeartbeats 1000000 in
theorem counts_any (T : Tr) (lo hi : Nat) (cs : List Value) (w : World) (hL : Lies lo hi w T cs) (hW : wt T ≤ 100000) (hhi : hi ≤ w.heap.size) :
    Calls Tryd.prog 8 #[.agg cs.toArray] w fun e w' => e = .returned (.tuple #[.int .i64 (((countS T).1 : Nat) : Int), .int .i64 (((countS T).2 : Nat) : Int)]) ∧ Below w.heap.size w w' := by
  obtain ⟨kt, xt, at0, nt, ct, bt, mt, dt, et, pt, qt, rfl⟩ := hL.form
  have HC1 := hide (fun W (h : Below w.heap.size w W) => check_any T lo hi _ W (hL.kept h hhi) hW (by have := h.size; omega))
  have HL := hide hL
  obtain ⟨wA, hwA⟩ : ∃ wA, wA = ((w.alloc (.cells #[.int .i64 kt, .bool xt, .slice at0 nt ct, .slice bt mt dt, .slice et pt qt] 26)).alloc (.cells #[.int .i64 0] 3)).alloc (.cells #[.int .i64 0] 3) := ⟨_, rfl⟩
  have hbA : Below w.heap.size w wA := by rw [hwA]; exact (((Below.refl _ _).alloc (Nat.le_refl _) _).alloc (by simp) _).alloc (by simp; omega) _
  have hsA : wA.heap.size = w.heap.size + 1 + 1 + 1 := by rw [hwA]; simp
  have hbx : Bx wA w.heap.size (.int .i64 kt) (.bool xt) (.slice at0 nt ct) (.slice bt mt dt) (.slice et pt qt) := by
    rw [hwA]; exact (bx_new w _ _ _ _ _).kept (((Below.refl (w.heap.size + 1) _).alloc (by simp) _).alloc (by simp) _) (by omega)
  have hh1 : wA.heap[w.heap.size + 1]? = some (.cells #[.int .i64 0] 3) := by
    rw [hwA]
    show (((w.heap.push _).push _).push _)[w.heap.size + 1]? = _
    rw [Array.getElem?_push, if_neg (by simp), Array.getElem?_push, if_pos (by simp)]
  have hh2 : wA.heap[w.heap.size + 1 + 1]? = some (.cells #[.int .i64 0] 3) := by
    rw [hwA]
    show (((w.heap.push _).push _).push _)[w.heap.size + 1 + 1]? = _
    rw [Array.getElem?_push, if_pos (by simp)]
  have hc1 : Ctr wA (w.heap.size + 1) (.int .i64 ((0 : Nat) : Int)) := ⟨by rw [cell_of_row _ _ _ _ _ _ hh1]; rfl, by unfold World.frozen?; rw [hh1]; simp⟩
  have hc2 : Ctr wA (w.heap.size + 1 + 1) (.int .i64 ((0 : Nat) : Int)) := ⟨by rw [cell_of_row _ _ _ _ _ _ hh2]; rfl, by unfold World.frozen?; rw [hh2]; simp⟩
  have HA := hide (And.intro hbA (And.intro hsA (And.intro hbx (And.intro hc1 hc2))))
  have HwA := hide hwA
  have HF : Hid (countS T = if (chk T 1 0).1 = 0 then (cn T, cb T) else (0, 0)) := rfl
  clear hL hwA hbA hsA hbx hh1 hh2 hc1 hc2
  go_enter Tryd.func8, Tryd.ntmps8
  go_wp2_with fail
  rw [← unhide HwA]
  refine (unhide HC1 wA (unhide HA).1).mono ?_
  rintro e w1 ⟨rfl, hb1⟩
  have hs1 := hb1.size
  have hsA := (unhide HA).2.1
  have HA1 := hide (And.intro ((unhide HA).1.trans (hb1.mono (by omega))) (And.intro ((unhide HA).2.2.1.kept hb1 (by omega)) (And.intro ((unhide HA).2.2.2.1.below hb1 (by omega)) ((unhide HA).2.2.2.2.below hb1 (by omega)))))
  clear HC1 HwA hb1 HA
  by_cases hc1 : (chk T 1 0).1 = 0
  case neg =>
    have hn1 := ne0 hc1
    rw [if_neg hc1] at HF
    clear hc1
    generalize (chk T 1 0).1 = c1 at *
    have z1 := (unhide HA1).2.2.1.cell
    have z1f := (unhide HA1).2.2.1.fr
    have z2 := (unhide HA1).2.2.2.cell
    have z2f := (unhide HA1).2.2.2.fr
    go_wp2_with fail
    rw [unhide HF]
    refine bodyPost_ret (v := .tuple #[.int .i64 0, .int .i64 0]) (by simp [results, Tryd.results8, go_sem, z1, z2]) rfl ⟨rfl, ?_⟩
    exact ((unhide HA1).1.setCell (by show _ ≤ _; simp <;> omega) _).setCell (by show _ ≤ _; simp <;> omega) _
  case pos =>
  rw [if_pos hc1] at HF
  rw [hc1]
  clear hc1
  obtain ⟨y0, y1, y2, y3, y4⟩ := (unhide HA1).2.1.cells
  have HG := hide (count_any T lo hi _ w1 (w.heap.size + 1) (w.heap.size + 1 + 1) 0 0 ((unhide HL).kept (unhide HA1).1 hhi) (by omega) (by omega) (by omega) (unhide HA1).2.2.1 (unhide HA1).2.2.2 hW (by omega) (by omega))
  go_wp2_with fail
  refine (unhide HG).mono ?_
  rintro e w2 ⟨rfl, hW2⟩
  rw [Nat.zero_add, Nat.zero_add] at hW2
  have hs2 := hW2.t.size
  have HB2 := hide ((unhide HA1).1.trans (hW2.t.below (B := w.heap.size) (by omega) (by omega) (by omega)))
  have z1 := hW2.c1.cell
  have z1f := hW2.c1.fr
  have z2 := hW2.c2.cell
  have z2f := hW2.c2.fr
  generalize cn T = a at *
  generalize cb T = b at *
  clear HG hW2
  go_wp2_with fail
  rw [unhide HF]
  refine bodyPost_ret (v := .tuple #[.int .i64 (a : Int), .int .i64 (b : Int)]) (by simp [results, Tryd.results8, go_sem, z1, z2]) rfl ⟨rfl, ?_⟩
  exact ((unhide HB2).setCell (by show _ ≤ _; simp <;> omega) _).setCell (by show _ ≤ _; simp <;> omega) _
end Go.Proofs.YthfjofmfiklegabDoor
