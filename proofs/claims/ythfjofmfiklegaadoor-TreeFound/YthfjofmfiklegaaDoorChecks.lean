/- TreeChecks, in the code. -/
import Derived.Test.YthfjofmfiklegaaDoorK6
import Derived.Test.YthfjofmfiklegaaDoorHv
import Derived.Test.YthfjofmfiklegaaDoorK3
import Derived.Deep.RegionHeld3
namespace Go.Proofs.YthfjofmfiklegaaDoor
open Go.RowKit
set_option linter.unusedSimpArgs false
set_option maxRecDepth 20000 in
set_option maxHeartbeats 2000000 in
theorem checks_any (T : Tr) (lo hi : Nat) (cs : List Value) (w : World) (hL : Lies lo hi w T cs) (hhi : hi ≤ w.heap.size) (hF : Fit T) :
    Calls Tryd.prog 3 #[.agg cs.toArray] w fun e w' => e = .returned (.bool true) ∧ Below w.heap.size w w' := by
  obtain ⟨kt, xt, at0, nt, ct, bt, mt, dt, et, pt, qt, rfl⟩ := hL.form
  obtain ⟨wA, hwA⟩ : ∃ wA, wA = (w.alloc (.cells #[.int .i64 kt, .bool xt, .slice at0 nt ct, .slice bt mt dt, .slice et pt qt] 26)).alloc (.cells #[.int .i64 kt, .bool xt, .slice at0 nt ct, .slice bt mt dt, .slice et pt qt] 26) := ⟨_, rfl⟩
  have hbA : Below w.heap.size w wA := by rw [hwA]; exact ((Below.refl _ _).alloc (Nat.le_refl _) _).alloc (by simp) _
  have hsA : wA.heap.size = w.heap.size + 1 + 1 := by rw [hwA]; simp
  have hbx : Bx wA w.heap.size (.int .i64 kt) (.bool xt) (.slice at0 nt ct) (.slice bt mt dt) (.slice et pt qt) := by
    rw [hwA]; exact (bx_new w _ _ _ _ _).kept ((Below.refl (w.heap.size + 1) _).alloc (by simp) _) (by omega)
  have hby : wA.heap[w.heap.size + 1]? = some (.cells #[.int .i64 kt, .bool xt, .slice at0 nt ct, .slice bt mt dt, .slice et pt qt] 26) := by
    rw [hwA]
    show ((w.heap.push _).push _)[w.heap.size + 1]? = _
    rw [Array.getElem?_push, if_pos (by simp)]
  have HH := hide (heavy_any [T] [[.int .i64 kt, .bool xt, .slice at0 nt ct, .slice bt mt dt, .slice et pt qt]] lo hi (w.heap.size + 1) 0 1 wA rfl (Nat.le_refl _) (by simp) (by omega) (fun j u hj => by rw [cell_of_row _ _ _ _ _ _ hby, Nat.zero_add, ← Array.getElem?_toList]; simpa using hj)
    (fun i t c h1 h2 => by
      match i with
      | 0 => simp at h1 h2; subst h1 h2; exact hL.kept hbA hhi
      | i + 1 => simp at h1) (by omega) (fun t ht => by simp at ht; subst ht; exact hF))
  have HL := hide hL
  have HwA := hide hwA
  have HA := hide (And.intro hbA (And.intro hsA hbx))
  clear hwA hbA hsA hbx hby hL hF
  go_enter Tryd.func3, Tryd.ntmps3
  go_wp2_with fail
  rw [← unhide HwA]
  refine (unhide HH).mono ?_
  rintro e w1 ⟨hb1, hans⟩
  have hs1 := hb1.size
  have hsA := (unhide HA).2.1
  have HB1 := hide (And.intro ((unhide HA).1.trans (hb1.mono (by omega))) ((unhide HA).2.2.kept hb1 (by omega)))
  clear hb1 HH HA HwA
  rcases hans with rfl | ⟨rfl, hwt⟩
  · go_wp2_with fail
    go_ret
    exact ⟨rfl, (unhide HB1).1⟩
  have hwt' : wt T ≤ 3000 := by rw [wts, wts] at hwt; omega
  obtain ⟨y0, y1, y2, y3, y4⟩ := (unhide HB1).2.cells
  have HC := hide (cloneR_any T lo hi _ w1 ((unhide HL).kept (unhide HB1).1 hhi) (by omega) (by omega))
  clear hwt
  go_wp2_with fail
  refine (unhide HC).mono ?_
  rintro e w2 ⟨cs', rfl, hb2, hL2⟩
  obtain ⟨j0, j1, f1, g1, h1, f2, g2, h2, f3, g3, h3, rfl⟩ := hL2.form
  have hs2 := hb2.size
  obtain ⟨w3, hw3⟩ : ∃ w3, w3 = w2.alloc (.cells #[.int .i64 j0, .bool j1, .slice f1 g1 h1, .slice f2 g2 h2, .slice f3 g3 h3] 26) := ⟨_, rfl⟩
  have hb3 : Below w2.heap.size w2 w3 := by rw [hw3]; exact (Below.refl _ _).alloc (Nat.le_refl _) _
  have hs3 : w3.heap.size = w2.heap.size + 1 := by rw [hw3]; simp
  have hbx3 : Bx w3 w2.heap.size (.int .i64 j0) (.bool j1) (.slice f1 g1 h1) (.slice f2 g2 h2) (.slice f3 g3 h3) := by rw [hw3]; exact bx_new _ _ _ _ _ _
  have hbt3 := ((unhide HB1).2.kept hb2 (by omega)).kept hb3 (by omega)
  have HL3 := hide (hL2.kept hb3 (Nat.le_refl _))
  have HB3 := hide ((unhide HB1).1.trans ((hb2.mono (by omega)).trans (hb3.mono (by omega))))
  have HLT := hide ((unhide HL).kept (unhide HB3) hhi)
  have HC1 := hide (fun (W : World) (h : Below w3.heap.size w3 W) => check_any T w1.heap.size w2.heap.size _ W ((unhide HL3).kept h (by omega)) (by omega) (by have := h.size; omega))
  have HC2 := hide (fun (W : World) (h : Below w3.heap.size w3 W) => checkR_any T lo hi _ W ((unhide HLT).kept h (by omega)) (by omega) (by have := h.size; omega))
  have HE := hide (fun (W : World) (h : Below w3.heap.size w3 W) => equal_any T T w1.heap.size w2.heap.size lo hi _ _ W ((unhide HL3).kept h (by omega)) ((unhide HLT).kept h (by omega)) (by omega) (by omega) (by have := h.size; omega) (by have := h.size; omega))
  have HK := hide (fun W => known_any W)
  have Hw3 := hide hw3
  clear hw3 hb2 hb3 hL2 HC HB1 y0 y1 y2 y3 y4
  generalize (chk T 1 0).1 = cn at *
  go_wp2_with fail
  rw [← unhide Hw3]
  obtain ⟨z0, z1, z2, z3, z4⟩ := hbx3.cells
  obtain ⟨t0, t1, t2, t3, t4⟩ := hbt3.cells
  have hlw : w.heap.size < w3.heap.size := by omega
  refine wp_region_noPanic ?_
  refine wp_region_held_drew (S := fun w' => Bx w' w.heap.size (.int .i64 kt) (.bool xt) (.slice at0 nt ct) (.slice bt mt dt) (.slice et pt qt) ∧ Bx w' w2.heap.size (.int .i64 j0) (.bool j1) (.slice f1 g1 h1) (.slice f2 g2 h2) (.slice f3 g3 h3)) (by kernel_rfl) ⟨hbt3, hbx3⟩ (fun hHeld => ?_)
  clear z0 z1 z2 z3 z4 t0 t1 t2 t3 t4
  refine wpAnyH_take (i := 0) (v := .agg #[.int .i64 j0, .bool j1, .slice f1 g1 h1, .slice f2 g2 h2, .slice f3 g3 h3]) rfl (by kernel_rfl) (by kernel_rfl) (by kernel_rfl) (fun _ _ _ h => h) (Or.inl ⟨by rfl, ?_⟩) hHeld ?_
  · intro w' hS'; obtain ⟨t0, t1, t2, t3, t4⟩ := hS'.2.cells; go_simp
  try simp only [Act.put, List.getElem_toArray, List.getElem_cons_zero, List.getElem_cons_succ, List.setIfInBounds_toArray, List.set_cons_zero, List.set_cons_succ]
  refine wpAnyH_take (i := 2) (v := .agg #[.int .i64 kt, .bool xt, .slice at0 nt ct, .slice bt mt dt, .slice et pt qt]) rfl (by kernel_rfl) (by kernel_rfl) (by kernel_rfl) (fun _ _ _ h => h) (Or.inl ⟨by rfl, ?_⟩) hHeld ?_
  · intro w' hS'; obtain ⟨t0, t1, t2, t3, t4⟩ := hS'.1.cells; go_simp
  try simp only [Act.put, List.getElem_toArray, List.getElem_cons_zero, List.getElem_cons_succ, List.setIfInBounds_toArray, List.set_cons_zero, List.set_cons_succ]
  refine wpAnyH_ready (rs := [1]) (by kernel_rfl) (by simp) (AllReadyH.cons rfl (fun K hK => ?_) AllReadyH.nil)
  simp only [List.getElem_toArray, List.getElem_cons_zero, List.getElem_cons_succ]
  go_simp
  refine (unhide HC1 _ (((Below.refl w3.heap.size w3).drew))).mono ?_
  rintro e w4 ⟨rfl, hb4⟩
  have hb4' : Below w3.heap.size w3 w4 := below_drew' hb4
  refine hK.out _ _ ⟨hbt3.kept hb4' hlw, hbx3.kept hb4' (by omega)⟩ (fun hHeld => ?_)
  clear hK K
  try simp only [Act.put, List.getElem_toArray, List.getElem_cons_zero, List.getElem_cons_succ, List.setIfInBounds_toArray, List.set_cons_zero, List.set_cons_succ]
  refine wpAnyH_ready (rs := [3]) (by kernel_rfl) (by simp) (AllReadyH.cons rfl (fun K hK => ?_) AllReadyH.nil)
  simp only [List.getElem_toArray, List.getElem_cons_zero, List.getElem_cons_succ]
  go_simp
  refine (unhide HC2 _ hb4').mono ?_
  rintro e w5 ⟨rfl, hb5⟩
  have hs4 := hb4'.size
  have hb5' : Below w3.heap.size w3 w5 := hb4'.trans (hb5.mono (by omega))
  refine hK.out _ _ ⟨hbt3.kept hb5' hlw, hbx3.kept hb5' (by omega)⟩ (fun hHeld => ?_)
  clear hK K
  try simp only [Act.put, List.getElem_toArray, List.getElem_cons_zero, List.getElem_cons_succ, List.setIfInBounds_toArray, List.set_cons_zero, List.set_cons_succ]
  refine wpAnyH_take (i := 4) (v := .bool true) rfl (by kernel_rfl) (by kernel_rfl) (by kernel_rfl) (fun _ _ _ h => h) (Or.inl ⟨by rfl, ?_⟩) hHeld ?_
  · intro w' hS'; go_simp
  try simp only [Act.put, List.getElem_toArray, List.getElem_cons_zero, List.getElem_cons_succ, List.setIfInBounds_toArray, List.set_cons_zero, List.set_cons_succ]
  refine wpAnyH_take (i := 5) (v := .bool true) rfl (by kernel_rfl) (by kernel_rfl) (by kernel_rfl) (fun _ _ _ h => h) (Or.inl ⟨by rfl, ?_⟩) hHeld ?_
  · intro w' hS'; go_simp
  try simp only [Act.put, List.getElem_toArray, List.getElem_cons_zero, List.getElem_cons_succ, List.setIfInBounds_toArray, List.set_cons_zero, List.set_cons_succ]
  refine wpAnyH_take (i := 6) (v := .agg #[.int .i64 j0, .bool j1, .slice f1 g1 h1, .slice f2 g2 h2, .slice f3 g3 h3]) rfl (by kernel_rfl) (by kernel_rfl) (by kernel_rfl) (fun _ _ _ h => h) (Or.inl ⟨by rfl, ?_⟩) hHeld ?_
  · intro w' hS'; obtain ⟨t0, t1, t2, t3, t4⟩ := hS'.2.cells; go_simp
  try simp only [Act.put, List.getElem_toArray, List.getElem_cons_zero, List.getElem_cons_succ, List.setIfInBounds_toArray, List.set_cons_zero, List.set_cons_succ]
  refine wpAnyH_take (i := 7) (v := .agg #[.int .i64 kt, .bool xt, .slice at0 nt ct, .slice bt mt dt, .slice et pt qt]) rfl (by kernel_rfl) (by kernel_rfl) (by kernel_rfl) (fun _ _ _ h => h) (Or.inl ⟨by rfl, ?_⟩) hHeld ?_
  · intro w' hS'; obtain ⟨t0, t1, t2, t3, t4⟩ := hS'.1.cells; go_simp
  try simp only [Act.put, List.getElem_toArray, List.getElem_cons_zero, List.getElem_cons_succ, List.setIfInBounds_toArray, List.set_cons_zero, List.set_cons_succ]
  refine wpAnyH_ready (rs := [8]) (by kernel_rfl) (by simp) (AllReadyH.cons rfl (fun K hK => ?_) AllReadyH.nil)
  simp only [List.getElem_toArray, List.getElem_cons_zero, List.getElem_cons_succ]
  go_simp
  refine (unhide HE _ hb5').mono ?_
  rintro e w6 ⟨hb6, hans⟩
  have hs5 := hb5'.size
  have hb6' : Below w3.heap.size w3 w6 := hb5'.trans (hb6.mono (by omega))
  obtain rfl : e = .returned (.bool true) := by
    rcases hans with ⟨_, h⟩ | ⟨h, _⟩
    · exact h
    · exact absurd rfl h
  clear hans
  refine hK.out _ _ ⟨hbt3.kept hb6' hlw, hbx3.kept hb6' (by omega)⟩ (fun hHeld => ?_)
  clear hK K
  try simp only [Act.put, List.getElem_toArray, List.getElem_cons_zero, List.getElem_cons_succ, List.setIfInBounds_toArray, List.set_cons_zero, List.set_cons_succ]
  refine wpAnyH_take (i := 9) (v := .bool true) rfl (by kernel_rfl) (by kernel_rfl) (by kernel_rfl) (fun _ _ _ h => h) (Or.inl ⟨by rfl, ?_⟩) hHeld ?_
  · intro w' hS'; go_simp
  try simp only [Act.put, List.getElem_toArray, List.getElem_cons_zero, List.getElem_cons_succ, List.setIfInBounds_toArray, List.set_cons_zero, List.set_cons_succ]
  refine wpAnyH_take (i := 10) (v := .bool true) rfl (by kernel_rfl) (by kernel_rfl) (by kernel_rfl) (fun _ _ _ h => h) (Or.inl ⟨by rfl, ?_⟩) hHeld ?_
  · intro w' hS'; go_simp
  try simp only [Act.put, List.getElem_toArray, List.getElem_cons_zero, List.getElem_cons_succ, List.setIfInBounds_toArray, List.set_cons_zero, List.set_cons_succ]
  refine wpAnyH_ready (rs := [11]) (by kernel_rfl) (by simp) (AllReadyH.cons rfl (fun K hK => ?_) AllReadyH.nil)
  simp only [List.getElem_toArray, List.getElem_cons_zero, List.getElem_cons_succ]
  go_simp
  refine (unhide HK _).mono ?_
  rintro e w7 ⟨rfl, hb7⟩
  have hs6 := hb6'.size
  have hb7' : Below w3.heap.size w3 w7 := hb6'.trans (hb7.mono (by omega))
  refine hK.out _ _ ⟨hbt3.kept hb7' hlw, hbx3.kept hb7' (by omega)⟩ (fun hHeld => ?_)
  clear hK K
  try simp only [Act.put, List.getElem_toArray, List.getElem_cons_zero, List.getElem_cons_succ, List.setIfInBounds_toArray, List.set_cons_zero, List.set_cons_succ]
  refine wpAnyH_take (i := 12) (v := .bool true) rfl (by kernel_rfl) (by kernel_rfl) (by kernel_rfl) (fun _ _ _ h => h) (Or.inl ⟨by rfl, ?_⟩) hHeld ?_
  · intro w' hS'; go_simp
  try simp only [Act.put, List.getElem_toArray, List.getElem_cons_zero, List.getElem_cons_succ, List.setIfInBounds_toArray, List.set_cons_zero, List.set_cons_succ]
  refine wpAnyH_take (i := 13) (v := .bool true) rfl (by kernel_rfl) (by kernel_rfl) (by kernel_rfl) (fun _ _ _ h => h) (Or.inl ⟨by rfl, ?_⟩) hHeld ?_
  · intro w' hS'; go_simp
  try simp only [Act.put, List.getElem_toArray, List.getElem_cons_zero, List.getElem_cons_succ, List.setIfInBounds_toArray, List.set_cons_zero, List.set_cons_succ]
  refine wpAnyH_done (by kernel_rfl) ?_ _
  refine NoPanic.normal ?_
  clear hHeld
  go_wp2_with fail
  go_ret
  exact ⟨rfl, (unhide HB3).trans (hb7'.mono (by omega))⟩
end Go.Proofs.YthfjofmfiklegaaDoor
