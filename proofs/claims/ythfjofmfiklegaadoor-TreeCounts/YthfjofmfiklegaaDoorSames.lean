/- Same, in the code and in the document's own answer. -/
import Derived.Test.YthfjofmfiklegaaDoorSamef
import Derived.Test.YthfjofmfiklegaaDoorK5
namespace Go.Proofs.YthfjofmfiklegaaDoor
open Go.RowKit
/-- Are both trees, and one? -/
noncomputable def sameB (T U : Tr) : Bool := @decide ((chk T 1 0).1 = 0 ∧ (chk U 1 0).1 = 0 ∧ T = U) (Classical.propDecidable _)
theorem sameB_yes {T U : Tr} (h : (chk T 1 0).1 = 0 ∧ (chk U 1 0).1 = 0 ∧ T = U) : sameB T U = true := by unfold sameB; exact @decide_eq_true _ (Classical.propDecidable _) h
theorem sameB_no {T U : Tr} (h : ¬ ((chk T 1 0).1 = 0 ∧ (chk U 1 0).1 = 0 ∧ T = U)) : sameB T U = false := by unfold sameB; exact @decide_eq_false _ (Classical.propDecidable _) h
set_option maxRecDepth 20000 in
set_option maxHeartbeats 2000000 in
theorem sames_any (T U : Tr) (lo hi lo' hi' : Nat) (cs cs' : List Value) (w : World) (hL : Lies lo hi w T cs) (hL' : Lies lo' hi' w U cs') (hW : wt T ≤ 100000) (hW' : wt U ≤ 100000) (hhi : hi ≤ w.heap.size) (hhi' : hi' ≤ w.heap.size) :
    Calls Tryd.prog 20 #[.agg cs.toArray, .agg cs'.toArray] w fun e w' => Below w.heap.size w w' ∧ e = .returned (.bool (sameB T U)) := by
  obtain ⟨kt, xt, at0, nt, ct, bt, mt, dt, et, pt, qt, rfl⟩ := hL.form
  obtain ⟨ku, xu, au, nu, cu, bu, mu, du, eu, pu, qu, rfl⟩ := hL'.form
  obtain ⟨wA, hwA⟩ : ∃ wA, wA = (w.alloc (.cells #[.int .i64 kt, .bool xt, .slice at0 nt ct, .slice bt mt dt, .slice et pt qt] 26)).alloc (.cells #[.int .i64 ku, .bool xu, .slice au nu cu, .slice bu mu du, .slice eu pu qu] 26) := ⟨_, rfl⟩
  have hb0 : Below w.heap.size w wA := by rw [hwA]; exact ((Below.refl _ _).alloc (Nat.le_refl _) _).alloc (by simp) _
  have hsA : wA.heap.size = w.heap.size + 1 + 1 := by rw [hwA]; simp
  have hx1 : Bx wA w.heap.size (.int .i64 kt) (.bool xt) (.slice at0 nt ct) (.slice bt mt dt) (.slice et pt qt) := by rw [hwA]; exact (bx_new w _ _ _ _ _).kept ((Below.refl (w.heap.size + 1) _).alloc (by simp) _) (by omega)
  have hx2 : Bx wA (w.heap.size + 1) (.int .i64 ku) (.bool xu) (.slice au nu cu) (.slice bu mu du) (.slice eu pu qu) := by
    rw [hwA]
    have := bx_new (w.alloc (.cells #[.int .i64 kt, .bool xt, .slice at0 nt ct, .slice bt mt dt, .slice et pt qt] 26)) (.int .i64 ku) (.bool xu) (.slice au nu cu) (.slice bu mu du) (.slice eu pu qu)
    simpa using this
  have HC1 := hide (check_any T lo hi _ wA (hL.kept hb0 hhi) hW (by omega))
  have HC2 := hide (fun (W : World) (h : Below wA.heap.size wA W) => check_any U lo' hi' _ W ((hL'.kept hb0 hhi').kept h (by omega)) hW' (by have := h.size; omega))
  have HC3 := hide (fun (W : World) (h : Below wA.heap.size wA W) => same_any T U lo hi lo' hi' _ _ W ((hL.kept hb0 hhi).kept h (by omega)) ((hL'.kept hb0 hhi').kept h (by omega)) hW hW' (by have := h.size; omega) (by have := h.size; omega))
  have HX := hide (And.intro hx1 (And.intro hx2 hb0))
  have HwA := hide hwA
  clear hL hL' hW hW' hwA hb0 hx1 hx2
  go_enter Tryd.func20, Tryd.ntmps20
  go_wp2_with fail
  rw [← unhide HwA]
  refine (unhide HC1).mono ?_
  rintro e w1 ⟨rfl, hb1⟩
  have hs1 := hb1.size
  have HX1 := hide (And.intro ((unhide HX).1.kept hb1 (by omega)) (And.intro ((unhide HX).2.1.kept hb1 (by omega)) ((unhide HX).2.2.trans (hb1.mono (by omega)))))
  have Hb1 := hide hb1
  clear HC1 hb1 HX
  by_cases hc1 : (chk T 1 0).1 = 0
  case neg =>
    have hn := ne0 hc1
    have HS : Hid (sameB T U = false) := sameB_no (fun h => hc1 h.1)
    clear hc1
    generalize (chk T 1 0).1 = c1 at *
    go_wp2_with fail
    go_ret
    exact ⟨(unhide HX1).2.2, by rw [unhide HS]; rfl⟩
  case pos =>
  have Hc1 := hide hc1
  rw [hc1]
  clear hc1
  obtain ⟨y0, y1, y2, y3, y4⟩ := (unhide HX1).2.1.cells
  have hl1 : w.heap.size + 1 < w1.heap.size := by omega
  go_wp2_with fail
  refine (unhide HC2 w1 (unhide Hb1)).mono ?_
  rintro e w2 ⟨rfl, hb2⟩
  have hs2 := hb2.size
  have HX2 := hide (And.intro ((unhide HX1).1.kept hb2 (by omega)) (And.intro ((unhide HX1).2.1.kept hb2 (by omega)) ((unhide HX1).2.2.trans (hb2.mono (by omega)))))
  have Hb2 := hide ((unhide Hb1).trans (hb2.mono (by omega)))
  clear HC2 hb2 HX1 y0 y1 y2 y3 y4 Hb1
  by_cases hc2 : (chk U 1 0).1 = 0
  case neg =>
    have hn := ne0 hc2
    have HS : Hid (sameB T U = false) := sameB_no (fun h => hc2 h.2.1)
    clear hc2
    generalize (chk U 1 0).1 = c1 at *
    go_wp2_with fail
    go_ret
    exact ⟨(unhide HX2).2.2, by rw [unhide HS]; rfl⟩
  case pos =>
  have Hc2 := hide hc2
  rw [hc2]
  clear hc2
  obtain ⟨y0, y1, y2, y3, y4⟩ := (unhide HX2).1.cells
  obtain ⟨z0, z1, z2, z3, z4⟩ := (unhide HX2).2.1.cells
  go_wp2_with fail
  refine (unhide HC3 w2 (unhide Hb2)).mono ?_
  rintro e w3 ⟨hb3, hans⟩
  have HX3 := hide ((unhide HX2).2.2.trans (hb3.mono (by omega)))
  clear hb3 HC3 HX2 y0 y1 y2 y3 y4 z0 z1 z2 z3 z4
  rcases hans with ⟨h5, rfl⟩ | ⟨h5, rfl⟩
  · have HS : Hid (sameB T U = true) := sameB_yes ⟨unhide Hc1, unhide Hc2, h5⟩
    clear h5
    go_wp2_with fail
    go_ret
    exact ⟨unhide HX3, by rw [unhide HS]; rfl⟩
  · have HS : Hid (sameB T U = false) := sameB_no (fun h => h5 h.2.2)
    clear h5
    go_wp2_with fail
    go_ret
    exact ⟨unhide HX3, by rw [unhide HS]; rfl⟩
set_option maxRecDepth 20000 in
set_option maxHeartbeats 2000000 in
theorem rsames_any (T U : Tr) (lo hi lo' hi' : Nat) (cs cs' : List Value) (w : World) (hL : Lies lo hi w T cs) (hL' : Lies lo' hi' w U cs') (hW : wt T ≤ 100000) (hW' : wt U ≤ 100000) (hhi : hi ≤ w.heap.size) (hhi' : hi' ≤ w.heap.size) :
    Calls Tryd.prog 21 #[.agg cs.toArray, .agg cs'.toArray] w fun e w' => Below w.heap.size w w' ∧ e = .returned (.bool (sameB T U)) := by
  obtain ⟨kt, xt, at0, nt, ct, bt, mt, dt, et, pt, qt, rfl⟩ := hL.form
  obtain ⟨ku, xu, au, nu, cu, bu, mu, du, eu, pu, qu, rfl⟩ := hL'.form
  obtain ⟨wA, hwA⟩ : ∃ wA, wA = (w.alloc (.cells #[.int .i64 kt, .bool xt, .slice at0 nt ct, .slice bt mt dt, .slice et pt qt] 26)).alloc (.cells #[.int .i64 ku, .bool xu, .slice au nu cu, .slice bu mu du, .slice eu pu qu] 26) := ⟨_, rfl⟩
  have hb0 : Below w.heap.size w wA := by rw [hwA]; exact ((Below.refl _ _).alloc (Nat.le_refl _) _).alloc (by simp) _
  have hsA : wA.heap.size = w.heap.size + 1 + 1 := by rw [hwA]; simp
  have hx1 : Bx wA w.heap.size (.int .i64 kt) (.bool xt) (.slice at0 nt ct) (.slice bt mt dt) (.slice et pt qt) := by rw [hwA]; exact (bx_new w _ _ _ _ _).kept ((Below.refl (w.heap.size + 1) _).alloc (by simp) _) (by omega)
  have hx2 : Bx wA (w.heap.size + 1) (.int .i64 ku) (.bool xu) (.slice au nu cu) (.slice bu mu du) (.slice eu pu qu) := by
    rw [hwA]
    have := bx_new (w.alloc (.cells #[.int .i64 kt, .bool xt, .slice at0 nt ct, .slice bt mt dt, .slice et pt qt] 26)) (.int .i64 ku) (.bool xu) (.slice au nu cu) (.slice bu mu du) (.slice eu pu qu)
    simpa using this
  have HC1 := hide (checkR_any T lo hi _ wA (hL.kept hb0 hhi) hW (by omega))
  have HC2 := hide (fun (W : World) (h : Below wA.heap.size wA W) => checkR_any U lo' hi' _ W ((hL'.kept hb0 hhi').kept h (by omega)) hW' (by have := h.size; omega))
  have HC3 := hide (fun (W : World) (h : Below wA.heap.size wA W) => equal_any T U lo hi lo' hi' _ _ W ((hL.kept hb0 hhi).kept h (by omega)) ((hL'.kept hb0 hhi').kept h (by omega)) hW hW' (by have := h.size; omega) (by have := h.size; omega))
  have HX := hide (And.intro hx1 (And.intro hx2 hb0))
  have HwA := hide hwA
  clear hL hL' hW hW' hwA hb0 hx1 hx2
  go_enter Tryd.func21, Tryd.ntmps21
  go_wp2_with fail
  rw [← unhide HwA]
  refine (unhide HC1).mono ?_
  rintro e w1 ⟨rfl, hb1⟩
  have hs1 := hb1.size
  have HX1 := hide (And.intro ((unhide HX).1.kept hb1 (by omega)) (And.intro ((unhide HX).2.1.kept hb1 (by omega)) ((unhide HX).2.2.trans (hb1.mono (by omega)))))
  have Hb1 := hide hb1
  clear HC1 hb1 HX
  by_cases hc1 : (chk T 1 0).1 = 0
  case neg =>
    have hn := ne0 hc1
    have HS : Hid (sameB T U = false) := sameB_no (fun h => hc1 h.1)
    clear hc1
    generalize (chk T 1 0).1 = c1 at *
    go_wp2_with fail
    go_ret
    exact ⟨(unhide HX1).2.2, by rw [unhide HS]; rfl⟩
  case pos =>
  have Hc1 := hide hc1
  rw [hc1]
  clear hc1
  obtain ⟨y0, y1, y2, y3, y4⟩ := (unhide HX1).2.1.cells
  have hl1 : w.heap.size + 1 < w1.heap.size := by omega
  go_wp2_with fail
  refine (unhide HC2 w1 (unhide Hb1)).mono ?_
  rintro e w2 ⟨rfl, hb2⟩
  have hs2 := hb2.size
  have HX2 := hide (And.intro ((unhide HX1).1.kept hb2 (by omega)) (And.intro ((unhide HX1).2.1.kept hb2 (by omega)) ((unhide HX1).2.2.trans (hb2.mono (by omega)))))
  have Hb2 := hide ((unhide Hb1).trans (hb2.mono (by omega)))
  clear HC2 hb2 HX1 y0 y1 y2 y3 y4 Hb1
  by_cases hc2 : (chk U 1 0).1 = 0
  case neg =>
    have hn := ne0 hc2
    have HS : Hid (sameB T U = false) := sameB_no (fun h => hc2 h.2.1)
    clear hc2
    generalize (chk U 1 0).1 = c1 at *
    go_wp2_with fail
    go_ret
    exact ⟨(unhide HX2).2.2, by rw [unhide HS]; rfl⟩
  case pos =>
  have Hc2 := hide hc2
  rw [hc2]
  clear hc2
  obtain ⟨y0, y1, y2, y3, y4⟩ := (unhide HX2).1.cells
  obtain ⟨z0, z1, z2, z3, z4⟩ := (unhide HX2).2.1.cells
  go_wp2_with fail
  refine (unhide HC3 w2 (unhide Hb2)).mono ?_
  rintro e w3 ⟨hb3, hans⟩
  have HX3 := hide ((unhide HX2).2.2.trans (hb3.mono (by omega)))
  clear hb3 HC3 HX2 y0 y1 y2 y3 y4 z0 z1 z2 z3 z4
  rcases hans with ⟨h5, rfl⟩ | ⟨h5, rfl⟩
  · have HS : Hid (sameB T U = true) := sameB_yes ⟨unhide Hc1, unhide Hc2, h5⟩
    clear h5
    go_wp2_with fail
    go_ret
    exact ⟨unhide HX3, by rw [unhide HS]; rfl⟩
  · have HS : Hid (sameB T U = false) := sameB_no (fun h => h5 h.2.2)
    clear h5
    go_wp2_with fail
    go_ret
    exact ⟨unhide HX3, by rw [unhide HS]; rfl⟩
end Go.Proofs.YthfjofmfiklegaaDoor
