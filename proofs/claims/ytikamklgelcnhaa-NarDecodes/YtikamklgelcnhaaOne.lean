/- NarOne, in the code. -/
import Derived.Test.YtikamklgelcnhaaLawA
import Derived.Test.YtikamklgelcnhaaNrI
import Derived.Test.YtikamklgelcnhaaK4
import Derived.Deep.RegionHeld3
namespace Go.Proofs.Ytikamklgelcnhaa
open Go.RowKit
set_option linter.unusedSimpArgs false
structure BoxT2 (w W : World) (t0 t1 t2 t3 t4 x0 x1 x2 x3 x4 : Value) : Prop where
  b : Below w.heap.size w W
  s : w.heap.size + 1 + 1 ≤ W.heap.size
  t : Bx W w.heap.size t0 t1 t2 t3 t4
  x : Bx W (w.heap.size + 1) x0 x1 x2 x3 x4
theorem BoxT2.kept {w W W' : World} {t0 t1 t2 t3 t4 x0 x1 x2 x3 x4 : Value} (h : BoxT2 w W t0 t1 t2 t3 t4 x0 x1 x2 x3 x4) {B : Nat} (hb : Below B W W') (hB : w.heap.size + 1 + 1 ≤ B) : BoxT2 w W' t0 t1 t2 t3 t4 x0 x1 x2 x3 x4 :=
  ⟨h.b.trans (hb.mono (by omega)), by have := h.s; have := hb.size; omega, h.t.kept hb (by omega), h.x.kept hb (by omega)⟩
theorem nar_one {T U : Tr} (h1 : (chk T 1 0).1 = 0) (h2 : (chk U 1 0).1 = 0) (w1 : wt T ≤ 3000) (w2 : wt U ≤ 3000) : encS T = encS U ↔ T = U := by
  constructor
  · intro h
    unfold encS at h
    rw [if_pos h1, if_pos h2] at h
    unfold narB at h
    have h' := List.append_cancel_left h
    exact (node_inj T U [] [] ⟨⟨1, 0, h1⟩, by omega⟩ ⟨⟨1, 0, h2⟩, by omega⟩ (by rw [h'])).1
  · intro h; rw [h]
theorem enc_len {T : Tr} (h : wt T ≤ 3000) : (encS T).length ≤ 1000000 := by
  unfold encS
  split
  · unfold narB
    have := nodeB_len T
    have l : (txs [wMagic]).length = 24 := by decide
    rw [List.length_append]; omega
  · simp
set_option maxRecDepth 20000 in
set_option maxHeartbeats 4000000 in
theorem one_any (T U : Tr) (lo hi : Nat) (ct cu : List Value) (w : World) (hT : Lies lo hi w T ct) (hU : Lies lo hi w U cu) (hhi : hi ≤ w.heap.size) (hF : Fit T) (hG : Fit U) :
    Calls Try.prog 8 #[.agg ct.toArray, .agg cu.toArray] w fun e w' => e = .returned (.bool true) ∧ Below w.heap.size w w' := by
  obtain ⟨kt, xt, at0, nt, ct, bt, mt, dt, et, pt, qt, rfl⟩ := hT.form
  obtain ⟨ku, xu, au, nu, cu, bu, mu, du, eu, pu, qu, rfl⟩ := hU.form
  obtain ⟨wA, hwA⟩ : ∃ wA, wA = (w.alloc (.cells #[.int .i64 kt, .bool xt, .slice at0 nt ct, .slice bt mt dt, .slice et pt qt] 26)).alloc (.cells #[.int .i64 ku, .bool xu, .slice au nu cu, .slice bu mu du, .slice eu pu qu] 26) := ⟨_, rfl⟩
  have hbA : Below w.heap.size w wA := by rw [hwA]; exact ((Below.refl _ _).alloc (Nat.le_refl _) _).alloc (by simp) _
  have hsA : wA.heap.size = w.heap.size + 1 + 1 := by rw [hwA]; simp
  have hB : BoxT2 w wA (.int .i64 kt) (.bool xt) (.slice at0 nt ct) (.slice bt mt dt) (.slice et pt qt) (.int .i64 ku) (.bool xu) (.slice au nu cu) (.slice bu mu du) (.slice eu pu qu) := by
    refine ⟨hbA, by omega, ?_, ?_⟩
    · rw [hwA]; exact (bx_new w _ _ _ _ _).kept ((Below.refl (w.heap.size + 1) _).alloc (by simp) _) (by omega)
    · rw [hwA]
      have := bx_new (w.alloc (.cells #[.int .i64 kt, .bool xt, .slice at0 nt ct, .slice bt mt dt, .slice et pt qt] 26)) (.int .i64 ku) (.bool xu) (.slice au nu cu) (.slice bu mu du) (.slice eu pu qu)
      simpa using this
  have HL := hide (And.intro hT hU)
  have HH1 := hide (heavy_any T lo hi _ wA (hT.kept hbA hhi) hF (by omega))
  have HFG := hide hG
  have HwA := hide hwA
  have HB := hide hB
  clear hwA hbA hT hU hF hG hB
  go_enter Try.func8, Try.ntmps8
  go_wp2_with fail
  rw [← unhide HwA]
  refine (unhide HH1).mono ?_
  rintro e w1 ⟨hb1, hans⟩
  have hs1 := hb1.size
  have HB1 := hide ((unhide HB).kept hb1 (by omega))
  clear hb1 HH1 HB HwA
  rcases hans with rfl | ⟨rfl, hwt⟩
  · go_wp2_with fail
    go_ret
    exact ⟨rfl, (unhide HB1).b⟩
  have HH2 := hide (heavy_any U lo hi _ w1 ((unhide HL).2.kept (unhide HB1).b hhi) (unhide HFG) (by omega))
  obtain ⟨y0, y1, y2, y3, y4⟩ := (unhide HB1).x.cells
  go_wp2_with fail
  refine (unhide HH2).mono ?_
  rintro e w2 ⟨hb2, hans⟩
  have hs2 := hb2.size
  have HB2 := hide ((unhide HB1).kept hb2 (by omega))
  clear hb2 HH2 HB1 y0 y1 y2 y3 y4
  rcases hans with rfl | ⟨rfl, hwu⟩
  · go_wp2_with fail
    go_ret
    exact ⟨rfl, (unhide HB2).b⟩
  have HE1 := hide (encode_any T lo hi _ w2 ((unhide HL).1.kept (unhide HB2).b hhi) hwt (by omega))
  obtain ⟨y0, y1, y2, y3, y4⟩ := (unhide HB2).t.cells
  go_wp2_with fail
  refine (unhide HE1).mono ?_
  rintro e w3 ⟨hb3, a3, c3, rfl, hr3⟩
  have hs3 := hb3.size
  have HB3 := hide ((unhide HB2).kept hb3 (by omega))
  have HE2 := hide (encode_any U lo hi _ w3 ((unhide HL).2.kept (unhide HB3).b hhi) hwu (by omega))
  have HR3 := hide hr3
  clear hb3 HE1 HB2 y0 y1 y2 y3 y4 hr3
  obtain ⟨y0, y1, y2, y3, y4⟩ := (unhide HB3).x.cells
  go_wp2_with fail
  refine (unhide HE2).mono ?_
  rintro e w4 ⟨hb4, a4, c4, he4, hr4⟩
  subst he4
  have hs4 := hb4.size
  have HB4 := hide ((unhide HB3).kept hb4 (by omega))
  have HR4 := hide (And.intro ((unhide HR3).below hb4 (Nat.le_refl _)) hr4)
  clear hb4 HE2 HB3 y0 y1 y2 y3 y4 hr4 HR3
  by_cases hc1 : (chk T 1 0).1 = 0
  case neg =>
    have hne := ne0 hc1
    clear hc1
    generalize (chk T 1 0).1 = c1 at *
    generalize (chk U 1 0).1 = c2 at *
    go_wp2_with fail
    refine (known_any _).mono ?_
    rintro e wk ⟨rfl, hbk⟩
    have hsk := hbk.size
    go_wp2_with fail
    go_ret
    exact ⟨rfl, (unhide HB4).b.trans (hbk.mono (by omega))⟩
  by_cases hc2 : (chk U 1 0).1 = 0
  case neg =>
    have hne := ne0 hc2
    rw [hc1]
    clear hc2 hc1
    generalize (chk U 1 0).1 = c2 at *
    go_wp2_with fail
    refine (known_any _).mono ?_
    rintro e wk ⟨rfl, hbk⟩
    have hsk := hbk.size
    go_wp2_with fail
    go_ret
    exact ⟨rfl, (unhide HB4).b.trans (hbk.mono (by omega))⟩
  have hiff := nar_one hc1 hc2 hwt hwu
  have hl1 := enc_len hwt
  have hl2 := enc_len hwu
  rw [hc1, hc2]
  have HS := hide (fun (W : World) (h : Below w4.heap.size w4 W) => same_any w2.heap.size w3.heap.size w3.heap.size w4.heap.size a3 a4 _ _ c3 c4 (encS T) (encS U) W ((unhide HR4).1.below h (by omega)) ((unhide HR4).2.below h (Nat.le_refl _)) rfl rfl (by omega) (by omega))
  have HQ := hide (fun (W : World) (h : Below w4.heap.size w4 W) => equal_any T U lo hi lo hi _ _ W (((unhide HL).1.kept (unhide HB4).b hhi).kept h (by omega)) (((unhide HL).2.kept (unhide HB4).b hhi).kept h (by omega)) (by omega) (by omega) (by have := h.size; omega) (by have := h.size; omega))
  have HK := hide (fun W => known_any W)
  have HI := hide hiff
  clear hc1 hc2 hiff
  generalize hsb : decide (encS T = encS U) = sb at *
  have Hsb := hide hsb
  clear hsb
  generalize (encS T).length = n1 at *
  generalize (encS U).length = n2 at *
  have hBt := (unhide HB4).t
  have hBu := (unhide HB4).x
  go_wp2_with fail
  refine wp_region_noPanic ?_
  refine wp_region_held_drew (S := fun w' => Bx w' w.heap.size (.int .i64 kt) (.bool xt) (.slice at0 nt ct) (.slice bt mt dt) (.slice et pt qt) ∧ Bx w' (w.heap.size + 1) (.int .i64 ku) (.bool xu) (.slice au nu cu) (.slice bu mu du) (.slice eu pu qu)) (by kernel_rfl) ⟨hBt, hBu⟩ (fun hHeld => ?_)
  refine wpAnyH_take (i := 0) (v := .slice a3 n1 c3) rfl (by kernel_rfl) (by kernel_rfl) (by kernel_rfl) (fun _ _ _ h => h) (Or.inl ⟨by rfl, ?_⟩) hHeld ?_
  · intro w' hS'; go_simp
  try simp only [Act.put, List.getElem_toArray, List.getElem_cons_zero, List.getElem_cons_succ, List.setIfInBounds_toArray, List.set_cons_zero, List.set_cons_succ]
  refine wpAnyH_take (i := 1) (v := .slice a4 n2 c4) rfl (by kernel_rfl) (by kernel_rfl) (by kernel_rfl) (fun _ _ _ h => h) (Or.inl ⟨by rfl, ?_⟩) hHeld ?_
  · intro w' hS'; go_simp
  try simp only [Act.put, List.getElem_toArray, List.getElem_cons_zero, List.getElem_cons_succ, List.setIfInBounds_toArray, List.set_cons_zero, List.set_cons_succ]
  refine wpAnyH_take (i := 3) (v := .agg #[.int .i64 kt, .bool xt, .slice at0 nt ct, .slice bt mt dt, .slice et pt qt]) rfl (by kernel_rfl) (by kernel_rfl) (by kernel_rfl) (fun _ _ _ h => h) (Or.inl ⟨by rfl, ?_⟩) hHeld ?_
  · intro w' hS'; obtain ⟨t0, t1, t2, t3, t4⟩ := hS'.1.cells; go_simp
  try simp only [Act.put, List.getElem_toArray, List.getElem_cons_zero, List.getElem_cons_succ, List.setIfInBounds_toArray, List.set_cons_zero, List.set_cons_succ]
  refine wpAnyH_take (i := 4) (v := .agg #[.int .i64 ku, .bool xu, .slice au nu cu, .slice bu mu du, .slice eu pu qu]) rfl (by kernel_rfl) (by kernel_rfl) (by kernel_rfl) (fun _ _ _ h => h) (Or.inl ⟨by rfl, ?_⟩) hHeld ?_
  · intro w' hS'; obtain ⟨t0, t1, t2, t3, t4⟩ := hS'.2.cells; go_simp
  try simp only [Act.put, List.getElem_toArray, List.getElem_cons_zero, List.getElem_cons_succ, List.setIfInBounds_toArray, List.set_cons_zero, List.set_cons_succ]
  refine wpAnyH_ready (rs := [2]) (by kernel_rfl) (by simp) (AllReadyH.cons rfl (fun K hK => ?_) AllReadyH.nil)
  simp only [List.getElem_toArray, List.getElem_cons_zero, List.getElem_cons_succ]
  go_simp
  refine (unhide HS _ (Below.refl w4.heap.size w4).drew).mono ?_
  rintro e w5 ⟨⟨q5, hq5⟩, rfl⟩
  have hbw5' : Below w4.heap.size w4 w5 := by rw [hq5]; exact below_drewN (Below.refl w4.heap.size w4).drew q5
  clear hq5
  have hsw5 := hbw5'.size
  refine hK.out _ _ ⟨hBt.kept hbw5' (by omega), hBu.kept hbw5' (by omega)⟩ (fun hHeld => ?_)
  clear hK K
  try simp only [Act.put, List.getElem_toArray, List.getElem_cons_zero, List.getElem_cons_succ, List.setIfInBounds_toArray, List.set_cons_zero, List.set_cons_succ]
  refine wpAnyH_ready (rs := [5]) (by kernel_rfl) (by simp) (AllReadyH.cons rfl (fun K hK => ?_) AllReadyH.nil)
  simp only [List.getElem_toArray, List.getElem_cons_zero, List.getElem_cons_succ]
  go_simp
  refine (unhide HQ _ hbw5').mono ?_
  rintro e w6 ⟨hb6, hans⟩
  have hbw6' : Below w4.heap.size w4 w6 := hbw5'.trans (hb6.mono hsw5)
  obtain rfl : e = .returned (.bool sb) := by
    rcases hans with ⟨h1, h2⟩ | ⟨h1, h2⟩
    · rw [h2, ← unhide Hsb, decide_eq_true ((unhide HI).2 h1)]
    · rw [h2, ← unhide Hsb, decide_eq_false (fun h => h1 ((unhide HI).1 h))]
  clear hb6 hans
  have hsw6 := hbw6'.size
  refine hK.out _ _ ⟨hBt.kept hbw6' (by omega), hBu.kept hbw6' (by omega)⟩ (fun hHeld => ?_)
  clear hK K
  try simp only [Act.put, List.getElem_toArray, List.getElem_cons_zero, List.getElem_cons_succ, List.setIfInBounds_toArray, List.set_cons_zero, List.set_cons_succ]
  refine wpAnyH_take (i := 6) (v := .bool true) rfl (by kernel_rfl) (by kernel_rfl) (by kernel_rfl) (fun _ _ _ h => h) (Or.inl ⟨by rfl, ?_⟩) hHeld ?_
  · intro w' hS'; go_simp
  try simp only [Act.put, List.getElem_toArray, List.getElem_cons_zero, List.getElem_cons_succ, List.setIfInBounds_toArray, List.set_cons_zero, List.set_cons_succ]
  refine wpAnyH_take (i := 7) (v := .bool true) rfl (by kernel_rfl) (by kernel_rfl) (by kernel_rfl) (fun _ _ _ h => h) (Or.inl ⟨by rfl, ?_⟩) hHeld ?_
  · intro w' hS'; go_simp
  try simp only [Act.put, List.getElem_toArray, List.getElem_cons_zero, List.getElem_cons_succ, List.setIfInBounds_toArray, List.set_cons_zero, List.set_cons_succ]
  refine wpAnyH_ready (rs := [8]) (by kernel_rfl) (by simp) (AllReadyH.cons rfl (fun K hK => ?_) AllReadyH.nil)
  simp only [List.getElem_toArray, List.getElem_cons_zero, List.getElem_cons_succ]
  go_simp
  refine (unhide HK _).mono ?_
  rintro e w7 ⟨rfl, hb7⟩
  have hbw7' : Below w4.heap.size w4 w7 := hbw6'.trans (hb7.mono hsw6)
  clear hb7
  have hsw7 := hbw7'.size
  refine hK.out _ _ ⟨hBt.kept hbw7' (by omega), hBu.kept hbw7' (by omega)⟩ (fun hHeld => ?_)
  clear hK K
  try simp only [Act.put, List.getElem_toArray, List.getElem_cons_zero, List.getElem_cons_succ, List.setIfInBounds_toArray, List.set_cons_zero, List.set_cons_succ]
  refine wpAnyH_take (i := 9) (v := .bool true) rfl (by kernel_rfl) (by kernel_rfl) (by kernel_rfl) (fun _ _ _ h => h) (Or.inl ⟨by rfl, ?_⟩) hHeld ?_
  · intro w' hS'; go_simp
  try simp only [Act.put, List.getElem_toArray, List.getElem_cons_zero, List.getElem_cons_succ, List.setIfInBounds_toArray, List.set_cons_zero, List.set_cons_succ]
  refine wpAnyH_take (i := 10) (v := .bool true) rfl (by kernel_rfl) (by kernel_rfl) (by kernel_rfl) (fun _ _ _ h => h) (Or.inl ⟨by rfl, ?_⟩) hHeld ?_
  · intro w' hS'; go_simp
  try simp only [Act.put, List.getElem_toArray, List.getElem_cons_zero, List.getElem_cons_succ, List.setIfInBounds_toArray, List.set_cons_zero, List.set_cons_succ]
  refine wpAnyH_done (by kernel_rfl) ?_ _
  refine NoPanic.normal ?_
  clear hHeld
  go_wp2_with fail
  go_ret
  exact ⟨rfl, (unhide HB4).b.trans (hbw7'.mono (by omega))⟩
end Go.Proofs.Ytikamklgelcnhaa
