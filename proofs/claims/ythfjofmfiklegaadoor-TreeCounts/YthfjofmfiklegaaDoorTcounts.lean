/- TreeCounts, in the code. -/
import Derived.Test.YthfjofmfiklegaaDoorElse
import Derived.Test.YthfjofmfiklegaaDoorRefFiles
import Derived.Test.YthfjofmfiklegaaDoorSames
import Derived.Test.YthfjofmfiklegaaDoorCounts
import Derived.Test.YthfjofmfiklegaaDoorRcounts
namespace Go.Proofs.YthfjofmfiklegaaDoor
open Go.RowKit
set_option linter.unusedSimpArgs false
theorem filesS_len (T : Tr) : (filesS T).length ≤ wt T := by
  unfold filesS
  split
  · rw [sortB_length]; exact filesL_len T _
  · simp
theorem sameB_self (T : Tr) : sameB T T = decide ((chk T 1 0).1 = 0) := by
  by_cases h : (chk T 1 0).1 = 0
  · rw [decide_eq_true h]; exact sameB_yes ⟨h, h, rfl⟩
  · rw [decide_eq_false h]; exact sameB_no (fun k => h k.1)
set_option maxRecDepth 20000 in
set_option maxHeartbeats 8000000 in
theorem tcounts_any (T U : Tr) (lo hi : Nat) (ct cu : List Value) (w : World) (hT : Lies lo hi w T ct) (hU : Lies lo hi w U cu) (hhi : hi ≤ w.heap.size) (hF : Fit T) (hG : Fit U) :
    Calls Tryd.prog 4 #[.agg ct.toArray, .agg cu.toArray] w fun e w' => e = .returned (.bool true) ∧ Below w.heap.size w w' := by
  obtain ⟨kt, xt, at0, nt, ct, bt, mt, dt, et, pt, qt, rfl⟩ := hT.form
  obtain ⟨ku, xu, au, nu, cu, bu, mu, du, eu, pu, qu, rfl⟩ := hU.form
  obtain ⟨wA, hwA⟩ : ∃ wA, wA = ((w.alloc (.cells #[.int .i64 kt, .bool xt, .slice at0 nt ct, .slice bt mt dt, .slice et pt qt] 26)).alloc (.cells #[.int .i64 ku, .bool xu, .slice au nu cu, .slice bu mu du, .slice eu pu qu] 26)).alloc (.cells #[.int .i64 kt, .bool xt, .slice at0 nt ct, .slice bt mt dt, .slice et pt qt, .int .i64 ku, .bool xu, .slice au nu cu, .slice bu mu du, .slice eu pu qu] 26) := ⟨_, rfl⟩
  have hbA : Below w.heap.size w wA := by rw [hwA]; exact (((Below.refl _ _).alloc (Nat.le_refl _) _).alloc (by simp) _).alloc (by simp; omega) _
  have hsA : wA.heap.size = w.heap.size + 1 + 1 + 1 := by rw [hwA]; simp
  have hB : BoxTU w wA (.int .i64 kt) (.bool xt) (.slice at0 nt ct) (.slice bt mt dt) (.slice et pt qt) (.int .i64 ku) (.bool xu) (.slice au nu cu) (.slice bu mu du) (.slice eu pu qu) := by
    refine ⟨hbA, by omega, ?_, ?_⟩
    · rw [hwA]; exact (bx_new w _ _ _ _ _).kept (((Below.refl (w.heap.size + 1) _).alloc (by simp) _).alloc (by simp) _) (by omega)
    · rw [hwA]
      have := (bx_new (w.alloc (.cells #[.int .i64 kt, .bool xt, .slice at0 nt ct, .slice bt mt dt, .slice et pt qt] 26)) (.int .i64 ku) (.bool xu) (.slice au nu cu) (.slice bu mu du) (.slice eu pu qu)).kept ((Below.refl (w.heap.size + 1 + 1) _).alloc (by simp) (.cells #[.int .i64 kt, .bool xt, .slice at0 nt ct, .slice bt mt dt, .slice et pt qt, .int .i64 ku, .bool xu, .slice au nu cu, .slice bu mu du, .slice eu pu qu] 26)) (by simp)
      simpa using this
  have hby : wA.heap[w.heap.size + 1 + 1]? = some (.cells #[.int .i64 kt, .bool xt, .slice at0 nt ct, .slice bt mt dt, .slice et pt qt, .int .i64 ku, .bool xu, .slice au nu cu, .slice bu mu du, .slice eu pu qu] 26) := by
    rw [hwA]
    show (((w.heap.push _).push _).push _)[w.heap.size + 1 + 1]? = _
    rw [Array.getElem?_push, if_pos (by simp)]
  have HH := hide (heavy2 T U lo hi (w.heap.size + 1 + 1) _ _ _ _ _ _ _ _ _ _ wA (hT.kept hbA hhi) (hU.kept hbA hhi) (by omega) hF hG hby)
  have HL := hide (And.intro hT hU)
  have HwA := hide hwA
  have HB := hide hB
  clear hwA hbA hby hT hU hF hG hB
  go_enter Tryd.func4, Tryd.ntmps4
  go_wp2_with fail
  rw [← unhide HwA]
  refine (unhide HH).mono ?_
  rintro e w1 ⟨hb1, hans⟩
  have hs1 := hb1.size
  have HB1 := hide ((unhide HB).kept hb1 (by omega))
  clear hb1 HH HB HwA
  rcases hans with rfl | ⟨rfl, hwt⟩
  · go_wp2_with fail
    go_ret
    exact ⟨rfl, (unhide HB1).b⟩
  have HCt := hide (counts_any T lo hi _ w1 ((unhide HL).1.kept (unhide HB1).b hhi) (by omega) (by omega))
  have HCr := hide (fun (W : World) (h : Below w1.heap.size w1 W) => rcounts_any T lo hi _ W (((unhide HL).1.kept (unhide HB1).b hhi).kept h (by omega)) (by omega) (by have := h.size; omega))
  generalize (countS T).1 = n1 at *
  generalize (countS T).2 = n2 at *
  obtain ⟨y0, y1, y2, y3, y4⟩ := (unhide HB1).t.cells
  go_wp2_with fail
  refine (unhide HCt).mono ?_
  rintro e w2 ⟨rfl, hb2⟩
  have hs2 := hb2.size
  have HB2 := hide ((unhide HB1).kept hb2 (by omega))
  have Hb2 := hide hb2
  clear hb2 HCt HB1 y0 y1 y2 y3 y4
  obtain ⟨y0, y1, y2, y3, y4⟩ := (unhide HB2).t.cells
  go_wp2_with fail
  refine (unhide HCr w2 (unhide Hb2)).mono ?_
  rintro e w3 ⟨rfl, hb3⟩
  have hs3 := hb3.size
  have HB3 := hide ((unhide HB2).kept hb3 (by omega))
  clear hb3 HCr HB2 y0 y1 y2 y3 y4
  have hLt := (unhide HL).1.kept (unhide HB3).b hhi
  have hLu := (unhide HL).2.kept (unhide HB3).b hhi
  have HNF0 := filesS_len T
  have HF1 := hide (fun (W : World) (h : Below w3.heap.size w3 W) => files_any T lo hi _ W (hLt.kept h (by omega)) (by omega) (by have := h.size; omega))
  have HF2 := hide (fun (W : World) (h : Below w3.heap.size w3 W) => refFiles_any T lo hi _ W (hLt.kept h (by omega)) (by omega) (by have := h.size; omega))
  have HS1 := hide (fun (W : World) (h : Below w3.heap.size w3 W) => sames_any T U lo hi lo hi _ _ W (hLt.kept h (by omega)) (hLu.kept h (by omega)) (by omega) (by omega) (by have := h.size; omega) (by have := h.size; omega))
  have HS2 := hide (fun (W : World) (h : Below w3.heap.size w3 W) => rsames_any T U lo hi lo hi _ _ W (hLt.kept h (by omega)) (hLu.kept h (by omega)) (by omega) (by omega) (by have := h.size; omega) (by have := h.size; omega))
  have HS3 := hide (fun (W : World) (h : Below w3.heap.size w3 W) => sames_any T T lo hi lo hi _ _ W (hLt.kept h (by omega)) (hLt.kept h (by omega)) (by omega) (by omega) (by have := h.size; omega) (by have := h.size; omega))
  have HC := hide (fun (W : World) (h : Below w3.heap.size w3 W) => checkR_any T lo hi _ W (hLt.kept h (by omega)) (by omega) (by have := h.size; omega))
  have HK := hide (fun W => known_any W)
  rw [sameB_self] at HS3
  obtain ⟨NF, hNF⟩ : ∃ NF, (filesS T).length = NF := ⟨_, rfl⟩
  rw [hNF] at HF1 HF2 HNF0
  have HNF : Hid ((filesS T).length = NF ∧ NF ≤ 1000000) := ⟨hNF, by omega⟩
  have hcz : (((chk T 1 0).1 : Int) == 0) = decide ((chk T 1 0).1 = 0) := by
    by_cases h : (chk T 1 0).1 = 0
    · rw [decide_eq_true h, h]; rfl
    · rw [decide_eq_false h]; exact ne0 h
  generalize hfs : filesS T = fs at *
  clear hfs hNF HNF0 hLt hLu
  generalize sameB T U = su at *
  generalize decide ((chk T 1 0).1 = 0) = sb at *
  generalize (chk T 1 0).1 = cn at *
  have hBt := (unhide HB3).t
  have hBu := (unhide HB3).x
  obtain ⟨y0, y1, y2, y3, y4⟩ := hBt.cells
  go_wp2_with fail
  clear y0 y1 y2 y3 y4
  refine wp_region_noPanic ?_
  refine wp_region_held_drew (S := fun w' => Bx w' w.heap.size (.int .i64 kt) (.bool xt) (.slice at0 nt ct) (.slice bt mt dt) (.slice et pt qt) ∧ Bx w' (w.heap.size + 1) (.int .i64 ku) (.bool xu) (.slice au nu cu) (.slice bu mu du) (.slice eu pu qu)) (by kernel_rfl) ⟨hBt, hBu⟩ (fun hHeld => ?_)
  refine wpAnyH_take (i := 0) (v := .int .i64 (n1 : Int)) rfl (by kernel_rfl) (by kernel_rfl) (by kernel_rfl) (fun _ _ _ h => h) (Or.inl ⟨by rfl, ?_⟩) hHeld ?_
  · intro w' hS'; go_simp
  try simp only [Act.put, List.getElem_toArray, List.getElem_cons_zero, List.getElem_cons_succ, List.setIfInBounds_toArray, List.set_cons_zero, List.set_cons_succ]
  refine wpAnyH_take (i := 1) (v := .int .i64 (n1 : Int)) rfl (by kernel_rfl) (by kernel_rfl) (by kernel_rfl) (fun _ _ _ h => h) (Or.inl ⟨by rfl, ?_⟩) hHeld ?_
  · intro w' hS'; go_simp
  try simp only [Act.put, List.getElem_toArray, List.getElem_cons_zero, List.getElem_cons_succ, List.setIfInBounds_toArray, List.set_cons_zero, List.set_cons_succ]
  refine wpAnyH_take (i := 2) (v := .bool true) rfl (by kernel_rfl) (by kernel_rfl) (by kernel_rfl) (fun _ _ _ h => h) (Or.inl ⟨by rfl, ?_⟩) hHeld ?_
  · intro w' hS'; go_simp
  try simp only [Act.put, List.getElem_toArray, List.getElem_cons_zero, List.getElem_cons_succ, List.setIfInBounds_toArray, List.set_cons_zero, List.set_cons_succ]
  refine wpAnyH_take (i := 3) (v := .bool true) rfl (by kernel_rfl) (by kernel_rfl) (by kernel_rfl) (fun _ _ _ h => h) (Or.inl ⟨by rfl, ?_⟩) hHeld ?_
  · intro w' hS'; go_simp
  try simp only [Act.put, List.getElem_toArray, List.getElem_cons_zero, List.getElem_cons_succ, List.setIfInBounds_toArray, List.set_cons_zero, List.set_cons_succ]
  refine wpAnyH_take (i := 4) (v := .int .i64 (n2 : Int)) rfl (by kernel_rfl) (by kernel_rfl) (by kernel_rfl) (fun _ _ _ h => h) (Or.inl ⟨by rfl, ?_⟩) hHeld ?_
  · intro w' hS'; go_simp
  try simp only [Act.put, List.getElem_toArray, List.getElem_cons_zero, List.getElem_cons_succ, List.setIfInBounds_toArray, List.set_cons_zero, List.set_cons_succ]
  refine wpAnyH_take (i := 5) (v := .int .i64 (n2 : Int)) rfl (by kernel_rfl) (by kernel_rfl) (by kernel_rfl) (fun _ _ _ h => h) (Or.inl ⟨by rfl, ?_⟩) hHeld ?_
  · intro w' hS'; go_simp
  try simp only [Act.put, List.getElem_toArray, List.getElem_cons_zero, List.getElem_cons_succ, List.setIfInBounds_toArray, List.set_cons_zero, List.set_cons_succ]
  refine wpAnyH_take (i := 6) (v := .bool true) rfl (by kernel_rfl) (by kernel_rfl) (by kernel_rfl) (fun _ _ _ h => h) (Or.inl ⟨by rfl, ?_⟩) hHeld ?_
  · intro w' hS'; go_simp
  try simp only [Act.put, List.getElem_toArray, List.getElem_cons_zero, List.getElem_cons_succ, List.setIfInBounds_toArray, List.set_cons_zero, List.set_cons_succ]
  refine wpAnyH_take (i := 7) (v := .bool true) rfl (by kernel_rfl) (by kernel_rfl) (by kernel_rfl) (fun _ _ _ h => h) (Or.inl ⟨by rfl, ?_⟩) hHeld ?_
  · intro w' hS'; go_simp
  try simp only [Act.put, List.getElem_toArray, List.getElem_cons_zero, List.getElem_cons_succ, List.setIfInBounds_toArray, List.set_cons_zero, List.set_cons_succ]
  refine wpAnyH_take (i := 8) (v := .bool true) rfl (by kernel_rfl) (by kernel_rfl) (by kernel_rfl) (fun _ _ _ h => h) (Or.inl ⟨by rfl, ?_⟩) hHeld ?_
  · intro w' hS'; go_simp
  try simp only [Act.put, List.getElem_toArray, List.getElem_cons_zero, List.getElem_cons_succ, List.setIfInBounds_toArray, List.set_cons_zero, List.set_cons_succ]
  refine wpAnyH_take (i := 9) (v := .agg #[.int .i64 kt, .bool xt, .slice at0 nt ct, .slice bt mt dt, .slice et pt qt]) rfl (by kernel_rfl) (by kernel_rfl) (by kernel_rfl) (fun _ _ _ h => h) (Or.inl ⟨by rfl, ?_⟩) hHeld ?_
  · intro w' hS'; obtain ⟨t0, t1, t2, t3, t4⟩ := hS'.1.cells; go_simp
  try simp only [Act.put, List.getElem_toArray, List.getElem_cons_zero, List.getElem_cons_succ, List.setIfInBounds_toArray, List.set_cons_zero, List.set_cons_succ]
  refine wpAnyH_take (i := 11) (v := .agg #[.int .i64 kt, .bool xt, .slice at0 nt ct, .slice bt mt dt, .slice et pt qt]) rfl (by kernel_rfl) (by kernel_rfl) (by kernel_rfl) (fun _ _ _ h => h) (Or.inl ⟨by rfl, ?_⟩) hHeld ?_
  · intro w' hS'; obtain ⟨t0, t1, t2, t3, t4⟩ := hS'.1.cells; go_simp
  try simp only [Act.put, List.getElem_toArray, List.getElem_cons_zero, List.getElem_cons_succ, List.setIfInBounds_toArray, List.set_cons_zero, List.set_cons_succ]
  refine wpAnyH_ready (rs := [10]) (by kernel_rfl) (by simp) (AllReadyH.cons rfl (fun K hK => ?_) AllReadyH.nil)
  simp only [List.getElem_toArray, List.getElem_cons_zero, List.getElem_cons_succ]
  go_simp
  refine (unhide HF1 _ (Below.refl w3.heap.size w3).drew).mono ?_
  rintro e w4 ⟨hb4, a4, c4, rfl, hR4⟩
  have hbw4' : Below w3.heap.size w3 w4 := below_drew' hb4
  have HR4 : Hid (Row w3.heap.size w4.heap.size w4 (.slice a4 NF c4) NF (fs.map .string)) := hR4
  clear hb4 hR4
  have hsw4 := hbw4'.size
  refine hK.out _ _ ⟨hBt.kept hbw4' (by omega), hBu.kept hbw4' (by omega)⟩ (fun hHeld => ?_)
  clear hK K
  try simp only [Act.put, List.getElem_toArray, List.getElem_cons_zero, List.getElem_cons_succ, List.setIfInBounds_toArray, List.set_cons_zero, List.set_cons_succ]
  refine wpAnyH_ready (rs := [12]) (by kernel_rfl) (by simp) (AllReadyH.cons rfl (fun K hK => ?_) AllReadyH.nil)
  simp only [List.getElem_toArray, List.getElem_cons_zero, List.getElem_cons_succ]
  go_simp
  refine (unhide HF2 _ hbw4').mono ?_
  rintro e w5 ⟨hb5, a5, c5, rfl, hR5⟩
  have hbw5' : Below w3.heap.size w3 w5 := hbw4'.trans (hb5.mono hsw4)
  have HR5 : Hid (Row w3.heap.size w4.heap.size w5 (.slice a4 NF c4) NF (fs.map .string) ∧ Row w4.heap.size w5.heap.size w5 (.slice a5 NF c5) NF (fs.map .string)) := ⟨(unhide HR4).below hb5 (Nat.le_refl _), hR5⟩
  clear hb5 hR5 HR4
  have hsw5 := hbw5'.size
  refine hK.out _ _ ⟨hBt.kept hbw5' (by omega), hBu.kept hbw5' (by omega)⟩ (fun hHeld => ?_)
  clear hK K
  try simp only [Act.put, List.getElem_toArray, List.getElem_cons_zero, List.getElem_cons_succ, List.setIfInBounds_toArray, List.set_cons_zero, List.set_cons_succ]
  refine wpAnyH_ready (rs := [13]) (by kernel_rfl) (by simp) (AllReadyH.cons rfl (fun K hK => ?_) AllReadyH.nil)
  simp only [List.getElem_toArray, List.getElem_cons_zero, List.getElem_cons_succ]
  go_simp
  refine (texts_any w3.heap.size w4.heap.size w4.heap.size w5.heap.size a4 a5 NF NF c4 c5 fs fs w5 (unhide HR5).1 (unhide HR5).2 (unhide HNF).1 (unhide HNF).1 (unhide HNF).2 (unhide HNF).2).mono ?_
  rintro e w6 ⟨⟨q6, hq6⟩, rfl⟩
  rw [decide_eq_true rfl]
  have hbw6' : Below w3.heap.size w3 w6 := by rw [hq6]; exact below_drewN hbw5' q6
  clear hq6 HR5
  have hsw6 := hbw6'.size
  refine hK.out _ _ ⟨hBt.kept hbw6' (by omega), hBu.kept hbw6' (by omega)⟩ (fun hHeld => ?_)
  clear hK K
  try simp only [Act.put, List.getElem_toArray, List.getElem_cons_zero, List.getElem_cons_succ, List.setIfInBounds_toArray, List.set_cons_zero, List.set_cons_succ]
  refine wpAnyH_take (i := 14) (v := .bool true) rfl (by kernel_rfl) (by kernel_rfl) (by kernel_rfl) (fun _ _ _ h => h) (Or.inl ⟨by rfl, ?_⟩) hHeld ?_
  · intro w' hS'; go_simp
  try simp only [Act.put, List.getElem_toArray, List.getElem_cons_zero, List.getElem_cons_succ, List.setIfInBounds_toArray, List.set_cons_zero, List.set_cons_succ]
  refine wpAnyH_take (i := 15) (v := .bool true) rfl (by kernel_rfl) (by kernel_rfl) (by kernel_rfl) (fun _ _ _ h => h) (Or.inl ⟨by rfl, ?_⟩) hHeld ?_
  · intro w' hS'; go_simp
  try simp only [Act.put, List.getElem_toArray, List.getElem_cons_zero, List.getElem_cons_succ, List.setIfInBounds_toArray, List.set_cons_zero, List.set_cons_succ]
  refine wpAnyH_take (i := 16) (v := .agg #[.int .i64 kt, .bool xt, .slice at0 nt ct, .slice bt mt dt, .slice et pt qt]) rfl (by kernel_rfl) (by kernel_rfl) (by kernel_rfl) (fun _ _ _ h => h) (Or.inl ⟨by rfl, ?_⟩) hHeld ?_
  · intro w' hS'; obtain ⟨t0, t1, t2, t3, t4⟩ := hS'.1.cells; go_simp
  try simp only [Act.put, List.getElem_toArray, List.getElem_cons_zero, List.getElem_cons_succ, List.setIfInBounds_toArray, List.set_cons_zero, List.set_cons_succ]
  refine wpAnyH_take (i := 17) (v := .agg #[.int .i64 ku, .bool xu, .slice au nu cu, .slice bu mu du, .slice eu pu qu]) rfl (by kernel_rfl) (by kernel_rfl) (by kernel_rfl) (fun _ _ _ h => h) (Or.inl ⟨by rfl, ?_⟩) hHeld ?_
  · intro w' hS'; obtain ⟨t0, t1, t2, t3, t4⟩ := hS'.2.cells; go_simp
  try simp only [Act.put, List.getElem_toArray, List.getElem_cons_zero, List.getElem_cons_succ, List.setIfInBounds_toArray, List.set_cons_zero, List.set_cons_succ]
  refine wpAnyH_take (i := 19) (v := .agg #[.int .i64 kt, .bool xt, .slice at0 nt ct, .slice bt mt dt, .slice et pt qt]) rfl (by kernel_rfl) (by kernel_rfl) (by kernel_rfl) (fun _ _ _ h => h) (Or.inl ⟨by rfl, ?_⟩) hHeld ?_
  · intro w' hS'; obtain ⟨t0, t1, t2, t3, t4⟩ := hS'.1.cells; go_simp
  try simp only [Act.put, List.getElem_toArray, List.getElem_cons_zero, List.getElem_cons_succ, List.setIfInBounds_toArray, List.set_cons_zero, List.set_cons_succ]
  refine wpAnyH_take (i := 20) (v := .agg #[.int .i64 ku, .bool xu, .slice au nu cu, .slice bu mu du, .slice eu pu qu]) rfl (by kernel_rfl) (by kernel_rfl) (by kernel_rfl) (fun _ _ _ h => h) (Or.inl ⟨by rfl, ?_⟩) hHeld ?_
  · intro w' hS'; obtain ⟨t0, t1, t2, t3, t4⟩ := hS'.2.cells; go_simp
  try simp only [Act.put, List.getElem_toArray, List.getElem_cons_zero, List.getElem_cons_succ, List.setIfInBounds_toArray, List.set_cons_zero, List.set_cons_succ]
  refine wpAnyH_ready (rs := [18]) (by kernel_rfl) (by simp) (AllReadyH.cons rfl (fun K hK => ?_) AllReadyH.nil)
  simp only [List.getElem_toArray, List.getElem_cons_zero, List.getElem_cons_succ]
  go_simp
  refine (unhide HS1 _ hbw6').mono ?_
  rintro e w7 ⟨hb7, rfl⟩
  have hbw7' : Below w3.heap.size w3 w7 := hbw6'.trans (hb7.mono hsw6)
  clear hb7
  have hsw7 := hbw7'.size
  refine hK.out _ _ ⟨hBt.kept hbw7' (by omega), hBu.kept hbw7' (by omega)⟩ (fun hHeld => ?_)
  clear hK K
  try simp only [Act.put, List.getElem_toArray, List.getElem_cons_zero, List.getElem_cons_succ, List.setIfInBounds_toArray, List.set_cons_zero, List.set_cons_succ]
  refine wpAnyH_ready (rs := [21]) (by kernel_rfl) (by simp) (AllReadyH.cons rfl (fun K hK => ?_) AllReadyH.nil)
  simp only [List.getElem_toArray, List.getElem_cons_zero, List.getElem_cons_succ]
  go_simp
  refine (unhide HS2 _ hbw7').mono ?_
  rintro e w8 ⟨hb8, rfl⟩
  have hbw8' : Below w3.heap.size w3 w8 := hbw7'.trans (hb8.mono hsw7)
  clear hb8
  have hsw8 := hbw8'.size
  refine hK.out _ _ ⟨hBt.kept hbw8' (by omega), hBu.kept hbw8' (by omega)⟩ (fun hHeld => ?_)
  clear hK K
  try simp only [Act.put, List.getElem_toArray, List.getElem_cons_zero, List.getElem_cons_succ, List.setIfInBounds_toArray, List.set_cons_zero, List.set_cons_succ]
  refine wpAnyH_take (i := 22) (v := .bool true) rfl (by kernel_rfl) (by kernel_rfl) (by kernel_rfl) (fun _ _ _ h => h) (Or.inl ⟨by rfl, ?_⟩) hHeld ?_
  · intro w' hS'; go_simp
  try simp only [Act.put, List.getElem_toArray, List.getElem_cons_zero, List.getElem_cons_succ, List.setIfInBounds_toArray, List.set_cons_zero, List.set_cons_succ]
  refine wpAnyH_take (i := 23) (v := .bool true) rfl (by kernel_rfl) (by kernel_rfl) (by kernel_rfl) (fun _ _ _ h => h) (Or.inl ⟨by rfl, ?_⟩) hHeld ?_
  · intro w' hS'; go_simp
  try simp only [Act.put, List.getElem_toArray, List.getElem_cons_zero, List.getElem_cons_succ, List.setIfInBounds_toArray, List.set_cons_zero, List.set_cons_succ]
  refine wpAnyH_take (i := 24) (v := .bool true) rfl (by kernel_rfl) (by kernel_rfl) (by kernel_rfl) (fun _ _ _ h => h) (Or.inl ⟨by rfl, ?_⟩) hHeld ?_
  · intro w' hS'; go_simp
  try simp only [Act.put, List.getElem_toArray, List.getElem_cons_zero, List.getElem_cons_succ, List.setIfInBounds_toArray, List.set_cons_zero, List.set_cons_succ]
  refine wpAnyH_take (i := 25) (v := .agg #[.int .i64 kt, .bool xt, .slice at0 nt ct, .slice bt mt dt, .slice et pt qt]) rfl (by kernel_rfl) (by kernel_rfl) (by kernel_rfl) (fun _ _ _ h => h) (Or.inl ⟨by rfl, ?_⟩) hHeld ?_
  · intro w' hS'; obtain ⟨t0, t1, t2, t3, t4⟩ := hS'.1.cells; go_simp
  try simp only [Act.put, List.getElem_toArray, List.getElem_cons_zero, List.getElem_cons_succ, List.setIfInBounds_toArray, List.set_cons_zero, List.set_cons_succ]
  refine wpAnyH_take (i := 26) (v := .agg #[.int .i64 kt, .bool xt, .slice at0 nt ct, .slice bt mt dt, .slice et pt qt]) rfl (by kernel_rfl) (by kernel_rfl) (by kernel_rfl) (fun _ _ _ h => h) (Or.inl ⟨by rfl, ?_⟩) hHeld ?_
  · intro w' hS'; obtain ⟨t0, t1, t2, t3, t4⟩ := hS'.1.cells; go_simp
  try simp only [Act.put, List.getElem_toArray, List.getElem_cons_zero, List.getElem_cons_succ, List.setIfInBounds_toArray, List.set_cons_zero, List.set_cons_succ]
  refine wpAnyH_take (i := 28) (v := .agg #[.int .i64 kt, .bool xt, .slice at0 nt ct, .slice bt mt dt, .slice et pt qt]) rfl (by kernel_rfl) (by kernel_rfl) (by kernel_rfl) (fun _ _ _ h => h) (Or.inl ⟨by rfl, ?_⟩) hHeld ?_
  · intro w' hS'; obtain ⟨t0, t1, t2, t3, t4⟩ := hS'.1.cells; go_simp
  try simp only [Act.put, List.getElem_toArray, List.getElem_cons_zero, List.getElem_cons_succ, List.setIfInBounds_toArray, List.set_cons_zero, List.set_cons_succ]
  refine wpAnyH_ready (rs := [27]) (by kernel_rfl) (by simp) (AllReadyH.cons rfl (fun K hK => ?_) AllReadyH.nil)
  simp only [List.getElem_toArray, List.getElem_cons_zero, List.getElem_cons_succ]
  go_simp
  refine (unhide HS3 _ hbw8').mono ?_
  rintro e w9 ⟨hb9, rfl⟩
  have hbw9' : Below w3.heap.size w3 w9 := hbw8'.trans (hb9.mono hsw8)
  clear hb9
  have hsw9 := hbw9'.size
  refine hK.out _ _ ⟨hBt.kept hbw9' (by omega), hBu.kept hbw9' (by omega)⟩ (fun hHeld => ?_)
  clear hK K
  try simp only [Act.put, List.getElem_toArray, List.getElem_cons_zero, List.getElem_cons_succ, List.setIfInBounds_toArray, List.set_cons_zero, List.set_cons_succ]
  refine wpAnyH_ready (rs := [29]) (by kernel_rfl) (by simp) (AllReadyH.cons rfl (fun K hK => ?_) AllReadyH.nil)
  simp only [List.getElem_toArray, List.getElem_cons_zero, List.getElem_cons_succ]
  go_simp
  refine (unhide HC _ hbw9').mono ?_
  rintro e w10 ⟨rfl, hb10⟩
  have hbw10' : Below w3.heap.size w3 w10 := hbw9'.trans (hb10.mono hsw9)
  clear hb10
  have hsw10 := hbw10'.size
  refine hK.out _ _ ⟨hBt.kept hbw10' (by omega), hBu.kept hbw10' (by omega)⟩ (fun hHeld => ?_)
  clear hK K
  try simp only [Act.put, List.getElem_toArray, List.getElem_cons_zero, List.getElem_cons_succ, List.setIfInBounds_toArray, List.set_cons_zero, List.set_cons_succ]
  refine wpAnyH_take (i := 30) (v := .bool sb) rfl (by kernel_rfl) (by kernel_rfl) (by kernel_rfl) (fun _ _ _ h => h) (Or.inl ⟨by rfl, ?_⟩) hHeld ?_
  · intro w' hS'; go_simp
  try simp only [Act.put, List.getElem_toArray, List.getElem_cons_zero, List.getElem_cons_succ, List.setIfInBounds_toArray, List.set_cons_zero, List.set_cons_succ]
  refine wpAnyH_take (i := 31) (v := .bool true) rfl (by kernel_rfl) (by kernel_rfl) (by kernel_rfl) (fun _ _ _ h => h) (Or.inl ⟨by rfl, ?_⟩) hHeld ?_
  · intro w' hS'; go_simp
  try simp only [Act.put, List.getElem_toArray, List.getElem_cons_zero, List.getElem_cons_succ, List.setIfInBounds_toArray, List.set_cons_zero, List.set_cons_succ]
  refine wpAnyH_take (i := 32) (v := .bool true) rfl (by kernel_rfl) (by kernel_rfl) (by kernel_rfl) (fun _ _ _ h => h) (Or.inl ⟨by rfl, ?_⟩) hHeld ?_
  · intro w' hS'; go_simp
  try simp only [Act.put, List.getElem_toArray, List.getElem_cons_zero, List.getElem_cons_succ, List.setIfInBounds_toArray, List.set_cons_zero, List.set_cons_succ]
  refine wpAnyH_take (i := 33) (v := .bool true) rfl (by kernel_rfl) (by kernel_rfl) (by kernel_rfl) (fun _ _ _ h => h) (Or.inl ⟨by rfl, ?_⟩) hHeld ?_
  · intro w' hS'; go_simp
  try simp only [Act.put, List.getElem_toArray, List.getElem_cons_zero, List.getElem_cons_succ, List.setIfInBounds_toArray, List.set_cons_zero, List.set_cons_succ]
  refine wpAnyH_ready (rs := [34]) (by kernel_rfl) (by simp) (AllReadyH.cons rfl (fun K hK => ?_) AllReadyH.nil)
  simp only [List.getElem_toArray, List.getElem_cons_zero, List.getElem_cons_succ]
  go_simp
  refine (unhide HK _).mono ?_
  rintro e w11 ⟨rfl, hb11⟩
  have hbw11' : Below w3.heap.size w3 w11 := hbw10'.trans (hb11.mono hsw10)
  clear hb11
  have hsw11 := hbw11'.size
  refine hK.out _ _ ⟨hBt.kept hbw11' (by omega), hBu.kept hbw11' (by omega)⟩ (fun hHeld => ?_)
  clear hK K
  try simp only [Act.put, List.getElem_toArray, List.getElem_cons_zero, List.getElem_cons_succ, List.setIfInBounds_toArray, List.set_cons_zero, List.set_cons_succ]
  refine wpAnyH_take (i := 35) (v := .bool true) rfl (by kernel_rfl) (by kernel_rfl) (by kernel_rfl) (fun _ _ _ h => h) (Or.inl ⟨by rfl, ?_⟩) hHeld ?_
  · intro w' hS'; go_simp
  try simp only [Act.put, List.getElem_toArray, List.getElem_cons_zero, List.getElem_cons_succ, List.setIfInBounds_toArray, List.set_cons_zero, List.set_cons_succ]
  refine wpAnyH_take (i := 36) (v := .bool true) rfl (by kernel_rfl) (by kernel_rfl) (by kernel_rfl) (fun _ _ _ h => h) (Or.inl ⟨by rfl, ?_⟩) hHeld ?_
  · intro w' hS'; go_simp
  try simp only [Act.put, List.getElem_toArray, List.getElem_cons_zero, List.getElem_cons_succ, List.setIfInBounds_toArray, List.set_cons_zero, List.set_cons_succ]
  refine wpAnyH_done (by kernel_rfl) ?_ _
  refine NoPanic.normal ?_
  clear hHeld
  go_wp2_with fail
  go_ret
  exact ⟨rfl, (unhide HB3).b.trans (hbw11'.mono (by omega))⟩
end Go.Proofs.YthfjofmfiklegaaDoor
