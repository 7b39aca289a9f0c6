/- Put, in the document's own answer. -/
import Derived.Test.YthfjofmfiklegaaDoorRput
import Derived.Test.YthfjofmfiklegaaDoorK5
import Derived.Test.YthfjofmfiklegaaDoorElse
namespace Go.Proofs.YthfjofmfiklegaaDoor
open Go.RowKit
set_option linter.unusedSimpArgs false
/-- What stands behind the document's put. -/
structure PutF (w : World) (T X : Tr) (l : List ByteArray) (by' : Nat) (W : World) (t0 t1 t2 t3 t4 x0 x1 x2 x3 x4 : Value) (rs : List Value) : Prop where
  b : Box3 w W t0 t1 t2 t3 t4 x0 x1 x2 x3 x4
  y : ∃ v0 v1 v2 v3 v4, rs = [v0, v1, v2, v3, v4] ∧ Bx W by' v0 v1 v2 v3 v4
  lo : w.heap.size + 1 + 1 + 1 ≤ by'
  hi : by' < W.heap.size
  tree : ∀ W' : World, (∀ k, k < W.heap.size → k ≠ w.heap.size + 1 + 1 → W'.heap[k]? = W.heap[k]?) → Lies 0 W.heap.size W' (putR T l X).1 rs
set_option maxRecDepth 20000 in
set_option maxHeartbeats 16000000 in
theorem refPut_any (T X : Tr) (s : ByteArray) (lo hi lo' hi' : Nat) (cs cx : List Value) (w : World) (hL : Lies lo hi w T cs) (hX : Lies lo' hi' w X cx) (hhi : hi ≤ w.heap.size) (hhi' : hi' ≤ w.heap.size) (hW : wt T ≤ 40000) (hWX : wt X ≤ 40000) (hsz : s.size ≤ 1000) :
    Calls Tryd.prog 26 #[.agg cs.toArray, .string s, .agg cx.toArray] w fun e w' => Below w.heap.size w w' ∧ RefA 0 (putE T s X) e w' := by
  obtain ⟨kt, xt, at0, nt, ct, bt, mt, dt, et, pt, qt, rfl⟩ := hL.form
  obtain ⟨kx, xx, ax, nx, cxx, bx, mx, dx, ex, px, qx, rfl⟩ := hX.form
  have HT := hide (And.intro hL hX)
  have HC1 := hide (fun W (h : Below w.heap.size w W) => checkR_any T lo hi _ W (hL.kept h hhi) (by omega) (by have := h.size; omega))
  have HC2 := hide (fun W (h : Below w.heap.size w W) => checkR_any X lo' hi' _ W (hX.kept h hhi') (by omega) (by have := h.size; omega))
  have HP := hide (fun W => partsR_any s W (by omega))
  have HS : Hid (putE T s X = if (chk T 1 0).1 ≠ 0 then .error (chk T 1 0).1 else if (chk X 1 0).1 ≠ 0 then .error (chk X 1 0).1 else if isPl s = false then .error 9 else
    if (putR T (placeL s) X).2 = false then .error 8 else if (chk (putR T (placeL s) X).1 1 0).1 ≠ 0 then .error (chk (putR T (placeL s) X).1 1 0).1 else .ok (putR T (placeL s) X).1) := rfl
  have HW := hide (And.intro hW hWX)
  have HLen : Hid ((placeL s).length ≤ 1001) := by have := placeL_len s; show _ ≤ _; omega
  have hB := box3_new w (.int .i64 kt) (.bool xt) (.slice at0 nt ct) (.slice bt mt dt) (.slice et pt qt) (.int .i64 kx) (.bool xx) (.slice ax nx cxx) (.slice bx mx dx) (.slice ex px qx)
  obtain ⟨wA, hwA⟩ : ∃ wA, wA = (((w.alloc (.cells #[.int .i64 kt, .bool xt, .slice at0 nt ct, .slice bt mt dt, .slice et pt qt] 26)).alloc (.cells #[.int .i64 kx, .bool xx, .slice ax nx cxx, .slice bx mx dx, .slice ex px qx] 26)).alloc (.cells #[.int .i64 0, .bool false, .slice none 0 0, .slice none 0 0, .slice none 0 0] 26)) := ⟨_, rfl⟩
  rw [← hwA] at hB
  have HB := hide hB
  have HwA := hide hwA
  clear hL hX hW hWX hsz hB hwA
  go_enter Tryd.func26, Tryd.ntmps26
  go_wp2_with fail
  rw [← unhide HwA]
  refine (unhide HC1 wA (unhide HB).b).mono ?_
  rintro e w1 ⟨rfl, hb1⟩
  have HB1 := hide ((unhide HB).kept hb1 (unhide HB).s)
  clear HC1 HB HwA hb1
  by_cases hc1 : (chk T 1 0).1 = 0
  case neg =>
    have hn1 := ne0 hc1
    have HSr : Hid (putE T s X = .error (chk T 1 0).1) := by show _ = _; rw [unhide HS, if_pos hc1]
    obtain ⟨r0, r1, r2, r3, r4⟩ := (unhide HB1).r.cells
    have rf0 := (unhide HB1).r.fr 0
    have rf1 := (unhide HB1).r.fr 1
    have rf2 := (unhide HB1).r.fr 2
    have rf3 := (unhide HB1).r.fr 3
    have rf4 := (unhide HB1).r.fr 4
    clear hc1
    generalize (chk T 1 0).1 = c1 at *
    go_wp2_with fail
    rw [unhide HSr]
    refine bodyPost_ret (v := .tuple #[.agg zeroT.toArray, .int .i64 (c1 : Int)]) (by simp [results, Tryd.results26, go_sem, zeroT, r0, r1, r2, r3, r4]) rfl ⟨?_, rfl⟩
    exact below_set5 (unhide HB1).b (by omega) _ _ _ _ _
  case pos =>
  obtain ⟨y0, y1, y2, y3, y4⟩ := (unhide HB1).x.cells
  have HN := hide (And.intro (chk_nice T hc1) hc1)
  rw [if_neg (by simp [hc1])] at HS
  rw [hc1]
  clear hc1
  go_wp2_with fail
  refine (unhide HC2 w1 (unhide HB1).b).mono ?_
  rintro e w2 ⟨rfl, hb2⟩
  have HB2 := hide ((unhide HB1).kept hb2 (unhide HB1).s)
  clear HC2 HB1 hb2 y0 y1 y2 y3 y4
  by_cases hc2 : (chk X 1 0).1 = 0
  case neg =>
    have hn1 := ne0 hc2
    have HSr : Hid (putE T s X = .error (chk X 1 0).1) := by show _ = _; rw [unhide HS, if_pos hc2]
    obtain ⟨r0, r1, r2, r3, r4⟩ := (unhide HB2).r.cells
    have rf0 := (unhide HB2).r.fr 0
    have rf1 := (unhide HB2).r.fr 1
    have rf2 := (unhide HB2).r.fr 2
    have rf3 := (unhide HB2).r.fr 3
    have rf4 := (unhide HB2).r.fr 4
    clear hc2
    generalize (chk X 1 0).1 = c1 at *
    go_wp2_with fail
    rw [unhide HSr]
    refine bodyPost_ret (v := .tuple #[.agg zeroT.toArray, .int .i64 (c1 : Int)]) (by simp [results, Tryd.results26, go_sem, zeroT, r0, r1, r2, r3, r4]) rfl ⟨?_, rfl⟩
    exact below_set5 (unhide HB2).b (by omega) _ _ _ _ _
  case pos =>
  rw [if_neg (by simp [hc2])] at HS
  rw [hc2]
  clear hc2
  go_wp2_with fail
  refine (unhide HP w2).mono ?_
  rintro e w3 ⟨hb3, hpl⟩
  have HB3 := hide ((unhide HB2).kept hb3 (unhide HB2).s)
  have hs2 := (unhide HB2).s
  have hs3 := hb3.size
  clear HP HB2 hb3
  rcases hpl with ⟨hip, a1, c1, rfl, hR⟩ | ⟨hip, rfl⟩
  case inr =>
    have HSr : Hid (putE T s X = .error 9) := by show _ = _; rw [unhide HS, if_pos hip]
    obtain ⟨r0, r1, r2, r3, r4⟩ := (unhide HB3).r.cells
    have rf0 := (unhide HB3).r.fr 0
    have rf1 := (unhide HB3).r.fr 1
    have rf2 := (unhide HB3).r.fr 2
    have rf3 := (unhide HB3).r.fr 3
    have rf4 := (unhide HB3).r.fr 4
    clear hip
    go_wp2_with fail
    rw [unhide HSr]
    refine bodyPost_ret (v := .tuple #[.agg zeroT.toArray, .int .i64 9]) (by simp [results, Tryd.results26, go_sem, zeroT, r0, r1, r2, r3, r4]) rfl ⟨?_, rfl⟩
    exact below_set5 (unhide HB3).b (by omega) _ _ _ _ _
  case inl =>
  rw [if_neg (by simp [hip])] at HS
  have HE := hide (isPl_ent hip)
  have HR := hide hR
  generalize hl : placeL s = l at *
  obtain ⟨N, hN⟩ : ∃ N, l.length = N := ⟨_, rfl⟩
  have HNl := hide hN
  have hNb : N ≤ 1001 := by rw [← hN]; exact unhide HLen
  have hR' := hR
  rw [hN] at hR'
  rw [hN]
  clear hl hip hR hR' hN
  have HCt := hide (fun (W : World) (h : Below w3.heap.size w3 W) => cloneR_any T lo hi _ W ((unhide HT).1.kept ((unhide HB3).b.trans (h.mono (by omega))) hhi) (by have := (unhide HW).1; omega) (by have := h.size; omega))
  have HCx := hide (fun (W : World) (h : Below w3.heap.size w3 W) => cloneR_any X lo' hi' _ W ((unhide HT).2.kept ((unhide HB3).b.trans (h.mono (by omega))) hhi') (by have := (unhide HW).2; omega) (by have := h.size; omega))
  have HPu := hide (fun (W : World) (lo hi lo' hi' : Nat) (cs cx : List Value) (h1 : Lies lo hi W T cs) (h2 : Lies lo' hi' W X cx) (h3 : Below w3.heap.size w3 W) (q1 : hi ≤ W.heap.size) (q2 : hi' ≤ W.heap.size) => rput_any l T X lo hi lo' hi' w2.heap.size w3.heap.size cs cx a1 c1 W h1 h2 ((unhide HR).below h3 (Nat.le_refl _)) q1 q2 h3.size (unhide HN).1 (by have := (unhide HW).1; omega) (by rw [unhide HNl]; omega))
  rw [unhide HNl] at HPu
  generalize hbo : (putR T l X).2 = bo at *
  have HBo := hide hbo
  clear hbo
  obtain ⟨y0, y1, y2, y3, y4⟩ := (unhide HB3).x.cells
  obtain ⟨z0, z1, z2, z3, z4⟩ := (unhide HB3).t.cells
  have hxl : w.heap.size + 1 < w3.heap.size := by omega
  go_wp2_with fail
  apply one_way
  case go =>
    intro key
    have hBt := (unhide HB3).t
    have hBx := (unhide HB3).x
    have hbbw3 : Below w3.heap.size w3 w3 := Below.refl _ _
    refine wp_region_noPanic ?_
    refine wp_region_held_drew (S := fun w' => Bx w' w.heap.size (.int .i64 kt) (.bool xt) (.slice at0 nt ct) (.slice bt mt dt) (.slice et pt qt) ∧ Bx w' (w.heap.size + 1) (.int .i64 kx) (.bool xx) (.slice ax nx cxx) (.slice bx mx dx) (.slice ex px qx)) (by kernel_rfl) ⟨hBt, hBx⟩ (fun hHeld => ?_)
    refine wpAnyH_take (i := 0) (v := .agg #[.int .i64 kt, .bool xt, .slice at0 nt ct, .slice bt mt dt, .slice et pt qt]) rfl (by kernel_rfl) (by kernel_rfl) (by kernel_rfl) (fun _ _ _ h => h) (Or.inl ⟨by rfl, ?_⟩) hHeld ?_
    · intro w' hS'; obtain ⟨t0, t1, t2, t3, t4⟩ := hS'.1.cells; go_simp
    try simp only [Act.put, List.getElem_toArray, List.getElem_cons_zero, List.getElem_cons_succ, List.setIfInBounds_toArray, List.set_cons_zero, List.set_cons_succ]
    refine wpAnyH_take (i := 2) (v := .slice a1 N c1) rfl (by kernel_rfl) (by kernel_rfl) (by kernel_rfl) (fun _ _ _ h => h) (Or.inl ⟨by rfl, ?_⟩) hHeld ?_
    · intro w' hS'; go_simp
    try simp only [Act.put, List.getElem_toArray, List.getElem_cons_zero, List.getElem_cons_succ, List.setIfInBounds_toArray, List.set_cons_zero, List.set_cons_succ]
    refine wpAnyH_take (i := 3) (v := .agg #[.int .i64 kx, .bool xx, .slice ax nx cxx, .slice bx mx dx, .slice ex px qx]) rfl (by kernel_rfl) (by kernel_rfl) (by kernel_rfl) (fun _ _ _ h => h) (Or.inl ⟨by rfl, ?_⟩) hHeld ?_
    · intro w' hS'; obtain ⟨t0, t1, t2, t3, t4⟩ := hS'.2.cells; go_simp
    try simp only [Act.put, List.getElem_toArray, List.getElem_cons_zero, List.getElem_cons_succ, List.setIfInBounds_toArray, List.set_cons_zero, List.set_cons_succ]
    refine wpAnyH_ready (rs := [1, 9]) (by kernel_rfl) (by simp) (AllReadyH.cons rfl (fun K hK => ?_) (AllReadyH.cons rfl (fun K hK => ?_) AllReadyH.nil))
    · skip
      simp only [List.getElem_toArray, List.getElem_cons_zero, List.getElem_cons_succ]
      go_simp
      refine (unhide HCt w3.drew (Below.refl _ _).drew).mono ?_
      rintro e w6 ⟨c6, rfl, hbw6, hLw6⟩
      obtain ⟨k6, x6, d1, d2, d3, d4, d5, d6, d7, d8, d9, rfl⟩ := hLw6.form
      have hBw6 : Below w3.heap.size w3 w6 := below_drew' hbw6
      have hsw6 := hBw6.size
      have hbbw6 : Below w3.heap.size w3 w6 := hbbw3.trans (hBw6.mono (by omega))
      have HLw6 : Hid (Lies w3.heap.size w6.heap.size w6 T _) := hLw6
      refine hK.out _ _ ⟨hBt.kept hbbw6 (by omega), hBx.kept hbbw6 (by omega)⟩ (fun hHeld => ?_)
      clear hK K hLw6 hbw6
      try simp only [Act.put, List.getElem_toArray, List.getElem_cons_zero, List.getElem_cons_succ, List.setIfInBounds_toArray, List.set_cons_zero, List.set_cons_succ]
      refine wpAnyH_ready (rs := [4, 9]) (by kernel_rfl) (by simp) (AllReadyH.cons rfl (fun K hK => ?_) (AllReadyH.cons rfl (fun K hK => ?_) AllReadyH.nil))
      · skip
        simp only [List.getElem_toArray, List.getElem_cons_zero, List.getElem_cons_succ]
        go_simp
        refine (unhide HCx _ hbbw6).mono ?_
        rintro e w7 ⟨c7, rfl, hbw7, hLw7⟩
        obtain ⟨k7, x7, f1, f2, f3, f4, f5, f6, f7, f8, f9, rfl⟩ := hLw7.form
        have hBw7 : Below w6.heap.size w6 w7 := hbw7
        have hsw7 := hBw7.size
        have hbbw7 : Below w3.heap.size w3 w7 := hbbw6.trans (hBw7.mono (by omega))
        have HLw7 : Hid (Lies w6.heap.size w7.heap.size w7 X _) := hLw7
        refine hK.out _ _ ⟨hBt.kept hbbw7 (by omega), hBx.kept hbbw7 (by omega)⟩ (fun hHeld => ?_)
        clear hK K hLw7 hbw7
        try simp only [Act.put, List.getElem_toArray, List.getElem_cons_zero, List.getElem_cons_succ, List.setIfInBounds_toArray, List.set_cons_zero, List.set_cons_succ]
        refine wpAnyH_ready (rs := [5, 9]) (by kernel_rfl) (by simp) (AllReadyH.cons rfl (fun K hK => ?_) (AllReadyH.cons rfl (fun K hK => ?_) AllReadyH.nil))
        · skip
          have hTw7 : ∀ k, k < w6.heap.size → w7.heap[k]? = w6.heap[k]? := fun k hk => hBw7.block k hk
          have hXw7 : ∀ k, k < w7.heap.size → w7.heap[k]? = w7.heap[k]? := fun k hk => rfl
          simp only [List.getElem_toArray, List.getElem_cons_zero, List.getElem_cons_succ]
          go_simp
          refine (unhide HPu w7 w3.heap.size w6.heap.size w6.heap.size w7.heap.size _ _ ((unhide HLw6).same (fun k h1 h2 => hTw7 k h2)) ((unhide HLw7).same (fun k h1 h2 => hXw7 k h2)) hbbw7 (by omega) (by omega)).mono ?_
          rintro e w8 ⟨hbw8, c8, rfl, hLw8⟩
          obtain ⟨k8, x8, g1, g2, g3, g4, g5, g6, g7, g8, g9, rfl⟩ := hLw8.form
          have hsw8 := hbw8.size
          have hbbw8 : Below w3.heap.size w3 w8 := hbbw7.trans (hbw8.mono (by omega))
          have HLw8 := hide hLw8
          refine hK.out _ _ ⟨hBt.kept hbbw8 (by omega), hBx.kept hbbw8 (by omega)⟩ (fun hHeld => ?_)
          clear hK K hLw8
          try simp only [Act.put, List.getElem_toArray, List.getElem_cons_zero, List.getElem_cons_succ, List.setIfInBounds_toArray, List.set_cons_zero, List.set_cons_succ]
          refine wpAnyH_take (i := 6) (v := .tuple #[.agg #[.int .i64 k8, .bool x8, .slice g1 g2 g3, .slice g4 g5 g6, .slice g7 g8 g9], .bool bo]) rfl (by kernel_rfl) (by kernel_rfl) (by kernel_rfl) (fun _ _ _ h => h) (Or.inl ⟨by rfl, ?_⟩) hHeld ?_
          · intro w' hS'; go_simp
          try simp only [Act.put, List.getElem_toArray, List.getElem_cons_zero, List.getElem_cons_succ, List.setIfInBounds_toArray, List.set_cons_zero, List.set_cons_succ]
          refine wpAnyH_take (i := 7) (v := .agg #[.int .i64 k8, .bool x8, .slice g1 g2 g3, .slice g4 g5 g6, .slice g7 g8 g9]) rfl (by kernel_rfl) (by kernel_rfl) (by kernel_rfl) (fun _ _ _ h => h) (Or.inl ⟨by rfl, ?_⟩) hHeld ?_
          · intro w' hS'; go_simp
          try simp only [Act.put, List.getElem_toArray, List.getElem_cons_zero, List.getElem_cons_succ, List.setIfInBounds_toArray, List.set_cons_zero, List.set_cons_succ]
          refine wpAnyH_take (i := 8) (v := .bool bo) rfl (by kernel_rfl) (by kernel_rfl) (by kernel_rfl) (fun _ _ _ h => h) (Or.inl ⟨by rfl, ?_⟩) hHeld ?_
          · intro w' hS'; go_simp
          try simp only [Act.put, List.getElem_toArray, List.getElem_cons_zero, List.getElem_cons_succ, List.setIfInBounds_toArray, List.set_cons_zero, List.set_cons_succ]
          refine wpAnyH_ready (rs := [9]) (by kernel_rfl) (by simp) (AllReadyH.cons rfl (fun K hK => ?_) AllReadyH.nil)
          simp only [List.getElem_toArray, List.getElem_cons_zero, List.getElem_cons_succ]
          go_simp
          obtain ⟨wb, hwb⟩ : ∃ W, W = w8.alloc (.cells #[.int .i64 0, .bool false, .slice none 0 0, .slice none 0 0, .slice none 0 0] 26) := ⟨_, rfl⟩
          rw [← hwb]
          have hbwb : Below w8.heap.size w8 wb := by rw [hwb]; exact ⟨rfl, rfl, rfl, by simp, fun k hk => Below.heap_alloc _ _ _ hk⟩
          have hswb : wb.heap.size = w8.heap.size + 1 := by rw [hwb]; simp
          have hywb : Bx wb w8.heap.size (.int .i64 0) (.bool false) (.slice none 0 0) (.slice none 0 0) (.slice none 0 0) := by rw [hwb]; exact bx_new _ _ _ _ _ _
          clear hwb
          have hbbwb : Below w3.heap.size w3 wb := hbbw8.trans (hbwb.mono (by omega))
          refine hK.out _ _ ⟨hBt.kept hbbwb (by omega), hBx.kept hbbwb (by omega)⟩ (fun hHeld => ?_)
          clear hK K
          try simp only [Act.put, List.getElem_toArray, List.getElem_cons_zero, List.getElem_cons_succ, List.setIfInBounds_toArray, List.set_cons_zero, List.set_cons_succ]
          have hY := hywb
          obtain ⟨o0, o1, o2, o3, o4⟩ := hY.cells
          have of0 := hY.fr 0
          have of1 := hY.fr 1
          have of2 := hY.fr 2
          have of3 := hY.fr 3
          have of4 := hY.fr 4
          refine wpAnyH_ready (rs := [10]) (by kernel_rfl) (by simp) (AllReadyH.cons rfl (fun K hK => ?_) AllReadyH.nil)
          simp only [List.getElem_toArray, List.getElem_cons_zero, List.getElem_cons_succ]
          go_simp
          rw [set5_eq]
          obtain ⟨by', hby⟩ : ∃ b, b = w8.heap.size := ⟨_, rfl⟩
          rw [← hby]
          rw [← hby] at hY
          have HF : Hid (PutF w T X l by' (set5 wb by' (.int .i64 k8) (.bool x8) (.slice g1 g2 g3) (.slice g4 g5 g6) (.slice g7 g8 g9)) (.int .i64 kt) (.bool xt) (.slice at0 nt ct) (.slice bt mt dt) (.slice et pt qt) (.int .i64 kx) (.bool xx) (.slice ax nx cxx) (.slice bx mx dx) (.slice ex px qx) [.int .i64 k8, .bool x8, .slice g1 g2 g3, .slice g4 g5 g6, .slice g7 g8 g9]) := by
            have h3 := (unhide HB3).kept hbbwb (by omega)
            refine ⟨⟨below_set5 h3.b (by omega) _ _ _ _ _, by simpa using h3.s, h3.t.of (set5_other _ _ _ _ _ _ _ _ (by omega)), h3.x.of (set5_other _ _ _ _ _ _ _ _ (by omega)), h3.r.of (set5_other _ _ _ _ _ _ _ _ (by omega))⟩, ⟨_, _, _, _, _, rfl, hY.set5 _ _ _ _ _⟩, by omega, by rw [set5_size]; omega, fun W' hW' => ?_⟩
            rw [set5_size]
            refine (unhide HLw8 W' (fun k h1 h2 => ?_)).mono (Nat.le_refl _) (by omega)
            rw [hW' k (by rw [set5_size]; omega) (by omega), set5_other _ _ _ _ _ _ _ _ (by omega)]
            exact hbwb.block k h1
          have hS9 : Bx (set5 wb by' (.int .i64 k8) (.bool x8) (.slice g1 g2 g3) (.slice g4 g5 g6) (.slice g7 g8 g9)) w.heap.size (.int .i64 kt) (.bool xt) (.slice at0 nt ct) (.slice bt mt dt) (.slice et pt qt) ∧ Bx (set5 wb by' (.int .i64 k8) (.bool x8) (.slice g1 g2 g3) (.slice g4 g5 g6) (.slice g7 g8 g9)) (w.heap.size + 1) (.int .i64 kx) (.bool xx) (.slice ax nx cxx) (.slice bx mx dx) (.slice ex px qx) := ⟨(unhide HF).b.t, (unhide HF).b.x⟩
          generalize set5 wb by' (.int .i64 k8) (.bool x8) (.slice g1 g2 g3) (.slice g4 g5 g6) (.slice g7 g8 g9) = W at *
          refine hK.out _ _ hS9 (fun hHeld => ?_)
          clear hK K
          try simp only [Act.put, List.getElem_toArray, List.getElem_cons_zero, List.getElem_cons_succ, List.setIfInBounds_toArray, List.set_cons_zero, List.set_cons_succ]
          refine wpAnyH_take (i := 11) (v := .bool bo) rfl (by kernel_rfl) (by kernel_rfl) (by kernel_rfl) (fun _ _ _ h => h) (Or.inl ⟨by rfl, ?_⟩) hHeld ?_
          · intro w' hS'; go_simp
          try simp only [Act.put, List.getElem_toArray, List.getElem_cons_zero, List.getElem_cons_succ, List.setIfInBounds_toArray, List.set_cons_zero, List.set_cons_succ]
          refine wpAnyH_done (by kernel_rfl) ?_ _
          refine NoPanic.normal ?_
          clear hHeld hS9 hY hby o0 o1 o2 o3 o4 of0 of1 of2 of3 of4
          clear hTw7 hXw7 hbw8 hsw8 hbbw8 HLw8 hBw7 hsw7 hbbw7 HLw7 hBw6 hsw6 hbbw6 HLw6 hBt hBx hbbw3 hbwb hswb hywb hbbwb
          revert k6 x6 d1 d2 d3 d4 d5 d6 d7 d8 d9 k7 x7 f1 f2 f3 f4 f5 f6 f7 f8 f9
          revert W by'
          revert k8 x8 g1 g2 g3 g4 g5 g6 g7 g8 g9
          exact unhide key
        · skip
          simp only [List.getElem_toArray, List.getElem_cons_zero, List.getElem_cons_succ]
          go_simp
          obtain ⟨wa, hwa⟩ : ∃ W, W = w7.alloc (.cells #[.int .i64 0, .bool false, .slice none 0 0, .slice none 0 0, .slice none 0 0] 26) := ⟨_, rfl⟩
          rw [← hwa]
          have hbwa : Below w7.heap.size w7 wa := by rw [hwa]; exact ⟨rfl, rfl, rfl, by simp, fun k hk => Below.heap_alloc _ _ _ hk⟩
          have hswa : wa.heap.size = w7.heap.size + 1 := by rw [hwa]; simp
          have hywa : Bx wa w7.heap.size (.int .i64 0) (.bool false) (.slice none 0 0) (.slice none 0 0) (.slice none 0 0) := by rw [hwa]; exact bx_new _ _ _ _ _ _
          clear hwa
          have hbbwa : Below w3.heap.size w3 wa := hbbw7.trans (hbwa.mono (by omega))
          refine hK.out _ _ ⟨hBt.kept hbbwa (by omega), hBx.kept hbbwa (by omega)⟩ (fun hHeld => ?_)
          clear hK K
          try simp only [Act.put, List.getElem_toArray, List.getElem_cons_zero, List.getElem_cons_succ, List.setIfInBounds_toArray, List.set_cons_zero, List.set_cons_succ]
          refine wpAnyH_ready (rs := [5]) (by kernel_rfl) (by simp) (AllReadyH.cons rfl (fun K hK => ?_) AllReadyH.nil)
          have hTwa : ∀ k, k < w6.heap.size → wa.heap[k]? = w6.heap[k]? := fun k hk => by rw [hbwa.block k (by omega), hBw7.block k hk]
          have hXwa : ∀ k, k < w7.heap.size → wa.heap[k]? = w7.heap[k]? := fun k hk => hbwa.block k hk
          simp only [List.getElem_toArray, List.getElem_cons_zero, List.getElem_cons_succ]
          go_simp
          refine (unhide HPu wa w3.heap.size w6.heap.size w6.heap.size w7.heap.size _ _ ((unhide HLw6).same (fun k h1 h2 => hTwa k h2)) ((unhide HLw7).same (fun k h1 h2 => hXwa k h2)) hbbwa (by omega) (by omega)).mono ?_
          rintro e w8 ⟨hbw8, c8, rfl, hLw8⟩
          obtain ⟨k8, x8, g1, g2, g3, g4, g5, g6, g7, g8, g9, rfl⟩ := hLw8.form
          have hsw8 := hbw8.size
          have hbbw8 : Below w3.heap.size w3 w8 := hbbwa.trans (hbw8.mono (by omega))
          have HLw8 := hide hLw8
          refine hK.out _ _ ⟨hBt.kept hbbw8 (by omega), hBx.kept hbbw8 (by omega)⟩ (fun hHeld => ?_)
          clear hK K hLw8
          try simp only [Act.put, List.getElem_toArray, List.getElem_cons_zero, List.getElem_cons_succ, List.setIfInBounds_toArray, List.set_cons_zero, List.set_cons_succ]
          refine wpAnyH_take (i := 6) (v := .tuple #[.agg #[.int .i64 k8, .bool x8, .slice g1 g2 g3, .slice g4 g5 g6, .slice g7 g8 g9], .bool bo]) rfl (by kernel_rfl) (by kernel_rfl) (by kernel_rfl) (fun _ _ _ h => h) (Or.inl ⟨by rfl, ?_⟩) hHeld ?_
          · intro w' hS'; go_simp
          try simp only [Act.put, List.getElem_toArray, List.getElem_cons_zero, List.getElem_cons_succ, List.setIfInBounds_toArray, List.set_cons_zero, List.set_cons_succ]
          refine wpAnyH_take (i := 7) (v := .agg #[.int .i64 k8, .bool x8, .slice g1 g2 g3, .slice g4 g5 g6, .slice g7 g8 g9]) rfl (by kernel_rfl) (by kernel_rfl) (by kernel_rfl) (fun _ _ _ h => h) (Or.inl ⟨by rfl, ?_⟩) hHeld ?_
          · intro w' hS'; go_simp
          try simp only [Act.put, List.getElem_toArray, List.getElem_cons_zero, List.getElem_cons_succ, List.setIfInBounds_toArray, List.set_cons_zero, List.set_cons_succ]
          refine wpAnyH_take (i := 8) (v := .bool bo) rfl (by kernel_rfl) (by kernel_rfl) (by kernel_rfl) (fun _ _ _ h => h) (Or.inl ⟨by rfl, ?_⟩) hHeld ?_
          · intro w' hS'; go_simp
          try simp only [Act.put, List.getElem_toArray, List.getElem_cons_zero, List.getElem_cons_succ, List.setIfInBounds_toArray, List.set_cons_zero, List.set_cons_succ]
          have hY := (hywa.kept hbw8 (by omega))
          obtain ⟨o0, o1, o2, o3, o4⟩ := hY.cells
          have of0 := hY.fr 0
          have of1 := hY.fr 1
          have of2 := hY.fr 2
          have of3 := hY.fr 3
          have of4 := hY.fr 4
          refine wpAnyH_ready (rs := [10]) (by kernel_rfl) (by simp) (AllReadyH.cons rfl (fun K hK => ?_) AllReadyH.nil)
          simp only [List.getElem_toArray, List.getElem_cons_zero, List.getElem_cons_succ]
          go_simp
          rw [set5_eq]
          obtain ⟨by', hby⟩ : ∃ b, b = w7.heap.size := ⟨_, rfl⟩
          rw [← hby]
          rw [← hby] at hY
          have HF : Hid (PutF w T X l by' (set5 w8 by' (.int .i64 k8) (.bool x8) (.slice g1 g2 g3) (.slice g4 g5 g6) (.slice g7 g8 g9)) (.int .i64 kt) (.bool xt) (.slice at0 nt ct) (.slice bt mt dt) (.slice et pt qt) (.int .i64 kx) (.bool xx) (.slice ax nx cxx) (.slice bx mx dx) (.slice ex px qx) [.int .i64 k8, .bool x8, .slice g1 g2 g3, .slice g4 g5 g6, .slice g7 g8 g9]) := by
            have h3 := (unhide HB3).kept hbbw8 (by omega)
            refine ⟨⟨below_set5 h3.b (by omega) _ _ _ _ _, by simpa using h3.s, h3.t.of (set5_other _ _ _ _ _ _ _ _ (by omega)), h3.x.of (set5_other _ _ _ _ _ _ _ _ (by omega)), h3.r.of (set5_other _ _ _ _ _ _ _ _ (by omega))⟩, ⟨_, _, _, _, _, rfl, hY.set5 _ _ _ _ _⟩, by omega, by rw [set5_size]; omega, fun W' hW' => ?_⟩
            rw [set5_size]
            refine (unhide HLw8 W' (fun k h1 h2 => ?_)).mono (Nat.le_refl _) (by omega)
            rw [hW' k (by rw [set5_size]; omega) (by omega), set5_other _ _ _ _ _ _ _ _ (by omega)]
          have hS9 : Bx (set5 w8 by' (.int .i64 k8) (.bool x8) (.slice g1 g2 g3) (.slice g4 g5 g6) (.slice g7 g8 g9)) w.heap.size (.int .i64 kt) (.bool xt) (.slice at0 nt ct) (.slice bt mt dt) (.slice et pt qt) ∧ Bx (set5 w8 by' (.int .i64 k8) (.bool x8) (.slice g1 g2 g3) (.slice g4 g5 g6) (.slice g7 g8 g9)) (w.heap.size + 1) (.int .i64 kx) (.bool xx) (.slice ax nx cxx) (.slice bx mx dx) (.slice ex px qx) := ⟨(unhide HF).b.t, (unhide HF).b.x⟩
          generalize set5 w8 by' (.int .i64 k8) (.bool x8) (.slice g1 g2 g3) (.slice g4 g5 g6) (.slice g7 g8 g9) = W at *
          refine hK.out _ _ hS9 (fun hHeld => ?_)
          clear hK K
          try simp only [Act.put, List.getElem_toArray, List.getElem_cons_zero, List.getElem_cons_succ, List.setIfInBounds_toArray, List.set_cons_zero, List.set_cons_succ]
          refine wpAnyH_take (i := 11) (v := .bool bo) rfl (by kernel_rfl) (by kernel_rfl) (by kernel_rfl) (fun _ _ _ h => h) (Or.inl ⟨by rfl, ?_⟩) hHeld ?_
          · intro w' hS'; go_simp
          try simp only [Act.put, List.getElem_toArray, List.getElem_cons_zero, List.getElem_cons_succ, List.setIfInBounds_toArray, List.set_cons_zero, List.set_cons_succ]
          refine wpAnyH_done (by kernel_rfl) ?_ _
          refine NoPanic.normal ?_
          clear hHeld hS9 hY hby o0 o1 o2 o3 o4 of0 of1 of2 of3 of4
          clear hTwa hXwa hbw8 hsw8 hbbw8 HLw8 hbwa hswa hywa hbbwa hBw7 hsw7 hbbw7 HLw7 hBw6 hsw6 hbbw6 HLw6 hBt hBx hbbw3
          revert k6 x6 d1 d2 d3 d4 d5 d6 d7 d8 d9 k7 x7 f1 f2 f3 f4 f5 f6 f7 f8 f9
          revert W by'
          revert k8 x8 g1 g2 g3 g4 g5 g6 g7 g8 g9
          exact unhide key
      · skip
        simp only [List.getElem_toArray, List.getElem_cons_zero, List.getElem_cons_succ]
        go_simp
        obtain ⟨wa, hwa⟩ : ∃ W, W = w6.alloc (.cells #[.int .i64 0, .bool false, .slice none 0 0, .slice none 0 0, .slice none 0 0] 26) := ⟨_, rfl⟩
        rw [← hwa]
        have hbwa : Below w6.heap.size w6 wa := by rw [hwa]; exact ⟨rfl, rfl, rfl, by simp, fun k hk => Below.heap_alloc _ _ _ hk⟩
        have hswa : wa.heap.size = w6.heap.size + 1 := by rw [hwa]; simp
        have hywa : Bx wa w6.heap.size (.int .i64 0) (.bool false) (.slice none 0 0) (.slice none 0 0) (.slice none 0 0) := by rw [hwa]; exact bx_new _ _ _ _ _ _
        clear hwa
        have hbbwa : Below w3.heap.size w3 wa := hbbw6.trans (hbwa.mono (by omega))
        refine hK.out _ _ ⟨hBt.kept hbbwa (by omega), hBx.kept hbbwa (by omega)⟩ (fun hHeld => ?_)
        clear hK K
        try simp only [Act.put, List.getElem_toArray, List.getElem_cons_zero, List.getElem_cons_succ, List.setIfInBounds_toArray, List.set_cons_zero, List.set_cons_succ]
        refine wpAnyH_ready (rs := [4]) (by kernel_rfl) (by simp) (AllReadyH.cons rfl (fun K hK => ?_) AllReadyH.nil)
        simp only [List.getElem_toArray, List.getElem_cons_zero, List.getElem_cons_succ]
        go_simp
        refine (unhide HCx _ hbbwa).mono ?_
        rintro e w7 ⟨c7, rfl, hbw7, hLw7⟩
        obtain ⟨k7, x7, f1, f2, f3, f4, f5, f6, f7, f8, f9, rfl⟩ := hLw7.form
        have hBw7 : Below wa.heap.size wa w7 := hbw7
        have hsw7 := hBw7.size
        have hbbw7 : Below w3.heap.size w3 w7 := hbbwa.trans (hBw7.mono (by omega))
        have HLw7 : Hid (Lies wa.heap.size w7.heap.size w7 X _) := hLw7
        refine hK.out _ _ ⟨hBt.kept hbbw7 (by omega), hBx.kept hbbw7 (by omega)⟩ (fun hHeld => ?_)
        clear hK K hLw7 hbw7
        try simp only [Act.put, List.getElem_toArray, List.getElem_cons_zero, List.getElem_cons_succ, List.setIfInBounds_toArray, List.set_cons_zero, List.set_cons_succ]
        refine wpAnyH_ready (rs := [5]) (by kernel_rfl) (by simp) (AllReadyH.cons rfl (fun K hK => ?_) AllReadyH.nil)
        have hTw7 : ∀ k, k < w6.heap.size → w7.heap[k]? = w6.heap[k]? := fun k hk => by rw [hBw7.block k (by omega), hbwa.block k hk]
        have hXw7 : ∀ k, k < w7.heap.size → w7.heap[k]? = w7.heap[k]? := fun k hk => rfl
        simp only [List.getElem_toArray, List.getElem_cons_zero, List.getElem_cons_succ]
        go_simp
        refine (unhide HPu w7 w3.heap.size w6.heap.size wa.heap.size w7.heap.size _ _ ((unhide HLw6).same (fun k h1 h2 => hTw7 k h2)) ((unhide HLw7).same (fun k h1 h2 => hXw7 k h2)) hbbw7 (by omega) (by omega)).mono ?_
        rintro e w8 ⟨hbw8, c8, rfl, hLw8⟩
        obtain ⟨k8, x8, g1, g2, g3, g4, g5, g6, g7, g8, g9, rfl⟩ := hLw8.form
        have hsw8 := hbw8.size
        have hbbw8 : Below w3.heap.size w3 w8 := hbbw7.trans (hbw8.mono (by omega))
        have HLw8 := hide hLw8
        refine hK.out _ _ ⟨hBt.kept hbbw8 (by omega), hBx.kept hbbw8 (by omega)⟩ (fun hHeld => ?_)
        clear hK K hLw8
        try simp only [Act.put, List.getElem_toArray, List.getElem_cons_zero, List.getElem_cons_succ, List.setIfInBounds_toArray, List.set_cons_zero, List.set_cons_succ]
        refine wpAnyH_take (i := 6) (v := .tuple #[.agg #[.int .i64 k8, .bool x8, .slice g1 g2 g3, .slice g4 g5 g6, .slice g7 g8 g9], .bool bo]) rfl (by kernel_rfl) (by kernel_rfl) (by kernel_rfl) (fun _ _ _ h => h) (Or.inl ⟨by rfl, ?_⟩) hHeld ?_
        · intro w' hS'; go_simp
        try simp only [Act.put, List.getElem_toArray, List.getElem_cons_zero, List.getElem_cons_succ, List.setIfInBounds_toArray, List.set_cons_zero, List.set_cons_succ]
        refine wpAnyH_take (i := 7) (v := .agg #[.int .i64 k8, .bool x8, .slice g1 g2 g3, .slice g4 g5 g6, .slice g7 g8 g9]) rfl (by kernel_rfl) (by kernel_rfl) (by kernel_rfl) (fun _ _ _ h => h) (Or.inl ⟨by rfl, ?_⟩) hHeld ?_
        · intro w' hS'; go_simp
        try simp only [Act.put, List.getElem_toArray, List.getElem_cons_zero, List.getElem_cons_succ, List.setIfInBounds_toArray, List.set_cons_zero, List.set_cons_succ]
        refine wpAnyH_take (i := 8) (v := .bool bo) rfl (by kernel_rfl) (by kernel_rfl) (by kernel_rfl) (fun _ _ _ h => h) (Or.inl ⟨by rfl, ?_⟩) hHeld ?_
        · intro w' hS'; go_simp
        try simp only [Act.put, List.getElem_toArray, List.getElem_cons_zero, List.getElem_cons_succ, List.setIfInBounds_toArray, List.set_cons_zero, List.set_cons_succ]
        have hY := ((hywa.kept hBw7 (by omega)).kept hbw8 (by omega))
        obtain ⟨o0, o1, o2, o3, o4⟩ := hY.cells
        have of0 := hY.fr 0
        have of1 := hY.fr 1
        have of2 := hY.fr 2
        have of3 := hY.fr 3
        have of4 := hY.fr 4
        refine wpAnyH_ready (rs := [10]) (by kernel_rfl) (by simp) (AllReadyH.cons rfl (fun K hK => ?_) AllReadyH.nil)
        simp only [List.getElem_toArray, List.getElem_cons_zero, List.getElem_cons_succ]
        go_simp
        rw [set5_eq]
        obtain ⟨by', hby⟩ : ∃ b, b = w6.heap.size := ⟨_, rfl⟩
        rw [← hby]
        rw [← hby] at hY
        have HF : Hid (PutF w T X l by' (set5 w8 by' (.int .i64 k8) (.bool x8) (.slice g1 g2 g3) (.slice g4 g5 g6) (.slice g7 g8 g9)) (.int .i64 kt) (.bool xt) (.slice at0 nt ct) (.slice bt mt dt) (.slice et pt qt) (.int .i64 kx) (.bool xx) (.slice ax nx cxx) (.slice bx mx dx) (.slice ex px qx) [.int .i64 k8, .bool x8, .slice g1 g2 g3, .slice g4 g5 g6, .slice g7 g8 g9]) := by
          have h3 := (unhide HB3).kept hbbw8 (by omega)
          refine ⟨⟨below_set5 h3.b (by omega) _ _ _ _ _, by simpa using h3.s, h3.t.of (set5_other _ _ _ _ _ _ _ _ (by omega)), h3.x.of (set5_other _ _ _ _ _ _ _ _ (by omega)), h3.r.of (set5_other _ _ _ _ _ _ _ _ (by omega))⟩, ⟨_, _, _, _, _, rfl, hY.set5 _ _ _ _ _⟩, by omega, by rw [set5_size]; omega, fun W' hW' => ?_⟩
          rw [set5_size]
          refine (unhide HLw8 W' (fun k h1 h2 => ?_)).mono (Nat.le_refl _) (by omega)
          rw [hW' k (by rw [set5_size]; omega) (by omega), set5_other _ _ _ _ _ _ _ _ (by omega)]
        have hS9 : Bx (set5 w8 by' (.int .i64 k8) (.bool x8) (.slice g1 g2 g3) (.slice g4 g5 g6) (.slice g7 g8 g9)) w.heap.size (.int .i64 kt) (.bool xt) (.slice at0 nt ct) (.slice bt mt dt) (.slice et pt qt) ∧ Bx (set5 w8 by' (.int .i64 k8) (.bool x8) (.slice g1 g2 g3) (.slice g4 g5 g6) (.slice g7 g8 g9)) (w.heap.size + 1) (.int .i64 kx) (.bool xx) (.slice ax nx cxx) (.slice bx mx dx) (.slice ex px qx) := ⟨(unhide HF).b.t, (unhide HF).b.x⟩
        generalize set5 w8 by' (.int .i64 k8) (.bool x8) (.slice g1 g2 g3) (.slice g4 g5 g6) (.slice g7 g8 g9) = W at *
        refine hK.out _ _ hS9 (fun hHeld => ?_)
        clear hK K
        try simp only [Act.put, List.getElem_toArray, List.getElem_cons_zero, List.getElem_cons_succ, List.setIfInBounds_toArray, List.set_cons_zero, List.set_cons_succ]
        refine wpAnyH_take (i := 11) (v := .bool bo) rfl (by kernel_rfl) (by kernel_rfl) (by kernel_rfl) (fun _ _ _ h => h) (Or.inl ⟨by rfl, ?_⟩) hHeld ?_
        · intro w' hS'; go_simp
        try simp only [Act.put, List.getElem_toArray, List.getElem_cons_zero, List.getElem_cons_succ, List.setIfInBounds_toArray, List.set_cons_zero, List.set_cons_succ]
        refine wpAnyH_done (by kernel_rfl) ?_ _
        refine NoPanic.normal ?_
        clear hHeld hS9 hY hby o0 o1 o2 o3 o4 of0 of1 of2 of3 of4
        clear hTw7 hXw7 hbw8 hsw8 hbbw8 HLw8 hBw7 hsw7 hbbw7 HLw7 hbwa hswa hywa hbbwa hBw6 hsw6 hbbw6 HLw6 hBt hBx hbbw3
        revert k6 x6 d1 d2 d3 d4 d5 d6 d7 d8 d9 k7 x7 f1 f2 f3 f4 f5 f6 f7 f8 f9
        revert W by'
        revert k8 x8 g1 g2 g3 g4 g5 g6 g7 g8 g9
        exact unhide key
    · skip
      simp only [List.getElem_toArray, List.getElem_cons_zero, List.getElem_cons_succ]
      go_simp
      obtain ⟨wa, hwa⟩ : ∃ W, W = (w3.alloc (.cells #[.int .i64 0, .bool false, .slice none 0 0, .slice none 0 0, .slice none 0 0] 26)).drew := ⟨_, rfl⟩
      rw [← hwa]
      have hbwa : Below w3.heap.size w3 wa := by rw [hwa]; exact ⟨rfl, rfl, rfl, by simp, fun k hk => Below.heap_alloc _ _ _ hk⟩
      have hswa : wa.heap.size = w3.heap.size + 1 := by rw [hwa]; simp
      have hywa : Bx wa w3.heap.size (.int .i64 0) (.bool false) (.slice none 0 0) (.slice none 0 0) (.slice none 0 0) := by rw [hwa]; exact bx_new _ _ _ _ _ _
      clear hwa
      have hbbwa : Below w3.heap.size w3 wa := hbbw3.trans (hbwa.mono (by omega))
      refine hK.out _ _ ⟨hBt.kept hbbwa (by omega), hBx.kept hbbwa (by omega)⟩ (fun hHeld => ?_)
      clear hK K
      try simp only [Act.put, List.getElem_toArray, List.getElem_cons_zero, List.getElem_cons_succ, List.setIfInBounds_toArray, List.set_cons_zero, List.set_cons_succ]
      refine wpAnyH_ready (rs := [1]) (by kernel_rfl) (by simp) (AllReadyH.cons rfl (fun K hK => ?_) AllReadyH.nil)
      simp only [List.getElem_toArray, List.getElem_cons_zero, List.getElem_cons_succ]
      go_simp
      refine (unhide HCt _ hbbwa).mono ?_
      rintro e w6 ⟨c6, rfl, hbw6, hLw6⟩
      obtain ⟨k6, x6, d1, d2, d3, d4, d5, d6, d7, d8, d9, rfl⟩ := hLw6.form
      have hBw6 : Below wa.heap.size wa w6 := hbw6
      have hsw6 := hBw6.size
      have hbbw6 : Below w3.heap.size w3 w6 := hbbwa.trans (hBw6.mono (by omega))
      have HLw6 : Hid (Lies wa.heap.size w6.heap.size w6 T _) := hLw6
      refine hK.out _ _ ⟨hBt.kept hbbw6 (by omega), hBx.kept hbbw6 (by omega)⟩ (fun hHeld => ?_)
      clear hK K hLw6 hbw6
      try simp only [Act.put, List.getElem_toArray, List.getElem_cons_zero, List.getElem_cons_succ, List.setIfInBounds_toArray, List.set_cons_zero, List.set_cons_succ]
      refine wpAnyH_ready (rs := [4]) (by kernel_rfl) (by simp) (AllReadyH.cons rfl (fun K hK => ?_) AllReadyH.nil)
      simp only [List.getElem_toArray, List.getElem_cons_zero, List.getElem_cons_succ]
      go_simp
      refine (unhide HCx _ hbbw6).mono ?_
      rintro e w7 ⟨c7, rfl, hbw7, hLw7⟩
      obtain ⟨k7, x7, f1, f2, f3, f4, f5, f6, f7, f8, f9, rfl⟩ := hLw7.form
      have hBw7 : Below w6.heap.size w6 w7 := hbw7
      have hsw7 := hBw7.size
      have hbbw7 : Below w3.heap.size w3 w7 := hbbw6.trans (hBw7.mono (by omega))
      have HLw7 : Hid (Lies w6.heap.size w7.heap.size w7 X _) := hLw7
      refine hK.out _ _ ⟨hBt.kept hbbw7 (by omega), hBx.kept hbbw7 (by omega)⟩ (fun hHeld => ?_)
      clear hK K hLw7 hbw7
      try simp only [Act.put, List.getElem_toArray, List.getElem_cons_zero, List.getElem_cons_succ, List.setIfInBounds_toArray, List.set_cons_zero, List.set_cons_succ]
      have hTw7 : ∀ k, k < w6.heap.size → w7.heap[k]? = w6.heap[k]? := fun k hk => hBw7.block k hk
      have hXw7 : ∀ k, k < w7.heap.size → w7.heap[k]? = w7.heap[k]? := fun k hk => rfl
      refine wpAnyH_ready (rs := [5]) (by kernel_rfl) (by simp) (AllReadyH.cons rfl (fun K hK => ?_) AllReadyH.nil)
      simp only [List.getElem_toArray, List.getElem_cons_zero, List.getElem_cons_succ]
      go_simp
      refine (unhide HPu w7 wa.heap.size w6.heap.size w6.heap.size w7.heap.size _ _ ((unhide HLw6).same (fun k h1 h2 => hTw7 k h2)) ((unhide HLw7).same (fun k h1 h2 => hXw7 k h2)) hbbw7 (by omega) (by omega)).mono ?_
      rintro e w8 ⟨hbw8, c8, rfl, hLw8⟩
      obtain ⟨k8, x8, g1, g2, g3, g4, g5, g6, g7, g8, g9, rfl⟩ := hLw8.form
      have hsw8 := hbw8.size
      have hbbw8 : Below w3.heap.size w3 w8 := hbbw7.trans (hbw8.mono (by omega))
      have HLw8 := hide hLw8
      refine hK.out _ _ ⟨hBt.kept hbbw8 (by omega), hBx.kept hbbw8 (by omega)⟩ (fun hHeld => ?_)
      clear hK K hLw8
      try simp only [Act.put, List.getElem_toArray, List.getElem_cons_zero, List.getElem_cons_succ, List.setIfInBounds_toArray, List.set_cons_zero, List.set_cons_succ]
      refine wpAnyH_take (i := 6) (v := .tuple #[.agg #[.int .i64 k8, .bool x8, .slice g1 g2 g3, .slice g4 g5 g6, .slice g7 g8 g9], .bool bo]) rfl (by kernel_rfl) (by kernel_rfl) (by kernel_rfl) (fun _ _ _ h => h) (Or.inl ⟨by rfl, ?_⟩) hHeld ?_
      · intro w' hS'; go_simp
      try simp only [Act.put, List.getElem_toArray, List.getElem_cons_zero, List.getElem_cons_succ, List.setIfInBounds_toArray, List.set_cons_zero, List.set_cons_succ]
      refine wpAnyH_take (i := 7) (v := .agg #[.int .i64 k8, .bool x8, .slice g1 g2 g3, .slice g4 g5 g6, .slice g7 g8 g9]) rfl (by kernel_rfl) (by kernel_rfl) (by kernel_rfl) (fun _ _ _ h => h) (Or.inl ⟨by rfl, ?_⟩) hHeld ?_
      · intro w' hS'; go_simp
      try simp only [Act.put, List.getElem_toArray, List.getElem_cons_zero, List.getElem_cons_succ, List.setIfInBounds_toArray, List.set_cons_zero, List.set_cons_succ]
      refine wpAnyH_take (i := 8) (v := .bool bo) rfl (by kernel_rfl) (by kernel_rfl) (by kernel_rfl) (fun _ _ _ h => h) (Or.inl ⟨by rfl, ?_⟩) hHeld ?_
      · intro w' hS'; go_simp
      try simp only [Act.put, List.getElem_toArray, List.getElem_cons_zero, List.getElem_cons_succ, List.setIfInBounds_toArray, List.set_cons_zero, List.set_cons_succ]
      have hY := (((hywa.kept hBw6 (by omega)).kept hBw7 (by omega)).kept hbw8 (by omega))
      obtain ⟨o0, o1, o2, o3, o4⟩ := hY.cells
      have of0 := hY.fr 0
      have of1 := hY.fr 1
      have of2 := hY.fr 2
      have of3 := hY.fr 3
      have of4 := hY.fr 4
      refine wpAnyH_ready (rs := [10]) (by kernel_rfl) (by simp) (AllReadyH.cons rfl (fun K hK => ?_) AllReadyH.nil)
      simp only [List.getElem_toArray, List.getElem_cons_zero, List.getElem_cons_succ]
      go_simp
      rw [set5_eq]
      obtain ⟨by', hby⟩ : ∃ b, b = w3.heap.size := ⟨_, rfl⟩
      rw [← hby]
      rw [← hby] at hY
      have HF : Hid (PutF w T X l by' (set5 w8 by' (.int .i64 k8) (.bool x8) (.slice g1 g2 g3) (.slice g4 g5 g6) (.slice g7 g8 g9)) (.int .i64 kt) (.bool xt) (.slice at0 nt ct) (.slice bt mt dt) (.slice et pt qt) (.int .i64 kx) (.bool xx) (.slice ax nx cxx) (.slice bx mx dx) (.slice ex px qx) [.int .i64 k8, .bool x8, .slice g1 g2 g3, .slice g4 g5 g6, .slice g7 g8 g9]) := by
        have h3 := (unhide HB3).kept hbbw8 (by omega)
        refine ⟨⟨below_set5 h3.b (by omega) _ _ _ _ _, by simpa using h3.s, h3.t.of (set5_other _ _ _ _ _ _ _ _ (by omega)), h3.x.of (set5_other _ _ _ _ _ _ _ _ (by omega)), h3.r.of (set5_other _ _ _ _ _ _ _ _ (by omega))⟩, ⟨_, _, _, _, _, rfl, hY.set5 _ _ _ _ _⟩, by omega, by rw [set5_size]; omega, fun W' hW' => ?_⟩
        rw [set5_size]
        refine (unhide HLw8 W' (fun k h1 h2 => ?_)).mono (Nat.le_refl _) (by omega)
        rw [hW' k (by rw [set5_size]; omega) (by omega), set5_other _ _ _ _ _ _ _ _ (by omega)]
      have hS9 : Bx (set5 w8 by' (.int .i64 k8) (.bool x8) (.slice g1 g2 g3) (.slice g4 g5 g6) (.slice g7 g8 g9)) w.heap.size (.int .i64 kt) (.bool xt) (.slice at0 nt ct) (.slice bt mt dt) (.slice et pt qt) ∧ Bx (set5 w8 by' (.int .i64 k8) (.bool x8) (.slice g1 g2 g3) (.slice g4 g5 g6) (.slice g7 g8 g9)) (w.heap.size + 1) (.int .i64 kx) (.bool xx) (.slice ax nx cxx) (.slice bx mx dx) (.slice ex px qx) := ⟨(unhide HF).b.t, (unhide HF).b.x⟩
      generalize set5 w8 by' (.int .i64 k8) (.bool x8) (.slice g1 g2 g3) (.slice g4 g5 g6) (.slice g7 g8 g9) = W at *
      refine hK.out _ _ hS9 (fun hHeld => ?_)
      clear hK K
      try simp only [Act.put, List.getElem_toArray, List.getElem_cons_zero, List.getElem_cons_succ, List.setIfInBounds_toArray, List.set_cons_zero, List.set_cons_succ]
      refine wpAnyH_take (i := 11) (v := .bool bo) rfl (by kernel_rfl) (by kernel_rfl) (by kernel_rfl) (fun _ _ _ h => h) (Or.inl ⟨by rfl, ?_⟩) hHeld ?_
      · intro w' hS'; go_simp
      try simp only [Act.put, List.getElem_toArray, List.getElem_cons_zero, List.getElem_cons_succ, List.setIfInBounds_toArray, List.set_cons_zero, List.set_cons_succ]
      refine wpAnyH_done (by kernel_rfl) ?_ _
      refine NoPanic.normal ?_
      clear hHeld hS9 hY hby o0 o1 o2 o3 o4 of0 of1 of2 of3 of4
      clear hTw7 hXw7 hbw8 hsw8 hbbw8 HLw8 hBw7 hsw7 hbbw7 HLw7 hBw6 hsw6 hbbw6 HLw6 hbwa hswa hywa hbbwa hBt hBx hbbw3
      revert k6 x6 d1 d2 d3 d4 d5 d6 d7 d8 d9 k7 x7 f1 f2 f3 f4 f5 f6 f7 f8 f9
      revert W by'
      revert k8 x8 g1 g2 g3 g4 g5 g6 g7 g8 g9
      exact unhide key
  case all =>
    intro k8 x8 g1 g2 g3 g4 g5 g6 g7 g8 g9 by' W HF k6 x6 d1 d2 d3 d4 d5 d6 d7 d8 d9 k7 x7 f1 f2 f3 f4 f5 f6 f7 f8 f9
    have hbx : Bx W by' (.int .i64 k8) (.bool x8) (.slice g1 g2 g3) (.slice g4 g5 g6) (.slice g7 g8 g9) := by
      obtain ⟨v0, v1, v2, v3, v4, e, h⟩ := (unhide HF).y
      cases e; exact h
    have hlo := (unhide HF).lo
    have hhW := (unhide HF).hi
    clear HCt HCx HPu y0 y1 y2 y3 y4 z0 z1 z2 z3 z4 HB3
    cases bo
    case false =>
      have HSr : Hid (putE T s X = .error 8) := by show _ = _; rw [unhide HS, if_pos rfl]
      obtain ⟨r0, r1, r2, r3, r4⟩ := (unhide HF).b.r.cells
      have rf0 := (unhide HF).b.r.fr 0
      have rf1 := (unhide HF).b.r.fr 1
      have rf2 := (unhide HF).b.r.fr 2
      have rf3 := (unhide HF).b.r.fr 3
      have rf4 := (unhide HF).b.r.fr 4
      go_wp2_with fail
      rw [unhide HSr]
      refine bodyPost_ret (v := .tuple #[.agg zeroT.toArray, .int .i64 8]) (by simp [results, Tryd.results26, go_sem, zeroT, r0, r1, r2, r3, r4]) rfl ⟨?_, rfl⟩
      exact below_set5 (unhide HF).b.b (by omega) _ _ _ _ _
    case true =>
      have hwt : wt (putR T l X).1 ≤ 100000 := by
        have h1 := putR_wt l (X := X) (unhide HE) (unhide HN).1
        have h2 := unhide HW
        have h3 := unhide HNl
        omega
      have HC := hide (checkR_any (putR T l X).1 0 W.heap.size _ W ((unhide HF).tree W (fun _ _ _ => rfl)) hwt (Nat.le_refl _))
      obtain ⟨y0, y1, y2, y3, y4⟩ := hbx.cells
      rw [if_neg (by simp)] at HS
      go_wp2_with fail
      refine (unhide HC).mono ?_
      rintro e w9 ⟨rfl, hb9⟩
      have hs9 := hb9.size
      have hbx9 := hbx.kept hb9 hhW
      have HB9 := hide ((unhide HF).b.kept hb9 (by omega))
      obtain ⟨r0, r1, r2, r3, r4⟩ := (unhide HB9).r.cells
      have rf0 := (unhide HB9).r.fr 0
      have rf1 := (unhide HB9).r.fr 1
      have rf2 := (unhide HB9).r.fr 2
      have rf3 := (unhide HB9).r.fr 3
      have rf4 := (unhide HB9).r.fr 4
      have HLs : Hid (∀ W' : World, (∀ k, k < W.heap.size → k ≠ w.heap.size + 1 + 1 → W'.heap[k]? = w9.heap[k]?) → Lies 0 W.heap.size W' (putR T l X).1 [.int .i64 k8, .bool x8, .slice g1 g2 g3, .slice g4 g5 g6, .slice g7 g8 g9]) := fun W' hW' => by
        refine (unhide HF).tree W' (fun k h1 h2 => ?_)
        rw [hW' k h1 h2, hb9.block k h1]
      clear y0 y1 y2 y3 y4 hbx hb9 HC
      by_cases hc : (chk (putR T l X).1 1 0).1 = 0
      case neg =>
        have hn1 := ne0 hc
        have HSr : Hid (putE T s X = .error (chk (putR T l X).1 1 0).1) := by show _ = _; rw [unhide HS, if_pos hc]
        clear hc HS
        generalize (chk (putR T l X).1 1 0).1 = c1 at *
        go_wp2_with fail
        rw [unhide HSr]
        refine bodyPost_ret (v := .tuple #[.agg zeroT.toArray, .int .i64 (c1 : Int)]) (by simp [results, Tryd.results26, go_sem, zeroT, r0, r1, r2, r3, r4]) rfl ⟨?_, rfl⟩
        exact below_set5 (unhide HB9).b (by omega) _ _ _ _ _
      case pos =>
        have HSr : Hid (putE T s X = .ok (putR T l X).1) := by show _ = _; rw [unhide HS, if_neg (by simp [hc])]
        rw [hc]
        clear hc
        obtain ⟨y0, y1, y2, y3, y4⟩ := hbx9.cells
        go_wp2_with fail
        rw [unhide HSr]
        refine bodyPost_ret (v := .tuple #[.agg #[.int .i64 k8, .bool x8, .slice g1 g2 g3, .slice g4 g5 g6, .slice g7 g8 g9], .int .i64 0]) (by simp [results, Tryd.results26, go_sem, r0, r1, r2, r3, r4]) rfl ⟨below_set5 (unhide HB9).b (by omega) _ _ _ _ _, ?_⟩
        refine ⟨[.int .i64 k8, .bool x8, .slice g1 g2 g3, .slice g4 g5 g6, .slice g7 g8 g9], rfl, ?_⟩
        rw [set5_eq]
        exact (unhide HLs _ (fun k _ h => set5_other _ _ _ _ _ _ _ _ h)).mono (Nat.le_refl _) (by rw [set5_size]; exact hs9)
end Go.Proofs.YthfjofmfiklegaaDoor
