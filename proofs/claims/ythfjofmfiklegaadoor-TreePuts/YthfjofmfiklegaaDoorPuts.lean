/- TreePuts, in the code. -/
import Derived.Test.YthfjofmfiklegaaDoorPlaces
import Derived.Test.YthfjofmfiklegaaDoorRefPut
namespace Go.Proofs.YthfjofmfiklegaaDoor
open Go.RowKit
set_option linter.unusedSimpArgs false
theorem putS_wt' {T X : Tr} {s : ByteArray} (h1 : wt T ≤ 3000) (h2 : wt X ≤ 3000) : wt (resT (putS T s X)) ≤ 100000 := by
  cases hr : putS T s X with
  | error n => show wt zeroTr ≤ _; rw [wt_zero]; omega
  | ok W => have := putS_wt hr; show wt W ≤ _; omega
set_option maxRecDepth 20000 in
set_option maxHeartbeats 8000000 in
theorem puts_any (T U : Tr) (p : ByteArray) (lo hi : Nat) (ct cu : List Value) (w : World) (hT : Lies lo hi w T ct) (hU : Lies lo hi w U cu) (hhi : hi ≤ w.heap.size) (hF : Fit T) (hG : Fit U) (hp : p.size ≤ 140737488351232) :
    Calls Tryd.prog 6 #[.agg ct.toArray, .string p, .agg cu.toArray] w fun e w' => e = .returned (.bool true) ∧ Below w.heap.size w w' := by
  obtain ⟨kt, xt, at0, nt, ct, bt, mt, dt, et, pt, qt, rfl⟩ := hT.form
  obtain ⟨ku, xu, au, nu, cu, bu, mu, du, eu, pu, qu, rfl⟩ := hU.form
  obtain ⟨wA, hwA⟩ : ∃ wA, wA = ((w.alloc (.cells #[.int .i64 kt, .bool xt, .slice at0 nt ct, .slice bt mt dt, .slice et pt qt] 26)).alloc (.cells #[.int .i64 ku, .bool xu, .slice au nu cu, .slice bu mu du, .slice eu pu qu] 26)).alloc (.cells #[.int .i64 kt, .bool xt, .slice at0 nt ct, .slice bt mt dt, .slice et pt qt, .int .i64 ku, .bool xu, .slice au nu cu, .slice bu mu du, .slice eu pu qu] 26) := ⟨_, rfl⟩
  have hbA : Below w.heap.size w wA := by rw [hwA]; exact (((Below.refl _ _).alloc (Nat.le_refl _) _).alloc (by simp) _).alloc (by simp; omega) _
  have hsA : wA.heap.size = w.heap.size + 1 + 1 + 1 := by rw [hwA]; simp
  have hB : BoxTU w wA (.int .i64 kt) (.bool xt) (.slice at0 nt ct) (.slice bt mt dt) (.slice et pt qt) (.int .i64 ku) (.bool xu) (.slice au nu cu) (.slice bu mu du) (.slice eu pu qu) := by
    refine ⟨hbA, by omega, ?_, ?_⟩
    · rw [hwA]; exact (bx_new w _ _ _ _ _).kept (((Below.refl (w.heap.size + 1) _).alloc (by simp) _).alloc (by simp) _) (by omega)
    · rw [hwA]
      have := (bx_new (w.alloc (.cells #[.int .i64 kt, .bool xt, .slice at0 nt ct, .slice bt mt dt, .slice et pt qt] 26)) (.int .i64 ku) (.bool xu) (.slice au nu cu) (.slice bu mu du) (.slice eu pu qu)).kept ((Below.refl (w.heap.size + 1 + 1) _).alloc (by simp) (.cells #[.int .i64 kt, .bool xt, .slice at0 nt ct, .slice bt mt dt, .slice et pt qt, .int .i64 ku, .bool xu, .slice au nu cu, .slice bu mu du, .slice eu pu qu] 26)) (by simp)
      simpa using this
  have hby : wA.heap[w.heap.size + 1 + 1]? = some (.cells #[.int .i64 kt, .bool xt, .slice at0 nt ct, .slice bt mt dt, .slice et pt qt, .int .i64 ku, .bool xu, .slice au nu cu, .slice bu mu du, .slice eu pu qu] 26) := by
    rw [hwA]
    show (((w.heap.push _).push _).push _)[w.heap.size + 1 + 1]? = _
    rw [Array.getElem?_push, if_pos (by simp)]
  have HH := hide (heavy2 T U lo hi (w.heap.size + 1 + 1) _ _ _ _ _ _ _ _ _ _ wA (hT.kept hbA hhi) (hU.kept hbA hhi) (by omega) hF hG hby)
  have HL := hide (And.intro hT hU)
  have HwA := hide hwA
  have HB := hide hB
  clear hwA hbA hby hT hU hF hG hB
  go_enter Tryd.func6, Tryd.ntmps6
  go_wp2_with fail
  rw [← unhide HwA]
  refine (unhide HH).mono ?_
  rintro e w1 ⟨hb1, hans⟩
  have hs1 := hb1.size
  have HB1 := hide ((unhide HB).kept hb1 (by omega))
  clear hb1 HH HB HwA
  rcases hans with rfl | ⟨rfl, hwt⟩
  · go_wp2_with fail
    go_ret
    exact ⟨rfl, (unhide HB1).b⟩
  by_cases hlen : 600 < p.size
  · go_wp2_with fail
    go_ret
    exact ⟨rfl, (unhide HB1).b⟩
  have HP : Hid (p.size ≤ 600) := by show _ ≤ _; omega
  have hs1' := (unhide HB1).s
  have HC := hide (cloneR_any T lo hi _ w1 ((unhide HL).1.kept (unhide HB1).b hhi) (by omega) (by omega))
  obtain ⟨y0, y1, y2, y3, y4⟩ := (unhide HB1).t.cells
  have hl1 : w.heap.size < w1.heap.size := by omega
  go_wp2_with fail
  clear hlen hp
  refine (unhide HC).mono ?_
  rintro e w2 ⟨cs', rfl, hb2, hL2⟩
  obtain ⟨j0, j1, f1, g1, h1, f2, g2, h2, f3, g3, h3, rfl⟩ := hL2.form
  have hs2 := hb2.size
  obtain ⟨w3, hw3, hb3, hs3, hx3⟩ := box_new w2 (.int .i64 j0) (.bool j1) (.slice f1 g1 h1) (.slice f2 g2 h2) (.slice f3 g3 h3)
  have HB3 := hide (((unhide HB1).kept hb2 (by omega)).kept hb3 (by omega))
  have HLx3 := hide (hL2.kept hb3 (Nat.le_refl _))
  have HC2 := hide (cloneR_any U lo hi _ w3 ((unhide HL).2.kept (unhide HB3).b hhi) (by omega) (by omega))
  have c2 := ((unhide HB1).kept hb2 (by omega)).x.cells
  have Hw3 := hide hw3
  clear hw3 hb2 hb3 hL2 HC HB1 y0 y1 y2 y3 y4
  obtain ⟨y0, y1, y2, y3, y4⟩ := c2
  have hl2 : w.heap.size + 1 < w2.heap.size := by omega
  go_wp2_with fail
  rw [← unhide Hw3]
  refine (unhide HC2).mono ?_
  rintro e w4 ⟨cs4, rfl, hb4, hL4⟩
  obtain ⟨l0, l1, m1, m2, m3, m4, m5, m6, m7, m8, m9, rfl⟩ := hL4.form
  have hs4 := hb4.size
  obtain ⟨w5, hw5, hb5, hs5, hx5⟩ := box_new w4 (.int .i64 l0) (.bool l1) (.slice m1 m2 m3) (.slice m4 m5 m6) (.slice m7 m8 m9)
  have HB5 := hide (((unhide HB3).kept hb4 (by omega)).kept hb5 (by omega))
  have HLx5 := hide (((unhide HLx3).kept hb4 (by omega)).kept hb5 (by omega))
  have HLy5 := hide (hL4.kept hb5 (Nat.le_refl _))
  have HX5 := hide ((hx3.kept hb4 (by omega)).kept hb5 (by omega))
  have HPu := hide (put_any T U p w1.heap.size w2.heap.size w3.heap.size w4.heap.size _ _ w5 (unhide HLx5) (unhide HLy5) (by omega) (by omega) (by omega) (by omega) (by have := unhide HP; omega))
  have c4 := (hx3.kept hb4 (by omega)).cells
  have Hw5 := hide hw5
  clear hw5 hb4 hb5 hL4 HC2 HB3 HLx3 y0 y1 y2 y3 y4 Hw3 hx3
  obtain ⟨y0, y1, y2, y3, y4⟩ := c4
  have hl4 : w2.heap.size < w4.heap.size := by omega
  go_wp2_with fail
  rw [← unhide Hw5]
  refine (unhide HPu).mono ?_
  rintro e w6 ⟨hb6, hans⟩
  obtain ⟨ak, ab, aa, an, ac, ba, bn, bc, da, dn, dc, rfl, hOa⟩ := putA_own hans
  have hs6 := hb6.size
  obtain ⟨w7, hw7, hb7, hs7, hx7⟩ := box_new w6 (.int .i64 ak) (.bool ab) (.slice aa an ac) (.slice ba bn bc) (.slice da dn dc)
  have HB7 := hide (((unhide HB5).kept hb6 (by omega)).kept hb7 (by omega))
  have HLx7 := hide (((unhide HLx5).kept hb6 (by omega)).kept hb7 (by omega))
  have HLy7 := hide (((unhide HLy5).kept hb6 (by omega)).kept hb7 (by omega))
  have HX7 := hide (((unhide HX5).kept hb6 (by omega)).kept hb7 (by omega))
  have HY7 := hide ((hx5.kept hb6 (by omega)).kept hb7 (by omega))
  have HOa := hide (hOa.same (w' := w7) (fun k _ h2 => hb7.block k h2))
  have HR := hide (refPut_any T U p lo hi lo hi _ _ w7 ((unhide HL).1.kept (unhide HB7).b hhi) ((unhide HL).2.kept (unhide HB7).b hhi) (by omega) (by omega) (by omega) (by omega) (by have := unhide HP; omega))
  rw [putE_putS] at HR
  have Hw7 := hide hw7
  have c6 := ((unhide HB5).kept hb6 (by omega)).t.cells
  have d6 := ((unhide HB5).kept hb6 (by omega)).x.cells
  have HRw : Hid (wt (resT (putS T p U)) ≤ 100000) := putS_wt' (by omega) (by omega)
  have HAt : Hid (resN (putS T p U) = 0 → atE (resT (putS T p U)) p = .ok U) := fun h => by
    obtain ⟨W, hW⟩ := putS_ok h
    rw [hW]; exact put_at hW
  clear hans hOa hw7 hb6 hb7 HPu HB5 HLx5 HLy5 HX5 y0 y1 y2 y3 y4 Hw5 hx5
  generalize putS T p U = res at *
  obtain ⟨y0, y1, y2, y3, y4⟩ := c6
  obtain ⟨z0, z1, z2, z3, z4⟩ := d6
  have hl6 : w.heap.size < w6.heap.size := by omega
  have hl6' : w.heap.size + 1 < w6.heap.size := by omega
  go_wp2_with fail
  rw [← unhide Hw7]
  refine (unhide HR).mono ?_
  rintro e w8 ⟨hb8, hans⟩
  obtain ⟨rk, rb, ra, rn, rc, sa, sn, sc, ua, un, uc, he, hLr⟩ := refA_res hans
  subst he
  have hs8 := hb8.size
  obtain ⟨w9, hw9, hb9, hs9, hx9⟩ := box_new w8 (.int .i64 rk) (.bool rb) (.slice ra rn rc) (.slice sa sn sc) (.slice ua un uc)
  have HB9 := hide (((unhide HB7).kept hb8 (by omega)).kept hb9 (by omega))
  have HLx9 := hide (((unhide HLx7).kept hb8 (by omega)).kept hb9 (by omega))
  have HLy9 := hide (((unhide HLy7).kept hb8 (by omega)).kept hb9 (by omega))
  have HX9 := hide (((unhide HX7).kept hb8 (by omega)).kept hb9 (by omega))
  have HY9 := hide (((unhide HY7).kept hb8 (by omega)).kept hb9 (by omega))
  have HA9 := hide ((hx7.kept hb8 (by omega)).kept hb9 (by omega))
  have HOa9 := hide ((unhide HOa).same (w' := w9) (fun k _ h2 => by rw [hb9.block k (by omega), hb8.block k (by omega)]))
  have HEq := hide (equal_any (resT res) (resT res) w5.heap.size w6.heap.size 0 w8.heap.size _ _ w9 (unhide HOa9).lies (hLr.kept hb9 (Nat.le_refl _)) (unhide HRw) (unhide HRw) (by omega) (by omega))
  have Hw9 := hide hw9
  have c8 := (hx7.kept hb8 (by omega)).cells
  clear hans hLr hw9 hb8 hb9 HR HB7 HLx7 HLy7 HX7 HY7 HOa y0 y1 y2 y3 y4 z0 z1 z2 z3 z4 Hw7 hx7
  generalize hrn : resN res = rn' at *
  obtain ⟨y0, y1, y2, y3, y4⟩ := c8
  have hl8 : w6.heap.size < w8.heap.size := by omega

  clear hrn
  go_wp2_with fail
  rw [← unhide Hw9]
  refine (unhide HEq).mono ?_
  rintro e w10 ⟨hb10, hans⟩
  have hs10 := hb10.size
  obtain rfl : e = .returned (.bool true) := by
    rcases hans with ⟨_, h⟩ | ⟨h, _⟩
    · exact h
    · exact absurd rfl h
  have HB10 := hide ((unhide HB9).kept hb10 (by omega))
  have HLx10 := hide ((unhide HLx9).kept hb10 (by omega))
  have HLy10 := hide ((unhide HLy9).kept hb10 (by omega))
  have HX10 := hide ((unhide HX9).kept hb10 (by omega))
  have HY10 := hide ((unhide HY9).kept hb10 (by omega))
  have HA10 := hide ((unhide HA9).kept hb10 (by omega))
  have HOa10 := hide ((unhide HOa9).same (w' := w10) (fun k _ h2 => hb10.block k (by omega)))
  clear hans hb10 HEq HB9 HLx9 HLy9 HX9 HY9 HA9 HOa9 y0 y1 y2 y3 y4 Hw9 hx9
  -- behind: what was handed in stays
  have HEnd : Hid (∀ w12 : World, Below w10.heap.size w10 w12 → Calls Tryd.prog 24 #[.agg #[.int .i64 ak, .bool ab, .slice aa an ac, .slice ba bn bc, .slice da dn dc]] w12 fun e w13 => e = .returned (.tuple #[]) ∧ Below w5.heap.size w12 w13) := fun w12 h12 => by
    have hO := (unhide HOa10).same (w' := w12) (fun k _ h2 => h12.block k (by omega))
    have hs12 := h12.size
    exact (spoilt_any (resT res) w5.heap.size w6.heap.size _ w12 hO (by omega) (unhide HRw)).mono (fun e w' ⟨h1, h2⟩ => ⟨h1, h2.below (by omega)⟩)
  by_cases hr0 : rn' = 0
  case pos =>
    subst hr0
    have HA := hide (ats_any (resT res) p w5.heap.size w6.heap.size _ w10 (unhide HOa10).lies (by omega) (unhide HRw) (by have := unhide HP; omega))
    rw [unhide HAt rfl] at HA
    obtain ⟨y0, y1, y2, y3, y4⟩ := (unhide HA10).cells
    go_wp2_with fail
    refine (unhide HA).mono ?_
    rintro e w11 ⟨hb11, hans⟩
    obtain ⟨ck, cb, ca, cn, cc, ea, en, ec, fa, fn, fc, rfl, hLc⟩ := putA_res hans
    have hs11 := hb11.size
    obtain ⟨w12, hw12, hb12, hs12, hx12⟩ := box_new w11 (.int .i64 ck) (.bool cb) (.slice ca cn cc) (.slice ea en ec) (.slice fa fn fc)
    have HB12 := hide (((unhide HB10).kept hb11 (by omega)).kept hb12 (by omega))
    have hb1012 : Below w10.heap.size w10 w12 := hb11.trans (hb12.mono hs11)
    have HEq2 := hide (equal_any U U w10.heap.size w11.heap.size lo hi _ _ w12 (hLc.kept hb12 (Nat.le_refl _)) ((unhide HL).2.kept (unhide HB12).b hhi) (by omega) (by omega) (by omega) (by omega))
    have Hw12 := hide hw12
    have c11 := ((unhide HB10).kept hb11 (by omega)).x.cells
    have Hb1012 := hide hb1012
    clear hans hLc hw12 hb11 hb12 HA y0 y1 y2 y3 y4 hb1012
    obtain ⟨y0, y1, y2, y3, y4⟩ := c11
    have hl11 : w.heap.size + 1 < w11.heap.size := by omega
    go_wp2_with fail
    rw [← unhide Hw12]
    refine (unhide HEq2).mono ?_
    rintro e w13 ⟨hb13, hans⟩
    have hs13 := hb13.size
    obtain rfl : e = .returned (.bool true) := by
      rcases hans with ⟨_, h⟩ | ⟨h, _⟩
      · exact h
      · exact absurd rfl h
    have hb1013 : Below w10.heap.size w10 w13 := (unhide Hb1012).trans (hb13.mono (by omega))
    have HSp := hide (unhide HEnd w13 hb1013)
    have c13 := ((unhide HA10).kept hb1013 (by omega)).cells
    have HB13 := hide ((unhide HB10).kept hb1013 (by omega))
    have HX13 := hide ((unhide HX10).kept hb1013 (by omega))
    have HY13 := hide ((unhide HY10).kept hb1013 (by omega))
    have HLx13 := hide ((unhide HLx10).kept hb1013 (by omega))
    have HLy13 := hide ((unhide HLy10).kept hb1013 (by omega))
    clear hans hb13 HEq2 y0 y1 y2 y3 y4 Hw12 hx12 hb1013
    obtain ⟨y0, y1, y2, y3, y4⟩ := c13
    go_wp2_with fail
    refine (unhide HSp).mono ?_
    rintro e w14 ⟨rfl, hb14⟩
    have hs14 := hb14.size
    have HB14 := hide ((unhide HB13).kept hb14 (by omega))
    have HX14 := hide ((unhide HX13).kept hb14 (by omega))
    have HY14 := hide ((unhide HY13).kept hb14 (by omega))
    have HE14 := hide (equal_any T T w1.heap.size w2.heap.size lo hi _ _ w14 ((unhide HLx13).kept hb14 (by omega)) ((unhide HL).1.kept (unhide HB14).b hhi) (by omega) (by omega) (by omega) (by omega))
    have HLy14 := hide ((unhide HLy13).kept hb14 (by omega))
    have c14 := (unhide HX14).cells
    have d14 := (unhide HB14).t.cells
    clear hb14 HSp y0 y1 y2 y3 y4 HB13 HX13 HY13 HLx13 HLy13
    obtain ⟨y0, y1, y2, y3, y4⟩ := c14
    obtain ⟨z0, z1, z2, z3, z4⟩ := d14
    go_wp2_with fail
    refine (unhide HE14).mono ?_
    rintro e w15 ⟨hb15, hans⟩
    have hs15 := hb15.size
    obtain rfl : e = .returned (.bool true) := by
      rcases hans with ⟨_, h⟩ | ⟨h, _⟩
      · exact h
      · exact absurd rfl h
    have HB15 := hide ((unhide HB14).kept hb15 (by omega))
    have HY15 := hide ((unhide HY14).kept hb15 (by omega))
    have HE15 := hide (equal_any U U w3.heap.size w4.heap.size lo hi _ _ w15 ((unhide HLy14).kept hb15 (by omega)) ((unhide HL).2.kept (unhide HB15).b hhi) (by omega) (by omega) (by omega) (by omega))
    have c15 := (unhide HY15).cells
    have d15 := (unhide HB15).x.cells
    clear hans hb15 HE14 y0 y1 y2 y3 y4 z0 z1 z2 z3 z4
    obtain ⟨y0, y1, y2, y3, y4⟩ := c15
    obtain ⟨z0, z1, z2, z3, z4⟩ := d15
    go_wp2_with fail
    refine (unhide HE15).mono ?_
    rintro e w16 ⟨hb16, hans⟩
    have hs16 := hb16.size
    obtain rfl : e = .returned (.bool true) := by
      rcases hans with ⟨_, h⟩ | ⟨h, _⟩
      · exact h
      · exact absurd rfl h
    have HB16 := hide ((unhide HB15).b.trans (hb16.mono (by omega)))
    clear hans hb16 HE15 y0 y1 y2 y3 y4 z0 z1 z2 z3 z4
    go_wp2_with fail
    refine (known_any _).mono ?_
    rintro e wk ⟨rfl, hbk⟩
    have hsk := hbk.size
    go_wp2_with fail
    go_ret
    exact ⟨rfl, (unhide HB16).trans (hbk.mono (by omega))⟩
  case neg =>
    have hne := ne0 hr0
    clear hr0
    have hb1013 : Below w10.heap.size w10 w10 := Below.refl _ _
    have HSp := hide (unhide HEnd w10 hb1013)
    obtain ⟨y0, y1, y2, y3, y4⟩ := (unhide HA10).cells
    clear hb1013
    go_wp2_with fail
    refine (unhide HSp).mono ?_
    rintro e w14 ⟨rfl, hb14⟩
    have hs14 := hb14.size
    have HB14 := hide ((unhide HB10).kept hb14 (by omega))
    have HX14 := hide ((unhide HX10).kept hb14 (by omega))
    have HY14 := hide ((unhide HY10).kept hb14 (by omega))
    have HE14 := hide (equal_any T T w1.heap.size w2.heap.size lo hi _ _ w14 ((unhide HLx10).kept hb14 (by omega)) ((unhide HL).1.kept (unhide HB14).b hhi) (by omega) (by omega) (by omega) (by omega))
    have HLy14 := hide ((unhide HLy10).kept hb14 (by omega))
    have c14 := (unhide HX14).cells
    have d14 := (unhide HB14).t.cells
    clear hb14 HSp y0 y1 y2 y3 y4
    obtain ⟨y0, y1, y2, y3, y4⟩ := c14
    obtain ⟨z0, z1, z2, z3, z4⟩ := d14
    go_wp2_with fail
    refine (unhide HE14).mono ?_
    rintro e w15 ⟨hb15, hans⟩
    have hs15 := hb15.size
    obtain rfl : e = .returned (.bool true) := by
      rcases hans with ⟨_, h⟩ | ⟨h, _⟩
      · exact h
      · exact absurd rfl h
    have HB15 := hide ((unhide HB14).kept hb15 (by omega))
    have HY15 := hide ((unhide HY14).kept hb15 (by omega))
    have HE15 := hide (equal_any U U w3.heap.size w4.heap.size lo hi _ _ w15 ((unhide HLy14).kept hb15 (by omega)) ((unhide HL).2.kept (unhide HB15).b hhi) (by omega) (by omega) (by omega) (by omega))
    have c15 := (unhide HY15).cells
    have d15 := (unhide HB15).x.cells
    clear hans hb15 HE14 y0 y1 y2 y3 y4 z0 z1 z2 z3 z4
    obtain ⟨y0, y1, y2, y3, y4⟩ := c15
    obtain ⟨z0, z1, z2, z3, z4⟩ := d15
    go_wp2_with fail
    refine (unhide HE15).mono ?_
    rintro e w16 ⟨hb16, hans⟩
    have hs16 := hb16.size
    obtain rfl : e = .returned (.bool true) := by
      rcases hans with ⟨_, h⟩ | ⟨h, _⟩
      · exact h
      · exact absurd rfl h
    have HB16 := hide ((unhide HB15).b.trans (hb16.mono (by omega)))
    clear hans hb16 HE15 y0 y1 y2 y3 y4 z0 z1 z2 z3 z4
    go_wp2_with fail
    refine (known_any _).mono ?_
    rintro e wk ⟨rfl, hbk⟩
    have hsk := hbk.size
    go_wp2_with fail
    go_ret
    exact ⟨rfl, (unhide HB16).trans (hbk.mono (by omega))⟩
end Go.Proofs.YthfjofmfiklegaaDoor
