/- NarBack, in the code. -/
import Derived.Test.YtikamklgelcnhaaDecS
namespace Go.Proofs.Ytikamklgelcnhaa
open Go.RowKit
set_option linter.unusedSimpArgs false
/-- A box that stands. -/
structure Box1 (w W : World) (t0 t1 t2 t3 t4 : Value) : Prop where
  b : Below w.heap.size w W
  s : w.heap.size + 1 ≤ W.heap.size
  t : Bx W w.heap.size t0 t1 t2 t3 t4
theorem Box1.kept {w W W' : World} {t0 t1 t2 t3 t4 : Value} (h : Box1 w W t0 t1 t2 t3 t4) {B : Nat} (hb : Below B W W') (hB : w.heap.size + 1 ≤ B) : Box1 w W' t0 t1 t2 t3 t4 :=
  ⟨h.b.trans (hb.mono (by omega)), by have := h.s; have := hb.size; omega, h.t.kept hb (by omega)⟩
set_option maxRecDepth 20000 in
set_option maxHeartbeats 4000000 in
theorem back_any (T : Tr) (B : List UInt8) (lo hi : Nat) (ct : List Value) (b : Value) (w : World) (hT : Lies lo hi w T ct) (hb : Row lo hi w b B.length (bv B)) (hlo : lo ≤ hi) (hhi : hi ≤ w.heap.size) (hF : Fit T) (hBm : B.length ≤ 140737488351232) :
    Calls Try.prog 5 #[.agg ct.toArray, b] w fun e w' => e = .returned (.bool true) ∧ Below w.heap.size w w' := by
  obtain ⟨kt, xt, at0, nt, ct, bt, mt, dt, et, pt, qt, rfl⟩ := hT.form
  obtain ⟨ab, cb, rfl, hcb⟩ := hb.slice
  obtain ⟨wA, hwA⟩ : ∃ wA, wA = w.alloc (.cells #[.int .i64 kt, .bool xt, .slice at0 nt ct, .slice bt mt dt, .slice et pt qt] 26) := ⟨_, rfl⟩
  have hbA : Below w.heap.size w wA := by rw [hwA]; exact (Below.refl _ _).alloc (Nat.le_refl _) _
  have hsA : wA.heap.size = w.heap.size + 1 := by rw [hwA]; simp
  have hB : Box1 w wA (.int .i64 kt) (.bool xt) (.slice at0 nt ct) (.slice bt mt dt) (.slice et pt qt) := ⟨hbA, by omega, by rw [hwA]; exact bx_new w _ _ _ _ _⟩
  have HL := hide (And.intro hT hb)
  have HH1 := hide (heavy_any T lo hi _ wA (hT.kept hbA hhi) hF (by omega))
  have HwA := hide hwA
  have HB := hide hB
  clear hwA hbA hT hb hF hB
  go_enter Try.func5, Try.ntmps5
  go_wp2_with fail
  rw [← unhide HwA]
  refine (unhide HH1).mono ?_
  rintro e w1 ⟨hb1, hans⟩
  have hs1 := hb1.size
  have HB1 := hide ((unhide HB).kept hb1 (by omega))
  clear hb1 HH1 HB HwA
  rcases hans with rfl | ⟨rfl, hwt⟩
  · go_wp2_with fail
    go_ret
    exact ⟨rfl, (unhide HB1).b⟩
  by_cases hbl : 20000 < B.length
  · generalize B.length = nb at *
    go_wp2_with fail
    go_ret
    exact ⟨rfl, (unhide HB1).b⟩
  have HE1 := hide (encode_any T lo hi _ w1 ((unhide HL).1.kept (unhide HB1).b hhi) hwt (by omega))
  obtain ⟨y0, y1, y2, y3, y4⟩ := (unhide HB1).t.cells
  go_wp2_with fail
  refine (unhide HE1).mono ?_
  rintro e w2 ⟨hb2, a2, c2, rfl, hr2⟩
  have hs2 := hb2.size
  have HB2 := hide ((unhide HB1).kept hb2 (by omega))
  have hl1 := enc_len hwt
  have HR2 := hide hr2
  clear hb2 HE1 HB1 y0 y1 y2 y3 y4 hr2
  by_cases hc : (chk T 1 0).1 = 0
  have HD := hide (decode_any w1.heap.size w2.heap.size _ (encS T) w2 (unhide HR2) hs2 (Nat.le_refl _) (by omega) (by rw [enc_ok hc]; simpa using wt_w hc hwt []))
  rw [enc_ok hc, dec_w hc] at HD
  rw [enc_ok hc, hc]
  clear HR2
  generalize (narB T).length = nn at *
  obtain ⟨y0, y1, y2, y3, y4⟩ := (unhide HB2).t.cells
  go_wp2_with fail
  refine (unhide HD).mono ?_
  rintro e w3 ⟨hb3, k3, x3, q1, r1, q2, o2, r2, q3, o3, r3, rfl, hL3, -⟩
  have hs3 := hb3.size
  have HB3 := hide ((unhide HB2).kept hb3 (by omega))
  have HL3 := hide hL3
  clear hb3 HD HB2 y0 y1 y2 y3 y4 hL3
  obtain ⟨y0, y1, y2, y3, y4⟩ := (unhide HB3).t.cells
  have hlt3 : w.heap.size < w3.heap.size := (unhide HB3).s
  go_wp2_with fail
  have hba : Below w3.heap.size w3 (w3.alloc (.cells #[.int .i64 k3, .bool x3, .slice q1 T.dat.size r1, .slice q2 o2 r2, .slice q3 o3 r3] 26)) := (Below.refl _ _).alloc (Nat.le_refl _) _
  have HBa := hide ((unhide HB3).kept hba (by omega))
  refine (equal_any T T lo hi w2.heap.size w3.heap.size _ _ _ ((unhide HL).1.kept (unhide HBa).b hhi) ((unhide HL3).kept hba (Nat.le_refl _)) (by omega) (by omega) (by have := hba.size; omega) hba.size).mono ?_
  rintro e wz ⟨hbz, hans⟩
  have hsz := hbz.size
  have HBZ := hide ((unhide HBa).kept hbz (by have := hba.size; omega))
  obtain rfl : e = .returned (.bool true) := by
    rcases hans with ⟨_, h⟩ | ⟨h, _⟩
    · exact h
    · exact absurd rfl h
  have hsw : w2.heap.size ≤ wz.heap.size := by have := hba.size; omega
  clear hba hbz hsz hans HBa HB3 HL3 y0 y1 y2 y3 y4 hlt3
  go_wp2_with fail
  rotate_left
  have hne := ne0 hc
  have HBZ := HB2
  obtain ⟨wz, hwz⟩ : ∃ wz, wz = w2 := ⟨_, rfl⟩
  rw [← hwz] at HBZ ⊢
  have hsw : w2.heap.size ≤ wz.heap.size := by rw [hwz]; exact Nat.le_refl _
  clear HB2 HR2 hc hwz
  generalize (chk T 1 0).1 = c1 at *
  generalize (encS T).length = nn at *
  go_wp2_with fail
  rotate_left
  all_goals
    have HDb := hide (decode_any lo hi _ B wz ((unhide HL).2.below (unhide HBZ).b hhi) hlo (by omega) (by omega) (wt_read (by omega)))
    have HDZ := hide (@dec_zero B)
    generalize decS B = R at *
    obtain ⟨V, g⟩ := R
    refine (unhide HDb).mono ?_
    rintro e w4 ⟨hb4, k4, x4, q4, r4, q5, o5, r5, q6, o6, r6, rfl, hL4, -⟩
    have hs4 := hb4.size
    have HB4 := hide ((unhide HBZ).kept hb4 (by have := (unhide HBZ).s; omega))
    have HL4 := hide hL4
    have HR4 := hide (((unhide HL).2.below (unhide HBZ).b hhi).below hb4 (by omega))
    clear hb4 HDb HBZ hL4
    by_cases hg : g = 0
    case neg =>
      have hbe : (g == 0) = false := by rw [beq_eq_false_iff_ne]; exact hg
      go_wp2_with fail
      refine (known_any _).mono ?_
      rintro e wk ⟨rfl, hbk⟩
      have hsk := hbk.size
      go_wp2_with fail
      go_ret
      exact ⟨rfl, (unhide HB4).b.trans (((Below.refl w4.heap.size w4).alloc (Nat.le_refl _) _).mono (by omega) |>.trans (hbk.mono (by simp; omega)))⟩
    subst hg
    obtain ⟨hcV, hBV, hwV⟩ := unhide HDZ rfl
    have hwV' : wt V ≤ 3000 := by have h : 8 * wt V ≤ B.length := hwV; omega
    have hEV : encS V = B := by rw [enc_ok hcV]; exact hBV.symm
    have hba : Below w4.heap.size w4 (w4.alloc (.cells #[.int .i64 k4, .bool x4, .slice q4 V.dat.size r4, .slice q5 o5 r5, .slice q6 o6 r6] 26)) := (Below.refl _ _).alloc (Nat.le_refl _) _
    have HE5 := hide (encode_any V wz.heap.size w4.heap.size _ _ ((unhide HL4).kept hba (Nat.le_refl _)) hwV' hba.size)
    unfold EncA at HE5
    rw [hEV, show (chk V 1 0).1 = 0 from hcV] at HE5
    have HBa := hide ((unhide HB4).kept hba (by omega))
    have HRa := hide ((unhide HR4).below hba (by omega))
    clear hba hwV hwV' hcV hBV HL4 HR4 HB4 hEV HDZ
    go_wp2_with fail
    generalize w4.alloc (.cells #[.int .i64 k4, .bool x4, .slice q4 V.dat.size r4, .slice q5 o5 r5, .slice q6 o6 r6] 26) = wa at *
    refine (unhide HE5).mono ?_
    rintro e w6 ⟨hb6, a6, c6, rfl, hr6⟩
    have hs6 := hb6.size
    have HB6 := hide ((unhide HBa).kept hb6 (unhide HBa).s)
    have HR6 := hide (And.intro hr6 ((unhide HRa).below hb6 (by have := (unhide HBa).s; omega)))
    clear hb6 HE5 HBa HRa hr6
    go_wp2_with fail
    refine (same_any _ _ _ _ a6 ab _ _ c6 cb B B w6 (unhide HR6).1 (unhide HR6).2 rfl rfl (by omega) (by omega)).mono ?_
    rintro e w7 ⟨⟨q7, hq7⟩, rfl⟩
    have hb7 : Below w6.heap.size w6 w7 := by rw [hq7]; exact below_drewN (Below.refl w6.heap.size w6) q7
    have hs7 := hb7.size
    have HB7 := hide ((unhide HB6).kept hb7 (unhide HB6).s)
    rw [decide_eq_true rfl]
    clear hb7 hq7 HB6 HR6
    go_wp2_with fail
    refine (known_any _).mono ?_
    rintro e wk ⟨rfl, hbk⟩
    have hsk := hbk.size
    go_wp2_with fail
    go_ret
    exact ⟨rfl, (unhide HB7).b.trans (hbk.mono (by have := (unhide HB7).s; omega))⟩
end Go.Proofs.Ytikamklgelcnhaa
