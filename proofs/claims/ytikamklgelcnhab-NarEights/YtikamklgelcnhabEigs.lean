/- NarEights, in the code. -/
import Derived.Test.YtikamklgelcnhabK7
import Derived.Test.YtikamklgelcnhabHsh
import Derived.Test.YtikamklgelcnhabLawA
import Derived.Test.YtikamklgelcnhabOne
namespace Go.Proofs.Ytikamklgelcnhab
open Go.RowKit Go.Great
set_option linter.unusedSimpArgs false
/-- A box that stands. -/
structure Box1 (w W : World) (t0 t1 t2 t3 t4 : Value) : Prop where
  b : Below w.heap.size w W
  s : w.heap.size + 1 ≤ W.heap.size
  t : Bx W w.heap.size t0 t1 t2 t3 t4
theorem Box1.kept {w W W' : World} {t0 t1 t2 t3 t4 : Value} (h : Box1 w W t0 t1 t2 t3 t4) {B : Nat} (hb : Below B W W') (hB : w.heap.size + 1 ≤ B) : Box1 w W' t0 t1 t2 t3 t4 :=
  ⟨h.b.trans (hb.mono (by omega)), by have := h.s; have := hb.size; omega, h.t.kept hb (by omega)⟩
theorem hashE_row (T : Tr) : ∃ l : List Nat, l.length = 32 ∧ hashE T = Dg.E8 l := by
  unfold hashE
  split
  · exact ⟨_, Dg.Sha.sumBehind_length _ _ _, rfl⟩
  · exact ⟨List.replicate 32 0, by simp, rfl⟩
set_option maxRecDepth 20000 in
set_option maxHeartbeats 4000000 in
theorem eights_any (T : Tr) (lo hi : Nat) (ct : List Value) (w : World) (hT : Lies lo hi w T ct) (hhi : hi ≤ w.heap.size) (hF : Fit T) :
    Calls Try.prog 3 #[.agg ct.toArray] w fun e w' => e = .returned (.bool true) ∧ Below w.heap.size w w' := by
  obtain ⟨kt, xt, at0, nt, ct, bt, mt, dt, et, pt, qt, rfl⟩ := hT.form
  obtain ⟨wA, hwA⟩ : ∃ wA, wA = w.alloc (.cells #[.int .i64 kt, .bool xt, .slice at0 nt ct, .slice bt mt dt, .slice et pt qt] 26) := ⟨_, rfl⟩
  have hbA : Below w.heap.size w wA := by rw [hwA]; exact (Below.refl _ _).alloc (Nat.le_refl _) _
  have hsA : wA.heap.size = w.heap.size + 1 := by rw [hwA]; simp
  have hB : Box1 w wA (.int .i64 kt) (.bool xt) (.slice at0 nt ct) (.slice bt mt dt) (.slice et pt qt) := ⟨hbA, by omega, by rw [hwA]; exact bx_new w _ _ _ _ _⟩
  have HL := hide hT
  have HH1 := hide (heavy_any T lo hi _ wA (hT.kept hbA hhi) hF (by omega))
  have HwA := hide hwA
  have HB := hide hB
  obtain ⟨l, hl, hH⟩ := hashE_row T
  have HHl := hide (And.intro hl hH)
  obtain ⟨cc, hcc⟩ : ∃ cc, (chk T 1 0).1 = cc := ⟨_, rfl⟩
  obtain ⟨nn, hnn⟩ : ∃ nn, (encS T).length = nn := ⟨_, rfl⟩
  have Hcc := hide hcc
  have Hnn := hide hnn
  clear hcc hnn hwA hbA hT hF hB hl hH
  go_enter Try.func3, Try.ntmps3
  go_wp2_with fail
  rw [← unhide HwA]
  refine (unhide HH1).mono ?_
  rintro e w1 ⟨hb1, hans⟩
  have hs1 := hb1.size
  have HB1 := hide ((unhide HB).kept hb1 (by omega))
  clear hb1 HH1 HB HwA
  rcases hans with rfl | ⟨rfl, hwt⟩
  · go_wp2_with fail
    go_ret
    exact ⟨rfl, (unhide HB1).b⟩
  have HE1 := hide (encode_any T lo hi _ w1 ((unhide HL).kept (unhide HB1).b hhi) hwt (by omega))
  have HW := hide hwt
  clear hwt
  obtain ⟨y0, y1, y2, y3, y4⟩ := (unhide HB1).t.cells
  have hlt1 : w.heap.size < w1.heap.size := (unhide HB1).s
  go_wp2_with fail
  refine (unhide HE1).mono ?_
  rintro e w2 ⟨hb2, a2, c2, rfl, hr2⟩
  rw [unhide Hnn, unhide Hcc]
  have hs2 := hb2.size
  have HB2 := hide ((unhide HB1).kept hb2 (by omega))
  clear hb2 HE1 HB1 y0 y1 y2 y3 y4 hr2
  have HE2 := hide (hash_any T lo hi _ w2 ((unhide HL).kept (unhide HB2).b hhi) (unhide HW) (by omega))
  obtain ⟨y0, y1, y2, y3, y4⟩ := (unhide HB2).t.cells
  have hlt2 : w.heap.size < w2.heap.size := by omega
  go_wp2_with fail
  refine (unhide HE2).mono ?_
  rintro e w3 ⟨hb3, rfl⟩
  rw [unhide Hnn, unhide Hcc, (unhide HHl).2]
  have hs3 := hb3.size
  have HB3 := hide ((unhide HB2).kept hb3 (by omega))
  clear hb3 HE2 HB2 y0 y1 y2 y3 y4
  obtain ⟨y0, y1, y2, y3, y4⟩ := (unhide HB3).t.cells
  have hlt3 : w.heap.size < w3.heap.size := by omega
  obtain ⟨wC, hwC⟩ : ∃ wC, wC = w3.alloc (.cells (Dg.E8 l) 32) := ⟨_, rfl⟩
  have hbC : Below w3.heap.size w3 wC := by rw [hwC]; exact (Below.refl _ _).alloc (Nat.le_refl _) _
  have hsC : wC.heap.size = w3.heap.size + 1 := by rw [hwC]; simp
  have HBC := hide ((unhide HB3).kept hbC (by omega))
  have HwC := hide hwC
  clear hwC hbC
  have hon : Dg.ones (Dg.E8 l) = true := by simp
  have hsz : (Dg.E8 l).size = 32 := by simp [(unhide HHl).1]
  by_cases hc : cc = 0
  case neg =>
    obtain rfl : nn = 0 := by rw [← unhide Hnn]; unfold encS; rw [if_neg (by rw [unhide Hcc]; exact hc)]; rfl
    have hn1 := ne0 hc
    clear hc
    go_wp2_with fail
    rw [← unhide HwC]
    refine (known_any _).mono ?_
    rintro e wk ⟨rfl, hbk⟩
    go_wp2_with fail
    go_ret
    exact ⟨rfl, (unhide HBC).b.trans (hbk.mono (by omega))⟩
  case pos =>
  subst hc
  have HC := hide (rcounts_any T lo hi _ wC ((unhide HL).kept (unhide HBC).b hhi) (by have := unhide HW; omega) (by omega))
  have hq := nar_eights (unhide Hcc)
  have hcs : countS T = (cn T, cb T) := by unfold countS; rw [if_pos (unhide Hcc)]
  have hnb : (narB T).length = nn := by rw [← unhide Hnn]; unfold encS; rw [if_pos (unhide Hcc)]
  rw [hnb] at hq
  rw [hcs] at HC
  clear hcs hnb
  generalize cn T = c1 at *
  generalize cb T = c2' at *
  go_wp2_with fail
  rw [← unhide HwC]
  refine (unhide HC).mono ?_
  rintro e w4 ⟨rfl, hb4⟩
  have hs4 := hb4.size
  have HB4 := hide ((unhide HBC).kept hb4 (by omega))
  clear hb4 HC HB3 HBC HwC y0 y1 y2 y3 y4
  have hq1 : (nn : Int) % 8 = 0 := by omega
  have hq2 : c2' ≤ nn := hq.2
  clear hq
  go_wp2_with fail
  refine (known_any _).mono ?_
  rintro e wk ⟨rfl, hbk⟩
  go_wp2_with fail
  go_ret
  exact ⟨rfl, (unhide HB4).b.trans (hbk.mono (by omega))⟩
end Go.Proofs.Ytikamklgelcnhab
