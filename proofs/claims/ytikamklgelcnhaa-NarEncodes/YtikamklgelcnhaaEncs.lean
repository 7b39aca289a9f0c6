/- NarEncodes, in the code. -/
import Derived.Test.YtikamklgelcnhaaRefh
import Derived.Test.YtikamklgelcnhaaK11
import Derived.Test.YtikamklgelcnhaaK6
import Derived.Test.YtikamklgelcnhaaDgEq
import Derived.Deep.RegionHeld3
namespace Go.Proofs.Ytikamklgelcnhaa
open Go.RowKit Go.Great
set_option linter.unusedSimpArgs false
/-- Two boxes that stand: the tree that was given, and its copy. -/
structure Box2 (T : Tr) (w w1 w2 W : World) (t0 t1 t2 t3 t4 x0 x1 x2 x3 x4 : Value) : Prop where
  t : Box1 w W t0 t1 t2 t3 t4
  s : w2.heap.size + 1 ≤ W.heap.size
  x : Bx W w2.heap.size x0 x1 x2 x3 x4
  l : Lies w1.heap.size w2.heap.size W T [x0, x1, x2, x3, x4]
theorem Box2.kept {T : Tr} {w w1 w2 W W' : World} {t0 t1 t2 t3 t4 x0 x1 x2 x3 x4 : Value} (h : Box2 T w w1 w2 W t0 t1 t2 t3 t4 x0 x1 x2 x3 x4) {B : Nat} (hb : Below B W W') (hB : w2.heap.size + 1 ≤ B) (hB' : w.heap.size + 1 ≤ B) : Box2 T w w1 w2 W' t0 t1 t2 t3 t4 x0 x1 x2 x3 x4 :=
  ⟨h.t.kept hb hB', by have := h.s; have := hb.size; omega, h.x.kept hb (by omega), h.l.kept hb (by omega)⟩
theorem hashE_row (T : Tr) : ∃ l : List Nat, l.length = 32 ∧ hashE T = Dg.E8 l := by
  unfold hashE
  split
  · exact ⟨_, Dg.Sha.sumBehind_length _ _ _, rfl⟩
  · exact ⟨List.replicate 32 0, by simp, rfl⟩
set_option maxRecDepth 20000 in
set_option maxHeartbeats 4000000 in
theorem encodes_any (T : Tr) (lo hi : Nat) (ct : List Value) (w : World) (hT : Lies lo hi w T ct) (hhi : hi ≤ w.heap.size) (hF : Fit T) :
    Calls Try.prog 3 #[.agg ct.toArray] w fun e w' => e = .returned (.bool true) ∧ Below w.heap.size w w' := by
  obtain ⟨kt, xt, at0, nt, ct, bt, mt, dt, et, pt, qt, rfl⟩ := hT.form
  obtain ⟨wA, hwA⟩ : ∃ wA, wA = w.alloc (.cells #[.int .i64 kt, .bool xt, .slice at0 nt ct, .slice bt mt dt, .slice et pt qt] 26) := ⟨_, rfl⟩
  have hbA : Below w.heap.size w wA := by rw [hwA]; exact (Below.refl _ _).alloc (Nat.le_refl _) _
  have hsA : wA.heap.size = w.heap.size + 1 := by rw [hwA]; simp
  have hB : Box1 w wA (.int .i64 kt) (.bool xt) (.slice at0 nt ct) (.slice bt mt dt) (.slice et pt qt) := ⟨hbA, by omega, by rw [hwA]; exact bx_new w _ _ _ _ _⟩
  have HL := hide hT
  have HH1 := hide (heavy_any T lo hi _ wA (hT.kept hbA hhi) hF (by omega))
  have HwA := hide hwA
  have HB := hide hB
  obtain ⟨l, hl, hH⟩ := hashE_row T
  have HHl := hide (And.intro hl hH)
  obtain ⟨cc, hcc⟩ : ∃ cc, (chk T 1 0).1 = cc := ⟨_, rfl⟩
  obtain ⟨nn, hnn⟩ : ∃ nn, (encS T).length = nn := ⟨_, rfl⟩
  have Hcc := hide hcc
  have Hnn := hide hnn
  clear hcc hnn hwA hbA hT hF hB hl hH
  go_enter Try.func3, Try.ntmps3
  go_wp2_with fail
  rw [← unhide HwA]
  refine (unhide HH1).mono ?_
  rintro e w1 ⟨hb1, hans⟩
  have hs1 := hb1.size
  have HB1 := hide ((unhide HB).kept hb1 (by omega))
  clear hb1 HH1 HB HwA
  rcases hans with rfl | ⟨rfl, hwt⟩
  · go_wp2_with fail
    go_ret
    exact ⟨rfl, (unhide HB1).b⟩
  have HC := hide (cloneR_any T lo hi _ w1 ((unhide HL).kept (unhide HB1).b hhi) (by omega) (by omega))
  obtain ⟨y0, y1, y2, y3, y4⟩ := (unhide HB1).t.cells
  have hlt1 : w.heap.size < w1.heap.size := (unhide HB1).s
  have HW := hide hwt
  have HE2 := hide (enc_len hwt)
  clear hwt
  go_wp2_with fail
  refine (unhide HC).mono ?_
  rintro e w2 ⟨cs2, rfl, hb2, hL2⟩
  obtain ⟨k2, x2, q1, o1, r1, q2, o2, r2, q3, o3, r3, rfl⟩ := hL2.form
  have hs2 := hb2.size
  have HB2 := hide ((unhide HB1).kept hb2 (by omega))
  have HL2 := hide hL2
  clear hb2 HC HB1 y0 y1 y2 y3 y4 hL2
  obtain ⟨y0, y1, y2, y3, y4⟩ := (unhide HB2).t.cells
  have hlt2 : w.heap.size < w2.heap.size := by omega
  go_wp2_with fail
  obtain ⟨wB, hwB⟩ : ∃ wB, wB = w2.alloc (.cells #[.int .i64 k2, .bool x2, .slice q1 o1 r1, .slice q2 o2 r2, .slice q3 o3 r3] 26) := ⟨_, rfl⟩
  have hbB : Below w2.heap.size w2 wB := by rw [hwB]; exact (Below.refl _ _).alloc (Nat.le_refl _) _
  have hsB : wB.heap.size = w2.heap.size + 1 := by rw [hwB]; simp
  have hB : Box2 T w w1 w2 wB (.int .i64 kt) (.bool xt) (.slice at0 nt ct) (.slice bt mt dt) (.slice et pt qt) (.int .i64 k2) (.bool x2) (.slice q1 o1 r1) (.slice q2 o2 r2) (.slice q3 o3 r3) :=
    ⟨(unhide HB2).kept hbB (by omega), by omega, by rw [hwB]; exact bx_new w2 _ _ _ _ _, (unhide HL2).kept hbB (Nat.le_refl _)⟩
  rw [← hwB]
  have HB := hide hB
  have HE := hide (encode_any T w1.heap.size w2.heap.size _ wB hB.l (unhide HW) (by omega))
  clear hwB hbB hB HB2 HL2 y0 y1 y2 y3 y4
  refine (unhide HE).mono ?_
  rintro e w3 ⟨hb3, a3, c3, rfl, hr3⟩
  rw [unhide Hnn] at hr3
  rw [unhide Hnn, unhide Hcc]
  have hs3 := hb3.size
  have HB3 := hide ((unhide HB).kept hb3 (by omega) (by omega))
  have HR3 := hide hr3
  have HE4 := hide (eencode_any T lo hi _ w3 ((unhide HL).kept (unhide HB3).t.b hhi) (unhide HW) (by omega))
  clear HB HE hb3 hr3
  obtain ⟨y0, y1, y2, y3, y4⟩ := (unhide HB3).t.t.cells
  obtain ⟨z0, z1, z2, z3, z4⟩ := (unhide HB3).x.cells
  have hlt3 : w.heap.size < w3.heap.size := by omega
  have hlx3 : w2.heap.size < w3.heap.size := by omega
  go_wp2_with fail
  refine (unhide HE4).mono ?_
  rintro e w4 ⟨hb4, a4, c4, rfl, hr4⟩
  rw [unhide Hnn] at hr4
  rw [unhide Hnn, unhide Hcc]
  have hs4 := hb4.size
  have HB4 := hide ((unhide HB3).kept hb4 (by omega) (by omega))
  have HR4 := hide (And.intro ((unhide HR3).below hb4 (Nat.le_refl _)) hr4)
  clear HB3 HE4 hb4 hr4 HR3 y0 y1 y2 y3 y4 z0 z1 z2 z3 z4 hlt3 hlx3
  obtain ⟨y0, y1, y2, y3, y4⟩ := (unhide HB4).t.t.cells
  obtain ⟨z0, z1, z2, z3, z4⟩ := (unhide HB4).x.cells
  have hlt4 : w.heap.size < w4.heap.size := by omega
  have hlx4 : w2.heap.size < w4.heap.size := by omega
  have HE5 := hide (hash_any T w1.heap.size w2.heap.size _ w4 (unhide HB4).l (unhide HW) (by omega))
  go_wp2_with fail
  refine (unhide HE5).mono ?_
  rintro e w5 ⟨hb5, rfl⟩
  rw [unhide Hnn, unhide Hcc, (unhide HHl).2]
  have hs5 := hb5.size
  have HB5 := hide ((unhide HB4).kept hb5 (by omega) (by omega))
  have HR5 := hide (And.intro ((unhide HR4).1.below hb5 (by omega)) ((unhide HR4).2.below hb5 (Nat.le_refl _)))
  clear HB4 HE5 hb5 HR4 y0 y1 y2 y3 y4 z0 z1 z2 z3 z4 hlt4 hlx4
  obtain ⟨y0, y1, y2, y3, y4⟩ := (unhide HB5).t.t.cells
  obtain ⟨z0, z1, z2, z3, z4⟩ := (unhide HB5).x.cells
  have hlt5 : w.heap.size < w5.heap.size := by omega
  have hlx5 : w2.heap.size < w5.heap.size := by omega
  have hon : Dg.ones (Dg.E8 l) = true := by simp
  have hsz : (Dg.E8 l).size = 32 := by simp [(unhide HHl).1]
  go_wp2_with fail
  obtain ⟨wC, hwC⟩ : ∃ wC, wC = w5.alloc (.cells (Dg.E8 l) 35) := ⟨_, rfl⟩
  have hbC : Below w5.heap.size w5 wC := by rw [hwC]; exact (Below.refl _ _).alloc (Nat.le_refl _) _
  have hsC : wC.heap.size = w5.heap.size + 1 := by rw [hwC]; simp
  have hrC : wC.heap[w5.heap.size]? = some (.cells (Dg.E8 l) 35) := by rw [hwC]; show (w5.heap.push _)[w5.heap.size]? = _; rw [Array.getElem?_push, if_pos rfl]
  rw [← hwC]
  have HBC := hide ((unhide HB5).kept hbC (by omega) (by omega))
  have HRC := hide (And.intro ((unhide HR5).1.below hbC (by omega)) ((unhide HR5).2.below hbC (by omega)))
  have HE6 := hide (rhash_any T lo hi _ wC ((unhide HL).kept (unhide HBC).t.b hhi) (unhide HW) (by omega))
  clear HB5 HR5 hwC hbC y0 y1 y2 y3 y4 z0 z1 z2 z3 z4 hlt5 hlx5
  refine (unhide HE6).mono ?_
  rintro e w6 ⟨hb6, rfl⟩
  rw [unhide Hnn, unhide Hcc, (unhide HHl).2]
  have hs6 := hb6.size
  have HB6 := hide ((unhide HBC).kept hb6 (by omega) (by omega))
  have HR6 := hide (And.intro ((unhide HRC).1.below hb6 (by omega)) ((unhide HRC).2.below hb6 (by omega)))
  have hr6 : w6.heap[w5.heap.size]? = some (.cells (Dg.E8 l) 35) := by rw [hb6.block _ (by omega)]; exact hrC
  clear HBC HE6 hb6 HRC hrC
  obtain ⟨wD, hwD⟩ : ∃ wD, wD = w6.alloc (.cells (Dg.E8 l) 35) := ⟨_, rfl⟩
  have hbD : Below w6.heap.size w6 wD := by rw [hwD]; exact (Below.refl _ _).alloc (Nat.le_refl _) _
  have hsD : wD.heap.size = w6.heap.size + 1 := by rw [hwD]; simp
  have hrD : wD.heap[w6.heap.size]? = some (.cells (Dg.E8 l) 35) := by rw [hwD]; show (w6.heap.push _)[w6.heap.size]? = _; rw [Array.getElem?_push, if_pos rfl]
  have hrE : wD.heap[w5.heap.size]? = some (.cells (Dg.E8 l) 35) := by rw [hbD.block _ (by omega)]; exact hr6
  have HBD := hide ((unhide HB6).kept hbD (by omega) (by omega))
  have HRD := hide (And.intro (And.intro ((unhide HR6).1.below hbD (by omega)) ((unhide HR6).2.below hbD (by omega))) (And.intro hrD hrE))
  have HwD := hide hwD
  clear HB6 HR6 hwD hbD hr6 hrD hrE
  go_wp2_with fail
  rw [← unhide HwD]
  refine (same_any _ _ _ _ a3 a4 _ _ c3 c4 (encS T) (encS T) wD (unhide HRD).1.1 (unhide HRD).1.2 (unhide Hnn) (unhide Hnn) (by have := unhide HE2; have := unhide Hnn; omega) (by have := unhide HE2; have := unhide Hnn; omega)).mono ?_
  rintro e w7 ⟨⟨qq, hq7⟩, rfl⟩
  have hb7 : Below wD.heap.size wD w7 := by rw [hq7]; exact below_drewN (Below.refl wD.heap.size wD) qq
  have hs7 := hb7.size
  rw [decide_eq_true (rfl : encS T = encS T)]
  have HB7 := hide ((unhide HBD).kept hb7 (by omega) (by omega))
  have hr7 : w7.heap[w6.heap.size]? = some (.cells (Dg.E8 l) 35) := by rw [hb7.block _ (by omega)]; exact (unhide HRD).2.1
  have hr8 : w7.heap[w5.heap.size]? = some (.cells (Dg.E8 l) 35) := by rw [hb7.block _ (by omega)]; exact (unhide HRD).2.2
  have ho7 : Dg.rowOf w7 w6.heap.size = Dg.E8 l := by unfold Dg.rowOf; rw [hr7]
  have ho8 : Dg.rowOf w7 w5.heap.size = Dg.E8 l := by unfold Dg.rowOf; rw [hr8]
  have hf7 : Dg.fits w7 w6.heap.size 32 = true := by unfold Dg.fits; rw [hr7]; simp [hsz]
  have hf8 : Dg.fits w7 w5.heap.size 32 = true := by unfold Dg.fits; rw [hr8]; simp [hsz]
  have hl := (unhide HHl).1
  clear HBD HRD hb7 hq7 HwD hr7 hr8
  obtain ⟨y0, y1, y2, y3, y4⟩ := (unhide HB7).t.t.cells
  obtain ⟨z0, z1, z2, z3, z4⟩ := (unhide HB7).x.cells
  have hEq := fun W => Dg.run_eqB W l hl
  have hg := fun (W : World) (x y : Operand) => run_eqGuard_agg (P := Try.prog) (w := W) .eql 35 x y (Dg.E8 l) (Dg.E8 l) Dg.guard35
  go_wp2_with fail
  refine (equal_any T T w1.heap.size w2.heap.size lo hi _ _ _ (unhide HB7).l ((unhide HL).kept (unhide HB7).t.b hhi) (by have := unhide HW; omega) (by have := unhide HW; omega) (by omega) (by omega)).mono ?_
  rintro e wz ⟨hbz, hans⟩
  have hsz8 := hbz.size
  have HBZ := hide ((unhide HB7).t.b.trans (hbz.mono (by omega)))
  obtain rfl : e = .returned (.bool true) := by
    rcases hans with ⟨_, h⟩ | ⟨h, _⟩
    · exact h
    · exact absurd rfl h
  clear hbz hans HB7 y0 y1 y2 y3 y4 z0 z1 z2 z3 z4 hEq hg ho7 ho8 hf7 hf8
  go_wp2_with fail
  refine (known_any _).mono ?_
  rintro e wk ⟨rfl, hbk⟩
  go_wp2_with fail
  go_ret
  exact ⟨rfl, (unhide HBZ).trans (hbk.mono (by omega))⟩
end Go.Proofs.Ytikamklgelcnhaa
