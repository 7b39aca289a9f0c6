/- LocksRun: a task more; the start. -/
import Derived.Test.YtnlfmmempomcaaaQh
namespace Go.Proofs.Ytnlfmmempomcaaa
open Go.RowKit Go.Maps
set_option linter.unusedSimpArgs false
def fn26 (lb nb bb : Nat) : Array Value := #[.pointer (some ⟨lb, 0, none⟩), .pointer (some ⟨nb, 0, none⟩), .pointer (some ⟨bb, 0, none⟩)]
theorem nums_take (L : Nat → Int) (n : Nat) (y : Int) : (nums (updI L n y) (n + 1)).take n = nums L n := by
  rw [nums_more, List.take_append_of_le_length (by rw [nums_len]; exact Nat.le_refl _), List.take_of_length_le (by rw [nums_len]; exact Nat.le_refl _)]
section
variable {rb wb lb i : Nat} {x : Option (Nat × Int × Int × Bool)} {w wr : World}
/-- What stands behind Add on both sides. -/
def AddEnd (rb wb lb i nb N : Nat) (x : Option (Nat × Int × Int × Bool)) (a1 : Option Addr) (n1 c1 : Nat) (w : World) (e : Ending) (w5 : World) : Prop :=
  (e = .returned (.int .i64 (-1)) ∧ Calls Try.prog 27 #[.pointer (some ⟨wb, 0, none⟩)] w5 fun e w6 => e = .returned (.int .i64 (-1)) ∧ w6.cell? ⟨lb, 0, none⟩ = some (.slice a1 n1 c1) ∧ w6.frozen? ⟨lb, 0, none⟩ = false ∧ w6.cell? ⟨nb, 0, none⟩ = some (.int .i64 (N : Int)) ∧ RSt rb wb lb (i + 1) x w (w6.setCell ⟨lb, 0, none⟩ (.slice a1 N c1))) ∨
  (e = .returned (.int .i64 (N : Int)) ∧ Calls Try.prog 27 #[.pointer (some ⟨wb, 0, none⟩)] w5 fun e w6 => e = .returned (.int .i64 (N : Int)) ∧ RSt rb wb lb (i + 1) x w w6)
theorem add_arm (h : RSt rb wb lb i x w wr) (hi : i ≤ 600) (y : Int) (hy : 0 ≤ y ∧ y ≤ 9223372036854775807) (bad : Bool) :
    ∃ (a : Option Addr) (N cp : Nat) (W2 : World), W2 = (wr.alloc (.cells #[.int .i64 (N : Int)] 3)).alloc (.cells #[.bool bad] 4) ∧ wr.cell? ⟨lb, 0, none⟩ = some (.slice a N cp) ∧ (N : Int) ≤ 600 ∧ W2.cell? ⟨lb, 0, none⟩ = some (.slice a N cp) ∧
      ∃ (a1 : Option Addr) (n1 c1 : Nat) (w3 : World), (∀ ty, (app38 ty #[.slice a N cp, .slice (some ⟨wr.heap.size + 1 + 1, 0, none⟩) 1 1]).run Try.prog (W2.alloc (.cells #[.int .i64 y] 3)) = .ok (.slice a1 n1 c1) w3) ∧ (n1 : Int) = N + 1 ∧ (n1 : Int) ≤ c1 ∧ (c1 : Int) ≤ 9223372036854775807 ∧ (∃ u, w3.cell? ⟨lb, 0, none⟩ = some u) ∧ w3.frozen? ⟨lb, 0, none⟩ = false ∧
        Calls Try.prog 25 #[.pointer (some ⟨rb, 0, none⟩), .func (.func 26) #[] (fn26 lb wr.heap.size (wr.heap.size + 1))] (w3.setCell ⟨lb, 0, none⟩ (.slice a1 n1 c1)) fun e w5 => AddEnd rb wb lb i wr.heap.size N x a1 n1 c1 w e w5 := by
  obtain ⟨O, R, D, L, h1, h2, h3, h4, h5, h6, h7, h8, h9⟩ := h
  obtain ⟨N, hN⟩ : ∃ N, N = D.n := ⟨_, rfl⟩
  obtain ⟨vl, l1, l2⟩ := h3
  obtain ⟨a, cp, hvl, _⟩ := l2.shape
  rw [nums_len, ← hN] at hvl
  subst hvl
  have hM1 := h5.alloc 8 wr.heap.size [.int .i64 (N : Int)] 3
  have hs1 : Stp 8 wr.heap.size O _ wr _ := Stp.alloc h5 (Nat.le_refl _) ⟨8, wr.heap.size, .raw [.int .i64 (N : Int)] 3⟩ (.cells #[.int .i64 (N : Int)] 3)
  obtain ⟨O1, hO1⟩ : ∃ O1, O1 = put O wr.heap.size ⟨8, wr.heap.size, .raw [.int .i64 (N : Int)] 3⟩ := ⟨_, rfl⟩
  obtain ⟨W1, hW1⟩ : ∃ W1, W1 = wr.alloc (.cells #[.int .i64 (N : Int)] 3) := ⟨_, rfl⟩
  rw [← hO1, ← hW1] at hs1
  have hM1' : Mem 0 O1 W1 := by rw [hO1, hW1]; exact hM1
  have z1 : W1.heap.size = wr.heap.size + 1 := by rw [hW1, World.size_alloc]
  have hM2 := hM1'.alloc 8 W1.heap.size [.bool bad] 4
  have hs2 : Stp 8 wr.heap.size O1 _ W1 _ := Stp.alloc hM1' (by omega) ⟨8, W1.heap.size, .raw [.bool bad] 4⟩ (.cells #[.bool bad] 4)
  obtain ⟨O2, hO2⟩ : ∃ O2, O2 = put O1 W1.heap.size ⟨8, W1.heap.size, .raw [.bool bad] 4⟩ := ⟨_, rfl⟩
  obtain ⟨W2, hW2⟩ : ∃ W2, W2 = W1.alloc (.cells #[.bool bad] 4) := ⟨_, rfl⟩
  rw [← hO2, ← hW2] at hs2
  have hM2' : Mem 0 O2 W2 := by rw [hO2, hW2]; exact hM2
  have z2 : W2.heap.size = wr.heap.size + 1 + 1 := by rw [hW2, World.size_alloc, z1]
  have hold : ∀ q o, O q = some o → O2 q = some o := fun q o e => by
    have := h5.lt e
    rw [hO2, put_other _ _ (by omega), hO1, put_other _ _ (by omega)]; exact e
  have b1 : O2 wr.heap.size = some ⟨8, wr.heap.size, .raw [.int .i64 (N : Int)] 3⟩ := by rw [hO2, put_other _ _ (by omega), hO1, put_same]
  have b2 : O2 (wr.heap.size + 1) = some ⟨8, wr.heap.size + 1, .raw [.bool bad] 4⟩ := by rw [hO2, ← z1, put_same]
  have hn600 : N ≤ 600 := by omega
  have hl2 : RowG 6 3 O2 (.slice a N cp) (nums L D.n) := l2.keep fun q o e _ => hold q o e
  obtain ⟨v1, w3, O3, r1, r2, r3, r4⟩ := hl2.push row38 (B := wr.heap.size) hM2' (by omega) (by rw [nums_len]; omega) (.int .i64 y) rfl
  rw [← nums_more, ← hN] at r4
  obtain ⟨a1, c1, hv1, q1, q2⟩ := r4.shape
  rw [nums_len] at hv1 q1
  subst hv1
  have b3 := r3.keep _ _ (hold _ _ l1) (by simp)
  have hM4 := r2.set b3 0 (.slice a1 (N + 1) c1)
  have hs4 : Stp 7 wr.heap.size O3 _ w3 _ := Stp.set b3 0 (.slice a1 (N + 1) c1)
  obtain ⟨O4, hO4⟩ : ∃ O4, O4 = put O3 lb ⟨7, lb, .raw [.slice a1 (N + 1) c1] 38⟩ := ⟨_, rfl⟩
  have hO4' : put O3 lb ⟨7, lb, .raw ([Value.slice a N cp].set 0 (.slice a1 (N + 1) c1)) 38⟩ = O4 := by rw [hO4]; rfl
  rw [hO4'] at hM4 hs4
  have s24 := (r3.frm.trans hs4.frm)
  have s04 : Frm wr.heap.size O O4 wr (w3.setCell ⟨lb, 0, none⟩ (.slice a1 (N + 1) c1)) := (hs1.frm.trans hs2.frm).trans s24
  have k4 : ∀ q o, O2 q = some o → o.cl ≠ 6 → o.cl ≠ 7 → O4 q = some o := fun q o e n1 n2 => hs4.keep _ _ (r3.keep q o e n1) n2
  have l4 : O4 lb = some ⟨7, lb, .raw [.slice a1 (N + 1) c1] 38⟩ := by rw [hO4, put_same]
  have rg4 : RowG 6 3 O4 (.slice a1 (N + 1) c1) (nums (updI L N y) (N + 1)) := r4.keep fun q o e hq => hs4.keep q o e (by omega)
  have rn4 : RnIs O4 rb R := h1.keep fun q o e hq => k4 q o (hold q o e) (by omega) (by omega)
  have di4 : DIs O4 wb D := h2.keep fun q o e hq => k4 q o (hold q o e) (by rcases hq with hq | hq | hq <;> omega) (by rcases hq with hq | hq | hq <;> omega)
  have rd4 : RD O4 lb R D L := h4.keep fun q o e hq => k4 q o (hold q o e) (by omega) (by omega)
  have x4 : XIs O4 x := h9.keep fun q o e hq => k4 q o (hold q o e) (by omega) (by omega)
  have nb4 := k4 _ _ b1 (by simp) (by simp)
  have bb4 := k4 _ _ b2 (by simp) (by simp)
  have f4 : Frm w.heap.size (fun _ => none) O4 w (w3.setCell ⟨lb, 0, none⟩ (.slice a1 (N + 1) c1)) := h6.trans (s04.mono h6.size)
  refine ⟨a, N, cp, W2, by rw [hW2, hW1], h5.cell l1 (i := 0) rfl, by omega, hM2'.cell (hold _ _ l1) (i := 0) rfl, a1, N + 1, c1, w3, ?_, by omega, by omega, ?_, ⟨_, r2.cell b3 (i := 0) rfl⟩, r2.frozen b3 0, ?_⟩
  · rw [z2] at r1
    exact r1
  · simp only [maxLen] at q2
    omega
  · by_cases hf : R.js.length < 256
    · refine (add_ok O4 rb R _ hM4 rn4 (.func 26) #[] (fn26 lb wr.heap.size (wr.heap.size + 1)) hf (by rw [h4.nx]; omega)).mono ?_
      rintro e w5 ⟨rfl, ja, O5, p1, p2, p3⟩
      refine .inr ⟨by rw [h4.nx, ← hN], ?_⟩
      have di5 : DIs O5 wb D := di4.keep fun q o e hq => p3.keep q o e (by rcases hq with hq | hq | hq <;> omega)
      refine (dadd_ok O5 wb D w5 p2 di5 (by omega) (by rw [← h4.len]; exact hf)).mono ?_
      rintro e w6 ⟨rfl, O6, t1, t2, t3, t4⟩
      have k6 : ∀ q o, O4 q = some o → o.cl ≠ 3 → inD o.cl = false → O6 q = some o := fun q o e n1 n2 => t4 q o (p3.keep q o e n1) n2
      have f6 : Frm w.heap.size (fun _ => none) O6 w w6 := by
        have g1 := f4.size
        have g2 := Nat.le_trans g1 p3.size
        exact (f4.trans (p3.frm.mono g1)).trans (t3.mono g2)
      refine ⟨by rw [hN], O6, _, D.more, updI L D.n y, p1.keep fun q o e hq => t4 q o e (by rw [hq]; rfl), t1, ⟨_, k6 _ _ l4 (by simp) rfl, ?_⟩, ?_, t2, f6, ?_, ?_, x4.keep fun q o e hq => k6 q o e (by omega) (by rw [hq]; rfl)⟩
      · show RowG 6 3 O6 _ (nums (updI L D.n y) (D.n + 1))
        rw [← hN]
        exact rg4.keep fun q o e hq => k6 q o e (by omega) (by rw [hq]; rfl)
      · refine RD.keep (O := O4) ?_ fun q o e hq => k6 q o e (by omega) (by rw [hq]; rfl)
        exact rd4.more hy (by rw [← hN]; exact nb4) bb4
      · show D.n + 1 ≤ i + 1
        omega
      · show D.s ≤ i + 1
        omega
    · refine (add_full O4 rb R _ hM4 rn4 (.func 26) #[] (fn26 lb wr.heap.size (wr.heap.size + 1)) (by omega)).mono ?_
      rintro e w5 ⟨rfl, rfl⟩
      refine .inl ⟨rfl, ?_⟩
      refine (dadd_full O4 wb D _ hM4 di4 (by rw [← h4.len]; omega)).mono ?_
      rintro e w6 ⟨rfl, rfl⟩
      have hM7 := hM4.set l4 0 (.slice a1 N c1)
      have hs7 : Stp 7 wr.heap.size O4 _ (w3.setCell ⟨lb, 0, none⟩ (.slice a1 (N + 1) c1)) _ := Stp.set l4 0 (.slice a1 N c1)
      refine ⟨rfl, hM4.cell l4 (i := 0) rfl, hM4.frozen l4 0, hM4.cell nb4 (i := 0) rfl, _, R, D, L, rn4.keep fun q o e hq => hs7.keep q o e (by omega), di4.keep fun q o e hq => hs7.keep q o e (by rcases hq with hq | hq | hq <;> omega), ⟨_, put_same _ _ _, ?_⟩, rd4.keep fun q o e hq => hs7.keep q o e (by omega), hM7, f4.trans (hs7.frm.mono h6.size), by omega, by omega, x4.keep fun q o e hq => hs7.keep q o e (by omega)⟩
      have hc := RowG.cut (n := N) (a := a1) (cp := c1) (vs := nums (updI L N y) (N + 1)) (by rw [nums_len]; exact rg4) (by rw [nums_len]; omega) (by rw [nums_len]; omega)
      rw [nums_take] at hc
      rw [← hN]
      exact hc.keep fun q o e hq => hs7.keep q o e (by omega)
end
end Go.Proofs.Ytnlfmmempomcaaa
