/- LocksRun: its arms. -/
import Derived.Test.YtnlfmmempomcaaaQg
namespace Go.Proofs.Ytnlfmmempomcaaa
open Go.RowKit Go.Maps
set_option linter.unusedSimpArgs false
/-- A round's own variable, if there is one. -/
def XIs (O : Ghost) : Option (Nat × Int × Int × Bool) → Prop
  | none => True
  | some (b, z, n, d) => O b = some ⟨10, b, .raw [.int .i64 z, .int .i64 n, .bool d] 59⟩
theorem XIs.keep {O O' : Ghost} {x : Option (Nat × Int × Int × Bool)} (h : XIs O x) (hk : ∀ q o, O q = some o → o.cl = 10 → O' q = some o) : XIs O' x := by
  cases x with
  | none => trivial
  | some p => exact hk _ _ h rfl
/-- What stands at a round's head. -/
def RSt (rb wb lb i : Nat) (x : Option (Nat × Int × Int × Bool)) (w wr : World) : Prop := ∃ O R D L, RnIs O rb R ∧ DIs O wb D ∧ LfIs O lb D.n L ∧ RD O lb R D L ∧ Mem 0 O wr ∧ Frm w.heap.size (fun _ => none) O w wr ∧ D.n ≤ i ∧ D.s ≤ i ∧ XIs O x
theorem Frm.drew {B : Nat} {O O' : Ghost} {w w' : World} (h : Frm B O O' w w') : Frm B O O' w w'.drew := ⟨h.os, h.tape, h.output, h.size, h.rest, h.dom⟩
section
variable {rb wb lb i : Nat} {x : Option (Nat × Int × Int × Bool)} {w wr : World}
theorem RSt.drew (h : RSt rb wb lb i x w wr) : RSt rb wb lb i x w wr.drew := by
  obtain ⟨O, R, D, L, h1, h2, h3, h4, h5, h6, h7⟩ := h
  exact ⟨O, R, D, L, h1, h2, h3, h4, h5.drew, h6.drew, h7⟩
theorem RSt.up (h : RSt rb wb lb i x w wr) : RSt rb wb lb (i + 1) x w wr := by
  obtain ⟨O, R, D, L, h1, h2, h3, h4, h5, h6, h7, h8, h9⟩ := h
  exact ⟨O, R, D, L, h1, h2, h3, h4, h5, h6, by omega, by omega, h9⟩
theorem RSt.xcell {b : Nat} {z n : Int} {d : Bool} (h : RSt rb wb lb i (some (b, z, n, d)) w wr) : wr.cell? ⟨b, 0, none⟩ = some (.int .i64 z) ∧ wr.cell? ⟨b, 1, none⟩ = some (.int .i64 n) ∧ wr.cell? ⟨b, 2, none⟩ = some (.bool d) := by
  obtain ⟨O, R, D, L, h1, h2, h3, h4, h5, h6, h7, h8, h9⟩ := h
  exact ⟨h5.cell h9 (i := 0) rfl, h5.cell h9 (i := 1) rfl, h5.cell h9 (i := 2) rfl⟩
theorem RSt.forget (h : RSt rb wb lb i x w wr) : RSt rb wb lb i none w wr := by
  obtain ⟨O, R, D, L, h1, h2, h3, h4, h5, h6, h7, h8, _⟩ := h
  exact ⟨O, R, D, L, h1, h2, h3, h4, h5, h6, h7, h8, trivial⟩
theorem RSt.alloc (h : RSt rb wb lb i x w wr) (z n : Int) (d : Bool) : RSt rb wb lb i (some (wr.heap.size, z, n, d)) w (wr.alloc (.cells #[.int .i64 z, .int .i64 n, .bool d] 59)) := by
  obtain ⟨O, R, D, L, h1, h2, h3, h4, h5, h6, h7, h8, _⟩ := h
  have hM := h5.alloc 10 wr.heap.size [.int .i64 z, .int .i64 n, .bool d] 59
  have hs : Stp 10 w.heap.size O _ wr _ := Stp.alloc h5 h6.size ⟨10, wr.heap.size, .raw [.int .i64 z, .int .i64 n, .bool d] 59⟩ (.cells #[.int .i64 z, .int .i64 n, .bool d] 59)
  exact ⟨_, R, D, L, h1.keep fun q o e hq => hs.keep q o e (by omega), h2.keep fun q o e hq => hs.keep q o e (by rcases hq with hq | hq | hq <;> omega), h3.keep fun q o e hq => hs.keep q o e (by rcases hq with hq | hq <;> omega), h4.keep fun q o e hq => hs.keep q o e (by omega), hM, h6.trans hs.frm, h7, h8, put_same _ _ _⟩
theorem RSt.below (h : RSt rb wb lb i x w wr) : Below w.heap.size w wr := by
  obtain ⟨O, R, D, L, _, _, _, _, _, h6, _⟩ := h
  exact h6.below fun _ _ => rfl
/-- Block and Wake. -/
theorem mark_arm (h : RSt rb wb lb i x w wr) (z : Int) (b : Bool) : Calls Try.prog (if b then 30 else 32) #[.pointer (some ⟨rb, 0, none⟩), .int .i64 z] wr fun e w1 => ∃ r, e = .returned (.bool r) ∧ (∀ b z n d, x = some (b, z, n, d) → w1.cell? ⟨b, 1, none⟩ = some (.int .i64 n)) ∧
    Calls Try.prog 31 #[.pointer (some ⟨wb, 0, none⟩), .int .i64 z, .bool b] w1 fun e w2 => e = .returned (.bool r) ∧ RSt rb wb lb i x w w2 := by
  obtain ⟨O, R, D, L, h1, h2, h3, h4, h5, h6, h7, h8, h9⟩ := h
  have hc : Calls Try.prog (if b then 30 else 32) #[.pointer (some ⟨rb, 0, none⟩), .int .i64 z] wr fun e w' => e = .returned (.bool (R.has z)) ∧ RLeft 0 wr.heap.size rb (R.mark z b) O wr w' := by
    cases b with
    | true => exact block_ok O rb R wr h5 h1 z
    | false => exact wake_ok O rb R wr h5 h1 z
  refine hc.mono ?_
  rintro e w1 ⟨rfl, O1, p1, p2, p3⟩
  refine ⟨_, rfl, fun b z n d e => ?_, ?_⟩
  · subst e
    exact p2.cell (p3.keep _ _ h9 (by simp)) (i := 1) rfl
  have d1 : DIs O1 wb D := h2.keep fun q o e hq => p3.keep q o e (by rcases hq with hq | hq | hq <;> omega)
  refine (dblock_ok O1 wb D w1 p2 d1 z b).mono ?_
  rintro e w2 ⟨rfl, O2, q1, q2, q3⟩
  refine ⟨by rw [h4.has], O2, R.mark z b, D.mark z b, L, p1.keep fun q o e hq => q3.keep q o e (by omega), q1, ?_, ?_, q2, (h6.trans (p3.frm.mono h6.size)).trans (q3.frm.mono (Nat.le_trans h6.size p3.size)), ?_, ?_, h9.keep fun q o e hq => q3.keep _ _ (p3.keep q o e (by omega)) (by omega)⟩
  · have hn : (D.mark z b).n = D.n := by unfold DR.mark; split <;> rfl
    rw [hn]
    exact h3.keep fun q o e hq => q3.keep _ _ (p3.keep q o e (by rcases hq with hq | hq <;> omega)) (by rcases hq with hq | hq <;> omega)
  · exact (h4.mark z b).keep fun q o e hq => q3.keep _ _ (p3.keep q o e (by omega)) (by omega)
  · have hn : (D.mark z b).n = D.n := by unfold DR.mark; split <;> rfl
    omega
  · have hn : (D.mark z b).s = D.s := by unfold DR.mark; split <;> rfl
    omega
/-- Left, on both sides. -/
theorem left_arm (h : RSt rb wb lb i x w wr) : Calls Try.prog 33 #[.pointer (some ⟨rb, 0, none⟩)] wr fun e w1 => ∃ a s : Nat, e = .returned (.tuple #[.int .i64 (a : Int), .int .i64 (s : Int)]) ∧ RSt rb wb lb i x w w1 ∧ w1.cell? ⟨wb, 2, none⟩ = some (.int .i64 (s : Int)) ∧
    Calls Try.prog 34 #[.pointer (some ⟨wb, 0, none⟩)] w1 fun e w2 => e = .returned (.int .i64 (a : Int)) ∧ w2 = w1 := by
  obtain ⟨O, R, D, L, h1, h2, h3, h4, h5, h6, h7, h8, h9⟩ := h
  refine (rleft_ok O rb R wr h5 h1).mono ?_
  rintro e w1 ⟨rfl, hb⟩
  have hM : Mem 0 O w1 := Rp.below h5 hb
  refine ⟨R.js.length, R.steps, rfl, ⟨O, R, D, L, h1, h2, h3, h4, hM, h6.trans ⟨hb.os, hb.tape, hb.output, hb.size, fun q hq _ => hb.block q (Nat.lt_of_lt_of_le hq h6.size), fun _ _ h => h⟩, h7, h8, h9⟩, ?_, ?_⟩
  · obtain ⟨ve, vb, e1, _⟩ := h2
    rw [h4.st]
    exact hM.cell e1 (i := 2) rfl
  · rw [h4.len]
    exact dleft_ok O wb D w1 hM h2
/-- Pick and Step. -/
theorem step_arm (h : RSt rb wb lb i x w wr) (hi : i ≤ 600) (p : Int) (hp : -9223372036854775808 ≤ p ∧ p ≤ 9223372036854775807) :
    Calls Try.prog 28 #[.pointer (some ⟨wb, 0, none⟩), .int .i64 p] wr fun e w1 => ∃ z, e = .returned (.int .i64 z) ∧ RSt rb wb lb i x w w1 ∧
      ((z = -1 ∧ Calls Try.prog 29 #[.pointer (some ⟨rb, 0, none⟩), .int .i64 p] w1 fun e w2 => e = .returned (.tuple #[.int .i64 (-1), .bool false]) ∧ RSt rb wb lb i x w w2) ∨
      (∃ m n : Nat, z = (m : Int) ∧ (m : Int) < (n : Int) ∧ ∃ b off cp y, w1.cell? ⟨lb, 0, none⟩ = some (.slice (some ⟨b, off, none⟩) n cp) ∧ w1.cell? ⟨b, off + m, none⟩ = some (.int .i64 y) ∧
        Calls Try.prog 29 #[.pointer (some ⟨rb, 0, none⟩), .int .i64 p] w1 fun e w2 => e = .returned (.tuple #[.int .i64 (m : Int), .bool true]) ∧ ∃ s : Nat, (s : Int) ≤ 600 ∧ w2.cell? ⟨wb, 2, none⟩ = some (.int .i64 (s : Int)) ∧ w2.frozen? ⟨wb, 2, none⟩ = false ∧
          ∃ g o c, (w2.setCell ⟨wb, 2, none⟩ (.int .i64 ((s : Int) + 1))).cell? ⟨wb, 0, none⟩ = some (.slice (some ⟨g, o, none⟩) n c) ∧ (∃ u, (w2.setCell ⟨wb, 2, none⟩ (.int .i64 ((s : Int) + 1))).cell? ⟨g, o + m, none⟩ = some u) ∧ (w2.setCell ⟨wb, 2, none⟩ (.int .i64 ((s : Int) + 1))).frozen? ⟨g, o + m, none⟩ = false ∧
            RSt rb wb lb (i + 1) x w ((w2.setCell ⟨wb, 2, none⟩ (.int .i64 ((s : Int) + 1))).setCell ⟨g, o + m, none⟩ (.bool (decide (y ≤ 1)))))) := by
  obtain ⟨O, R, D, L, h1, h2, h3, h4, h5, h6, h7, h8, h9⟩ := h
  refine (pick_ok (c := 9) O wb D wr h5 h2 p hp).mono ?_
  rintro e w1 ⟨z, rfl, hz, hM1, hs1⟩
  refine ⟨z, rfl, ⟨O, R, D, L, h1, h2, h3, h4, hM1, h6.trans (hs1.frm.mono h6.size), h7, h8, h9⟩, ?_⟩
  rcases hz with ⟨hz, rfl⟩ | ⟨m, hm, rfl⟩
  · refine .inl ⟨rfl, ?_⟩
    have hr : R.ready = [] := by
      have := h4.ready
      rw [hz] at this
      exact List.map_eq_nil_iff.1 this
    refine (step_none O rb R w1 hM1 h1 h4.idle hr p).mono ?_
    rintro e w2 ⟨rfl, q2, q3⟩
    exact ⟨rfl, O, R, D, L, h1, h2, h3, h4, q2, (h6.trans (hs1.frm.mono h6.size)).trans (q3.frm.mono (Nat.le_trans h6.size hs1.size)), h7, h8, h9⟩
  · obtain ⟨⟨m1, m2⟩, hc⟩ := rstep_some O rb wb lb R D L w1 hM1 h1 h2 h3 h4 (by omega) p hp m hm
    refine .inr ⟨m, D.n, rfl, by omega, ?_⟩
    obtain ⟨vl, l1, l2⟩ := h3
    obtain ⟨b, off, cp, e1, e2, _⟩ := l2.cell hM1 (nums_get L m1)
    rw [nums_len] at e1
    refine ⟨b, off, cp, L m, by rw [← e1]; exact hM1.cell l1 (i := 0) rfl, e2, hc.mono ?_⟩
    rintro e w2 ⟨rfl, O', q1, q2, q3, q4, q5, q6⟩
    obtain ⟨ve, vb, d1, d2, d3, d4⟩ := q2
    have hM3 := q4.set d1 2 (.int .i64 ((D.s : Int) + 1))
    have s3 : Stp 2 w2.heap.size O' _ w2 _ := Stp.set d1 2 (.int .i64 ((D.s : Int) + 1))
    have a3 : (put O' wb ⟨2, wb, .raw ([ve, vb, .int .i64 D.s].set 2 (.int .i64 ((D.s : Int) + 1))) 57⟩) wb = some ⟨2, wb, .raw [ve, vb, .int .i64 ((D.s : Int) + 1)] 57⟩ := put_same _ _ _
    have d2' := d2.keep fun q o e hq => s3.keep q o e (by omega)
    obtain ⟨g, o, c, g1, g2, g3⟩ := d2'.cell hM3 (bools_get D.E m1)
    obtain ⟨g', o', c', k1, O4, k2, k3, k4⟩ := d2'.set (B := w2.heap.size) hM3 (i := m) (by rw [bools_len]; exact m1) (.bool (decide (L m ≤ 1)))
    rw [bools_len] at g1 k1
    rw [g1] at k1
    injection k1 with k1a _ k1c
    injection k1a with k1a
    injection k1a with x1 x2
    subst x1; subst x2; subst k1c
    have hx : (decide (L m ≤ 1)) = !decide (2 ≤ L m) := by
      by_cases g9 : 2 ≤ L m
      · simp [g9]; omega
      · simp [g9]; omega
    refine ⟨rfl, D.s, by omega, q4.cell d1 (i := 2) rfl, q4.frozen d1 2, g, o, c, by rw [← g1]; exact hM3.cell a3 (i := 0) rfl, ⟨_, g2⟩, g3, O4, R.busyOn.after m (decide (2 ≤ L m)), D.step m (decide (2 ≤ L m)), updI L m (L m - 1), ?_, ?_, ?_, ?_, k2, ?_, ?_, ?_, h9.keep fun q o e hq => k3.keep _ _ (s3.keep _ _ (q6 q o e (by rw [hq]; rfl)) (by omega)) (by omega)⟩
    · exact q1.keep fun q o e hq => k3.keep _ _ (s3.keep q o e (by omega)) (by omega)
    · refine ⟨ve, vb, ?_, ?_, ?_, d4⟩
      · have := k3.keep _ _ a3 (by simp)
        rw [this]
        rfl
      · show RowG 4 4 O4 ve (bools (updB D.E m (!decide (2 ≤ L m))) D.n)
        rw [← hx, ← bools_set]
        exact k4
      · exact d3.keep fun q o e hq => k3.keep _ _ (s3.keep q o e (by omega)) (by omega)
    · exact q3.keep fun q o e hq => k3.keep _ _ (s3.keep q o e (by rcases hq with hq | hq <;> omega)) (by rcases hq with hq | hq <;> omega)
    · exact (h4.step m1 m2).keep fun q o e hq => k3.keep _ _ (s3.keep _ _ (q6 q o e (by rw [hq]; rfl)) (by omega)) (by omega)
    · have z1 := Nat.le_trans h6.size hs1.size
      have z2 := Nat.le_trans z1 q5.size
      exact (((h6.trans (hs1.frm.mono h6.size)).trans (q5.mono z1)).trans (s3.frm.mono z2)).trans (k3.frm.mono z2)
    · show D.n ≤ i + 1
      omega
    · show D.s + 1 ≤ i + 1
      omega
end
end Go.Proofs.Ytnlfmmempomcaaa
