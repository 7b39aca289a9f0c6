/- The document's Run: Add. -/
import Derived.Test.YtnlfmmempomcaaaQc
namespace Go.Proofs.Ytnlfmmempomcaaa
open Go.RowKit Go.Maps
set_option linter.unusedSimpArgs false
/-- The Run with a task more. -/
def DR.more (D : DR) : DR := ⟨updB D.E D.n false, updB D.B D.n false, D.n + 1, D.s⟩
theorem bools_more (E : Nat → Bool) (n : Nat) : bools (updB E n false) (n + 1) = bools E n ++ [.bool false] := by
  rw [bools_succ]
  congr 1
  · apply List.map_congr_left
    intro i hi
    have := List.mem_range.1 hi
    simp [updB, show i ≠ n by omega]
  · simp [updB]
def KeepX (P : Nat → Bool) (O O' : Ghost) : Prop := ∀ q o, O q = some o → P o.cl = false → O' q = some o
theorem KeepX.trans {P : Nat → Bool} {O O' O'' : Ghost} (h : KeepX P O O') (h' : KeepX P O' O'') : KeepX P O O'' := fun q o e hp => h' q o (h q o e hp) hp
theorem Stp.keepX {c B : Nat} {O O' : Ghost} {w w' : World} (h : Stp c B O O' w w') {P : Nat → Bool} (hp : P c = true) : KeepX P O O' := fun q o e hq => h.keep q o e (fun e2 => by rw [e2, hp] at hq; cases hq)
def inD (c : Nat) : Bool := c == 2 || c == 4 || c == 5
theorem dadd_facts {k : Nat} {O : Ghost} {wb : Nat} {D : DR} {w : World} (hM : Mem k O w) (h : DIs O wb D) (hn : D.n < 1000) :
    ∃ ve vb v1 w1 v3 w3, w.cell? ⟨wb, 0, none⟩ = some ve ∧ (∀ ty, (app55 ty #[ve, .slice (some ⟨w.heap.size, 0, none⟩) 1 1]).run Try.prog (w.alloc (.cells #[.bool false] 4)) = .ok v1 w1) ∧ (∃ u, w1.cell? ⟨wb, 0, none⟩ = some u) ∧ w1.frozen? ⟨wb, 0, none⟩ = false ∧
      (w1.setCell ⟨wb, 0, none⟩ v1).cell? ⟨wb, 1, none⟩ = some vb ∧ (∀ ty, (app55 ty #[vb, .slice (some ⟨w1.heap.size, 0, none⟩) 1 1]).run Try.prog ((w1.setCell ⟨wb, 0, none⟩ v1).alloc (.cells #[.bool false] 4)) = .ok v3 w3) ∧ (∃ u, w3.cell? ⟨wb, 1, none⟩ = some u) ∧ w3.frozen? ⟨wb, 1, none⟩ = false ∧
      (w3.setCell ⟨wb, 1, none⟩ v3).cell? ⟨wb, 0, none⟩ = some v1 ∧ (∃ a cp, v1 = .slice a (D.n + 1) cp) ∧ (∃ a cp, v3 = .slice a (D.n + 1) cp) ∧
      ∃ O', DIs O' wb D.more ∧ Mem k O' (w3.setCell ⟨wb, 1, none⟩ v3) ∧ Frm w.heap.size O O' w (w3.setCell ⟨wb, 1, none⟩ v3) ∧ KeepX inD O O' := by
  obtain ⟨ve, vb, h1, h2, h3, h4⟩ := h
  obtain ⟨v1, w1, O1, r1, r2, r3, r4⟩ := h2.push row55 (B := w.heap.size) hM (Nat.le_refl _) (by rw [bools_len]; omega) (.bool false) rfl
  have a1 := r3.keep _ _ h1 (by simp)
  have m2 := r2.set a1 0 v1
  have s2 : Stp 2 w.heap.size O1 _ w1 _ := Stp.set a1 0 v1
  have e2 : RowG 5 4 _ vb (bools D.B D.n) := (h3.keep fun q o e hq => s2.keep _ _ (r3.keep q o e (by omega)) (by omega))
  have hB2 : w.heap.size ≤ (w1.setCell ⟨wb, 0, none⟩ v1).heap.size := Nat.le_trans r3.size s2.size
  obtain ⟨v3, w3, O3, t1, t2, t3, t4⟩ := e2.push row55 (B := w.heap.size) m2 hB2 (by rw [bools_len]; omega) (.bool false) rfl
  have a2 : (put O1 wb ⟨2, wb, .raw ([ve, vb, .int .i64 D.s].set 0 v1) 57⟩) wb = some ⟨2, wb, .raw [v1, vb, .int .i64 D.s] 57⟩ := put_same _ _ _
  have a3 := t3.keep _ _ a2 (by simp)
  have m4 := t2.set a3 1 v3
  have s4 : Stp 2 w.heap.size O3 _ w3 _ := Stp.set a3 1 v3
  obtain ⟨a, cp, hv1, _⟩ := r4.shape
  have hl : (bools D.E D.n ++ [Value.bool false]).length = D.n + 1 := by simp [bools_len]
  rw [hl] at hv1
  obtain ⟨a', cp', hv3, _⟩ := t4.shape
  have hl3 : (bools D.B D.n ++ [Value.bool false]).length = D.n + 1 := by simp [bools_len]
  rw [hl3] at hv3
  rw [set_size] at t1
  refine ⟨ve, vb, v1, w1, v3, w3, hM.cell h1 (i := 0) rfl, r1, ⟨_, r2.cell a1 (i := 0) rfl⟩, r2.frozen a1 0, m2.cell a2 (i := 1) rfl, t1, ⟨_, t2.cell a3 (i := 1) rfl⟩, t2.frozen a3 1, m4.cell (put_same _ _ _) (i := 0) rfl, ⟨a, cp, hv1⟩, ⟨a', cp', hv3⟩, _, ⟨v1, v3, put_same _ _ _, ?_, ?_, ?_⟩, m4, ((r3.frm.trans s2.frm).trans t3.frm).trans s4.frm, (((r3.keepX rfl).trans (s2.keepX rfl)).trans (t3.keepX rfl)).trans (s4.keepX rfl)⟩
  · show RowG 4 4 _ v1 (bools (updB D.E D.n false) (D.n + 1))
    rw [bools_more]
    exact r4.keep fun q o e hq => s4.keep _ _ (t3.keep _ _ (s2.keep _ _ e (by omega)) (by omega)) (by omega)
  · show RowG 5 4 _ v3 (bools (updB D.B D.n false) (D.n + 1))
    rw [bools_more]
    exact t4.keep fun q o e hq => s4.keep _ _ e (by omega)
  · show D.n + 1 ≤ 1000
    omega
set_option maxRecDepth 20000 in
set_option maxHeartbeats 1000000 in
theorem dadd_ok {k : Nat} (O : Ghost) (wb : Nat) (D : DR) (w : World) (hM : Mem k O w) (h : DIs O wb D) (hn : D.n < 1000) (hl : (opn D.E D.n).length < 256) :
    Calls Try.prog 27 #[.pointer (some ⟨wb, 0, none⟩)] w fun e w' => e = .returned (.int .i64 D.n) ∧ ∃ O', DIs O' wb D.more ∧ Mem k O' w' ∧ Frm w.heap.size O O' w w' ∧ KeepX inD O O' := by
  have HL := hide (dleft_ok O wb D w hM h)
  obtain ⟨ve, vb, v1, w1, v3, w3, c1, c2, ⟨u1, c3⟩, c4, c5, c6, ⟨u2, c7⟩, c8, c9, ⟨a, cp, rfl⟩, ⟨a', cp', rfl⟩, hE⟩ := dadd_facts hM h hn
  have HE := hide hE
  have hl' : ¬ ((256 : Int) ≤ ((opn D.E D.n).length : Int)) := by omega
  have hnI : (D.n : Int) < 1000 := by omega
  clear hM h hl hE
  generalize (opn D.E D.n).length = N at *
  generalize D.more = D' at *
  generalize D.n = n at *
  go_enter Try.func27, Try.ntmps27
  go_wp2_with (go_at_call 34; refine (unhide HL).mono ?_; rintro e w' ⟨rfl, rfl⟩)
  go_ret
  exact ⟨by simp, unhide HE⟩
set_option maxRecDepth 20000 in
theorem dadd_full {k : Nat} (O : Ghost) (wb : Nat) (D : DR) (w : World) (hM : Mem k O w) (h : DIs O wb D) (hl : 256 ≤ (opn D.E D.n).length) :
    Calls Try.prog 27 #[.pointer (some ⟨wb, 0, none⟩)] w fun e w' => e = .returned (.int .i64 (-1)) ∧ w' = w := by
  have HL := hide (dleft_ok O wb D w hM h)
  have hl' : ((256 : Int) ≤ ((opn D.E D.n).length : Int)) := by omega
  clear hM h hl
  generalize (opn D.E D.n).length = N at *
  go_enter Try.func27, Try.ntmps27
  go_wp2_with (go_at_call 34; refine (unhide HL).mono ?_; rintro e w' ⟨rfl, rfl⟩)
  go_ret
  exact ⟨rfl, rfl⟩
end Go.Proofs.Ytnlfmmempomcaaa
