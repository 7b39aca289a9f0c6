/- LocksRun's step. -/
import Derived.Test.YtnlfmmempomcaaaQd
import Derived.WalkSmall
namespace Go.Proofs.Ytnlfmmempomcaaa
open Go.RowKit Go.Maps
set_option linter.unusedSimpArgs false
def nums (L : Nat → Int) (n : Nat) : List Value := (List.range n).map fun i => .int .i64 (L i)
theorem nums_len (L : Nat → Int) (n : Nat) : (nums L n).length = n := by simp [nums]
theorem nums_get (L : Nat → Int) {n i : Nat} (h : i < n) : (nums L n)[i]? = some (.int .i64 (L i)) := by simp [nums, List.getElem?_map, List.getElem?_range h]
def updI (L : Nat → Int) (i : Nat) (x : Int) : Nat → Int := fun j => if j = i then x else L j
theorem nums_set (L : Nat → Int) (n i : Nat) (x : Int) : (nums L n).set i (.int .i64 x) = nums (updI L i x) n := by
  apply List.ext_getElem?
  intro j
  rw [List.getElem?_set]
  by_cases hj : j < n
  · rw [nums_get _ hj, nums_get _ hj, nums_len]
    by_cases e : i = j
    · subst e; simp [hj, updI]
    · rw [if_neg e]
      have e' : ¬ j = i := fun h => e h.symm
      simp [updI, e']
  · rw [nums_len]
    rw [List.getElem?_eq_none (by rw [nums_len]; omega), List.getElem?_eq_none (by rw [nums_len]; omega)]
    split
    · split
      · omega
      · rfl
    · rfl
theorem nums_more (L : Nat → Int) (n : Nat) (x : Int) : nums (updI L n x) (n + 1) = nums L n ++ [.int .i64 x] := by
  show (List.range (n + 1)).map _ = _
  rw [List.range_succ, List.map_append]
  congr 1
  · apply List.map_congr_left
    intro i hi
    have := List.mem_range.1 hi
    simp [updI, show i ≠ n by omega]
  · simp [updI]
/-- The law's row of what is left. -/
def LfIs (O : Ghost) (lb n : Nat) (L : Nat → Int) : Prop := ∃ vl, O lb = some ⟨7, lb, .raw [vl] 38⟩ ∧ RowG 6 3 O vl (nums L n)
theorem LfIs.keep {O O' : Ghost} {lb n : Nat} {L : Nat → Int} (h : LfIs O lb n L) (hk : ∀ q o, O q = some o → o.cl = 6 ∨ o.cl = 7 → O' q = some o) : LfIs O' lb n L := by
  obtain ⟨vl, h1, h2⟩ := h
  exact ⟨vl, hk _ _ h1 (.inr rfl), h2.keep fun q o e hq => hk q o e (.inl hq)⟩
theorem step26_facts {k : Nat} {O : Ghost} {lb n j : Nat} {L : Nat → Int} {w : World} (hM : Mem k O w) (h : LfIs O lb n L) (hj : j < n) (x : Int) :
    ∃ b off cp, w.cell? ⟨lb, 0, none⟩ = some (.slice (some ⟨b, off, none⟩) n cp) ∧ w.cell? ⟨b, off + j, none⟩ = some (.int .i64 (L j)) ∧ w.frozen? ⟨b, off + j, none⟩ = false ∧ (w.setCell ⟨b, off + j, none⟩ (.int .i64 x)).cell? ⟨lb, 0, none⟩ = some (.slice (some ⟨b, off, none⟩) n cp) ∧
      (w.setCell ⟨b, off + j, none⟩ (.int .i64 x)).cell? ⟨b, off + j, none⟩ = some (.int .i64 x) ∧ ∃ O', LfIs O' lb n (updI L j x) ∧ Mem k O' (w.setCell ⟨b, off + j, none⟩ (.int .i64 x)) ∧ Stp 6 w.heap.size O O' w (w.setCell ⟨b, off + j, none⟩ (.int .i64 x)) := by
  obtain ⟨vl, h1, h2⟩ := h
  obtain ⟨b, off, cp, e1, e2, e3⟩ := h2.cell hM (nums_get L hj)
  rw [nums_len] at e1
  obtain ⟨g', off', cp', q1, O', q2, q3, q4⟩ := h2.set (B := w.heap.size) hM (i := j) (by rw [nums_len]; exact hj) (.int .i64 x)
  rw [nums_len] at q1
  rw [e1] at q1
  injection q1 with q1a _ q1c
  injection q1a with q1a
  injection q1a with x1 x2
  subst x1; subst x2; subst q1c
  have a1 := q3.keep _ _ h1 (by simp)
  refine ⟨b, off, cp, by rw [← e1]; exact hM.cell h1 (i := 0) rfl, e2, e3, by rw [← e1]; exact q2.cell a1 (i := 0) rfl, World.cell?_setCell_same w _ _ e2, O', ⟨vl, a1, ?_⟩, q2, q3⟩
  rw [← nums_set]; exact q4
/-- What the step leaves. -/
def P26 (k lb n j : Nat) (L : Nat → Int) (O : Ghost) (w : World) (e : Ending) (w' : World) : Prop :=
  (e = .returned (.bool (decide (2 ≤ L j))) ∨ (L j < 2 ∧ ∃ v, e = .panicked [{ v := v, recovered := false }])) ∧ ∃ O', LfIs O' lb n (updI L j (L j - 1)) ∧ Mem k O' w' ∧ Stp 6 w.heap.size O O' w w'
set_option maxRecDepth 20000 in
set_option maxHeartbeats 1000000 in
theorem step26 {k : Nat} (O : Ghost) (lb nb bb n j : Nat) (L : Nat → Int) (bad : Bool) (w : World) (hM : Mem k O w) (h : LfIs O lb n L) (h1 : O nb = some ⟨8, nb, .raw [.int .i64 j] 3⟩) (h2 : O bb = some ⟨8, bb, .raw [.bool bad] 4⟩) (hj : j < n) (hl : 0 ≤ L j ∧ L j ≤ 9223372036854775807) :
    Calls Try.prog 26 #[.pointer (some ⟨lb, 0, none⟩), .pointer (some ⟨nb, 0, none⟩), .pointer (some ⟨bb, 0, none⟩)] w fun e w' => P26 k lb n j L O w e w' := by
  obtain ⟨b, off, cp, c1, c2, c3, c4, c5, O', q1, q2, q3⟩ := step26_facts hM h hj (L j - 1)
  have c6 := hM.cell h1 (i := 0) rfl
  have c7 := q2.cell (q3.keep _ _ h1 (by simp)) (i := 0) rfl
  have c8 := q2.cell (q3.keep _ _ h2 (by simp)) (i := 0) rfl
  have HE : Hid (∃ O', LfIs O' lb n (updI L j (L j - 1)) ∧ Mem k O' (w.setCell ⟨b, off + j, none⟩ (.int .i64 (L j - 1))).drew ∧ Stp 6 w.heap.size O O' w (w.setCell ⟨b, off + j, none⟩ (.int .i64 (L j - 1))).drew) := ⟨O', q1, q2.drew, q3.trans (Stp.drew _ _ _ _)⟩
  have hjI : (j : Int) < (n : Int) := by omega
  have hw : IntKind.i64.wrap (L j - 1) = L j - 1 := by rw [IntKind.wrap_i64]; omega
  clear hM h h1 h2 hj q1 q2 q3
  unfold P26
  by_cases h2 : 2 ≤ L j
  · have h3 : ¬ (L j - 1 < 1) := by omega
    have h3' : 1 ≤ L j - 1 := by omega
    go_enter Try.func26, Try.ntmps26
    go_wp2_with fail
    go_region
    go_wp2_with fail
    go_ret
    exact ⟨.inl (by simp [h2]), unhide HE⟩
  · have h3 : L j - 1 < 1 := by omega
    have h3' : ¬ (1 ≤ L j - 1) := by omega
    cases bad with
    | true =>
      go_enter Try.func26, Try.ntmps26
      go_wp2_with fail
      go_region
      go_wp2_with fail
      exact ⟨rfl, .inr ⟨by omega, _, rfl⟩, unhide HE⟩
    | false =>
      go_enter Try.func26, Try.ntmps26
      go_wp2_with fail
      go_region
      go_wp2_with fail
      go_ret
      exact ⟨.inl (by simp [h2]; omega), unhide HE⟩
end Go.Proofs.Ytnlfmmempomcaaa
