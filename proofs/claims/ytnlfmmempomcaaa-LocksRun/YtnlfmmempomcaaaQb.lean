/- The document's Run. -/
import Derived.Test.YtnlfmmempomcaaaQa
import Derived.LoopTactic
namespace Go.Proofs.Ytnlfmmempomcaaa
open Go.RowKit Go.Maps
set_option linter.unusedSimpArgs false
def bools (E : Nat → Bool) (n : Nat) : List Value := (List.range n).map fun i => .bool (E i)
theorem bools_len (E : Nat → Bool) (n : Nat) : (bools E n).length = n := by simp [bools]
theorem bools_get (E : Nat → Bool) {n i : Nat} (h : i < n) : (bools E n)[i]? = some (.bool (E i)) := by simp [bools, List.getElem?_map, List.getElem?_range h]
theorem bools_succ (E : Nat → Bool) (n : Nat) : bools E (n + 1) = bools E n ++ [.bool (E n)] := by simp [bools, List.range_succ]
def updB (E : Nat → Bool) (i : Nat) (b : Bool) : Nat → Bool := fun j => if j = i then b else E j
theorem bools_set (E : Nat → Bool) (n i : Nat) (b : Bool) : (bools E n).set i (.bool b) = bools (updB E i b) n := by
  apply List.ext_getElem?
  intro j
  rw [List.getElem?_set]
  by_cases hj : j < n
  · rw [bools_get _ hj, bools_get _ hj, bools_len]
    by_cases e : i = j
    · subst e; simp [hj, updB]
    · rw [if_neg e]
      have e' : ¬ j = i := fun h => e h.symm
      simp [updB, e']
  · rw [bools_len]
    rw [List.getElem?_eq_none (by rw [bools_len]; omega), List.getElem?_eq_none (by rw [bools_len]; omega)]
    split
    · split
      · omega
      · rfl
    · rfl
/-- The document's Run. -/
structure DR where
  E : Nat → Bool
  B : Nat → Bool
  n : Nat
  s : Nat
def DIs (O : Ghost) (wb : Nat) (D : DR) : Prop := ∃ ve vb, O wb = some ⟨2, wb, .raw [ve, vb, .int .i64 D.s] 57⟩ ∧ RowG 4 4 O ve (bools D.E D.n) ∧ RowG 5 4 O vb (bools D.B D.n) ∧ D.n ≤ 1000
def opn (E : Nat → Bool) (n : Nat) : List Nat := (List.range n).filter fun i => !E i
theorem opn_succ (E : Nat → Bool) (n : Nat) : opn E (n + 1) = if E n then opn E n else opn E n ++ [n] := by
  unfold opn
  rw [List.range_succ, List.filter_append]
  cases h : E n <;> simp [h]
theorem opn_len (E : Nat → Bool) (n : Nat) : (opn E n).length ≤ n := by
  have := List.length_filter_le (fun i => !E i) (List.range n)
  simpa [opn] using this
/-- What is read of a row of truths. -/
def Reads (w : World) (v : Value) (E : Nat → Bool) (n : Nat) : Prop := ∃ a cp, v = .slice a n cp ∧ ∀ i, i < n → ∃ b off, a = some ⟨b, off, none⟩ ∧ w.cell? ⟨b, off + i, none⟩ = some (.bool (E i))
theorem RowG.reads {k c e : Nat} {O : Ghost} {w : World} {v : Value} {E : Nat → Bool} {n : Nat} (h : RowG c e O v (bools E n)) (hM : Mem k O w) : Reads w v E n := by
  obtain ⟨a, cp, rfl, _⟩ := h.shape
  rw [bools_len] at h ⊢
  refine ⟨a, cp, rfl, fun i hi => ?_⟩
  obtain ⟨b, off, cp', e1, e2, _⟩ := h.cell hM (bools_get E hi)
  injection e1 with e1
  exact ⟨b, off, e1, e2⟩
def LfR (E : Nat → Bool) (n : Nat) (w : World) (v i : Value) (wr : World) : Prop := ∃ m : Nat, i = .int .i64 (m : Int) ∧ m ≤ n ∧ v = .int .i64 ((opn E m).length : Int) ∧ wr = w
set_option maxRecDepth 20000 in
set_option maxHeartbeats 1000000 in
theorem dleft_ok {k : Nat} (O : Ghost) (wb : Nat) (D : DR) (w : World) (hM : Mem k O w) (h : DIs O wb D) :
    Calls Try.prog 34 #[.pointer (some ⟨wb, 0, none⟩)] w fun e w' => e = .returned (.int .i64 ((opn D.E D.n).length : Int)) ∧ w' = w := by
  obtain ⟨ve, vb, h1, h2, h3, h4⟩ := h
  obtain ⟨a, cp, rfl, hr⟩ := h2.reads hM
  have c0 := hM.cell h1 (i := 0) rfl
  have HR := hide hr
  have hn : (D.n : Int) ≤ 1000 := by omega
  generalize D.n = n at *
  generalize D.E = E at *
  have H0 : Hid (LfR E n w (.int .i64 0) (.int .i64 0) w) := ⟨0, rfl, Nat.zero_le _, rfl, rfl⟩
  clear hM h1 h2 h3 h4 hr
  go_enter Try.func34, Try.ntmps34
  go_wp2_with fail
  go_loopw [3, 4] (fun v i wr => LfR E n w v i wr) (fun _ i _ => n - (intOf i).toNat)
  case atStart => exact unhide H0
  case round =>
    obtain ⟨m, rfl, hmn, rfl, rfl⟩ := hrel
    by_cases hm : m < n
    · have hmI : (m : Int) < (n : Int) := by omega
      obtain ⟨b, off, rfl, d1⟩ := unhide HR m hm
      have hl := opn_len E m
      cases hE : E m with
      | true =>
        rw [hE] at d1
        have HE : Hid (LfR E n wr (.int .i64 ((opn E m).length : Int)) (.int .i64 ((m : Int) + 1)) wr) := ⟨m + 1, by simp, by omega, by rw [opn_succ, hE]; rfl, rfl⟩
        go_wp2_with fail
        go_roundw
        case rel => exact unhide HE
        case measure => simp [intOf]; omega
      | false =>
        rw [hE] at d1
        have HE : Hid (LfR E n wr (.int .i64 (((opn E m).length : Int) + 1)) (.int .i64 ((m : Int) + 1)) wr) := ⟨m + 1, by simp, by omega, by rw [opn_succ, hE]; simp, rfl⟩
        go_wp2_with fail
        go_roundw
        case rel => exact unhide HE
        case measure => simp [intOf]; omega
    · have hmI : ¬ ((m : Int) < (n : Int)) := by omega
      obtain rfl : m = n := by omega
      go_wp2_with fail
      go_ret
      exact ⟨rfl, rfl⟩
set_option maxRecDepth 20000 in
theorem there_ok {k : Nat} (O : Ghost) (wb : Nat) (D : DR) (w : World) (hM : Mem k O w) (h : DIs O wb D) (z : Int) :
    Calls Try.prog 56 #[.pointer (some ⟨wb, 0, none⟩), .int .i64 z] w fun e w' => e = .returned (.bool (decide (0 ≤ z ∧ z < D.n) && !D.E z.toNat)) ∧ w' = w := by
  obtain ⟨ve, vb, h1, h2, h3, h4⟩ := h
  obtain ⟨a, cp, rfl, hr⟩ := h2.reads hM
  have c0 := hM.cell h1 (i := 0) rfl
  have HR := hide hr
  have hn : (D.n : Int) ≤ 1000 := by omega
  generalize D.n = n at *
  generalize D.E = E at *
  clear hM h1 h2 h3 h4 hr
  by_cases hz : 0 ≤ z
  · obtain ⟨m, rfl⟩ : ∃ m : Nat, z = (m : Int) := ⟨z.toNat, by omega⟩
    by_cases hm : m < n
    · obtain ⟨b, off, rfl, d1⟩ := unhide HR m hm
      have hmI : (m : Int) < (n : Int) := by omega
      cases hE : E m with
      | true =>
        rw [hE] at d1
        go_enter Try.func56, Try.ntmps56
        go_wp2_with fail
        go_ret
        exact ⟨by simp [hE], rfl⟩
      | false =>
        rw [hE] at d1
        go_enter Try.func56, Try.ntmps56
        go_wp2_with fail
        go_ret
        exact ⟨by simp [hE, hm], rfl⟩
    · have hmI : ¬ ((m : Int) < (n : Int)) := by omega
      go_enter Try.func56, Try.ntmps56
      go_wp2_with fail
      go_ret
      exact ⟨by simp [hm], rfl⟩
  · go_enter Try.func56, Try.ntmps56
    go_wp2_with fail
    go_ret
    exact ⟨by rw [decide_eq_false (show ¬ (0 ≤ z) by omega)]; rfl, rfl⟩
/-- What the document's Block leaves. -/
def DR.mark (D : DR) (z : Int) (b : Bool) : DR := if (decide (0 ≤ z ∧ z < D.n) && !D.E z.toNat) = true then ⟨D.E, updB D.B z.toNat b, D.n, D.s⟩ else D
def DrL (k B : Nat) (c : Nat) (wb : Nat) (D : DR) (O : Ghost) (w w' : World) : Prop := ∃ O', DIs O' wb D ∧ Mem k O' w' ∧ Stp c B O O' w w'
theorem dmark_fact {k : Nat} {O : Ghost} {wb : Nat} {D : DR} {w : World} (hM : Mem k O w) (h : DIs O wb D) {m : Nat} (hm : m < D.n) (hE : D.E m = false) (b : Bool) :
    ∃ vb, w.cell? ⟨wb, 1, none⟩ = some vb ∧ ∃ g off cp, vb = .slice (some ⟨g, off, none⟩) D.n cp ∧ (∃ u, w.cell? ⟨g, off + m, none⟩ = some u) ∧ w.frozen? ⟨g, off + m, none⟩ = false ∧ DrL k w.heap.size 5 wb (D.mark (m : Int) b) O w (w.setCell ⟨g, off + m, none⟩ (.bool b)) := by
  obtain ⟨ve, vb, h1, h2, h3, h4⟩ := h
  refine ⟨vb, hM.cell h1 (i := 1) rfl, ?_⟩
  obtain ⟨g, off, cp, e1, e2, e3⟩ := h3.cell hM (bools_get D.B hm)
  rw [bools_len] at e1
  obtain ⟨g', off', cp', q1, O', q2, q3, q4⟩ := h3.set (B := w.heap.size) hM (i := m) (by rw [bools_len]; exact hm) (.bool b)
  rw [bools_len] at q1
  rw [e1] at q1
  injection q1 with q1a _ q1c
  injection q1a with q1a
  injection q1a with x1 x2
  subst x1; subst x2; subst q1c
  refine ⟨g, off, cp, e1, ⟨_, e2⟩, e3, O', ?_, q2, q3⟩
  have hmk : D.mark (m : Int) b = ⟨D.E, updB D.B m b, D.n, D.s⟩ := by
    unfold DR.mark
    rw [if_pos (by simp [hm, hE])]
    rfl
  rw [hmk]
  refine ⟨ve, vb, q3.keep _ _ h1 (by simp), h2.keep fun q o h5 h6 => q3.keep q o h5 (by omega), ?_, h4⟩
  rw [← bools_set]; exact q4
set_option maxRecDepth 20000 in
set_option maxHeartbeats 1000000 in
theorem dblock_ok {k : Nat} (O : Ghost) (wb : Nat) (D : DR) (w : World) (hM : Mem k O w) (h : DIs O wb D) (z : Int) (b : Bool) :
    Calls Try.prog 31 #[.pointer (some ⟨wb, 0, none⟩), .int .i64 z, .bool b] w fun e w' => e = .returned (.bool (decide (0 ≤ z ∧ z < D.n) && !D.E z.toNat)) ∧ DrL k w.heap.size 5 wb (D.mark z b) O w w' := by
  have HT := hide (there_ok O wb D w hM h z)
  by_cases hc : (decide (0 ≤ z ∧ z < D.n) && !D.E z.toNat) = true
  · have hc' := hc
    simp only [Bool.and_eq_true, decide_eq_true_eq, Bool.not_eq_true'] at hc'
    obtain ⟨⟨z1, z2⟩, z3⟩ := hc'
    obtain ⟨m, rfl⟩ : ∃ m : Nat, z = (m : Int) := ⟨z.toNat, by omega⟩
    obtain ⟨vb, c1, g, off, cp, rfl, ⟨u, c2⟩, c3, hL⟩ := dmark_fact hM h (m := m) (by omega) (by simpa using z3) b
    have HE := hide hL
    rw [hc] at HT ⊢
    have h4 := h.choose_spec.choose_spec.2.2.2
    have hn : (D.n : Int) ≤ 1000 := by omega
    generalize D.mark (m : Int) b = D' at *
    generalize D.n = n at *
    clear hM h hc hL z3 h4
    go_enter Try.func31, Try.ntmps31
    go_wp2_with (go_at_call 56; refine (unhide HT).mono ?_; rintro e w' ⟨rfl, rfl⟩)
    go_ret
    exact ⟨rfl, unhide HE⟩
  · have hc' : (decide (0 ≤ z ∧ z < D.n) && !D.E z.toNat) = false := by simpa using hc
    have HE : Hid (DrL k w.heap.size 5 wb (D.mark z b) O w w) := ⟨O, by unfold DR.mark; rw [if_neg hc]; exact h, hM, Stp.refl _ _ _ _⟩
    rw [hc'] at HT ⊢
    generalize D.mark z b = D' at *
    clear hM h hc hc'
    go_enter Try.func31, Try.ntmps31
    go_wp2_with (go_at_call 56; refine (unhide HT).mono ?_; rintro e w' ⟨rfl, rfl⟩)
    go_ret
    exact ⟨rfl, unhide HE⟩
end Go.Proofs.Ytnlfmmempomcaaa
