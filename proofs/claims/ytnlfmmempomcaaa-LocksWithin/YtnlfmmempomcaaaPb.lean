/- The law LocksWithin. -/
import Derived.Test.YtnlfmmempomcaaaPa
import Derived.LoopTactic
import Derived.Laws.EntriesVeiled
namespace Go.Proofs.Ytnlfmmempomcaaa
open Go.RowKit Go.Maps
set_option linter.unusedSimpArgs false
def O00 (n : Nat) (w : World) : Ghost := put (fun _ => none) w.heap.size ⟨2, w.heap.size, .raw [.int .i64 n] 3⟩
def fnV (A nB : Nat) : Value := .func (.func 35) #[] #[.pointer (some ⟨A, 0, none⟩), .pointer (some ⟨A + 1 + 1, 0, none⟩), .pointer (some ⟨A + 1, 0, none⟩), .pointer (some ⟨nB, 0, none⟩), .pointer (some ⟨A + 1 + 1 + 1, 0, none⟩)]
/-- The law's variables are laid. -/
def wB (rb nB : Nat) (w1 : World) : World := (((w1.alloc (.cells #[.pointer (some ⟨rb, 0, none⟩)] 52)).alloc (.cells #[.int .i64 0] 3)).alloc (.cells #[.int .i64 7] 3)).alloc (.cells #[fnV w1.heap.size nB] 24)
/-- What stands at a round's head: s steps are done. -/
def rnAt (n : Nat) (fv : Value) (s x : Nat) : Rn := if s ≤ n then ⟨[⟨s, fv, false, x, 0⟩], s + 1, false, s⟩ else ⟨[], n + 1, false, n + 1⟩
def WiS (rb A nB n s : Nat) (w wr : World) : Prop :=
  ∃ O x i, RnIs O rb (rnAt n (fnV A nB) s x) ∧ Mem 0 O wr ∧ Vars O A (A + 1 + 1) (A + 1) nB (A + 1 + 1 + 1) rb n (min s n : Nat) i ∧ (1 ≤ s → i = -1) ∧ Frm w.heap.size (fun _ => none) O w wr
section
variable {n rb : Nat} {w w1 : World}
theorem wi_start (h : RLeft 0 w.heap.size rb ⟨[], 0, false, 0⟩ (O00 n w) (w.alloc (.cells #[.int .i64 n] 3)) w1) :
    (wB rb w.heap.size w1).cell? ⟨w1.heap.size, 0, none⟩ = some (.pointer (some ⟨rb, 0, none⟩)) ∧ (wB rb w.heap.size w1).cell? ⟨w1.heap.size + 1 + 1 + 1, 0, none⟩ = some (fnV w1.heap.size w.heap.size) ∧
    ∃ O, RnIs O rb ⟨[], 0, false, 0⟩ ∧ Mem 0 O (wB rb w.heap.size w1) ∧ Vars O w1.heap.size (w1.heap.size + 1 + 1) (w1.heap.size + 1) w.heap.size (w1.heap.size + 1 + 1 + 1) rb n 0 7 ∧ Frm w.heap.size (fun _ => none) O w (wB rb w.heap.size w1) := by
  obtain ⟨O1, q1, q2, q3⟩ := h
  obtain ⟨A, hA⟩ : ∃ A, A = w1.heap.size := ⟨_, rfl⟩
  have hsz : w.heap.size + 1 ≤ w1.heap.size := by have := q3.size; rw [World.size_alloc] at this; exact this
  have m1 := q2.alloc 2 A [.pointer (some ⟨rb, 0, none⟩)] 52
  have m2 := m1.alloc 2 (A + 1) [.int .i64 0] 3
  have m3 := m2.alloc 2 (A + 1 + 1) [.int .i64 7] 3
  have m4 := m3.alloc 2 (A + 1 + 1 + 1) [fnV A w.heap.size] 24
  have s1 : Stp 2 w.heap.size O1 _ w1 _ := Stp.alloc q2 (by omega) ⟨2, A, .raw [.pointer (some ⟨rb, 0, none⟩)] 52⟩ (.cells #[.pointer (some ⟨rb, 0, none⟩)] 52)
  have s2 : Stp 2 w.heap.size _ _ (w1.alloc (.cells #[.pointer (some ⟨rb, 0, none⟩)] 52)) _ := Stp.alloc m1 (by simp; omega) ⟨2, A + 1, .raw [.int .i64 0] 3⟩ (.cells #[.int .i64 0] 3)
  have s3 : Stp 2 w.heap.size _ _ ((w1.alloc (.cells #[.pointer (some ⟨rb, 0, none⟩)] 52)).alloc (.cells #[.int .i64 0] 3)) _ := Stp.alloc m2 (by simp; omega) ⟨2, A + 1 + 1, .raw [.int .i64 7] 3⟩ (.cells #[.int .i64 7] 3)
  have s4 : Stp 2 w.heap.size _ _ (((w1.alloc (.cells #[.pointer (some ⟨rb, 0, none⟩)] 52)).alloc (.cells #[.int .i64 0] 3)).alloc (.cells #[.int .i64 7] 3)) _ := Stp.alloc m3 (by simp; omega) ⟨2, A + 1 + 1 + 1, .raw [fnV A w.heap.size] 24⟩ (.cells #[fnV A w.heap.size] 24)
  have s04 := ((s1.trans s2).trans s3).trans s4
  have z1 : (w1.alloc (.cells #[.pointer (some ⟨rb, 0, none⟩)] 52)).heap.size = A + 1 := by rw [World.size_alloc, hA]
  have z2 : ((w1.alloc (.cells #[.pointer (some ⟨rb, 0, none⟩)] 52)).alloc (.cells #[.int .i64 0] 3)).heap.size = A + 1 + 1 := by rw [World.size_alloc, z1]
  have z3 : (((w1.alloc (.cells #[.pointer (some ⟨rb, 0, none⟩)] 52)).alloc (.cells #[.int .i64 0] 3)).alloc (.cells #[.int .i64 7] 3)).heap.size = A + 1 + 1 + 1 := by rw [World.size_alloc, z2]
  rw [← hA]
  have hx := q2.lt (q1.run.choose_spec.1)
  obtain ⟨O4, hO4⟩ : ∃ O4, O4 = put (put (put (put O1 A ⟨2, A, .raw [.pointer (some ⟨rb, 0, none⟩)] 52⟩) (A + 1) ⟨2, A + 1, .raw [.int .i64 0] 3⟩) (A + 1 + 1) ⟨2, A + 1 + 1, .raw [.int .i64 7] 3⟩) (A + 1 + 1 + 1) ⟨2, A + 1 + 1 + 1, .raw [fnV A w.heap.size] 24⟩ := ⟨_, rfl⟩
  have m4' : Mem 0 O4 (wB rb w.heap.size w1) := by
    rw [hO4]
    rw [z3, z2, z1, ← hA] at m4
    unfold wB; rw [← hA]; exact m4
  have s04' : Stp 2 w.heap.size O1 O4 w1 (wB rb w.heap.size w1) := by
    rw [hO4]
    rw [z3, z2, z1, ← hA] at s04
    unfold wB; rw [← hA]; exact s04
  have hold : ∀ q, q < A → O4 q = O1 q := fun q hq => by rw [hO4, put_other _ _ (by omega), put_other _ _ (by omega), put_other _ _ (by omega), put_other _ _ (by omega)]
  have k0 : O4 A = some ⟨2, A, .raw [.pointer (some ⟨rb, 0, none⟩)] 52⟩ := by rw [hO4, put_other _ _ (by omega), put_other _ _ (by omega), put_other _ _ (by omega), put_same]
  have k1 : O4 (A + 1) = some ⟨2, A + 1, .raw [.int .i64 0] 3⟩ := by rw [hO4, put_other _ _ (by omega), put_other _ _ (by omega), put_same]
  have k2 : O4 (A + 1 + 1) = some ⟨2, A + 1 + 1, .raw [.int .i64 7] 3⟩ := by rw [hO4, put_other _ _ (by omega), put_same]
  have k3 : O4 (A + 1 + 1 + 1) = some ⟨2, A + 1 + 1 + 1, .raw [fnV A w.heap.size] 24⟩ := by rw [hO4, put_same]
  have kn : O4 w.heap.size = some ⟨2, w.heap.size, .raw [.int .i64 n] 3⟩ := by
    rw [hold _ (by omega)]
    exact q3.keep _ _ (by unfold O00; exact put_same _ _ _) (by simp)
  have hR4 : RnIs O4 rb ⟨[], 0, false, 0⟩ := q1.keep fun q o hq _ => by rw [hold q (by have := q2.lt hq; omega)]; exact hq
  have f0 : Frm w.heap.size (fun _ => none) (O00 n w) w (w.alloc (.cells #[.int .i64 n] 3)) := ⟨rfl, rfl, rfl, by simp, fun q h1 _ => Below.heap_alloc _ _ _ h1, fun q h1 _ => by unfold O00; rw [put_other _ _ (by omega)]⟩
  refine ⟨m4'.cell k0 (i := 0) rfl, m4'.cell k3 (i := 0) rfl, _, hR4, m4', ⟨k0, k2, k1, kn, k3, by omega⟩, (f0.trans q3.frm).trans s04'.frm⟩
/-- The first task is added. -/
theorem wi_first {A nB : Nat} {W : World} {O : Ghost} (q1 : RnIs O rb ⟨[], 0, false, 0⟩) (q2 : Mem 0 O W) (q3 : Vars O A (A + 1 + 1) (A + 1) nB (A + 1 + 1 + 1) rb n 0 7) (q4 : Frm w.heap.size (fun _ => none) O w W) :
    Calls Try.prog 25 #[.pointer (some ⟨rb, 0, none⟩), fnV A nB] W fun e w' => e = .returned (.int .i64 0) ∧ WiS rb A nB n 0 w w' := by
  refine (add_ok O rb ⟨[], 0, false, 0⟩ W q2 q1 (.func 35) #[] _ (by simp) (by simp)).mono ?_
  rintro e w' ⟨rfl, x, O', p1, p2, p3⟩
  exact ⟨rfl, O', x, 7, by unfold rnAt; rw [if_pos (Nat.zero_le _)]; exact p1, p2, by rw [Nat.zero_min]; exact q3.keep p3.keep, fun e => by omega, q4.trans (p3.frm.mono q4.size)⟩
theorem enters35 : Enters 35 := enters_of Try.func35 (by kernel_rfl) (by kernel_rfl)
/-- A step. -/
theorem wi_step {A nB s : Nat} {W : World} (hn : n ≤ 50) (hs : s ≤ n) (h : WiS rb A nB n s w W) :
    Calls Try.prog 29 #[.pointer (some ⟨rb, 0, none⟩), .int .i64 (s : Int)] W fun e w' => e = .returned (.tuple #[.int .i64 (s : Int), .bool true]) ∧ WiS rb A nB n (s + 1) w w' := by
  obtain ⟨O, x, i, q1, q2, q3, q4, q5⟩ := h
  unfold rnAt at q1
  rw [if_pos hs] at q1
  rw [Nat.min_eq_left hs] at q3
  refine (step_some (Pq := fun O2 w2 more R2 => more = false ∧ ((n ≤ s ∧ R2 = (⟨[⟨s, fnV A nB, false, x, 0⟩], s + 1, false, s⟩ : Rn).busyOn ∧ Vars O2 A (A + 1 + 1) (A + 1) nB (A + 1 + 1 + 1) rb n s (-1)) ∨ (s < n ∧ (∃ y, R2 = ⟨[⟨s, fnV A nB, false, x, 0⟩] ++ [⟨s + 1, fnV A nB, false, y, 0⟩], s + 1 + 1, true, s⟩) ∧ Vars O2 A (A + 1 + 1) (A + 1) nB (A + 1 + 1 + 1) rb n (s + 1 : Nat) (-1)))) O rb _ W q2 q1 rfl s (by omega) ⟨s, fnV A nB, false, x, 0⟩ (by
      show ([⟨s, fnV A nB, false, x, 0⟩] : List Jb)[pickOf s 1]? = _
      rw [show pickOf s 1 = 0 from Nat.mod_one _]; rfl) 35 _ rfl enters35 fun O1 w1 r1 r2 r3 => ?_).mono ?_
  · refine (step35 O1 A (A + 1 + 1) (A + 1) nB (A + 1 + 1 + 1) rb n s i _ w1 r2 r1 (q3.keep r3.keep) rfl (by simp [Rn.busyOn]) (by simp [Rn.busyOn]; omega) (by omega)).mono ?_
    rintro e w2 ⟨rfl, O2, R2, p1, p2, p3, p4⟩
    refine ⟨O2, R2, false, .inl rfl, p1, p2, p3, ?_, ?_, rfl, ?_⟩
    · rcases p4 with ⟨_, rfl, _⟩ | ⟨_, ⟨y, rfl⟩, _⟩
      · exact ⟨_, List.mem_cons_self .., rfl, rfl, rfl⟩
      · exact ⟨_, List.mem_append_left _ (List.mem_cons_self ..), rfl, rfl, rfl⟩
    · rcases p4 with ⟨_, rfl, _⟩ | ⟨_, ⟨y, rfl⟩, _⟩
      · simp [Rn.busyOn]; omega
      · simp [Rn.busyOn]; omega
    · exact p4
  · rintro e w' ⟨rfl, W2, _, hs2, O2, w2, more, R2, O', ⟨rfl, hp⟩, p1, p2, p3, p4, _⟩
    refine ⟨rfl, ?_⟩
    have hfr : Frm w.heap.size (fun _ => none) O' w w' := (q5.trans (hs2.frm.mono q5.size)).trans (p4.mono (Nat.le_trans q5.size hs2.size))
    rcases hp with ⟨h1, rfl, h3⟩ | ⟨h1, ⟨y, rfl⟩, h3⟩
    · obtain rfl : s = n := by omega
      refine ⟨O', 0, -1, ?_, p2, ?_, fun _ => rfl, hfr⟩
      · unfold rnAt
        rw [if_neg (by omega)]
        have : (Rn.busyOn ⟨[⟨s, fnV A nB, false, x, 0⟩], s + 1, false, s⟩).after s false = ⟨[], s + 1, false, s + 1⟩ := by simp [Rn.after, Rn.idle, Rn.gone, Rn.busyOn]
        rw [← this]; exact p1
      · rw [Nat.min_eq_right (by omega)]; exact h3.keep p3.keep
    · refine ⟨O', y, -1, ?_, p2, ?_, fun _ => rfl, hfr⟩
      · unfold rnAt
        rw [if_pos (by omega)]
        have : Rn.after ⟨[⟨s, fnV A nB, false, x, 0⟩] ++ [⟨s + 1, fnV A nB, false, y, 0⟩], s + 1 + 1, true, s⟩ s false = ⟨[⟨s + 1, fnV A nB, false, y, 0⟩], s + 1 + 1, false, s + 1⟩ := by simp [Rn.after, Rn.idle, Rn.gone]
        rw [← this]; exact p1
      · rw [Nat.min_eq_left (by omega)]; exact h3.keep p3.keep
theorem wi_cell {A nB s : Nat} {W : World} (h : WiS rb A nB n s w W) : W.cell? ⟨A, 0, none⟩ = some (.pointer (some ⟨rb, 0, none⟩)) := by
  obtain ⟨O, x, i, q1, q2, q3, q4, q5⟩ := h
  exact q2.cell q3.r (i := 0) rfl
/-- No task is left. -/
theorem wi_last {A nB : Nat} {W : World} (h : WiS rb A nB n (n + 1) w W) (s : Int) :
    Calls Try.prog 29 #[.pointer (some ⟨rb, 0, none⟩), .int .i64 s] W fun e w' => e = .returned (.tuple #[.int .i64 (-1), .bool false]) ∧ WiS rb A nB n (n + 1) w w' := by
  obtain ⟨O, x, i, q1, q2, q3, q4, q5⟩ := h
  unfold rnAt at q1
  rw [if_neg (by omega)] at q1
  refine (step_none O rb _ W q2 q1 rfl rfl s).mono ?_
  rintro e w' ⟨rfl, p1, p2⟩
  exact ⟨rfl, O, x, i, by unfold rnAt; rw [if_neg (by omega)]; exact q1, p1, q3, q4, q5.trans (p2.frm.mono q5.size)⟩
/-- What is left at the end. -/
theorem wi_left {A nB : Nat} {W : World} (h : WiS rb A nB n (n + 1) w W) :
    Calls Try.prog 33 #[.pointer (some ⟨rb, 0, none⟩)] W fun e w' => e = .returned (.tuple #[.int .i64 0, .int .i64 ((n : Int) + 1)]) ∧ w'.cell? ⟨nB, 0, none⟩ = some (.int .i64 n) ∧ w'.cell? ⟨A + 1 + 1, 0, none⟩ = some (.int .i64 (-1)) ∧ Below w.heap.size w w' := by
  obtain ⟨O, x, i, q1, q2, q3, q4, q5⟩ := h
  unfold rnAt at q1
  rw [if_neg (by omega)] at q1
  obtain rfl := q4 (by omega)
  refine (rleft_ok O rb _ W q2 q1).mono ?_
  rintro e w' ⟨rfl, hb⟩
  have hM := Rp.below q2 hb
  exact ⟨by simp, hM.cell q3.nn (i := 0) rfl, hM.cell q3.inn (i := 0) rfl, (q5.below fun _ _ => rfl).trans (hb.mono q5.size)⟩
end
theorem newrun_at (n : Nat) (w : World) : Calls Try.prog 24 #[] (w.alloc (.cells #[.int .i64 n] 3)) fun e w1 => ∃ rb, e = .returned (.pointer (some ⟨rb, 0, none⟩)) ∧ RLeft 0 w.heap.size rb ⟨[], 0, false, 0⟩ (O00 n w) (w.alloc (.cells #[.int .i64 n] 3)) w1 := by
  have hM : Mem 0 (O00 n w) (w.alloc (.cells #[.int .i64 n] 3)) := (mem_none 0 w).alloc 2 w.heap.size [.int .i64 n] 3
  exact newrun_ok (B := w.heap.size) _ _ hM (by simp)
def WiR (rb A nB n : Nat) (w : World) (v : Value) (wr : World) : Prop := ∃ s : Nat, v = .int .i64 (s : Int) ∧ s ≤ n + 1 ∧ WiS rb A nB n s w wr
set_option maxRecDepth 20000 in
set_option maxHeartbeats 4000000 in
theorem within_any (z : Int) (w : World) : Calls Try.prog 7 #[.int .i64 z] w fun e w' => e = .returned (.bool true) ∧ Below w.heap.size w w' := by
  have hmf := makeF'
  have HK := hide known_ok
  by_cases h1 : z < 1
  · go_enter Try.func7, Try.ntmps7
    go_wp2_with (go_at_call 10; refine (unhide HK _).mono ?_; rintro e w6 ⟨rfl, hb⟩)
    go_ret
    exact ⟨rfl, ((Below.refl _ _).alloc (Nat.le_refl _) _).trans (hb.mono (by simp))⟩
  by_cases h2 : 50 < z
  · go_enter Try.func7, Try.ntmps7
    go_wp2_with (go_at_call 10; refine (unhide HK _).mono ?_; rintro e w6 ⟨rfl, hb⟩)
    go_ret
    exact ⟨rfl, ((Below.refl _ _).alloc (Nat.le_refl _) _).trans (hb.mono (by simp))⟩
  obtain ⟨n, rfl⟩ : ∃ n : Nat, z = (n : Int) := ⟨z.toNat, by omega⟩
  have HN := hide (newrun_at n w)
  have hn : n ≤ 50 := by omega
  have HN2 := hide hn
  have HS : Hid (∀ rb w1, RLeft 0 w.heap.size rb ⟨[], 0, false, 0⟩ (O00 n w) (w.alloc (.cells #[.int .i64 n] 3)) w1 → _) := fun rb w1 h => wi_start h
  clear hn
  go_enter Try.func7, Try.ntmps7
  go_wp2_with (first | (go_at_call 24; refine (unhide HN).mono ?_; rintro e w1 ⟨rb, rfl, hr⟩; obtain ⟨f3, f4, O, q1, q2, q3, q4⟩ := unhide HS rb w1 hr; unfold wB at f3 f4; unfold fnV at f3 f4; have HF := hide (wi_first q1 q2 q3 q4); unfold wB fnV at HF; clear hr q1 q2 q3 q4) | (go_at_call 25; refine (unhide HF).mono ?_; rintro e w2 ⟨rfl, hw⟩))
  go_loopw [7] (fun v wr => WiR rb w1.heap.size w.heap.size n w v wr) (fun v _ => n + 2 - (intOf v).toNat)
  case atStart => exact ⟨0, rfl, by omega, hw⟩
  case round =>
    obtain ⟨s, rfl, hsn, hS⟩ := hrel
    have cr := wi_cell hS
    have hs200 : (s : Int) < 200 := by omega
    by_cases hs : s ≤ n
    · have HC := hide (wi_step (unhide HN2) hs hS)
      clear hS f3 f4
      go_wp2_with (go_at_call 29; refine (unhide HC).mono ?_; rintro e w4 ⟨rfl, hn4⟩)
      go_roundw
      case rel => exact ⟨s + 1, by simp, by omega, hn4⟩
      case measure => simp [intOf]; omega
    · obtain rfl : s = n + 1 := by omega
      have HC := hide (wi_last hS ((n : Int) + 1))
      clear hS f3 f4
      go_wp2_with (first | (go_at_call 29; refine (unhide HC).mono ?_; rintro e w4 ⟨rfl, hn4⟩; have cr4 := wi_cell hn4; have HL := hide (wi_left hn4); clear hn4) | (go_at_call 33; refine (unhide HL).mono ?_; rintro e w5 ⟨rfl, l1, l2, l3⟩) | (go_at_call 10; refine (unhide HK _).mono ?_; rintro e w6 ⟨rfl, hb⟩))
      go_ret
      exact ⟨rfl, l3.trans (hb.mono l3.size)⟩
end Go.Proofs.Ytnlfmmempomcaaa
