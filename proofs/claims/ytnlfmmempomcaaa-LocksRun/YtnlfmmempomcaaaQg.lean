/- LocksRun: a step. -/
import Derived.Test.YtnlfmmempomcaaaQf
namespace Go.Proofs.Ytnlfmmempomcaaa
open Go.RowKit Go.Maps
set_option linter.unusedSimpArgs false
/-- The document's Run behind a step. -/
def DR.step (D : DR) (m : Nat) (more : Bool) : DR := ⟨updB D.E m (!more), D.B, D.n, D.s + 1⟩
theorem opn_same {E : Nat → Bool} {m : Nat} (h : E m = false) (n : Nat) : opn (updB E m false) n = opn E n := by
  unfold opn
  refine List.filter_congr fun i _ => ?_
  by_cases e : i = m
  · subst e; simp [updB, h]
  · simp [updB, e]
theorem opn_gone (E : Nat → Bool) (m n : Nat) : opn (updB E m true) n = (opn E n).filter fun i => decide (i ≠ m) := by
  unfold opn
  rw [List.filter_filter]
  refine List.filter_congr fun i _ => ?_
  by_cases e : i = m
  · subst e; simp [updB]
  · simp [updB, e]
theorem RD.step {O : Ghost} {lb : Nat} {R : Rn} {D : DR} {L : Nat → Int} (h : RD O lb R D L) {m : Nat} (hm : m < D.n) (hE : D.E m = false) :
    RD O lb (R.busyOn.after m (decide (2 ≤ L m))) (D.step m (decide (2 ≤ L m))) (updI L m (L m - 1)) := by
  have hp := h.pos m hm hE
  have hpos : ∀ i, i < D.n → updB D.E m (!decide (2 ≤ L m)) i = false → 0 ≤ updI L m (L m - 1) i ∧ updI L m (L m - 1) i ≤ 9223372036854775807 := fun i hi he => by
    by_cases e : i = m
    · subst e
      simp [updB] at he
      simp [updI]
      omega
    · rw [show updI L m (L m - 1) i = L i from if_neg e]
      rw [show updB D.E m (!decide (2 ≤ L m)) i = D.E i from if_neg e] at he
      exact h.pos i hi he
  by_cases h2 : 2 ≤ L m
  · have hd : decide (2 ≤ L m) = true := decide_eq_true h2
    rw [hd] at hpos ⊢
    refine ⟨rfl, h.nx, by show R.steps + 1 = D.s + 1; rw [h.st], ?_, h.fn, h.lk, hpos⟩
    show _ = (opn (updB D.E m false) D.n).map _
    rw [opn_same hE]
    exact h.map
  · have hd : decide (2 ≤ L m) = false := decide_eq_false h2
    rw [hd] at hpos ⊢
    have hsub : ∀ j ∈ (R.busyOn.after m false).js, j ∈ R.js := fun j hj => (List.mem_filter.1 hj).1
    refine ⟨rfl, h.nx, by show R.steps + 1 = D.s + 1; rw [h.st], ?_, fun j hj => h.fn j (hsub j hj), fun j hj => h.lk j (hsub j hj), hpos⟩
    show (R.js.filter fun j => decide (j.no ≠ m)).map _ = (opn (updB D.E m true) D.n).map _
    rw [opn_gone]
    have e := congrArg (List.filter fun p : Nat × Bool => decide (p.1 ≠ m)) h.map
    rw [List.filter_map, List.filter_map] at e
    exact e
def in36 (c : Nat) : Bool := c == 3 || c == 6
/-- What a step leaves. -/
def Stepped (k rb wb lb m : Nat) (R : Rn) (D : DR) (L : Nat → Int) (O : Ghost) (w w' : World) : Prop :=
  ∃ O', RnIs O' rb (R.busyOn.after m (decide (2 ≤ L m))) ∧ DIs O' wb D ∧ LfIs O' lb D.n (updI L m (L m - 1)) ∧ Mem k O' w' ∧ Frm w.heap.size O O' w w' ∧ KeepX in36 O O'
theorem DIs.keep {O O' : Ghost} {wb : Nat} {D : DR} (h : DIs O wb D) (hk : ∀ q o, O q = some o → o.cl = 2 ∨ o.cl = 4 ∨ o.cl = 5 → O' q = some o) : DIs O' wb D := by
  obtain ⟨ve, vb, h1, h2, h3, h4⟩ := h
  exact ⟨ve, vb, hk _ _ h1 (.inl rfl), h2.keep fun q o e hq => hk q o e (.inr (.inl hq)), h3.keep fun q o e hq => hk q o e (.inr (.inr hq)), h4⟩
theorem enters26 : Enters 26 := enters_of Try.func26 (by kernel_rfl) (by kernel_rfl)
theorem KeepX.dis {O O' : Ghost} (h : KeepX in36 O O') {wb : Nat} {D : DR} (hd : DIs O wb D) : DIs O' wb D := hd.keep fun q o e hq => h q o e (by rcases hq with hq | hq | hq <;> rw [hq] <;> rfl)
theorem rstep_some {k : Nat} (O : Ghost) (rb wb lb : Nat) (R : Rn) (D : DR) (L : Nat → Int) (w : World) (hM : Mem k O w) (h1 : RnIs O rb R) (h2 : DIs O wb D) (h3 : LfIs O lb D.n L) (h : RD O lb R D L) (hs : D.s < 1000000) (p : Int) (hp : -9223372036854775808 ≤ p ∧ p ≤ 9223372036854775807) (m : Nat) (hm : (pkl D.E D.B D.n)[pickOf p (pkl D.E D.B D.n).length]? = some m) :
    (m < D.n ∧ D.E m = false) ∧ Calls Try.prog 29 #[.pointer (some ⟨rb, 0, none⟩), .int .i64 p] w fun e w' => e = .returned (.tuple #[.int .i64 (m : Int), .bool true]) ∧ Stepped k rb wb lb m R D L O w w' := by
  have hmem := List.mem_of_getElem? hm
  have hmn : m < D.n ∧ D.E m = false := by
    unfold pkl at hmem
    have := List.mem_filter.1 hmem
    refine ⟨List.mem_range.1 this.1, ?_⟩
    have := this.2
    simp at this
    exact this.1
  refine ⟨hmn, ?_⟩
  rw [← h.ready, List.length_map, List.getElem?_map] at hm
  obtain ⟨b, hb⟩ : ∃ b, R.ready[pickOf p R.ready.length]? = some b := by
    cases e : R.ready[pickOf p R.ready.length]? with
    | none => rw [e] at hm; cases hm
    | some b => exact ⟨b, rfl⟩
  rw [hb] at hm
  obtain rfl : b.no = m := Option.some.inj hm
  have hbm : b ∈ R.js := (List.mem_filter.1 (List.mem_of_getElem? hb)).1
  obtain ⟨nb, bb, bad, f1, f2, f3⟩ := h.fn b hbm
  have hpos := h.pos b.no hmn.1 hmn.2
  refine (step_some (Pq := fun O2 w2 more R2 => R2 = R.busyOn ∧ more = decide (2 ≤ L b.no) ∧ LfIs O2 lb D.n (updI L b.no (L b.no - 1)) ∧ KeepX in36 O O2 ∧ Frm w.heap.size O O2 w w2) O rb R w hM h1 h.idle p hp b hb 26 _ f1 enters26 fun O1 w1 r1 r2 r3 => ?_).mono ?_
  · refine (step26 O1 lb nb bb D.n b.no L bad w1 r2 (h3.keep fun q o e hq => r3.keep q o e (by rcases hq with hq | hq <;> omega)) (r3.keep _ _ f2 (by simp)) (r3.keep _ _ f3 (by simp)) hmn.1 hpos).mono ?_
    rintro e w2 ⟨he, O2, q1, q2, q3⟩
    have hk : ∀ q o, O1 q = some o → o.cl = 3 → O2 q = some o := fun q o e hq => q3.keep q o e (by omega)
    refine ⟨O2, R.busyOn, decide (2 ≤ L b.no), ?_, r1.keep hk, q2, q3.frm, ⟨b, hbm, rfl, rfl, h.lk b hbm⟩, ?_, rfl, rfl, q1, (r3.keepX rfl).trans (q3.keepX rfl), r3.frm.trans (q3.frm.mono r3.size)⟩
    · rcases he with he | ⟨he, v, hv⟩
      · exact .inl he
      · exact .inr ⟨decide_eq_false (by omega), v, hv⟩
    · show R.steps < 1000000
      rw [h.st]; exact hs
  · rintro e w' ⟨rfl, W, hW, hs1, O2, w2, more, R2, O', ⟨rfl, rfl, p3, p4, p5⟩, q1, q2, q3, q4, q5⟩
    have kx : KeepX in36 O O' := p4.trans (q3.keepX rfl)
    exact ⟨rfl, O', q1, kx.dis h2, p3.keep fun q o e hq => q3.keep q o e (by rcases hq with hq | hq <;> omega), q2, (hs1.frm.trans (q4.mono hW)), kx⟩
end Go.Proofs.Ytnlfmmempomcaaa
