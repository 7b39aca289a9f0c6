/- do: a job does a step. -/
import Derived.Test.YtnlfmmempomcaaaNh
namespace Go.Proofs.Ytnlfmmempomcaaa
open Go.RowKit Go.Maps
set_option linter.unusedSimpArgs false
def Enters (fn : Nat) : Prop := ∀ (args : Array Value) (w : World), (callFunc fn args).run Try.prog w = .ok (.enter fn args) w
theorem enters_of {fn : Nat} {fd : Func} (h : Try.prog.funcs[fn]? = some fd) (h1 : (fd.name == "runtime.NumGoroutine") = false) (h2 : fd.body.isNone = false) : Enters fn := fun args w => by
  have h1' : ¬ fd.name = "runtime.NumGoroutine" := by simpa using h1
  have h2' : ¬ fd.body = none := by
    intro e
    rw [e] at h2
    simp at h2
  simp [callFunc, go_sem, h, h1', h2']
/-- What is left to others, whatever is known. -/
structure Frm (B : Nat) (O O' : Ghost) (w w' : World) : Prop where
  os : w'.os = w.os
  tape : w'.tape = w.tape
  output : w'.output = w.output
  size : w.heap.size ≤ w'.heap.size
  rest : ∀ q, q < B → O q = none → w'.heap[q]? = w.heap[q]?
  dom : ∀ q, q < B → O q = none → O' q = none
theorem Stp.frm {c B : Nat} {O O' : Ghost} {w w' : World} (h : Stp c B O O' w w') : Frm B O O' w w' := ⟨h.os, h.tape, h.output, h.size, h.rest, h.dom⟩
theorem Frm.refl (B : Nat) (O : Ghost) (w : World) : Frm B O O w w := ⟨rfl, rfl, rfl, Nat.le_refl _, fun _ _ _ => rfl, fun _ _ h => h⟩
theorem Frm.trans {B : Nat} {O O' O'' : Ghost} {w w' w'' : World} (h : Frm B O O' w w') (h' : Frm B O' O'' w' w'') : Frm B O O'' w w'' :=
  ⟨h'.os.trans h.os, h'.tape.trans h.tape, h'.output.trans h.output, Nat.le_trans h.size h'.size, fun q h1 h2 => (h'.rest q h1 (h.dom q h1 h2)).trans (h.rest q h1 h2), fun q h1 h2 => h'.dom q h1 (h.dom q h1 h2)⟩
theorem Frm.mono {B B' : Nat} {O O' : Ghost} {w w' : World} (h : Frm B O O' w w') (hB : B' ≤ B) : Frm B' O O' w w' := ⟨h.os, h.tape, h.output, h.size, fun q h1 h2 => h.rest q (by omega) h2, fun q h1 h2 => h.dom q (by omega) h2⟩
theorem Frm.below {B : Nat} {O O' : Ghost} {w w' : World} (h : Frm B O O' w w') (hO : ∀ q, q < B → O q = none) : Below B w w' := ⟨h.os, h.tape, h.output, h.size, fun q hq => h.rest q hq (hO q hq)⟩
def Rn.busyOn (R : Rn) : Rn := ⟨R.js, R.next, true, R.steps⟩
/-- What a job's function leaves. -/
def StepPost (k : Nat) (rb n a : Nat) (Pq : Ghost → World → Bool → Rn → Prop) (O1 : Ghost) (w1 : World) (e : Ending) (w2 : World) : Prop :=
  ∃ O2 R2 more, (e = .returned (.bool more) ∨ (more = false ∧ ∃ v, e = .panicked [{ v := v, recovered := false }])) ∧ RnIs O2 rb R2 ∧ Mem k O2 w2 ∧ Frm w1.heap.size O1 O2 w1 w2 ∧ (∃ b ∈ R2.js, b.no = n ∧ b.at_ = a ∧ b.lk = 0) ∧ R2.steps < 1000000 ∧ Pq O2 w2 more R2
/-- What do leaves. -/
def Done (k : Nat) (rb n a : Nat) (Pq : Ghost → World → Bool → Rn → Prop) (O : Ghost) (w w' : World) : Prop :=
  ∃ O2 w2 more R2 O', Pq O2 w2 more R2 ∧ RnIs O' rb (R2.after n more) ∧ Mem k O' w' ∧ Stp 3 w.heap.size O2 O' w2 w' ∧ Frm w.heap.size O O' w w' ∧ w'.cell? ⟨a, 0, none⟩ = some (.int .i64 (n : Int))
section
variable {k : Nat} {O : Ghost} {rb : Nat} {R : Rn} {w : World}
/-- The three variables that do makes. -/
def doW (rb a : Nat) (w : World) : World := ((w.alloc (.cells #[.pointer (some ⟨rb, 0, none⟩)] 52)).alloc (.cells #[.pointer (some ⟨a, 0, none⟩)] 113)).alloc (.cells #[.bool false] 4)
theorem do_start (hM : Mem k O w) (h : RnIs O rb R) {b : Jb} (hb : b ∈ R.js) : ∃ W, W = doW rb b.at_ w ∧ W.cell? ⟨rb, 2, none⟩ = some (.bool R.busy) ∧ W.frozen? ⟨rb, 2, none⟩ = false ∧ (W.setCell ⟨rb, 2, none⟩ (.bool true)).cell? ⟨w.heap.size + 1, 0, none⟩ = some (.pointer (some ⟨b.at_, 0, none⟩)) ∧
    (W.setCell ⟨rb, 2, none⟩ (.bool true)).cell? ⟨b.at_, 1, none⟩ = some b.fn ∧ (W.setCell ⟨rb, 2, none⟩ (.bool true)).heap[w.heap.size]? = some (.cells #[.pointer (some ⟨rb, 0, none⟩)] 52 (0, 0)) ∧ (W.setCell ⟨rb, 2, none⟩ (.bool true)).heap[w.heap.size + 1]? = some (.cells #[.pointer (some ⟨b.at_, 0, none⟩)] 113 (0, 0)) ∧ (W.setCell ⟨rb, 2, none⟩ (.bool true)).heap[w.heap.size + 1 + 1]? = some (.cells #[.bool false] 4 (0, 0)) ∧
    (W.setCell ⟨rb, 2, none⟩ (.bool true)).heap.size = w.heap.size + 3 ∧
    ∃ O1, RnIs O1 rb R.busyOn ∧ Mem k O1 (W.setCell ⟨rb, 2, none⟩ (.bool true)) ∧ Stp 3 w.heap.size O O1 w (W.setCell ⟨rb, 2, none⟩ (.bool true)) ∧ (∀ q, O q = none → O1 q = none) := by
  obtain ⟨⟨rv, r1, r2⟩, r3, r4, r5, r6⟩ := h
  have hMW : Mem k O (doW rb b.at_ w) := ((hM.loose _).loose _).loose _
  have hsW : Stp 3 w.heap.size O O w (doW rb b.at_ w) := ((Stp.loose O (Nat.le_refl _) _).trans (Stp.loose O (by simp) _)).trans (Stp.loose O (by simp; omega) _)
  have hzW : (doW rb b.at_ w).heap.size = w.heap.size + 3 := by unfold doW; simp
  have hrl := hM.lt r1
  have hM1 := hMW.set r1 2 (.bool true)
  have hs1 : Stp 3 w.heap.size O _ (doW rb b.at_ w) _ := Stp.set r1 2 (.bool true)
  obtain ⟨O1, hO1⟩ : ∃ O1, O1 = put O rb (runO rb rv R.busyOn) := ⟨_, rfl⟩
  have hO1' : put O rb ⟨3, rb, .raw ([rv, .int .i64 R.next, .bool R.busy, .int .i64 R.steps].set 2 (.bool true)) 112⟩ = O1 := by rw [hO1]; rfl
  rw [hO1'] at hM1 hs1
  have ho : ∀ q, q ≠ rb → O1 q = O q := fun q e => by rw [hO1, put_other _ _ e]
  have hj := r3 b hb
  have hjn : b.at_ ≠ rb := fun e => by rw [e, r1] at hj; simp [runO, jobO] at hj
  have b0 : (doW rb b.at_ w).heap[w.heap.size]? = some (.cells #[.pointer (some ⟨rb, 0, none⟩)] 52 (0, 0)) := by
    unfold doW
    rw [Below.heap_alloc _ _ _ (by simp; omega), Below.heap_alloc _ _ _ (by simp)]
    show (w.heap.push _)[w.heap.size]? = _
    simp
  have b1 : (doW rb b.at_ w).heap[w.heap.size + 1]? = some (.cells #[.pointer (some ⟨b.at_, 0, none⟩)] 113 (0, 0)) := by
    unfold doW
    rw [Below.heap_alloc _ _ _ (by simp)]
    show ((w.heap.push _).push _)[w.heap.size + 1]? = _
    rw [Array.getElem?_push, if_pos (by simp)]
  have b2 : (doW rb b.at_ w).heap[w.heap.size + 1 + 1]? = some (.cells #[.bool false] 4 (0, 0)) := by
    unfold doW
    show (((w.heap.push _).push _).push _)[w.heap.size + 1 + 1]? = _
    rw [Array.getElem?_push, if_pos (by simp)]
  have e0 : ∀ q, q ≠ rb → ((doW rb b.at_ w).setCell ⟨rb, 2, none⟩ (.bool true)).heap[q]? = (doW rb b.at_ w).heap[q]? := fun q e => Below.heap_setCell _ _ _ _ e
  refine ⟨_, rfl, hMW.cell r1 (i := 2) rfl, hMW.frozen r1 2, ?_, hM1.cell (b := b.at_) (by rw [ho _ hjn]; exact hj) (i := 1) rfl, by rw [e0 _ (by omega)]; exact b0, by rw [e0 _ (by omega)]; exact b1, by rw [e0 _ (by omega)]; exact b2, by rw [set_size]; exact hzW, O1, ⟨⟨rv, by rw [hO1, put_same], ?_⟩, fun j hj => ?_, r4, r5, r6⟩, hM1, hsW.trans hs1, fun q hq => by rw [ho q (fun e => by rw [e, r1] at hq; cases hq)]; exact hq⟩
  · unfold World.cell?
    rw [e0 (w.heap.size + 1) (by omega), b1]
    rfl
  · rcases r2 with e | ⟨rb', off, c, cs, e1, e2, e3⟩
    · exact .inl e
    · exact .inr ⟨rb', off, c, cs, e1, by rw [ho rb' (fun e => by rw [e, r1] at e2; simp [runO] at e2)]; exact e2, e3⟩
  · have := r3 j hj
    rw [ho _ (fun e => by rw [e, r1] at this; simp [runO, jobO] at this)]
    exact this
theorem do_back {Pq : Ghost → World → Bool → Rn → Prop} {b : Jb} {O1 : Ghost} {w1 : World} (hB : w1.heap.size = w.heap.size + 3) (hO : ∀ q, w.heap.size ≤ q → O1 q = none) (hs1 : Stp 3 w.heap.size O O1 w w1) (b0 : w1.heap[w.heap.size]? = some (.cells #[.pointer (some ⟨rb, 0, none⟩)] 52 (0, 0))) (b1 : w1.heap[w.heap.size + 1]? = some (.cells #[.pointer (some ⟨b.at_, 0, none⟩)] 113 (0, 0))) (b2 : w1.heap[w.heap.size + 1 + 1]? = some (.cells #[.bool false] 4 (0, 0))) {e : Ending} {w2 : World} (hp : StepPost k rb b.no b.at_ Pq O1 w1 e w2) :
    (∃ more, e = .returned (.bool more) ∧ w2.cell? ⟨w.heap.size + 1 + 1, 0, none⟩ = some (.bool false) ∧ w2.frozen? ⟨w.heap.size + 1 + 1, 0, none⟩ = false ∧ Hid (CallsD Try.prog 67 #[.pointer (some ⟨w.heap.size, 0, none⟩), .pointer (some ⟨w.heap.size + 1 + 1, 0, none⟩), .pointer (some ⟨w.heap.size + 1, 0, none⟩)] .returning (w2.setCell ⟨w.heap.size + 1 + 1, 0, none⟩ (.bool more)) fun e u' w' => e = .returned (.tuple #[]) ∧ u' = .returning ∧ Done k rb b.no b.at_ Pq O w w')) ∨
    (∃ v, e = .panicked [{ v := v, recovered := false }] ∧ Hid (CallsD Try.prog 67 #[.pointer (some ⟨w.heap.size, 0, none⟩), .pointer (some ⟨w.heap.size + 1 + 1, 0, none⟩), .pointer (some ⟨w.heap.size + 1, 0, none⟩)] (.panicking ({ v := v, recovered := false } :: [])) w2 fun e u' w' => e = .returned (.tuple #[]) ∧ u' = .panicking ({ v := v, recovered := true } :: []) ∧ Done k rb b.no b.at_ Pq O w w')) := by
  obtain ⟨O2, R2, more, he, hR2, hM2, hf, hbb, hst, hq⟩ := hp
  have n0 := hf.dom w.heap.size (by omega) (hO _ (Nat.le_refl _))
  have n1 := hf.dom (w.heap.size + 1) (by omega) (hO _ (by omega))
  have n2 := hf.dom (w.heap.size + 1 + 1) (by omega) (hO _ (by omega))
  have e0 := (hf.rest w.heap.size (by omega) (hO _ (Nat.le_refl _))).trans b0
  have e1 := (hf.rest (w.heap.size + 1) (by omega) (hO _ (by omega))).trans b1
  have e2 := (hf.rest (w.heap.size + 1 + 1) (by omega) (hO _ (by omega))).trans b2
  have hsz := hf.size
  obtain ⟨b', g3', g1, g2, g4⟩ := hbb
  have g3 : b' ∈ R2.js ∧ b'.lk = 0 := ⟨g3', g4⟩
  have hmk : ∀ w3 w4, w.heap.size ≤ w3.heap.size → Stp 3 w.heap.size O2 O2 w2 w3 → GLeft k w3.heap.size rb (R2.after b'.no more) b'.no b'.at_ O2 w3 w4 → Done k rb b.no b.at_ Pq O w w4 := fun w3 w4 hz hs ⟨⟨O', p1, p2, p3⟩, p4⟩ => by
    have h23 := hs.trans (p3.mono hz)
    exact ⟨O2, w2, more, R2, O', hq, by rw [← g1]; exact p1, p2, h23, (hs1.frm.trans (hf.mono (by omega))).trans h23.frm, by rw [← g1, ← g2]; exact p4⟩
  rcases he with rfl | ⟨rfl, v, rfl⟩
  · refine .inl ⟨more, rfl, by unfold World.cell?; rw [e2]; rfl, by simp [World.frozen?, e2], ?_⟩
    have c0 : (w2.setCell ⟨w.heap.size + 1 + 1, 0, none⟩ (.bool more)).cell? ⟨w.heap.size, 0, none⟩ = some (.pointer (some ⟨rb, 0, none⟩)) := by
      rw [World.cell?_of_block (w := w2) (a := ⟨w.heap.size, 0, none⟩) (Below.heap_setCell _ _ _ _ (by show w.heap.size ≠ w.heap.size + 1 + 1; omega))]
      unfold World.cell?; rw [e0]; rfl
    have c1 : (w2.setCell ⟨w.heap.size + 1 + 1, 0, none⟩ (.bool more)).cell? ⟨w.heap.size + 1, 0, none⟩ = some (.pointer (some ⟨b'.at_, 0, none⟩)) := by
      rw [World.cell?_of_block (w := w2) (a := ⟨w.heap.size + 1, 0, none⟩) (Below.heap_setCell _ _ _ _ (by show w.heap.size + 1 ≠ w.heap.size + 1 + 1; omega)), g2]
      unfold World.cell?; rw [e1]; rfl
    have c2 : (w2.setCell ⟨w.heap.size + 1 + 1, 0, none⟩ (.bool more)).cell? ⟨w.heap.size + 1 + 1, 0, none⟩ = some (.bool more) := World.cell?_setCell_same w2 ⟨w.heap.size + 1 + 1, 0, none⟩ (.bool more) (show w2.cell? ⟨w.heap.size + 1 + 1, 0, none⟩ = some (.bool false) from by unfold World.cell?; rw [e2]; rfl)
    refine (catch_idle O2 rb R2 _ (hM2.ownSet (a := ⟨w.heap.size + 1 + 1, 0, none⟩) n2 _) hR2 b' g3 _ _ _ c0 c1 c2 n0 n1 n2 hst).mono ?_
    rintro e u' w4 ⟨rfl, rfl, hE⟩
    exact ⟨rfl, rfl, hmk _ w4 (by rw [set_size]; omega) (Stp.own (by show w.heap.size ≤ w.heap.size + 1 + 1; omega) _) hE⟩
  · refine .inr ⟨v, rfl, ?_⟩
    have c0 : w2.cell? ⟨w.heap.size, 0, none⟩ = some (.pointer (some ⟨rb, 0, none⟩)) := by unfold World.cell?; rw [e0]; rfl
    have c1 : w2.cell? ⟨w.heap.size + 1, 0, none⟩ = some (.pointer (some ⟨b'.at_, 0, none⟩)) := by rw [g2]; unfold World.cell?; rw [e1]; rfl
    have c2 : w2.cell? ⟨w.heap.size + 1 + 1, 0, none⟩ = some (.bool false) := by unfold World.cell?; rw [e2]; rfl
    refine (catch_panic O2 rb R2 _ hM2 hR2 b' g3 _ _ _ c0 c1 c2 n0 n1 n2 hst).mono ?_
    rintro e u' w4 ⟨rfl, rfl, hE⟩
    exact ⟨rfl, rfl, hmk _ w4 (by omega) (Stp.refl _ _ _ _) hE⟩
end
set_option maxRecDepth 20000 in
set_option maxHeartbeats 4000000 in
theorem do_ok {k : Nat} {Pq : Ghost → World → Bool → Rn → Prop} (O : Ghost) (rb : Nat) (R : Rn) (w : World) (hM : Mem k O w) (h : RnIs O rb R) (b : Jb) (hb : b ∈ R.js) (fid : Nat) (caps : Array Value) (hfn : b.fn = .func (.func fid) #[] caps) (hent : Enters fid)
    (HS : ∀ O1 w1, RnIs O1 rb R.busyOn → Mem k O1 w1 → Stp 3 w.heap.size O O1 w w1 → Calls Try.prog fid caps w1 fun e w2 => StepPost k rb b.no b.at_ Pq O1 w1 e w2) :
    Calls Try.prog 54 #[.pointer (some ⟨rb, 0, none⟩), .pointer (some ⟨b.at_, 0, none⟩)] w fun e w' => e = .returned (.tuple #[]) ∧ Done k rb b.no b.at_ Pq O w w' := by
  obtain ⟨W, hW, c2, f2, c3, c4, b0, b1, b2, hz, O1, q1, q2, q3, q4⟩ := do_start hM h hb
  have HC := hide (HS O1 _ q1 q2 q3)
  have HB : Hid (∀ e w2, StepPost k rb b.no b.at_ Pq O1 (W.setCell ⟨rb, 2, none⟩ (.bool true)) e w2 → _) := fun e w2 hp => do_back hz (fun q hq => q4 q (hM.out' hq)) q3 b0 b1 b2 hp
  rw [hfn] at c4
  unfold doW at hW
  subst hW
  have hmf := makeF'
  unfold Enters at hent
  clear hM h hb HS q1 q2 q3 q4 b0 b1 b2 hz
  go_enter_defers Try.func54, Try.ntmps54
  go_wp2_with fail
  refine (unhide HC).mono ?_
  intro e w2 hp
  rcases unhide HB e w2 hp with ⟨more, rfl, y1, y2, y3⟩ | ⟨v, rfl, y3⟩
  · clear hp
    go_wp2_with fail
    refine leaves_cons (f := 67) (args := #[.pointer (some ⟨w.heap.size, 0, none⟩), .pointer (some ⟨w.heap.size + 1 + 1, 0, none⟩), .pointer (some ⟨w.heap.size + 1, 0, none⟩)]) (by simp) (by simp [go_sem]) ?_
    refine (unhide y3).mono ?_
    rintro e u' w4 ⟨rfl, rfl, hD⟩
    exact ⟨_, results_none rfl _ _ _, rfl, hD⟩
  · clear hp
    refine leaves_cons (f := 67) (args := #[.pointer (some ⟨w.heap.size, 0, none⟩), .pointer (some ⟨w.heap.size + 1 + 1, 0, none⟩), .pointer (some ⟨w.heap.size + 1, 0, none⟩)]) (by simp) (by simp [go_sem]) ?_
    refine (unhide y3).mono ?_
    rintro e u' w4 ⟨rfl, rfl, hD⟩
    simp [Leaves, settle, results, Try.results54, go_sem]
    exact hD
end Go.Proofs.Ytnlfmmempomcaaa
