/- do: a job does a step. -/
import Derived.Test.YtnlfmmempomcaaaNg
import Derived.Recover
namespace Go.Proofs.Ytnlfmmempomcaaa
open Go.RowKit Go.Maps
set_option linter.unusedSimpArgs false
set_option maxRecDepth 20000 in
set_option maxHeartbeats 2000000 in
theorem once_ok {k : Nat} (O : Ghost) (rb : Nat) (R : Rn) (w : World) (hM : Mem k O w) (h : RnIs O rb R) (b : Jb) (hb : b ∈ R.js) (hl : b.lk = 0) (pr px : Addr) (h1 : w.cell? pr = some (.pointer (some ⟨rb, 0, none⟩))) (h2 : w.cell? px = some (.pointer (some ⟨b.at_, 0, none⟩))) (hr : O pr.block = none) (hx : O px.block = none) :
    Calls Try.prog 69 #[.pointer (some ⟨b.at_, 3, none⟩), .func (.func 70) #[] #[.pointer (some pr), .pointer (some px)]] w fun e w' => e = .returned (.tuple #[]) ∧ GLeft k w.heap.size rb (R.gone b.no) b.no b.at_ O w w' := by
  have HN := hide (done_no ⟨b.at_, 3, none⟩ w (hM.cell (h.jobs b hb) (i := 3) rfl))
  have HC := hide (slow_ok O rb R w hM h b hb hl pr px h1 h2 hr hx)
  clear hM h hb hl h1 h2 hr hx
  go_enter Try.func69, Try.ntmps69
  go_wp2_with (first | (go_at_call 80; refine (unhide HN).mono ?_; rintro e w1 ⟨rfl, rfl⟩) | (go_at_call 81; refine (unhide HC).mono ?_; rintro e w1 ⟨rfl, hE⟩))
  go_end0
  exact ⟨rfl, hE⟩
set_option maxRecDepth 20000 in
theorem steps_add (a : Addr) (x y : Int) (w : World) (hc : w.cell? a = some (.int .i64 x)) (hz : w.frozen? a = false) (hx : (Op.intArith .add .i64 x 1).run Try.prog w = .ok (.int .i64 y) w) :
    Calls Try.prog 68 #[.pointer (some a), .int .i64 1] w fun e w' => e = .returned (.int .i64 y) ∧ w' = w.setCell a (.int .i64 y) := by
  have hadd := run_call_add (P := Try.prog) Try.func79 (by kernel_rfl) (by kernel_rfl) (by kernel_rfl) .i64 (by kernel_rfl) (y := 1) (s := y) hc hz hx
  clear hx
  go_enter Try.func68, Try.ntmps68
  go_wp2
  go_ret
  exact ⟨rfl, rfl⟩
theorem add_one (x : Nat) (hx : x < 1000000) (w : World) : (Op.intArith .add .i64 (x : Int) 1).run Try.prog w = .ok (.int .i64 ((x : Int) + 1)) w := by
  have hnw : IntKind.i64.wrap ((x : Int) + 1) = (x : Int) + 1 := by
    rw [IntKind.wrap_i64]
    omega
  simp [Op.intArith, go_sem, hnw]
/-- What a Run is behind a step. -/
def Rn.idle (R : Rn) : Rn := ⟨R.js, R.next, false, R.steps + 1⟩
def Rn.after (R : Rn) (n : Nat) (more : Bool) : Rn := if more then R.idle else R.idle.gone n
theorem idle_facts {k : Nat} {O : Ghost} {rb : Nat} {R : Rn} {w : World} (hM : Mem k O w) (h : RnIs O rb R) : w.cell? ⟨rb, 2, none⟩ = some (.bool R.busy) ∧ w.frozen? ⟨rb, 2, none⟩ = false ∧ (w.setCell ⟨rb, 2, none⟩ (.bool false)).cell? ⟨rb, 3, none⟩ = some (.int .i64 R.steps) ∧ (w.setCell ⟨rb, 2, none⟩ (.bool false)).frozen? ⟨rb, 3, none⟩ = false ∧
    ∃ O2, RnIs O2 rb R.idle ∧ Mem k O2 ((w.setCell ⟨rb, 2, none⟩ (.bool false)).setCell ⟨rb, 3, none⟩ (.int .i64 ((R.steps : Int) + 1))) ∧ Stp 3 w.heap.size O O2 w ((w.setCell ⟨rb, 2, none⟩ (.bool false)).setCell ⟨rb, 3, none⟩ (.int .i64 ((R.steps : Int) + 1))) ∧ ∀ q, O q = none → O2 q = none := by
  obtain ⟨⟨rv, r1, r2⟩, r3, r4, r5, r6⟩ := h
  have hM1 := hM.set r1 2 (.bool false)
  have hs1 : Stp 3 w.heap.size O _ w _ := Stp.set r1 2 (.bool false)
  obtain ⟨O1, hO1⟩ : ∃ O1, O1 = put O rb (runO rb rv ⟨R.js, R.next, false, R.steps⟩) := ⟨_, rfl⟩
  have hO1' : put O rb ⟨3, rb, .raw ([rv, .int .i64 R.next, .bool R.busy, .int .i64 R.steps].set 2 (.bool false)) 112⟩ = O1 := by rw [hO1]; rfl
  rw [hO1'] at hM1 hs1
  have a1 : O1 rb = some (runO rb rv ⟨R.js, R.next, false, R.steps⟩) := by rw [hO1, put_same]
  have hM2 := hM1.set a1 3 (.int .i64 ((R.steps : Int) + 1))
  have hs2 : Stp 3 w.heap.size O1 _ (w.setCell ⟨rb, 2, none⟩ (.bool false)) _ := Stp.set a1 3 (.int .i64 ((R.steps : Int) + 1))
  obtain ⟨O2, hO2⟩ : ∃ O2, O2 = put O1 rb (runO rb rv R.idle) := ⟨_, rfl⟩
  have hO2' : put O1 rb ⟨3, rb, .raw ([rv, .int .i64 R.next, .bool false, .int .i64 R.steps].set 3 (.int .i64 ((R.steps : Int) + 1))) 112⟩ = O2 := by rw [hO2]; rfl
  rw [hO2'] at hM2 hs2
  have ho : ∀ q, q ≠ rb → O2 q = O q := fun q e => by rw [hO2, put_other _ _ e, hO1, put_other _ _ e]
  refine ⟨hM.cell r1 (i := 2) rfl, hM.frozen r1 2, hM1.cell a1 (i := 3) rfl, hM1.frozen a1 3, O2, ⟨⟨rv, by rw [hO2, put_same], ?_⟩, fun j hj => ?_, r4, r5, r6⟩, hM2, hs1.trans hs2, fun q hq => by rw [ho q (fun e => by rw [e, r1] at hq; cases hq)]; exact hq⟩
  · rcases r2 with e | ⟨rb', off, c, cs, e1, e2, e3⟩
    · exact .inl e
    · exact .inr ⟨rb', off, c, cs, e1, by rw [ho rb' (fun e => by rw [e, r1] at e2; simp [runO] at e2)]; exact e2, e3⟩
  · have := r3 j hj
    rw [ho _ (fun e => by rw [e, r1] at this; simp [runO, jobO] at this)]
    exact this
set_option maxRecDepth 20000 in
set_option maxHeartbeats 2000000 in
theorem catch_idle {k : Nat} {more : Bool} (O : Ghost) (rb : Nat) (R : Rn) (w : World) (hM : Mem k O w) (h : RnIs O rb R) (b : Jb) (hb : b ∈ R.js ∧ b.lk = 0) (pr pm px : Addr) (h1 : w.cell? pr = some (.pointer (some ⟨rb, 0, none⟩))) (h2 : w.cell? px = some (.pointer (some ⟨b.at_, 0, none⟩))) (h3 : w.cell? pm = some (.bool more)) (hr : O pr.block = none) (hx : O px.block = none) (hm : O pm.block = none) (hst : R.steps < 1000000) :
    CallsD Try.prog 67 #[.pointer (some pr), .pointer (some pm), .pointer (some px)] (.returning) w fun e u' w' => e = .returned (.tuple #[]) ∧ u' = .returning ∧ GLeft k w.heap.size rb (R.after b.no more) b.no b.at_ O w w' := by
  obtain ⟨c2, f2, c3, f3, O2, q1, q2, q3, q4⟩ := idle_facts hM h
  obtain ⟨rv, r1, r2⟩ := h.run
  have hne : ∀ a : Addr, O a.block = none → a.block ≠ rb := fun a e e2 => by rw [e2, r1] at e; cases e
  have g1 : ((w.setCell ⟨rb, 2, none⟩ (.bool false)).setCell ⟨rb, 3, none⟩ (.int .i64 ((R.steps : Int) + 1))).cell? pr = some (.pointer (some ⟨rb, 0, none⟩)) := by
    rw [World.cell?_of_block (w := w) (a := pr) ((Below.heap_setCell _ _ _ _ (hne _ hr)).trans (Below.heap_setCell _ _ _ _ (hne _ hr)))]; exact h1
  have g0 : (w.setCell ⟨rb, 2, none⟩ (.bool false)).cell? pr = some (.pointer (some ⟨rb, 0, none⟩)) := by
    rw [World.cell?_of_block (w := w) (a := pr) (Below.heap_setCell _ _ _ _ (hne _ hr))]; exact h1
  have g2 : ((w.setCell ⟨rb, 2, none⟩ (.bool false)).setCell ⟨rb, 3, none⟩ (.int .i64 ((R.steps : Int) + 1))).cell? px = some (.pointer (some ⟨b.at_, 0, none⟩)) := by
    rw [World.cell?_of_block (w := w) (a := px) ((Below.heap_setCell _ _ _ _ (hne _ hx)).trans (Below.heap_setCell _ _ _ _ (hne _ hx)))]; exact h2
  have g3 : ((w.setCell ⟨rb, 2, none⟩ (.bool false)).setCell ⟨rb, 3, none⟩ (.int .i64 ((R.steps : Int) + 1))).cell? pm = some (.bool more) := by
    rw [World.cell?_of_block (w := w) (a := pm) ((Below.heap_setCell _ _ _ _ (hne _ hm)).trans (Below.heap_setCell _ _ _ _ (hne _ hm)))]; exact h3
  have HA := hide (steps_add ⟨rb, 3, none⟩ R.steps ((R.steps : Int) + 1) _ c3 f3 (add_one _ hst _))
  have HO : Hid (more = false → Calls Try.prog 69 #[.pointer (some ⟨b.at_, 3, none⟩), .func (.func 70) #[] #[.pointer (some pr), .pointer (some px)]] ((w.setCell ⟨rb, 2, none⟩ (.bool false)).setCell ⟨rb, 3, none⟩ (.int .i64 ((R.steps : Int) + 1))) fun e w' => e = .returned (.tuple #[]) ∧ GLeft k w.heap.size rb (R.after b.no more) b.no b.at_ O w w') := fun e => by
    obtain ⟨hb1, hb2⟩ := hb
    refine (once_ok O2 rb R.idle _ q2 q1 b hb1 hb2 pr px g1 g2 (q4 _ hr) (q4 _ hx)).mono ?_
    rintro e2 w' ⟨rfl, ⟨O', p1, p2, p3⟩, p4⟩
    refine ⟨rfl, ⟨O', ?_, p2, q3.trans (p3.mono (by rw [set_size, set_size]; exact Nat.le_refl _))⟩, p4⟩
    rw [e]
    exact p1
  have HM : Hid (more = true → GLeft k w.heap.size rb (R.after b.no more) b.no b.at_ O w ((w.setCell ⟨rb, 2, none⟩ (.bool false)).setCell ⟨rb, 3, none⟩ (.int .i64 ((R.steps : Int) + 1)))) := fun e => ⟨⟨O2, by rw [e]; exact q1, q2, q3⟩, q2.cell (q1.jobs b hb.1) (i := 0) rfl⟩
  have hmf := makeF'
  clear hM h hb q1 q2 q3 q4 r1 r2 hne h2 h3 hr hx hm hst c3 f3
  refine callsD_of_wpS Try.func67 rfl fun c₀ cs hu => ?_
  apply wpS_seq
  apply wpS_region
  simp [wpOpsS, go_sem, recoverD, hu, Try.ntmps67, Exit.thenS]
  refine wpS_of_wp ?_
  rw [show (#[Value.pointer (some pr), Value.pointer (some pm), Value.pointer (some px)] ++ (Array.replicate 15 undef).setIfInBounds 0 (.nilIface) : Array Value) = #[.pointer (some pr), .pointer (some pm), .pointer (some px), .nilIface, undef, undef, undef, undef, undef, undef, undef, undef, undef, undef, undef, undef, undef, undef] from rfl]
  cases more with
  | false =>
    have HO2 := hide (unhide HO rfl)
    clear HO HM
    go_wp2_with (first | (go_at_call 68; refine (unhide HA).mono ?_; rintro e w1 ⟨rfl, rfl⟩) | (go_at_call 69; refine (unhide HO2).mono ?_; rintro e w1 ⟨rfl, hE⟩))
    cases c₀
    simp_all [bodyPostS, results, Try.results67]
  | true =>
    have HE := hide (unhide HM rfl)
    clear HO HM
    go_wp2_with (first | (go_at_call 68; refine (unhide HA).mono ?_; rintro e w1 ⟨rfl, rfl⟩))
    have hE := unhide HE
    cases c₀
    simp_all [bodyPostS, results, Try.results67]
set_option maxRecDepth 20000 in
set_option maxHeartbeats 2000000 in
theorem catch_panic {pv : Value} {older : List PanicEntry} {k : Nat} {more : Bool} (O : Ghost) (rb : Nat) (R : Rn) (w : World) (hM : Mem k O w) (h : RnIs O rb R) (b : Jb) (hb : b ∈ R.js ∧ b.lk = 0) (pr pm px : Addr) (h1 : w.cell? pr = some (.pointer (some ⟨rb, 0, none⟩))) (h2 : w.cell? px = some (.pointer (some ⟨b.at_, 0, none⟩))) (h3 : w.cell? pm = some (.bool more)) (hr : O pr.block = none) (hx : O px.block = none) (hm : O pm.block = none) (hst : R.steps < 1000000) :
    CallsD Try.prog 67 #[.pointer (some pr), .pointer (some pm), .pointer (some px)] (.panicking ({ v := pv, recovered := false } :: older)) w fun e u' w' => e = .returned (.tuple #[]) ∧ u' = .panicking ({ v := pv, recovered := true } :: older) ∧ GLeft k w.heap.size rb (R.after b.no more) b.no b.at_ O w w' := by
  obtain ⟨c2, f2, c3, f3, O2, q1, q2, q3, q4⟩ := idle_facts hM h
  obtain ⟨rv, r1, r2⟩ := h.run
  have hne : ∀ a : Addr, O a.block = none → a.block ≠ rb := fun a e e2 => by rw [e2, r1] at e; cases e
  have g1 : ((w.setCell ⟨rb, 2, none⟩ (.bool false)).setCell ⟨rb, 3, none⟩ (.int .i64 ((R.steps : Int) + 1))).cell? pr = some (.pointer (some ⟨rb, 0, none⟩)) := by
    rw [World.cell?_of_block (w := w) (a := pr) ((Below.heap_setCell _ _ _ _ (hne _ hr)).trans (Below.heap_setCell _ _ _ _ (hne _ hr)))]; exact h1
  have g0 : (w.setCell ⟨rb, 2, none⟩ (.bool false)).cell? pr = some (.pointer (some ⟨rb, 0, none⟩)) := by
    rw [World.cell?_of_block (w := w) (a := pr) (Below.heap_setCell _ _ _ _ (hne _ hr))]; exact h1
  have g2 : ((w.setCell ⟨rb, 2, none⟩ (.bool false)).setCell ⟨rb, 3, none⟩ (.int .i64 ((R.steps : Int) + 1))).cell? px = some (.pointer (some ⟨b.at_, 0, none⟩)) := by
    rw [World.cell?_of_block (w := w) (a := px) ((Below.heap_setCell _ _ _ _ (hne _ hx)).trans (Below.heap_setCell _ _ _ _ (hne _ hx)))]; exact h2
  have g3 : ((w.setCell ⟨rb, 2, none⟩ (.bool false)).setCell ⟨rb, 3, none⟩ (.int .i64 ((R.steps : Int) + 1))).cell? pm = some (.bool more) := by
    rw [World.cell?_of_block (w := w) (a := pm) ((Below.heap_setCell _ _ _ _ (hne _ hm)).trans (Below.heap_setCell _ _ _ _ (hne _ hm)))]; exact h3
  have HA := hide (steps_add ⟨rb, 3, none⟩ R.steps ((R.steps : Int) + 1) _ c3 f3 (add_one _ hst _))
  have HO : Hid (more = false → Calls Try.prog 69 #[.pointer (some ⟨b.at_, 3, none⟩), .func (.func 70) #[] #[.pointer (some pr), .pointer (some px)]] ((w.setCell ⟨rb, 2, none⟩ (.bool false)).setCell ⟨rb, 3, none⟩ (.int .i64 ((R.steps : Int) + 1))) fun e w' => e = .returned (.tuple #[]) ∧ GLeft k w.heap.size rb (R.after b.no more) b.no b.at_ O w w') := fun e => by
    obtain ⟨hb1, hb2⟩ := hb
    refine (once_ok O2 rb R.idle _ q2 q1 b hb1 hb2 pr px g1 g2 (q4 _ hr) (q4 _ hx)).mono ?_
    rintro e2 w' ⟨rfl, ⟨O', p1, p2, p3⟩, p4⟩
    refine ⟨rfl, ⟨O', ?_, p2, q3.trans (p3.mono (by rw [set_size, set_size]; exact Nat.le_refl _))⟩, p4⟩
    rw [e]
    exact p1
  have HM : Hid (more = true → GLeft k w.heap.size rb (R.after b.no more) b.no b.at_ O w ((w.setCell ⟨rb, 2, none⟩ (.bool false)).setCell ⟨rb, 3, none⟩ (.int .i64 ((R.steps : Int) + 1)))) := fun e => ⟨⟨O2, by rw [e]; exact q1, q2, q3⟩, q2.cell (q1.jobs b hb.1) (i := 0) rfl⟩
  have hmf := makeF'
  clear hM h hb q1 q2 q3 q4 r1 r2 hne h2 h3 hr hx hm hst c3 f3
  refine callsD_of_wpS Try.func67 rfl fun c₀ cs hu => ?_
  apply wpS_seq
  apply wpS_region
  simp [wpOpsS, go_sem, recoverD, hu, Try.ntmps67, Exit.thenS]
  refine wpS_of_wp ?_
  rw [show (#[Value.pointer (some pr), Value.pointer (some pm), Value.pointer (some px)] ++ (Array.replicate 15 undef).setIfInBounds 0 (pv) : Array Value) = #[.pointer (some pr), .pointer (some pm), .pointer (some px), pv, undef, undef, undef, undef, undef, undef, undef, undef, undef, undef, undef, undef, undef, undef] from rfl]
  cases more with
  | false =>
    have HO2 := hide (unhide HO rfl)
    clear HO HM
    go_wp2_with (first | (go_at_call 68; refine (unhide HA).mono ?_; rintro e w1 ⟨rfl, rfl⟩) | (go_at_call 69; refine (unhide HO2).mono ?_; rintro e w1 ⟨rfl, hE⟩))
    cases c₀
    simp_all [bodyPostS, results, Try.results67]
  | true =>
    have HE := hide (unhide HM rfl)
    clear HO HM
    go_wp2_with (first | (go_at_call 68; refine (unhide HA).mono ?_; rintro e w1 ⟨rfl, rfl⟩))
    have hE := unhide HE
    cases c₀
    simp_all [bodyPostS, results, Try.results67]
end Go.Proofs.Ytnlfmmempomcaaa
