/- A job's Once: the lock, the word; a job that ends goes out of its Run. -/
import Derived.Test.YtnlfmmempomcaaaNf
namespace Go.Proofs.Ytnlfmmempomcaaa
open Go.RowKit Go.Maps
set_option linter.unusedSimpArgs false
set_option maxRecDepth 20000 in
theorem race_off (w : World) : (callFunc 112 #[]).run Try.prog w = .ok (.value (.tuple #[])) w := run_call_mark0 Try.func112 (by kernel_rfl) (by kernel_rfl) (by kernel_rfl) .disable (by kernel_rfl) w
set_option maxRecDepth 20000 in
theorem race_on (w : World) : (callFunc 114 #[]).run Try.prog w = .ok (.value (.tuple #[])) w := run_call_mark0 Try.func114 (by kernel_rfl) (by kernel_rfl) (by kernel_rfl) .enable (by kernel_rfl) w
set_option maxRecDepth 20000 in
theorem race_acq (a : Addr) (w : World) : (callFunc 115 #[.pointer (some a)]).run Try.prog w = .ok (.value (.tuple #[])) w := run_call_marked Try.func115 (by kernel_rfl) (by kernel_rfl) (by kernel_rfl) .acquire (by kernel_rfl) a w
set_option maxRecDepth 20000 in
theorem race_rel (a : Addr) (w : World) : (callFunc 117 #[.pointer (some a)]).run Try.prog w = .ok (.value (.tuple #[])) w := run_call_marked Try.func117 (by kernel_rfl) (by kernel_rfl) (by kernel_rfl) .releaseMerge (by kernel_rfl) a w
set_option maxRecDepth 20000 in
set_option maxHeartbeats 1000000 in
theorem unlock_in (a : Addr) (w : World) (hc : w.cell? a = some (.int .i32 1)) (hz : w.frozen? a = false) :
    Calls Try.prog 108 #[.pointer (some a)] w fun e w' => e = .returned (.tuple #[]) ∧ w' = w.setCell a (.int .i32 0) := by
  have hd := race_off
  have he := race_on
  have hr := race_rel
  have hadd := run_call_add (P := Try.prog) Try.func118 (by kernel_rfl) (by kernel_rfl) (by kernel_rfl) .i32 (by kernel_rfl) (y := -1) (s := 0) hc hz (by simp [go_sem]; rfl)
  have hcv := run_convert_to_unsafe (P := Try.prog) (src := 181) (dst := 185) Try.underlying181 Try.underlying185 (by kernel_rfl) hc
  go_enter Try.func108, Try.ntmps108
  go_wp2
  go_end0
  exact ⟨rfl, rfl⟩
set_option maxRecDepth 20000 in
set_option maxHeartbeats 1000000 in
theorem lock_in (a : Addr) (w : World) (hc : w.cell? a = some (.int .i32 0)) (hz : w.frozen? a = false) :
    Calls Try.prog 107 #[.pointer (some a)] w fun e w' => e = .returned (.tuple #[]) ∧ w' = w.setCell a (.int .i32 1) := by
  have hd := race_off
  have he := race_on
  have ha := race_acq
  have hcas := run_call_cas_hit (P := Try.prog) Try.func113 (by kernel_rfl) (by kernel_rfl) (by kernel_rfl) .i32 (by kernel_rfl) (y := 1) hc hz
  have hc' : (w.setCell a (.int .i32 1)).cell? a = some (.int .i32 1) := World.cell?_setCell_same w a _ hc
  have hcv := run_convert_to_unsafe (P := Try.prog) (src := 181) (dst := 185) Try.underlying181 Try.underlying185 (by kernel_rfl) hc'
  go_enter Try.func107, Try.ntmps107
  go_wp2
  refine bodyPost_ret (results_none rfl _ _ _) rfl ?_
  exact ⟨rfl, rfl⟩
set_option maxHeartbeats 1000000 in
theorem lock_free (a : Addr) (w : World) (hc : w.cell? a = some (.int .i32 0)) (hz : w.frozen? a = false) :
    Calls Try.prog 97 #[.pointer (some a)] w fun e w' => e = .returned (.tuple #[]) ∧ w' = w.setCell a (.int .i32 1) := by
  have hI := lock_in a w hc hz
  go_enter Try.func97, Try.ntmps97
  go_wp2_with (go_at_call 107; refine hI.mono ?_; rintro e w' ⟨rfl, rfl⟩)
  go_end0
  exact ⟨rfl, rfl⟩
set_option maxHeartbeats 1000000 in
theorem unlock_deferred (a : Addr) (u : FrameMode) (w : World) (hc : w.cell? a = some (.int .i32 1)) (hz : w.frozen? a = false) :
    CallsD Try.prog 98 #[.pointer (some a)] u w fun e u' w' => u' = u ∧ (e = .returned (.tuple #[]) ∧ w' = w.setCell a (.int .i32 0)) := by
  have hI := unlock_in a w hc hz
  go_enter_d Try.func98, Try.ntmps98
  go_wp2_with (go_at_call 108; refine hI.mono ?_; rintro e w' ⟨rfl, rfl⟩)
  go_end0
  exact ⟨rfl, rfl⟩
set_option maxRecDepth 20000 in
set_option maxHeartbeats 1000000 in
theorem word_deferred (a : Addr) (x : Value) (u : FrameMode) (w : World) (hc : w.cell? a = some x) (hz : w.frozen? a = false) :
    CallsD Try.prog 99 #[.pointer (some a), .bool true] u w fun e u' w' => u' = u ∧ (e = .returned (.tuple #[]) ∧ w' = w.drew.setCell a (.int .u32 1)) := by
  have hc' : w.drew.cell? a = some x := by go_simp
  have hz' : w.drew.frozen? a = false := by go_simp
  have hst := run_call_store (P := Try.prog) Try.func109 (by kernel_rfl) (by kernel_rfl) (by kernel_rfl) (by kernel_rfl) (k := .u32) (y := 1) hc' hz'
  go_enter_d Try.func99, Try.ntmps99
  go_wp2
  go_region_calls
  all_goals (go_end0; exact ⟨rfl, rfl⟩)
set_option maxRecDepth 20000 in
theorem done_no (a : Addr) (w : World) (hc : w.cell? a = some (.int .u32 0)) : Calls Try.prog 80 #[.pointer (some a)] w fun e w' => e = .returned (.bool false) ∧ w' = w := by
  have hl := run_call_load (P := Try.prog) Try.func96 (by kernel_rfl) (by kernel_rfl) (by kernel_rfl) .u32 (by kernel_rfl) hc
  go_enter Try.func80, Try.ntmps80
  go_wp2
  go_ret
  exact ⟨rfl, rfl⟩
/-- The closure that drops. -/
theorem drops_ok {k : Nat} (O : Ghost) (rb : Nat) (R : Rn) (w : World) (hM : Mem k O w) (h : RnIs O rb R) (b : Jb) (hb : b ∈ R.js) (pr px : Addr) (h1 : w.cell? pr = some (.pointer (some ⟨rb, 0, none⟩))) (h2 : w.cell? px = some (.pointer (some ⟨b.at_, 0, none⟩))) :
    Calls Try.prog 70 #[.pointer (some pr), .pointer (some px)] w fun e w' => e = .returned (.tuple #[]) ∧ DLeft k w.heap.size rb (R.gone b.no) O w w' := by
  have HC := hide (drop_ok O rb R w hM h b hb)
  clear hM h hb
  go_enter Try.func70, Try.ntmps70
  go_wp2_with (go_at_call 71; refine (unhide HC).mono ?_; rintro e w' ⟨rfl, hD⟩)
  go_end0
  exact ⟨rfl, hD⟩
def Rn.lock (R : Rn) (n : Nat) (x : Int) : Rn := ⟨R.js.map fun j => if j.no = n then ⟨j.no, j.fn, j.bl, j.at_, x⟩ else j, R.next, R.busy, R.steps⟩
theorem Rn.lock_gone (R : Rn) (n : Nat) (x : Int) : (R.lock n x).gone n = R.gone n := by
  unfold Rn.lock Rn.gone
  simp only [Rn.mk.injEq, and_true]
  rw [List.filter_map]
  have : ∀ l : List Jb, List.map (fun j => if j.no = n then (⟨j.no, j.fn, j.bl, j.at_, x⟩ : Jb) else j) (l.filter ((fun j => decide (j.no ≠ n)) ∘ fun j => if j.no = n then (⟨j.no, j.fn, j.bl, j.at_, x⟩ : Jb) else j)) = l.filter fun j => decide (j.no ≠ n) := by
    intro l
    induction l with
    | nil => rfl
    | cons a l ih =>
      by_cases e : a.no = n
      · rw [List.filter_cons, if_neg (by simp [e]), List.filter_cons, if_neg (by simp [e])]
        exact ih
      · rw [List.filter_cons, if_pos (by simp [e]), List.filter_cons, if_pos (by simp [e]), List.map_cons, if_neg e]
        rw [ih]
  exact this R.js
section
variable {k : Nat} {O : Ghost} {rb : Nat} {R : Rn} {w : World}
theorem lock_facts (hM : Mem k O w) (h : RnIs O rb R) {j : Jb} (hj : j ∈ R.js) (x : Int) : ∃ O1, O1 = put O j.at_ (jobO ⟨j.no, j.fn, j.bl, j.at_, x⟩) ∧ RnIs O1 rb (R.lock j.no x) ∧ Mem k O1 (w.setCell ⟨j.at_, 4, none⟩ (.int .i32 x)) ∧ Stp 3 w.heap.size O O1 w (w.setCell ⟨j.at_, 4, none⟩ (.int .i32 x)) := by
  have ho := h.jobs j hj
  have hM1 := hM.set ho 4 (.int .i32 x)
  have hs1 : Stp 3 w.heap.size O _ w _ := Stp.set ho 4 (.int .i32 x)
  obtain ⟨O1, hO1⟩ : ∃ O1, O1 = put O j.at_ (jobO ⟨j.no, j.fn, j.bl, j.at_, x⟩) := ⟨_, rfl⟩
  have hO1' : put O j.at_ ⟨3, j.at_, .raw ([.int .i64 j.no, j.fn, .bool j.bl, .int .u32 0, .int .i32 j.lk, .int .u32 0].set 4 (.int .i32 x)) 125⟩ = O1 := by rw [hO1]; rfl
  rw [hO1'] at hM1 hs1
  have hmm : (R.lock j.no x).js.map Jb.at_ = R.js.map Jb.at_ := by
    unfold Rn.lock
    rw [List.map_map]
    refine List.map_congr_left fun x _ => ?_
    simp only [Function.comp]
    split <;> rfl
  have hmn : (R.lock j.no x).js.map Jb.no = R.js.map Jb.no := by
    unfold Rn.lock
    rw [List.map_map]
    refine List.map_congr_left fun x _ => ?_
    simp only [Function.comp]
    split <;> rfl
  obtain ⟨rv, h1, h2⟩ := h.run
  have hne : rb ≠ j.at_ := fun e => by rw [e, ho] at h1; simp [runO, jobO] at h1
  refine ⟨O1, hO1, ⟨⟨rv, by rw [hO1, put_other _ _ hne]; exact h1, ?_⟩, fun x hx => ?_, by rw [hmn]; exact h.sorted, fun x hx => ?_, by unfold Rn.lock; rw [List.length_map]; exact h.room⟩, hM1, hs1⟩
  · rw [hmm]
    rcases h2 with e | ⟨rb', off, c, cs, e1, e2, e3⟩
    · exact .inl e
    · exact .inr ⟨rb', off, c, cs, e1, by rw [hO1, put_other _ _ (fun e => by rw [e, ho] at e2; simp [jobO] at e2)]; exact e2, e3⟩
  · obtain ⟨y, hy, rfl⟩ := List.mem_map.1 hx
    by_cases e : y.no = j.no
    · obtain rfl : y = j := Rn.one h.sorted hy hj e
      rw [if_pos e, hO1, put_same]
    · rw [if_neg e, hO1, put_other _ _ (fun e2 => e (h.apart hy hj e2))]
      exact h.jobs y hy
  · obtain ⟨y, hy, rfl⟩ := List.mem_map.1 hx
    have := h.lt y hy
    split <;> exact this
theorem RnIs.elsewhere (h : RnIs O rb R) {O' : Ghost} {q : Nat} (hq : ∀ x, x ≠ q → O' x = O x) (h1 : q ≠ rb) (h2 : ∀ j ∈ R.js, j.at_ ≠ q) (h3 : ∀ o cs, O q = some o → o.th ≠ .raw cs 113) : RnIs O' rb R := by
  obtain ⟨⟨rv, r1, r2⟩, r3, r4, r5, r6⟩ := h
  refine ⟨⟨rv, by rw [hq _ (Ne.symm h1)]; exact r1, ?_⟩, fun j hj => by rw [hq _ (h2 j hj)]; exact r3 j hj, r4, r5, r6⟩
  rcases r2 with e | ⟨rb', off, c, cs, e1, e2, e3⟩
  · exact .inl e
  · exact .inr ⟨rb', off, c, cs, e1, by rw [hq _ (fun e => h3 _ cs (e ▸ e2) rfl)]; exact e2, e3⟩
end
/-- What is left, the job's number with it. -/
def GLeft (k B : Nat) (rb : Nat) (R' : Rn) (n a : Nat) (O : Ghost) (w w' : World) : Prop := RLeft k B rb R' O w w' ∧ w'.cell? ⟨a, 0, none⟩ = some (.int .i64 (n : Int))
theorem slow_end {k : Nat} {O1 : Ghost} {rb : Nat} {R : Rn} {w w1 w2 : World} {O : Ghost} {b : Jb} (h1 : O1 b.at_ = some (jobO b)) (hrun : RnIs O1 rb R) (hs1 : Stp 3 w.heap.size O O1 w w1) (hD : DLeft k w1.heap.size rb (R.gone b.no) O1 w1 w2) (hz : w.heap.size ≤ w1.heap.size) :
    (∃ u, w2.cell? ⟨b.at_, 3, none⟩ = some u) ∧ w2.frozen? ⟨b.at_, 3, none⟩ = false ∧ (w2.drew.setCell ⟨b.at_, 3, none⟩ (.int .u32 1)).cell? ⟨b.at_, 4, none⟩ = some (.int .i32 b.lk) ∧ (w2.drew.setCell ⟨b.at_, 3, none⟩ (.int .u32 1)).frozen? ⟨b.at_, 4, none⟩ = false ∧
      GLeft k w.heap.size rb (R.gone b.no) b.no b.at_ O w ((w2.drew.setCell ⟨b.at_, 3, none⟩ (.int .u32 1)).setCell ⟨b.at_, 4, none⟩ (.int .i32 0)) := by
  obtain ⟨O2, q1, q2, q3, q4⟩ := hD
  obtain ⟨rv, r1, r2⟩ := hrun.run
  have hne : b.at_ ≠ rb := fun e => by rw [e, r1] at h1; simp [runO, jobO] at h1
  have a2 : O2 b.at_ = some (jobO b) := q4 _ _ h1 (fun cs e => by simp [jobO] at e) hne
  have hM3 := q2.drew.set a2 3 (.int .u32 1)
  have hs3 : Stp 3 w.heap.size O2 _ w2.drew _ := Stp.set a2 3 (.int .u32 1)
  obtain ⟨O3, hO3⟩ : ∃ O3, O3 = put O2 b.at_ ⟨3, b.at_, .raw ([.int .i64 b.no, b.fn, .bool b.bl, .int .u32 0, .int .i32 b.lk, .int .u32 0].set 3 (.int .u32 1)) 125⟩ := ⟨_, rfl⟩
  rw [← hO3] at hM3 hs3
  have a3 : O3 b.at_ = some ⟨3, b.at_, .raw [.int .i64 b.no, b.fn, .bool b.bl, .int .u32 1, .int .i32 b.lk, .int .u32 0] 125⟩ := by rw [hO3, put_same]; rfl
  have hM4 := hM3.set a3 4 (.int .i32 0)
  have hs4 : Stp 3 w.heap.size O3 _ (w2.drew.setCell ⟨b.at_, 3, none⟩ (.int .u32 1)) _ := Stp.set a3 4 (.int .i32 0)
  refine ⟨⟨_, q2.cell a2 (i := 3) rfl⟩, q2.frozen a2 3, hM3.cell a3 (i := 4) rfl, hM3.frozen a3 4, ⟨_, q1.elsewhere (q := b.at_) (fun x hx => by rw [put_other _ _ hx, hO3, put_other _ _ hx]) hne (fun j hj e => ?_) (fun o cs e e2 => ?_), hM4, (((hs1.trans (q3.mono hz)).trans (Stp.drew 3 _ _ _)).trans hs3).trans hs4⟩, hM4.cell (put_same _ _ _) (i := 0) rfl⟩
  · have ho := q1.jobs j hj
    rw [e, a2] at ho
    have h5 := (List.mem_filter.1 hj).2
    simp [jobO] at ho
    have := ho.2.1
    simp at h5
    omega
  · rw [a2] at e
    have := Option.some.inj e
    rw [← this] at e2
    simp [jobO] at e2
set_option maxRecDepth 20000 in
set_option maxHeartbeats 2000000 in
theorem slow_ok {k : Nat} (O : Ghost) (rb : Nat) (R : Rn) (w : World) (hM : Mem k O w) (h : RnIs O rb R) (b : Jb) (hb : b ∈ R.js) (hl : b.lk = 0) (pr px : Addr) (h1 : w.cell? pr = some (.pointer (some ⟨rb, 0, none⟩))) (h2 : w.cell? px = some (.pointer (some ⟨b.at_, 0, none⟩))) (hr : O pr.block = none) (hx : O px.block = none) :
    Calls Try.prog 81 #[.pointer (some ⟨b.at_, 3, none⟩), .func (.func 70) #[] #[.pointer (some pr), .pointer (some px)]] w fun e w' => e = .returned (.tuple #[]) ∧ GLeft k w.heap.size rb (R.gone b.no) b.no b.at_ O w w' := by
  have ho := h.jobs b hb
  have c4 := hM.cell ho (i := 4) rfl
  rw [hl] at c4
  have f4 := hM.frozen ho 4
  obtain ⟨O1, hO1, q1, q2, q3⟩ := lock_facts hM h hb 1
  have hb1 : (⟨b.no, b.fn, b.bl, b.at_, 1⟩ : Jb) ∈ (R.lock b.no 1).js := List.mem_map.2 ⟨b, hb, by rw [if_pos rfl]⟩
  have a1 : O1 b.at_ = some (jobO ⟨b.no, b.fn, b.bl, b.at_, 1⟩) := by rw [hO1, put_same]
  have d3 := q2.cell a1 (i := 3) rfl
  have np : pr.block ≠ b.at_ := fun e => by rw [e, ho] at hr; cases hr
  have nx : px.block ≠ b.at_ := fun e => by rw [e, ho] at hx; cases hx
  have p1 : (w.setCell ⟨b.at_, 4, none⟩ (.int .i32 1)).cell? pr = some (.pointer (some ⟨rb, 0, none⟩)) := by rw [World.cell?_of_block (w := w) (a := pr) (Below.heap_setCell _ _ _ _ np)]; exact h1
  have p2 : (w.setCell ⟨b.at_, 4, none⟩ (.int .i32 1)).cell? px = some (.pointer (some ⟨b.at_, 0, none⟩)) := by rw [World.cell?_of_block (w := w) (a := px) (Below.heap_setCell _ _ _ _ nx)]; exact h2
  have HL := hide (lock_free ⟨b.at_, 4, none⟩ w c4 f4)
  have HN := hide (done_no ⟨b.at_, 3, none⟩ _ d3)
  have HC := hide (drops_ok O1 rb (R.lock b.no 1) _ q2 q1 ⟨b.no, b.fn, b.bl, b.at_, 1⟩ hb1 pr px p1 p2)
  have HE : Hid (∀ w2, DLeft k (w.setCell ⟨b.at_, 4, none⟩ (.int .i32 1)).heap.size rb ((R.lock b.no 1).gone b.no) O1 (w.setCell ⟨b.at_, 4, none⟩ (.int .i32 1)) w2 → _) := fun w2 hD => slow_end (R := R.lock b.no 1) (b := ⟨b.no, b.fn, b.bl, b.at_, 1⟩) a1 q1 q3 hD (by rw [set_size]; exact Nat.le_refl _)
  rw [Rn.lock_gone] at HE HC
  clear hM h hb hl h1 h2 hr hx ho c4 f4 hO1 q1 q2 q3 hb1 a1 d3 np nx p1 p2
  have hmf := makeF'
  go_enter_defers Try.func81, Try.ntmps81
  go_wp2_with (first | (go_at_call 97; refine (unhide HL).mono ?_; rintro e w1 ⟨rfl, rfl⟩) | (go_at_call 80; refine (unhide HN).mono ?_; rintro e w1 ⟨rfl, rfl⟩) | (go_at_call 70; refine (unhide HC).mono ?_; rintro e w2 ⟨rfl, hD⟩; obtain ⟨⟨u, y1⟩, y2, y3, y4, y5⟩ := unhide HE w2 hD; clear hD))
  refine leaves_cons (f := 99) (args := #[.pointer (some ⟨b.at_, 3, none⟩), .bool true]) (by simp) (by simp [go_sem]) ?_
  refine (word_deferred ⟨b.at_, 3, none⟩ u .returning w2 y1 y2).mono ?_
  rintro e u' w3 ⟨rfl, rfl, rfl⟩
  refine leaves_cons (f := 98) (args := #[.pointer (some ⟨b.at_, 4, none⟩)]) (by simp [settle]) (by simp [go_sem]) ?_
  refine (unlock_deferred ⟨b.at_, 4, none⟩ (settle .returning) _ y3 y4).mono ?_
  rintro e u' w4 ⟨rfl, rfl, rfl⟩
  exact ⟨_, results_none rfl _ _ _, rfl, y5⟩
end Go.Proofs.Ytnlfmmempomcaaa
