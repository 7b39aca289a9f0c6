/- A Run in memory; NewRun, Left, Add. -/
import Derived.Test.YtnlfmmempomcaaaNa
import Derived.Deep.QuietTactic
import Derived.BigQuiet
namespace Go.Proofs.Ytnlfmmempomcaaa
open Go.RowKit Go.Maps
set_option linter.unusedSimpArgs false
/-- A job. -/
structure Jb where
  no : Nat
  fn : Value
  bl : Bool
  at_ : Nat
  lk : Int
structure Rn where
  js : List Jb
  next : Nat
  busy : Bool
  steps : Nat
def jobO (j : Jb) : Ob := ⟨3, j.at_, .raw [.int .i64 j.no, j.fn, .bool j.bl, .int .u32 0, .int .i32 j.lk, .int .u32 0] 125⟩
def runO (rb : Nat) (rv : Value) (R : Rn) : Ob := ⟨3, rb, .raw [rv, .int .i64 R.next, .bool R.busy, .int .i64 R.steps] 112⟩
structure RnIs (O : Ghost) (rb : Nat) (R : Rn) : Prop where
  run : ∃ rv, O rb = some (runO rb rv R) ∧ RowJ O rb rv (R.js.map Jb.at_)
  jobs : ∀ j ∈ R.js, O j.at_ = some (jobO j)
  sorted : (R.js.map Jb.no).Pairwise (· < ·)
  lt : ∀ j ∈ R.js, j.no < R.next
  room : R.js.length ≤ 256
theorem RowJ.keep {O O' : Ghost} {b : Nat} {v : Value} {xs : List Nat} (h : RowJ O b v xs) (hk : ∀ q o, O q = some o → o.cl = 3 → O' q = some o) : RowJ O' b v xs := by
  rcases h with h | ⟨rb, off, c, cs, h1, h2, h3⟩
  · exact .inl h
  · exact .inr ⟨rb, off, c, cs, h1, hk _ _ h2 rfl, h3⟩
theorem RnIs.keep {O O' : Ghost} {rb : Nat} {R : Rn} (h : RnIs O rb R) (hk : ∀ q o, O q = some o → o.cl = 3 → O' q = some o) : RnIs O' rb R := by
  obtain ⟨⟨rv, h1, h2⟩, h3, h4, h5, h6⟩ := h
  exact ⟨⟨rv, hk _ _ h1 rfl, h2.keep hk⟩, fun j hj => hk _ _ (h3 j hj) rfl, h4, h5, h6⟩
theorem RowJ.shape {O : Ghost} {b : Nat} {v : Value} {xs : List Nat} (h : RowJ O b v xs) : ∃ a c, v = .slice a xs.length c := by
  rcases h with ⟨h, e⟩ | ⟨rb, off, c, cs, h1, h2, h3⟩
  · exact ⟨none, 0, by rw [h, e]; rfl⟩
  · exact ⟨_, _, h1⟩
/-- What a doing leaves that turns a Run to R'. -/
def RLeft (k B : Nat) (rb : Nat) (R' : Rn) (O : Ghost) (w w' : World) : Prop := ∃ O', RnIs O' rb R' ∧ Mem k O' w' ∧ Stp 3 B O O' w w'
set_option maxRecDepth 20000 in
theorem newrun_ok {k B : Nat} (O : Ghost) (w : World) (hM : Mem k O w) (hB : B ≤ w.heap.size) :
    Calls Try.prog 24 #[] w fun e w' => ∃ rb, e = .returned (.pointer (some ⟨rb, 0, none⟩)) ∧ RLeft k B rb ⟨[], 0, false, 0⟩ O w w' := by
  have hM1 := hM.alloc 3 w.heap.size [.slice none 0 0, .int .i64 0, .bool false, .int .i64 0] 112
  have hs1 : Stp 3 B O _ w _ := Stp.alloc hM hB ⟨3, w.heap.size, .raw [.slice none 0 0, .int .i64 0, .bool false, .int .i64 0] 112⟩ (.cells #[.slice none 0 0, .int .i64 0, .bool false, .int .i64 0] 112)
  have HE : Hid (RLeft k B w.heap.size ⟨[], 0, false, 0⟩ O w (w.alloc (.cells #[.slice none 0 0, .int .i64 0, .bool false, .int .i64 0] 112))) := ⟨_, ⟨⟨.slice none 0 0, put_same _ _ _, .inl ⟨rfl, rfl⟩⟩, fun j hj => (by cases hj), List.Pairwise.nil, fun j hj => (by cases hj), by decide⟩, hM1, hs1⟩
  clear hM hM1 hs1
  go_enter Try.func24, Try.ntmps24
  go_wp2_with fail
  go_ret
  exact ⟨w.heap.size, rfl, unhide HE⟩
theorem eq24 (fn : Fn) (f1 c1 : Array Value) (w : World) : (binOp BinOp.eql 24 (.func fn f1 c1) .nilFunc).run Try.prog w = .ok (.bool false) w := by
  have h : ∀ d : Nat, (Op.equalIn (d + 1) 24 (.func fn f1 c1) .nilFunc).run Try.prog w = .ok false w := fun d => by
    simp [Op.equalIn, run_underlying Try.underlying24]
  simp only [binOp]
  simp [Op.equal, Op.maxDepth, h 9999]
theorem eq24_nil (w : World) : (binOp BinOp.eql 24 .nilFunc .nilFunc).run Try.prog w = .ok (.bool true) w := by
  have h : ∀ d : Nat, (Op.equalIn (d + 1) 24 .nilFunc .nilFunc).run Try.prog w = .ok true w := fun d => by
    simp [Op.equalIn, run_underlying Try.underlying24]
  simp only [binOp]
  simp [Op.equal, Op.maxDepth, h 9999]
set_option maxRecDepth 20000 in
theorem load57 (a : Addr) (x : Int) (w : World) (hc : w.cell? a = some (.int .i64 x)) : Calls Try.prog 57 #[.pointer (some a)] w fun e w' => e = .returned (.int .i64 x) ∧ w' = w := by
  have hl := run_call_load (P := Try.prog) Try.func75 (by kernel_rfl) (by kernel_rfl) (by kernel_rfl) .i64 (by kernel_rfl) hc
  go_enter Try.func57, Try.ntmps57
  go_wp2
  go_ret
  exact ⟨rfl, rfl⟩
set_option maxRecDepth 20000 in
set_option maxHeartbeats 1000000 in
theorem rleft_ok {k : Nat} (O : Ghost) (rb : Nat) (R : Rn) (w : World) (hM : Mem k O w) (h : RnIs O rb R) :
    Calls Try.prog 33 #[.pointer (some ⟨rb, 0, none⟩)] w fun e w' => e = .returned (.tuple #[.int .i64 R.js.length, .int .i64 R.steps]) ∧ Below w.heap.size w w' := by
  obtain ⟨⟨rv, h1, h2⟩, _, _, _, h6⟩ := h
  obtain ⟨ra, rc, rfl⟩ := h2.shape
  have c0 := hM.cell h1 (i := 0) rfl
  have c3 := hM.cell h1 (i := 3) rfl
  have HL : Hid (∀ n, Calls Try.prog 57 #[.pointer (some ⟨rb, 3, none⟩)] (w.drewN n) fun e w' => e = .returned (.int .i64 R.steps) ∧ w' = w.drewN n) := fun n => load57 _ _ _ (show w.cell? ⟨rb, 3, none⟩ = _ from c3)
  rw [List.length_map] at c0
  generalize R.js.length = N at *
  generalize (R.steps : Int) = st at *
  clear hM h1 h2 h6
  go_enter Try.func33, Try.ntmps33
  go_wp2_with fail
  go_quiet (first | (go_at_call 57; exact Calls.quiet_of_same (unhide HL _)))
  go_wp2_with fail
  go_ret2
  exact ⟨rfl, rfl, rfl, rfl, Nat.le_refl _, fun _ _ => rfl⟩
set_option maxRecDepth 20000 in
set_option maxHeartbeats 1000000 in
theorem add_full {k : Nat} (O : Ghost) (rb : Nat) (R : Rn) (w : World) (hM : Mem k O w) (h : RnIs O rb R) (fn : Fn) (f1 c1 : Array Value) (hf : 256 ≤ R.js.length) :
    Calls Try.prog 25 #[.pointer (some ⟨rb, 0, none⟩), .func fn f1 c1] w fun e w' => e = .returned (.int .i64 (-1)) ∧ w' = w := by
  obtain ⟨⟨rv, h1, h2⟩, _, _, _, h6⟩ := h
  obtain ⟨ra, rc, rfl⟩ := h2.shape
  have c0 := hM.cell h1 (i := 0) rfl
  rw [List.length_map] at c0
  have hN : (256 : Int) ≤ (R.js.length : Int) := by omega
  generalize R.js.length = N at *
  clear hM h1 h2 h6 hf
  have hq := eq24
  go_enter Try.func25, Try.ntmps25
  go_wp2_with fail
  go_ret
  exact ⟨rfl, rfl⟩
set_option maxRecDepth 20000 in
theorem add_none {k : Nat} (O : Ghost) (rb : Nat) (R : Rn) (w : World) (_ : Mem k O w) (_ : RnIs O rb R) :
    Calls Try.prog 25 #[.pointer (some ⟨rb, 0, none⟩), .nilFunc] w fun e w' => e = .returned (.int .i64 (-1)) ∧ w' = w := by
  have hq := eq24_nil
  go_enter Try.func25, Try.ntmps25
  go_wp2_with fail
  go_ret
  exact ⟨rfl, rfl⟩
/-- What Add does to the blocks. -/
theorem add_facts {k : Nat} {O : Ghost} {rb : Nat} {R : Rn} {w : World} (hM : Mem k O w) (h : RnIs O rb R) (fv : Value) (hf : R.js.length < 256) {ra : Option Addr} {rc : Nat} (hc : w.cell? ⟨rb, 0, none⟩ = some (.slice ra R.js.length rc)) :
    ∃ w1, w1 = w.alloc (.cells #[.int .i64 R.next, fv, .bool false, .int .u32 0, .int .i32 0, .int .u32 0] 125) ∧ w1.cell? ⟨rb, 0, none⟩ = some (.slice ra R.js.length rc) ∧
    ∃ va vn vc w5, (∀ ty, (app105 ty #[.slice ra R.js.length rc, .slice (some ⟨w.heap.size + 1, 0, none⟩) 1 1]).run Try.prog (w1.alloc (.cells #[.pointer (some ⟨w.heap.size, 0, none⟩)] 113)) = .ok (.slice va vn vc) w5) ∧
      (∃ u, w5.cell? ⟨rb, 0, none⟩ = some u) ∧ w5.frozen? ⟨rb, 0, none⟩ = false ∧ (w5.setCell ⟨rb, 0, none⟩ (.slice va vn vc)).cell? ⟨rb, 1, none⟩ = some (.int .i64 R.next) ∧ (w5.setCell ⟨rb, 0, none⟩ (.slice va vn vc)).frozen? ⟨rb, 1, none⟩ = false ∧
      ((w5.setCell ⟨rb, 0, none⟩ (.slice va vn vc)).setCell ⟨rb, 1, none⟩ (.int .i64 ((R.next : Int) + 1))).cell? ⟨w.heap.size, 0, none⟩ = some (.int .i64 R.next) ∧
      RLeft k w.heap.size rb ⟨R.js ++ [⟨R.next, fv, false, w.heap.size, 0⟩], R.next + 1, R.busy, R.steps⟩ O w ((w5.setCell ⟨rb, 0, none⟩ (.slice va vn vc)).setCell ⟨rb, 1, none⟩ (.int .i64 ((R.next : Int) + 1))) := by
  obtain ⟨⟨rv, h1, h2⟩, hj, hs, hl, h6⟩ := h
  obtain rfl : .slice ra R.js.length rc = rv := by have := hM.cell h1 (i := 0) rfl; rw [hc] at this; exact Option.some.inj this
  have hM1 := hM.alloc 3 w.heap.size [.int .i64 R.next, fv, .bool false, .int .u32 0, .int .i32 0, .int .u32 0] 125
  have hs1 : Stp 3 w.heap.size O _ w _ := Stp.alloc hM (Nat.le_refl _) ⟨3, w.heap.size, .raw [.int .i64 R.next, fv, .bool false, .int .u32 0, .int .i32 0, .int .u32 0] 125⟩ (.cells #[.int .i64 R.next, fv, .bool false, .int .u32 0, .int .i32 0, .int .u32 0] 125)
  obtain ⟨O1, hO1⟩ : ∃ O1, O1 = put O w.heap.size (jobO ⟨R.next, fv, false, w.heap.size, 0⟩) := ⟨_, rfl⟩
  have hO1' : put O w.heap.size ⟨3, w.heap.size, .raw [.int .i64 R.next, fv, .bool false, .int .u32 0, .int .i32 0, .int .u32 0] 125⟩ = O1 := by rw [hO1]; rfl
  rw [hO1'] at hM1 hs1
  have hold : ∀ q o, O q = some o → O1 q = some o := fun q o e => by
    have := hM.lt e
    rw [hO1, put_other _ _ (by omega)]; exact e
  have a1 : O1 w.heap.size = some (jobO ⟨R.next, fv, false, w.heap.size, 0⟩) := by rw [hO1, put_same]
  have hrb := hM.lt h1
  obtain ⟨v', w5, O5, r1, r2, r3, r4, r5⟩ := RowJ.push (B := w.heap.size) hM1 (h2.re fun q o e _ => hold q o e) (by simp) (by rw [List.length_map]; omega) w.heap.size
  obtain ⟨va, vn, vc, hv'⟩ : ∃ va vn vc, v' = .slice va vn vc := by
    obtain ⟨a, c, e⟩ := r4.shape
    exact ⟨_, _, _, e⟩
  subst hv'
  have b5 : O5 rb = some (runO rb (.slice ra R.js.length rc) R) := r5 _ _ (hold _ _ h1) (.inr fun cs e => by simp [runO] at e)
  have hM6 := r2.set b5 0 (.slice va vn vc)
  have hs6 : Stp 3 w.heap.size O5 _ w5 _ := Stp.set b5 0 (.slice va vn vc)
  obtain ⟨O6, hO6⟩ : ∃ O6, O6 = put O5 rb (runO rb (.slice va vn vc) R) := ⟨_, rfl⟩
  have hO6' : put O5 rb ⟨3, rb, .raw ([.slice ra R.js.length rc, .int .i64 R.next, .bool R.busy, .int .i64 R.steps].set 0 (.slice va vn vc)) 112⟩ = O6 := by rw [hO6]; rfl
  rw [hO6'] at hM6 hs6
  have b6 : O6 rb = some (runO rb (.slice va vn vc) R) := by rw [hO6, put_same]
  have hM7 := hM6.set b6 1 (.int .i64 ((R.next : Int) + 1))
  have hs7 : Stp 3 w.heap.size O6 _ (w5.setCell ⟨rb, 0, none⟩ (.slice va vn vc)) _ := Stp.set b6 1 (.int .i64 ((R.next : Int) + 1))
  obtain ⟨O7, hO7⟩ : ∃ O7, O7 = put O6 rb (runO rb (.slice va vn vc) ⟨R.js ++ [⟨R.next, fv, false, w.heap.size, 0⟩], R.next + 1, R.busy, R.steps⟩) := ⟨_, rfl⟩
  have hO7' : put O6 rb ⟨3, rb, .raw ([.slice va vn vc, .int .i64 R.next, .bool R.busy, .int .i64 R.steps].set 1 (.int .i64 ((R.next : Int) + 1))) 112⟩ = O7 := by rw [hO7]; rfl
  rw [hO7'] at hM7 hs7
  have h57 : ∀ q, q ≠ rb → O7 q = O5 q := fun q e => by rw [hO7, put_other _ _ e, hO6, put_other _ _ e]
  have a5 : O5 w.heap.size = some (jobO ⟨R.next, fv, false, w.heap.size, 0⟩) := r5 _ _ a1 (.inr fun cs e => by simp [jobO] at e)
  have a7 : O7 w.heap.size = some (jobO ⟨R.next, fv, false, w.heap.size, 0⟩) := by rw [h57 _ (by omega)]; exact a5
  refine ⟨_, rfl, hM1.cell (hold _ _ h1) (i := 0) rfl, va, vn, vc, w5, ?_, ⟨_, r2.cell b5 (i := 0) rfl⟩, r2.frozen b5 0, hM6.cell b6 (i := 1) rfl, hM6.frozen b6 1, hM7.cell a7 (i := 0) rfl, O7, ⟨⟨.slice va vn vc, by rw [hO7, put_same], ?_⟩, fun j hjm => ?_, ?_, fun j hjm => ?_, ?_⟩, hM7, ((hs1.trans r3).trans hs6).trans hs7⟩
  · intro ty
    have := r1 ty
    rw [World.size_alloc] at this
    exact this
  · rw [List.map_append]
    rcases r4 with e | ⟨rb', off, c, cs, e1, e2, e3⟩
    · exact .inl e
    · exact .inr ⟨rb', off, c, cs, e1, by rw [h57 rb' (fun e => by rw [e, b5] at e2; simp [runO] at e2)]; exact e2, e3⟩
  · rcases List.mem_append.1 hjm with hjm | hjm
    · have := hj j hjm
      have hlt := hM.lt this
      rw [h57 _ (fun e => by rw [e, h1] at this; simp [runO, jobO] at this)]
      exact r5 _ _ (hold _ _ this) (.inr fun cs e => by simp [jobO] at e)
    · simp at hjm
      rw [hjm]; exact a7
  · rw [List.map_append]
    refine List.pairwise_append.2 ⟨hs, by simp, fun a ha b hb => ?_⟩
    simp at hb
    subst hb
    obtain ⟨j, hjm, rfl⟩ := List.mem_map.1 ha
    exact hl j hjm
  · rcases List.mem_append.1 hjm with hjm | hjm
    · exact Nat.lt_succ_of_lt (hl j hjm)
    · simp at hjm
      rw [hjm]; exact Nat.lt_succ_self _
  · rw [List.length_append, List.length_singleton]; exact hf
set_option maxRecDepth 20000 in
set_option maxHeartbeats 1000000 in
theorem add_ok {k : Nat} (O : Ghost) (rb : Nat) (R : Rn) (w : World) (hM : Mem k O w) (h : RnIs O rb R) (fn : Fn) (f1 c1 : Array Value) (hf : R.js.length < 256) (hnx : R.next < 1000000) :
    Calls Try.prog 25 #[.pointer (some ⟨rb, 0, none⟩), .func fn f1 c1] w fun e w' => e = .returned (.int .i64 R.next) ∧ ∃ a, RLeft k w.heap.size rb ⟨R.js ++ [⟨R.next, .func fn f1 c1, false, a, 0⟩], R.next + 1, R.busy, R.steps⟩ O w w' := by
  obtain ⟨⟨rv, h1, h2⟩, hj, hs, hl, h6⟩ := h
  obtain ⟨ra, rc, hrv⟩ := h2.shape
  rw [List.length_map] at hrv
  have c0 := hM.cell h1 (i := 0) rfl
  have c1' := hM.cell h1 (i := 1) rfl
  rw [hrv] at c0
  have hN : ¬ ((256 : Int) ≤ (R.js.length : Int)) := by omega
  have hq := eq24
  obtain ⟨w1, hw1, d0, va, vn, vc, w5, d1, ⟨u, d2⟩, d3, d4, d5, d6, hE⟩ := add_facts hM ⟨⟨rv, h1, h2⟩, hj, hs, hl, h6⟩ (.func fn f1 c1) hf c0
  have HE := hide hE
  have hnx' : (R.next : Int) < 1000000 := by omega
  have hnw : IntKind.i64.wrap ((R.next : Int) + 1) = (R.next : Int) + 1 := by
    have h := IntKind.wrap_i64 ((R.next : Int) + 1)
    rw [h]
    omega
  subst hw1
  clear hM h1 h2 h6 hf hj hs hl hrv hnx hE
  go_enter Try.func25, Try.ntmps25
  go_wp2_with fail
  go_ret
  exact ⟨rfl, _, unhide HE⟩
end Go.Proofs.Ytnlfmmempomcaaa
