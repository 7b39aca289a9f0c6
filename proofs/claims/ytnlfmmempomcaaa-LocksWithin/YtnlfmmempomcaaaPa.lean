/- LocksWithin: a step that adds tasks, and a step within a step. -/
import Derived.Test.YtnlfmmempomcaaaNj
namespace Go.Proofs.Ytnlfmmempomcaaa
open Go.RowKit Go.Maps
set_option linter.unusedSimpArgs false
def pt (b : Nat) : Value := .pointer (some ⟨b, 0, none⟩)
/-- The law's own variables. -/
structure Vars (O : Ghost) (rB inB adB nB stB rb : Nat) (n a i : Int) : Prop where
  r : O rB = some ⟨2, rB, .raw [.pointer (some ⟨rb, 0, none⟩)] 52⟩
  inn : O inB = some ⟨2, inB, .raw [.int .i64 i] 3⟩
  ad : O adB = some ⟨2, adB, .raw [.int .i64 a] 3⟩
  nn : O nB = some ⟨2, nB, .raw [.int .i64 n] 3⟩
  st : O stB = some ⟨2, stB, .raw [.func (.func 35) #[] #[.pointer (some ⟨rB, 0, none⟩), .pointer (some ⟨inB, 0, none⟩), .pointer (some ⟨adB, 0, none⟩), .pointer (some ⟨nB, 0, none⟩), .pointer (some ⟨stB, 0, none⟩)]] 24⟩
  ne : inB ≠ adB ∧ inB ≠ rB ∧ inB ≠ nB ∧ inB ≠ stB ∧ adB ≠ rB ∧ adB ≠ nB ∧ adB ≠ stB
theorem Vars.keep {O O' : Ghost} {rB inB adB nB stB rb : Nat} {n a i : Int} (h : Vars O rB inB adB nB stB rb n a i) (hk : ∀ q o, O q = some o → o.cl ≠ 3 → O' q = some o) : Vars O' rB inB adB nB stB rb n a i :=
  ⟨hk _ _ h.r (by simp), hk _ _ h.inn (by simp), hk _ _ h.ad (by simp), hk _ _ h.nn (by simp), hk _ _ h.st (by simp), h.ne⟩
theorem RnIs.put2 {O : Ghost} {rb : Nat} {R : Rn} (h : RnIs O rb R) {b : Nat} {o o' : Ob} (hb : O b = some o) (hc : o.cl ≠ 3) : RnIs (put O b o') rb R := h.keep fun q p hq hp => by
  rw [put_other _ _ (fun e => by rw [e, hb] at hq; injection hq with hq; rw [hq] at hc; exact hc hp)]; exact hq
theorem Frm.set {B : Nat} {O : Ghost} {w : World} {b cl own : Nat} {cs : List Value} {ty : TypeId} (e : O b = some ⟨cl, own, .raw cs ty⟩) (i : Nat) (v : Value) : Frm B O (put O b ⟨cl, own, .raw (cs.set i v) ty⟩) w (w.setCell ⟨b, i, none⟩ v) :=
  ⟨rfl, rfl, rfl, by rw [set_size]; exact Nat.le_refl _, fun q _ h2 => Below.heap_setCell _ _ _ _ (fun (e2 : q = b) => by rw [e2, e] at h2; cases h2), fun q _ h2 => by rw [put_other _ _ (fun e2 => by rw [e2, e] at h2; cases h2)]; exact h2⟩
def fn35 (rB inB adB nB stB : Nat) : Array Value := #[.pointer (some ⟨rB, 0, none⟩), .pointer (some ⟨inB, 0, none⟩), .pointer (some ⟨adB, 0, none⟩), .pointer (some ⟨nB, 0, none⟩), .pointer (some ⟨stB, 0, none⟩)]
/-- What the step leaves. -/
def Post35 (k : Nat) (rB inB adB nB stB rb : Nat) (n a : Nat) (R : Rn) (O1 : Ghost) (w1 w2 : World) : Prop :=
  ∃ O2 R2, RnIs O2 rb R2 ∧ Mem k O2 w2 ∧ Frm w1.heap.size O1 O2 w1 w2 ∧ ((n ≤ a ∧ R2 = R ∧ Vars O2 rB inB adB nB stB rb n a (-1)) ∨ (a < n ∧ (∃ x, R2 = ⟨R.js ++ [⟨R.next, .func (.func 35) #[] (fn35 rB inB adB nB stB), false, x, 0⟩], R.next + 1, R.busy, R.steps⟩) ∧ Vars O2 rB inB adB nB stB rb n (a + 1 : Nat) (-1)))
set_option maxRecDepth 20000 in
set_option maxHeartbeats 2000000 in
theorem step35 {k : Nat} (O1 : Ghost) (rB inB adB nB stB rb : Nat) (n a : Nat) (i : Int) (R : Rn) (w1 : World) (hM : Mem k O1 w1) (h : RnIs O1 rb R) (hv : Vars O1 rB inB adB nB stB rb n a i) (hb : R.busy = true) (hl : R.js.length < 256) (hnx : R.next < 1000000) (ha : a ≤ 50) :
    Calls Try.prog 35 #[.pointer (some ⟨rB, 0, none⟩), .pointer (some ⟨inB, 0, none⟩), .pointer (some ⟨adB, 0, none⟩), .pointer (some ⟨nB, 0, none⟩), .pointer (some ⟨stB, 0, none⟩)] w1 fun e w2 => e = .returned (.bool false) ∧ Post35 k rB inB adB nB stB rb n a R O1 w1 w2 := by
  have HB := hide (step_busy O1 rb R w1 hM h hb 0)
  have c0 := hM.cell hv.r (i := 0) rfl
  have c1 := hM.cell hv.inn (i := 0) rfl
  have f1 := hM.frozen hv.inn 0
  have hM2 := hM.set hv.inn 0 (.int .i64 (-1))
  obtain ⟨n1, n2, n3, n4, n5, n6, n7⟩ := hv.ne
  have ad2 : (put O1 inB ⟨2, inB, .raw ([.int .i64 i].set 0 (.int .i64 (-1))) 3⟩) adB = _ := (put_other _ _ (Ne.symm n1)).trans hv.ad
  have nn2 : (put O1 inB ⟨2, inB, .raw ([.int .i64 i].set 0 (.int .i64 (-1))) 3⟩) nB = _ := (put_other _ _ (Ne.symm n3)).trans hv.nn
  have r2 : (put O1 inB ⟨2, inB, .raw ([.int .i64 i].set 0 (.int .i64 (-1))) 3⟩) rB = _ := (put_other _ _ (Ne.symm n2)).trans hv.r
  have st2 : (put O1 inB ⟨2, inB, .raw ([.int .i64 i].set 0 (.int .i64 (-1))) 3⟩) stB = _ := (put_other _ _ (Ne.symm n4)).trans hv.st
  have hR2 : RnIs (put O1 inB ⟨2, inB, .raw ([.int .i64 i].set 0 (.int .i64 (-1))) 3⟩) rb R := h.put2 hv.inn (by simp)
  have hf2 : Frm w1.heap.size O1 _ w1 _ := Frm.set hv.inn 0 (.int .i64 (-1))
  have c2 := hM2.cell ad2 (i := 0) rfl
  have c3 := hM2.cell nn2 (i := 0) rfl
  by_cases han : a < n
  · have hanI : (a : Int) < (n : Int) := by omega
    have haw : IntKind.i64.wrap ((a : Int) + 1) = (a : Int) + 1 := by
      rw [IntKind.wrap_i64]
      omega
    have f2 := hM2.frozen ad2 0
    have hM3 := hM2.set ad2 0 (.int .i64 ((a : Int) + 1))
    have r3 := (put_other (put O1 inB ⟨2, inB, .raw ([.int .i64 i].set 0 (.int .i64 (-1))) 3⟩) ⟨2, adB, .raw ([.int .i64 (a : Int)].set 0 (.int .i64 ((a : Int) + 1))) 3⟩ (Ne.symm n5)).trans r2
    have st3 := (put_other (put O1 inB ⟨2, inB, .raw ([.int .i64 i].set 0 (.int .i64 (-1))) 3⟩) ⟨2, adB, .raw ([.int .i64 (a : Int)].set 0 (.int .i64 ((a : Int) + 1))) 3⟩ (Ne.symm n7)).trans st2
    have nn3 := (put_other (put O1 inB ⟨2, inB, .raw ([.int .i64 i].set 0 (.int .i64 (-1))) 3⟩) ⟨2, adB, .raw ([.int .i64 (a : Int)].set 0 (.int .i64 ((a : Int) + 1))) 3⟩ (Ne.symm n6)).trans nn2
    have in3 := (put_other (put O1 inB ⟨2, inB, .raw ([.int .i64 i].set 0 (.int .i64 (-1))) 3⟩) ⟨2, adB, .raw ([.int .i64 (a : Int)].set 0 (.int .i64 ((a : Int) + 1))) 3⟩ n1).trans (put_same _ _ _)
    have hR3 := hR2.put2 (o' := ⟨2, adB, .raw ([.int .i64 (a : Int)].set 0 (.int .i64 ((a : Int) + 1))) 3⟩) ad2 (by simp)
    have hf3 : Frm w1.heap.size _ _ (w1.setCell ⟨inB, 0, none⟩ (.int .i64 (-1))) _ := Frm.set ad2 0 (.int .i64 ((a : Int) + 1))
    have d1 := hM3.cell r3 (i := 0) rfl
    have d2 := hM3.cell st3 (i := 0) rfl
    have HA := hide (add_ok _ rb R _ hM3 hR3 (.func 35) #[] (fn35 rB inB adB nB stB) hl hnx)
    have HP : Hid (∀ w2, (∃ x, RLeft k ((w1.setCell ⟨inB, 0, none⟩ (.int .i64 (-1))).setCell ⟨adB, 0, none⟩ (.int .i64 ((a : Int) + 1))).heap.size rb ⟨R.js ++ [⟨R.next, .func (.func 35) #[] (fn35 rB inB adB nB stB), false, x, 0⟩], R.next + 1, R.busy, R.steps⟩ (put (put O1 inB ⟨2, inB, .raw ([.int .i64 i].set 0 (.int .i64 (-1))) 3⟩) adB ⟨2, adB, .raw ([.int .i64 (a : Int)].set 0 (.int .i64 ((a : Int) + 1))) 3⟩) ((w1.setCell ⟨inB, 0, none⟩ (.int .i64 (-1))).setCell ⟨adB, 0, none⟩ (.int .i64 ((a : Int) + 1))) w2) → Post35 k rB inB adB nB stB rb n a R O1 w1 w2) := fun w2 ⟨x, O', p1, p2, p3⟩ => by
      refine ⟨O', _, p1, p2, (hf2.trans hf3).trans (p3.frm.mono (by rw [set_size, set_size]; exact Nat.le_refl _)), .inr ⟨han, ⟨x, rfl⟩, ?_⟩⟩
      have hv3 : Vars (put (put O1 inB ⟨2, inB, .raw ([.int .i64 i].set 0 (.int .i64 (-1))) 3⟩) adB ⟨2, adB, .raw ([.int .i64 (a : Int)].set 0 (.int .i64 ((a : Int) + 1))) 3⟩) rB inB adB nB stB rb n (a + 1 : Nat) (-1) := ⟨r3, in3, by rw [put_same]; rfl, nn3, st3, hv.ne⟩
      exact hv3.keep p3.keep
    clear hM h hv hb hl hnx ha n1 n2 n3 n4 n5 n6 n7 ad2 nn2 r2 st2 hR2 hf2 hM2 han r3 st3 nn3 in3 hR3 hf3 hM3
    unfold fn35 at HA
    go_enter Try.func35, Try.ntmps35
    go_wp2_with (first | (go_at_call 29; refine (unhide HB).mono ?_; rintro e w2 ⟨rfl, rfl⟩) | (go_at_call 25; refine (unhide HA).mono ?_; rintro e w3 ⟨rfl, hA⟩))
    go_ret
    exact ⟨rfl, unhide HP _ hA⟩
  · have hanI : ¬ ((a : Int) < (n : Int)) := by omega
    have HP : Hid (Post35 k rB inB adB nB stB rb n a R O1 w1 (w1.setCell ⟨inB, 0, none⟩ (.int .i64 (-1)))) := ⟨_, R, hR2, hM2, hf2, .inl ⟨by omega, rfl, r2, put_same _ _ _, ad2, nn2, st2, hv.ne⟩⟩
    clear hM h hv hb hl hnx ha n1 n2 n3 n4 n5 n6 n7 ad2 nn2 r2 st2 hR2 hf2 hM2 han
    go_enter Try.func35, Try.ntmps35
    go_wp2_with (first | (go_at_call 29; refine (unhide HB).mono ?_; rintro e w2 ⟨rfl, rfl⟩))
    go_ret
    exact ⟨rfl, unhide HP⟩
end Go.Proofs.Ytnlfmmempomcaaa
