/- known: a lock that is shared, and one that waits for it. -/
import Derived.Test.YtnlfmmempomcaaaMe
namespace Go.Proofs.Ytnlfmmempomcaaa
open Go.RowKit Go.Maps
set_option linter.unusedSimpArgs false
def nmA : ByteArray := ⟨#[97]⟩
def K1 : St := St.zero.hold 1 nmA true
def K2 : St := K1.wait 2 nmA false
theorem K1_hs : K1.hs nmA = [1] := by simp [K1, St.hold, St.zero, fset]
theorem K2_hs : K2.hs nmA = [1] := K1_hs
theorem K2_rw : K2.rw nmA = [(2, false)] := by simp [K2, K1, St.wait, St.hold, St.zero, fset]
theorem K3_hs : (K2.drop 1 nmA).hs nmA = [] := by rw [St.drop_hs, K2_hs]; rfl
theorem K3_rw : (K2.drop 1 nmA).rw nmA = [(2, false)] := K2_rw
theorem K_give : K2.give 1 nmA = ((K2.drop 1 nmA).pop nmA 2 false [], [2]) := by
  unfold St.give
  rw [St.go_step K3_rw (by unfold St.lets; rw [K3_hs]; rfl), St.go_none (St.pop_rw ..)]
theorem St.pop_hs (S : St) (s : ByteArray) (n : Int) (x : Bool) (r : List (Int × Bool)) : (S.pop s n x r).hs s = S.hs s ++ [n] := if_pos rfl
theorem K_holds : ((K2.drop 1 nmA).pop nmA 2 false []).holds 2 nmA = true := by
  have h : ((K2.drop 1 nmA).pop nmA 2 false []).hs nmA = (K2.drop 1 nmA).hs nmA ++ [2] := St.pop_hs _ _ _ _ _
  unfold St.holds
  rw [h, K3_hs]
  rfl
theorem mem_none (k : Nat) (w : World) : Mem k (fun _ => none) w := fun _ _ e => by cases e
section
variable {w : World}
theorem kn1 {tb : Nat} {w1 : World} (h : Left 0 w.heap.size tb St.zero (fun _ => none) w w1) :
    Calls Try.prog 12 #[.pointer (some ⟨tb, 0, none⟩), .int .i64 1, .string nmA, .bool true] w1 fun e w2 => e = .returned (.tuple #[.bool true, .int .i64 0]) ∧ Left 4 w.heap.size tb K1 (fun _ => none) w w2 := by
  obtain ⟨O1, h1, h2, h3⟩ := h
  refine (take_hold O1 tb St.zero w1 h2 h1 1 nmA true (by unfold IOk; decide) (by decide) (by decide) (by decide) rfl rfl rfl rfl).mono ?_
  rintro e w2 ⟨rfl, O2, q1, q2, q3⟩
  exact ⟨rfl, O2, q1, q2, h3.trans (q3.mono h3.size)⟩
theorem kn2 {tb : Nat} {w1 : World} (h : Left 4 w.heap.size tb K1 (fun _ => none) w w1) :
    Calls Try.prog 12 #[.pointer (some ⟨tb, 0, none⟩), .int .i64 2, .string nmA, .bool false] w1 fun e w2 => e = .returned (.tuple #[.bool false, .int .i64 0]) ∧ Left 8 w.heap.size tb K2 (fun _ => none) w w2 := by
  obtain ⟨O1, h1, h2, h3⟩ := h
  refine (take_waits O1 tb K1 w1 h2 h1 2 nmA false (by unfold IOk; decide) (by decide) (by decide) (by decide) rfl (by unfold St.holds; rw [K1_hs]; rfl) (fun ⟨_, e⟩ => by unfold St.lets at e; rw [K1_hs] at e; simp at e) (fun O F G lm tm w a b hR hM hF hG => ring_quiet O tb K1 none F G lm tm w hM hR 2 a b hG fun t _ => rfl) (by decide)).mono ?_
  rintro e w2 ⟨rfl, O2, q1, q2, q3⟩
  exact ⟨rfl, O2, q1, q2, h3.trans (q3.mono h3.size)⟩
theorem kn3 {tb : Nat} {w1 : World} (h : Left 8 w.heap.size tb K2 (fun _ => none) w w1) :
    Calls Try.prog 14 #[.pointer (some ⟨tb, 0, none⟩), .int .i64 1, .string nmA] w1 fun e w2 => ∃ v, e = .returned (.tuple #[v, .int .i64 0]) ∧ Told 10 w.heap.size tb ((K2.drop 1 nmA).pop nmA 2 false []) [2] (fun _ => none) w v w2 := by
  obtain ⟨O1, h1, h2, h3⟩ := h
  refine (give_yes (B := w.heap.size) O1 tb K2 w1 h2 h1 1 nmA (by unfold IOk; decide) (by unfold SOk; decide) (by unfold St.holds; rw [K2_hs]; rfl) (by rw [K2_rw]; decide) h3.size).mono ?_
  rintro e w2 ⟨v, rfl, O2, q1, q2, q3, q4⟩
  rw [K_give] at q1 q4
  rw [K2_rw] at q2
  exact ⟨v, rfl, O2, q1, q2, h3.trans q3, q4⟩
theorem kn4 {tb : Nat} {v : Value} {w4 : World} (h : Told 10 w.heap.size tb ((K2.drop 1 nmA).pop nmA 2 false []) [2] (fun _ => none) w v w4) :
    Calls Try.prog 16 #[v, .slice (some ⟨w4.heap.size, 0, none⟩) 1 1] (w4.alloc (.cells #[.int .i64 2] 3)) fun e w5 => e = .returned (.bool true) ∧ Below w.heap.size w w5 ∧
      Calls Try.prog 21 #[.pointer (some ⟨tb, 0, none⟩), .int .i64 2, .string nmA] w5 fun e w' => e = .returned (.bool true) ∧ w' = w5 := by
  obtain ⟨O', q1, q2, q3, q4⟩ := h
  have hM := q2.loose (.cells #[.int .i64 2] 3)
  have hs : Stp 0 w.heap.size O' O' w4 (w4.alloc (.cells #[.int .i64 2] 3)) := Stp.loose O' q3.size _
  have hn : Nums w.heap.size O' (w4.alloc (.cells #[.int .i64 2] 3)) v [2] := q4.kept (Stp.loose (c := 0) O' (Nat.le_refl _) _)
  have hr : IRow (w4.alloc (.cells #[.int .i64 2] 3)) (.slice (some ⟨w4.heap.size, 0, none⟩) 1 1) [2] := ⟨_, 1, rfl, fun _ => ⟨w4.heap.size, 0, rfl, fun j x hj => by
    have := cell_one_new w4 (.int .i64 2) 3 j (.int .i64 x)
    cases j with
    | zero =>
      simp at hj
      subst hj
      exact this rfl
    | succ j => simp at hj⟩⟩
  refine (ints_ok _ _ _ [2] [2] hn.row hr (by decide)).mono ?_
  rintro e w5 ⟨rfl, hb⟩
  have hM5 := Rp.below hM hb
  refine ⟨rfl, ((q3.trans hs).trans ((Stp.ofBelow hb).mono (by rw [World.size_alloc]; exact Nat.le_succ_of_le q3.size))).below fun _ _ => rfl, ?_⟩
  have := holds_tb O' tb _ w5 hM5 q1 2 nmA (by unfold IOk; decide) (by unfold SOk; decide)
  rw [K_holds] at this
  exact this
end
set_option maxRecDepth 20000 in
set_option maxHeartbeats 2000000 in
theorem known_ok (w : World) : Calls Try.prog 10 #[] w fun e w' => e = .returned (.bool true) ∧ Below w.heap.size w w' := by
  have HN := hide (new_ok (k := 0) (B := w.heap.size) (fun _ => none) w (mem_none 0 w) (Nat.le_refl _))
  go_enter Try.func10, Try.ntmps10
  go_wp2_with (first | (go_at_call 11; refine (unhide HN).mono ?_; rintro e w1 ⟨tb, rfl, h1⟩; have H1 := hide h1; clear h1) | (go_at_call 12; refine (kn1 (unhide H1)).mono ?_; rintro e w2 ⟨rfl, h2⟩; have H2 := hide h2; clear h2 H1) | (go_at_call 12; refine (kn2 (unhide H2)).mono ?_; rintro e w3 ⟨rfl, h3⟩; have H3 := hide h3; clear h3 H2) | (go_at_call 14; refine (kn3 (unhide H3)).mono ?_; rintro e w4 ⟨v, rfl, h4⟩; have H4 := hide (kn4 h4); clear h4 H3) | (go_at_call 16; refine (unhide H4).mono ?_; rintro e w5 ⟨rfl, hb, h5⟩; have H5 := hide h5; clear h5) | (go_at_call 21; refine (unhide H5).mono ?_; rintro e w6 ⟨rfl, rfl⟩))
  go_ret
  exact ⟨rfl, hb⟩
end Go.Proofs.Ytnlfmmempomcaaa
