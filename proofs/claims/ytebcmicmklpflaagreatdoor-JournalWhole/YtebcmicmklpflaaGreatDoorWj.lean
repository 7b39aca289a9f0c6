/- JournalWhole: the law for every script, fuse and crash. -/
import Derived.Test.YtebcmicmklpflaaGreatDoorWi
namespace Go.Proofs.YtebcmicmklpflaaGreatDoor
open Go.RowKit Go.Maps
set_option linter.unusedSimpArgs false
set_option maxRecDepth 20000 in
set_option maxHeartbeats 4000000 in
theorem whole_heavy (a : Option Addr) (len c : Nat) (X : Nat → Stp) (fuse keep : Int) (w : World) (hX : StepsAt w a len X) (hT : 12000 < tot X (min len 100)) : Calls Tryz.prog 4 #[.slice a len c, .int .i64 fuse, .int .i64 keep] w fun e w' => e = .returned (.bool true) ∧ Below w.heap.size w w' := by
  have HH := hide (heavy_ok a len c X w hX)
  have HK : Hid (Calls Tryz.prog 14 #[] w fun e w' => e = .returned (.bool true) ∧ Hid (Below w.heap.size w w')) := known_ok w
  rw [decide_eq_true hT] at HH
  clear hX hT
  go_enter Tryz.func4, Tryz.ntmps4
  go_wp2_with fail
  refine (unhide HH).mono ?_
  rintro e w' ⟨rfl, rfl⟩
  clear HH
  go_wp2_with fail
  refine (unhide HK).mono ?_
  rintro e w9 ⟨rfl, HB9⟩
  go_wp2_with fail
  go_ret
  exact ⟨rfl, unhide HB9⟩
set_option maxRecDepth 20000 in
set_option maxHeartbeats 4000000 in
theorem whole_neg (a : Option Addr) (len c : Nat) (X : Nat → Stp) (fuse keep : Int) (w : World) (hX : StepsAt w a len X) (hT : ¬ 12000 < tot X (min len 100)) (h0 : fuse < 0) : Calls Tryz.prog 4 #[.slice a len c, .int .i64 fuse, .int .i64 keep] w fun e w' => e = .returned (.bool true) ∧ Below w.heap.size w w' := by
  have HH := hide (heavy_ok a len c X w hX)
  have HK : Hid (Calls Tryz.prog 14 #[] w fun e w' => e = .returned (.bool true) ∧ Hid (Below w.heap.size w w')) := known_ok w
  rw [decide_eq_false hT] at HH
  have hb : decide (fuse < 0) = true := decide_eq_true h0
  clear hX hT
  go_enter Tryz.func4, Tryz.ntmps4
  go_wp2_with fail
  refine (unhide HH).mono ?_
  rintro e w' ⟨rfl, rfl⟩
  clear HH
  go_wp2_with fail
  refine (unhide HK).mono ?_
  rintro e w9 ⟨rfl, HB9⟩
  go_wp2_with fail
  go_ret
  exact ⟨rfl, unhide HB9⟩
set_option maxRecDepth 20000 in
set_option maxHeartbeats 4000000 in
theorem whole_big (a : Option Addr) (len c : Nat) (X : Nat → Stp) (fuse keep : Int) (w : World) (hX : StepsAt w a len X) (hT : ¬ 12000 < tot X (min len 100)) (h0 : ¬ fuse < 0) (h1 : 2000 < fuse) : Calls Tryz.prog 4 #[.slice a len c, .int .i64 fuse, .int .i64 keep] w fun e w' => e = .returned (.bool true) ∧ Below w.heap.size w w' := by
  have HH := hide (heavy_ok a len c X w hX)
  have HK : Hid (Calls Tryz.prog 14 #[] w fun e w' => e = .returned (.bool true) ∧ Hid (Below w.heap.size w w')) := known_ok w
  rw [decide_eq_false hT] at HH
  have hb0 : decide (fuse < 0) = false := decide_eq_false h0
  have hb1 : decide (2000 < fuse) = true := decide_eq_true h1
  clear hX hT
  go_enter Tryz.func4, Tryz.ntmps4
  go_wp2_with fail
  refine (unhide HH).mono ?_
  rintro e w' ⟨rfl, rfl⟩
  clear HH
  go_wp2_with fail
  refine (unhide HK).mono ?_
  rintro e w9 ⟨rfl, HB9⟩
  go_wp2_with fail
  go_ret
  exact ⟨rfl, unhide HB9⟩
/-- The law JournalWhole. -/
theorem whole_ok (a : Option Addr) (len c : Nat) (X : Nat → Stp) (fuse keep : Int) (w : World) (hX : StepsAt w a len X) : Calls Tryz.prog 4 #[.slice a len c, .int .i64 fuse, .int .i64 keep] w fun e w' => e = .returned (.bool true) ∧ Below w.heap.size w w' := by
  by_cases hT : 12000 < tot X (min len 100)
  · exact whole_heavy a len c X fuse keep w hX hT
  · by_cases h0 : fuse < 0
    · exact whole_neg a len c X fuse keep w hX hT h0
    · by_cases h1 : 2000 < fuse
      · exact whole_big a len c X fuse keep w hX hT h0 h1
      · obtain ⟨m, rfl⟩ : ∃ m : Nat, fuse = (m : Int) := ⟨fuse.toNat, by omega⟩
        exact whole_run a len c X m keep w hX (by omega) hT
end Go.Proofs.YtebcmicmklpflaaGreatDoor
