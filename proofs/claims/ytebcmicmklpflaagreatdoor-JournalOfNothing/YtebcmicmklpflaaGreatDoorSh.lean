/- Of nothing. -/
import Derived.Test.YtebcmicmklpflaaGreatDoorSg
namespace Go.Proofs.YtebcmicmklpflaaGreatDoor
open Go.RowKit Go.Maps
set_option linter.unusedSimpArgs false
set_option maxRecDepth 20000 in
theorem add_of_nil (a : Option Addr) (n c : Nat) (w : World) : Calls Tryz.prog 22 #[.pointer none, .slice a n c] w fun e w' => e = .returned (.int .i64 1) ∧ w' = w := by
  have HR := hide (refusal_nil w)
  go_enter Tryz.func22, Tryz.ntmps22
  go_wp2_with fail
  refine (unhide HR).mono ?_
  rintro e w' ⟨rfl, rfl⟩
  go_wp2_with fail
  go_ret
  exact ⟨rfl, rfl⟩
set_option maxRecDepth 20000 in
theorem commit_of_nil (w : World) : Calls Tryz.prog 24 #[.pointer none] w fun e w' => e = .returned (.int .i64 1) ∧ w' = w := by
  have HR := hide (refusal_nil w)
  go_enter Tryz.func24, Tryz.ntmps24
  go_wp2_with fail
  refine (unhide HR).mono ?_
  rintro e w' ⟨rfl, rfl⟩
  go_wp2_with fail
  go_ret
  exact ⟨rfl, rfl⟩
set_option maxRecDepth 20000 in
theorem reset_of_nil (w : World) : Calls Tryz.prog 26 #[.pointer none] w fun e w' => e = .returned (.int .i64 1) ∧ w' = w := by
  have HR := hide (refusal_nil w)
  go_enter Tryz.func26, Tryz.ntmps26
  go_wp2_with fail
  refine (unhide HR).mono ?_
  rintro e w' ⟨rfl, rfl⟩
  go_wp2_with fail
  go_ret
  exact ⟨rfl, rfl⟩
set_option maxRecDepth 20000 in
theorem groups_of_nil (w : World) : Calls Tryz.prog 18 #[.pointer none] w fun e w' => e = .returned (.slice none 0 0) ∧ w' = w := by
  go_enter Tryz.func18, Tryz.ntmps18
  go_wp2_with fail
  go_ret
  exact ⟨rfl, rfl⟩
set_option maxRecDepth 20000 in
theorem open_of_nil (s : ByteArray) (w : World) : Calls Tryz.prog 16 #[.pointer none, .string s] w fun e w' => e = .returned (.tuple #[.pointer none, .int .i64 1]) ∧ w' = w := by
  go_enter Tryz.func16, Tryz.ntmps16
  go_wp2_with fail
  exact bodyPost_ret (by simp [results, Tryz.results16]) rfl ⟨rfl, rfl⟩
set_option maxRecDepth 20000 in
theorem open_of_empty (f : Nat) (w : World) : Calls Tryz.prog 16 #[.pointer (some ⟨f, 0, none⟩), .string ⟨#[]⟩] w fun e w' => e = .returned (.tuple #[.pointer none, .int .i64 1]) ∧ w' = w := by
  go_enter Tryz.func16, Tryz.ntmps16
  go_wp2_with fail
  exact bodyPost_ret (by simp [results, Tryz.results16]) rfl ⟨rfl, rfl⟩
set_option maxRecDepth 20000 in
set_option maxHeartbeats 1000000 in
theorem nothing_ok (a : Option Addr) (n c : Nat) (w : World) : Calls Tryz.prog 7 #[.slice a n c] w fun e w' => e = .returned (.bool true) ∧ Below w.heap.size w w' := by
  have HD := hide drop_nil
  have HA := hide (add_of_nil a n c)
  have HC := hide commit_of_nil
  have HRs := hide reset_of_nil
  have HG := hide groups_of_nil
  have HO := hide open_of_nil
  have HO2 := hide open_of_empty
  have HN : Hid (Calls Tryz.prog 15 #[.int .i64 100] w fun e w' => e = .returned (.tuple #[.pointer (some ⟨w.heap.size, 0, none⟩), .int .i64 0]) ∧ Hid (Below w.heap.size w w')) := (new_ok 100 w (by omega)).mono fun e w' ⟨e1, _, hb⟩ => ⟨e1, hb⟩
  have HK : Hid (∀ w1, Below w.heap.size w w1 → Calls Tryz.prog 14 #[] w1 fun e w' => e = .returned (.bool true) ∧ Hid (Below w.heap.size w w')) := fun w1 hb => (known_ok w1).mono fun e w' ⟨e1, hb2⟩ => ⟨e1, hb.trans (hb2.mono hb.size)⟩
  have HB := hide (Below.refl w.heap.size w)
  by_cases hn : (n : Int) ≤ 12000
  · go_enter Tryz.func7, Tryz.ntmps7
    go_wp2_with fail
    refine (unhide HD _).mono ?_
    rintro e w' ⟨rfl, rfl⟩
    go_wp2_with fail
    refine (unhide HO _ _).mono ?_
    rintro e w' ⟨rfl, rfl⟩
    go_wp2_with fail
    refine (unhide HN).mono ?_
    rintro e w1 ⟨rfl, HB1⟩
    go_wp2_with fail
    refine (unhide HO2 _ _).mono ?_
    rintro e w' ⟨rfl, rfl⟩
    go_wp2_with fail
    refine (unhide HA _).mono ?_
    rintro e w' ⟨rfl, rfl⟩
    go_wp2_with fail
    refine (unhide HC _).mono ?_
    rintro e w' ⟨rfl, rfl⟩
    go_wp2_with fail
    refine (unhide HRs _).mono ?_
    rintro e w' ⟨rfl, rfl⟩
    go_wp2_with fail
    refine (unhide HG _).mono ?_
    rintro e w' ⟨rfl, rfl⟩
    go_wp2_with fail
    refine (unhide HK _ (unhide HB1)).mono ?_
    rintro e w5 ⟨rfl, HB5⟩
    go_wp2_with fail
    go_ret
    exact ⟨rfl, unhide HB5⟩
  · go_enter Tryz.func7, Tryz.ntmps7
    go_wp2_with fail
    go_ret
    exact ⟨rfl, unhide HB⟩
end Go.Proofs.YtebcmicmklpflaaGreatDoor
