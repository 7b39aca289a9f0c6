/- PagesOfNothing: the law's walk. -/
import Derived.Test.YtebcmicmklpflaaGreatDoorAl
import Derived.Test.YtebcmicmklpflaaGreatDoorK13
import Derived.Test.YtebcmicmklpflaaGreatDoorAc
namespace Go.Proofs.YtebcmicmklpflaaGreatDoor
open Go.RowKit Go.Maps
set_option linter.unusedSimpArgs false
set_option maxRecDepth 20000 in
set_option maxHeartbeats 1000000 in
/-- The law of nothing, once known answers true in every world. -/
theorem p_nothing9 (n : Int) (a : Option Addr) (l c : Nat) (w : World) (hT : Tab w) (hP : PowAt w) : Calls Tryz.prog 12 #[.int .i64 n, .slice a l c] w fun e w' => e = .returned (.bool true) ∧ Below w.heap.size w w' := by
  have HD : Hid (Calls Tryz.prog 44 #[.pointer none] w fun e w' => e = .returned (.tuple #[]) ∧ Hid (Below w.heap.size w w')) := p_drop_nil w
  have HN := hide p_new_nil
  have HG := hide (p_get_nil n)
  have HC := hide p_count_nil
  have HO := hide p_open_nil
  have HP := hide (p_put_nil n a l c)
  have HF := hide (p_free_nil n)
  have HCm := hide p_commit_nil
  have HDi := hide p_dirty_nil
  have HK : Hid (∀ w1, Below w.heap.size w w1 → Calls Tryz.prog 34 #[] w1 fun e w' => e = .returned (.bool true) ∧ Hid (Below w.heap.size w w')) := fun w1 hb => (pknown_ok w1 (hT.kept (hb.block 0 hT.lt)) (hP.below hb)).mono fun e w' ⟨e1, hb2⟩ => ⟨e1, hb.trans (hb2.mono hb.size)⟩
  have HB := hide (Below.refl w.heap.size w)
  clear hT hP
  by_cases hn : (l : Int) ≤ 12000
  · go_enter Tryz.func12, Tryz.ntmps12
    go_wp2_with fail
    refine (unhide HD).mono ?_
    rintro e w1 ⟨rfl, HB1⟩
    go_wp2_with fail
    refine (unhide HN _).mono ?_
    rintro e w' ⟨rfl, rfl⟩
    go_wp2_with fail
    refine (unhide HG _).mono ?_
    rintro e w' ⟨rfl, rfl⟩
    go_wp2_with fail
    refine (unhide HC _).mono ?_
    rintro e w' ⟨rfl, rfl⟩
    go_wp2_with fail
    refine (unhide HO _ _).mono ?_
    rintro e w' ⟨rfl, rfl⟩
    go_wp2_with fail
    refine (unhide HP _).mono ?_
    rintro e w' ⟨rfl, rfl⟩
    go_wp2_with fail
    refine (unhide HF _).mono ?_
    rintro e w' ⟨rfl, rfl⟩
    go_wp2_with fail
    refine (unhide HCm _).mono ?_
    rintro e w' ⟨rfl, rfl⟩
    go_wp2_with fail
    refine (unhide HDi _).mono ?_
    rintro e w' ⟨rfl, rfl⟩
    go_wp2_with fail
    refine (unhide HK _ (unhide HB1)).mono ?_
    rintro e w5 ⟨rfl, HB5⟩
    go_wp2_with fail
    go_ret
    exact ⟨rfl, unhide HB5⟩
  · go_enter Tryz.func12, Tryz.ntmps12
    go_wp2_with fail
    go_ret
    exact ⟨rfl, unhide HB⟩
end Go.Proofs.YtebcmicmklpflaaGreatDoor
