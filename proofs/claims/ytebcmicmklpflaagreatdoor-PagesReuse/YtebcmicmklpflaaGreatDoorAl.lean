/- The pages' known: true. -/
import Derived.Test.YtebcmicmklpflaaGreatDoorAk
import Derived.Test.YtebcmicmklpflaaGreatDoorK12
namespace Go.Proofs.YtebcmicmklpflaaGreatDoor
open Go.RowKit Go.Maps
set_option linter.unusedSimpArgs false
set_option maxRecDepth 20000 in
set_option maxHeartbeats 2000000 in
theorem pknown_ok (w : World) (hT : Tab w) (hP : PowAt w) : Calls Tryz.prog 34 #[] w fun e w' => e = .returned (.bool true) ∧ Below w.heap.size w w' := by
  have H0 := hide (pknown_pre w hT hP)
  clear hT hP
  go_enter Tryz.func34, Tryz.ntmps34
  go_wp2_with fail
  refine (unhide H0).mono ?_
  rintro e w1 ⟨f, rfl, H1⟩
  clear H0
  go_wp2_with fail
  refine (unhide H1).mono ?_
  rintro e w2 ⟨p, rfl, H2⟩
  clear H1
  go_wp2_with fail
  refine (unhide H2).mono ?_
  rintro e w3 ⟨rfl, H3⟩
  clear H2
  go_wp2_with fail
  refine (unhide H3).mono ?_
  rintro e w4 ⟨rfl, H4⟩
  clear H3
  go_wp2_with fail
  refine (unhide H4).mono ?_
  rintro e w5 ⟨rfl, H5⟩
  clear H4
  go_wp2_with fail
  refine (unhide H5).mono ?_
  rintro e w6 ⟨rfl, H6⟩
  clear H5
  go_wp2_with fail
  refine (unhide H6).mono ?_
  rintro e w7 ⟨rfl, H7⟩
  clear H6
  go_wp2_with fail
  refine (unhide H7).mono ?_
  rintro e w8 ⟨a, c, rfl, H8⟩
  clear H7
  go_wp2_with fail
  refine (unhide H8).mono ?_
  rintro e w9 ⟨rfl, HF⟩
  clear H8
  go_wp2_with fail
  go_ret
  exact ⟨rfl, unhide HF⟩
end Go.Proofs.YtebcmicmklpflaaGreatDoor
