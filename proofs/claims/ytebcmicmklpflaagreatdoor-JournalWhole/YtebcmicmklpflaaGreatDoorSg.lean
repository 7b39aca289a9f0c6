/- The law's known: true. -/
import Derived.Test.YtebcmicmklpflaaGreatDoorSf
import Derived.Lib.SlBytesConst
namespace Go.Proofs.YtebcmicmklpflaaGreatDoor
open Go.RowKit Go.Maps
set_option linter.unusedSimpArgs false
@[go_sem] theorem conv39 (w : World) (C : Array Value) (n l c : Nat) (hn : n = w.heap.size) :
    (convert 39 39 (.slice (some ⟨n, 0, none⟩) l c)).run Tryz.prog (w.alloc (.cells C 5)) = .ok (.slice (some ⟨n, 0, none⟩) l c) (w.alloc (.cells C 5 (C.size, C.size + 1))) := by
  subst hn; exact Lib.run_convert_bytes_const w 39 5 C l c Tryz.underlying39 Tryz.underlying5
set_option maxRecDepth 20000 in
set_option maxHeartbeats 1000000 in
theorem known_ok (w : World) : Calls Tryz.prog 14 #[] w fun e w' => e = .returned (.bool true) ∧ Below w.heap.size w w' := by
  have H0 := hide (known_pre w)
  go_enter Tryz.func14, Tryz.ntmps14
  go_wp2_with fail
  refine (unhide H0).mono ?_
  rintro e w1 ⟨f, rfl, H1⟩
  clear H0
  go_wp2_with fail
  refine (unhide H1).mono ?_
  rintro e w2 ⟨j, rfl, H2⟩
  clear H1
  go_wp2_with fail
  refine (unhide H2).mono ?_
  rintro e w3 ⟨rfl, H3⟩
  clear H2
  go_wp2_with fail
  refine (unhide H3).mono ?_
  rintro e w4 ⟨rfl, H4⟩
  clear H3
  go_wp2_with fail
  refine (unhide H4).mono ?_
  rintro e w5 ⟨rfl, H5⟩
  clear H4
  go_wp2_with fail
  refine (unhide H5).mono ?_
  rintro e w6 ⟨rfl, H6⟩
  clear H5
  go_wp2_with fail
  refine (unhide H6).mono ?_
  rintro e w7 ⟨rfl, H7⟩
  clear H6
  go_wp2_with fail
  refine (unhide H7).mono ?_
  rintro e w8 ⟨j2, rfl, H8⟩
  clear H7
  go_wp2_with fail
  refine (unhide H8).mono ?_
  rintro e w9 ⟨b, rfl, H9⟩
  clear H8
  go_wp2_with fail
  refine (unhide H9).mono ?_
  rintro e w10 ⟨rfl, H10⟩
  clear H9
  have HF := hide H10
  clear H10
  go_wp2_with fail
  go_ret
  exact ⟨rfl, unhide HF⟩
end Go.Proofs.YtebcmicmklpflaaGreatDoor
