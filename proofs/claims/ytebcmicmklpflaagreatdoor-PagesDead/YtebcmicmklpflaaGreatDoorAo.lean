/- PagesDead: the law's walk. -/
import Derived.Test.YtebcmicmklpflaaGreatDoorAn
import Derived.Test.YtebcmicmklpflaaGreatDoorAl
import Derived.Test.YtebcmicmklpflaaGreatDoorAc
namespace Go.Proofs.YtebcmicmklpflaaGreatDoor
open Go.RowKit Go.Maps
set_option linter.unusedSimpArgs false
set_option maxRecDepth 20000 in
set_option maxHeartbeats 1000000 in
theorem pdead_ok (a : Option Addr) (c : Nat) (d : List UInt8) (w : World) (hrow : Row w.heap.size w (.slice a d.length c) d) (hT : Tab w) (hP : PowAt w) : Calls Tryz.prog 10 #[.slice a d.length c] w fun e w' => e = .returned (.bool true) ∧ Below w.heap.size w w' := by
  by_cases hd : d.length ≤ 512
  · have H0 := hide (pdead_pre a c d w hrow hd hT hP)
    have HTP := hide (And.intro hT hP)
    clear hrow hT hP
    have hn : (d.length : Int) ≤ 512 := by omega
    generalize d.length = n at *
    clear hd
    go_enter Tryz.func10, Tryz.ntmps10
    go_wp2_with fail
    refine (unhide H0).mono ?_
    rintro e w1 ⟨f, rfl, H1⟩
    clear H0
    go_wp2_with fail
    refine (unhide H1).mono ?_
    rintro e w2 ⟨p, rfl, H2⟩
    clear H1
    go_wp2_with fail
    refine (unhide H2).mono ?_
    rintro e w3 ⟨rfl, H3⟩
    clear H2
    go_wp2_with fail
    refine (unhide H3).mono ?_
    rintro e w4 ⟨rfl, H4⟩
    clear H3
    go_wp2_with fail
    refine (unhide H4).mono ?_
    rintro e w5 ⟨rfl, H5⟩
    clear H4
    go_wp2_with fail
    refine (unhide H5).mono ?_
    rintro e w6 ⟨rfl, H6⟩
    clear H5
    go_wp2_with fail
    refine (unhide H6).mono ?_
    rintro e w7 ⟨rfl, H7⟩
    clear H6
    have HN := hide (pnew_dead p w7 (unhide H7).1)
    have HA := hide (pput_dead p 0 a n c w7 (unhide H7).1)
    have HF := hide (pfree_dead p 0 w7 (unhide H7).1)
    have HC := hide (pcommit_dead p w7 (unhide H7).1)
    have HK : Hid (Calls Tryz.prog 34 #[] w7 fun e w' => e = .returned (.bool true) ∧ Hid (Below w.heap.size w w')) := by
      obtain ⟨hT, hP⟩ := unhide HTP
      have hb := (unhide H7).2
      exact (pknown_ok w7 (hT.kept (hb.block 0 hT.lt)) (hP.below hb)).mono fun e w' ⟨e1, hb2⟩ => ⟨e1, hb.trans (hb2.mono hb.size)⟩
    go_wp2_with fail
    refine (unhide HN).mono ?_
    rintro e w' ⟨rfl, rfl⟩
    go_wp2_with fail
    refine (unhide HA).mono ?_
    rintro e w' ⟨rfl, rfl⟩
    go_wp2_with fail
    refine (unhide HF).mono ?_
    rintro e w' ⟨rfl, rfl⟩
    go_wp2_with fail
    refine (unhide HC).mono ?_
    rintro e w' ⟨rfl, rfl⟩
    go_wp2_with fail
    refine (unhide HK).mono ?_
    rintro e w8 ⟨rfl, HB⟩
    go_wp2_with fail
    go_ret
    exact ⟨rfl, unhide HB⟩
  · have hn : ¬ ((d.length : Int) ≤ 512) := by omega
    have HB := hide (Below.refl w.heap.size w)
    clear hrow hd hT hP
    generalize d.length = n at *
    go_enter Tryz.func10, Tryz.ntmps10
    go_wp2_with fail
    go_ret
    exact ⟨rfl, unhide HB⟩
end Go.Proofs.YtebcmicmklpflaaGreatDoor
