/- PagesReuse: the law's walk. -/
import Derived.Test.YtebcmicmklpflaaGreatDoorAp
import Derived.Test.YtebcmicmklpflaaGreatDoorAl
import Derived.Test.YtebcmicmklpflaaGreatDoorAc
namespace Go.Proofs.YtebcmicmklpflaaGreatDoor
open Go.RowKit Go.Maps
set_option linter.unusedSimpArgs false
set_option maxRecDepth 20000 in
set_option maxHeartbeats 1000000 in
theorem reuse_no (m g : Int) (w : World) (hT : Tab w) (hP : PowAt w) (h : ¬ (1 ≤ m ∧ m ≤ 200 ∧ 0 ≤ g ∧ g < m)) : Calls Tryz.prog 11 #[.int .i64 m, .int .i64 g] w fun e w' => e = .returned (.bool true) ∧ Below w.heap.size w w' := by
  have HK := hide (pknown_ok w hT hP)
  clear hT hP
  by_cases h1 : m < 1
  · have b1 : decide (m < 1) = true := by simpa using h1
    clear h
    go_enter Tryz.func11, Tryz.ntmps11
    go_wp2_with fail
    refine (unhide HK).mono ?_
    rintro e w8 ⟨rfl, HB⟩
    have HB2 := hide HB
    clear HB
    go_wp2_with fail
    go_ret
    exact ⟨rfl, unhide HB2⟩
  · have b1 : decide (m < 1) = false := by simp; omega
    by_cases h2 : 200 < m
    · have b2 : decide (200 < m) = true := by simpa using h2
      clear h h1
      go_enter Tryz.func11, Tryz.ntmps11
      go_wp2_with fail
      refine (unhide HK).mono ?_
      rintro e w8 ⟨rfl, HB⟩
      have HB2 := hide HB
      clear HB
      go_wp2_with fail
      go_ret
      exact ⟨rfl, unhide HB2⟩
    · have b2 : decide (200 < m) = false := by simp; omega
      by_cases h3 : g < 0
      · have b3 : decide (g < 0) = true := by simpa using h3
        clear h h1 h2
        go_enter Tryz.func11, Tryz.ntmps11
        go_wp2_with fail
        refine (unhide HK).mono ?_
        rintro e w8 ⟨rfl, HB⟩
        have HB2 := hide HB
        clear HB
        go_wp2_with fail
        go_ret
        exact ⟨rfl, unhide HB2⟩
      · have b3 : decide (g < 0) = false := by simp; omega
        have h4 : m ≤ g := by omega
        have b4 : decide (m ≤ g) = true := by simpa using h4
        clear h h1 h2 h3
        go_enter Tryz.func11, Tryz.ntmps11
        go_wp2_with fail
        refine (unhide HK).mono ?_
        rintro e w8 ⟨rfl, HB⟩
        have HB2 := hide HB
        clear HB
        go_wp2_with fail
        go_ret
        exact ⟨rfl, unhide HB2⟩
set_option maxRecDepth 20000 in
set_option maxHeartbeats 1000000 in
theorem reuse_yes (N g : Nat) (w : World) (hT : Tab w) (hP : PowAt w) (hN : N ≤ 200) (hg : g < N) : Calls Tryz.prog 11 #[.int .i64 (N : Int), .int .i64 (g : Int)] w fun e w' => e = .returned (.bool true) ∧ Below w.heap.size w w' := by
  have H0 := hide (reuse_start w hT hP)
  have HTP := hide (And.intro hT hP)
  have HN := hide (And.intro hN hg)
  have b1 : decide ((N : Int) < 1) = false := by simp; omega
  have b2 : decide (200 < (N : Int)) = false := by simp; omega
  have b3 : decide ((g : Int) < 0) = false := by simp
  have b4 : decide ((N : Int) ≤ (g : Int)) = false := by simp; omega
  have b5 : decide (N ≤ g) = false := by simp; omega
  clear hT hP hN hg
  go_enter Tryz.func11, Tryz.ntmps11
  go_wp2_with fail
  refine (unhide H0).mono ?_
  rintro e w1 ⟨f, rfl, H1⟩
  clear H0
  go_wp2_with fail
  refine (unhide H1).mono ?_
  rintro e w2 ⟨j, p, rfl, H2⟩
  clear H1
  go_wp2_with fail
  have HT := hide (unhide HTP).1
  go_loopw [9] (fun vi W => ∃ i : Nat, i ≤ N ∧ vi = .int .i64 (i : Int) ∧ Hid (RI w W f j p i)) (fun vi _ => N - (intOf vi).toNat)
  case atStart => exact ⟨0, Nat.zero_le _, rfl, H2⟩
  case round =>
    obtain ⟨i, hi, rfl, HR⟩ := hrel
    by_cases hlt : i < N
    · have HS := hide (RI.step (unhide HT) (unhide HR) (by have := (unhide HN).1; omega))
      have hii : (i : Int) < (N : Int) := by omega
      have hi2 : (i : Int) ≤ 200 := by have := (unhide HN).1; omega
      clear HR
      go_wp2_with fail
      refine (unhide HS).mono ?_
      rintro e w3 ⟨rfl, HS2⟩
      clear HS
      go_wp2_with fail
      refine (unhide HS2).mono ?_
      rintro e w4 ⟨rfl, HR2⟩
      clear HS2
      go_wp2_with fail
      go_roundw
      case rel => exact ⟨i + 1, by omega, by go_num, HR2⟩
      case measure => simp [intOf]; omega
    · obtain rfl : i = N := by omega
      have HF := hide (reuse_fin (unhide HT) (unhide HR) (unhide HN).1 (unhide HN).2)
      clear HR b1 b2 b3 b4 b5
      go_wp2_with fail
      refine (unhide HF).mono ?_
      rintro e w3 ⟨rfl, HA, HB⟩
      clear HF
      go_wp2_with fail
      refine (unhide HA).mono ?_
      rintro e w4 ⟨rfl, hw4⟩
      have hw5 := hw4.symm
      subst hw5
      clear hw4 HA
      go_wp2_with fail
      refine (unhide HB).mono ?_
      rintro e w5 ⟨rfl, HC⟩
      clear HB
      go_wp2_with fail
      refine (unhide HC).mono ?_
      rintro e w6 ⟨a, c, rfl, HD⟩
      clear HC
      go_wp2_with fail
      refine (unhide HD).mono ?_
      rintro e w7 ⟨rfl, HE⟩
      clear HD
      have HK : Hid (Calls Tryz.prog 34 #[] w7 fun e w' => e = .returned (.bool true) ∧ Hid (Below w.heap.size w w')) := by
        obtain ⟨hT, hP⟩ := unhide HTP
        have hb := unhide HE
        exact (pknown_ok w7 (hT.kept (hb.block 0 hT.lt)) (hP.below hb)).mono fun e w' ⟨e1, hb2⟩ => ⟨e1, hb.trans (hb2.mono hb.size)⟩
      go_wp2_with fail
      refine (unhide HK).mono ?_
      rintro e w8 ⟨rfl, HZ⟩
      go_wp2_with fail
      go_ret
      exact ⟨rfl, unhide HZ⟩
theorem reuse_ok (m g : Int) (w : World) (hT : Tab w) (hP : PowAt w) : Calls Tryz.prog 11 #[.int .i64 m, .int .i64 g] w fun e w' => e = .returned (.bool true) ∧ Below w.heap.size w w' := by
  by_cases h : 1 ≤ m ∧ m ≤ 200 ∧ 0 ≤ g ∧ g < m
  · obtain ⟨N, rfl⟩ : ∃ N : Nat, m = N := ⟨m.toNat, by omega⟩
    obtain ⟨n, rfl⟩ : ∃ n : Nat, g = n := ⟨g.toNat, by omega⟩
    exact reuse_yes N n w hT hP (by omega) (by omega)
  · exact reuse_no m g w hT hP h
end Go.Proofs.YtebcmicmklpflaaGreatDoor
