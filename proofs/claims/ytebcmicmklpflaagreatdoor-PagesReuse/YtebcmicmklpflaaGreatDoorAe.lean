/- same of the pages' law: two rows of bytes. -/
import Derived.Test.YtebcmicmklpflaaGreatDoorK12
namespace Go.Proofs.YtebcmicmklpflaaGreatDoor
open Go.RowKit Go.Maps
set_option linter.unusedSimpArgs false
set_option maxRecDepth 20000 in
set_option maxHeartbeats 1000000 in
theorem same9 (hi hj : Nat) (a b : Option Addr) (n m c d : Nat) (xs ys : List UInt8) (w : World) (hx : Row hi w (.slice a n c) xs) (hy : Row hj w (.slice b m d) ys) (hn : xs.length = n) (hm : ys.length = m) (hmax : n ≤ 100000000) (hmax2 : m ≤ 100000000) :
    Calls Tryz.prog 74 #[.slice a n c, .slice b m d] w fun e w' => (∃ q, w' = w.drewN q) ∧ e = .returned (.bool (decide (xs = ys))) := by
  by_cases hnm : n = m
  case neg =>
    have hD : decide (xs = ys) = false := decide_eq_false (fun e => hnm (by rw [← hn, ← hm, e]))
    have e1 : ((n : Int) == (m : Int)) = false := by rw [beq_eq_false_iff_ne]; omega
    rw [hD]
    clear hx hy hnm hn hm
    go_enter Tryz.func74, Tryz.ntmps74
    go_wp2_with fail
    go_ret
    exact ⟨⟨0, rfl⟩, rfl⟩
  case pos =>
  subst hnm
  have HX : Hid (∀ i, i < n → ∃ g o, a = some ⟨g, o, none⟩ ∧ w.cell? ⟨g, o + i, none⟩ = some (.int .u8 (((xs.getD i 0).toNat : Nat) : Int))) := fun i hi => hx.at hn i hi
  have HY : Hid (∀ i, i < n → ∃ g o, b = some ⟨g, o, none⟩ ∧ w.cell? ⟨g, o + i, none⟩ = some (.int .u8 (((ys.getD i 0).toNat : Nat) : Int))) := fun i hi => hy.at hm i hi
  have HN := hide (And.intro hn hm)
  clear hx hy hn hm
  go_enter Tryz.func74, Tryz.ntmps74
  go_wp2_with fail
  go_loopw [5] (fun vi wr => ∃ i : Nat, i ≤ n ∧ vi = .int .i64 (i : Int) ∧ (∃ q, wr = w.drewN q) ∧ Hid (∀ j, j < i → (xs.getD j 0).toNat = (ys.getD j 0).toNat)) (fun vi _ => n - (intOf vi).toNat)
  case atStart => exact ⟨0, by omega, rfl, ⟨0, rfl⟩, fun j h => by omega⟩
  case round =>
    obtain ⟨i, hin, rfl, ⟨q, rfl⟩, hlo⟩ := hrel
    by_cases hlt : i < n
    · obtain ⟨g, o, rfl, hcx⟩ := unhide HX i hlt
      obtain ⟨g', o', rfl, hcy⟩ := unhide HY i hlt
      by_cases he : (xs.getD i 0).toNat = (ys.getD i 0).toNat
      · rw [← he] at hcy
        have hlo' : Hid (∀ j, j < i + 1 → (xs.getD j 0).toNat = (ys.getD j 0).toNat) := fun j hj => by
          rcases Nat.lt_or_ge j i with h | h
          · exact unhide hlo j h
          · obtain rfl : j = i := by omega
            exact he
        clear he hlo
        generalize (xs.getD i 0).toNat = z at hcx hcy
        go_wp2_with fail
        go_quiet (fail)
        go_wp2_with fail
        go_roundw
        case rel => exact ⟨i + 1, by omega, by go_num, ⟨_, rfl⟩, hlo'⟩
        case measure => simp [intOf]; try omega
      · have hne : ((((xs.getD i 0).toNat : Nat) : Int) == (((ys.getD i 0).toNat : Nat) : Int)) = false := by
          rw [beq_eq_false_iff_ne]; omega
        have hD : decide (xs = ys) = false := decide_eq_false (fun e => he (by rw [e]))
        have HD := hide hD
        clear he hlo hD
        generalize (xs.getD i 0).toNat = z at hcx hne
        generalize (ys.getD i 0).toNat = z' at hcy hne
        go_wp2_with fail
        go_quiet (fail)
        go_wp2_with fail
        go_ret
        exact ⟨⟨_, World.drewN_drewN _ _ _⟩, by rw [unhide HD]; rfl⟩
    · obtain rfl : i = n := by omega
      have hD : decide (xs = ys) = true := decide_eq_true (bytes_eq_of ((unhide HN).1.trans (unhide HN).2.symm) (fun j hj => unhide hlo j (by have := (unhide HN).1; omega)))
      have HD := hide hD
      clear hD
      go_wp2_with fail
      go_ret
      exact ⟨⟨_, rfl⟩, by rw [unhide HD]; rfl⟩
end Go.Proofs.YtebcmicmklpflaaGreatDoor
