/- The law's own helpers: same, roomy, stands. -/
import Derived.Test.YtlbfcneboaihnaaGreatDoorOwnr
namespace Go.Proofs.YtlbfcneboaihnaaGreatDoor
open Go.RowKit Go.Great
set_option linter.unusedSimpArgs false
theorem nats_eq_of {xs ys : List Nat} (hl : xs.length = ys.length) (h : ∀ j, j < xs.length → xs.getD j 0 = ys.getD j 0) : xs = ys := by
  apply List.ext_getElem hl
  intro i h1 h2
  have := h i h1
  rw [List.getD_eq_getElem?_getD, List.getD_eq_getElem?_getD, List.getElem?_eq_getElem h1, List.getElem?_eq_getElem h2] at this
  exact this
theorem byte_at {w : World} {a : Option Addr} {n c : Nat} {B : List Nat} (h : BytesAt w (.slice a n c) B) (hn : B.length = n) (i : Nat) (hi : i < n) : ∃ g o, a = some ⟨g, o, none⟩ ∧ w.cell? ⟨g, o + i, none⟩ = some (.int .u8 ((B.getD i 0 : Nat) : Int)) := by
  obtain ⟨g, o, e, h⟩ := bytes_at h hn i hi
  exact ⟨g, o, e, by rw [h, nth_getD]⟩
set_option maxRecDepth 20000 in
set_option maxHeartbeats 1000000 in
theorem same_any (a b : Option Addr) (n m c d : Nat) (xs ys : List Nat) (w : World) (hx : BytesAt w (.slice a n c) xs) (hy : BytesAt w (.slice b m d) ys) (hn : xs.length = n) (hm : ys.length = m) (hmax : n ≤ 100000000) (hmax2 : m ≤ 100000000) :
    Calls Tryz.prog 11 #[.slice a n c, .slice b m d] w fun e w' => (∃ q, w' = w.drewN q) ∧ e = .returned (.bool (decide (xs = ys))) := by
  by_cases hnm : n = m
  case neg =>
    have hD : decide (xs = ys) = false := decide_eq_false (fun e => hnm (by rw [← hn, ← hm, e]))
    have e1 : ((n : Int) == (m : Int)) = false := by rw [beq_eq_false_iff_ne]; omega
    rw [hD]
    clear hx hy hnm hn hm
    go_enter Tryz.func11, Tryz.ntmps11
    go_wp2_with fail
    go_ret
    exact ⟨⟨0, rfl⟩, rfl⟩
  case pos =>
  subst hnm
  have HX : Hid (∀ i, i < n → ∃ g o, a = some ⟨g, o, none⟩ ∧ w.cell? ⟨g, o + i, none⟩ = some (.int .u8 ((xs.getD i 0 : Nat) : Int))) := fun i hi => byte_at hx hn i hi
  have HY : Hid (∀ i, i < n → ∃ g o, b = some ⟨g, o, none⟩ ∧ w.cell? ⟨g, o + i, none⟩ = some (.int .u8 ((ys.getD i 0 : Nat) : Int))) := fun i hi => byte_at hy hm i hi
  have HN := hide (And.intro hn hm)
  clear hx hy hn hm
  go_enter Tryz.func11, Tryz.ntmps11
  go_wp2_with fail
  go_loopw [5] (fun vi wr => ∃ i : Nat, i ≤ n ∧ vi = .int .i64 (i : Int) ∧ (∃ q, wr = w.drewN q) ∧ Hid (∀ j, j < i → xs.getD j 0 = ys.getD j 0)) (fun vi _ => n - (intOf vi).toNat)
  case atStart => exact ⟨0, by omega, rfl, ⟨0, rfl⟩, fun j h => by omega⟩
  case round =>
    obtain ⟨i, hin, rfl, ⟨q, rfl⟩, hlo⟩ := hrel
    by_cases hlt : i < n
    · obtain ⟨g, o, rfl, hcx⟩ := unhide HX i hlt
      obtain ⟨g', o', rfl, hcy⟩ := unhide HY i hlt
      by_cases he : xs.getD i 0 = ys.getD i 0
      · rw [← he] at hcy
        have hlo' : Hid (∀ j, j < i + 1 → xs.getD j 0 = ys.getD j 0) := fun j hj => by
          rcases Nat.lt_or_ge j i with h | h
          · exact unhide hlo j h
          · obtain rfl : j = i := by omega
            exact he
        clear he hlo
        generalize xs.getD i 0 = z at hcx hcy
        go_wp2_with fail
        go_quiet (fail)
        go_wp2_with fail
        go_roundw
        case rel => exact ⟨i + 1, by omega, by go_num, ⟨_, rfl⟩, hlo'⟩
        case measure => simp [intOf]; try omega
      · have hne : (((xs.getD i 0 : Nat) : Int) == ((ys.getD i 0 : Nat) : Int)) = false := by
          rw [beq_eq_false_iff_ne]; omega
        have hD : decide (xs = ys) = false := decide_eq_false (fun e => he (by rw [e]))
        have HD := hide hD
        clear he hD hlo
        generalize xs.getD i 0 = z at hcx hne
        generalize ys.getD i 0 = z' at hcy hne
        go_wp2_with fail
        go_quiet (fail)
        go_wp2_with fail
        go_ret
        exact ⟨⟨_, World.drewN_drewN _ _ _⟩, by rw [unhide HD]; rfl⟩
    · obtain rfl : i = n := by omega
      have hD : decide (xs = ys) = true := decide_eq_true (nats_eq_of (by rw [(unhide HN).1, (unhide HN).2]) (fun j hj => unhide hlo j (by rw [(unhide HN).1] at hj; exact hj)))
      have HD := hide hD
      clear hD
      go_wp2_with fail
      go_ret
      exact ⟨⟨_, rfl⟩, by rw [unhide HD]; rfl⟩
/-- The bytes ahead of the mark. -/
theorem roomy_at {w : World} {q c n : Nat} {b R : List Nat} (hh : w.heap[q]? = some (.cells (E8 (b ++ [171, 171] ++ R)) 5 (0, 0))) (hn : b.length = n) (hc : n + 1 ≤ c) : BytesAt w (.slice (some ⟨q, 0, none⟩) n c) b := by
  subst hn
  refine bytesAt_row w q (b ++ [171, 171] ++ R) b b.length c (by simp [rowOf, hh]) (Array.getElem?_eq_some_iff.1 hh).1 (by simp) (by omega) (by simp)
theorem roomy_mark {w : World} {q n : Nat} {b R : List Nat} (hh : w.heap[q]? = some (.cells (E8 (b ++ [171, 171] ++ R)) 5 (0, 0))) (hn : b.length = n) : w.cell? ⟨q, n, none⟩ = some (.int .u8 171) := by
  subst hn
  rw [cell_of_row w q b.length _ 5 _ hh, E8_get _ _ (by simp)]
  simp [Sha.nth]
end Go.Proofs.YtlbfcneboaihnaaGreatDoor
