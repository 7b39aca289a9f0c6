/- paths: two lists of paths. -/
import Derived.Test.YtlbfcneboaihnaaSorts
namespace Go.Proofs.Ytlbfcneboaihnaa
open Go.RowKit Go.Great
set_option linter.unusedSimpArgs false
theorem toList_inj {a b : ByteArray} (h : a.toList = b.toList) : a = b := by
  rw [ByteArray.toList_eq, ByteArray.toList_eq] at h
  exact ByteArray.ext (Array.ext' h)
theorem toList_ne {a b : ByteArray} (h : a ≠ b) : (a.toList == b.toList) = false := by
  rw [beq_eq_false_iff_ne]; exact fun e => h (toList_inj e)
theorem str_at {w : World} {a : Option Addr} {n c : Nat} {Z : List Ord.S} (h : StrsAt w (.slice a n c) Z) (hn : Z.length = n) (i : Nat) (hi : i < n) : ∃ g o, a = some ⟨g, o, none⟩ ∧ w.cell? ⟨g, o + i, none⟩ = some (.string ⟨(Z.getD i []).toArray⟩) := by
  obtain ⟨a', cap, e, _, h⟩ := h
  injection e with e1 e2 e3
  subst e1
  obtain ⟨b, o, ea, _, hc⟩ := h (by omega)
  exact ⟨b, o, ea, hc i (by omega)⟩
theorem strs_eq_of {xs ys : List Ord.S} (hl : xs.length = ys.length) (h : ∀ j, j < xs.length → xs.getD j [] = ys.getD j []) : xs = ys := by
  apply List.ext_getElem hl
  intro i h1 h2
  have := h i h1
  rw [List.getD_eq_getElem?_getD, List.getD_eq_getElem?_getD, List.getElem?_eq_getElem h1, List.getElem?_eq_getElem h2] at this
  exact this
set_option maxRecDepth 20000 in
set_option maxHeartbeats 1000000 in
theorem paths_any (a b : Option Addr) (n m c d : Nat) (xs ys : List Ord.S) (w : World) (hx : StrsAt w (.slice a n c) xs) (hy : StrsAt w (.slice b m d) ys) (hn : xs.length = n) (hm : ys.length = m) (hmax : n ≤ 100000000) (hmax2 : m ≤ 100000000) :
    Calls Try.prog 8 #[.slice a n c, .slice b m d] w fun e w' => (∃ q, w' = w.drewN q) ∧ e = .returned (.bool (decide (xs = ys))) := by
  by_cases hnm : n = m
  case neg =>
    have hD : decide (xs = ys) = false := decide_eq_false (fun e => hnm (by rw [← hn, ← hm, e]))
    have e1 : ((n : Int) == (m : Int)) = false := by rw [beq_eq_false_iff_ne]; omega
    rw [hD]
    clear hx hy hnm hn hm
    go_enter Try.func8, Try.ntmps8
    go_wp2_with fail
    go_ret
    exact ⟨⟨0, rfl⟩, rfl⟩
  case pos =>
  subst hnm
  have HX : Hid (∀ i, i < n → ∃ g o, a = some ⟨g, o, none⟩ ∧ w.cell? ⟨g, o + i, none⟩ = some (.string ⟨(xs.getD i []).toArray⟩)) := fun i hi => str_at hx hn i hi
  have HY : Hid (∀ i, i < n → ∃ g o, b = some ⟨g, o, none⟩ ∧ w.cell? ⟨g, o + i, none⟩ = some (.string ⟨(ys.getD i []).toArray⟩)) := fun i hi => str_at hy hm i hi
  have HN := hide (And.intro hn hm)
  clear hx hy hn hm
  go_enter Try.func8, Try.ntmps8
  go_wp2_with fail
  go_loopw [5] (fun vi wr => ∃ i : Nat, i ≤ n ∧ vi = .int .i64 (i : Int) ∧ (∃ q, wr = w.drewN q) ∧ Hid (∀ j, j < i → xs.getD j [] = ys.getD j [])) (fun vi _ => n - (intOf vi).toNat)
  case atStart => exact ⟨0, by omega, rfl, ⟨0, rfl⟩, fun j h => by omega⟩
  case round =>
    obtain ⟨i, hin, rfl, ⟨q, rfl⟩, hlo⟩ := hrel
    by_cases hlt : i < n
    · obtain ⟨g, o, rfl, hcx⟩ := unhide HX i hlt
      obtain ⟨g', o', rfl, hcy⟩ := unhide HY i hlt
      by_cases he : xs.getD i [] = ys.getD i []
      · rw [← he] at hcy
        have hlo' : Hid (∀ j, j < i + 1 → xs.getD j [] = ys.getD j []) := fun j hj => by
          rcases Nat.lt_or_ge j i with h | h
          · exact unhide hlo j h
          · obtain rfl : j = i := by omega
            exact he
        clear he hlo
        generalize (⟨(xs.getD i []).toArray⟩ : ByteArray) = z at hcx hcy
        go_wp2_with fail
        go_quiet (fail)
        go_wp2_with fail
        go_roundw
        case rel => exact ⟨i + 1, by omega, by go_num, ⟨_, rfl⟩, hlo'⟩
        case measure => simp [intOf]; try omega
      · have hne : ((⟨(xs.getD i []).toArray⟩ : ByteArray).toList == (⟨(ys.getD i []).toArray⟩ : ByteArray).toList) = false := toList_ne (fun e => by
          injection e with e
          exact he (by simpa using e))
        have hD : decide (xs = ys) = false := decide_eq_false (fun e => he (by rw [e]))
        have HD := hide hD
        clear he hD hlo
        generalize (⟨(xs.getD i []).toArray⟩ : ByteArray) = z at hcx hne
        generalize (⟨(ys.getD i []).toArray⟩ : ByteArray) = z' at hcy hne
        go_wp2_with fail
        go_quiet (fail)
        go_wp2_with fail
        go_ret
        exact ⟨⟨_, World.drewN_drewN _ _ _⟩, by rw [unhide HD]; rfl⟩
    · obtain rfl : i = n := by omega
      have hD : decide (xs = ys) = true := decide_eq_true (strs_eq_of (by rw [(unhide HN).1, (unhide HN).2]) (fun j hj => unhide hlo j (by rw [(unhide HN).1] at hj; exact hj)))
      have HD := hide hD
      clear hD
      go_wp2_with fail
      go_ret
      exact ⟨⟨_, rfl⟩, by rw [unhide HD]; rfl⟩
end Go.Proofs.Ytlbfcneboaihnaa
