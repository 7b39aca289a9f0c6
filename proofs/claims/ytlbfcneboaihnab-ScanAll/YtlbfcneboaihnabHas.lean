/- Has, of the document: does a path stand in a list? -/
import Derived.Test.YtlbfcneboaihnabPaths
namespace Go.Proofs.Ytlbfcneboaihnab
open Go.RowKit Go.Great
set_option linter.unusedSimpArgs false
theorem mem_getD {xs : List Ord.S} {p : Ord.S} (h : p ∈ xs) : ∃ j, j < xs.length ∧ xs.getD j [] = p := by
  obtain ⟨j, hj, e⟩ := List.mem_iff_getElem.1 h
  exact ⟨j, hj, by rw [List.getD_eq_getElem?_getD, List.getElem?_eq_getElem hj]; exact e⟩
theorem getD_mem {xs : List Ord.S} {j : Nat} (hj : j < xs.length) : xs.getD j [] ∈ xs := by
  rw [List.getD_eq_getElem?_getD, List.getElem?_eq_getElem hj]; exact List.getElem_mem hj
set_option maxRecDepth 20000 in
set_option maxHeartbeats 1000000 in
theorem has_any (a : Option Addr) (n c : Nat) (xs : List Ord.S) (p : Ord.S) (w : World) (hx : StrsAt w (.slice a n c) xs) (hn : xs.length = n) (hmax : n ≤ 100000000) :
    Calls Try.prog 10 #[.slice a n c, .string ⟨p.toArray⟩] w fun e w' => (∃ q, w' = w.drewN q) ∧ e = .returned (.bool (decide (p ∈ xs))) := by
  have HX : Hid (∀ i, i < n → ∃ g o, a = some ⟨g, o, none⟩ ∧ w.cell? ⟨g, o + i, none⟩ = some (.string ⟨(xs.getD i []).toArray⟩)) := fun i hi => str_at hx hn i hi
  have HN := hide hn
  obtain ⟨z', hz'⟩ : ∃ z', (⟨p.toArray⟩ : ByteArray) = z' := ⟨_, rfl⟩
  have HZ := hide hz'
  rw [hz']
  clear hx hn hz'
  go_enter Try.func10, Try.ntmps10
  go_wp2_with fail
  go_loopw [5] (fun vi wr => ∃ i : Nat, i ≤ n ∧ vi = .int .i64 (i : Int) ∧ (∃ q, wr = w.drewN q) ∧ Hid (∀ j, j < i → xs.getD j [] ≠ p)) (fun vi _ => n - (intOf vi).toNat)
  case atStart => exact ⟨0, by omega, rfl, ⟨0, rfl⟩, fun j h => by omega⟩
  case round =>
    obtain ⟨i, hin, rfl, ⟨q, rfl⟩, hlo⟩ := hrel
    by_cases hlt : i < n
    · obtain ⟨g, o, rfl, hcx⟩ := unhide HX i hlt
      by_cases he : xs.getD i [] = p
      · have HD := hide (decide_eq_true (show p ∈ xs by rw [← he]; exact getD_mem (by rw [unhide HN]; exact hlt)))
        rw [he, unhide HZ] at hcx
        clear he hlo
        go_wp2_with fail
        go_ret
        exact ⟨⟨_, rfl⟩, by rw [unhide HD]; rfl⟩
      · have hne : ((⟨(xs.getD i []).toArray⟩ : ByteArray).toList == z'.toList) = false := toList_ne (fun e => by
          rw [← unhide HZ] at e
          injection e with e
          exact he (by simpa using e))
        have hlo' : Hid (∀ j, j < i + 1 → xs.getD j [] ≠ p) := fun j hj => by
          rcases Nat.lt_or_ge j i with h | h
          · exact unhide hlo j h
          · obtain rfl : j = i := by omega
            exact he
        clear he hlo
        generalize (⟨(xs.getD i []).toArray⟩ : ByteArray) = z at hcx hne
        go_wp2_with fail
        go_roundw
        case rel => exact ⟨i + 1, by omega, by go_num, ⟨_, rfl⟩, hlo'⟩
        case measure => simp [intOf]; try omega
    · obtain rfl : i = n := by omega
      have HD := hide (decide_eq_false (show ¬ p ∈ xs from fun h => by obtain ⟨j, hj, e⟩ := mem_getD h; exact unhide hlo j (by rw [unhide HN] at hj; exact hj) e))
      go_wp2_with fail
      go_ret
      exact ⟨⟨_, rfl⟩, by rw [unhide HD]; rfl⟩
end Go.Proofs.Ytlbfcneboaihnab
