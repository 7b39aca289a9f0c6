/- Which texts are places. -/
import Derived.Test.YthfjofmfiklegaaDoorPlace
import Derived.Test.YthfjofmfiklegaaDoorParts
namespace Go.Proofs.YthfjofmfiklegaaDoor
open Go.RowKit
/-- A text is a place: names with a slash between. -/
def IsPl (s : ByteArray) (l : List ByteArray) : Prop := (∀ n ∈ l, entB n = true) ∧ s = joinB l
theorem isPl_parts {s : ByteArray} {l : List ByteArray} (h : IsPl s l) (h0 : s.size ≠ 0) : l = partsB s := by
  obtain ⟨h1, rfl⟩ := h
  exact (parts_join l (fun e => by subst e; exact h0 rfl) (fun p hp => entB_no (h1 p hp))).symm
set_option maxRecDepth 20000 in
set_option maxHeartbeats 1000000 in
theorem isPlace_any (s : ByteArray) (w : World) (hs : s.size ≤ 1000000) :
    Calls Tryd.prog 37 #[.string s] w fun e w' => Below w.heap.size w w' ∧ ((e = .returned (.bool true) ∧ ∃ l, IsPl s l) ∨ (e = .returned (.bool false) ∧ ∀ l, ¬ IsPl s l)) := by
  by_cases h0 : s.size = 0
  · obtain rfl : s = ⟨#[]⟩ := by
      cases s with
      | mk a => have : a = #[] := Array.eq_empty_of_size_eq_zero h0
                rw [this]
    have HP : Hid (∃ l, IsPl ⟨#[]⟩ l) := ⟨[], fun n hn => by simp at hn, rfl⟩
    go_enter Tryd.func37, Tryd.ntmps37
    go_wp2_with fail
    exact bodyPost_ret (v := .bool true) (by simp [results, Tryd.results37, go_sem]) rfl ⟨((Below.refl _ _).alloc (Nat.le_refl _) _), .inl ⟨rfl, unhide HP⟩⟩
  · have h := place_some (partsB s) w (partsB_ne s) (partsB_no s) (by rw [join_parts]; exact h0) (by rw [join_parts]; exact hs)
    rw [join_parts] at h
    refine h.mono ?_
    rintro e w' ⟨hb, ⟨rfl, hall⟩ | ⟨rfl, x, hx, hxe⟩⟩
    · exact ⟨hb, .inl ⟨rfl, partsB s, hall, (join_parts s).symm⟩⟩
    · refine ⟨hb, .inr ⟨rfl, fun l hl => ?_⟩⟩
      rw [← isPl_parts hl h0] at hx
      rw [hl.1 x hx] at hxe
      cases hxe
end Go.Proofs.YthfjofmfiklegaaDoor
