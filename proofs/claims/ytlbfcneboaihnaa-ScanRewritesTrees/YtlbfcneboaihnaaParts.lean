/- ScanParts: what stands in a part stands in the whole: the law's walk. -/
import Derived.Test.YtlbfcneboaihnaaKn
import Derived.Test.YtlbfcneboaihnaaHas
import Derived.Test.YtlbfcneboaihnaaK2
namespace Go.Proofs.Ytlbfcneboaihnaa
open Go.RowKit Go.Great Go.ChangeMaps Go.MapKept
set_option linter.unusedSimpArgs false
theorem ownB_new (w : World) : OwnB (w.alloc (.cells #[] 5)) w.heap.size (.slice (some ⟨w.heap.size, 0, none⟩) 0 0) [] :=
  ⟨w.heap.size, [], rfl, Nat.le_refl _, heap_alloc_last w _⟩
theorem app_bytes (w : World) (base : Nat) (v : Value) (L : List Nat) (a : Option Addr) (n c : Nat) (m : List Nat) (ho : OwnB w base v L) (hs : BytesAt w (.slice a n c) m) (hn : m.length = n) (hmax : L.length + n ≤ 1000000) :
    ∃ v' w', (∀ ty, (app52 ty #[v, .slice a n c]).run Try.prog w = .ok v' w') ∧ OwnB w' base v' (L ++ m) ∧ Below base w w' ∧ w.heap.size ≤ w'.heap.size := by
  subst hn
  by_cases h0 : 0 < m.length
  · exact app_own w base v L a m c ho hs h0 hmax
  · obtain rfl : m = [] := List.eq_nil_of_length_eq_zero (by omega)
    have ho' := ho
    obtain ⟨g, R, rfl, hg, hh⟩ := ho
    refine ⟨_, w, fun ty => app_none w _ _ _ _ _ (by simp) ty, by rw [List.append_nil]; exact ho', Below.refl _ _, Nat.le_refl _⟩
theorem OwnB.at {w : World} {base : Nat} {v : Value} {L : List Nat} (h : OwnB w base v L) : ∃ a c, v = .slice a L.length c ∧ BytesAt w (.slice a L.length c) L := by
  obtain ⟨g, R, rfl, hg, hh⟩ := h
  refine ⟨_, _, rfl, bytesAt_row w g (L ++ R) L L.length _ (by simp [rowOf, hh]) ?_ (by simp) (by simp) (by simp)⟩
  exact (Array.getElem?_eq_some_iff.1 hh).1
theorem StrsAt.form {w : World} {v : Value} {Z : List Ord.S} (h : StrsAt w v Z) : ∃ a c, v = .slice a Z.length c := by obtain ⟨a, c, e, _⟩ := h; exact ⟨a, c, e⟩
end Go.Proofs.Ytlbfcneboaihnaa
