/- The document's own Sum: the padded row, block by block. -/
import Derived.Test.YtlbfcneboaihnaaBlk
import Derived.Test.YtlbfcneboaihnaaK2
namespace Go.Proofs.Ytlbfcneboaihnaa
namespace Sha
/-- How many noughts stand behind the mark. -/
def gap (n : Nat) : Nat := endOf (n % 64) - 9 - n % 64
theorem gap_lt (n : Nat) : gap n < 64 := by
  unfold gap; have := endOf_cases (n % 64); omega
theorem gap_at (n k : Nat) (h : k ≤ gap n) : (n + 1 + k) % 64 = 56 ↔ k = gap n := by
  unfold gap at h ⊢; have := endOf_cases (n % 64); omega
/-- The padded row. -/
def padded (b : List Nat) : List Nat := b ++ [128] ++ List.replicate (gap b.length) 0 ++ count (8 * b.length)
theorem padded_length (b : List Nat) : (padded b).length = 64 * (b.length / 64 + endOf (b.length % 64) / 64) := by
  unfold padded gap
  have := endOf_cases (b.length % 64)
  simp [count]; omega
theorem padded_bytes {b : List Nat} (h : Bytes b) : Bytes (padded b) :=
  ((h.append (Bytes.one (by omega))).append (Bytes.rep _)).append (count_bytes _)
theorem sum_padded (b : List Nat) : out (blocks start (padded b) (b.length / 64 + endOf (b.length % 64) / 64)) = sum b := by
  have hq : (b.take (b.length - b.length % 64)).length = 64 * (b.length / 64) := by rw [List.length_take]; omega
  have hr : (b.drop (b.length - b.length % 64)).length = b.length % 64 := by rw [List.length_drop]; omega
  unfold sum sumBehind
  rw [← blocks_append start (b.take (b.length - b.length % 64)) _ (b.length / 64) _ hq]
  congr 2
  unfold tail padded gap
  rw [hr, Nat.zero_add]
  simp only [← List.append_assoc]
  rw [List.take_append_drop]
theorem count_take (c J : Nat) (h : J < 8) : (count c).take (8 - J) = (count c).take (8 - (J + 1)) ++ [c / 2 ^ (8 * J) % 256] := by
  match J, h with
  | 0, _ => simp [count]
  | 1, _ => rfl
  | 2, _ => rfl
  | 3, _ => rfl
  | 4, _ => rfl
  | 5, _ => rfl
  | 6, _ => rfl
  | 7, _ => rfl
end Sha
open Go.RowKit Go.Great
attribute [local go_sem] f_8 f_1024 f_hi4 f_lo4
theorem OwnB.below' {w w' : World} {base : Nat} {v : Value} {L : List Nat} (h : OwnB w base v L) (hb : Below w.heap.size w w') : OwnB w' base v L := by
  obtain ⟨g, R, rfl, hg, hh⟩ := h
  exact ⟨g, R, rfl, hg, by rw [hb.block g (Array.getElem?_eq_some_iff.1 hh).1]; exact hh⟩
theorem OwnB.bytesAt2 {w : World} {base : Nat} {v : Value} {L : List Nat} (h : OwnB w base v L) : BytesAt w v L := by
  obtain ⟨g, R, rfl, hg, hh⟩ := h
  exact bytesAt_row w g (L ++ R) L _ _ (by unfold rowOf; rw [hh]) (Array.getElem?_eq_some_iff.1 hh).1 (by simp) (by simp) (List.take_left' rfl)
theorem shr_byte (c J : Nat) (hJ : J < 8) (hc : c < 18446744073709551616) : ((c : Int) / 2 ^ (8 * J)) % 256 = ((c / 2 ^ (8 * J) % 256 : Nat) : Int) := by
  have _ := hJ
  have _ := hc
  have e : ((c : Int) / 2 ^ (8 * J)) = ((c / 2 ^ (8 * J) : Nat) : Int) := by push_cast; rfl
  rw [e]; omega
theorem app_first (w : World) (base : Nat) (a : Option Addr) (b : List Nat) (cap : Nat) (hbase : base = w.heap.size) (hv : BytesAt w (.slice a b.length cap) b) (hmax : b.length ≤ 200000) :
    ∃ v' w', (∀ ty, (app52 ty #[.slice (some ⟨w.heap.size, 0, none⟩) 0 0, .slice a b.length cap]).run Try.prog (w.alloc (.cells #[] 5)) = .ok v' w') ∧ OwnB w' base v' b ∧ Below base w w' ∧ w.heap.size + 1 ≤ w'.heap.size := by
  subst hbase
  have hb0 : Below w.heap.size w (w.alloc (.cells #[] 5)) := (Below.refl _ _).alloc (Nat.le_refl _) _
  by_cases h0 : 0 < b.length
  · obtain ⟨v1, w1, hr1, ho1, hbl1, hz1⟩ := app_own (w.alloc (.cells #[] 5)) w.heap.size (.slice (some ⟨w.heap.size, 0, none⟩) 0 0) [] a b cap ⟨w.heap.size, [], rfl, Nat.le_refl _, heap_alloc_last w _⟩ (hv.below hb0) h0 (by simp; omega)
    exact ⟨v1, w1, hr1, by simpa using ho1, hb0.trans hbl1, by simpa using hz1⟩
  · obtain rfl : b = [] := List.eq_nil_of_length_eq_zero (by omega)
    exact ⟨_, _, app_none (w.alloc (.cells #[] 5)) (some ⟨w.heap.size, 0, none⟩) a 0 0 cap (Nat.le_refl _), ⟨w.heap.size, [], rfl, Nat.le_refl _, heap_alloc_last w _⟩, hb0, by simp⟩
def lenV : Value → Nat
  | .slice _ l _ => l
  | _ => 0
theorem OwnB.len {w : World} {base : Nat} {v : Value} {L : List Nat} (h : OwnB w base v L) : lenV v = L.length := by
  obtain ⟨g, R, rfl, hg, hh⟩ := h; rfl
end Go.Proofs.Ytlbfcneboaihnaa
