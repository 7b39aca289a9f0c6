/- Make of any kind, digest and name, in the code and in the document's own answer, and Split of what it makes: the law's walk. -/
import Derived.Test.YtlbfcneboaihnaaSplits
namespace Go.Proofs.Ytlbfcneboaihnaa
open Go.RowKit Go.Great
theorem pathOf_take (k l n : List Nat) : ∃ F : List Nat, F.length = 20 ∧ Sha.Bytes F ∧ (Sha.pathOf k l n).take 32 = Sha.textOf F ∧ (Sha.pathOf k l n).drop 33 = n ∧ Sha.pathOf k l n = Sha.textOf F ++ [45] ++ n := by
  have hl : (foldTo (Sha.sum (Sha.inside k l n)) 32).length = 20 := foldTo_length _ _
  have hb : Sha.Bytes (foldTo (Sha.sum (Sha.inside k l n)) 32) := foldTo_bytes _ (Sha.sumBehind_bytes _ _ _) _
  have he : Sha.pathOf k l n = Sha.textOf (foldTo (Sha.sum (Sha.inside k l n)) 32) ++ [45] ++ n := rfl
  generalize foldTo (Sha.sum (Sha.inside k l n)) 32 = F at *
  have ht : (Sha.textOf F).length = 32 := by rw [Sha.textOf_length, hl]; rfl
  refine ⟨F, hl, hb, ?_, ?_, he⟩
  · rw [he, List.append_assoc, List.take_left' ht]
  · rw [he, List.drop_left' (by simp [ht])]
theorem isPth_pathOf {k l n : List Nat} (hn : Sha.isNm n = true) : Sha.isPth (Sha.pathOf k l n) := by
  obtain ⟨F, hl, hb, h1, h2, he⟩ := pathOf_take k l n
  have ht : (Sha.textOf F).length = 32 := by rw [Sha.textOf_length, hl]; rfl
  refine ⟨by rw [pathOf_length]; omega, ?_, by rw [h2]; exact hn, by rw [h1, ← hl]; exact Sha.good_text hb⟩
  rw [he, List.append_assoc, Sha.nth_append_right (by omega), ht]
  rfl
theorem split_made (k l n : List Nat) (hnb : Sha.Bytes n) (hn : Sha.isNm n = true) : ∃ d : List Nat, d.length = 32 ∧ strOf d ++ ⟨#[45]⟩ ++ strOf n = strOf (Sha.pathOf k l n) ∧
    ∀ w, Calls Try.prog 41 #[.string (strOf (Sha.pathOf k l n))] w fun e w' => e = .returned (.tuple #[.string (strOf d), .string (strOf n), .int .i64 0]) ∧ Below w.heap.size w w' := by
  obtain ⟨F, hl, hb, h1, h2, he⟩ := pathOf_take k l n
  have hm := isNm_len hn
  refine ⟨Sha.textOf F, by rw [Sha.textOf_length, hl]; rfl, by rw [he, hyphen, strOf_append, strOf_append], fun w => ?_⟩
  refine (split_any _ w (pathOf_bytes hnb) (by rw [pathOf_length]; omega)).mono fun e w' h => ?_
  rcases h with ⟨hbl, ⟨_, h⟩ | ⟨h, _⟩⟩
  · refine ⟨?_, hbl⟩
    rw [h]; unfold splitV; rw [h1, h2]; rfl
  · exact absurd (isPth_pathOf hn) h
end Go.Proofs.Ytlbfcneboaihnaa
