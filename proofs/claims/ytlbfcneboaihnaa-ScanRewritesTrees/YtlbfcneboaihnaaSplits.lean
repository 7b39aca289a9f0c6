/- Split of any text, in the code and in the document's own answer: the law's walk. -/
import Derived.Test.YtlbfcneboaihnaaK6
import Derived.Test.YtlbfcneboaihnaaKnown
namespace Go.Proofs.Ytlbfcneboaihnaa
open Go.RowKit Go.Great
theorem split_both (p : List Nat) (hb : Sha.Bytes p) (hm : p.length ≤ 281474976710656) : ∃ d n : ByteArray, ∃ x : Int,
    (∀ w, Calls Try.prog 41 #[.string (strOf p)] w fun e w' => e = .returned (.tuple #[.string d, .string n, .int .i64 x]) ∧ Below w.heap.size w w') ∧
    (∀ w, Calls Try.prog 27 #[.string (strOf p)] w fun e w' => e = .returned (.tuple #[.string d, .string n, .int .i64 x]) ∧ Below w.heap.size w w') := by
  by_cases h : Sha.isPth p
  · refine ⟨strOf (p.take 32), strOf (p.drop 33), 0, fun w => (split_any p w hb hm).mono fun e w' h' => ?_, fun w => (splitRef_any p w hb hm).mono fun e w' h' => ?_⟩
    · rcases h' with ⟨hbl, ⟨_, he⟩ | ⟨hn, _⟩⟩
      · exact ⟨he, hbl⟩
      · exact absurd h hn
    · rcases h' with ⟨hbl, ⟨_, he⟩ | ⟨hn, _⟩⟩
      · exact ⟨he, hbl⟩
      · exact absurd h hn
  · refine ⟨⟨#[]⟩, ⟨#[]⟩, 3, fun w => (split_any p w hb hm).mono fun e w' h' => ?_, fun w => (splitRef_any p w hb hm).mono fun e w' h' => ?_⟩
    · rcases h' with ⟨hbl, ⟨hn, _⟩ | ⟨_, he⟩⟩
      · exact absurd hn h
      · exact ⟨he, hbl⟩
    · rcases h' with ⟨hbl, ⟨hn, _⟩ | ⟨_, he⟩⟩
      · exact absurd hn h
      · exact ⟨he, hbl⟩
end Go.Proofs.Ytlbfcneboaihnaa
