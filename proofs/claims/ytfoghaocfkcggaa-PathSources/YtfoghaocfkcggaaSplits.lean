/- Split of any text, in the code and in the document's own answer: the law's walk. -/
import Derived.Test.YtfoghaocfkcggaaSplit
import Derived.Test.YtfoghaocfkcggaaKnown
namespace Go.Proofs.Ytfoghaocfkcggaa
open Go.RowKit Go.Great
theorem split_both (p : List Nat) (hb : Sha.Bytes p) (hm : p.length ≤ 281474976710656) : ∃ d n : ByteArray, ∃ x : Int,
    (∀ w, Calls Try.prog 13 #[.string (strOf p)] w fun e w' => e = .returned (.tuple #[.string d, .string n, .int .i64 x]) ∧ Below w.heap.size w w') ∧
    (∀ w, Calls Try.prog 14 #[.string (strOf p)] w fun e w' => e = .returned (.tuple #[.string d, .string n, .int .i64 x]) ∧ Below w.heap.size w w') := by
  by_cases h : Sha.isPth p
  · refine ⟨strOf (p.take 32), strOf (p.drop 33), 0, fun w => (split_any p w hb hm).mono fun e w' h' => ?_, fun w => (splitRef_any p w hb hm).mono fun e w' h' => ?_⟩
    · rcases h' with ⟨hbl, ⟨_, he⟩ | ⟨hn, _⟩⟩
      · exact ⟨he, hbl⟩
      · exact absurd h hn
    · rcases h' with ⟨hbl, ⟨_, he⟩ | ⟨hn, _⟩⟩
      · exact ⟨he, hbl⟩
      · exact absurd h hn
  · refine ⟨⟨#[]⟩, ⟨#[]⟩, 3, fun w => (split_any p w hb hm).mono fun e w' h' => ?_, fun w => (splitRef_any p w hb hm).mono fun e w' h' => ?_⟩
    · rcases h' with ⟨hbl, ⟨hn, _⟩ | ⟨_, he⟩⟩
      · exact absurd hn h
      · exact ⟨he, hbl⟩
    · rcases h' with ⟨hbl, ⟨hn, _⟩ | ⟨_, he⟩⟩
      · exact absurd hn h
      · exact ⟨he, hbl⟩
set_option maxRecDepth 20000 in
set_option maxHeartbeats 1000000 in
theorem splits_walk (W : World) (s : ByteArray) (_ : s.size ≤ 9223372036854775807) : Calls Try.prog 5 #[.string s] W fun e w' => e = .returned (.bool true) ∧ Below W.heap.size W w' := by
  by_cases hl : s.size ≤ 600
  · have hl' : ¬ (600 < s.size) := by omega
    obtain ⟨d, n, x, h1, h2⟩ := split_both (bytesOf s) (bytesOf_bytes s) (by rw [bytesOf_length]; omega)
    rw [strOf_bytesOf] at h1 h2
    have H1 := hide h1
    have H2 := hide h2
    clear h1 h2
    go_enter Try.func5, Try.ntmps5
    have hq1 : ∀ a : ByteArray, (a.toList == a.toList) = true := fun a => by simp
    have hq2 : (x == x) = true := by simp
    go_wp2_with fail
    refine (unhide H1 _).mono ?_
    rintro e w1 ⟨rfl, hb1⟩
    go_wp2_with fail
    refine (unhide H2 _).mono ?_
    rintro e w2 ⟨rfl, hb2⟩
    have hbl2 : Below W.heap.size W w2 := hb1.trans (hb2.mono hb1.size)
    clear hb1 hb2
    go_wp2_with fail
    refine (known_any _).mono ?_
    rintro e w3 ⟨rfl, hb3⟩
    have hbl3 : Below W.heap.size W w3 := hbl2.trans (hb3.mono hbl2.size)
    go_wp2
    go_ret
    exact ⟨rfl, hbl3⟩
  · go_enter Try.func5, Try.ntmps5
    go_wp2
    go_ret
    exact ⟨rfl, Below.refl _ _⟩
end Go.Proofs.Ytfoghaocfkcggaa
