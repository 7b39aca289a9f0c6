/- Make of any kind, digest and name, in the code and in the document's own answer, and Split of what it makes: the law's walk. -/
import Derived.Test.YtfoghaocfkcggaaSplits
namespace Go.Proofs.Ytfoghaocfkcggaa
open Go.RowKit Go.Great
theorem pathOf_take (k l n : List Nat) : ∃ F : List Nat, F.length = 20 ∧ Sha.Bytes F ∧ (Sha.pathOf k l n).take 32 = Sha.textOf F ∧ (Sha.pathOf k l n).drop 33 = n ∧ Sha.pathOf k l n = Sha.textOf F ++ [45] ++ n := by
  have hl : (foldTo (Sha.sum (Sha.inside k l n)) 32).length = 20 := foldTo_length _ _
  have hb : Sha.Bytes (foldTo (Sha.sum (Sha.inside k l n)) 32) := foldTo_bytes _ (Sha.sumBehind_bytes _ _ _) _
  have he : Sha.pathOf k l n = Sha.textOf (foldTo (Sha.sum (Sha.inside k l n)) 32) ++ [45] ++ n := rfl
  generalize foldTo (Sha.sum (Sha.inside k l n)) 32 = F at *
  have ht : (Sha.textOf F).length = 32 := by rw [Sha.textOf_length, hl]; rfl
  refine ⟨F, hl, hb, ?_, ?_, he⟩
  · rw [he, List.append_assoc, List.take_left' ht]
  · rw [he, List.drop_left' (by simp [ht])]
theorem isPth_pathOf {k l n : List Nat} (hn : Sha.isNm n = true) : Sha.isPth (Sha.pathOf k l n) := by
  obtain ⟨F, hl, hb, h1, h2, he⟩ := pathOf_take k l n
  have ht : (Sha.textOf F).length = 32 := by rw [Sha.textOf_length, hl]; rfl
  refine ⟨by rw [pathOf_length]; omega, ?_, by rw [h2]; exact hn, by rw [h1, ← hl]; exact Sha.good_text hb⟩
  rw [he, List.append_assoc, Sha.nth_append_right (by omega), ht]
  rfl
theorem split_made (k l n : List Nat) (hnb : Sha.Bytes n) (hn : Sha.isNm n = true) : ∃ d : List Nat, d.length = 32 ∧ strOf d ++ ⟨#[45]⟩ ++ strOf n = strOf (Sha.pathOf k l n) ∧
    ∀ w, Calls Try.prog 13 #[.string (strOf (Sha.pathOf k l n))] w fun e w' => e = .returned (.tuple #[.string (strOf d), .string (strOf n), .int .i64 0]) ∧ Below w.heap.size w w' := by
  obtain ⟨F, hl, hb, h1, h2, he⟩ := pathOf_take k l n
  have hm := isNm_len hn
  refine ⟨Sha.textOf F, by rw [Sha.textOf_length, hl]; rfl, by rw [he, hyphen, strOf_append, strOf_append], fun w => ?_⟩
  refine (split_any _ w (pathOf_bytes hnb) (by rw [pathOf_length]; omega)).mono fun e w' h => ?_
  rcases h with ⟨hbl, ⟨_, h⟩ | ⟨h, _⟩⟩
  · refine ⟨?_, hbl⟩
    rw [h]; unfold splitV; rw [h1, h2]; rfl
  · exact absurd (isPth_pathOf hn) h
set_option maxRecDepth 20000 in
set_option maxHeartbeats 1000000 in
theorem makes_walk (W : World) (k : ByteArray) (hk : k.size ≤ 140737488351232) (l : List Nat) (hl : l.length = 32) (hb : Sha.Bytes l) (s : ByteArray) (hs : s.size ≤ 140737488351232) : Calls Try.prog 4 #[.string k, .agg (E8 l), .string s] W fun e w' => e = .returned (.bool true) ∧ Below W.heap.size W w' := by
  obtain ⟨K, hKb, hKl, rfl⟩ : ∃ K, Sha.Bytes K ∧ K.length ≤ 140737488351232 ∧ k = strOf K := ⟨bytesOf k, bytesOf_bytes k, by rw [bytesOf_length]; exact hk, (strOf_bytesOf k).symm⟩
  obtain ⟨N, hNb, hNl, rfl⟩ : ∃ N, Sha.Bytes N ∧ N.length ≤ 140737488351232 ∧ s = strOf N := ⟨bytesOf s, bytesOf_bytes s, by rw [bytesOf_length]; exact hs, (strOf_bytesOf s).symm⟩
  clear hk hs
  by_cases hlong : K.length + N.length ≤ 600
  · cases hN : Sha.isNm N with
    | false =>
      go_enter Try.func4, Try.ntmps4
      go_wp2_with fail
      refine (make_no (strOf K) N l _ hNb (by omega) hN).mono ?_
      rintro e w1 ⟨rfl, hb1⟩
      have hr1 : rowOf w1 W.heap.size = E8 l := by rw [below_rowOf hb1 (by simp)]; simp [go_sem]
      have hz1 : W.heap.size + 1 ≤ w1.heap.size := by have := hb1.size; simp at this; omega
      have hbl1 : Below W.heap.size W w1 := ((Below.refl _ _).alloc (Nat.le_refl _) _).trans (hb1.mono (by simp))
      clear hb1
      go_wp2_with fail
      refine (makeRef_no (strOf K) N l _ hNb (by omega) hN).mono ?_
      rintro e w2 ⟨rfl, hb2⟩
      have hbl2 : Below W.heap.size W w2 := hbl1.trans (hb2.mono (by omega))
      clear hb2
      go_wp2_with fail
      refine (known_any _).mono ?_
      rintro e w3 ⟨rfl, hb3⟩
      have hbl3 : Below W.heap.size W w3 := hbl2.trans (hb3.mono hbl2.size)
      go_wp2
      go_ret
      exact ⟨rfl, hbl3⟩
    | true =>
      obtain ⟨d, hd, hdn, hsp⟩ := split_made K l N hNb hN
      have HM := hide (fun w => make_yes K N l w hl hb hKb (by omega) hNb hN)
      have HMR := hide (fun w => makeRef_yes K N l w hl hb hKb (by omega) hNb hN)
      have hq : ∀ a : ByteArray, (a.toList == a.toList) = true := fun a => by simp
      have hqn : ∀ a : ByteArray, (a.toList != a.toList) = false := fun a => by simp
      generalize Sha.pathOf K l N = PP at *
      have HSP := hide hsp
      clear hsp
      have hNm := isNm_len hN
      have hn1 : ¬ (9223372036854775807 < 32 + 1) := by omega
      have hn2 : ¬ (9223372036854775807 < 32 + 1 + N.length) := by omega
      go_enter Try.func4, Try.ntmps4
      go_wp2_with fail
      refine (unhide HM _).mono ?_
      rintro e w1 ⟨rfl, hb1⟩
      have hr1 : rowOf w1 W.heap.size = E8 l := by rw [below_rowOf hb1 (by simp)]; simp [go_sem]
      have hz1 : W.heap.size + 1 ≤ w1.heap.size := by have := hb1.size; simp at this; omega
      have hbl1 : Below W.heap.size W w1 := ((Below.refl _ _).alloc (Nat.le_refl _) _).trans (hb1.mono (by simp))
      clear hb1
      go_wp2_with fail
      refine (unhide HMR _).mono ?_
      rintro e w2 ⟨rfl, hb2⟩
      have hbl2 : Below W.heap.size W w2 := hbl1.trans (hb2.mono (by omega))
      clear hb2
      go_wp2_with fail
      refine (unhide HSP _).mono ?_
      rintro e w3 ⟨rfl, hb3⟩
      have hbl3 : Below W.heap.size W w3 := hbl2.trans (hb3.mono hbl2.size)
      clear hb3
      go_wp2_with fail
      refine (known_any _).mono ?_
      rintro e w4 ⟨rfl, hb4⟩
      have hbl4 : Below W.heap.size W w4 := hbl3.trans (hb4.mono hbl3.size)
      go_wp2
      go_ret
      exact ⟨rfl, hbl4⟩
  · go_enter Try.func4, Try.ntmps4
    go_wp2
    go_ret
    exact ⟨rfl, (Below.refl _ _).alloc (Nat.le_refl _) _⟩
end Go.Proofs.Ytfoghaocfkcggaa
