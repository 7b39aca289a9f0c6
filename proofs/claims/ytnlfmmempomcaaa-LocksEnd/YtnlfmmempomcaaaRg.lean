/- The names of the locks that a task holds, rising. -/
import Derived.Test.YtnlfmmempomcaaaRf
import Derived.Test.YtnlfmmempomcaaaLsk
import Derived.TacticsInMore
import Derived.Laws.OwnMore
namespace Go.Proofs.Ytnlfmmempomcaaa
open Go.RowKit Go.Maps Go.Sort Go.Shelf
set_option linter.unusedSimpArgs false
theorem sorts64 (m : Nat) : AnyZ.SortsIn Try.prog sortedA_ren Fence.wide m :=
  ⟨fun blk off cap ss W hH hblk hsz => callsIn_wide.2 (AnyM.slices_Sort_string sortA blk off cap ss W hH hblk hsz),
   fun p cap W => callsIn_wide.2 (AnyM.slices_Sort_string_none sortA p cap W)⟩
theorem keys50_ok (b : Nat) (W : World) : Calls Try.prog 50 #[.map (some b)] W fun e w' => e = .returned (.func (.func 65) #[] #[.pointer (some ⟨W.heap.size, 0, none⟩)]) ∧ w' = W.alloc (.cells #[.map (some b)] 70) :=
  callsIn_wide.1 (AnyZ.keys_in keysA Fence.wide 5 trivial rfl (some b) W)
/-- Names, rising, each once. -/
structure Names (p : ByteArray → Prop) (ks : List ByteArray) : Prop where
  up : ks.Pairwise fun a b => a.data.toList ≤ b.data.toList
  nd : ks.Nodup
  mem : ∀ t, t ∈ ks ↔ p t
theorem sorted49_ok {k : Nat} {w : World} {b : Nat} {L : ByteArray → Option Nat} (h : SMap k w b L) (hk : k < 1000000) :
    Calls Try.prog 49 #[.func (.func 65) #[] #[.pointer (some ⟨w.heap.size, 0, none⟩)]] (w.alloc (.cells #[.map (some b)] 70)) fun e w' => ∃ v ks, e = .returned v ∧ w'.ownsRow w.heap.size 9 1 v ks.length (ks.map Value.string) ∧ Names (fun t => L t ≠ none) ks ∧ Below w.heap.size w w' ∧ ks.length ≤ k := by
  obtain ⟨n, D, hnk, ho, hD, hq⟩ := h
  have hbl := ho.lt
  have hsz := ho.size_le
  obtain ⟨es, hDe, hpw, _⟩ := ho.entries strK
  obtain ⟨es', hD', hko⟩ := ho.keysOf
  obtain rfl : es = es' := by rw [hDe] at hD'; simpa using hD'
  have hko2 := strKeys_le ho Try.underlying9
  have hseq : SeqGives Fence.wide 2 Try.prog 65 #[.pointer (some ⟨w.heap.size, 0, none⟩)] encStr (fun ss => ss.Perm (strKeys D)) (Maps.size D) (w.alloc (.cells #[.map (some b)] 70)) :=
    AnyZ.keys_gives (ρ := keysA_ren) { keysA with } Fence.wide _ trivial rfl (by omega) w.heap.size b n D _ (by simp) (by simp) (by
      obtain ⟨es, clock, hb, Ft, hs, hD⟩ := ho
      exact ⟨es, clock, (Below.heap_alloc _ _ b hbl).trans hb, Ft, hs, hD⟩)
  have cS := AnyZ.sorted_in sortedA Fence.wide 5 trivial trivial trivial trivial rfl (by omega) (sorts64 _) (enters_of Try.func64 (by kernel_rfl) rfl) 65 #[.pointer (some ⟨w.heap.size, 0, none⟩)] trivial (enters_of Try.func65 (by kernel_rfl) rfl) _ _ (by simp only [maxLen]; omega) (by omega) _ hseq
  change CallsIn _ _ Try.prog 49 _ _ _ at cS
  refine (callsIn_wide.1 cS).mono ?_
  rintro e w' ⟨v, ss, rfl, hS, hrow, hnil, hb⟩
  have hnd : (strKeys D).Nodup := by
    rw [hDe]
    show (es.map fun p => strOf p.1).Nodup
    refine List.pairwise_map.2 (hpw.imp_of_mem fun {p q} hp hq hne e => hne ?_)
    obtain ⟨v1, h1⟩ := hko p hp
    obtain ⟨v2, h2⟩ := hko q hq
    obtain ⟨x1, _, e1, _⟩ := S_inv h1
    obtain ⟨x2, _, e2, _⟩ := S_inv h2
    rw [e1, e2] at e ⊢
    exact congrArg _ e
  have hp2 := (List.mergeSort_perm ss (fun x y => decide (x ≤ y))).trans hS
  obtain ⟨ks, hks⟩ : ∃ ks : List ByteArray, ks = (ss.mergeSort fun x y => decide (x ≤ y)).map fun x => (⟨x.toArray⟩ : ByteArray) := ⟨_, rfl⟩
  have hkl : ks.length = ss.length := by rw [hks, List.length_map, List.length_mergeSort]
  refine ⟨v, ks, rfl, ?_, ⟨?_, ?_, fun t => ?_⟩, ((Below.refl _ w).alloc (Nat.le_refl _) _).trans (hb.mono (by simp)), ?_⟩
  · rw [hkl, hks, List.map_map]
    exact ownsRow_base_a hrow (by simp)
  · rw [hks]
    refine List.pairwise_map.2 ?_
    have tr : ∀ a b c : List UInt8, decide (a ≤ b) = true → decide (b ≤ c) = true → decide (a ≤ c) = true := fun a b c h1 h2 => by simp only [decide_eq_true_eq] at *; exact List.le_trans h1 h2
    have to : ∀ a b : List UInt8, (decide (a ≤ b) || decide (b ≤ a)) = true := fun a b => by simp only [Bool.or_eq_true, decide_eq_true_eq]; exact List.le_total a b
    exact (List.pairwise_mergeSort tr to ss).imp fun h => by simpa using h
  · rw [hks]
    refine List.pairwise_map.2 ((hp2.nodup_iff.2 hnd).imp fun h e => h ?_)
    injection e with e
    simpa using e
  · rw [hks, List.mem_map]
    have hm : t.data.toList ∈ strKeys D ↔ L t ≠ none := by
      constructor
      · intro hin
        have hx : SOk t := by have := hko2 _ hin; unfold SOk; rw [← Array.length_toList] at *; exact this
        have h1 := atD_has (E := es) (o := L t) (fun zd => by rw [← hDe]; exact hD t hx zd)
        intro e
        rw [e, Maps.has_eq] at h1
        have h2 := List.any_eq_false.1 h1
        rw [hDe] at hin
        obtain ⟨p, hp, hpe⟩ := List.mem_map.1 hin
        obtain ⟨v1, h3⟩ := hko p hp
        obtain ⟨x1, _, e1, _⟩ := S_inv h3
        refine h2 p hp ?_
        rw [e1] at hpe ⊢
        have : x1.data.toList = t.data.toList := hpe
        simp [Lit.sameKey, this]
      · intro hne
        have hx : SOk t := by
          cases Classical.em (SOk t) with
          | inl h => exact h
          | inr h => exact absurd (hq t h) hne
        have h1 := atD_has (E := es) (o := L t) (fun zd => by rw [← hDe]; exact hD t hx zd)
        have h3 : (L t).isSome = true := by
          cases e : L t with
          | none => exact absurd e hne
          | some _ => rfl
        rw [h3, Maps.has_eq, List.any_eq_true] at h1
        obtain ⟨p, hp, hs⟩ := h1
        rw [hDe]
        refine List.mem_map.2 ⟨p, hp, ?_⟩
        cases e : p.1 with
        | string u => rw [e] at hs; simpa [Lit.sameKey, strOf] using hs
        | _ => rw [e] at hs; simp [Lit.sameKey] at hs
    rw [← hm]
    constructor
    · rintro ⟨x, hx, rfl⟩
      have := hp2.mem_iff.1 hx
      simpa using this
    · intro h
      exact ⟨t.data.toList, hp2.mem_iff.2 h, by simp⟩
  · rw [hkl, hS.length_eq, hDe]
    show (es.map fun p => strOf p.1).length ≤ k
    rw [List.length_map]
    rw [hDe] at hsz
    have : es.length ≤ n := hsz
    omega
end Go.Proofs.Ytnlfmmempomcaaa
