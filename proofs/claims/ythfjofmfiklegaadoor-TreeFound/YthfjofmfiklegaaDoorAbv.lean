/- What stands above a place that was put: the plain mathematics. No Go text is named here. -/
import Derived.Test.YthfjofmfiklegaaDoorElseS
namespace Go.Proofs.YthfjofmfiklegaaDoor
open Go.RowKit
theorem laid_above (l : List ByteArray) : ∀ {T X V : Tr} {deep j : Nat}, laidS T l X deep = .ok V → Nice T → Nice V → j < l.length → ∃ x d ns ks, atS V (l.take j) = some (.mk 2 x d ns ks) := by
  induction l with
  | nil => intro T X V deep j _ _ _ hj; simp at hj
  | cons a r ih =>
    intro T X V deep j h hN hV hj
    cases hN with
    | mk k x d ns ks hr hl hk =>
    rw [laidS] at h
    split at h
    · cases h
    split at h
    case isFalse => cases h
    cases hq : laidS (kidAt ns ks a) r X (deep + 1) with
    | error e => rw [hq] at h; cases h
    | ok t =>
      rw [hq] at h
      cases h
      cases j with
      | zero => exact ⟨_, _, _, _, by rw [List.take_zero, atS]⟩
      | succ j =>
        obtain ⟨hr', hl', hk'⟩ : Rise (ns.take (pos ns a) ++ [a] ++ ns.drop (nextAt ns a)) ∧ (ns.take (pos ns a) ++ [a] ++ ns.drop (nextAt ns a)).length = (ks.take (pos ns a) ++ [t] ++ ks.drop (nextAt ns a)).length ∧ ∀ u ∈ (ks.take (pos ns a) ++ [t] ++ ks.drop (nextAt ns a)), Nice u := by
          cases hV with | mk _ _ _ _ _ h1 h2 h3 => exact ⟨h1, h2, h3⟩
        have hz : (ns.take (pos ns a) ++ [a] ++ ns.drop (nextAt ns a)).zip (ks.take (pos ns a) ++ [t] ++ ks.drop (nextAt ns a)) = (ns.zip ks).take (pos ns a) ++ [(a, t)] ++ (ns.zip ks).drop (nextAt ns a) := by
          rw [List.zip_append (by simp [hl]), List.zip_append (by simp [hl]), zip_take, zip_drop]; rfl
        have ht : (a, t) ∈ (ns.take (pos ns a) ++ [a] ++ ns.drop (nextAt ns a)).zip (ks.take (pos ns a) ++ [t] ++ ks.drop (nextAt ns a)) := by rw [hz]; simp
        obtain ⟨h1, h2⟩ := (has_zip hr' hl').2 ht
        rw [List.take_succ_cons, atS, h1, if_pos rfl, h2]
        exact ih hq (kidAt_nice hk) (hk' t (by simp)) (by simpa using hj)
theorem putS_laid {T X W : Tr} {s : ByteArray} (h : putS T s X = .ok W) : laidS T (placeL s) X 1 = .ok W ∧ (chk T 1 0).1 = 0 ∧ (chk X 1 0).1 = 0 ∧ isPl s = true ∧ (chk W 1 0).1 = 0 := by
  unfold putS at h
  split at h
  · cases h
  split at h
  · cases h
  split at h
  · cases h
  rename_i h1 h2 h3
  cases hl : laidS T (placeL s) X 1 with
  | error e => rw [hl] at h; cases h
  | ok V =>
    rw [hl] at h
    have h' : (if (chk V 1 0).1 ≠ 0 then Except.error (chk V 1 0).1 else .ok V) = Except.ok W := h
    split at h'
    · cases h'
    · rename_i h4
      have hVW : V = W := Except.ok.inj h'
      subst hVW
      exact ⟨rfl, Classical.byContradiction h1, Classical.byContradiction h2, by simpa using h3, Classical.byContradiction h4⟩
theorem split_cat (A B : List UInt8) : splitL (A ++ 47 :: B) = splitL A ++ splitL B := by
  induction A with
  | nil => rw [List.nil_append]; rw [show splitL (47 :: B) = [] :: splitL B by rw [splitL]; simp]; rfl
  | cons c r ih =>
    rw [List.cons_append, splitL, splitL]
    by_cases hc : c = 47
    · rw [if_pos hc, if_pos hc, ih]; rfl
    · rw [if_neg hc, if_neg hc, ih]
      cases h2 : splitL r with
      | nil => exact absurd h2 (splitL_ne r)
      | cons a t => rfl
/-- What stands ahead of a slash of a place is a place of fewer names. -/
theorem pre_place {s : ByteArray} {A B : List UInt8} (hs : s.data.toList = A ++ 47 :: B) (hp : isPl s = true) : isPl ⟨A.toArray⟩ = true ∧ ∃ j, j < (placeL s).length ∧ placeL ⟨A.toArray⟩ = (placeL s).take j := by
  have hs0 : s.size ≠ 0 := by
    intro e
    have : s.data.toList.length = 0 := e
    rw [hs] at this; simp at this
  have hpl : placeL s = partsB s := by unfold placeL; rw [if_neg hs0]
  have hparts : partsB s = partsB ⟨A.toArray⟩ ++ (splitL B).map (fun l => ⟨l.toArray⟩) := by
    unfold partsB; rw [hs, split_cat, List.map_append]
  have hent := isPl_ent hp
  have hA : (⟨A.toArray⟩ : ByteArray).size ≠ 0 := by
    intro e
    have hA0 : A = [] := by
      have : A.length = 0 := by simpa [ByteArray.size] using e
      exact List.eq_nil_of_length_eq_zero this
    subst hA0
    have h1 := hent ⟨#[]⟩ (by rw [hpl, hparts]; simp [partsB, splitL])
    unfold entB at h1
    have := (of_decide_eq_true h1).1
    simp [ByteArray.size] at this
  have hpA : placeL ⟨A.toArray⟩ = partsB ⟨A.toArray⟩ := by unfold placeL; rw [if_neg hA]
  refine ⟨?_, (partsB ⟨A.toArray⟩).length, ?_, ?_⟩
  · unfold isPl
    rw [hpA]
    exact List.all_eq_true.2 (fun n hn => hent n (by rw [hpl, hparts]; exact List.mem_append_left _ hn))
  · rw [hpl, hparts, List.length_append, List.length_map]
    have := List.length_pos_iff.2 (splitL_ne B)
    omega
  · rw [hpA, hpl, hparts, List.take_left]
theorem put_above {T X W : Tr} {s : ByteArray} {A B : List UInt8} (h : putS T s X = .ok W) (hs : s.data.toList = A ++ 47 :: B) : ∃ x d ns ks, atE W ⟨A.toArray⟩ = .ok (.mk 2 x d ns ks) := by
  obtain ⟨h1, h2, h3, h4, h5⟩ := putS_laid h
  obtain ⟨h6, j, h7, h8⟩ := pre_place hs h4
  obtain ⟨x, d, ns, ks, h9⟩ := laid_above _ h1 (chk_nice T h2) (chk_nice W h5) h7
  refine ⟨x, d, ns, ks, ?_⟩
  unfold atE
  rw [if_neg (by simp [h5]), if_neg (by simp [h6]), h8, h9]
end Go.Proofs.YthfjofmfiklegaaDoor
