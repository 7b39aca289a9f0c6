/- What is laid leaves what stands elsewhere: the plain mathematics. -/
import Derived.Test.YthfjofmfiklegabDoorK4
import Derived.Test.YthfjofmfiklegabDoorAts
namespace Go.Proofs.YthfjofmfiklegabDoor
open Go.RowKit
theorem pos_at {ns : List ByteArray} {x : ByteArray} {i : Nat} (hr : Rise ns) (h : ns[i]? = some x) : pos ns x = i := by
  obtain ⟨hi, hx⟩ := List.getElem?_eq_some_iff.1 h
  refine takeWhile_len _ ns i (by omega) (fun j hj hji => ?_) (fun hi => ?_)
  · have := hr j i hji (by omega)
    rw [List.getD_eq_getElem?_getD, List.getD_eq_getElem?_getD, List.getElem?_eq_getElem hj, h] at this
    simpa using this
  · rw [hx]; simp
theorem has_zip {ns : List ByteArray} {ks : List Tr} {x : ByteArray} {t : Tr} (hr : Rise ns) (hl : ns.length = ks.length) : (has ns x = true ∧ kidAt ns ks x = t) ↔ (x, t) ∈ ns.zip ks := by
  constructor
  · rintro ⟨h1, h2⟩
    have hlt := has_lt h1
    have hlk : pos ns x < ks.length := by omega
    rw [kidAt_yes h1 hlk] at h2
    unfold has at h1
    have h3 := of_decide_eq_true h1
    rw [List.getElem?_eq_getElem hlt] at h3
    have h4 : (ns.zip ks)[pos ns x]? = some (x, t) := by
      rw [List.getElem?_zip_eq_some]
      exact ⟨by rw [List.getElem?_eq_getElem hlt]; exact h3, by rw [List.getElem?_eq_getElem hlk, h2]⟩
    exact List.mem_of_getElem? h4
  · intro h
    obtain ⟨i, hi⟩ := List.mem_iff_getElem?.1 h
    rw [List.getElem?_zip_eq_some] at hi
    have hp := pos_at hr hi.1
    have hh : has ns x = true := by unfold has; rw [hp]; exact decide_eq_true hi.1
    refine ⟨hh, ?_⟩
    have hlk : pos ns x < ks.length := by have := has_lt hh; omega
    rw [kidAt_yes hh hlk]
    have := hi.2
    rw [← hp, List.getElem?_eq_getElem hlk] at this
    exact Option.some.inj this
theorem zip_take (l : List ByteArray) : ∀ (m : List Tr) (n : Nat), (l.zip m).take n = (l.take n).zip (m.take n) := by
  induction l with
  | nil => intro m n; simp
  | cons a r ih =>
    intro m n
    cases m with
    | nil => simp
    | cons b q => cases n with
      | zero => simp
      | succ n => simp [ih]
theorem zip_drop (l : List ByteArray) : ∀ (m : List Tr) (n : Nat), (l.zip m).drop n = (l.drop n).zip (m.drop n) := by
  induction l with
  | nil => intro m n; simp
  | cons a r ih =>
    intro m n
    cases m with
    | nil => simp
    | cons b q => cases n with
      | zero => simp
      | succ n => simp [ih]
/-- Two places of which neither is above the other. -/
def Apart : List ByteArray → List ByteArray → Prop
  | a :: r, b :: q => a ≠ b ∨ Apart r q
  | _, _ => False
theorem apart_of : ∀ {l m : List ByteArray}, l.take (min l.length m.length) ≠ m.take (min l.length m.length) → Apart l m
  | [], m, h => by simp at h
  | a :: r, [], h => by simp at h
  | a :: r, b :: q, h => by
    by_cases hab : a = b
    · right
      apply apart_of
      intro e
      apply h
      have e1 : min (a :: r).length (b :: q).length = min r.length q.length + 1 := by simp only [List.length_cons]; omega
      rw [e1, List.take_succ_cons, List.take_succ_cons, e, hab]
    · exact .inl hab
theorem apart_ne {l m : List ByteArray} (h : Apart l m) : m ≠ [] := by
  cases l <;> cases m <;> simp [Apart] at h ⊢
theorem at_empty {m : List ByteArray} (h : m ≠ []) : atS emptyDir m = none := by
  cases m with
  | nil => exact absurd rfl h
  | cons b q => unfold emptyDir; rw [atS]; rfl
theorem laid_else (l : List ByteArray) : ∀ {m : List ByteArray} {T X T' : Tr} {deep : Nat}, laidS T l X deep = .ok T' → Nice T → Nice T' → Apart l m → atS T' m = atS T m := by
  induction l with
  | nil => intro m T X T' deep _ _ _ h; cases m <;> simp [Apart] at h
  | cons a r ih =>
    intro m T X T' deep h hN hN' hA
    cases m with
    | nil => simp [Apart] at hA
    | cons b q =>
    cases hN with
    | mk k x d ns ks hr hl hk =>
    rw [laidS] at h
    split at h
    · cases h
    split at h
    case isFalse => cases h
    cases hq : laidS (kidAt ns ks a) r X (deep + 1) with
    | error e => rw [hq] at h; cases h
    | ok t =>
      rw [hq] at h
      cases h
      obtain ⟨hr', hl', hk'⟩ : Rise (ns.take (pos ns a) ++ [a] ++ ns.drop (nextAt ns a)) ∧ (ns.take (pos ns a) ++ [a] ++ ns.drop (nextAt ns a)).length = (ks.take (pos ns a) ++ [t] ++ ks.drop (nextAt ns a)).length ∧ ∀ u ∈ (ks.take (pos ns a) ++ [t] ++ ks.drop (nextAt ns a)), Nice u := by
        cases hN' with | mk _ _ _ _ _ h1 h2 h3 => exact ⟨h1, h2, h3⟩
      have hz : (ns.take (pos ns a) ++ [a] ++ ns.drop (nextAt ns a)).zip (ks.take (pos ns a) ++ [t] ++ ks.drop (nextAt ns a)) = (ns.zip ks).take (pos ns a) ++ [(a, t)] ++ (ns.zip ks).drop (nextAt ns a) := by
        rw [List.zip_append (by simp [hl]), List.zip_append (by simp [hl]), zip_take, zip_drop]; rfl
      have ht : (a, t) ∈ (ns.take (pos ns a) ++ [a] ++ ns.drop (nextAt ns a)).zip (ks.take (pos ns a) ++ [t] ++ ks.drop (nextAt ns a)) := by rw [hz]; simp
      rw [atS, atS]
      by_cases hab : a = b
      · subst hab
        have hA' : Apart r q := by
          rcases hA with h1 | h1
          · exact absurd rfl h1
          · exact h1
        obtain ⟨h1, h2⟩ := (has_zip hr' hl').2 ht
        rw [h1, if_pos rfl, h2, ih hq (kidAt_nice hk) (hk' t (by simp)) hA']
        cases hh : has ns a with
        | true => rfl
        | false => rw [kidAt_no hh, at_empty (apart_ne hA')]; rfl
      · have key : ∀ u, (b, u) ∈ (ns.take (pos ns a) ++ [a] ++ ns.drop (nextAt ns a)).zip (ks.take (pos ns a) ++ [t] ++ ks.drop (nextAt ns a)) ↔ (b, u) ∈ ns.zip ks := fun u => by
          rw [hz]
          have hsplit : (b, u) ∈ ns.zip ks ↔ (b, u) ∈ (ns.zip ks).take (pos ns a) ∨ (b, u) ∈ (ns.zip ks).drop (pos ns a) := by
            rw [← List.mem_append, List.take_append_drop]
          rw [hsplit]
          have hba : ¬ (b = a) := fun e => hab e.symm
          have hdrop : (b, u) ∈ (ns.zip ks).drop (nextAt ns a) ↔ (b, u) ∈ (ns.zip ks).drop (pos ns a) := by
            cases hh : has ns a with
            | false => rw [nextAt_no hh]
            | true =>
              rw [nextAt_yes hh]
              have hlt := has_lt hh
              have hlz : pos ns a < (ns.zip ks).length := by rw [List.length_zip]; omega
              rw [List.drop_eq_getElem_cons hlz, List.mem_cons]
              have h3 : (ns.zip ks)[pos ns a].1 = a := by
                rw [List.getElem_zip]
                unfold has at hh
                have := of_decide_eq_true hh
                rw [List.getElem?_eq_getElem hlt] at this
                exact Option.some.inj this
              constructor
              · exact fun h => .inr h
              · rintro (h | h)
                · rw [← h] at h3; exact absurd h3 hba
                · exact h
          rw [List.mem_append, List.mem_append, hdrop]
          constructor
          · rintro ((h | h) | h)
            · exact .inl h
            · simp at h; exact absurd h.1 hba
            · exact .inr h
          · rintro (h | h)
            · exact .inl (.inl h)
            · exact .inr h
        cases hh : has ns b with
        | true =>
          obtain ⟨h1, h2⟩ := (has_zip hr' hl').2 ((key _).2 ((has_zip hr hl).1 ⟨hh, rfl⟩))
          rw [h1, h2]
        | false =>
          cases hh' : has (ns.take (pos ns a) ++ [a] ++ ns.drop (nextAt ns a)) b with
          | false => rfl
          | true =>
            obtain ⟨h1, _⟩ := (has_zip hr hl).2 ((key _).1 ((has_zip hr' hl').1 ⟨hh', rfl⟩))
            rw [hh] at h1; cases h1
theorem put_else {T X W : Tr} {s o : ByteArray} (h : putS T s X = .ok W) (hA : Apart (placeL s) (placeL o)) : atE W o = atE T o := by
  unfold putS at h
  split at h
  · cases h
  split at h
  · cases h
  split at h
  · cases h
  rename_i h1 h2 h3
  have h1' : (chk T 1 0).1 = 0 := Classical.byContradiction h1
  cases hl : laidS T (placeL s) X 1 with
  | error e => rw [hl] at h; cases h
  | ok V =>
    rw [hl] at h
    by_cases hc : (chk V 1 0).1 = 0
    · have h' : (if (chk V 1 0).1 ≠ 0 then Except.error (chk V 1 0).1 else .ok V) = Except.ok W := h
      rw [if_neg (by simp [hc])] at h'
      have hVW : V = W := Except.ok.inj h'
      subst hVW
      unfold atE
      rw [laid_else _ hl (chk_nice T h1') (chk_nice V hc) hA, if_neg (show ¬ ((chk V 1 0).1 ≠ 0) by simp [hc]), if_neg (show ¬ ((chk T 1 0).1 ≠ 0) by simp [h1'])]
    · have h' : (if (chk V 1 0).1 ≠ 0 then Except.error (chk V 1 0).1 else .ok V) = Except.ok W := h
      rw [if_pos hc] at h'
      cases h'
end Go.Proofs.YthfjofmfiklegabDoor
