/- Put, in the document's own answer: the plain mathematics. No Go text is named here. -/
import Derived.Test.YthfjofmfiklegaaDoorElseS
namespace Go.Proofs.YthfjofmfiklegaaDoor
open Go.RowKit
/-- A kid laid under a name. -/
def layS : Tr → ByteArray → Tr → Tr
  | .mk k x d ns ks, n, t => .mk k x d (ns.take (pos ns n) ++ [n] ++ ns.drop (nextAt ns n)) (ks.take (pos ns n) ++ [t] ++ ks.drop (nextAt ns n))
/-- A tree at a place; false: something that is no directory stands above it. -/
def putR : Tr → List ByteArray → Tr → Tr × Bool
  | _, [], X => (X, true)
  | .mk k x d ns ks, n :: r, X => if k = 2 then (layS (.mk k x d ns ks) n (putR (kidAt ns ks n) r X).1, (putR (kidAt ns ks n) r X).2) else (.mk k x d ns ks, false)
theorem putR_nil (T X : Tr) : putR T [] X = (X, true) := by cases T; rw [putR]
theorem putR_no {k : Int} {x : Bool} {d : ByteArray} {ns : List ByteArray} {ks : List Tr} {n : ByteArray} {r : List ByteArray} {X : Tr} (h : k ≠ 2) : putR (.mk k x d ns ks) (n :: r) X = (.mk k x d ns ks, false) := by rw [putR, if_neg h]
theorem putR_yes {x : Bool} {d : ByteArray} {ns : List ByteArray} {ks : List Tr} {n : ByteArray} {r : List ByteArray} {X : Tr} : putR (.mk 2 x d ns ks) (n :: r) X = (layS (.mk 2 x d ns ks) n (putR (kidAt ns ks n) r X).1, (putR (kidAt ns ks n) r X).2) := by rw [putR, if_pos rfl]
/-- Every node by itself is as it may be. -/
inductive Locs : Tr → Prop
  | mk (k : Int) (x : Bool) (d : ByteArray) (ns : List ByteArray) (ks : List Tr) (h : locErr k x d.size ns ks.length = 0) (hk : ∀ t ∈ ks, Locs t) : Locs (.mk k x d ns ks)
theorem chk_locs (T : Tr) : ∀ {deep n : Nat}, (chk T deep n).1 = 0 → Locs T := by
  induction T using Tr.ind with
  | h k x d ns ks ih =>
    intro deep n h
    obtain ⟨h1, _, h3⟩ := chk_kids h
    exact .mk _ _ _ _ _ h1 (fun t ht => by obtain ⟨n', hn'⟩ := h3 t ht; exact ih t ht hn')
theorem locs_empty : Locs emptyDir := .mk _ _ _ _ _ (loc_dir_ok (okNames_nil rfl)) (fun t ht => by simp at ht)
theorem locs_five (T : Tr) : ∀ (deep n : Nat), Locs T → (chk T deep n).1 = 0 ∨ (chk T deep n).1 = 5 := by
  induction T using Tr.ind with
  | h k x d ns ks ih =>
    intro deep n hL
    have hs : ∀ l : List Tr, (∀ t ∈ l, t ∈ ks) → ∀ deep n, (chks l deep n).1 = 0 ∨ (chks l deep n).1 = 5 := by
      intro l
      induction l with
      | nil => intro _ deep n; left; rw [chks]
      | cons a r ihl =>
        intro hm deep n
        cases hL with
        | mk _ _ _ _ _ h hk =>
        rw [chks]
        rcases ih a (hm a (by simp)) deep n (hk a (hm a (by simp))) with h0 | h0
        · rw [if_pos h0]; exact ihl (fun t ht => hm t (by simp [ht])) deep _
        · rw [if_neg (by omega)]; exact .inr h0
    cases hL with
    | mk _ _ _ _ _ h hk =>
    rw [chk]
    split
    · exact .inr rfl
    · first
      | exact hs ks (fun t ht => ht) _ _
      | (rw [if_pos h]; exact hs ks (fun t ht => ht) _ _)
theorem locs_nice (T : Tr) : Locs T → Nice T := by
  induction T using Tr.ind with
  | h k x d ns ks ih =>
    intro h
    cases h with
    | mk _ _ _ _ _ h1 h3 =>
    have hk : ∀ t ∈ ks, Nice t := fun t ht => ih t ht (h3 t ht)
    rcases loc0 h1 with ⟨_, h4, h5⟩ | ⟨_, _, h4, h5⟩ | ⟨_, _, _, h4, h5⟩
    · exact .mk _ _ _ _ _ (okNames_rise (okNames_nil h4)) (by omega) hk
    · exact .mk _ _ _ _ _ (okNames_rise (okNames_nil h4)) (by omega) hk
    · exact .mk _ _ _ _ _ (okNames_rise h5) h4 hk
theorem kidAt_locs {ns : List ByteArray} {ks : List Tr} {x : ByteArray} (h : ∀ t ∈ ks, Locs t) : Locs (kidAt ns ks x) := by
  unfold kidAt
  split
  · rw [List.getD_eq_getElem?_getD]
    cases hq : ks[pos ns x]? with
    | none => exact locs_empty
    | some t => exact h t (List.mem_of_getElem? hq)
  · exact locs_empty
theorem size0 {d : ByteArray} (h : d.size = 0) : d = ⟨#[]⟩ := size_zero h
/-- Where a tree, or an empty directory below it, stands. -/
def Stands (T : Tr) (deep : Nat) : Prop := T = emptyDir ∨ ∃ n, (chk T deep n).1 = 0
theorem Stands.locs {T : Tr} {deep : Nat} (h : Stands T deep) : Locs T := by
  rcases h with rfl | ⟨n, h⟩
  · exact locs_empty
  · exact chk_locs T h
theorem Stands.kid {k : Int} {x : Bool} {d : ByteArray} {ns : List ByteArray} {ks : List Tr} {deep : Nat} (h : Stands (.mk k x d ns ks) deep) (a : ByteArray) : Stands (kidAt ns ks a) (deep + 1) := by
  cases hh : has ns a with
  | false => left; exact kidAt_no hh
  | true =>
    rcases h with h | ⟨n, h⟩
    · unfold emptyDir at h; cases h; exact absurd (has_lt hh) (by simp)
    · obtain ⟨h1, h2, h3⟩ := chk_kids h
      unfold kidAt
      rw [if_pos hh, List.getD_eq_getElem?_getD]
      cases hq : ks[pos ns a]? with
      | none => left; rfl
      | some t => right; exact h3 t (List.mem_of_getElem? hq)
/-- Both ways of laying are one. -/
theorem lay_put (l : List ByteArray) : ∀ {T X : Tr} {deep : Nat}, Stands T deep →
    match laidS T l X deep with
    | .ok V => putR T l X = (V, true)
    | .error e => (e = 8 ∧ (putR T l X).2 = false) ∨ (e = 5 ∧ (putR T l X).2 = true ∧ 64 < deep + l.length) := by
  induction l with
  | nil =>
    intro T X deep hS
    cases T
    rw [laidS]
    by_cases hd : 64 < deep
    · rw [if_pos hd]; exact .inr ⟨rfl, by rw [putR], by simpa using hd⟩
    · rw [if_neg hd]; show _ = _; rw [putR]
  | cons a r ih =>
    intro T X deep hS
    have hLo := hS.locs
    cases hT : T with
    | mk k x d ns ks =>
    subst hT
    have hK := hS.kid a
    rw [laidS]
    by_cases hd : 64 < deep
    · rw [if_pos hd]
      have hE : Tr.mk k x d ns ks = emptyDir := by
        rcases hS with h | ⟨n, h⟩
        · exact h
        · have := (chk_kids h).2.1; omega
      have hall : ∀ l : List ByteArray, (putR emptyDir l X).2 = true := by
        intro l
        induction l with
        | nil => rw [putR_nil]
        | cons b q ihq => unfold emptyDir; rw [putR_yes]; rw [kidAt_no (by rfl)]; exact ihq
      exact .inr ⟨rfl, by rw [hE]; exact hall _, by omega⟩
    · rw [if_neg hd]
      by_cases hk : k = 2
      · subst hk
        rw [if_pos rfl, putR_yes]
        have h := ih (X := X) hK
        cases hq : laidS (kidAt ns ks a) r X (deep + 1) with
        | error e =>
          rw [hq] at h
          rcases h with ⟨h1, h2⟩ | ⟨h1, h2, h3⟩
          · exact .inl ⟨h1, h2⟩
          · exact .inr ⟨h1, h2, by simp only [List.length_cons]; omega⟩
        | ok V =>
          rw [hq] at h
          have h' : putR (kidAt ns ks a) r X = (V, true) := h
          show _ = _
          rw [h', layS]
          cases hLo with
          | mk _ _ _ _ _ h1 h3 =>
          rcases loc0 h1 with ⟨h4, _⟩ | ⟨h4, _⟩ | ⟨_, h4, h5, _⟩
          · omega
          · omega
          · rw [h4, size_zero h5]
      · rw [if_neg hk, putR_no hk]
        exact .inl ⟨rfl, rfl⟩
/-- What is put so deep is as deep. -/
theorem putR_deep (l : List ByteArray) : ∀ {T X : Tr} {deep n : Nat}, (putR T l X).2 = true → (chk (putR T l X).1 deep n).1 = 0 → deep + l.length ≤ 64 := by
  induction l with
  | nil =>
    intro T X deep n _ h
    rw [putR_nil] at h
    cases X
    simpa using (chk_kids h).2.1
  | cons a r ih =>
    intro T X deep n h1 h2
    cases T with
    | mk k x d ns ks =>
    by_cases hk : k = 2
    · subst hk
      rw [putR_yes] at h1 h2
      rw [layS] at h2
      obtain ⟨n', hn'⟩ := (chk_kids h2).2.2 (putR (kidAt ns ks a) r X).1 (by simp)
      have := ih h1 hn'
      simp only [List.length_cons]; omega
    · rw [putR_no hk] at h1; cases h1
/-- A name laid among names. -/
def ins (ns : List ByteArray) (a : ByteArray) : List ByteArray := ns.take (pos ns a) ++ [a] ++ ns.drop (nextAt ns a)
theorem ins_nil (a : ByteArray) : ins [] a = [a] := rfl
theorem pos_lt {b a : ByteArray} (r : List ByteArray) (h : b.toList < a.toList) : pos (b :: r) a = pos r a + 1 := by
  unfold pos; rw [List.takeWhile_cons_of_pos (by simpa using h)]; rfl
theorem pos_ge {b a : ByteArray} (r : List ByteArray) (h : ¬ b.toList < a.toList) : pos (b :: r) a = 0 := by
  unfold pos; rw [List.takeWhile_cons_of_neg (by simpa using h)]; rfl
theorem ins_lt {b a : ByteArray} (r : List ByteArray) (h : b.toList < a.toList) : ins (b :: r) a = b :: ins r a := by
  have hp := pos_lt r h
  have hh : has (b :: r) a = has r a := by unfold has; rw [hp]; simp
  have hn : nextAt (b :: r) a = nextAt r a + 1 := by unfold nextAt; rw [hh, hp]; split <;> omega
  unfold ins
  rw [hp, hn]
  simp
theorem ins_eq (a : ByteArray) (r : List ByteArray) : ins (a :: r) a = a :: r := by
  have hp := pos_ge (b := a) (a := a) r (by simp)
  have hh : has (a :: r) a = true := by unfold has; rw [hp]; simp
  unfold ins
  rw [hp, nextAt_yes hh, hp]
  simp
theorem ins_gt {b a : ByteArray} (r : List ByteArray) (h : ¬ b.toList < a.toList) (hne : b ≠ a) : ins (b :: r) a = a :: b :: r := by
  have hp := pos_ge r h
  have hh : has (b :: r) a = false := by unfold has; rw [hp]; simp [hne]
  unfold ins
  rw [hp, nextAt_no hh, hp]
  simp
theorem ins_mem (a : ByteArray) (ns : List ByteArray) : ∀ s ∈ ins ns a, s = a ∨ s ∈ ns := by
  induction ns with
  | nil => intro s hs; rw [ins_nil] at hs; simp at hs; exact .inl hs
  | cons b r ih =>
    intro s hs
    by_cases h : b.toList < a.toList
    · rw [ins_lt r h] at hs
      rcases List.mem_cons.1 hs with h1 | h1
      · right; simp [h1]
      · rcases ih s h1 with h2 | h2
        · exact .inl h2
        · right; simp [h2]
    · by_cases he : b = a
      · subst he; rw [ins_eq] at hs; exact .inr hs
      · rw [ins_gt r h he] at hs
        rcases List.mem_cons.1 hs with h1 | h1
        · exact .inl h1
        · exact .inr h1
theorem toList_tri {a b : ByteArray} (h1 : ¬ b.toList < a.toList) (h2 : b ≠ a) : a.toList < b.toList := by
  have h3 : a.toList ≤ b.toList := List.not_lt.1 h1
  rcases Decidable.em (a.toList < b.toList) with h | h
  · exact h
  · have h4 : b.toList ≤ a.toList := List.not_lt.1 h
    exact absurd (ByteArray.ext (Array.ext' (by rw [← ByteArray.toList_eq, ← ByteArray.toList_eq]; exact List.le_antisymm h4 h3))) h2
theorem ins_pw (a : ByteArray) (ns : List ByteArray) : ns.Pairwise (fun x y => x.toList < y.toList) → (ins ns a).Pairwise (fun x y => x.toList < y.toList) := by
  induction ns with
  | nil => intro _; rw [ins_nil]; simp
  | cons b r ih =>
    intro hp
    obtain ⟨h1, h2⟩ := List.pairwise_cons.1 hp
    by_cases h : b.toList < a.toList
    · rw [ins_lt r h, List.pairwise_cons]
      refine ⟨fun y hy => ?_, ih h2⟩
      rcases ins_mem a r y hy with rfl | hy
      · exact h
      · exact h1 y hy
    · by_cases he : b = a
      · subst he; rw [ins_eq]; exact hp
      · rw [ins_gt r h he, List.pairwise_cons]
        refine ⟨fun y hy => ?_, hp⟩
        have hab := toList_tri h he
        rcases List.mem_cons.1 hy with rfl | hy
        · exact hab
        · exact List.lt_trans hab (h1 y hy)
theorem rise_pw {ns : List ByteArray} : Rise ns ↔ ns.Pairwise (fun x y => x.toList < y.toList) := by
  rw [List.pairwise_iff_getElem]
  constructor
  · intro h i j hi hj hij
    have := h i j hij hj
    rw [List.getD_eq_getElem?_getD, List.getD_eq_getElem?_getD, List.getElem?_eq_getElem hi, List.getElem?_eq_getElem hj] at this
    exact this
  · intro h i j hij hj
    have := h i j (by omega) hj hij
    rw [List.getD_eq_getElem?_getD, List.getD_eq_getElem?_getD, List.getElem?_eq_getElem (by omega), List.getElem?_eq_getElem hj]
    exact this
theorem okNames_ent {ns : List ByteArray} (h : okNames ns) : ∀ s ∈ ns, entB s = true := by
  intro s hs
  obtain ⟨i, hi, rfl⟩ := List.getElem_of_mem hs
  have := h i hi
  cases i with
  | zero => rw [okName_first hi] at this; exact this
  | succ i => rw [okName_next hi] at this; exact (Bool.and_eq_true _ _ ▸ this).1
theorem okNames_of {ns : List ByteArray} (h1 : ∀ s ∈ ns, entB s = true) (h2 : Rise ns) : okNames ns := by
  intro i hi
  cases i with
  | zero => rw [okName_first hi]; exact h1 _ (List.getElem_mem hi)
  | succ i =>
    rw [okName_next hi, Bool.and_eq_true]
    refine ⟨h1 _ (List.getElem_mem hi), decide_eq_true ?_⟩
    have := h2 i (i + 1) (by omega) hi
    rw [List.getD_eq_getElem?_getD (i := i + 1), List.getElem?_eq_getElem hi] at this
    exact this
theorem ins_ok {ns : List ByteArray} {a : ByteArray} (h : okNames ns) (ha : entB a = true) : okNames (ins ns a) := by
  refine okNames_of (fun s hs => ?_) (rise_pw.2 (ins_pw a ns (rise_pw.1 (okNames_rise h))))
  rcases ins_mem a ns s hs with rfl | h1
  · exact ha
  · exact okNames_ent h s h1
theorem lay_locs {k : Int} {x : Bool} {d : ByteArray} {ns : List ByteArray} {ks : List Tr} {a : ByteArray} {t : Tr} (hk2 : k = 2) (hL : Locs (.mk k x d ns ks)) (ha : entB a = true) (ht : Locs t) : Locs (layS (.mk k x d ns ks) a t) := by
  cases hL with
  | mk _ _ _ _ _ h1 h3 =>
  rcases loc0 h1 with ⟨h4, _⟩ | ⟨h4, _⟩ | ⟨_, h4, h5, h6, h7⟩
  · omega
  · omega
  · subst hk2 h4
    rw [layS]
    have hlen : (ns.take (pos ns a) ++ [a] ++ ns.drop (nextAt ns a)).length = (ks.take (pos ns a) ++ [t] ++ ks.drop (nextAt ns a)).length := by simp [h6]
    refine .mk _ _ _ _ _ ?_ (fun u hu => ?_)
    · rw [h5, ← hlen]
      exact loc_dir_ok (ins_ok h7 ha)
    · simp only [List.mem_append, List.mem_singleton] at hu
      rcases hu with (hu | hu) | hu
      · exact h3 u (List.mem_of_mem_take hu)
      · rw [hu]; exact ht
      · exact h3 u (List.mem_of_mem_drop hu)
theorem putR_locs (l : List ByteArray) : ∀ {T X : Tr}, Locs T → Locs X → (∀ n ∈ l, entB n = true) → Locs (putR T l X).1 := by
  induction l with
  | nil => intro T X _ hX _; rw [putR_nil]; exact hX
  | cons a r ih =>
    intro T X hT hX he
    cases T with
    | mk k x d ns ks =>
    by_cases hk : k = 2
    · subst hk
      rw [putR_yes]
      have hks : ∀ t ∈ ks, Locs t := by cases hT with | mk _ _ _ _ _ h1 h3 => exact h3
      exact lay_locs rfl hT (he a (by simp)) (ih (kidAt_locs hks) hX (fun n hn => he n (by simp [hn])))
    · rw [putR_no hk]; exact hT
/-- The document's own Put, or why not. -/
noncomputable def putE (T : Tr) (s : ByteArray) (X : Tr) : Except Nat Tr :=
  if (chk T 1 0).1 ≠ 0 then .error (chk T 1 0).1 else if (chk X 1 0).1 ≠ 0 then .error (chk X 1 0).1 else if isPl s = false then .error 9 else
    if (putR T (placeL s) X).2 = false then .error 8 else if (chk (putR T (placeL s) X).1 1 0).1 ≠ 0 then .error (chk (putR T (placeL s) X).1 1 0).1 else .ok (putR T (placeL s) X).1
theorem putE_putS (T : Tr) (s : ByteArray) (X : Tr) : putE T s X = putS T s X := by
  unfold putE putS
  by_cases h1 : (chk T 1 0).1 = 0
  case neg => rw [if_pos h1, if_pos h1]
  by_cases h2 : (chk X 1 0).1 = 0
  case neg =>
    have hA : ¬ (chk T 1 0).1 ≠ 0 := fun h => h h1
    rw [if_neg hA, if_neg hA, if_pos h2, if_pos h2]
  have hA : ¬ (chk T 1 0).1 ≠ 0 := fun h => h h1
  have hB : ¬ (chk X 1 0).1 ≠ 0 := fun h => h h2
  rw [if_neg hA, if_neg hA, if_neg hB, if_neg hB]
  by_cases h3 : isPl s = false
  · rw [if_pos h3, if_pos h3]
  rw [if_neg h3, if_neg h3]
  have hp := lay_put (placeL s) (X := X) (T := T) (deep := 1) (.inr ⟨0, h1⟩)
  cases hq : laidS T (placeL s) X 1 with
  | ok V =>
    rw [hq] at hp
    have hp' : putR T (placeL s) X = (V, true) := hp
    rw [hp']
    rw [if_neg (by simp)]
  | error e =>
    rw [hq] at hp
    rcases hp with ⟨rfl, h4⟩ | ⟨rfl, h4, h5⟩
    · rw [if_pos h4]
    · rw [if_neg (by simp [h4])]
      have hL := putR_locs (placeL s) (chk_locs T h1) (chk_locs X h2) (isPl_ent (by simpa using h3))
      rcases locs_five _ 1 0 hL with h6 | h6
      · have := putR_deep (placeL s) h4 h6
        omega
      · rw [if_pos (by omega), h6]
/-- What was laid stands there. -/
theorem laid_at (l : List ByteArray) : ∀ {T X V : Tr} {deep : Nat}, laidS T l X deep = .ok V → Nice T → Nice V → atS V l = some X := by
  induction l with
  | nil =>
    intro T X V deep h _ _
    cases T
    rw [laidS] at h
    split at h
    · cases h
    · cases h; cases X; rw [atS]
  | cons a r ih =>
    intro T X V deep h hN hV
    cases hN with
    | mk k x d ns ks hr hl hk =>
    rw [laidS] at h
    split at h
    · cases h
    split at h
    case isFalse => cases h
    cases hq : laidS (kidAt ns ks a) r X (deep + 1) with
    | error e => rw [hq] at h; cases h
    | ok t =>
      rw [hq] at h
      cases h
      obtain ⟨hr', hl', hk'⟩ : Rise (ns.take (pos ns a) ++ [a] ++ ns.drop (nextAt ns a)) ∧ (ns.take (pos ns a) ++ [a] ++ ns.drop (nextAt ns a)).length = (ks.take (pos ns a) ++ [t] ++ ks.drop (nextAt ns a)).length ∧ ∀ u ∈ (ks.take (pos ns a) ++ [t] ++ ks.drop (nextAt ns a)), Nice u := by
        cases hV with | mk _ _ _ _ _ h1 h2 h3 => exact ⟨h1, h2, h3⟩
      have hz : (ns.take (pos ns a) ++ [a] ++ ns.drop (nextAt ns a)).zip (ks.take (pos ns a) ++ [t] ++ ks.drop (nextAt ns a)) = (ns.zip ks).take (pos ns a) ++ [(a, t)] ++ (ns.zip ks).drop (nextAt ns a) := by
        rw [List.zip_append (by simp [hl]), List.zip_append (by simp [hl]), zip_take, zip_drop]; rfl
      have ht : (a, t) ∈ (ns.take (pos ns a) ++ [a] ++ ns.drop (nextAt ns a)).zip (ks.take (pos ns a) ++ [t] ++ ks.drop (nextAt ns a)) := by rw [hz]; simp
      obtain ⟨h1, h2⟩ := (has_zip hr' hl').2 ht
      rw [atS, h1, if_pos rfl, h2]
      exact ih hq (kidAt_nice hk) (hk' t (by simp))
theorem put_at {T X W : Tr} {s : ByteArray} (h : putS T s X = .ok W) : atE W s = .ok X := by
  unfold putS at h
  split at h
  · cases h
  split at h
  · cases h
  split at h
  · cases h
  rename_i h1 h2 h3
  cases hl : laidS T (placeL s) X 1 with
  | error e => rw [hl] at h; cases h
  | ok V =>
    rw [hl] at h
    have h' : (if (chk V 1 0).1 ≠ 0 then Except.error (chk V 1 0).1 else .ok V) = Except.ok W := h
    split at h'
    · cases h'
    · rename_i h4
      have hVW : V = W := Except.ok.inj h'
      subst hVW
      have ha := laid_at _ hl (chk_nice T (Classical.byContradiction h1)) (chk_nice V (Classical.byContradiction h4))
      unfold atE
      rw [if_neg h4, if_neg h3, ha]
theorem putR_wt (l : List ByteArray) : ∀ {T X : Tr}, (∀ n ∈ l, entB n = true) → Nice T → wt (putR T l X).1 ≤ wt T + wt X + 12 * l.length := by
  induction l with
  | nil => intro T X _ _; rw [putR_nil]; simp only [List.length_nil]; omega
  | cons a r ih =>
    intro T X hent hN
    cases hN with
    | mk k x d ns ks hr hl hk =>
    by_cases hk2 : k = 2
    case neg => rw [putR_no hk2]; simp only [List.length_cons]; omega
    subst hk2
    rw [putR_yes]
    have h1 := ih (X := X) (fun n hn => hent n (by simp [hn])) (kidAt_nice (ns := ns) (x := a) hk)
    generalize (putR (kidAt ns ks a) r X).1 = t at *
    have ha := entB_le (hent a (by simp))
    rw [layS]
    show wt (.mk _ _ _ _ _) ≤ _
    rw [wt, wt]
    simp only [tenths_append, wts_append, List.length_append, List.length_cons, List.length_nil, tenths, wts, List.length_take, List.length_drop]
    have e1 := tenths_split ns (pos ns a)
    have e2 := wts_split ks (pos ns a)
    cases hh : has ns a with
    | false =>
      have en : nextAt ns a = pos ns a := by unfold nextAt; rw [hh]; rfl
      have ek : kidAt ns ks a = emptyDir := by unfold kidAt; rw [hh]; rfl
      rw [ek, wt_empty] at h1
      rw [en]
      omega
    | true =>
      have en : nextAt ns a = pos ns a + 1 := by unfold nextAt; rw [hh]; rfl
      have hlt := has_lt hh
      have hlk : pos ns a < ks.length := by omega
      have ek : kidAt ns ks a = ks[pos ns a] := by unfold kidAt; rw [hh, if_pos rfl, List.getD_eq_getElem?_getD, List.getElem?_eq_getElem hlk]; rfl
      rw [ek] at h1
      rw [en]
      have e3 := wts_take ks (pos ns a) hlk
      have e4 := wts_split ks (pos ns a + 1)
      have e5 := tenths_take ns (pos ns a) hlt
      have e6 := tenths_split ns (pos ns a + 1)
      omega
end Go.Proofs.YthfjofmfiklegaaDoor
