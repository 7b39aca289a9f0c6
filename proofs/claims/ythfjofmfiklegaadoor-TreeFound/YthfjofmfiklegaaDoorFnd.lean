/- The places of files behind a Put: the plain mathematics. No Go text is named here. -/
import Derived.Test.YthfjofmfiklegaaDoorPutR
import Derived.Test.YthfjofmfiklegaaDoorAbv
import Derived.Test.YthfjofmfiklegaaDoorInsS
namespace Go.Proofs.YthfjofmfiklegaaDoor
open Go.RowKit
mutual
/-- The places of a tree's files, as lists of names. -/
def filesN : Tr → List (List ByteArray)
  | .mk k _ _ ns ks => (if k = 1 then [[]] else []) ++ filesNs ns ks
def filesNs : List ByteArray → List Tr → List (List ByteArray)
  | n :: ns, t :: ks => (filesN t).map (n :: ·) ++ filesNs ns ks
  | _, _ => []
end
theorem filesNs_mem (ns : List ByteArray) : ∀ (ks : List Tr) (r : List ByteArray), r ∈ filesNs ns ks ↔ ∃ n t q, (n, t) ∈ ns.zip ks ∧ q ∈ filesN t ∧ r = n :: q := by
  induction ns with
  | nil => intro ks r; rw [filesNs]; simp; intro n ns t ks h; cases h
  | cons n ns ih =>
    intro ks r
    cases ks with
    | nil => rw [filesNs]; simp; intro n ns t ks _ h; cases h
    | cons t ks =>
      rw [filesNs, List.mem_append, ih, List.mem_map, List.zip_cons_cons]
      constructor
      · rintro (⟨q, h1, rfl⟩ | ⟨n', t', q, h1, h2, h3⟩)
        · exact ⟨n, t, q, by simp, h1, rfl⟩
        · exact ⟨n', t', q, by simp [h1], h2, h3⟩
      · rintro ⟨n', t', q, h1, h2, rfl⟩
        rcases List.mem_cons.1 h1 with h1 | h1
        · injection h1 with e1 e2; subst e1 e2; exact .inl ⟨q, h2, rfl⟩
        · exact .inr ⟨n', t', q, h1, h2, rfl⟩
def kindT : Tr → Int | .mk k _ _ _ _ => k
theorem filesN_mem (T : Tr) : ∀ (r : List ByteArray), Nice T → (r ∈ filesN T ↔ ∃ F, atS T r = some F ∧ kindT F = 1) := by
  induction T using Tr.ind with
  | h k x d ns ks ih =>
  intro r hN
  cases hN with
  | mk _ _ _ _ _ hr hl hk =>
  rw [filesN, List.mem_append]
  cases r with
  | nil =>
    rw [atS]
    constructor
    · rintro (h | h)
      · split at h
        · rename_i h1; exact ⟨_, rfl, h1⟩
        · simp at h
      · obtain ⟨n, t, q, _, _, h3⟩ := (filesNs_mem ns ks []).1 h; cases h3
    · rintro ⟨F, h1, h2⟩
      cases h1
      left
      rw [if_pos (show k = 1 from h2)]; simp
  | cons n q =>
    rw [atS]
    constructor
    · rintro (h | h)
      · split at h <;> simp at h
      · obtain ⟨n', t, q', h1, h2, h3⟩ := (filesNs_mem ns ks _).1 h
        injection h3 with e1 e2
        subst e1 e2
        obtain ⟨g1, g2⟩ := (has_zip hr hl).2 h1
        have htk := (List.of_mem_zip h1).2
        rw [if_pos g1, g2]
        exact (ih t htk q (hk t htk)).1 h2
    · rintro ⟨F, h1, h2⟩
      right
      split at h1
      · rename_i g1
        have hz := (has_zip (x := n) (t := kidAt ns ks n) hr hl).1 ⟨g1, rfl⟩
        have htk := (List.of_mem_zip hz).2
        exact (filesNs_mem ns ks _).2 ⟨n, kidAt ns ks n, q, hz, (ih _ htk q (hk _ htk)).2 ⟨F, h1, h2⟩, rfl⟩
      · cases h1
theorem filesN_nodup (T : Tr) : Nice T → (filesN T).Nodup := by
  induction T using Tr.ind with
  | h k x d ns ks ih =>
  intro hN
  cases hN with
  | mk _ _ _ _ _ hr hl hk =>
  have hns : ∀ (ns : List ByteArray) (ks : List Tr), ns.Pairwise (fun x y => x.toList < y.toList) → (∀ t ∈ ks, (filesN t).Nodup) → (filesNs ns ks).Nodup := by
    intro ns
    induction ns with
    | nil => intro ks _ _; rw [filesNs]; simp; intro n ns t ks h; cases h
    | cons n ns ihn =>
      intro ks hp hn
      cases ks with
      | nil => rw [filesNs]; simp; intro n ns t ks _ h; cases h
      | cons t ks =>
        obtain ⟨p1, p2⟩ := List.pairwise_cons.1 hp
        rw [filesNs, List.nodup_append]
        refine ⟨?_, ihn ks p2 (fun t ht => hn t (by simp [ht])), ?_⟩
        · have := hn t (by simp)
          unfold List.Nodup at this ⊢
          rw [List.pairwise_map]
          exact this.imp (fun h e => h (by injection e))
        · intro a ha b hb e
          subst e
          obtain ⟨q, _, rfl⟩ := List.mem_map.1 ha
          obtain ⟨n', t', q', h1, _, h3⟩ := (filesNs_mem ns ks _).1 hb
          injection h3 with e1 e2
          subst e1
          have := p1 n (List.of_mem_zip h1).1
          exact absurd this (List.lt_irrefl _)
  rw [filesN, List.nodup_append]
  refine ⟨by split <;> simp, hns ns ks (rise_pw.1 hr) (fun t ht => ih t ht (hk t ht)), ?_⟩
  intro a ha b hb e
  subst e
  obtain ⟨n', t', q', _, _, h3⟩ := (filesNs_mem ns ks _).1 hb
  split at ha
  · simp at ha; rw [ha] at h3; cases h3
  · simp at ha
/-- Every name of a tree may be one. -/
inductive Ents : Tr → Prop
  | mk (k : Int) (x : Bool) (d : ByteArray) (ns : List ByteArray) (ks : List Tr) (h : ∀ n ∈ ns, entB n = true) (hk : ∀ t ∈ ks, Ents t) : Ents (.mk k x d ns ks)
theorem locs_ents (T : Tr) : Locs T → Ents T := by
  induction T using Tr.ind with
  | h k x d ns ks ih =>
  intro h
  cases h with
  | mk _ _ _ _ _ h1 h3 =>
  refine .mk _ _ _ _ _ ?_ (fun t ht => ih t ht (h3 t ht))
  rcases loc0 h1 with ⟨_, h4, _⟩ | ⟨_, _, h4, _⟩ | ⟨_, _, _, _, h5⟩
  · intro n hn; rw [List.eq_nil_of_length_eq_zero h4] at hn; simp at hn
  · intro n hn; rw [List.eq_nil_of_length_eq_zero h4] at hn; simp at hn
  · exact okNames_ent h5
theorem filesN_ents (T : Tr) : Ents T → ∀ r ∈ filesN T, ∀ n ∈ r, entB n = true := by
  induction T using Tr.ind with
  | h k x d ns ks ih =>
  intro h r hr n hn
  cases h with
  | mk _ _ _ _ _ h1 h3 =>
  rw [filesN, List.mem_append] at hr
  rcases hr with hr | hr
  · split at hr
    · simp at hr; subst hr; simp at hn
    · simp at hr
  · obtain ⟨n', t', q', h4, h5, rfl⟩ := (filesNs_mem ns ks _).1 hr
    rcases List.mem_cons.1 hn with rfl | hn
    · exact h1 _ (List.of_mem_zip h4).1
    · exact ih t' (List.of_mem_zip h4).2 (h3 t' (List.of_mem_zip h4).2) q' h5 n hn
theorem joinL_snoc (l : List (List UInt8)) (n : List UInt8) (h : l ≠ []) : joinL (l ++ [n]) = joinL l ++ 47 :: n := by
  induction l with
  | nil => exact absurd rfl h
  | cons a r ih =>
    cases r with
    | nil => rfl
    | cons b t =>
      have := ih (by simp)
      rw [List.cons_append, List.cons_append, joinL, joinL, ← List.cons_append, this]
      simp
theorem ent_pos {n : ByteArray} (h : entB n = true) : 0 < n.size := by
  unfold entB at h; have := (of_decide_eq_true h).1; omega
theorem joinB_pos {l : List ByteArray} (hne : l ≠ []) (h : ∀ n ∈ l, entB n = true) : (joinB l).size ≠ 0 := by
  intro e
  have e1 : (joinB l).data.toList.length = 0 := e
  rw [joinB_list] at e1
  cases l with
  | nil => exact hne rfl
  | cons a r =>
    have ha := ent_pos (h a (by simp))
    have ha' : 0 < a.data.toList.length := ha
    cases r with
    | nil => rw [List.map_cons, List.map_nil, joinL] at e1; omega
    | cons b t => simp [joinL] at e1
theorem join_below {l : List ByteArray} {n : ByteArray} (h : ∀ n ∈ l, entB n = true) : belowB (joinB l) n = joinB (l ++ [n]) := by
  cases hl : l with
  | nil => rfl
  | cons a r =>
    rw [← hl]
    have hne : l ≠ [] := by rw [hl]; simp
    have h0 := joinB_pos hne h
    unfold belowB
    rw [if_neg h0]
    apply ByteArray.ext
    apply Array.ext'
    rw [joinB_list, List.map_append, List.map_cons, List.map_nil, joinL_snoc _ _ (by simp [hne]), ← joinB_list]
    simp
theorem placeL_joinB {l : List ByteArray} (h : ∀ n ∈ l, entB n = true) : placeL (joinB l) = l := by
  cases hl : l with
  | nil => rfl
  | cons a r =>
    rw [← hl]
    have h0 := joinB_pos (by rw [hl]; simp) h
    unfold placeL
    rw [if_neg h0]
    exact (isPl_parts ⟨h, rfl⟩ h0).symm
theorem files_names (T : Tr) : ∀ (l : List ByteArray), Ents T → (∀ n ∈ l, entB n = true) → filesL T (joinB l) = (filesN T).map (fun r => joinB (l ++ r)) := by
  induction T using Tr.ind with
  | h k x d ns ks ih =>
  intro l hE hl
  cases hE with
  | mk _ _ _ _ _ h1 h3 =>
  have hs : ∀ (ns : List ByteArray) (ks' : List Tr), (∀ n ∈ ns, entB n = true) → (∀ t ∈ ks', t ∈ ks) → filesLs ns ks' (joinB l) = (filesNs ns ks').map (fun r => joinB (l ++ r)) := by
    intro ns
    induction ns with
    | nil => intro ks' _ _; rw [filesLs, filesNs]; · rfl
             · intro n ns t ks h; cases h
             · intro n ns t ks h; cases h
    | cons n ns ihn =>
      intro ks' hn hk
      cases ks' with
      | nil => rw [filesLs, filesNs]; · rfl
               · intro n ns t ks _ h; cases h
               · intro n ns t ks _ h; cases h
      | cons t ks' =>
        rw [filesLs, filesNs, List.map_append, ihn ks' (fun m hm => hn m (by simp [hm])) (fun t ht => hk t (by simp [ht])), join_below hl]
        congr 1
        have ht := hk t (by simp)
        rw [ih t ht (l ++ [n]) (h3 t ht) (fun m hm => by
          rcases List.mem_append.1 hm with hm | hm
          · exact hl m hm
          · simp at hm; subst hm; exact hn _ (by simp)), List.map_map]
        apply List.map_congr_left
        intro r _
        simp
  rw [filesL, filesN, List.map_append, hs ns ks h1 (fun t ht => ht)]
  congr 1
  split <;> simp
theorem files_root {T : Tr} (h : (chk T 1 0).1 = 0) : filesL T ⟨#[]⟩ = (filesN T).map joinB := by
  have := files_names T [] (locs_ents T (chk_locs T h)) (fun n hn => by simp at hn)
  have e : joinB [] = ⟨#[]⟩ := rfl
  rw [e] at this
  rw [this]
  rfl
theorem sortB_perm (xs : List ByteArray) : (sortB xs).Perm xs := by
  unfold sortB sortL
  have h := ((List.mergeSort_perm (xs.map fun s => s.data.toList) (fun x y => decide (x ≤ y))).map (fun l : List UInt8 => (⟨l.toArray⟩ : ByteArray)))
  rw [List.map_map] at h
  have e : ((fun l : List UInt8 => (⟨l.toArray⟩ : ByteArray)) ∘ fun s : ByteArray => s.data.toList) = id := by
    funext s; show (⟨s.data.toList.toArray⟩ : ByteArray) = s; rw [Array.toArray_toList]
  rw [e, List.map_id] at h
  exact h
theorem sortB_sorted (xs : List ByteArray) : (sortB xs).Pairwise leT := by
  unfold sortB
  rw [List.pairwise_map]
  have h : (sortL xs).Pairwise (fun a b => a ≤ b) := by
    unfold sortL
    refine (List.pairwise_mergeSort (le := fun x y => decide (x ≤ y)) (fun a b c h1 h2 => decide_eq_true (List.le_trans (of_decide_eq_true h1) (of_decide_eq_true h2))) (fun a b => ?_) _).imp (fun {a b} h => of_decide_eq_true h)
    rw [Bool.or_eq_true]
    rcases List.le_total a b with h | h
    · exact .inl (decide_eq_true h)
    · exact .inr (decide_eq_true h)
  refine h.imp (fun {a b} h => ?_)
  unfold leT
  rw [ByteArray.toList_eq, ByteArray.toList_eq]
  simpa using h
theorem sortB_strict {xs : List ByteArray} (h : xs.Nodup) : (sortB xs).Pairwise (fun x y => x.toList < y.toList) := by
  have h1 := sortB_sorted xs
  have h2 : (sortB xs).Nodup := (sortB_perm xs).nodup_iff.2 h
  unfold List.Nodup at h2
  refine (h1.and h2).imp (fun {a b} ⟨h3, h4⟩ => ?_)
  rcases Decidable.em (a.toList < b.toList) with h5 | h5
  · exact h5
  · have h6 : b.toList ≤ a.toList := List.not_lt.1 h5
    exact absurd (ByteArray.ext (Array.ext' (by rw [← ByteArray.toList_eq, ← ByteArray.toList_eq]; exact List.le_antisymm h3 h6))) h4
theorem filesL_nodup {T : Tr} (h : (chk T 1 0).1 = 0) : (filesL T ⟨#[]⟩).Nodup := by
  rw [files_root h]
  have hN := filesN_nodup T (chk_nice T h)
  have hE := filesN_ents T (locs_ents T (chk_locs T h))
  unfold List.Nodup at hN ⊢
  rw [List.pairwise_map]
  refine List.Pairwise.imp_of_mem ?_ hN
  intro a b ha hb hne e
  apply hne
  rw [← placeL_joinB (hE a ha), ← placeL_joinB (hE b hb), e]
theorem atS_append (l : List ByteArray) : ∀ (T : Tr) (s : List ByteArray), atS T (l ++ s) = match atS T l with | none => none | some U => atS U s := by
  induction l with
  | nil => intro T s; cases T; rw [List.nil_append, atS]
  | cons a r ih =>
    intro T s
    cases T with
    | mk k x d ns ks =>
    rw [List.cons_append, atS, atS]
    split
    · exact ih _ s
    · rfl
theorem apart_or : ∀ (l r : List ByteArray), Apart l r ∨ (∃ s, r = l ++ s) ∨ (∃ a s, l = r ++ a :: s)
  | [], r => .inr (.inl ⟨r, rfl⟩)
  | a :: l, [] => .inr (.inr ⟨a, l, rfl⟩)
  | a :: l, b :: r => by
    by_cases h : a = b
    · subst h
      rcases apart_or l r with h | ⟨s, rfl⟩ | ⟨c, s, rfl⟩
      · exact .inl (.inr h)
      · exact .inr (.inl ⟨s, rfl⟩)
      · exact .inr (.inr ⟨c, s, rfl⟩)
    · exact .inl (.inl h)
/-- A file that was put: which files there are then. -/
theorem put_files {T W : Tr} {s b : ByteArray} (h : putS T s (.mk 1 false b [] []) = .ok W) : s ∈ filesS W ∧ (∀ q ∈ filesS W, q = s ∨ q ∈ filesS T) ∧ (filesS W).Pairwise (fun x y => x.toList < y.toList) := by
  obtain ⟨h1, h2, h3, h4, h5⟩ := putS_laid h
  have hNT := chk_nice T h2
  have hNW := chk_nice W h5
  have hEW := filesN_ents W (locs_ents W (chk_locs W h5))
  have hat := laid_at _ h1 hNT hNW
  have hW : filesS W = sortB (filesL W ⟨#[]⟩) := by unfold filesS; rw [if_pos h5]
  have hT : filesS T = sortB (filesL T ⟨#[]⟩) := by unfold filesS; rw [if_pos h2]
  have mW : ∀ q, q ∈ filesS W ↔ ∃ r ∈ filesN W, joinB r = q := fun q => by rw [hW, (sortB_perm _).mem_iff, files_root h5, List.mem_map]
  have mT : ∀ q, q ∈ filesS T ↔ ∃ r ∈ filesN T, joinB r = q := fun q => by rw [hT, (sortB_perm _).mem_iff, files_root h2, List.mem_map]
  refine ⟨?_, ?_, ?_⟩
  · exact (mW s).2 ⟨placeL s, (filesN_mem W _ hNW).2 ⟨_, hat, rfl⟩, placeL_join s⟩
  · intro q hq
    obtain ⟨r, hr, rfl⟩ := (mW q).1 hq
    obtain ⟨F, hF, hk⟩ := (filesN_mem W r hNW).1 hr
    rcases apart_or (placeL s) r with hA | ⟨t, rfl⟩ | ⟨a, t, ht⟩
    · right
      refine (mT _).2 ⟨r, (filesN_mem T r hNT).2 ⟨F, ?_, hk⟩, rfl⟩
      rw [← laid_else _ h1 hNT hNW hA]; exact hF
    · left
      rw [atS_append, hat] at hF
      cases t with
      | nil => rw [List.append_nil]; exact placeL_join s
      | cons c t =>
        exfalso
        have hF' : atS (.mk 1 false b [] []) (c :: t) = some F := hF
        rw [atS] at hF'
        split at hF'
        · rename_i hh; exact absurd (has_lt hh) (by simp)
        · cases hF'
    · exfalso
      obtain ⟨x, d, ns, ks, hD⟩ := laid_above _ h1 hNT hNW (j := r.length) (by rw [ht]; simp)
      rw [ht, List.take_left, hF] at hD
      cases hD
      cases hk
  · rw [hW]
    exact sortB_strict (filesL_nodup h5)
end Go.Proofs.YthfjofmfiklegaaDoor
