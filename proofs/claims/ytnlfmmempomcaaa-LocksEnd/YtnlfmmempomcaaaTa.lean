/- Nobody waits in a ring: mathematics. -/
import Derived.Test.YtnlfmmempomcaaaSd
namespace Go.Proofs.Ytnlfmmempomcaaa
open Go.RowKit Go.Maps
set_option linter.unusedSimpArgs false
/-- Whoever waits does not come back to itself. -/
def NoRing (S : St) : Prop := ∀ n s x, S.wt n = some (s, x) → ¬ S.Ring n s
theorem NoRing.zero : NoRing St.zero := fun n s x h => by cases h
theorem Reach.trans {S : St} {s t u : ByteArray} (h : Reach S s t) (h2 : Reach S t u) : Reach S s u := by
  induction h2 with
  | here => exact h
  | step _ h3 h4 ih => exact ih.step h3 h4
/-- Who waits less, and of those who wait holds less, is in no new ring. -/
structure Less (S S' : St) : Prop where
  wt : ∀ n p, S'.wt n = some p → S.wt n = some p
  hs : ∀ n t, n ∈ S'.hs t → S'.wt n ≠ none → n ∈ S.hs t
theorem Less.refl (S : St) : Less S S := ⟨fun _ _ h => h, fun _ _ h _ => h⟩
theorem Less.trans {S S' S'' : St} (h : Less S S') (h2 : Less S' S'') : Less S S'' := ⟨fun n p e => h.wt n p (h2.wt n p e), fun n t e hw => h.hs n t (h2.hs n t e hw) fun e2 => by
  cases e3 : S''.wt n with
  | none => exact hw e3
  | some p => rw [h2.wt n p e3] at e2; cases e2⟩
theorem Less.reach {S S' : St} (h : Less S S') {s t : ByteArray} (hr : Reach S' s t) : Reach S s t := by
  induction hr with
  | here => exact .here
  | step _ h3 h4 ih => exact ih.step (h.hs _ _ h3 (by rw [h4]; simp)) (h.wt _ _ h4)
theorem Less.noring {S S' : St} (h : Less S S') (hn : NoRing S) : NoRing S' := fun n s x hw ⟨t, ht, hh⟩ => hn n s x (h.wt _ _ hw) ⟨t, h.reach ht, h.hs n t hh (by rw [hw]; simp)⟩
theorem less_pop {S : St} (s : ByteArray) (n : Int) (x : Bool) (r : List (Int × Bool)) : Less S (S.pop s n x r) := by
  refine ⟨fun m p e => ?_, fun m t e hw => ?_⟩
  · by_cases em : m = n
    · rw [em, show (S.pop s n x r).wt n = none from if_pos rfl] at e; cases e
    · rw [show (S.pop s n x r).wt m = S.wt m from if_neg em] at e; exact e
  · have em : m ≠ n := fun em => hw (by rw [em]; exact if_pos rfl)
    by_cases et : t = s
    · subst et
      rw [show (S.pop t n x r).hs t = S.hs t ++ [n] from if_pos rfl] at e
      simpa [em] using e
    · rw [show (S.pop s n x r).hs t = S.hs t from if_neg et] at e; exact e
theorem less_go (s : ByteArray) : ∀ (f : Nat) (S : St), (S.rw s).length = f → Less S (S.go s).1
  | 0, S, hf => by
    rw [St.go_none (List.length_eq_zero_iff.1 hf)]
    exact .refl _
  | f + 1, S, hf => by
    cases hr : S.rw s with
    | nil => rw [hr] at hf; cases hf
    | cons p r =>
      obtain ⟨m, x⟩ := p
      cases hl : S.lets s x with
      | false => rw [St.go_stop hr hl]; exact .refl _
      | true =>
        rw [St.go_step hr hl]
        exact (less_pop s m x r).trans (less_go s f _ (by rw [S.pop_rw]; rw [hr, List.length_cons] at hf; omega))
theorem less_drop (S : St) (n : Int) (s : ByteArray) : Less S (S.drop n s) := ⟨fun _ _ h => h, fun _ _ h _ => (St.drop_mem.1 h).1⟩
theorem less_unwait (S : St) (n : Int) (s : ByteArray) : Less S (S.unwait n s) := ⟨fun m p e => by
  by_cases em : m = n
  · rw [em, show (S.unwait n s).wt n = none from if_pos rfl] at e; cases e
  · rw [show (S.unwait n s).wt m = S.wt m from if_neg em] at e; exact e, fun _ _ h _ => h⟩
theorem less_stop (S : St) (n : Int) : Less S (S.stop n).1 := by
  unfold St.stop
  cases e : S.wt n with
  | none => exact .refl _
  | some x => exact (less_unwait S n x.1).trans (less_go x.1 _ _ rfl)
theorem less_leaves (n : Int) : ∀ (ks : List ByteArray) (S : St), Less S (St.leaves n ks S).1
  | [], _ => .refl _
  | t :: ks, S => ((less_drop S n t).trans (less_go t _ _ rfl)).trans (less_leaves n ks _)
theorem noring_hold {S : St} (hn : NoRing S) {n : Int} (h2 : S.wt n = none) (s : ByteArray) (x : Bool) : NoRing (S.hold n s x) := by
  refine Less.noring (S := S) (S' := S.hold n s x) ⟨fun _ _ h => h, fun m t e hw => ?_⟩ hn
  have em : m ≠ n := fun em => hw (by rw [em]; exact h2)
  by_cases et : t = s
  · subst et
    rw [show (S.hold n t x).hs t = S.hs t ++ [n] from if_pos rfl] at e
    simpa [em] using e
  · rw [show (S.hold n s x).hs t = S.hs t from if_neg et] at e; exact e
theorem wait_reach {S : St} {n : Int} {s : ByteArray} {x : Bool} {t v : ByteArray} (h : Reach (S.wait n s x) t v) : Reach S t v ∨ ((∃ u, Reach S t u ∧ n ∈ S.hs u) ∧ Reach S s v) := by
  induction h with
  | here => exact .inl .here
  | @step a b m y h1 h3 h4 ih =>
    have h3 : m ∈ S.hs a := h3
    by_cases em : m = n
    · subst em
      rw [show (S.wait m s x).wt m = some (s, x) from if_pos rfl] at h4
      injection h4 with h4
      injection h4 with h4
      subst h4
      rcases ih with ih | ih
      · exact .inr ⟨⟨a, ih, h3⟩, .here⟩
      · exact .inr ⟨ih.1, .here⟩
    · rw [show (S.wait n s x).wt m = S.wt m from if_neg em] at h4
      rcases ih with ih | ih
      · exact .inl (ih.step h3 h4)
      · exact .inr ⟨ih.1, ih.2.step h3 h4⟩
theorem noring_wait {S : St} (hn : NoRing S) {n : Int} {s : ByteArray} (x : Bool) (hr : ¬ S.Ring n s) : NoRing (S.wait n s x) := by
  rintro m t y hw ⟨v, hv, hm⟩
  have hm : m ∈ S.hs v := hm
  by_cases em : m = n
  · subst em
    rw [show (S.wait m s x).wt m = some (s, x) from if_pos rfl] at hw
    injection hw with hw
    injection hw with hw
    subst hw
    rcases wait_reach hv with h | h
    · exact hr ⟨v, h, hm⟩
    · exact hr ⟨v, h.2, hm⟩
  · rw [show (S.wait n s x).wt m = S.wt m from if_neg em] at hw
    rcases wait_reach hv with h | ⟨⟨u, h1, h2⟩, h3⟩
    · exact hn m t y hw ⟨v, h, hm⟩
    · exact hr ⟨u, (h3.step hm hw).trans h1, h2⟩
theorem noring_take {S : St} (hn : NoRing S) (n : Int) (s : ByteArray) (x : Bool) : NoRing (S.take n s x).1 := by
  unfold St.take
  by_cases h1 : n < 0
  · rw [if_pos h1]; exact hn
  rw [if_neg h1]
  by_cases h2 : (S.waits n).2 = true ∨ S.holds n s = true
  · rw [if_pos h2]; exact hn
  rw [if_neg h2]
  have hw : S.wt n = none := waits_none (by
    cases e : (S.waits n).2 with
    | false => rfl
    | true => exact absurd (.inl e) h2)
  by_cases h3 : S.rw s = [] ∧ S.lets s x = true
  · rw [if_pos h3]
    exact noring_hold hn hw s x
  rw [if_neg h3]
  by_cases h4 : S.Ring n s
  · rw [if_pos h4]; exact hn
  · rw [if_neg h4]; exact noring_wait hn x h4
/-- Steps of a chain: each waits for a lock that the next one holds. -/
structure Chain (S : St) (f : Nat → Int) (g : Nat → ByteArray) (k : Nat) : Prop where
  wt : ∀ i, i ≤ k → ∃ x, S.wt (f i) = some (g i, x)
  hs : ∀ i, i < k → f (i + 1) ∈ S.hs (g i)
theorem Chain.reach {S : St} {f : Nat → Int} {g : Nat → ByteArray} {k : Nat} (h : Chain S f g k) {i : Nat} : ∀ d, i + d ≤ k → Reach S (g i) (g (i + d))
  | 0, _ => .here
  | d + 1, hd => by
    obtain ⟨x, hx⟩ := h.wt (i + d + 1) hd
    exact (h.reach d (by omega)).step (h.hs (i + d) (by omega)) hx
/-- Of tasks among whom are all who hold or wait one does not wait. -/
theorem one_goes {S : St} (hI : Inv S) (hE : Emp S) (hn : NoRing S) {T : List Int} (hF : Few S T) (hne : T ≠ []) : ∃ n ∈ T, S.wt n = none := by
  cases Classical.em (∃ n ∈ T, S.wt n = none) with
  | inl h => exact h
  | inr hno =>
    exfalso
    have hall : ∀ n ∈ T, ∃ p, S.wt n = some p := fun n hnT => by
      cases e : S.wt n with
      | none => exact absurd ⟨n, hnT, e⟩ hno
      | some p => exact ⟨p, rfl⟩
    have hnext : ∀ n, ∃ m, n ∈ T → m ∈ T ∧ ∃ p, S.wt n = some p ∧ m ∈ S.hs p.1 := fun n => by
      by_cases hnT : n ∈ T
      · obtain ⟨p, hp⟩ := hall n hnT
        have hr := (hI.wait n p.1 p.2).1 hp
        cases e : S.hs p.1 with
        | nil => rw [hE p.1 e] at hr; cases hr
        | cons m l =>
          have hm : m ∈ S.hs p.1 := by rw [e]; exact List.mem_cons_self ..
          exact ⟨m, fun _ => ⟨hF.hld p.1 m hm, p, hp, hm⟩⟩
      · exact ⟨0, fun h => absurd h hnT⟩
    obtain ⟨nx, hnx⟩ : ∃ nx : Int → Int, ∀ n, n ∈ T → nx n ∈ T ∧ ∃ p, S.wt n = some p ∧ nx n ∈ S.hs p.1 := ⟨fun n => Classical.choose (hnext n), fun n => Classical.choose_spec (hnext n)⟩
    obtain ⟨n0, hn0⟩ : ∃ n0, n0 ∈ T := by
      cases T with
      | nil => exact absurd rfl hne
      | cons a l => exact ⟨a, List.mem_cons_self ..⟩
    obtain ⟨f, hf⟩ : ∃ f : Nat → Int, f = fun i => Nat.rec n0 (fun _ m => nx m) i := ⟨_, rfl⟩
    have f0 : f 0 = n0 := by subst hf; rfl
    have fs : ∀ i, f (i + 1) = nx (f i) := fun i => by subst hf; rfl
    have hfT : ∀ i, f i ∈ T := fun i => by
      induction i with
      | zero => rw [f0]; exact hn0
      | succ i ih => rw [fs]; exact (hnx _ ih).1
    have hg : ∀ i, ∃ t, (∃ x, S.wt (f i) = some (t, x)) ∧ f (i + 1) ∈ S.hs t := fun i => by
      obtain ⟨_, p, hp, hm⟩ := hnx _ (hfT i)
      exact ⟨p.1, ⟨p.2, hp⟩, by rw [fs]; exact hm⟩
    obtain ⟨g, hg⟩ : ∃ g : Nat → ByteArray, ∀ i, (∃ x, S.wt (f i) = some (g i, x)) ∧ f (i + 1) ∈ S.hs (g i) := ⟨fun i => Classical.choose (hg i), fun i => Classical.choose_spec (hg i)⟩
    have hch : ∀ k, Chain S f g k := fun k => ⟨fun i _ => (hg i).1, fun i _ => (hg i).2⟩
    -- two of them are one
    have hrep : ∃ i j, i < j ∧ f i = f j := by
      cases Classical.em (∃ i j, i < j ∧ f i = f j) with
      | inl h => exact h
      | inr hnr =>
        exfalso
        have hnd : ((List.range (T.length + 1)).map f).Nodup := List.pairwise_map.2 (List.pairwise_lt_range.imp_of_mem fun {a b} _ _ hab e => hnr ⟨a, b, hab, e⟩)
        have := nodup_sub T _ hnd fun x hx => by
          obtain ⟨i, _, rfl⟩ := List.mem_map.1 hx
          exact hfT i
        simp at this
        omega
    obtain ⟨i, j, hij, e⟩ := hrep
    obtain ⟨x, hx⟩ := (hg i).1
    obtain ⟨d, hd⟩ : ∃ d, j = i + d + 1 := ⟨j - i - 1, by omega⟩
    refine hn (f i) (g i) x hx ⟨g (i + d), (hch (i + d)).reach d (Nat.le_refl _), ?_⟩
    rw [e, hd]
    exact (hg (i + d)).2
end Go.Proofs.Ytnlfmmempomcaaa
