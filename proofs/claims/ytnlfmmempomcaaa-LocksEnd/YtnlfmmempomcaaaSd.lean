/- Who holds a lock alone: mathematics. -/
import Derived.Test.YtnlfmmempomcaaaSc
namespace Go.Proofs.Ytnlfmmempomcaaa
open Go.RowKit Go.Maps
set_option linter.unusedSimpArgs false
/-- 1: alone, 2: shared. -/
def md (x : Bool) : Int := if x = true then 2 else 1
/-- What was asked for last is what is held, or waited for. -/
structure Md (S : St) (L : Int → ByteArray → Option Int) : Prop where
  held : ∀ s n, n ∈ S.hs s → L n s = some (md (S.sh s))
  wait : ∀ s n x, (n, x) ∈ S.rw s → L n s = some (md x)
  excl : ∀ s, S.sh s = false → (S.hs s).length ≤ 1
theorem Md.zero : Md St.zero (fun _ _ => none) := ⟨fun s n h => (by cases h), fun s n x h => (by cases h), fun s _ => Nat.zero_le _⟩
theorem Md.pop {S : St} {L : Int → ByteArray → Option Int} (h : Md S L) {s : ByteArray} {n : Int} {x : Bool} {r : List (Int × Bool)} (hr : S.rw s = (n, x) :: r) (hl : S.lets s x = true) : Md (S.pop s n x r) L := by
  have hlets : S.hs s = [] ∨ (S.sh s = true ∧ x = true) := by
    unfold St.lets at hl
    simpa using hl
  have hn := h.wait s n x (by rw [hr]; exact List.mem_cons_self ..)
  refine ⟨fun t m hm => ?_, fun t m y hy => ?_, fun t ht => ?_⟩
  · by_cases e : t = s
    · subst e
      rw [show (S.pop t n x r).hs t = S.hs t ++ [n] from if_pos rfl] at hm
      rw [show (S.pop t n x r).sh t = x from if_pos rfl]
      rcases List.mem_append.1 hm with hm | hm
      · rcases hlets with h0 | ⟨h1, h2⟩
        · rw [h0] at hm; cases hm
        · rw [h.held t m hm, h1, h2]
      · rw [List.mem_singleton.1 hm]; exact hn
    · rw [show (S.pop s n x r).hs t = S.hs t from if_neg e] at hm
      rw [show (S.pop s n x r).sh t = S.sh t from if_neg e]
      exact h.held t m hm
  · by_cases e : t = s
    · subst e
      rw [S.pop_rw] at hy
      exact h.wait t m y (by rw [hr]; exact List.mem_cons_of_mem _ hy)
    · rw [show (S.pop s n x r).rw t = S.rw t from if_neg e] at hy
      exact h.wait t m y hy
  · by_cases e : t = s
    · subst e
      rw [show (S.pop t n x r).sh t = x from if_pos rfl] at ht
      rw [show (S.pop t n x r).hs t = S.hs t ++ [n] from if_pos rfl]
      rcases hlets with h0 | ⟨_, h2⟩
      · rw [h0]; simp
      · rw [ht] at h2; cases h2
    · rw [show (S.pop s n x r).sh t = S.sh t from if_neg e] at ht
      rw [show (S.pop s n x r).hs t = S.hs t from if_neg e]
      exact h.excl t ht
theorem Md.go (s : ByteArray) : ∀ (f : Nat) {S : St} {L : Int → ByteArray → Option Int}, (S.rw s).length = f → Md S L → Md (S.go s).1 L
  | 0, S, L, hf, h => by
    rw [St.go_none (List.length_eq_zero_iff.1 hf)]
    exact h
  | f + 1, S, L, hf, h => by
    cases hr : S.rw s with
    | nil => rw [hr] at hf; cases hf
    | cons p r =>
      obtain ⟨m, x⟩ := p
      cases hl : S.lets s x with
      | false => rw [St.go_stop hr hl]; exact h
      | true =>
        rw [St.go_step hr hl]
        exact Md.go s f (by rw [S.pop_rw]; rw [hr, List.length_cons] at hf; omega) (h.pop hr hl)
theorem Md.drop {S : St} {L : Int → ByteArray → Option Int} (h : Md S L) (n : Int) (s : ByteArray) : Md (S.drop n s) L := by
  refine ⟨fun t m hm => h.held t m (St.drop_mem.1 hm).1, h.wait, fun t ht => ?_⟩
  have := h.excl t ht
  by_cases e : t = s
  · subst e
    rw [S.drop_hs]
    exact Nat.le_trans (List.length_filter_le _ _) this
  · rw [show (S.drop n s).hs t = S.hs t from if_neg e]; exact this
theorem Md.unwait {S : St} {L : Int → ByteArray → Option Int} (h : Md S L) (n : Int) (s : ByteArray) : Md (S.unwait n s) L := by
  refine ⟨h.held, fun t m y hy => ?_, h.excl⟩
  by_cases e : t = s
  · subst e
    rw [S.unwait_rw] at hy
    exact h.wait t m y (List.mem_filter.1 hy).1
  · rw [show (S.unwait n s).rw t = S.rw t from if_neg e] at hy; exact h.wait t m y hy
theorem Md.give {S : St} {L : Int → ByteArray → Option Int} (h : Md S L) (n : Int) (s : ByteArray) : Md (S.give n s).1 L := Md.go s _ rfl (h.drop n s)
theorem Md.stop {S : St} {L : Int → ByteArray → Option Int} (h : Md S L) (n : Int) : Md (S.stop n).1 L := by
  unfold St.stop
  cases e : S.wt n with
  | none => exact h
  | some x => exact Md.go x.1 _ rfl (h.unwait n x.1)
theorem Md.leaves {L : Int → ByteArray → Option Int} (n : Int) : ∀ (ks : List ByteArray) {S : St}, Md S L → Md (St.leaves n ks S).1 L
  | [], _, h => h
  | t :: ks, _, h => Md.leaves n ks (h.give n t)
theorem Md.hold {S : St} {L : Int → ByteArray → Option Int} (h : Md S L) (hI : Inv S) {n : Int} {s : ByteArray} {x : Bool} (h1 : n ∉ S.hs s) (h2 : S.wt n = none) (hl : S.lets s x = true) : Md (S.hold n s x) (kupd L n s (md x)) := by
  have hlets : S.hs s = [] ∨ (S.sh s = true ∧ x = true) := by
    unfold St.lets at hl
    simpa using hl
  have hno : ∀ t y, (n, y) ∉ S.rw t := fun t y hy => by rw [(hI.wait n t y).2 hy] at h2; cases h2
  refine ⟨fun t m hm => ?_, fun t m y hy => ?_, fun t ht => ?_⟩
  · unfold kupd
    by_cases e : t = s
    · subst e
      rw [show (S.hold n t x).hs t = S.hs t ++ [n] from if_pos rfl] at hm
      rw [show (S.hold n t x).sh t = x from if_pos rfl]
      rcases List.mem_append.1 hm with hm | hm
      · rw [if_neg (fun (e2 : m = n ∧ t = t) => h1 (e2.1 ▸ hm))]
        rcases hlets with h0 | ⟨h3, h4⟩
        · rw [h0] at hm; cases hm
        · rw [h.held t m hm, h3, h4]
      · rw [if_pos ⟨List.mem_singleton.1 hm, rfl⟩]
    · rw [show (S.hold n s x).hs t = S.hs t from if_neg e] at hm
      rw [show (S.hold n s x).sh t = S.sh t from if_neg e, if_neg (fun e2 => e e2.2)]
      exact h.held t m hm
  · unfold kupd
    rw [if_neg (fun (e2 : m = n ∧ t = s) => hno t y (e2.1 ▸ hy))]
    exact h.wait t m y hy
  · by_cases e : t = s
    · subst e
      rw [show (S.hold n t x).sh t = x from if_pos rfl] at ht
      rw [show (S.hold n t x).hs t = S.hs t ++ [n] from if_pos rfl]
      rcases hlets with h0 | ⟨_, h4⟩
      · rw [h0]; simp
      · rw [ht] at h4; cases h4
    · rw [show (S.hold n s x).sh t = S.sh t from if_neg e] at ht
      rw [show (S.hold n s x).hs t = S.hs t from if_neg e]
      exact h.excl t ht
theorem Md.waits {S : St} {L : Int → ByteArray → Option Int} (h : Md S L) (hI : Inv S) {n : Int} {s : ByteArray} {x : Bool} (h1 : n ∉ S.hs s) (h2 : S.wt n = none) : Md (S.wait n s x) (kupd L n s (md x)) := by
  have hno : ∀ t y, (n, y) ∉ S.rw t := fun t y hy => by rw [(hI.wait n t y).2 hy] at h2; cases h2
  refine ⟨fun t m hm => ?_, fun t m y hy => ?_, h.excl⟩
  · unfold kupd
    rw [if_neg (fun e2 => h1 (by rw [← e2.1, ← e2.2]; exact hm))]
    exact h.held t m hm
  · unfold kupd
    by_cases e : t = s
    · subst e
      rw [show (S.wait n t x).rw t = S.rw t ++ [(n, x)] from if_pos rfl] at hy
      rcases List.mem_append.1 hy with hy | hy
      · rw [if_neg (fun (e2 : m = n ∧ t = t) => hno t y (e2.1 ▸ hy))]
        exact h.wait t m y hy
      · simp at hy
        rw [if_pos ⟨hy.1, rfl⟩, hy.2]
    · rw [show (S.wait n s x).rw t = S.rw t from if_neg e] at hy
      rw [if_neg (fun e2 => e e2.2)]
      exact h.wait t m y hy
/-- What a Take that is no error leaves. -/
theorem Md.take {S : St} {L : Int → ByteArray → Option Int} (h : Md S L) (hI : Inv S) {n : Int} {s : ByteArray} {x : Bool} (h0 : (S.take n s x).2.2 = 0) : Md (S.take n s x).1 (kupd L n s (md x)) := by
  unfold St.take at h0 ⊢
  by_cases h1 : n < 0
  · rw [if_pos h1] at h0; cases h0
  rw [if_neg h1] at h0 ⊢
  by_cases h2 : (S.waits n).2 = true ∨ S.holds n s = true
  · rw [if_pos h2] at h0; cases h0
  rw [if_neg h2] at h0 ⊢
  have hw : S.wt n = none := waits_none (by
    cases e : (S.waits n).2 with
    | false => rfl
    | true => exact absurd (.inl e) h2)
  have hh : n ∉ S.hs s := holds_not (by
    cases e : S.holds n s with
    | false => rfl
    | true => exact absurd (.inr e) h2)
  by_cases h3 : S.rw s = [] ∧ S.lets s x = true
  · rw [if_pos h3]
    exact h.hold hI hh hw h3.2
  rw [if_neg h3] at h0 ⊢
  by_cases h4 : S.Ring n s
  · rw [if_pos h4] at h0; cases h0
  rw [if_neg h4]
  exact h.waits hI hh hw
theorem take_no {S : St} {n : Int} {s : ByteArray} {x : Bool} (h0 : (S.take n s x).2.2 ≠ 0) : (S.take n s x).1 = S ∧ (S.take n s x).2.1 = false := by
  unfold St.take at h0 ⊢
  by_cases h1 : n < 0
  · rw [if_pos h1]; exact ⟨rfl, rfl⟩
  rw [if_neg h1] at h0 ⊢
  by_cases h2 : (S.waits n).2 = true ∨ S.holds n s = true
  · rw [if_pos h2]; exact ⟨rfl, rfl⟩
  rw [if_neg h2] at h0 ⊢
  by_cases h3 : S.rw s = [] ∧ S.lets s x = true
  · rw [if_pos h3] at h0; exact absurd rfl h0
  rw [if_neg h3] at h0 ⊢
  by_cases h4 : S.Ring n s
  · rw [if_pos h4]; exact ⟨rfl, rfl⟩
  · rw [if_neg h4] at h0; exact absurd rfl h0
/-- Whether the lock is held behind a Take. -/
theorem take_held {S : St} {n : Int} {s : ByteArray} {x : Bool} (h0 : (S.take n s x).2.2 = 0) : (S.take n s x).2.1 = (S.take n s x).1.holds n s := by
  unfold St.take at h0 ⊢
  by_cases h1 : n < 0
  · rw [if_pos h1] at h0; cases h0
  rw [if_neg h1] at h0 ⊢
  by_cases h2 : (S.waits n).2 = true ∨ S.holds n s = true
  · rw [if_pos h2] at h0; cases h0
  rw [if_neg h2] at h0 ⊢
  by_cases h3 : S.rw s = [] ∧ S.lets s x = true
  · rw [if_pos h3]
    unfold St.holds
    rw [show (S.hold n s x).hs s = S.hs s ++ [n] from if_pos rfl]
    simp
  rw [if_neg h3] at h0 ⊢
  by_cases h4 : S.Ring n s
  · rw [if_pos h4] at h0; cases h0
  rw [if_neg h4]
  have hh : n ∉ S.hs s := holds_not (by
    cases e : S.holds n s with
    | false => rfl
    | true => exact absurd (.inr e) h2)
  unfold St.holds
  rw [show (S.wait n s x).hs s = S.hs s from rfl]
  simpa using hh
/-- How many steps a row's tasks come from. -/
structure Few (S : St) (T : List Int) : Prop where
  row : ∀ s n x, (n, x) ∈ S.rw s → n ∈ T
  hld : ∀ s n, n ∈ S.hs s → n ∈ T
theorem Few.mono {S : St} {T T' : List Int} (h : Few S T) (hs : ∀ n ∈ T, n ∈ T') : Few S T' := ⟨fun s n x hx => hs n (h.row s n x hx), fun s n hn => hs n (h.hld s n hn)⟩
theorem Few.pop {S : St} {T : List Int} (h : Few S T) {s : ByteArray} {n : Int} {x : Bool} {r : List (Int × Bool)} (hr : S.rw s = (n, x) :: r) : Few (S.pop s n x r) T := by
  have hn := h.row s n x (by rw [hr]; exact List.mem_cons_self ..)
  refine ⟨fun t m y hy => ?_, fun t m hm => ?_⟩
  · by_cases e : t = s
    · subst e
      rw [S.pop_rw] at hy
      exact h.row t m y (by rw [hr]; exact List.mem_cons_of_mem _ hy)
    · rw [show (S.pop s n x r).rw t = S.rw t from if_neg e] at hy
      exact h.row t m y hy
  · by_cases e : t = s
    · subst e
      rw [show (S.pop t n x r).hs t = S.hs t ++ [n] from if_pos rfl] at hm
      rcases List.mem_append.1 hm with hm | hm
      · exact h.hld t m hm
      · rw [List.mem_singleton.1 hm]; exact hn
    · rw [show (S.pop s n x r).hs t = S.hs t from if_neg e] at hm
      exact h.hld t m hm
theorem Few.go (s : ByteArray) : ∀ (f : Nat) {S : St} {T : List Int}, (S.rw s).length = f → Few S T → Few (S.go s).1 T
  | 0, S, T, hf, h => by
    rw [St.go_none (List.length_eq_zero_iff.1 hf)]
    exact h
  | f + 1, S, T, hf, h => by
    cases hr : S.rw s with
    | nil => rw [hr] at hf; cases hf
    | cons p r =>
      obtain ⟨m, x⟩ := p
      cases hl : S.lets s x with
      | false => rw [St.go_stop hr hl]; exact h
      | true =>
        rw [St.go_step hr hl]
        exact Few.go s f (by rw [S.pop_rw]; rw [hr, List.length_cons] at hf; omega) (h.pop hr)
theorem Few.drop {S : St} {T : List Int} (h : Few S T) (n : Int) (s : ByteArray) : Few (S.drop n s) T := ⟨h.row, fun t m hm => h.hld t m (St.drop_mem.1 hm).1⟩
theorem Few.unwait {S : St} {T : List Int} (h : Few S T) (n : Int) (s : ByteArray) : Few (S.unwait n s) T := by
  refine ⟨fun t m y hy => ?_, h.hld⟩
  by_cases e : t = s
  · subst e
    rw [S.unwait_rw] at hy
    exact h.row t m y (List.mem_filter.1 hy).1
  · rw [show (S.unwait n s).rw t = S.rw t from if_neg e] at hy; exact h.row t m y hy
theorem Few.give {S : St} {T : List Int} (h : Few S T) (n : Int) (s : ByteArray) : Few (S.give n s).1 T := Few.go s _ rfl (h.drop n s)
theorem Few.stop {S : St} {T : List Int} (h : Few S T) (n : Int) : Few (S.stop n).1 T := by
  unfold St.stop
  cases e : S.wt n with
  | none => exact h
  | some x => exact Few.go x.1 _ rfl (h.unwait n x.1)
theorem Few.leaves {T : List Int} (n : Int) : ∀ (ks : List ByteArray) {S : St}, Few S T → Few (St.leaves n ks S).1 T
  | [], _, h => h
  | t :: ks, _, h => Few.leaves n ks (h.give n t)
theorem Few.take {S : St} {T : List Int} (h : Few S T) (n : Int) (s : ByteArray) (x : Bool) (hn : n ∈ T) : Few (S.take n s x).1 T := by
  unfold St.take
  by_cases h1 : n < 0
  · rw [if_pos h1]; exact h
  rw [if_neg h1]
  by_cases h2 : (S.waits n).2 = true ∨ S.holds n s = true
  · rw [if_pos h2]; exact h
  rw [if_neg h2]
  by_cases h3 : S.rw s = [] ∧ S.lets s x = true
  · rw [if_pos h3]
    refine ⟨h.row, fun t m hm => ?_⟩
    by_cases e : t = s
    · subst e
      have hm : m ∈ S.hs t ++ [n] := by rw [← show (S.hold n t x).hs t = S.hs t ++ [n] from if_pos rfl]; exact hm
      rcases List.mem_append.1 hm with hm | hm
      · exact h.hld t m hm
      · rw [List.mem_singleton.1 hm]; exact hn
    · have hm : m ∈ S.hs t := by rw [← show (S.hold n s x).hs t = S.hs t from if_neg e]; exact hm
      exact h.hld t m hm
  rw [if_neg h3]
  by_cases h4 : S.Ring n s
  · rw [if_pos h4]; exact h
  rw [if_neg h4]
  refine ⟨fun t m y hy => ?_, h.hld⟩
  by_cases e : t = s
  · subst e
    have hy : (m, y) ∈ S.rw t ++ [(n, x)] := by rw [← show (S.wait n t x).rw t = S.rw t ++ [(n, x)] from if_pos rfl]; exact hy
    rcases List.mem_append.1 hy with hy | hy
    · exact h.row t m y hy
    · simp at hy
      rw [hy.1]; exact hn
  · have hy : (m, y) ∈ S.rw t := by rw [← show (S.wait n s x).rw t = S.rw t from if_neg e]; exact hy
    exact h.row t m y hy
theorem Few.rowlen {S : St} {T : List Int} (h : Few S T) (hI : Inv S) (s : ByteArray) : (S.rw s).length ≤ T.length := by
  have := nodup_sub T _ (hI.once s) fun n hn => by
    obtain ⟨p, hp, rfl⟩ := List.mem_map.1 hn
    exact h.row s p.1 p.2 hp
  simpa using this
theorem Few.hldlen {S : St} {T : List Int} (h : Few S T) (hI : Inv S) (s : ByteArray) : (S.hs s).length ≤ T.length := nodup_sub T _ (hI.oneh s) fun n hn => h.hld s n hn
/-- Who waits for different locks are different tasks. -/
theorem sumRw_le {S : St} {T : List Int} (h : Few S T) (hI : Inv S) (ks : List ByteArray) (hn : ks.Nodup) : sumRw S ks ≤ T.length := by
  have key : ∀ ks : List ByteArray, sumRw S ks = (ks.flatMap fun t => (S.rw t).map Prod.fst).length := fun ks => by
    induction ks with
    | nil => rfl
    | cons t ks ih =>
      rw [List.flatMap_cons, List.length_append, List.length_map, ← ih]
      rfl
  have hnd : ∀ ks : List ByteArray, ks.Nodup → (ks.flatMap fun t => (S.rw t).map Prod.fst).Nodup := fun ks hk => by
    induction ks with
    | nil => simp
    | cons t ks ih =>
      rw [List.nodup_cons] at hk
      rw [List.flatMap_cons]
      refine List.nodup_append.2 ⟨hI.once t, ih hk.2, fun a ha b hb e => ?_⟩
      subst e
      obtain ⟨u, hu, hb⟩ := List.mem_flatMap.1 hb
      obtain ⟨p, hp, e1⟩ := List.mem_map.1 ha
      obtain ⟨q, hq, e2⟩ := List.mem_map.1 hb
      have h1 := (hI.wait p.1 t p.2).2 hp
      have h2 := (hI.wait q.1 u q.2).2 hq
      rw [e1] at h1
      rw [e2, h1] at h2
      injection h2 with h2
      injection h2 with h2
      exact hk.1 (h2 ▸ hu)
  rw [key]
  refine nodup_sub T _ (hnd ks hn) fun n hm => ?_
  obtain ⟨t, _, hm⟩ := List.mem_flatMap.1 hm
  obtain ⟨p, hp, rfl⟩ := List.mem_map.1 hm
  exact h.row t p.1 p.2 hp
end Go.Proofs.Ytnlfmmempomcaaa
