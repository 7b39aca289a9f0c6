/- Pages: all lasts as it is now. -/
import Derived.Test.YtebcmicmklpflaaGreatDoorPl
namespace Go.Proofs.YtebcmicmklpflaaGreatDoor
open Go.RowKit Go.Shelf Go.Great Go.Maps
attribute [local go_sem] Oper.semAt_some
set_option linter.unusedSimpArgs false
/-- Pages of one row laid over another one. -/
def over (now : List Pge) : List Nat → List Pge → List Pge
  | [], L => L
  | x :: xs, L => over now xs (L.set x (now[x]?.getD none))
theorem over_len (now : List Pge) : ∀ (xs : List Nat) (L : List Pge), (over now xs L).length = L.length
  | [], _ => rfl
  | x :: xs, L => by rw [over, over_len now xs]; simp
theorem over_take (now : List Pge) : ∀ (xs : List Nat) (L : List Pge) (i : Nat) (hi : i < xs.length), over now (xs.take (i + 1)) L = (over now (xs.take i) L).set xs[i] (now[xs[i]]?.getD none)
  | x :: xs, L, 0, _ => rfl
  | x :: xs, L, i + 1, hi => by
    simp only [List.take_succ_cons, over]
    exact over_take now xs _ i (by simpa using hi)
theorem over_get (now : List Pge) : ∀ (xs : List Nat) (L : List Pge) (j : Nat), j < L.length → L.length = now.length → (over now xs L)[j]? = if j ∈ xs then now[j]? else L[j]?
  | [], L, j, _, _ => by simp [over]
  | x :: xs, L, j, hj, hl => by
    rw [over, over_get now xs _ j (by simpa using hj) (by simpa using hl)]
    by_cases h1 : j ∈ xs
    · simp [h1]
    · by_cases h2 : j = x
      · subst h2
        have : now[j]? = some now[j] := List.getElem?_eq_getElem (by omega)
        simp [h1, hj, this]
      · simp [h1, h2, List.getElem?_set_ne (Ne.symm h2)]
/-- What stands between two calls of a Pager. -/
structure Pgr.Ok (S : Pgr) : Prop where
  le : S.last.length ≤ S.now.length
  same : ∀ n, n < S.last.length → S.dirty n = false → S.now[n]? = S.last[n]?
  dlt : ∀ n, S.dirty n = true → n < S.now.length
  fre : ∀ n, S.free n = true ↔ S.now[n]? = some none
  max : S.now.length ≤ 16384
theorem over_all {S : Pgr} (h : S.Ok) : over S.now (lst S.dirty 0 16384) (S.last ++ S.now.drop S.last.length) = S.now := by
  have hle := h.le
  have hl : (S.last ++ S.now.drop S.last.length).length = S.now.length := by simp; omega
  refine List.ext_getElem? fun j => ?_
  by_cases hj : j < S.now.length
  · rw [over_get _ _ _ _ (by omega) hl]
    split
    · rfl
    · rename_i hm
      have hd : S.dirty j = false := by
        cases hd : S.dirty j with
        | false => rfl
        | true => exact absurd ((lst_mem 16384 0).2 ⟨Nat.zero_le _, by have := h.max; omega, hd⟩) hm
      by_cases h2 : j < S.last.length
      · rw [List.getElem?_append_left h2, h.same j h2 hd]
      · rw [List.getElem?_append_right (by omega), List.getElem?_drop]
        congr 1
        omega
  · rw [List.getElem?_eq_none (by rw [over_len, hl]; omega), List.getElem?_eq_none (by omega)]
/-- All lasts. -/
def Pgr.keep (S : Pgr) : Pgr := { S with last := S.now, dirty := fun _ => false }
theorem zer_block (w : World) (g o q : Nat) (hq : q ≠ g) : ∀ k, (zer w g o k).heap[q]? = w.heap[q]?
  | 0 => rfl
  | k + 1 => by
    show ((zer w g o k).setCell ⟨g, o + k, none⟩ (.int .u64 0)).heap[q]? = _
    rw [Below.heap_setCell _ _ _ _ hq, zer_block w g o q hq k]
theorem zer_size (w : World) (g o : Nat) : ∀ k, (zer w g o k).heap.size = w.heap.size
  | 0 => rfl
  | k + 1 => by
    show ((zer w g o k).setCell ⟨g, o + k, none⟩ (.int .u64 0)).heap.size = _
    rw [World.size_setCell, zer_size w g o k]
theorem zer_pb {w : World} {p : Nat} {c : Nat → Value} (h : PB w p c) : ∀ k, k ≤ 256 → PB (zer w p 520 k) p (fun i => if 520 ≤ i ∧ i < 520 + k then .int .u64 0 else c i)
  | 0, _ => h.congr fun i _ => by rw [if_neg (by omega)]
  | k + 1, hk => by
    refine ((zer_pb h k (by omega)).set (i := 520 + k) (by omega) (.int .u64 0)).congr fun i hi => ?_
    unfold updC
    dsimp only
    by_cases e : i = 520 + k
    · rw [if_pos e, if_pos (by omega)]
    · rw [if_neg e]
      by_cases e2 : 520 ≤ i ∧ i < 520 + k
      · rw [if_pos e2, if_pos (by omega)]
      · rw [if_neg e2, if_neg (by omega)]
theorem word_none (k : Nat) : word (fun _ => false) k = 0 := word_zero fun _ _ => rfl
theorem zer_pcell {w : World} {p : Nat} {F : Fl} {lv nv : Value} {fr di : Nat → Bool} {dd : Bool} (h : PB w p (pcell F lv nv fr di dd)) : PB (zer w p 520 256) p (pcell F lv nv fr (fun _ => false) dd) := by
  refine (zer_pb h 256 (Nat.le_refl _)).congr fun i hi => ?_
  by_cases e : 520 ≤ i ∧ i < 520 + 256
  · rw [if_pos e]
    obtain ⟨k, rfl⟩ : ∃ k, i = 520 + k := ⟨i - 520, by omega⟩
    rw [pcell_dirty _ _ _ _ _ _ k (by omega), word_none]
    rfl
  · rw [if_neg e]
    unfold pcell
    by_cases h5 : i < 520
    · simp [h5]
    · have h7 : ¬ i < 776 := by omega
      simp [h5, h7]
/-- No mark is left. -/
theorem pclear_ok {w : World} {p : Nat} {F : Fl} {S : Pgr} {O : Nat → Prop} {lv nv : Value} (h : PgM w p F S O lv nv) :
    Calls Tryz.prog 94 #[.pointer (some ⟨p, 520, none⟩)] w fun e w' => e = .returned (.tuple #[]) ∧ PgM w' p F { S with dirty := fun _ => false } O lv nv ∧ FFr (Pown p O) (Pown p O) w w' := by
  refine (mclear_ok p 520 w (fun k hk => ⟨_, h.pb.words_dirty k hk⟩) (fun k => h.pb.frozen k)).mono ?_
  rintro e w' ⟨rfl, rfl⟩
  obtain ⟨_, _, o1, _⟩ := h.rl
  obtain ⟨_, _, o2, _⟩ := h.rn
  have hk : ∀ q, O q → (zer w p 520 256).heap[q]? = w.heap[q]? := fun q o => zer_block w p 520 q (fun e => h.np (e ▸ o)) 256
  refine ⟨rfl, ⟨zer_pcell h.pb, h.rl.kept (fun _ o => o) (fun q e => hk q (o1 q e)) (fun q _ o _ => hk q o), h.rn.kept (fun _ o => o) (fun q e => hk q (o2 q e)) (fun q _ o _ => hk q o), h.sep, h.np, fun q o => by rw [zer_size]; exact h.lt q o, h.len⟩, ?_⟩
  have hos : ∀ k, (zer w p 520 k).os = w.os ∧ (zer w p 520 k).tape = w.tape ∧ (zer w p 520 k).output = w.output := fun k => by
    induction k with
    | zero => exact ⟨rfl, rfl, rfl⟩
    | succ k ih => exact ih
  exact ⟨(hos 256).1, (hos 256).2.1, (hos 256).2.2, by rw [zer_size]; exact Nat.le_refl _, fun q _ h2 => zer_block w p 520 q (fun e => h2 (.inl e)) 256, fun q hq => .inl hq⟩
/-- A page that lasts is another one. -/
theorem PgM.putLast {w : World} {p : Nat} {F : Fl} {S : Pgr} {O : Nat → Prop} {lv nv : Value} (h : PgM w p F S O lv nv) {n g : Nat} (hn : n < S.last.length) (hg : lv.ownBlock = some g) {d : Pge} {sv : Value} (hs : Rec w O sv (d.getD [])) (hc : ∃ cur, w.heap[g]? = some (.cells cur 145 (0, 0))) :
    PgM ((w.setCell ⟨g, n * 2, none⟩ (.bool d.isSome)).setCell ⟨g, n * 2 + 1, none⟩ sv) p F { S with last := S.last.set n d } O lv nv ∧ FFr (Pown p O) (Pown p O) w ((w.setCell ⟨g, n * 2, none⟩ (.bool d.isSome)).setCell ⟨g, n * 2 + 1, none⟩ sv) := by
  obtain ⟨cur, hcur⟩ := hc
  have o1 : O g := by obtain ⟨_, _, o1, _⟩ := h.rl; exact o1 g hg
  obtain ⟨_, _, o2, _⟩ := h.rn
  have hother : ∀ q, q ≠ g → ((w.setCell ⟨g, n * 2, none⟩ (.bool d.isSome)).setCell ⟨g, n * 2 + 1, none⟩ sv).heap[q]? = w.heap[q]? := fun q hq => by
    rw [Below.heap_setCell _ _ _ _ hq, Below.heap_setCell _ _ _ _ hq]
  have hdat : ∀ q cu, O q → w.heap[q]? = some (.cells cu 5 (0, 0)) → ((w.setCell ⟨g, n * 2, none⟩ (.bool d.isSome)).setCell ⟨g, n * 2 + 1, none⟩ sv).heap[q]? = w.heap[q]? := fun q cu _ hq => by
    refine hother q (fun e => ?_)
    subst e
    rw [hcur] at hq
    injection hq with hq
    injection hq with _ hq _
    cases hq
  have hpg : p ≠ g := fun e => h.np (e ▸ o1)
  refine ⟨⟨h.pb.kept (hother p hpg), h.rl.put hn hg (fun _ o => o) rfl hdat (hs.kept5 (fun _ o => o) hdat), h.rn.kept (fun _ o => o) (fun q e => hother q (fun e1 => h.sep q e (e1 ▸ hg))) hdat, h.sep, h.np, fun q o => by simpa using h.lt q o, h.len⟩, rfl, rfl, rfl, by simp, fun q _ h2 => hother q (fun e => h2 (.inr (e ▸ o1))), fun q hq => .inl hq⟩
end Go.Proofs.YtebcmicmklpflaaGreatDoor
