/- Pages: rows of pages, and a Pager in memory. -/
import Derived.Test.YtebcmicmklpflaaGreatDoorPi
namespace Go.Proofs.YtebcmicmklpflaaGreatDoor
open Go.RowKit Go.Maps
set_option linter.unusedSimpArgs false
/-- A page: its bytes, or none if it is free. -/
abbrev Pge := Option (List UInt8)
/-- A row of pages, all of it in blocks of O. -/
def PgR (w : World) (O : Nat → Prop) (v : Value) (ps : List Pge) : Prop :=
  ∃ vals : List Value, w.ownsRow 0 145 2 v ps.length vals ∧ (∀ q, v.ownBlock = some q → O q) ∧ ∀ (j : Nat) (d : Pge), ps[j]? = some d → vals[j * 2]? = some (.bool d.isSome) ∧ ∃ sv, vals[j * 2 + 1]? = some sv ∧ Rec w O sv (d.getD [])
theorem PgR.nil (w : World) (O : Nat → Prop) : PgR w O (.slice none 0 0) [] := ⟨[], ⟨rfl, .inl ⟨rfl, rfl⟩⟩, fun _ e => (by simp [Value.ownBlock] at e), fun j d e => by simp at e⟩
theorem PgR.shape {w : World} {O : Nat → Prop} {v : Value} {ps : List Pge} (h : PgR w O v ps) : ∃ a c, v = .slice a ps.length c ∧ ps.length ≤ c ∧ c ≤ maxLen := by
  obtain ⟨vals, ⟨h1, h2⟩, _⟩ := h
  rcases h2 with ⟨rfl, h3⟩ | ⟨g, cap, cur, rfl, _, _, h4, h5, _⟩
  · exact ⟨none, 0, by rw [h3], by omega, by simp [maxLen]⟩
  · exact ⟨_, cap, rfl, h4, h5⟩
theorem Rec.slice {w : World} {O : Nat → Prop} {v : Value} {d : List UInt8} (h : Rec w O v d) : ∃ a l c, v = .slice a l c := by
  obtain ⟨a, c, e, _⟩ := h
  exact ⟨a, _, c, e⟩
theorem PgR.at {w : World} {O : Nat → Prop} {v : Value} {ps : List Pge} (h : PgR w O v ps) {j : Nat} (hj : j < ps.length) :
    ∃ g c sv, v = .slice (some ⟨g, 0, none⟩) ps.length c ∧ O g ∧ v.ownBlock = some g ∧ w.cell? ⟨g, j * 2, none⟩ = some (.bool ps[j].isSome) ∧ w.cell? ⟨g, j * 2 + 1, none⟩ = some sv ∧ Rec w O sv (ps[j].getD []) ∧ (∀ i, w.frozen? ⟨g, i, none⟩ = false) ∧ (∃ cur, w.heap[g]? = some (.cells cur 145 (0, 0))) ∧ ps.length ≤ c ∧ c ≤ maxLen := by
  obtain ⟨vals, ⟨h1, h2⟩, h3, h4⟩ := h
  rcases h2 with ⟨_, h5⟩ | ⟨g, cap, cur, rfl, _, hg, h6, h7, h8, h9⟩
  · omega
  · obtain ⟨e1, sv, e2, hr⟩ := h4 j ps[j] (List.getElem?_eq_getElem hj)
    have at_ : ∀ i x, vals[i]? = some x → w.cell? ⟨g, i, none⟩ = some x := fun i x hx => by
      simp only [World.cell?, hg]
      rw [← h9, List.getElem?_take] at hx
      split at hx
      · rw [← Array.getElem?_toList]; exact hx
      · cases hx
    exact ⟨g, cap, sv, rfl, h3 g rfl, rfl, at_ _ _ e1, at_ _ _ e2, hr, fun i => by simp [World.frozen?, hg], ⟨cur, hg⟩, h6, h7⟩
theorem PgR.kept {w w' : World} {O O' : Nat → Prop} {v : Value} {ps : List Pge} (h : PgR w O v ps) (hO : ∀ q, O q → O' q) (hv : ∀ q, v.ownBlock = some q → w'.heap[q]? = w.heap[q]?) (hd : ∀ q cur, O q → w.heap[q]? = some (.cells cur 5 (0, 0)) → w'.heap[q]? = w.heap[q]?) : PgR w' O' v ps := by
  obtain ⟨vals, h1, h3, h4⟩ := h
  refine ⟨vals, ownsRow_kept h1 hv, fun q e => hO q (h3 q e), fun j d e => ?_⟩
  obtain ⟨e1, sv, e2, a, c, f1, f2, f3, f4⟩ := h4 j d e
  refine ⟨e1, sv, e2, a, c, f1, f2, f3, fun h0 => ?_⟩
  obtain ⟨g, cur, ea, ho, hg, hp⟩ := f4 h0
  exact ⟨g, cur, ea, hO g ho, (hd g cur ho hg).trans hg, hp⟩
theorem Rec.kept5 {w w' : World} {O O' : Nat → Prop} {v : Value} {d : List UInt8} (h : Rec w O v d) (hO : ∀ q, O q → O' q) (hd : ∀ q cur, O q → w.heap[q]? = some (.cells cur 5 (0, 0)) → w'.heap[q]? = w.heap[q]?) : Rec w' O' v d := by
  obtain ⟨a, c, f1, f2, f3, f4⟩ := h
  refine ⟨a, c, f1, f2, f3, fun h0 => ?_⟩
  obtain ⟨g, cur, ea, ho, hg, hp⟩ := f4 h0
  exact ⟨g, cur, ea, hO g ho, (hd g cur ho hg).trans hg, hp⟩
/-- One page of a row is another one. -/
theorem PgR.put {w w' : World} {O O' : Nat → Prop} {v : Value} {ps : List Pge} {g n : Nat} {d : Pge} {sv : Value} (h : PgR w O v ps) (hn : n < ps.length) (hv : v.ownBlock = some g) (hO : ∀ q, O q → O' q)
    (hg : w'.heap[g]? = ((w.setCell ⟨g, n * 2, none⟩ (.bool d.isSome)).setCell ⟨g, n * 2 + 1, none⟩ sv).heap[g]?) (hd : ∀ q cur, O q → w.heap[q]? = some (.cells cur 5 (0, 0)) → w'.heap[q]? = w.heap[q]?) (hs : Rec w' O' sv (d.getD [])) : PgR w' O' v (ps.set n d) := by
  obtain ⟨vals, ⟨h1, h2⟩, h3, h4⟩ := h
  rcases h2 with ⟨rfl, h5⟩ | ⟨g', cap, cur, rfl, hb, hc, h6, h7, h8, h9⟩
  · omega
  · obtain rfl : g' = g := by simpa [Value.ownBlock] using hv
    have hw1 := setCell_block (n * 2) (.bool d.isSome) hc
    have hw2 := setCell_block (n * 2 + 1) sv hw1
    refine ⟨(vals.set (n * 2) (.bool d.isSome)).set (n * 2 + 1) sv, ⟨by simp [h1], .inr ⟨g', cap, _, by simp, Nat.zero_le _, hg.trans hw2, by simpa using h6, h7, by simp [h8], ?_⟩⟩, fun q e => hO q (h3 q e), fun j e he => ?_⟩
    · rw [← h9]
      simp only [Array.toList_setIfInBounds, List.length_set]
      rw [List.take_set, List.take_set]
    · by_cases e1 : j = n
      · subst e1
        rw [List.getElem?_set_self hn] at he
        cases he
        refine ⟨?_, sv, ?_, hs⟩
        · rw [List.getElem?_set_ne (by omega), List.getElem?_set_self (by omega)]
        · rw [List.getElem?_set_self (by simp; omega)]
      · rw [List.getElem?_set_ne (Ne.symm e1)] at he
        obtain ⟨f1, sv', f2, f3⟩ := h4 j e he
        refine ⟨?_, sv', ?_, f3.kept5 hO hd⟩
        · rw [List.getElem?_set_ne (by omega), List.getElem?_set_ne (by omega)]; exact f1
        · rw [List.getElem?_set_ne (by omega), List.getElem?_set_ne (by omega)]; exact f2
def appP (ty : TypeId) (args : Array Value) : Sem Value := Builtin.append_ #[134, 134] ty args
@[go_sem ↓] theorem append_appP (ty : TypeId) (args : Array Value) : Builtin.append_ #[134, 134] ty args = appP ty args := rfl
set_option maxRecDepth 20000 in
theorem info145 : ∃ i z, Tryz.prog.info? 145 = some i ∧ i.zero = some z ∧ i.size = 2 ∧ i.bytes = 32 ∧ z.cells.size = 2 := by
  have h : (Tryz.prog.info? 145).map (fun i => (i.zero.map (fun z => z.cells.size), i.size, i.bytes)) = some (some 2, 2, 32) := by kernel_rfl
  cases hq : Tryz.prog.info? 145 with
  | none => simp [hq] at h
  | some i =>
    simp [hq] at h
    obtain ⟨⟨z, hz, h1⟩, h2, h3⟩ := h
    exact ⟨i, z, rfl, hz, h2, h3, h1⟩
/-- A Pager as mathematics. -/
structure Pgr where
  last : List Pge
  now : List Pge
  free : Nat → Bool
  dirty : Nat → Bool
  dead : Bool
def Pgr.chg (S : Pgr) (n : Nat) (d : Pge) : Pgr := { S with now := S.now.set n d, free := mset S.free n (!d.isSome), dirty := mset S.dirty n true }
def Pgr.grow (S : Pgr) : Pgr := { S with now := S.now ++ [none] }
/-- A Pager in memory: its block p, all else in blocks of O. -/
structure PgM (w : World) (p : Nat) (F : Fl) (S : Pgr) (O : Nat → Prop) (lv nv : Value) : Prop where
  pb : PB w p (pcell F lv nv S.free S.dirty S.dead)
  rl : PgR w O lv S.last
  rn : PgR w O nv S.now
  sep : ∀ q, nv.ownBlock = some q → lv.ownBlock ≠ some q
  np : ¬ O p
  lt : ∀ q, O q → q < w.heap.size
  len : S.now.length ≤ 16384
/-- The blocks of a Pager. -/
def Pown (p : Nat) (O : Nat → Prop) : Nat → Prop := fun q => q = p ∨ O q
theorem chg_heap {w : World} {p b n : Nat} {t : Bool} {sv : Value} {fr di : Nat → Bool} {q : Nat} (hq : q < w.heap.size) (h1 : q ≠ p) : (chgW w p b n t sv fr di).heap[q]? = ((w.setCell ⟨b, n * 2, none⟩ (.bool t)).setCell ⟨b, n * 2 + 1, none⟩ sv).heap[q]? := by
  unfold chgW chgW2
  rw [Below.heap_setCell _ _ _ _ h1, Below.heap_setCell _ _ _ _ h1]
  show (chgW1 w b n t sv).heap[q]? = _
  unfold chgW1
  exact Below.heap_alloc _ _ _ (by simpa using hq)
theorem pchange_ok {w : World} {p : Nat} {F : Fl} {S : Pgr} {O : Nat → Prop} {lv nv : Value} (h : PgM w p F S O lv nv) (n : Nat) (hn : n < S.now.length) (d : Pge) (sv : Value) (hs : Rec w O sv (d.getD [])) :
    Calls Tryz.prog 76 #[.pointer (some ⟨p, 0, none⟩), .int .i64 (n : Int), .agg #[.bool d.isSome, sv]] w fun e w' => e = .returned (.tuple #[]) ∧ PgM w' p F (S.chg n d) O lv nv ∧ FFr (Pown p O) (Pown p O) w w' := by
  obtain ⟨g, c, x1, rfl, hOg, hvb, c0, c1, _, hz, ⟨cur, hcur⟩, _, _⟩ := h.rn.at hn
  have hgp : g ≠ p := fun e => h.np (e ▸ hOg)
  have hlen := h.len
  refine (change_raw p g n S.now.length c d.isSome sv _ _ w F lv S.free S.dirty S.dead h.pb hgp hn hlen c0 c1 hz hs.slice).mono ?_
  rintro e w' ⟨rfl, rfl⟩
  have hnp : ∀ q, O q → q ≠ p := fun q ho e => h.np (e ▸ ho)
  have hdat : ∀ q cur, O q → w.heap[q]? = some (.cells cur 5 (0, 0)) → (chgW w p g n d.isSome sv S.free S.dirty).heap[q]? = w.heap[q]? := fun q cu ho hq => by
    have hqg : q ≠ g := by
      rintro rfl
      rw [hcur] at hq
      injection hq with hq
      injection hq with _ hq _
      cases hq
    rw [chg_heap (h.lt q ho) (hnp q ho), Below.heap_setCell _ _ _ _ hqg, Below.heap_setCell _ _ _ _ hqg]
  refine ⟨rfl, ⟨?_, ?_, ?_, h.sep, h.np, ?_, by simpa [Pgr.chg] using h.len⟩, ?_⟩
  · have hP1 := chg1_pb (n := n) (t := d.isSome) (sv := sv) h.pb hgp
    have hP1d := hP1.kept (w' := (chgW1 w g n d.isSome sv).drew) rfl
    exact (hP1d.setFree n (by omega) (!d.isSome)).setDirty n (by omega) true
  · refine h.rl.kept (fun _ o => o) (fun q e => ?_) hdat
    obtain ⟨vals, _, ho, _⟩ := h.rl
    have hqg : q ≠ g := fun e1 => h.sep g rfl (e1 ▸ e)
    rw [chg_heap (h.lt q (ho q e)) (hnp q (ho q e)), Below.heap_setCell _ _ _ _ hqg, Below.heap_setCell _ _ _ _ hqg]
  · exact h.rn.put hn hvb (fun _ o => o) (chg_heap (h.lt g hOg) hgp) hdat (hs.kept5 (fun _ o => o) hdat)
  · intro q ho
    have := h.lt q ho
    simp [chgW, chgW2, chgW1]
    omega
  · refine ⟨rfl, rfl, rfl, by simp [chgW, chgW2, chgW1], fun q h1 h2 => ?_, fun q hq => .inl hq⟩
    have hqp : q ≠ p := fun e => h2 (.inl e)
    have hqg : q ≠ g := fun e => h2 (.inr (e ▸ hOg))
    rw [chg_heap h1 hqp, Below.heap_setCell _ _ _ _ hqg, Below.heap_setCell _ _ _ _ hqg]
end Go.Proofs.YtebcmicmklpflaaGreatDoor
