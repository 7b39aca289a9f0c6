/- Pages: one page more; what is there; Put, Free, Get. -/
import Derived.Test.YtebcmicmklpflaaGreatDoorPj
namespace Go.Proofs.YtebcmicmklpflaaGreatDoor
open Go.RowKit Go.Maps
set_option linter.unusedSimpArgs false
theorem cell_two_new (w : World) (x y : Value) (t : TypeId) (j : Nat) (u : Value) (hj : [x, y][j]? = some u) : (w.alloc (.cells #[x, y] t)).cell? ((⟨w.heap.size, 0, none⟩ : Addr).add j) = some u := by
  have key : ∀ (W : World) (b : Nat), W.heap[b]? = some (.cells #[x, y] t) → W.cell? ((⟨b, 0, none⟩ : Addr).add j) = some u := by
    intro W b hb
    match j, hj with
    | 0, hj => simpa [World.cell?, Addr.add, hb] using hj
    | 1, hj => simpa [World.cell?, Addr.add, hb] using hj
    | j + 2, hj => simp at hj
  exact key _ _ (World.alloc_heap_new w (.cells #[x, y] t))
theorem pg_grow {w : World} {nv : Value} {n : Nat} {xs : List Value} (h : w.ownsRow 0 145 2 nv n xs) (hn : n ≤ 16384) :
    ∃ nv' w3, (∀ ty, (appP ty #[nv, .slice (some ⟨w.heap.size, 0, none⟩) 1 1]).run Tryz.prog (w.alloc (.cells #[.bool false, .slice none 0 0] 145)) = .ok nv' w3) ∧ w3.ownsRow 0 145 2 nv' (n + 1) (xs ++ [.bool false, .slice none 0 0]) ∧ w.grownBy w3 nv.ownBlock ∧ (nv'.ownBlock = nv.ownBlock ∨ nv'.ownBlock = some (w.heap.size + 1)) := by
  obtain ⟨i, z, hi, hz, hsz, hby, hzs⟩ := info145
  obtain ⟨gv', w3, hr, hown, hgr, hnil, hloc⟩ := run_append_own_at (P := Tryz.prog) (w.alloc (.cells #[.bool false, .slice none 0 0] 145)) 0 134 134 145 i z 2 32 Tryz.underlying134 hi hz hsz hby hzs (by omega) nv n xs (h.alloc _) ⟨w.heap.size, 0, none⟩ 1 1 [.bool false, .slice none 0 0] rfl (cell_two_new w _ _ 145) (fun u hu => by simp at hu; rcases hu with rfl | rfl <;> rfl) (by simp only [maxLen]; omega) (by omega) (Nat.zero_le _)
  exact ⟨gv', w3, fun _ => hr, hown, (World.grownBy_alloc w _ _).trans hgr, by rwa [World.size_alloc] at hloc⟩
theorem PgM.now_at {w : World} {p : Nat} {F : Fl} {S : Pgr} {O : Nat → Prop} {lv nv : Value} (h : PgM w p F S O lv nv) : w.cell? ⟨p, 263, none⟩ = some nv := h.pb.cell (by omega)
theorem PgM.last_at {w : World} {p : Nat} {F : Fl} {S : Pgr} {O : Nat → Prop} {lv nv : Value} (h : PgM w p F S O lv nv) : w.cell? ⟨p, 262, none⟩ = some lv := h.pb.cell (by omega)
theorem PgM.dead_at {w : World} {p : Nat} {F : Fl} {S : Pgr} {O : Nat → Prop} {lv nv : Value} (h : PgM w p F S O lv nv) : w.cell? ⟨p, 776, none⟩ = some (.bool S.dead) := h.pb.cell (by omega)
/-- A Pager that is as it was, in a world that is as it was there. -/
theorem PgM.kept {w w' : World} {p : Nat} {F : Fl} {S : Pgr} {O : Nat → Prop} {lv nv : Value} (h : PgM w p F S O lv nv) (hs : w.heap.size ≤ w'.heap.size) (hk : ∀ q, Pown p O q → w'.heap[q]? = w.heap[q]?) : PgM w' p F S O lv nv := by
  obtain ⟨v1, _, o1, _⟩ := h.rl
  obtain ⟨v2, _, o2, _⟩ := h.rn
  exact ⟨h.pb.kept (hk p (.inl rfl)), h.rl.kept (fun _ o => o) (fun q e => hk q (.inr (o1 q e))) (fun q _ o _ => hk q (.inr o)), h.rn.kept (fun _ o => o) (fun q e => hk q (.inr (o2 q e))) (fun q _ o _ => hk q (.inr o)), h.sep, h.np, fun q o => Nat.lt_of_lt_of_le (h.lt q o) hs, h.len⟩
theorem PgM.below {w w' : World} {p : Nat} {F : Fl} {S : Pgr} {O : Nat → Prop} {lv nv : Value} (h : PgM w p F S O lv nv) (hb : Below w.heap.size w w') : PgM w' p F S O lv nv :=
  h.kept hb.size (fun q o => hb.block q (o.elim (fun e => e ▸ h.pb.lt) (h.lt q)))
/-- More blocks may be counted as the Pager's. -/
theorem PgM.more {w : World} {p : Nat} {F : Fl} {S : Pgr} {O O' : Nat → Prop} {lv nv : Value} (h : PgM w p F S O lv nv) (hO : ∀ q, O q → O' q) (hp : ¬ O' p) (hl : ∀ q, O' q → q < w.heap.size) : PgM w p F S O' lv nv :=
  ⟨h.pb, h.rl.kept hO (fun _ _ => rfl) (fun _ _ _ _ => rfl), h.rn.kept hO (fun _ _ => rfl) (fun _ _ _ _ => rfl), h.sep, hp, hl, h.len⟩
set_option maxRecDepth 20000 in
set_option maxHeartbeats 1000000 in
theorem pgrow_ok {w : World} {p : Nat} {F : Fl} {S : Pgr} {O : Nat → Prop} {lv nv : Value} (h : PgM w p F S O lv nv) (hn : S.now.length < 16384) :
    Calls Tryz.prog 77 #[.pointer (some ⟨p, 0, none⟩)] w fun e w' => e = .returned (.int .i64 (S.now.length : Int)) ∧ ∃ O' nv', PgM w' p F S.grow O' lv nv' ∧ (∀ q, O q → O' q) ∧ FFr (Pown p O) (Pown p O') w w' := by
  obtain ⟨a, c, rfl, hc1, hc2⟩ := h.rn.shape
  obtain ⟨vals, hrow, hob, hps⟩ := h.rn
  obtain ⟨nv', w3, hr, hown, hgr, hloc⟩ := pg_grow hrow (by omega)
  obtain ⟨a', c', rfl⟩ : ∃ a' c', nv' = .slice a' (S.now.length + 1) c' := by
    rcases hown.2 with ⟨_, e0⟩ | ⟨g, cap, cur, e0, _⟩
    · omega
    · exact ⟨_, _, e0⟩
  have hpo : ∀ q, O q → q ≠ p := fun q o e => h.np (e ▸ o)
  have hp3 : w3.heap[p]? = w.heap[p]? := hgr.block p h.pb.lt (fun e => h.np (hob p e.symm))
  have hpb3 := h.pb.kept hp3
  have c263 := h.now_at
  have d263 : w3.cell? ⟨p, 263, none⟩ = some (.slice a S.now.length c) := hpb3.cell (by omega)
  have f263 : w3.frozen? ⟨p, 263, none⟩ = false := hpb3.frozen _
  have hpl := h.pb.lt
  have hfin : ∃ O' nv', PgM (w3.setCell ⟨p, 263, none⟩ (.slice a' (S.now.length + 1) c')) p F S.grow O' lv nv' ∧ (∀ q, O q → O' q) ∧ FFr (Pown p O) (Pown p O') w (w3.setCell ⟨p, 263, none⟩ (.slice a' (S.now.length + 1) c')) := by
    have hs3 := hgr.size
    have hn3 : ∀ g, (Value.slice a' (S.now.length + 1) c').ownBlock = some g → g < w3.heap.size ∧ g ≠ p := fun g e => by
      rcases hown.2 with ⟨_, e0⟩ | ⟨g', cap, cur, e0, _, hg', _⟩
      · omega
      · have eg : g' = g := by
          rw [e0] at e
          simpa [Value.ownBlock] using e
        subst eg
        refine ⟨(Array.getElem?_eq_some_iff.1 hg').1, ?_⟩
        rcases hloc with h1 | h1
        · rw [e] at h1; exact hpo _ (hob _ h1.symm)
        · rw [e] at h1
          injection h1 with h1
          omega
    have hk : ∀ q, q ≠ p → (w3.setCell ⟨p, 263, none⟩ (.slice a' (S.now.length + 1) c')).heap[q]? = w3.heap[q]? := fun q hq => Below.heap_setCell _ _ _ _ hq
    have hdat : ∀ q cur, O q → w.heap[q]? = some (.cells cur 5 (0, 0)) → (w3.setCell ⟨p, 263, none⟩ (.slice a' (S.now.length + 1) c')).heap[q]? = w.heap[q]? := fun q cur o hq => by
      rw [hk q (hpo q o)]
      refine hgr.block q (h.lt q o) (fun e => ?_)
      rcases hrow.2 with ⟨e0, _⟩ | ⟨g', cap, cur', e0, _, hg', _⟩
      · rw [e0] at e; simp [Value.ownBlock] at e
      · rw [e0] at e
        have : q = g' := by simpa [Value.ownBlock] using e
        subst this
        rw [hg'] at hq
        injection hq with hq
        injection hq with _ hq _
        cases hq
    refine ⟨fun q => O q ∨ (Value.slice a' (S.now.length + 1) c').ownBlock = some q, .slice a' (S.now.length + 1) c', ⟨hpb3.setNow _, ?_, ?_, ?_, ?_, ?_, by simp [Pgr.grow]; omega⟩, fun q o => .inl o, ?_⟩
    · refine h.rl.kept (fun _ o => .inl o) (fun q e => ?_) hdat
      obtain ⟨_, _, ol, _⟩ := h.rl
      rw [hk q (hpo q (ol q e))]
      exact hgr.block q (h.lt q (ol q e)) (fun e1 => h.sep q e1.symm e)
    · refine ⟨_, ownsRow_kept (w' := w3.setCell ⟨p, 263, none⟩ (.slice a' (S.now.length + 1) c')) (by simpa [Pgr.grow] using hown) (fun q e => hk q (hn3 q e).2), fun q e => .inr e, fun j d e => ?_⟩
      by_cases hj : j < S.now.length
      · have e' : S.now[j]? = some d := by simpa [Pgr.grow, List.getElem?_append_left hj] using e
        obtain ⟨f1, sv, f2, f3⟩ := hps j d e'
        have hvl : vals.length = S.now.length * 2 := hrow.1
        exact ⟨by rw [List.getElem?_append_left (by omega)]; exact f1, sv, by rw [List.getElem?_append_left (by omega)]; exact f2, f3.kept5 (fun _ o => .inl o) hdat⟩
      · have hvl : vals.length = S.now.length * 2 := hrow.1
        have hj2 : j = S.now.length := by
          have := (List.getElem?_eq_some_iff.1 e).1
          simp [Pgr.grow] at this
          omega
        subst hj2
        have e' : d = none := by simpa [Pgr.grow] using e.symm
        subst e'
        refine ⟨by rw [List.getElem?_append_right (by omega)]; simp [hvl], .slice none 0 0, by rw [List.getElem?_append_right (by omega)]; simp [hvl], ?_⟩
        exact ⟨none, 0, rfl, Nat.le_refl _, by simp [maxLen], fun h => absurd h (Nat.lt_irrefl _)⟩
    · intro q e1 e2
      rcases hloc with h1 | h1
      · rw [e1] at h1; exact h.sep q h1.symm e2
      · rw [e1] at h1
        injection h1 with h1
        obtain ⟨_, _, ol, _⟩ := h.rl
        have := h.lt q (ol q e2)
        omega
    · rintro (o | e)
      · exact h.np o
      · exact (hn3 p e).2 rfl
    · rintro q (o | e)
      · have := h.lt q o; simp; omega
      · have := (hn3 q e).1; simpa using this
    · refine ⟨hgr.os, hgr.tape, hgr.output, by simpa using hs3, fun q h1 h2 => ?_, fun q hq => ?_⟩
      · rw [hk q (fun e => h2 (.inl e))]
        exact hgr.block q h1 (fun e => h2 (.inr (hob q e.symm)))
      · rcases hq with rfl | o | e
        · exact .inl (.inl rfl)
        · exact .inl (.inr o)
        · rcases hloc with h1 | h1
          · rw [e] at h1; exact .inl (.inr (hob q h1.symm))
          · rw [e] at h1; injection h1 with h1; exact .inr (by omega)
  have HF := hide hfin
  have hln : (S.now.length : Int) ≤ 16384 := by omega
  clear hfin hpo hp3 hpb3 hown hgr hloc hob hps hrow h
  generalize S.now.length = N at *
  go_enter Tryz.func77, Tryz.ntmps77
  go_wp2_with fail
  go_ret
  exact ⟨by simp, unhide HF⟩
end Go.Proofs.YtebcmicmklpflaaGreatDoor
