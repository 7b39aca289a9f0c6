/- Rows of cells of one class: numbers, truths. -/
import Derived.Test.YtnlfmmempomcaaaNj
namespace Go.Proofs.Ytnlfmmempomcaaa
open Go.RowKit Go.Maps
set_option linter.unusedSimpArgs false
/-- A row of one-cell values in a block of a class. -/
def RowG (c e : Nat) (O : Ghost) (v : Value) (vs : List Value) : Prop :=
  (v = .slice none 0 0 ∧ vs = []) ∨ ∃ rb off cp cs, v = .slice (some ⟨rb, off, none⟩) vs.length cp ∧ O rb = some ⟨c, 0, .raw cs e⟩ ∧ off + cp ≤ cs.length ∧ vs.length ≤ cp ∧ cp ≤ maxLen ∧ (cs.drop off).take vs.length = vs
theorem RowG.keep {c e : Nat} {O O' : Ghost} {v : Value} {vs : List Value} (h : RowG c e O v vs) (hk : ∀ q o, O q = some o → o.cl = c → O' q = some o) : RowG c e O' v vs := by
  rcases h with h | ⟨rb, off, cp, cs, h1, h2, h3⟩
  · exact .inl h
  · exact .inr ⟨rb, off, cp, cs, h1, hk _ _ h2 rfl, h3⟩
theorem RowG.shape {c e : Nat} {O : Ghost} {v : Value} {vs : List Value} (h : RowG c e O v vs) : ∃ a cp, v = .slice a vs.length cp ∧ vs.length ≤ cp ∧ cp ≤ maxLen := by
  rcases h with ⟨h, q⟩ | ⟨rb, off, cp, cs, h1, h2, h3, h4, h5, _⟩
  · exact ⟨none, 0, by rw [h, q]; rfl, by rw [q]; exact Nat.le_refl _, by simp [maxLen]⟩
  · exact ⟨_, _, h1, h4, h5⟩
theorem RowG.cell {k c e : Nat} {O : Ghost} {w : World} {v : Value} {vs : List Value} (h : RowG c e O v vs) (hM : Mem k O w) {i : Nat} {u : Value} (hi : vs[i]? = some u) : ∃ b off cp, v = .slice (some ⟨b, off, none⟩) vs.length cp ∧ w.cell? ⟨b, off + i, none⟩ = some u ∧ w.frozen? ⟨b, off + i, none⟩ = false := by
  rcases h with ⟨_, q⟩ | ⟨rb, off, cp, cs, h1, h2, h3, h4, h5, h6⟩
  · rw [q] at hi; cases hi
  · refine ⟨rb, off, cp, h1, ?_, hM.frozen h2 _⟩
    rw [← h6, List.getElem?_take] at hi
    split at hi
    · exact hM.cell h2 (by simpa using hi)
    · cases hi
/-- A cell of a row is written. -/
theorem RowG.set {k c e B : Nat} {O : Ghost} {w : World} {v : Value} {vs : List Value} (h : RowG c e O v vs) (hM : Mem k O w) {i : Nat} (hi : i < vs.length) (u : Value) : ∃ b off cp, v = .slice (some ⟨b, off, none⟩) vs.length cp ∧ ∃ O', Mem k O' (w.setCell ⟨b, off + i, none⟩ u) ∧ Stp c B O O' w (w.setCell ⟨b, off + i, none⟩ u) ∧ RowG c e O' v (vs.set i u) := by
  rcases h with ⟨_, q⟩ | ⟨rb, off, cp, cs, h1, h2, h3, h4, h5, h6⟩
  · rw [q] at hi; exact absurd hi (Nat.not_lt_zero _)
  · refine ⟨rb, off, cp, h1, _, hM.set h2 _ u, Stp.set h2 _ u, .inr ⟨rb, off, cp, _, by rw [h1, List.length_set], put_same _ _ _, by rw [List.length_set]; exact h3, by rw [List.length_set]; exact h4, h5, ?_⟩⟩
    rw [List.length_set]
    conv => rhs; rw [← h6]
    apply List.ext_getElem?
    intro j
    rw [List.getElem?_take, List.getElem?_drop, List.getElem?_set, List.getElem?_set, List.getElem?_take, List.getElem?_drop]
    have hl : ((cs.drop off).take vs.length).length = vs.length := by rw [h6]
    by_cases hij : i = j
    · subst hij
      rw [if_pos hi, if_pos rfl, if_pos rfl, if_pos (by omega), if_pos (by rw [hl]; exact hi)]
    · have h7 : ¬ off + i = off + j := by omega
      simp only [hij, h7, if_false]
/-- The row is cut. -/
theorem RowG.cut {c e : Nat} {O : Ghost} {vs : List Value} {n : Nat} {a : Option Addr} {cp : Nat} (h : RowG c e O (.slice a vs.length cp) vs) (hn : n ≤ vs.length) (h0 : 0 < vs.length) : RowG c e O (.slice a n cp) (vs.take n) := by
  rcases h with ⟨_, q⟩ | ⟨rb, off, cp', cs, h1, h2, h3, h4, h5, h6⟩
  · rw [q] at h0; exact absurd h0 (by simp)
  · injection h1 with h1 h1a h1b
    subst h1; subst h1b
    have hl : (vs.take n).length = n := by rw [List.length_take]; omega
    refine .inr ⟨rb, off, cp, cs, by rw [hl], h2, h3, by rw [hl]; omega, h5, ?_⟩
    rw [hl]
    conv => rhs; rw [← h6]
    rw [List.take_take, Nat.min_eq_left hn]
/-- What is to be known of a type of rows. -/
structure RowT (t e by_ : Nat) : Prop where
  un : Try.prog.underlying t = some (.slice e)
  info : ∃ i z, Try.prog.info? e = some i ∧ i.zero = some z ∧ i.size = 1 ∧ i.bytes = by_ ∧ z.cells.size = 1
  small : by_ ≤ 8
theorem rowT_of {t e by_ : Nat} (h0 : Try.prog.underlying t = some (.slice e)) (h : (Try.prog.info? e).map (fun i => (i.zero.map (fun z => z.cells.size), i.size, i.bytes)) = some (some 1, 1, by_)) (hb : by_ ≤ 8) : RowT t e by_ := by
  refine ⟨h0, ?_, hb⟩
  cases hq : Try.prog.info? e with
  | none => simp [hq] at h
  | some i =>
    simp [hq] at h
    obtain ⟨⟨z, hz, h1⟩, h2, h3⟩ := h
    exact ⟨i, z, rfl, hz, h2, h3, h1⟩
theorem row38 : RowT 38 3 8 := rowT_of Try.underlying38 (by kernel_rfl) (by decide)
theorem row55 : RowT 55 4 1 := rowT_of Try.underlying55 (by kernel_rfl) (by decide)
def app55 (ty : TypeId) (args : Array Value) : Sem Value := Builtin.append_ #[55, 55] ty args
@[go_sem ↓] theorem append_app55 (ty : TypeId) (args : Array Value) : Builtin.append_ #[55, 55] ty args = app55 ty args := rfl
theorem rowg_new {k B c e : Nat} {O : Ghost} {w w' : World} {v' : Value} {n : Nat} {vs : List Value} (hM : Mem k O w) (hB : B ≤ w.heap.size) (hg : w.grownBy w' none) (h : w'.ownsRow w.heap.size e 1 v' n vs) (hn : n = vs.length) (h0 : 0 < n) :
    ∃ O', Mem k O' w' ∧ Stp c B O O' w w' ∧ RowG c e O' v' vs := by
  obtain ⟨h1, h2⟩ := h
  rcases h2 with ⟨_, e⟩ | ⟨g, cap, cur, hv, hgs, hh, hnc, hcm, hcs, hct⟩
  · omega
  · have hO : O g = none := hM.out' hgs
    refine ⟨put O g ⟨c, 0, .raw cur.toList e⟩, fun q o hq => ?_, ⟨hg.os, hg.tape, hg.output, hg.size, fun q h1 _ => hg.block q (by omega) (by simp), fun q h1 h2 => by rw [put_other _ _ (by omega)]; exact h2, fun q o h1 _ => by rw [put_other _ _ (fun e => by rw [e, hO] at h1; cases h1)]; exact h1⟩, ?_⟩
    · unfold put at hq
      split at hq
      · rename_i e
        subst e
        injection hq with hq
        subst hq
        exact hh
      · exact (hM q o hq).same (hg.block q (hM.lt hq) (by simp))
    · refine .inr ⟨g, 0, cap, cur.toList, by rw [hv, hn], put_same _ _ _, ?_, by omega, hcm, ?_⟩
      · rw [Array.length_toList, hcs]; omega
      · rw [List.drop_zero, ← hn, ← hct, Nat.mul_one]
/-- A value joins a row. -/
theorem RowG.push {t e by_ k B c : Nat} (T : RowT t e by_) {O : Ghost} {w : World} {v : Value} {vs : List Value} (hM : Mem k O w) (h : RowG c e O v vs) (hB : B ≤ w.heap.size) (hl : vs.length ≤ 100000) (u : Value) (hu : u.oneCell' = true) :
    ∃ v' w' O', (∀ ty, (Builtin.append_ #[t, t] ty #[v, .slice (some ⟨w.heap.size, 0, none⟩) 1 1]).run Try.prog (w.alloc (.cells #[u] e)) = .ok v' w') ∧ Mem k O' w' ∧ Stp c B O O' w w' ∧ RowG c e O' v' (vs ++ [u]) := by
  obtain ⟨i, z, hi, hz, hsz, hby, hzs⟩ := T.info
  have h8 := T.small
  obtain ⟨W, hW⟩ : ∃ W, W = w.alloc (.cells #[u] e) := ⟨_, rfl⟩
  have hMW : Mem k O W := by rw [hW]; exact hM.loose _
  have hsW : Stp c B O O w W := by rw [hW]; exact Stp.loose O hB _
  have hzW : W.heap.size = w.heap.size + 1 := by rw [hW]; simp
  have hBW : B ≤ W.heap.size := by omega
  have hnew : ∀ j x, [u][j]? = some x → W.cell? (Addr.add ⟨w.heap.size, 0, none⟩ j) = some x := by rw [hW]; exact cell_one_new w u e
  have hone : ∀ x ∈ [u], x.oneCell' = true := fun x hx => by simp at hx; subst hx; exact hu
  have e1 : vs.length + 1 = (vs ++ [u]).length := by simp
  rw [← hW]
  have h63 : vs.length + 1 ≤ maxLen := by simp only [maxLen]; omega
  have hbyt : (vs.length + 1) * by_ ≤ 140737488355328 := Nat.le_trans (Nat.mul_le_mul (show vs.length + 1 ≤ 100001 by omega) h8) (by decide)
  rcases h with ⟨rfl, rfl⟩ | ⟨rb, off, cp, cs, rfl, h2, h3, h4, h5, h6⟩
  · obtain ⟨v', w', hr, hown, hgr, _⟩ := run_append_own_at (P := Try.prog) W W.heap.size t t e i z 1 by_ T.un hi hz hsz hby hzs (by omega) _ 0 [] (World.ownsRow_nil _ _ _ _) ⟨w.heap.size, 0, none⟩ 1 1 [u] rfl hnew hone h63 hbyt (Nat.le_refl _)
    obtain ⟨O', q1, q2, q3⟩ := rowg_new (B := B) (c := c) (vs := [u]) hMW hBW hgr hown rfl (by omega)
    exact ⟨v', w', O', fun _ => hr, q1, hsW.trans q2, q3⟩
  · have holds : ∀ j x, vs[j]? = some x → W.cell? ⟨rb, off + j, none⟩ = some x := fun j x hj => by
      rw [← h6, List.getElem?_take] at hj
      split at hj
      · exact hMW.cell h2 (by simpa using hj)
      · cases hj
    by_cases hroom : vs.length + 1 ≤ cp
    · have hlt : off + vs.length < cs.length := by omega
      have hr : ∀ ty, (Builtin.append_ #[t, t] ty #[.slice (some ⟨rb, off, none⟩) vs.length cp, .slice (some ⟨w.heap.size, 0, none⟩) 1 1]).run Try.prog W = .ok (.slice (some ⟨rb, off, none⟩) (vs.length + 1) cp) (W.setCell ⟨rb, off + vs.length, none⟩ u) := fun ty => by
        have := run_append_room_cells (P := Try.prog) W t ty e i T.un hi rb off vs.length cp ⟨w.heap.size, 0, none⟩ 1 1 [u] (by rw [hsz]; rfl) hnew hone hroom (fun j hj => by
          simp at hj
          subst hj
          rw [hsz, Nat.mul_one, Nat.add_zero, hMW.cell h2 (List.getElem?_eq_getElem hlt)]
          rfl) (fun j hj => hMW.frozen h2 _)
        rw [hsz, Nat.mul_one] at this
        exact this
      refine ⟨_, _, _, hr, hMW.set h2 _ _, hsW.trans (Stp.set h2 _ _), .inr ⟨rb, off, cp, cs.set (off + vs.length) u, by rw [e1], put_same _ _ _, by rw [List.length_set]; exact h3, by rw [← e1]; exact hroom, h5, ?_⟩⟩
      conv => rhs; rw [← h6]
      rw [← e1]
      apply List.ext_getElem?
      intro j
      rw [List.getElem?_take, List.getElem?_drop, List.getElem?_set]
      have hlen : ((cs.drop off).take vs.length).length = vs.length := by rw [h6]
      by_cases hj : j < vs.length
      · rw [if_pos (by omega), if_neg (by omega), List.getElem?_append_left (by rw [hlen]; exact hj), List.getElem?_take, if_pos hj, List.getElem?_drop]
      · by_cases hj2 : j = vs.length
        · subst hj2
          rw [if_pos (by omega), if_pos rfl, if_pos hlt, List.getElem?_append_right (by omega), hlen]
          simp
        · rw [if_neg (by omega), List.getElem?_append_right (by omega), hlen]
          rw [List.getElem?_eq_none (by simp; omega)]
    · obtain ⟨v', w', hr, hown, hgr⟩ := run_append_arg_grows (P := Try.prog) W t t e i z 1 by_ T.un hi hz hsz hby hzs (by omega) ⟨rb, off, none⟩ vs.length cp vs (by simp) (fun j x hj => by rw [Addr.add_lit]; exact holds j x hj) ⟨w.heap.size, 0, none⟩ 1 1 [u] rfl hnew (by omega) h63 hbyt
      obtain ⟨O', q1, q2, q3⟩ := rowg_new (B := B) (c := c) (vs := vs ++ [u]) hMW hBW hgr hown e1 (by omega)
      exact ⟨v', w', O', fun _ => hr, q1, hsW.trans q2, q3⟩
end Go.Proofs.Ytnlfmmempomcaaa
