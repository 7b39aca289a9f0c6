/- Rows of pointers to jobs. -/
import Derived.Test.YtnlfmmempomcaaaMg
import Derived.ArgAppend
import Derived.Maps.AppendAt
namespace Go.Proofs.Ytnlfmmempomcaaa
open Go.RowKit Go.Maps
set_option linter.unusedSimpArgs false
/-- A row of pointers, owned by a Run. -/
def RowJ (O : Ghost) (b : Nat) (v : Value) (xs : List Nat) : Prop :=
  (v = .slice none 0 0 ∧ xs = []) ∨ ∃ rb off c cs, v = .slice (some ⟨rb, off, none⟩) xs.length c ∧ O rb = some ⟨3, b, .raw cs 113⟩ ∧ off + c ≤ cs.length ∧ xs.length ≤ c ∧ c ≤ maxLen ∧ (cs.drop off).take xs.length = xs.map fun g => ptr (some g)
section
variable {O O' : Ghost}
theorem RowJ.re {b : Nat} {v : Value} {xs : List Nat} (h : RowJ O b v xs) (hk : ∀ q o, O q = some o → o.own = b → O' q = some o) : RowJ O' b v xs := by
  rcases h with h | ⟨rb, off, c, cs, h1, h2, h3⟩
  · exact .inl h
  · exact .inr ⟨rb, off, c, cs, h1, hk _ _ h2 rfl, h3⟩
end
def app105 (ty : TypeId) (args : Array Value) : Sem Value := Builtin.append_ #[105, 105] ty args
@[go_sem ↓] theorem append_app105 (ty : TypeId) (args : Array Value) : Builtin.append_ #[105, 105] ty args = app105 ty args := rfl
theorem info113 : ∃ i z, Try.prog.info? 113 = some i ∧ i.zero = some z ∧ i.size = 1 ∧ i.bytes = 8 ∧ z.cells.size = 1 := by
  have h : (Try.prog.info? 113).map (fun i => (i.zero.map (fun z => z.cells.size), i.size, i.bytes)) = some (some 1, 1, 8) := by kernel_rfl
  cases hq : Try.prog.info? 113 with
  | none => simp [hq] at h
  | some i =>
    simp [hq] at h
    obtain ⟨⟨z, hz, h1⟩, h2, h3⟩ := h
    exact ⟨i, z, rfl, hz, h2, h3, h1⟩
/-- A row in a new block. -/
theorem rowj_new {k B : Nat} {O : Ghost} {w w' : World} {b : Nat} {v' : Value} {n : Nat} {xs : List Nat} (hM : Mem k O w) (hB : B ≤ w.heap.size) (hg : w.grownBy w' none) (h : w'.ownsRow w.heap.size 113 1 v' n (xs.map fun g => ptr (some g))) (hn : n = xs.length) (h0 : 0 < n) :
    ∃ O', Mem k O' w' ∧ Stp 3 B O O' w w' ∧ RowJ O' b v' xs ∧ ∀ q o, O q = some o → O' q = some o := by
  obtain ⟨h1, h2⟩ := h
  rcases h2 with ⟨_, e⟩ | ⟨g, cap, cur, hv, hgs, hh, hnc, hcm, hcs, hct⟩
  · omega
  · have hO : O g = none := hM.out' hgs
    refine ⟨put O g ⟨3, b, .raw cur.toList 113⟩, fun q o hq => ?_, ⟨hg.os, hg.tape, hg.output, hg.size, fun q h1 _ => hg.block q (by omega) (by simp), fun q h1 h2 => by rw [put_other _ _ (by omega)]; exact h2, fun q o h1 _ => by rw [put_other _ _ (fun e => by rw [e, hO] at h1; cases h1)]; exact h1⟩, ?_, fun q o hq => by rw [put_other _ _ (fun e => by rw [e, hO] at hq; cases hq)]; exact hq⟩
    · unfold put at hq
      split at hq
      · rename_i e
        subst e
        injection hq with hq
        subst hq
        exact hh
      · exact (hM q o hq).same (hg.block q (hM.lt hq) (by simp))
    · refine .inr ⟨g, 0, cap, cur.toList, by rw [hv, hn], put_same _ _ _, ?_, by omega, hcm, ?_⟩
      · rw [Array.length_toList, hcs]; omega
      · rw [List.drop_zero, ← hct, hn, Nat.mul_one]
theorem RowJ.push {k B : Nat} {O : Ghost} {w : World} {b : Nat} {v : Value} {xs : List Nat} (hM : Mem k O w) (h : RowJ O b v xs) (hB : B ≤ w.heap.size) (hl : xs.length ≤ 100000) (a : Nat) :
    ∃ v' w' O', (∀ ty, (app105 ty #[v, .slice (some ⟨w.heap.size, 0, none⟩) 1 1]).run Try.prog (w.alloc (.cells #[.pointer (some ⟨a, 0, none⟩)] 113)) = .ok v' w') ∧ Mem k O' w' ∧ Stp 3 B O O' w w' ∧ RowJ O' b v' (xs ++ [a]) ∧ (∀ q o, O q = some o → (o.own ≠ b ∨ ∀ cs, o.th ≠ .raw cs 113) → O' q = some o) := by
  obtain ⟨i, z, hi, hz, hsz, hby, hzs⟩ := info113
  obtain ⟨W, hW⟩ : ∃ W, W = w.alloc (.cells #[.pointer (some ⟨a, 0, none⟩)] 113) := ⟨_, rfl⟩
  have hMW : Mem k O W := by rw [hW]; exact hM.loose _
  have hsW : Stp 3 B O O w W := by rw [hW]; exact Stp.loose O hB _
  have hzW : W.heap.size = w.heap.size + 1 := by rw [hW]; simp
  have hBW : B ≤ W.heap.size := by omega
  have hnew : ∀ j u, [Value.pointer (some ⟨a, 0, none⟩)][j]? = some u → W.cell? (Addr.add ⟨w.heap.size, 0, none⟩ j) = some u := by rw [hW]; exact cell_one_new w (.pointer (some ⟨a, 0, none⟩)) 113
  have hone : ∀ u ∈ [Value.pointer (some ⟨a, 0, none⟩)], u.oneCell' = true := fun u hu => by simp at hu; subst hu; rfl
  have e2 : (xs ++ [a]).map (fun g => ptr (some g)) = xs.map (fun g => ptr (some g)) ++ [.pointer (some ⟨a, 0, none⟩)] := by simp [ptr]
  have e1 : xs.length + 1 = (xs ++ [a]).length := by simp
  rw [← hW]
  have h63 : xs.length + 1 ≤ maxLen := by simp only [maxLen]; omega
  rcases h with ⟨rfl, rfl⟩ | ⟨rb, off, c, cs, rfl, h2, h3, h4, h5, h6⟩
  · obtain ⟨v', w', hr, hown, hgr, _⟩ := run_append_own_at (P := Try.prog) W W.heap.size 105 105 113 i z 1 8 Try.underlying105 hi hz hsz hby hzs (by omega) _ 0 [] (World.ownsRow_nil _ _ _ _) ⟨w.heap.size, 0, none⟩ 1 1 [.pointer (some ⟨a, 0, none⟩)] rfl hnew hone h63 (by omega) (Nat.le_refl _)
    obtain ⟨O', q1, q2, q3, q4⟩ := rowj_new (B := B) (b := b) (xs := [a]) hMW hBW hgr hown rfl (by omega)
    exact ⟨v', w', O', fun _ => hr, q1, hsW.trans q2, q3, fun q o h _ => q4 q o h⟩
  · have holds : ∀ j u, (xs.map fun g => ptr (some g))[j]? = some u → W.cell? ⟨rb, off + j, none⟩ = some u := fun j u hj => by
      rw [← h6, List.getElem?_take] at hj
      split at hj
      · exact hMW.cell h2 (by simpa using hj)
      · cases hj
    by_cases hroom : xs.length + 1 ≤ c
    · have hlt : off + xs.length < cs.length := by omega
      have hr : ∀ ty, (app105 ty #[.slice (some ⟨rb, off, none⟩) xs.length c, .slice (some ⟨w.heap.size, 0, none⟩) 1 1]).run Try.prog W = .ok (.slice (some ⟨rb, off, none⟩) (xs.length + 1) c) (W.setCell ⟨rb, off + xs.length, none⟩ (.pointer (some ⟨a, 0, none⟩))) := fun ty => by
        have := run_append_room_cells (P := Try.prog) W 105 ty 113 i Try.underlying105 hi rb off xs.length c ⟨w.heap.size, 0, none⟩ 1 1 [.pointer (some ⟨a, 0, none⟩)] (by rw [hsz]; rfl) hnew hone hroom (fun j hj => by
          simp at hj
          subst hj
          rw [hsz, Nat.mul_one, Nat.add_zero, hMW.cell h2 (List.getElem?_eq_getElem hlt)]
          rfl) (fun j hj => hMW.frozen h2 _)
        rw [hsz, Nat.mul_one] at this
        exact this
      refine ⟨_, _, _, hr, hMW.set h2 _ _, hsW.trans (Stp.set h2 _ _), .inr ⟨rb, off, c, cs.set (off + xs.length) (ptr (some a)), by rw [e1], put_same _ _ _, by rw [List.length_set]; exact h3, by rw [← e1]; exact hroom, h5, ?_⟩, fun q o hq ho => ?_⟩
      · rw [e2, ← h6, ← e1]
        apply List.ext_getElem?
        intro j
        rw [List.getElem?_take, List.getElem?_drop, List.getElem?_set]
        by_cases hj : j < xs.length
        · rw [if_pos (by omega), if_neg (by omega), List.getElem?_append_left (by rw [h6]; simpa using hj), List.getElem?_take, if_pos hj, List.getElem?_drop]
        · have hlen : ((cs.drop off).take xs.length).length = xs.length := by rw [h6]; simp
          by_cases hj2 : j = xs.length
          · subst hj2
            rw [if_pos (by omega), if_pos rfl, if_pos hlt, List.getElem?_append_right (by omega), hlen]
            simp [ptr]
          · rw [if_neg (by omega), List.getElem?_append_right (by omega), hlen]
            rw [List.getElem?_eq_none (by simp; omega)]
      · refine (put_other _ _ fun e => ?_).trans hq
        rw [e, h2] at hq
        have e5 := Option.some.inj hq
        rcases ho with ho | ho
        · exact ho (congrArg Ob.own e5).symm
        · exact ho cs (congrArg Ob.th e5).symm
    · obtain ⟨v', w', hr, hown, hgr⟩ := run_append_arg_grows (P := Try.prog) W 105 105 113 i z 1 8 Try.underlying105 hi hz hsz hby hzs (by omega) ⟨rb, off, none⟩ xs.length c (xs.map fun g => ptr (some g)) (by simp) (fun j u hj => by rw [Addr.add_lit]; exact holds j u hj) ⟨w.heap.size, 0, none⟩ 1 1 [.pointer (some ⟨a, 0, none⟩)] rfl hnew (by omega) h63 (by omega)
      rw [← e2] at hown
      obtain ⟨O', q1, q2, q3, q4⟩ := rowj_new (B := B) (b := b) (xs := xs ++ [a]) hMW hBW hgr hown e1 (by omega)
      exact ⟨v', w', O', fun _ => hr, q1, hsW.trans q2, q3, fun q o h _ => q4 q o h⟩
/-- A row of pointers in a new block that nobody knows. -/
def Ptrs (base : Nat) (O : Ghost) (w : World) (v : Value) (xs : List Nat) : Prop := w.ownsRow base 113 1 v xs.length (xs.map (fun g => ptr (some g))) ∧ ∀ g, v.ownBlock = some g → O g = none
theorem Ptrs.nil (base : Nat) (O : Ghost) (w : World) : Ptrs base O w (.slice none 0 0) [] := ⟨World.ownsRow_nil _ _ _ _, fun g e => by cases e⟩
theorem Ptrs.lt {base : Nat} {O : Ghost} {w : World} {v : Value} {xs : List Nat} (h : Ptrs base O w v xs) {g : Nat} (e : v.ownBlock = some g) : g < w.heap.size ∧ base ≤ g := by
  obtain ⟨⟨h1, h2⟩, _⟩ := h
  rcases h2 with ⟨h2, _⟩ | ⟨g', cap, cur, hv, hg, hh, r⟩
  · rw [h2] at e; cases e
  · rw [hv] at e
    injection e with e
    subst e
    exact ⟨(Array.getElem?_eq_some_iff.1 hh).1, hg⟩
theorem Ptrs.kept {base : Nat} {O O' : Ghost} {w w' : World} {v : Value} {xs : List Nat} (h : Ptrs base O w v xs) {c : Nat} (hs : Stp c w.heap.size O O' w w') : Ptrs base O' w' v xs :=
  ⟨ownsRow_same h.1 fun g e => hs.rest g (h.lt e).1 (h.2 g e), fun g e => hs.dom g (h.lt e).1 (h.2 g e)⟩
/-- A pointer joins a row of pointers. -/
theorem Ptrs.grow {k base : Nat} {O : Ghost} {w : World} {v : Value} {xs : List Nat} (hM : Mem k O w) (h : Ptrs base O w v xs) (hB : base ≤ w.heap.size) (hl : xs.length ≤ 100000) (x : Nat) :
    ∃ v' w3, (∀ ty, (app105 ty #[v, .slice (some ⟨w.heap.size, 0, none⟩) 1 1]).run Try.prog (w.alloc (.cells #[ptr (some x)] 113)) = .ok v' w3) ∧ Ptrs base O w3 v' (xs ++ [x]) ∧ w.grownBy w3 v.ownBlock ∧ Mem k O w3 := by
  obtain ⟨i, z, hi, hz, hsz, hby, hzs⟩ := info113
  obtain ⟨v', w3, hr, hown, hgr, _, hloc⟩ := run_append_own_at (P := Try.prog) (w.alloc (.cells #[ptr (some x)] 113)) base 105 105 113 i z 1 8 Try.underlying105 hi hz hsz hby hzs (by omega) _ xs.length _ (h.1.alloc _) ⟨w.heap.size, 0, none⟩ 1 1 [ptr (some x)] rfl (cell_one_new w (ptr (some x)) 113) (fun u hu => by simp at hu; subst hu; rfl) (by simp only [maxLen]; omega) (by omega) (by simp; omega)
  have e : (xs ++ [x]).length = xs.length + 1 := by simp
  have e2 : (xs ++ [x]).map (fun g => ptr (some g)) = xs.map (fun g => ptr (some g)) ++ [ptr (some x)] := by simp
  have hg := (World.grownBy_alloc w (.cells #[ptr (some x)] 113) v.ownBlock).trans hgr
  refine ⟨v', w3, fun _ => hr, ⟨by rw [e, e2]; exact hown, fun g eg => ?_⟩, hg, hM.grown hg h.2⟩
  rcases hloc with hl | hl
  · exact h.2 g (hl.symm.trans eg)
  · rw [hl] at eg
    have eg' : (w.alloc (.cells #[ptr (some x)] 113)).heap.size = g := Option.some.inj eg
    rw [World.size_alloc] at eg'
    exact hM.out' (eg' ▸ Nat.le_succ _)
end Go.Proofs.Ytnlfmmempomcaaa
