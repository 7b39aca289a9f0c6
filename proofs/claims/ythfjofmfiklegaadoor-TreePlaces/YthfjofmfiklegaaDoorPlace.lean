/- isPlace, in the code. -/
import Derived.Test.YthfjofmfiklegaaDoorSeq
import Derived.Test.YthfjofmfiklegaaDoorKeep
namespace Go.Proofs.YthfjofmfiklegaaDoor
open Go.RowKit Go.Shelf
attribute [local go_sem] Oper.semAt_some
theorem splitSeq_any (s : ByteArray) (w : World) : Calls Tryd.prog 51 #[.string s, .string ⟨#[47]⟩] w fun e w' => e = .returned (.func (.func 84) #[] #[.pointer (some ⟨w.heap.size + 1, 0, none⟩), .pointer (some ⟨w.heap.size, 0, none⟩), .pointer (some ⟨w.heap.size + 1 + 1, 0, none⟩)]) ∧ w' = ((w.alloc (.cells #[.string s] 9)).alloc (.cells #[.string ⟨#[47]⟩] 9)).alloc (.cells #[.int .i64 0] 3) := by
  go_enter Tryd.func51, Tryd.ntmps51
  go_wp2
  go_ret
  exact ⟨rfl, rfl⟩
/-- What stands while the parts of a place are gone through. -/
structure Pl (w : World) (l D : Nat) (r : Loop) (W : World) : Prop where
  old : Below w.heap.size w W
  res : W.heap[w.heap.size]? = some (.cells #[.bool false] 4)
  str : ∃ v, W.heap[w.heap.size + 1]? = some (.cells #[v] 9)
  sep : W.heap[w.heap.size + 1 + 1]? = some (.cells #[.string ⟨#[47]⟩] 9)
  nul : W.heap[w.heap.size + 1 + 1 + 1]? = some (.cells #[.int .i64 0] 3)
  rcd : W.heap[l]? = some (.loop r)
  dfr : W.heap[D]? = some (.deferred (some []))
theorem cell0 {W : World} {b : Nat} {v : Value} {t : TypeId} (h : W.heap[b]? = some (.cells #[v] t)) : W.cell? ⟨b, 0, none⟩ = some v ∧ W.frozen? ⟨b, 0, none⟩ = false := by
  refine ⟨?_, ?_⟩
  · unfold World.cell?; rw [show W.heap[b]? = _ from h]; rfl
  · unfold World.frozen?; rw [show W.heap[b]? = _ from h]; simp
theorem set0 {W : World} {b : Nat} {v u : Value} {t : TypeId} (h : W.heap[b]? = some (.cells #[v] t)) : (W.setCell ⟨b, 0, none⟩ u).heap[b]? = some (.cells #[u] t) := by
  simp [World.setCell, Array.getElem?_modify, h]
theorem Pl.set {w W : World} {l D : Nat} {r : Loop} (h : Pl w l D r W) (v : Value) (hl : w.heap.size + 1 < l) (hD : w.heap.size + 1 < D) : Pl w l D r (W.setCell ⟨w.heap.size + 1, 0, none⟩ v) := by
  obtain ⟨h1, h2, ⟨u, h3⟩, h4, h5, h6, h7⟩ := h
  exact ⟨h1.setCell (by simp) _, by rw [set_other _ _ _ _ _ (by omega)]; exact h2, ⟨v, set0 h3⟩, by rw [set_other _ _ _ _ _ (by omega)]; exact h4, by rw [set_other _ _ _ _ _ (by omega)]; exact h5, by rw [set_other _ _ _ _ _ (by omega)]; exact h6, by rw [set_other _ _ _ _ _ (by omega)]; exact h7⟩
theorem Pl.put {w W : World} {l D : Nat} {r : Loop} (h : Pl w l D r W) (r' : Loop) (hl : w.heap.size + 1 + 1 + 1 < l) (hD : D ≠ l) : Pl w l D r' (W.putObj l (.loop r')) := by
  obtain ⟨h1, h2, ⟨u, h3⟩, h4, h5, h6, h7⟩ := h
  have hlt := (Array.getElem?_eq_some_iff.1 h6).1
  exact ⟨h1.grown (grownBy_putObj' W l _) (Nat.le_trans (Nat.le_refl _) h1.size) (fun k e => by cases e; omega), by rw [World.putObj_heap_other (by omega)]; exact h2, ⟨u, by rw [World.putObj_heap_other (by omega)]; exact h3⟩, by rw [World.putObj_heap_other (by omega)]; exact h4, by rw [World.putObj_heap_other (by omega)]; exact h5, World.putObj_heap_same hlt, by rw [World.putObj_heap_other hD]; exact h7⟩
theorem Pl.setRes {w W : World} {l D : Nat} {r : Loop} (h : Pl w l D r W) (hl : w.heap.size + 1 < l) (hD : w.heap.size + 1 < D) : Pl w l D r (W.setCell ⟨w.heap.size, 0, none⟩ (.bool false)) := by
  obtain ⟨h1, h2, ⟨u, h3⟩, h4, h5, h6, h7⟩ := h
  exact ⟨h1.setCell (by simp) _, set0 h2, ⟨u, by rw [set_other _ _ _ _ _ (by omega)]; exact h3⟩, by rw [set_other _ _ _ _ _ (by omega)]; exact h4, by rw [set_other _ _ _ _ _ (by omega)]; exact h5, by rw [set_other _ _ _ _ _ (by omega)]; exact h6, by rw [set_other _ _ _ _ _ (by omega)]; exact h7⟩
set_option maxRecDepth 20000 in
/-- A loop over the parts of a place whose round asks each and leaves the function at the first that is no name. -/
theorem split_law {assign body : Code} {Q : Exit → Act → World → Prop} {a : Act} {w W0 : World} {g : Operand} {p : Tmp} (parts : List ByteArray) (a1 : ByteArray → Act)
    (hne : parts ≠ []) (h47 : ∀ s ∈ parts, (47 : UInt8) ∉ s.data.toList) (hmax : (joinB parts).size ≤ 1000000)
    (hg : a.eval g = .func (.func 84) #[] #[.pointer (some ⟨w.heap.size + 1 + 1, 0, none⟩), .pointer (some ⟨w.heap.size + 1, 0, none⟩), .pointer (some ⟨w.heap.size + 1 + 1 + 1, 0, none⟩)])
    (hold : Below w.heap.size w W0) (hsz : W0.heap.size = w.heap.size + 1 + 1 + 1 + 1) (hres : W0.heap[w.heap.size]? = some (.cells #[.bool false] 4)) (hstr : W0.heap[w.heap.size + 1]? = some (.cells #[.string (joinB parts)] 9)) (hsep : W0.heap[w.heap.size + 1 + 1]? = some (.cells #[.string ⟨#[47]⟩] 9)) (hnul : W0.heap[w.heap.size + 1 + 1 + 1]? = some (.cells #[.int .i64 0] 3))
    (hassign : ∀ (l : Nat) (x : ByteArray) (W : World) (K : Act → World → Prop), K (a1 x) W → assign.wpIn (Fence.wide.inRound l) 1 Tryd.prog (Exit.then K (fun _ _ _ => False)) { tmps := (#[p].zip #[Value.string x]).foldl (fun t (p, v) => t.setIfInBounds p v) a.tmps, defers := [] } W)
    (hbody : ∀ (l : Nat) (x : ByteArray) (W : World) (R : Exit → Act → World → Prop), x.size ≤ 1000000 → W.heap[w.heap.size]? = some (.cells #[.bool false] 4) → (entB x = true → ∀ a', R .normal a' W) → (entB x = false → ∀ a', R .ret a' (W.setCell ⟨w.heap.size, 0, none⟩ (.bool false))) → body.wpIn (Fence.wide.inRound l) 1 Tryd.prog R (a1 x) W)
    (hdone : ∀ (r : Loop) (W : World), Pl w (W0.heap.size + 1) W0.heap.size r W → (∀ s ∈ parts, entB s = true) → Q .normal { a with defers := { target := .collected W0.heap.size, args := #[] } :: a.defers } W)
    (hstop : ∀ (r : Loop) (W : World), Pl w (W0.heap.size + 1) W0.heap.size r W → (∃ s ∈ parts, entB s = false) → Code.ret.wpIn Fence.wide 3 Tryd.prog Q { a with defers := { target := .collected W0.heap.size, args := #[] } :: a.defers } W) :
    (Code.rangeFunc g #[p] assign body).wpIn Fence.wide 3 Tryd.prog Q a W0 := by
  refine wpIn_rangeFunc ?_
  intro fn hfn
  obtain ⟨rc, hrc⟩ : ∃ rc : LoopState → Option Code → Loop, rc = fun st pe => { state := st, pending := pe, fn, tmps := a.tmps, params := #[p], assign, body, defers := W0.heap.size } := ⟨_, rfl⟩
  obtain ⟨W1, hW1⟩ : ∃ W1, (W0.alloc (.deferred (some []))).alloc (.loop (rc .ready none)) = W1 := ⟨_, rfl⟩
  have hb1 : Below W0.heap.size W0 W1 := by rw [← hW1]; exact ((Below.refl _ _).alloc (Nat.le_refl _) _).alloc (by simp) _
  have hP1 : Pl w (W0.heap.size + 1) W0.heap.size (rc .ready none) W1 := by
    refine ⟨hold.trans (hb1.mono (by omega)), by rw [hb1.block _ (by omega)]; exact hres, ⟨_, by rw [hb1.block _ (by omega)]; exact hstr⟩, by rw [hb1.block _ (by omega)]; exact hsep, by rw [hb1.block _ (by omega)]; exact hnul, ?_, ?_⟩
    · rw [← hW1]; have := World.alloc_heap_new (W0.alloc (.deferred (some []))) (.loop (rc .ready none)); rwa [World.size_alloc] at this
    · rw [← hW1]; exact (Below.heap_alloc _ _ _ (by simp)).trans (World.alloc_heap_new W0 _)
  refine ⟨W0.heap.size + 1, [{ target := .collected W0.heap.size, args := #[] }], W1, { target := .fn (.func 84) #[.pointer (some ⟨w.heap.size + 1 + 1, 0, none⟩), .pointer (some ⟨w.heap.size + 1, 0, none⟩), .pointer (some ⟨w.heap.size + 1 + 1 + 1, 0, none⟩)], args := #[.func (.yield (W0.heap.size + 1)) #[] #[]] }, W1, 84, #[.func (.yield (W0.heap.size + 1)) #[] #[]] ++ #[.pointer (some ⟨w.heap.size + 1 + 1, 0, none⟩), .pointer (some ⟨w.heap.size + 1, 0, none⟩), .pointer (some ⟨w.heap.size + 1 + 1 + 1, 0, none⟩)], W1, ?_, ?_, fun _ _ => trivial, ?_, fun _ => by omega, ?_⟩
  · rw [← hW1, hrc]; exact run_enterLoop_outer _ _ _ _ _
  · simp only [resolve, hg]
    simp [go_sem]
  · simp [invoke, go_sem]
  refine CallsIn.mono (seq_in 2 (W0.heap.size + 1) (w.heap.size + 1) (w.heap.size + 1 + 1) (w.heap.size + 1 + 1 + 1) parts
    (fun pre W => (∀ s ∈ pre, entB s = true) ∧ Pl w (W0.heap.size + 1) W0.heap.size (rc .ready none) W)
    (fun pre W => (∃ s ∈ pre, entB s = false) ∧ Pl w (W0.heap.size + 1) W0.heap.size (rc .done (some .ret)) W)
    hne h47 hmax ?_ ?_ ⟨by omega, by omega⟩ ?_ W1 ⟨fun s hs => by simp at hs, hP1⟩ ?_) ?_
  · rintro pre W ⟨_, h⟩
    obtain ⟨v, hv⟩ := h.str
    exact ⟨(cell0 h.sep).1, (cell0 h.nul).1, (cell0 hv).2⟩
  · rintro pre W v ⟨h1, h2⟩
    exact ⟨h1, h2.set v (by omega) (by omega)⟩
  · rintro pre x W hxm ⟨h1, h2⟩
    have hxs := join_mem hxm
    have hy := run_yield (P := Tryd.prog) (args := #[.string x]) h2.rcd (by rw [hrc]; rfl)
    rw [hrc] at hy
    refine ⟨fn, _, assign, body, hy, roundIn_of_wpIn hfn (hassign _ x W _ ⟨_, run_beginRound h2.rcd (by rw [hrc]), ?_⟩)⟩
    have h3 := h2.put { rc .ready none with state := .busy } (by omega) (by omega)
    refine hbody _ x _ _ (by omega) h3.res (fun he a' => ?_) (fun he a' => ?_)
    · refine ⟨_, _, run_endRound none h3.rcd, .inl ⟨rfl, ⟨?_, ?_⟩, ?_⟩⟩
      · intro s hs
        rcases List.mem_append.1 hs with h | h
        · exact h1 s h
        · simp at h; subst h; exact he
      · have h4 := h3.put (rc .ready none) (by omega) (by omega)
        rw [hrc] at h4 ⊢
        exact h4
      · obtain ⟨v, hv⟩ := h2.str
        rw [(cell0 hv).1]
        refine (cell0 (t := 9) ?_).1
        rw [World.putObj_heap_other (by omega), World.putObj_heap_other (by omega)]
        exact hv
    · have h4 := h3.setRes (by omega) (by omega)
      refine ⟨_, _, run_endRound (some .ret) h4.rcd, .inr ⟨rfl, ⟨x, by simp, he⟩, ?_⟩⟩
      have h5 := h4.put (rc .done (some .ret)) (by omega) (by omega)
      rw [hrc] at h5 ⊢
      exact h5
  · exact (cell0 (by rw [hb1.block _ (by omega)]; exact hstr)).1
  · rintro e W2 ⟨⟨v, rfl⟩, ⟨h1, h2⟩ | ⟨pre, hpre, ⟨s, hs, hse⟩, h2⟩⟩
    · exact ⟨none, _, by have := run_endLoop (P := Tryd.prog) h2.rcd (by rw [hrc]; simp); rw [hrc] at this; exact this, hdone _ _ (h2.put _ (by omega) (by omega)) h1⟩
    · exact ⟨some .ret, _, by have := run_endLoop (P := Tryd.prog) h2.rcd (by rw [hrc]; simp); rw [hrc] at this; exact this, hstop _ _ (h2.put _ (by omega) (by omega)) ⟨s, hpre.subset hs, hse⟩⟩
set_option maxRecDepth 20000 in
set_option maxHeartbeats 2000000 in
theorem place_some (parts : List ByteArray) (w : World) (hne : parts ≠ []) (h47 : ∀ s ∈ parts, (47 : UInt8) ∉ s.data.toList) (h0 : (joinB parts).size ≠ 0) (hmax : (joinB parts).size ≤ 1000000) :
    Calls Tryd.prog 37 #[.string (joinB parts)] w fun e w' => Below w.heap.size w w' ∧ ((e = .returned (.bool true) ∧ ∀ s ∈ parts, entB s = true) ∨ (e = .returned (.bool false) ∧ ∃ s ∈ parts, entB s = false)) := by
  have hz : ((joinB parts).toList == []) = false := by
    rw [beq_eq_false_iff_ne, ByteArray.toList_eq]
    intro h
    apply h0
    have := congrArg List.length h
    simpa using this
  have HSeq := hide (splitSeq_any (joinB parts) (w.alloc (.cells #[.bool false] 4)))
  simp only [World.size_alloc] at HSeq
  refine (callsIn_wide (n := 3)).1 ?_
  refine callsIn_of_wp_marks Tryd.func37 rfl trivial ?_ rfl
  simp only [Tryd.ntmps37, List.size_toArray, List.length_cons, List.length_nil, Nat.reduceAdd, Nat.reduceSub, Array.replicate_succ, Array.replicate_zero, List.push_toArray, List.append_toArray, List.nil_append, List.cons_append]
  gi_wp2_with fail
  refine ⟨trivial, ?_⟩
  refine (callsIn_wide.2 (unhide HSeq)).mono ?_
  rintro e w1 ⟨rfl, hw1⟩
  rw [hw1]
  clear hw1 w1
  gi_wp2_with fail
  have hs0 : ((((w.alloc (.cells #[.bool false] 4)).alloc (.cells #[.string (joinB parts)] 9)).alloc (.cells #[.string ⟨#[47]⟩] 9)).alloc (.cells #[.int .i64 0] 3)).heap.size = w.heap.size + 1 + 1 + 1 + 1 := by simp
  have hB0 : Below w.heap.size w ((((w.alloc (.cells #[.bool false] 4)).alloc (.cells #[.string (joinB parts)] 9)).alloc (.cells #[.string ⟨#[47]⟩] 9)).alloc (.cells #[.int .i64 0] 3)) := ((((Below.refl _ _).alloc (Nat.le_refl _) _).alloc (by simp) _).alloc (by simp; omega) _).alloc (by simp; omega) _
  have HE := hide (fun x w => ent_any x w)
  refine split_law (w := w) parts (fun x => { tmps := #[.string (joinB parts), undef, .pointer (some ⟨w.heap.size, 0, none⟩), .string x, .string (joinB parts), .bool false, .string (joinB parts), .func (.func 84) #[] #[.pointer (some ⟨w.heap.size + 1 + 1, 0, none⟩), .pointer (some ⟨w.heap.size + 1, 0, none⟩), .pointer (some ⟨w.heap.size + 1 + 1 + 1, 0, none⟩)], .string x, undef, undef, undef], defers := [] }) hne h47 hmax rfl hB0 hs0 ?_ ?_ ?_ ?_ ?_ ?_ ?_ ?_
  · rw [Below.heap_alloc _ _ _ (by simp; omega), Below.heap_alloc _ _ _ (by simp; omega), Below.heap_alloc _ _ _ (by simp), World.alloc_heap_new]
  · rw [Below.heap_alloc _ _ _ (by simp), Below.heap_alloc _ _ _ (by simp)]
    have := World.alloc_heap_new (w.alloc (.cells #[.bool false] 4)) (.cells #[.string (joinB parts)] 9)
    rwa [World.size_alloc] at this
  · rw [Below.heap_alloc _ _ _ (by simp)]
    have := World.alloc_heap_new ((w.alloc (.cells #[.bool false] 4)).alloc (.cells #[.string (joinB parts)] 9)) (.cells #[.string ⟨#[47]⟩] 9)
    rwa [World.size_alloc, World.size_alloc] at this
  · have := World.alloc_heap_new (((w.alloc (.cells #[.bool false] 4)).alloc (.cells #[.string (joinB parts)] 9)).alloc (.cells #[.string ⟨#[47]⟩] 9)) (.cells #[.int .i64 0] 3)
    rwa [World.size_alloc, World.size_alloc, World.size_alloc] at this
  · intro l x W K hK
    gi_wp2
    exact hK
  · intro l x W R hxs hres h1 h2
    obtain ⟨q1, q2⟩ := cell0 hres
    have HEx := hide (fun w => ent_any x w (by omega))
    cases hent : entB x
    case true =>
      have H1 := hide (h1 hent)
      rw [hent] at HEx
      clear h1 h2
      gi_wp2_with fail
      refine ⟨trivial, ?_⟩
      refine (CallsIn.inRound l (callsIn_wide.2 (unhide HEx _))).mono ?_
      rintro e w' ⟨rfl, hw⟩
      rw [hw]
      clear hw w'
      gi_wp2_with fail
      exact unhide H1 _
    case false =>
      have H2 := hide (h2 hent)
      rw [hent] at HEx
      clear h1 h2
      gi_wp2_with fail
      refine ⟨trivial, ?_⟩
      refine (CallsIn.inRound l (callsIn_wide.2 (unhide HEx _))).mono ?_
      rintro e w' ⟨rfl, hw⟩
      rw [hw]
      clear hw w'
      gi_wp2_with fail
      exact unhide H2 _
  · intro r W h1 h2
    obtain ⟨q1, q2⟩ := cell0 h1.res
    gi_wp2_with fail
    rw [hs0] at h1 ⊢
    have hK : (W.setCell ⟨w.heap.size, 0, none⟩ (.bool true)).heap[w.heap.size + 1 + 1 + 1 + 1]? = some (.deferred (some [])) := by rw [set_other _ _ _ _ _ (by omega)]; exact h1.dfr
    have hres : ((W.setCell ⟨w.heap.size, 0, none⟩ (.bool true)).putObj (w.heap.size + 1 + 1 + 1 + 1) (.deferred none)).heap[w.heap.size]? = some (.cells #[.bool true] 4) := by rw [World.putObj_heap_other (by omega)]; exact set0 h1.res
    have hlt := (Array.getElem?_eq_some_iff.1 hK).1
    refine ⟨by simp, .inl ⟨_, _, rfl, run_takeDeferred hK, ?_⟩⟩
    refine ⟨.bool true, by simp [results, Tryd.results37, go_sem, (cell0 hres).1], ?_, ?_⟩
    · exact (h1.old.setCell (by simp) _).grown (grownBy_putObj' _ _ _) (by have := h1.old.size; simp; omega) (fun k e => by cases e; omega)
    · exact .inl ⟨rfl, h2⟩
  · intro r W h1 h2
    obtain ⟨q1, q2⟩ := cell0 h1.res
    gi_wp2_with fail
    rw [hs0] at h1 ⊢
    have hK := h1.dfr
    have hres : (W.putObj (w.heap.size + 1 + 1 + 1 + 1) (.deferred none)).heap[w.heap.size]? = some (.cells #[.bool false] 4) := by rw [World.putObj_heap_other (by omega)]; exact h1.res
    refine ⟨by simp, .inl ⟨_, _, rfl, run_takeDeferred hK, ?_⟩⟩
    refine ⟨.bool false, by simp [results, Tryd.results37, go_sem, (cell0 hres).1], ?_, ?_⟩
    · exact h1.old.grown (grownBy_putObj' _ _ _) (by have := h1.old.size; omega) (fun k e => by cases e; omega)
    · exact .inr ⟨rfl, h2⟩
end Go.Proofs.YthfjofmfiklegaaDoor
