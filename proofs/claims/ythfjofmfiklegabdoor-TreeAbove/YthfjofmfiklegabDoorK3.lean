import Derived.Test.YthfjofmfiklegabDoorK2
import Derived.Deep.RegionHeld3
import Derived.Ground.SlgmProg
import Derived.Shelf.SortM.Plain
import Derived.Shelf.SortM.SortNone
import Derived.Lib.OwnBridge
import Derived.Test.YthfjofmfiklegabDoorK1
/- isPlace, in the code. -/
namespace Go.Proofs.YthfjofmfiklegabDoor
open Go.RowKit Go.Shelf
attribute [local go_sem] Oper.semAt_some
theorem splitSeq_any (s : ByteArray) (w : World) : Calls Tryd.prog 19 #[.string s, .string ⟨#[47]⟩] w fun e w' => e = .returned (.func (.func 41) #[] #[.pointer (some ⟨w.heap.size + 1, 0, none⟩), .pointer (some ⟨w.heap.size, 0, none⟩), .pointer (some ⟨w.heap.size + 1 + 1, 0, none⟩)]) ∧ w' = ((w.alloc (.cells #[.string s] 9)).alloc (.cells #[.string ⟨#[47]⟩] 9)).alloc (.cells #[.int .i64 0] 3) := by
  go_enter Tryd.func19, Tryd.ntmps19
  go_wp2
  go_ret
  exact ⟨rfl, rfl⟩
/-- What stands while the parts of a place are gone through. -/
structure Pl (w : World) (l D : Nat) (r : Loop) (W : World) : Prop where
  old : Below w.heap.size w W
  res : W.heap[w.heap.size]? = some (.cells #[.bool false] 4)
  str : ∃ v, W.heap[w.heap.size + 1]? = some (.cells #[v] 9)
  sep : W.heap[w.heap.size + 1 + 1]? = some (.cells #[.string ⟨#[47]⟩] 9)
  nul : W.heap[w.heap.size + 1 + 1 + 1]? = some (.cells #[.int .i64 0] 3)
  rcd : W.heap[l]? = some (.loop r)
  dfr : W.heap[D]? = some (.deferred (some []))
theorem cell0 {W : World} {b : Nat} {v : Value} {t : TypeId} (h : W.heap[b]? = some (.cells #[v] t)) : W.cell? ⟨b, 0, none⟩ = some v ∧ W.frozen? ⟨b, 0, none⟩ = false := by
  refine ⟨?_, ?_⟩
  · unfold World.cell?; rw [show W.heap[b]? = _ from h]; rfl
  · unfold World.frozen?; rw [show W.heap[b]? = _ from h]; simp
theorem set0 {W : World} {b : Nat} {v u : Value} {t : TypeId} (h : W.heap[b]? = some (.cells #[v] t)) : (W.setCell ⟨b, 0, none⟩ u).heap[b]? = some (.cells #[u] t) := by
  simp [World.setCell, Array.getElem?_modify, h]
theorem Pl.set {w W : World} {l D : Nat} {r : Loop} (h : Pl w l D r W) (v : Value) (hl : w.heap.size + 1 < l) (hD : w.heap.size + 1 < D) : Pl w l D r (W.setCell ⟨w.heap.size + 1, 0, none⟩ v) := by
  obtain ⟨h1, h2, ⟨u, h3⟩, h4, h5, h6, h7⟩ := h
  exact ⟨h1.setCell (by simp) _, by rw [set_other _ _ _ _ _ (by omega)]; exact h2, ⟨v, set0 h3⟩, by rw [set_other _ _ _ _ _ (by omega)]; exact h4, by rw [set_other _ _ _ _ _ (by omega)]; exact h5, by rw [set_other _ _ _ _ _ (by omega)]; exact h6, by rw [set_other _ _ _ _ _ (by omega)]; exact h7⟩
theorem Pl.put {w W : World} {l D : Nat} {r : Loop} (h : Pl w l D r W) (r' : Loop) (hl : w.heap.size + 1 + 1 + 1 < l) (hD : D ≠ l) : Pl w l D r' (W.putObj l (.loop r')) := by
  obtain ⟨h1, h2, ⟨u, h3⟩, h4, h5, h6, h7⟩ := h
  have hlt := (Array.getElem?_eq_some_iff.1 h6).1
  exact ⟨h1.grown (grownBy_putObj' W l _) (Nat.le_trans (Nat.le_refl _) h1.size) (fun k e => by cases e; omega), by rw [World.putObj_heap_other (by omega)]; exact h2, ⟨u, by rw [World.putObj_heap_other (by omega)]; exact h3⟩, by rw [World.putObj_heap_other (by omega)]; exact h4, by rw [World.putObj_heap_other (by omega)]; exact h5, World.putObj_heap_same hlt, by rw [World.putObj_heap_other hD]; exact h7⟩
theorem Pl.setRes {w W : World} {l D : Nat} {r : Loop} (h : Pl w l D r W) (hl : w.heap.size + 1 < l) (hD : w.heap.size + 1 < D) : Pl w l D r (W.setCell ⟨w.heap.size, 0, none⟩ (.bool false)) := by
  obtain ⟨h1, h2, ⟨u, h3⟩, h4, h5, h6, h7⟩ := h
  exact ⟨h1.setCell (by simp) _, set0 h2, ⟨u, by rw [set_other _ _ _ _ _ (by omega)]; exact h3⟩, by rw [set_other _ _ _ _ _ (by omega)]; exact h4, by rw [set_other _ _ _ _ _ (by omega)]; exact h5, by rw [set_other _ _ _ _ _ (by omega)]; exact h6, by rw [set_other _ _ _ _ _ (by omega)]; exact h7⟩
set_option maxRecDepth 20000 in
/-- A loop over the parts of a place whose round asks each and leaves the function at the first that is no name. -/
theorem split_law {assign body : Code} {Q : Exit → Act → World → Prop} {a : Act} {w W0 : World} {g : Operand} {p : Tmp} (parts : List ByteArray) (a1 : ByteArray → Act)
    (hne : parts ≠ []) (h47 : ∀ s ∈ parts, (47 : UInt8) ∉ s.data.toList) (hmax : (joinB parts).size ≤ 1000000)
    (hg : a.eval g = .func (.func 41) #[] #[.pointer (some ⟨w.heap.size + 1 + 1, 0, none⟩), .pointer (some ⟨w.heap.size + 1, 0, none⟩), .pointer (some ⟨w.heap.size + 1 + 1 + 1, 0, none⟩)])
    (hold : Below w.heap.size w W0) (hsz : W0.heap.size = w.heap.size + 1 + 1 + 1 + 1) (hres : W0.heap[w.heap.size]? = some (.cells #[.bool false] 4)) (hstr : W0.heap[w.heap.size + 1]? = some (.cells #[.string (joinB parts)] 9)) (hsep : W0.heap[w.heap.size + 1 + 1]? = some (.cells #[.string ⟨#[47]⟩] 9)) (hnul : W0.heap[w.heap.size + 1 + 1 + 1]? = some (.cells #[.int .i64 0] 3))
    (hassign : ∀ (l : Nat) (x : ByteArray) (W : World) (K : Act → World → Prop), K (a1 x) W → assign.wpIn (Fence.wide.inRound l) 1 Tryd.prog (Exit.then K (fun _ _ _ => False)) { tmps := (#[p].zip #[Value.string x]).foldl (fun t (p, v) => t.setIfInBounds p v) a.tmps, defers := [] } W)
    (hbody : ∀ (l : Nat) (x : ByteArray) (W : World) (R : Exit → Act → World → Prop), x.size ≤ 1000000 → W.heap[w.heap.size]? = some (.cells #[.bool false] 4) → (entB x = true → ∀ a', R .normal a' W) → (entB x = false → ∀ a', R .ret a' (W.setCell ⟨w.heap.size, 0, none⟩ (.bool false))) → body.wpIn (Fence.wide.inRound l) 1 Tryd.prog R (a1 x) W)
    (hdone : ∀ (r : Loop) (W : World), Pl w (W0.heap.size + 1) W0.heap.size r W → (∀ s ∈ parts, entB s = true) → Q .normal { a with defers := { target := .collected W0.heap.size, args := #[] } :: a.defers } W)
    (hstop : ∀ (r : Loop) (W : World), Pl w (W0.heap.size + 1) W0.heap.size r W → (∃ s ∈ parts, entB s = false) → Code.ret.wpIn Fence.wide 3 Tryd.prog Q { a with defers := { target := .collected W0.heap.size, args := #[] } :: a.defers } W) :
    (Code.rangeFunc g #[p] assign body).wpIn Fence.wide 3 Tryd.prog Q a W0 := by
  refine wpIn_rangeFunc ?_
  intro fn hfn
  obtain ⟨rc, hrc⟩ : ∃ rc : LoopState → Option Code → Loop, rc = fun st pe => { state := st, pending := pe, fn, tmps := a.tmps, params := #[p], assign, body, defers := W0.heap.size } := ⟨_, rfl⟩
  obtain ⟨W1, hW1⟩ : ∃ W1, (W0.alloc (.deferred (some []))).alloc (.loop (rc .ready none)) = W1 := ⟨_, rfl⟩
  have hb1 : Below W0.heap.size W0 W1 := by rw [← hW1]; exact ((Below.refl _ _).alloc (Nat.le_refl _) _).alloc (by simp) _
  have hP1 : Pl w (W0.heap.size + 1) W0.heap.size (rc .ready none) W1 := by
    refine ⟨hold.trans (hb1.mono (by omega)), by rw [hb1.block _ (by omega)]; exact hres, ⟨_, by rw [hb1.block _ (by omega)]; exact hstr⟩, by rw [hb1.block _ (by omega)]; exact hsep, by rw [hb1.block _ (by omega)]; exact hnul, ?_, ?_⟩
    · rw [← hW1]; have := World.alloc_heap_new (W0.alloc (.deferred (some []))) (.loop (rc .ready none)); rwa [World.size_alloc] at this
    · rw [← hW1]; exact (Below.heap_alloc _ _ _ (by simp)).trans (World.alloc_heap_new W0 _)
  refine ⟨W0.heap.size + 1, [{ target := .collected W0.heap.size, args := #[] }], W1, { target := .fn (.func 41) #[.pointer (some ⟨w.heap.size + 1 + 1, 0, none⟩), .pointer (some ⟨w.heap.size + 1, 0, none⟩), .pointer (some ⟨w.heap.size + 1 + 1 + 1, 0, none⟩)], args := #[.func (.yield (W0.heap.size + 1)) #[] #[]] }, W1, 41, #[.func (.yield (W0.heap.size + 1)) #[] #[]] ++ #[.pointer (some ⟨w.heap.size + 1 + 1, 0, none⟩), .pointer (some ⟨w.heap.size + 1, 0, none⟩), .pointer (some ⟨w.heap.size + 1 + 1 + 1, 0, none⟩)], W1, ?_, ?_, fun _ _ => trivial, ?_, fun _ => by omega, ?_⟩
  · rw [← hW1, hrc]; exact run_enterLoop_outer _ _ _ _ _
  · simp only [resolve, hg]
    simp [go_sem]
  · simp [invoke, go_sem]
  refine CallsIn.mono (seq_in 2 (W0.heap.size + 1) (w.heap.size + 1) (w.heap.size + 1 + 1) (w.heap.size + 1 + 1 + 1) parts
    (fun pre W => (∀ s ∈ pre, entB s = true) ∧ Pl w (W0.heap.size + 1) W0.heap.size (rc .ready none) W)
    (fun pre W => (∃ s ∈ pre, entB s = false) ∧ Pl w (W0.heap.size + 1) W0.heap.size (rc .done (some .ret)) W)
    hne h47 hmax ?_ ?_ ⟨by omega, by omega⟩ ?_ W1 ⟨fun s hs => by simp at hs, hP1⟩ ?_) ?_
  · rintro pre W ⟨_, h⟩
    obtain ⟨v, hv⟩ := h.str
    exact ⟨(cell0 h.sep).1, (cell0 h.nul).1, (cell0 hv).2⟩
  · rintro pre W v ⟨h1, h2⟩
    exact ⟨h1, h2.set v (by omega) (by omega)⟩
  · rintro pre x W hxm ⟨h1, h2⟩
    have hxs := join_mem hxm
    have hy := run_yield (P := Tryd.prog) (args := #[.string x]) h2.rcd (by rw [hrc]; rfl)
    rw [hrc] at hy
    refine ⟨fn, _, assign, body, hy, roundIn_of_wpIn hfn (hassign _ x W _ ⟨_, run_beginRound h2.rcd (by rw [hrc]), ?_⟩)⟩
    have h3 := h2.put { rc .ready none with state := .busy } (by omega) (by omega)
    refine hbody _ x _ _ (by omega) h3.res (fun he a' => ?_) (fun he a' => ?_)
    · refine ⟨_, _, run_endRound none h3.rcd, .inl ⟨rfl, ⟨?_, ?_⟩, ?_⟩⟩
      · intro s hs
        rcases List.mem_append.1 hs with h | h
        · exact h1 s h
        · simp at h; subst h; exact he
      · have h4 := h3.put (rc .ready none) (by omega) (by omega)
        rw [hrc] at h4 ⊢
        exact h4
      · obtain ⟨v, hv⟩ := h2.str
        rw [(cell0 hv).1]
        refine (cell0 (t := 9) ?_).1
        rw [World.putObj_heap_other (by omega), World.putObj_heap_other (by omega)]
        exact hv
    · have h4 := h3.setRes (by omega) (by omega)
      refine ⟨_, _, run_endRound (some .ret) h4.rcd, .inr ⟨rfl, ⟨x, by simp, he⟩, ?_⟩⟩
      have h5 := h4.put (rc .done (some .ret)) (by omega) (by omega)
      rw [hrc] at h5 ⊢
      exact h5
  · exact (cell0 (by rw [hb1.block _ (by omega)]; exact hstr)).1
  · rintro e W2 ⟨⟨v, rfl⟩, ⟨h1, h2⟩ | ⟨pre, hpre, ⟨s, hs, hse⟩, h2⟩⟩
    · exact ⟨none, _, by have := run_endLoop (P := Tryd.prog) h2.rcd (by rw [hrc]; simp); rw [hrc] at this; exact this, hdone _ _ (h2.put _ (by omega) (by omega)) h1⟩
    · exact ⟨some .ret, _, by have := run_endLoop (P := Tryd.prog) h2.rcd (by rw [hrc]; simp); rw [hrc] at this; exact this, hstop _ _ (h2.put _ (by omega) (by omega)) ⟨s, hpre.subset hs, hse⟩⟩
set_option maxRecDepth 20000 in
set_option maxHeartbeats 2000000 in
theorem place_some (parts : List ByteArray) (w : World) (hne : parts ≠ []) (h47 : ∀ s ∈ parts, (47 : UInt8) ∉ s.data.toList) (h0 : (joinB parts).size ≠ 0) (hmax : (joinB parts).size ≤ 1000000) :
    Calls Tryd.prog 11 #[.string (joinB parts)] w fun e w' => Below w.heap.size w w' ∧ ((e = .returned (.bool true) ∧ ∀ s ∈ parts, entB s = true) ∨ (e = .returned (.bool false) ∧ ∃ s ∈ parts, entB s = false)) := by
  have hz : ((joinB parts).toList == []) = false := by
    rw [beq_eq_false_iff_ne, ByteArray.toList_eq]
    intro h
    apply h0
    have := congrArg List.length h
    simpa using this
  have HSeq := hide (splitSeq_any (joinB parts) (w.alloc (.cells #[.bool false] 4)))
  simp only [World.size_alloc] at HSeq
  refine (callsIn_wide (n := 3)).1 ?_
  refine callsIn_of_wp_marks Tryd.func11 rfl trivial ?_ rfl
  simp only [Tryd.ntmps11, List.size_toArray, List.length_cons, List.length_nil, Nat.reduceAdd, Nat.reduceSub, Array.replicate_succ, Array.replicate_zero, List.push_toArray, List.append_toArray, List.nil_append, List.cons_append]
  gi_wp2_with fail
  refine ⟨trivial, ?_⟩
  refine (callsIn_wide.2 (unhide HSeq)).mono ?_
  rintro e w1 ⟨rfl, hw1⟩
  rw [hw1]
  clear hw1 w1
  gi_wp2_with fail
  have hs0 : ((((w.alloc (.cells #[.bool false] 4)).alloc (.cells #[.string (joinB parts)] 9)).alloc (.cells #[.string ⟨#[47]⟩] 9)).alloc (.cells #[.int .i64 0] 3)).heap.size = w.heap.size + 1 + 1 + 1 + 1 := by simp
  have hB0 : Below w.heap.size w ((((w.alloc (.cells #[.bool false] 4)).alloc (.cells #[.string (joinB parts)] 9)).alloc (.cells #[.string ⟨#[47]⟩] 9)).alloc (.cells #[.int .i64 0] 3)) := ((((Below.refl _ _).alloc (Nat.le_refl _) _).alloc (by simp) _).alloc (by simp; omega) _).alloc (by simp; omega) _
  have HE := hide (fun x w => ent_any x w)
  refine split_law (w := w) parts (fun x => { tmps := #[.string (joinB parts), undef, .pointer (some ⟨w.heap.size, 0, none⟩), .string x, .string (joinB parts), .bool false, .string (joinB parts), .func (.func 41) #[] #[.pointer (some ⟨w.heap.size + 1 + 1, 0, none⟩), .pointer (some ⟨w.heap.size + 1, 0, none⟩), .pointer (some ⟨w.heap.size + 1 + 1 + 1, 0, none⟩)], .string x, undef, undef, undef], defers := [] }) hne h47 hmax rfl hB0 hs0 ?_ ?_ ?_ ?_ ?_ ?_ ?_ ?_
  · rw [Below.heap_alloc _ _ _ (by simp; omega), Below.heap_alloc _ _ _ (by simp; omega), Below.heap_alloc _ _ _ (by simp), World.alloc_heap_new]
  · rw [Below.heap_alloc _ _ _ (by simp), Below.heap_alloc _ _ _ (by simp)]
    have := World.alloc_heap_new (w.alloc (.cells #[.bool false] 4)) (.cells #[.string (joinB parts)] 9)
    rwa [World.size_alloc] at this
  · rw [Below.heap_alloc _ _ _ (by simp)]
    have := World.alloc_heap_new ((w.alloc (.cells #[.bool false] 4)).alloc (.cells #[.string (joinB parts)] 9)) (.cells #[.string ⟨#[47]⟩] 9)
    rwa [World.size_alloc, World.size_alloc] at this
  · have := World.alloc_heap_new (((w.alloc (.cells #[.bool false] 4)).alloc (.cells #[.string (joinB parts)] 9)).alloc (.cells #[.string ⟨#[47]⟩] 9)) (.cells #[.int .i64 0] 3)
    rwa [World.size_alloc, World.size_alloc, World.size_alloc] at this
  · intro l x W K hK
    gi_wp2
    exact hK
  · intro l x W R hxs hres h1 h2
    obtain ⟨q1, q2⟩ := cell0 hres
    have HEx := hide (fun w => ent_any x w (by omega))
    cases hent : entB x
    case true =>
      have H1 := hide (h1 hent)
      rw [hent] at HEx
      clear h1 h2
      gi_wp2_with fail
      refine ⟨trivial, ?_⟩
      refine (CallsIn.inRound l (callsIn_wide.2 (unhide HEx _))).mono ?_
      rintro e w' ⟨rfl, hw⟩
      rw [hw]
      clear hw w'
      gi_wp2_with fail
      exact unhide H1 _
    case false =>
      have H2 := hide (h2 hent)
      rw [hent] at HEx
      clear h1 h2
      gi_wp2_with fail
      refine ⟨trivial, ?_⟩
      refine (CallsIn.inRound l (callsIn_wide.2 (unhide HEx _))).mono ?_
      rintro e w' ⟨rfl, hw⟩
      rw [hw]
      clear hw w'
      gi_wp2_with fail
      exact unhide H2 _
  · intro r W h1 h2
    obtain ⟨q1, q2⟩ := cell0 h1.res
    gi_wp2_with fail
    rw [hs0] at h1 ⊢
    have hK : (W.setCell ⟨w.heap.size, 0, none⟩ (.bool true)).heap[w.heap.size + 1 + 1 + 1 + 1]? = some (.deferred (some [])) := by rw [set_other _ _ _ _ _ (by omega)]; exact h1.dfr
    have hres : ((W.setCell ⟨w.heap.size, 0, none⟩ (.bool true)).putObj (w.heap.size + 1 + 1 + 1 + 1) (.deferred none)).heap[w.heap.size]? = some (.cells #[.bool true] 4) := by rw [World.putObj_heap_other (by omega)]; exact set0 h1.res
    have hlt := (Array.getElem?_eq_some_iff.1 hK).1
    refine ⟨by simp, .inl ⟨_, _, rfl, run_takeDeferred hK, ?_⟩⟩
    refine ⟨.bool true, by simp [results, Tryd.results11, go_sem, (cell0 hres).1], ?_, ?_⟩
    · exact (h1.old.setCell (by simp) _).grown (grownBy_putObj' _ _ _) (by have := h1.old.size; simp; omega) (fun k e => by cases e; omega)
    · exact .inl ⟨rfl, h2⟩
  · intro r W h1 h2
    obtain ⟨q1, q2⟩ := cell0 h1.res
    gi_wp2_with fail
    rw [hs0] at h1 ⊢
    have hK := h1.dfr
    have hres : (W.putObj (w.heap.size + 1 + 1 + 1 + 1) (.deferred none)).heap[w.heap.size]? = some (.cells #[.bool false] 4) := by rw [World.putObj_heap_other (by omega)]; exact h1.res
    refine ⟨by simp, .inl ⟨_, _, rfl, run_takeDeferred hK, ?_⟩⟩
    refine ⟨.bool false, by simp [results, Tryd.results11, go_sem, (cell0 hres).1], ?_, ?_⟩
    · exact h1.old.grown (grownBy_putObj' _ _ _) (by have := h1.old.size; omega) (fun k e => by cases e; omega)
    · exact .inr ⟨rfl, h2⟩
end Go.Proofs.YthfjofmfiklegabDoor
/- Texts with a slash between, taken apart and joined: one and the same. No Go text is named here. -/
namespace Go.Proofs.YthfjofmfiklegabDoor
def splitL : List UInt8 → List (List UInt8)
  | [] => [[]]
  | c :: r => if c = 47 then [] :: splitL r else match splitL r with
    | [] => [[c]]
    | h :: t => (c :: h) :: t
def joinL : List (List UInt8) → List UInt8
  | [] => []
  | [n] => n
  | n :: m :: r => n ++ 47 :: joinL (m :: r)
theorem splitL_ne (s : List UInt8) : splitL s ≠ [] := by
  cases s with
  | nil => simp [splitL]
  | cons c r =>
    rw [splitL]
    split
    · simp
    · split <;> simp
theorem join_split (s : List UInt8) : joinL (splitL s) = s := by
  induction s with
  | nil => rfl
  | cons c r ih =>
    rw [splitL]
    split
    · rename_i h
      cases h2 : splitL r with
      | nil => exact absurd h2 (splitL_ne r)
      | cons a t => rw [joinL, ← h2, ih, h]; rfl
    · cases h2 : splitL r with
      | nil => exact absurd h2 (splitL_ne r)
      | cons a t =>
        rw [h2] at ih
        cases t with
        | nil => simp [joinL] at ih ⊢; exact ih
        | cons b t => simp [joinL] at ih ⊢; exact ih
theorem split_no (s : List UInt8) : ∀ p ∈ splitL s, (47 : UInt8) ∉ p := by
  induction s with
  | nil => intro p hp; simp [splitL] at hp; subst hp; simp
  | cons c r ih =>
    rw [splitL]
    split
    · intro p hp
      rcases List.mem_cons.1 hp with rfl | h
      · simp
      · exact ih p h
    · rename_i hc
      cases h2 : splitL r with
      | nil => exact absurd h2 (splitL_ne r)
      | cons a t =>
        rw [h2] at ih
        intro p hp
        rcases List.mem_cons.1 hp with rfl | h
        · intro h
          rcases List.mem_cons.1 h with e | h
          · exact hc e.symm
          · exact ih a (by simp) h
        · exact ih p (by simp [h])
theorem split_app (a : List UInt8) (h : (47 : UInt8) ∉ a) (b : List UInt8) : splitL (a ++ 47 :: b) = a :: splitL b := by
  induction a with
  | nil => simp [splitL]
  | cons c r ih =>
    have hc : ¬ c = 47 := fun e => h (by simp [e])
    rw [List.cons_append, splitL, if_neg hc, ih (fun e => h (by simp [e]))]
theorem split_one (a : List UInt8) (h : (47 : UInt8) ∉ a) : splitL a = [a] := by
  induction a with
  | nil => rfl
  | cons c r ih =>
    have hc : ¬ c = 47 := fun e => h (by simp [e])
    rw [splitL, if_neg hc, ih (fun e => h (by simp [e]))]
theorem split_join (l : List (List UInt8)) (hne : l ≠ []) (h : ∀ p ∈ l, (47 : UInt8) ∉ p) : splitL (joinL l) = l := by
  induction l with
  | nil => exact absurd rfl hne
  | cons a r ih =>
    cases r with
    | nil => exact split_one a (h a (by simp))
    | cons b t => rw [joinL, split_app a (h a (by simp)), ih (by simp) (fun p hp => h p (by simp [hp]))]
theorem joinB_list (l : List ByteArray) : (joinB l).data.toList = joinL (l.map (·.data.toList)) := by
  induction l with
  | nil => rfl
  | cons a r ih =>
    cases r with
    | nil => rfl
    | cons b t => rw [join_list, ih]; rfl
/-- The parts of a text. -/
def partsB (s : ByteArray) : List ByteArray := (splitL s.data.toList).map fun l => ⟨l.toArray⟩
theorem partsB_ne (s : ByteArray) : partsB s ≠ [] := by
  unfold partsB
  intro h
  exact splitL_ne _ (List.map_eq_nil_iff.1 h)
theorem partsB_no (s : ByteArray) : ∀ p ∈ partsB s, (47 : UInt8) ∉ p.data.toList := by
  intro p hp
  obtain ⟨l, hl, rfl⟩ := List.mem_map.1 hp
  simpa using split_no _ l hl
theorem join_parts (s : ByteArray) : joinB (partsB s) = s := by
  apply ByteArray.ext
  apply Array.ext'
  rw [joinB_list]
  unfold partsB
  rw [List.map_map]
  have : ((fun x : ByteArray => x.data.toList) ∘ fun l : List UInt8 => (⟨l.toArray⟩ : ByteArray)) = id := by funext l; simp
  rw [this, List.map_id, join_split]
theorem parts_join (l : List ByteArray) (hne : l ≠ []) (h : ∀ p ∈ l, (47 : UInt8) ∉ p.data.toList) : partsB (joinB l) = l := by
  unfold partsB
  rw [joinB_list, split_join _ (by simpa using hne) (fun p hp => by obtain ⟨b, hb, rfl⟩ := List.mem_map.1 hp; exact h b hb), List.map_map]
  have : ((fun l : List UInt8 => (⟨l.toArray⟩ : ByteArray)) ∘ fun x : ByteArray => x.data.toList) = id := by funext x; cases x; simp
  rw [this, List.map_id]
theorem entB_no {s : ByteArray} (h : entB s = true) : (47 : UInt8) ∉ s.data.toList := fun hm => by
  have := entB_bad hm (.inl rfl)
  rw [h] at this; cases this
theorem entB_pos {s : ByteArray} (h : entB s = true) : 1 ≤ s.size := by
  unfold entB at h; exact (of_decide_eq_true h).1
end Go.Proofs.YthfjofmfiklegabDoor
/- Which texts are places. -/
namespace Go.Proofs.YthfjofmfiklegabDoor
open Go.RowKit
/-- A text is a place: names with a slash between. -/
def IsPl (s : ByteArray) (l : List ByteArray) : Prop := (∀ n ∈ l, entB n = true) ∧ s = joinB l
theorem isPl_parts {s : ByteArray} {l : List ByteArray} (h : IsPl s l) (h0 : s.size ≠ 0) : l = partsB s := by
  obtain ⟨h1, rfl⟩ := h
  exact (parts_join l (fun e => by subst e; exact h0 rfl) (fun p hp => entB_no (h1 p hp))).symm
set_option maxRecDepth 20000 in
set_option maxHeartbeats 1000000 in
theorem isPlace_any (s : ByteArray) (w : World) (hs : s.size ≤ 1000000) :
    Calls Tryd.prog 11 #[.string s] w fun e w' => Below w.heap.size w w' ∧ ((e = .returned (.bool true) ∧ ∃ l, IsPl s l) ∨ (e = .returned (.bool false) ∧ ∀ l, ¬ IsPl s l)) := by
  by_cases h0 : s.size = 0
  · obtain rfl : s = ⟨#[]⟩ := by
      cases s with
      | mk a => have : a = #[] := Array.eq_empty_of_size_eq_zero h0
                rw [this]
    have HP : Hid (∃ l, IsPl ⟨#[]⟩ l) := ⟨[], fun n hn => by simp at hn, rfl⟩
    go_enter Tryd.func11, Tryd.ntmps11
    go_wp2_with fail
    exact bodyPost_ret (v := .bool true) (by simp [results, Tryd.results11, go_sem]) rfl ⟨((Below.refl _ _).alloc (Nat.le_refl _) _), .inl ⟨rfl, unhide HP⟩⟩
  · have h := place_some (partsB s) w (partsB_ne s) (partsB_no s) (by rw [join_parts]; exact h0) (by rw [join_parts]; exact hs)
    rw [join_parts] at h
    refine h.mono ?_
    rintro e w' ⟨hb, ⟨rfl, hall⟩ | ⟨rfl, x, hx, hxe⟩⟩
    · exact ⟨hb, .inl ⟨rfl, partsB s, hall, (join_parts s).symm⟩⟩
    · refine ⟨hb, .inr ⟨rfl, fun l hl => ?_⟩⟩
      rw [← isPl_parts hl h0] at hx
      rw [hl.1 x hx] at hxe
      cases hxe
end Go.Proofs.YthfjofmfiklegabDoor
/- A tree laid at a place: the plain mathematics. No Go text is named here. -/
namespace Go.Proofs.YthfjofmfiklegabDoor
open Go.RowKit
/-- Names that rise, and as many kids, everywhere. -/
inductive Nice : Tr → Prop
  | mk (k : Int) (x : Bool) (d : ByteArray) (ns : List ByteArray) (ks : List Tr) (hr : Rise ns) (hl : ns.length = ks.length) (hk : ∀ t ∈ ks, Nice t) : Nice (.mk k x d ns ks)
def emptyDir : Tr := .mk 2 false ⟨#[]⟩ [] []
theorem nice_empty : Nice emptyDir := .mk _ _ _ _ _ (fun i j _ h => by simp at h) rfl (fun t ht => by simp at ht)
theorem Nice.ev {T : Tr} (h : Nice T) : Ev T := by
  induction h with
  | mk k x d ns ks hr hl hk ih => exact .mk k x d ns ks hl ih
/-- Where a name stands, or would. -/
def pos (ns : List ByteArray) (x : ByteArray) : Nat := (ns.takeWhile fun s => decide (s.toList < x.toList)).length
def has (ns : List ByteArray) (x : ByteArray) : Bool := decide (ns[pos ns x]? = some x)
theorem takeWhile_len {α : Type} (p : α → Bool) (l : List α) (i : Nat) (hi : i ≤ l.length) (h1 : ∀ j, (h : j < l.length) → j < i → p l[j] = true) (h2 : ∀ h : i < l.length, p l[i] = false) : (l.takeWhile p).length = i := by
  induction l generalizing i with
  | nil => simp at hi; simp [hi]
  | cons a r ih =>
    cases i with
    | zero =>
      have := h2 (by simp)
      simp at this
      simp [this]
    | succ i =>
      have ha := h1 0 (by simp) (by omega)
      simp at ha
      rw [List.takeWhile_cons, if_pos ha, List.length_cons, ih i (by simpa using hi) (fun j h hj => by have := h1 (j + 1) (by simpa using h) (by omega); simpa using this) (fun h => by have := h2 (by simpa using h); simpa using this)]
theorem found_pos {ns : List ByteArray} {x : ByteArray} {e : Ending} (h : Found ns x e) : e = .returned (.tuple #[.int .i64 ((pos ns x : Nat) : Int), .bool (has ns x)]) ∧ pos ns x ≤ ns.length := by
  obtain ⟨i, b, rfl, h1, h2, h3, h4⟩ := h
  have hp : pos ns x = i := by
    refine takeWhile_len _ ns i h1 (fun j hj hji => ?_) (fun hi => ?_)
    · have := h2 j hji
      rw [List.getD_eq_getElem?_getD, List.getElem?_eq_getElem hj] at this
      simpa using this
    · have := h3 i (Nat.le_refl _) hi
      rw [List.getD_eq_getElem?_getD, List.getElem?_eq_getElem hi] at this
      simpa using this
  have hb : has ns x = b := by
    unfold has
    rw [hp]
    cases b with
    | true =>
      obtain ⟨h5, h6⟩ := h4.1 rfl
      rw [List.getD_eq_getElem?_getD, List.getElem?_eq_getElem h5] at h6
      exact decide_eq_true (by rw [List.getElem?_eq_getElem h5]; exact congrArg some h6)
    | false =>
      refine decide_eq_false fun h => ?_
      obtain ⟨h5, h6⟩ := List.getElem?_eq_some_iff.1 h
      have : false = true := h4.2 ⟨h5, by rw [List.getD_eq_getElem?_getD, h]; rfl⟩
      cases this
  exact ⟨by rw [hp, hb], by rw [hp]; exact h1⟩
theorem has_lt {ns : List ByteArray} {x : ByteArray} (h : has ns x = true) : pos ns x < ns.length := by
  unfold has at h
  exact (List.getElem?_eq_some_iff.1 (of_decide_eq_true h)).1
/-- The kid that is gone on with. -/
def kidAt (ns : List ByteArray) (ks : List Tr) (x : ByteArray) : Tr := if has ns x then ks.getD (pos ns x) emptyDir else emptyDir
def nextAt (ns : List ByteArray) (x : ByteArray) : Nat := if has ns x then pos ns x + 1 else pos ns x
/-- A tree laid at a place, or why not: so deep. -/
def laidS : Tr → List ByteArray → Tr → Nat → Except Nat Tr
  | _, [], X, deep => if 64 < deep then .error 5 else .ok X
  | .mk k _ _ ns ks, n :: r, X, deep => if 64 < deep then .error 5 else if k = 2 then
      (match laidS (kidAt ns ks n) r X (deep + 1) with
      | .error e => .error e
      | .ok t => .ok (.mk 2 false ⟨#[]⟩ (ns.take (pos ns n) ++ [n] ++ ns.drop (nextAt ns n)) (ks.take (pos ns n) ++ [t] ++ ks.drop (nextAt ns n)))) else .error 8
theorem kidAt_nice {ns : List ByteArray} {ks : List Tr} {x : ByteArray} (h : ∀ t ∈ ks, Nice t) : Nice (kidAt ns ks x) := by
  unfold kidAt
  split
  · rw [List.getD_eq_getElem?_getD]
    cases hq : ks[pos ns x]? with
    | none => exact nice_empty
    | some t => exact h t (List.mem_of_getElem? hq)
  · exact nice_empty
theorem kidAt_wt {ns : List ByteArray} {ks : List Tr} {x : ByteArray} (h : ∀ t ∈ ks, wt t ≤ 100000) : wt (kidAt ns ks x) ≤ 100000 := by
  have he : wt emptyDir ≤ 100000 := by unfold emptyDir; rw [wt]; simp only [tenths, wts, List.length_nil]; have : (⟨#[]⟩ : ByteArray).size = 0 := rfl; omega
  unfold kidAt
  split
  · rw [List.getD_eq_getElem?_getD]
    cases hq : ks[pos ns x]? with
    | none => exact he
    | some t => exact h t (List.mem_of_getElem? hq)
  · exact he
end Go.Proofs.YthfjofmfiklegabDoor
/- slices.Concat of names, and of trees. -/
namespace Go.Proofs.YthfjofmfiklegabDoor
open Go.RowKit
def catN (L : Nat → Nat) : Nat → Nat | 0 => 0 | i + 1 => catN L i + L i
def catX (X : Nat → List Value) : Nat → List Value | 0 => [] | i + 1 => catX X i ++ X i
theorem catN_succ (L : Nat → Nat) (i : Nat) : catN L (i + 1) = catN L i + L i := rfl
theorem catX_succ (X : Nat → List Value) (i : Nat) : catX X (i + 1) = catX X i ++ X i := rfl
set_option maxRecDepth 20000 in
set_option maxHeartbeats 1000000 in
theorem concat23_any (g o m cap lo hi : Nat) (A : Nat → Option Addr) (L C : Nat → Nat) (X : Nat → List Value) (w : World) (hm : m ≤ 100) (hg : g < w.heap.size) (hhi : hi ≤ w.heap.size) (hcell : ∀ i, i < m → w.cell? ⟨g, o + i, none⟩ = some (.slice (A i) (L i) (C i)))
    (hrow : ∀ i, i < m → Row lo hi w (.slice (A i) (L i) (C i)) (L i) (X i)) (hX : ∀ i, i < m → (X i).length = L i * 1) (h1 : ∀ i, i < m → ∀ u ∈ X i, u.oneCell' = true) (hmax : ∀ i, i ≤ m → catN L i ≤ 1000000) :
    Calls Tryd.prog 23 #[.slice (some ⟨g, o, none⟩) m cap] w fun e w' => ∃ a c, e = .returned (.slice a (catN L m) c) ∧ w'.ownsRow w.heap.size 9 1 (.slice a (catN L m) c) (catN L m) (catX X m) ∧ Below w.heap.size w w' := by
  have HC := hide hcell
  have HR := hide hrow
  have HX := hide (And.intro hX h1)
  have HM := hide hmax
  have HS := hide (fun i => catN_succ L i)
  have HG := hide (fun w => grow23_nil (catN L m) w (hmax m (Nat.le_refl _)))
  clear hcell hrow hX h1 hmax
  go_enter Tryd.func23, Tryd.ntmps23
  go_wp2_with fail
  go_loop [3, 11] (fun vs vi => ∃ i : Nat, i ≤ m ∧ vi = .int .i64 (i : Int) ∧ vs = .int .i64 ((catN L i : Nat) : Int)) (fun _ vi => m - (intOf vi).toNat)
  case atStart => exact ⟨0, by omega, rfl, rfl⟩
  case round =>
    obtain ⟨i, him, rfl, rfl⟩ := hrel
    by_cases hlt : i < m
    · have hci := unhide HC i hlt
      have hni := unhide HM i him
      have hnj := unhide HM (i + 1) (by omega)
      have hsu := unhide HS i
      have HSi := hide hsu
      rw [hsu] at hnj
      clear hsu
      generalize hN : catN L i = N at *
      have HN := hide hN
      clear hN
      go_wp2_with fail
      go_round
      case rel => exact ⟨i + 1, by omega, by go_num, by rw [unhide HSi]; go_num⟩
      case measure => simp [intOf]; omega
    · obtain rfl : i = m := by omega
      go_wp2_with fail
      refine (unhide HG _).mono ?_
      rintro e w1 ⟨a1, c1, rfl, ho1, hb1, -, -⟩
      clear HG
      go_wp2_with fail
      go_loopw [6, 27] (fun vv vi wr => ∃ (j : Nat) (a c : _), j ≤ i ∧ vi = .int .i64 (j : Int) ∧ vv = .slice a (catN L j) c ∧ wr.ownsRow w.heap.size 9 1 (.slice a (catN L j) c) (catN L j) (catX X j) ∧ Below w.heap.size w wr) (fun _ vi _ => i - (intOf vi).toNat)
      case atStart => exact ⟨0, a1, c1, by omega, rfl, rfl, ho1, hb1⟩
      case round =>
        obtain ⟨j, a2, c2, hji, rfl, rfl, ho, hb⟩ := hrel
        clear ho1 hb1
        by_cases hlt : j < i
        · have hcj : wr.cell? ⟨g, o + j, none⟩ = some (.slice (A j) (L j) (C j)) := by rw [hb.cell (p := ⟨g, o + j, none⟩) hg]; exact unhide HC j hlt
          have hnj := unhide HM (j + 1) (by omega)
          rw [unhide HS j] at hnj
          obtain ⟨v3, w3, happ, ho3, hg3, -⟩ := app23_own wr w.heap.size lo hi _ _ _ (A j) (L j) (C j) (X j) ho ((unhide HR j hlt).below hb hhi) (by rw [(unhide HX).1 j hlt]; omega) ((unhide HX).2 j hlt) (by omega) hb.size
          obtain ⟨a3, c3, rfl, _⟩ := owns_slice ho3
          have hb3 := hb.grown hg3 hb.size (fun k hk => (owns_lt ho k hk).1)
          have HO := hide (And.intro ho3 hb3)
          clear ho3 hg3 hb3 ho
          go_wp2_with fail
          go_roundw
          case rel =>
            refine ⟨j + 1, a3, c3, by omega, by go_num, by rw [unhide HS j], ?_, (unhide HO).2⟩
            rw [unhide HS j, catX_succ]
            exact (unhide HO).1
          case measure => simp [intOf]; omega
        · obtain rfl : j = i := by omega
          go_wp2_with fail
          go_ret
          exact ⟨a2, c2, rfl, ho, hb⟩
set_option maxRecDepth 20000 in
set_option maxHeartbeats 1000000 in
theorem concat24_any (g o m cap lo hi : Nat) (A : Nat → Option Addr) (L C : Nat → Nat) (X : Nat → List Value) (w : World) (hm : m ≤ 100) (hg : g < w.heap.size) (hhi : hi ≤ w.heap.size) (hcell : ∀ i, i < m → w.cell? ⟨g, o + i, none⟩ = some (.slice (A i) (L i) (C i)))
    (hrow : ∀ i, i < m → Row lo hi w (.slice (A i) (L i) (C i)) (L i) (X i)) (hX : ∀ i, i < m → (X i).length = L i * 5) (h1 : ∀ i, i < m → ∀ u ∈ X i, u.oneCell' = true) (hmax : ∀ i, i ≤ m → catN L i ≤ 1000000) :
    Calls Tryd.prog 24 #[.slice (some ⟨g, o, none⟩) m cap] w fun e w' => ∃ a c, e = .returned (.slice a (catN L m) c) ∧ w'.ownsRow w.heap.size 26 5 (.slice a (catN L m) c) (catN L m) (catX X m) ∧ Below w.heap.size w w' := by
  have HC := hide hcell
  have HR := hide hrow
  have HX := hide (And.intro hX h1)
  have HM := hide hmax
  have HS := hide (fun i => catN_succ L i)
  have HG := hide (fun w => grow24_nil (catN L m) w (hmax m (Nat.le_refl _)))
  clear hcell hrow hX h1 hmax
  go_enter Tryd.func24, Tryd.ntmps24
  go_wp2_with fail
  go_loop [3, 11] (fun vs vi => ∃ i : Nat, i ≤ m ∧ vi = .int .i64 (i : Int) ∧ vs = .int .i64 ((catN L i : Nat) : Int)) (fun _ vi => m - (intOf vi).toNat)
  case atStart => exact ⟨0, by omega, rfl, rfl⟩
  case round =>
    obtain ⟨i, him, rfl, rfl⟩ := hrel
    by_cases hlt : i < m
    · have hci := unhide HC i hlt
      have hni := unhide HM i him
      have hnj := unhide HM (i + 1) (by omega)
      have hsu := unhide HS i
      have HSi := hide hsu
      rw [hsu] at hnj
      clear hsu
      generalize hN : catN L i = N at *
      have HN := hide hN
      clear hN
      go_wp2_with fail
      go_round
      case rel => exact ⟨i + 1, by omega, by go_num, by rw [unhide HSi]; go_num⟩
      case measure => simp [intOf]; omega
    · obtain rfl : i = m := by omega
      go_wp2_with fail
      refine (unhide HG _).mono ?_
      rintro e w1 ⟨a1, c1, rfl, ho1, hb1, -, -⟩
      clear HG
      go_wp2_with fail
      go_loopw [6, 27] (fun vv vi wr => ∃ (j : Nat) (a c : _), j ≤ i ∧ vi = .int .i64 (j : Int) ∧ vv = .slice a (catN L j) c ∧ wr.ownsRow w.heap.size 26 5 (.slice a (catN L j) c) (catN L j) (catX X j) ∧ Below w.heap.size w wr) (fun _ vi _ => i - (intOf vi).toNat)
      case atStart => exact ⟨0, a1, c1, by omega, rfl, rfl, ho1, hb1⟩
      case round =>
        obtain ⟨j, a2, c2, hji, rfl, rfl, ho, hb⟩ := hrel
        clear ho1 hb1
        by_cases hlt : j < i
        · have hcj : wr.cell? ⟨g, o + j, none⟩ = some (.slice (A j) (L j) (C j)) := by rw [hb.cell (p := ⟨g, o + j, none⟩) hg]; exact unhide HC j hlt
          have hnj := unhide HM (j + 1) (by omega)
          rw [unhide HS j] at hnj
          obtain ⟨v3, w3, happ, ho3, hg3, -⟩ := app24_own wr w.heap.size lo hi _ _ _ (A j) (L j) (C j) (X j) ho ((unhide HR j hlt).below hb hhi) (by rw [(unhide HX).1 j hlt]) ((unhide HX).2 j hlt) (by omega) hb.size
          obtain ⟨a3, c3, rfl, _⟩ := owns_slice ho3
          have hb3 := hb.grown hg3 hb.size (fun k hk => (owns_lt ho k hk).1)
          have HO := hide (And.intro ho3 hb3)
          clear ho3 hg3 hb3 ho
          go_wp2_with fail
          go_roundw
          case rel =>
            refine ⟨j + 1, a3, c3, by omega, by go_num, by rw [unhide HS j], ?_, (unhide HO).2⟩
            rw [unhide HS j, catX_succ]
            exact (unhide HO).1
          case measure => simp [intOf]; omega
        · obtain rfl : j = i := by omega
          go_wp2_with fail
          go_ret
          exact ⟨a2, c2, rfl, ho, hb⟩
end Go.Proofs.YthfjofmfiklegabDoor
/- Parts of slices. -/
namespace Go.Proofs.YthfjofmfiklegabDoor
open Go.RowKit
theorem elem23 : Tryd.prog.elem 23 = 9 := by kernel_rfl
theorem elem24 : Tryd.prog.elem 24 = 26 := by kernel_rfl
theorem ht23 : Tryd.prog.underlying 23 = some (.slice (Tryd.prog.elem 23)) := by rw [elem23]; exact Tryd.underlying23
theorem ht24 : Tryd.prog.underlying 24 = some (.slice (Tryd.prog.elem 24)) := by rw [elem24]; exact Tryd.underlying24
def sl23 (v : Value) (lo hi mx : Option Value) : Sem Value := Instr.slice 23 v lo hi mx
def sl24 (v : Value) (lo hi mx : Option Value) : Sem Value := Instr.slice 24 v lo hi mx
theorem slice_sl23 (v : Value) (lo hi mx : Option Value) : Instr.slice 23 v lo hi mx = sl23 v lo hi mx := rfl
theorem slice_sl24 (v : Value) (lo hi mx : Option Value) : Instr.slice 24 v lo hi mx = sl24 v lo hi mx := rfl
theorem row_take {lo hi : Nat} {w : World} {a : Option Addr} {n c i size : Nat} {xs : List Value} (h : Row lo hi w (.slice a n c) n xs) (hi' : i ≤ n) (a1 : Option Addr) (ha : ∀ g o, a = some ⟨g, o, none⟩ → a1 = some ⟨g, o, none⟩) (hc : n ≤ c) : Row lo hi w (.slice a1 i c) i (xs.take (i * size)) := by
  refine ⟨a1, c, rfl, by omega, fun h0 => ?_⟩
  obtain ⟨g, o, rfl, h1, h2, h3⟩ := h.at (by omega)
  refine ⟨g, o, ha g o rfl, h1, h2, fun j u hj => h3 j u ?_⟩
  rw [List.getElem?_take] at hj
  split at hj
  · exact hj
  · cases hj
theorem row_drop {lo hi : Nat} {w : World} {a : Option Addr} {n c i size : Nat} {xs : List Value} (h : Row lo hi w (.slice a n c) n xs) (hi' : i ≤ n) (a1 : Option Addr) (ha : ∀ g o, i < n → a = some ⟨g, o, none⟩ → a1 = some ⟨g, o + i * size, none⟩) (hc : n ≤ c) : Row lo hi w (.slice a1 (n - i) (c - i)) (n - i) (xs.drop (i * size)) := by
  refine ⟨a1, c - i, rfl, by omega, fun h0 => ?_⟩
  obtain ⟨g, o, rfl, h1, h2, h3⟩ := h.at (by omega)
  refine ⟨g, o + i * size, ha g o (by omega) rfl, h1, h2, fun j u hj => ?_⟩
  rw [List.getElem?_drop] at hj
  rw [Nat.add_assoc]
  exact h3 _ u hj
theorem cut_hi23 (lo hi : Nat) (a : Option Addr) (n c i : Nat) (hn : n ≤ c) (hin : i ≤ n) : ∃ a1, (∀ w, (sl23 (.slice a n c) none (some (.int .i64 (i : Int))) none).run Tryd.prog w = .ok (.slice a1 i c) w) ∧ ∀ (w : World) (xs : List Value), xs.length = n → Row lo hi w (.slice a n c) n xs → Row lo hi w (.slice a1 i c) i (xs.take i) := by
  refine ⟨if c = 0 then a else a.map (·.add (0 * 1)), fun w => ?_, fun w xs hx hr => ?_⟩
  · unfold sl23
    rw [run_slice_h w 23 a n c ht23 .i64 (i : Int) (by omega) (by omega)]
    rw [elem23]
    simp [Tryd.sizeOf9, Result.andThen, sliced]
  · have := row_take (size := 1) hr hin (if c = 0 then a else a.map (·.add (0 * 1))) (fun g o e => by subst e; split <;> simp [addr_mid]) hn
    simpa using this
theorem cut_lo23 (lo hi : Nat) (a : Option Addr) (n c i : Nat) (hn : n ≤ c) (hin : i ≤ n) : ∃ a1, (∀ w, (sl23 (.slice a n c) (some (.int .i64 (i : Int))) none none).run Tryd.prog w = .ok (.slice a1 (n - i) (c - i)) w) ∧ ∀ (w : World) (xs : List Value), xs.length = n → Row lo hi w (.slice a n c) n xs → Row lo hi w (.slice a1 (n - i) (c - i)) (n - i) (xs.drop i) := by
  refine ⟨if c = i then a else a.map (·.add (i * 1)), fun w => ?_, fun w xs hx hr => ?_⟩
  · unfold sl23
    rw [run_slice_l w 23 a n c ht23 .i64 (i : Int) (by omega) (by omega)]
    rw [elem23]
    simp [Tryd.sizeOf9, Result.andThen, sliced]
  · have := row_drop (size := 1) hr hin (if c = i then a else a.map (·.add (i * 1))) (fun g o h e => by subst e; rw [if_neg (by omega)]; simp [addr_mid]) hn
    simpa using this
theorem cut_hi24 (lo hi : Nat) (a : Option Addr) (n c i : Nat) (hn : n ≤ c) (hin : i ≤ n) : ∃ a1, (∀ w, (sl24 (.slice a n c) none (some (.int .i64 (i : Int))) none).run Tryd.prog w = .ok (.slice a1 i c) w) ∧ ∀ (w : World) (xs : List Value), xs.length = n * 5 → Row lo hi w (.slice a n c) n xs → Row lo hi w (.slice a1 i c) i (xs.take (i * 5)) := by
  refine ⟨if c = 0 then a else a.map (·.add (0 * 5)), fun w => ?_, fun w xs hx hr => ?_⟩
  · unfold sl24
    rw [run_slice_h w 24 a n c ht24 .i64 (i : Int) (by omega) (by omega)]
    rw [elem24]
    simp [Tryd.sizeOf26, Result.andThen, sliced]
  · exact row_take (size := 5) hr hin (if c = 0 then a else a.map (·.add (0 * 5))) (fun g o e => by subst e; split <;> simp [addr_mid]) hn
theorem cut_lo24 (lo hi : Nat) (a : Option Addr) (n c i : Nat) (hn : n ≤ c) (hin : i ≤ n) : ∃ a1, (∀ w, (sl24 (.slice a n c) (some (.int .i64 (i : Int))) none none).run Tryd.prog w = .ok (.slice a1 (n - i) (c - i)) w) ∧ ∀ (w : World) (xs : List Value), xs.length = n * 5 → Row lo hi w (.slice a n c) n xs → Row lo hi w (.slice a1 (n - i) (c - i)) (n - i) (xs.drop (i * 5)) := by
  refine ⟨if c = i then a else a.map (·.add (i * 5)), fun w => ?_, fun w xs hx hr => ?_⟩
  · unfold sl24
    rw [run_slice_l w 24 a n c ht24 .i64 (i : Int) (by omega) (by omega)]
    rw [elem24]
    simp [Tryd.sizeOf26, Result.andThen, sliced]
  · exact row_drop (size := 5) hr hin (if c = i then a else a.map (·.add (i * 5))) (fun g o h e => by subst e; rw [if_neg (by omega)]; simp [addr_mid]) hn
end Go.Proofs.YthfjofmfiklegabDoor
/- A tree that lies whatever the blocks from m to B become. -/
namespace Go.Proofs.YthfjofmfiklegabDoor
open Go.RowKit
def Lays (m B : Nat) (w : World) (T : Tr) (cs : List Value) : Prop := ∀ w'' : World, (∀ k, k < w.heap.size → k < m ∨ B ≤ k → w''.heap[k]? = w.heap[k]?) → Lies 0 w.heap.size w'' T cs
theorem Lays.lies {m B : Nat} {w : World} {T : Tr} {cs : List Value} (h : Lays m B w T cs) : Lies 0 w.heap.size w T cs := h w (fun _ _ _ => rfl)
theorem lays_of {m B lo hi : Nat} {w : World} {T : Tr} {cs : List Value} (h : Lies lo hi w T cs) (hm : hi ≤ m) (hw : hi ≤ w.heap.size) : Lays m B w T cs := fun w'' hs => (h.same (fun k _ h2 => hs k (by omega) (.inl (by omega)))).mono (Nat.zero_le _) hw
def Rel (P : Tr → List Value → Prop) (ks : List Tr) (Ks : List (List Value)) : Prop := ∀ (i : Nat) (t : Tr) (c : List Value), ks[i]? = some t → Ks[i]? = some c → P t c
theorem Rel.app {P : Tr → List Value → Prop} {a b : List Tr} {A B : List (List Value)} (hl : A.length = a.length) (h1 : Rel P a A) (h2 : Rel P b B) : Rel P (a ++ b) (A ++ B) := by
  intro i t c ht hc
  by_cases h : i < a.length
  · rw [List.getElem?_append_left h] at ht
    rw [List.getElem?_append_left (by omega)] at hc
    exact h1 i t c ht hc
  · rw [List.getElem?_append_right (by omega)] at ht hc
    rw [hl] at hc
    exact h2 _ t c ht hc
theorem Rel.take {P : Tr → List Value → Prop} {a : List Tr} {A : List (List Value)} (n : Nat) (h : Rel P a A) : Rel P (a.take n) (A.take n) := by
  intro i t c ht hc
  rw [List.getElem?_take] at ht hc
  split at ht
  · rename_i hi; rw [if_pos hi] at hc; exact h i t c ht hc
  · cases ht
theorem Rel.drop {P : Tr → List Value → Prop} {a : List Tr} {A : List (List Value)} (n : Nat) (h : Rel P a A) : Rel P (a.drop n) (A.drop n) := by
  intro i t c ht hc
  rw [List.getElem?_drop] at ht hc
  exact h _ t c ht hc
theorem Rel.one {P : Tr → List Value → Prop} {t : Tr} {c : List Value} (h : P t c) : Rel P [t] [c] := by
  intro i t' c' ht hc
  match i with
  | 0 => simp at ht hc; subst ht hc; exact h
  | i + 1 => simp at ht
theorem flat5_take (Ks : List (List Value)) (h : ∀ c ∈ Ks, c.length = 5) (p : Nat) : Ks.flatten.take (p * 5) = (Ks.take p).flatten := by
  induction Ks generalizing p with
  | nil => simp
  | cons a r ih =>
    cases p with
    | zero => simp
    | succ p =>
      have ha : a.length = 5 := h a (by simp)
      rw [List.flatten_cons, List.take_succ_cons, List.flatten_cons, ← ih (fun c hc => h c (by simp [hc])) p, List.take_append, ha, List.take_of_length_le (by omega)]
      congr 2; omega
theorem flat5_drop (Ks : List (List Value)) (h : ∀ c ∈ Ks, c.length = 5) (p : Nat) : Ks.flatten.drop (p * 5) = (Ks.drop p).flatten := by
  induction Ks generalizing p with
  | nil => simp
  | cons a r ih =>
    cases p with
    | zero => simp
    | succ p =>
      have ha : a.length = 5 := h a (by simp)
      rw [List.flatten_cons, List.drop_succ_cons, ← ih (fun c hc => h c (by simp [hc])) p, List.drop_append, ha, List.drop_of_length_le (by omega), List.nil_append]
      congr 1; omega
theorem empty_lies (lo hi : Nat) (w : World) : Lies lo hi w emptyDir [.int .i64 2, .bool false, .slice none 0 0, .slice none 0 0, .slice none 0 0] := by
  unfold emptyDir
  have h : ∀ n, n = 0 → ∀ xs, Row lo hi w (.slice none 0 0) n xs := fun n hn xs => by subst hn; exact ⟨none, 0, rfl, Nat.le_refl _, fun h => absurd h (by simp)⟩
  exact .mk 2 false ⟨#[]⟩ [] [] _ _ _ [] rfl (h _ rfl _) (h _ rfl _) (h _ rfl _) (fun i t c h1 _ => by simp at h1)
theorem kidAt_no {ns : List ByteArray} {ks : List Tr} {x : ByteArray} (h : has ns x = false) : kidAt ns ks x = emptyDir := by unfold kidAt; rw [h]; rfl
theorem kidAt_yes {ns : List ByteArray} {ks : List Tr} {x : ByteArray} (h : has ns x = true) (hl : pos ns x < ks.length) : kidAt ns ks x = ks[pos ns x] := by
  unfold kidAt; rw [h, if_pos rfl, List.getD_eq_getElem?_getD, List.getElem?_eq_getElem hl]; rfl
theorem nextAt_no {ns : List ByteArray} {x : ByteArray} (h : has ns x = false) : nextAt ns x = pos ns x := by unfold nextAt; rw [h]; rfl
theorem nextAt_yes {ns : List ByteArray} {x : ByteArray} (h : has ns x = true) : nextAt ns x = pos ns x + 1 := by unfold nextAt; rw [h]; rfl
/-- The tree that laid builds. -/
theorem laid_end {lo hi m B B' p q : Nat} {w w4 w7 : World} {ns : List ByteArray} {nm : ByteArray} {ks : List Tr} {Ks : List (List Value)} {T' : Tr} {cs' : List Value} {vn vk : Value}
    (hl : Ks.length = ks.length) (hK : ∀ (i : Nat) (t : Tr) (c : List Value), ks[i]? = some t → Ks[i]? = some c → Lies lo hi w t c)
    (hm : hi ≤ m) (hmB : m ≤ B) (hB : B ≤ w.heap.size) (hBB : B ≤ B') (hb : Below B w w7) (hT : Lays m B' w4 T' cs') (h47 : w4.heap.size ≤ w7.heap.size) (hs : ∀ k, k < w4.heap.size → k < m ∨ B' ≤ k → w7.heap[k]? = w4.heap[k]?)
    (hn : Row B w7.heap.size w7 vn (ns.take p ++ [nm] ++ ns.drop q).length ((ns.take p ++ [nm] ++ ns.drop q).map .string)) (hk : Row B w7.heap.size w7 vk (ks.take p ++ [T'] ++ ks.drop q).length (Ks.take p ++ [cs'] ++ Ks.drop q).flatten) :
    Lays m B w7 (.mk 2 false ⟨#[]⟩ (ns.take p ++ [nm] ++ ns.drop q) (ks.take p ++ [T'] ++ ks.drop q)) [.int .i64 2, .bool false, .slice none 0 0, vn, vk] := by
  intro w'' hw''
  have hb2 : ∀ k, k < m → w''.heap[k]? = w.heap[k]? := fun k hk => by
    rw [hw'' k (by have := hb.size; omega) (.inl hk), hb.block k (by omega)]
  have h7 := hb.size
  refine .mk 2 false ⟨#[]⟩ _ _ _ _ _ (Ks.take p ++ [cs'] ++ Ks.drop q) (by simp [hl]) ⟨none, 0, rfl, Nat.le_refl _, fun h => absurd h (Nat.lt_irrefl 0)⟩ ?_ ?_ ?_
  · exact (hn.same (fun k h1 h2 => hw'' k h2 (.inr h1))).mono (Nat.zero_le _) (Nat.le_refl _)
  · exact (hk.same (fun k h1 h2 => hw'' k h2 (.inr h1))).mono (Nat.zero_le _) (Nat.le_refl _)
  · have hR : Rel (fun t c => Lies 0 w7.heap.size w'' t c) ks Ks := fun i t c h1 h2 => ((hK i t c h1 h2).same (fun k _ hk => hb2 k (by omega))).mono (Nat.zero_le _) (by omega)
    refine Rel.app (by simp [hl]) (Rel.app (by simp [hl]) (hR.take p) (Rel.one ?_)) (hR.drop q)
    refine (hT w'' (fun k h1 h2 => ?_)).mono (Nat.zero_le _) h47
    rw [hw'' k (by omega) (by omega), hs k h1 h2]
end Go.Proofs.YthfjofmfiklegabDoor
/- The places of files: the plain mathematics, and how they are gathered. -/
namespace Go.Proofs.YthfjofmfiklegabDoor
open Go.RowKit
mutual
/-- The places of a tree's files, as they are met. -/
def filesL : Tr → ByteArray → List ByteArray
  | .mk k _ _ ns ks, p => (if k = 1 then [p] else []) ++ filesLs ns ks p
def filesLs : List ByteArray → List Tr → ByteArray → List ByteArray
  | n :: ns, t :: ks, p => filesL t (belowB p n) ++ filesLs ns ks p
  | _, _, _ => []
end
theorem filesLs_nil (p : ByteArray) : filesLs [] [] p = [] := by rw [filesLs]; intro n ns t ks h; cases h
theorem filesLs_snoc (ns : List ByteArray) : ∀ (ks : List Tr) (p n : ByteArray) (t : Tr), ns.length = ks.length → filesLs (ns ++ [n]) (ks ++ [t]) p = filesLs ns ks p ++ filesL t (belowB p n) := by
  induction ns with
  | nil =>
    intro ks p n t h
    cases ks with
    | nil => rw [List.nil_append, List.nil_append, filesLs, filesLs_nil]; simp
    | cons _ _ => simp at h
  | cons a r ih =>
    intro ks p n t h
    cases ks with
    | nil => simp at h
    | cons b q =>
      rw [List.cons_append, List.cons_append, filesLs, filesLs, ih q p n t (by simpa using h), List.append_assoc]
theorem filesLs_take {ns : List ByteArray} {ks : List Tr} {i : Nat} (p : ByteArray) (h1 : i < ns.length) (h2 : i < ks.length) : filesLs (ns.take (i + 1)) (ks.take (i + 1)) p = filesLs (ns.take i) (ks.take i) p ++ filesL ks[i] (belowB p ns[i]) := by
  rw [List.take_succ_eq_append_getElem h1, List.take_succ_eq_append_getElem h2, filesLs_snoc _ _ _ _ _ (by simp; omega)]
theorem filesLs_of (p : ByteArray) : ∀ (ks : List Tr) (ns : List ByteArray), (∀ t ∈ ks, ∀ p, (filesL t p).length ≤ wt t) → (filesLs ns ks p).length ≤ wts ks := by
  intro ks
  induction ks with
  | nil => intro ns _; cases ns <;> simp [filesLs, wts]
  | cons t r ih2 =>
    intro ns h
    cases ns with
    | nil => simp [filesLs]
    | cons n ns =>
      have h3 := h t (by simp) (belowB p n)
      have h4 := ih2 ns (fun t ht => h t (by simp [ht]))
      rw [filesLs, wts, List.length_append]
      omega
theorem filesL_len (T : Tr) : ∀ p, (filesL T p).length ≤ wt T := by
  induction T using Tr.ind with
  | h k x d ns ks ih =>
    intro p
    rw [filesL, wt, List.length_append]
    have h3 := filesLs_of p ks ns ih
    split <;> simp <;> omega
theorem filesLs_len (ns : List ByteArray) (ks : List Tr) (p : ByteArray) : (filesLs ns ks p).length ≤ wts ks := filesLs_of p ks ns (fun t _ p => filesL_len t p)
theorem belowB_size (p n : ByteArray) : (belowB p n).size ≤ p.size + 1 + n.size := by
  unfold belowB
  split
  · omega
  · simp [ByteArray.size_append]
    have : (⟨#[47]⟩ : ByteArray).size = 1 := rfl
    omega
/-- Only one cell's row has grown. -/
structure Gt (c : Nat) (w w' : World) (v v' : Value) : Prop where
  os : w'.os = w.os
  tape : w'.tape = w.tape
  output : w'.output = w.output
  size : w.heap.size ≤ w'.heap.size
  keep : ∀ k, k < w.heap.size → k ≠ c → v.ownBlock ≠ some k → w'.heap[k]? = w.heap[k]?
  own : ∀ g, v'.ownBlock = some g → v.ownBlock = some g ∨ w.heap.size ≤ g
theorem Gt.trans {c : Nat} {w w' w'' : World} {v v' v'' : Value} (h : Gt c w w' v v') (k : Gt c w' w'' v' v'') : Gt c w w'' v v'' :=
  ⟨k.os.trans h.os, k.tape.trans h.tape, k.output.trans h.output, Nat.le_trans h.size k.size,
    fun i hi hc hv => by
      have h2 := h.size
      rw [k.keep i (by omega) hc (fun e => by rcases h.own i e with h1 | h1; exact hv h1; omega), h.keep i hi hc hv],
    fun g hg => by
      have h2 := h.size
      rcases k.own g hg with h1 | h1
      · exact h.own g h1
      · exact .inr (by omega)⟩
theorem Gt.of_below {c : Nat} {w w' : World} (v : Value) (h : Below w.heap.size w w') : Gt c w w' v v := ⟨h.os, h.tape, h.output, h.size, fun k hk _ _ => h.block k hk, fun _ hg => .inl hg⟩
theorem Gt.drew {c : Nat} {w w' : World} {v v' : Value} (h : Gt c w w' v v') : Gt c w w'.drew v v' := ⟨h.os, h.tape, h.output, h.size, h.keep, h.own⟩
/-- What gather keeps. -/
structure GW (w wr : World) (c : Nat) (v vr : Value) (xs : List ByteArray) (t0 t1 t2 t3 t4 : Value) : Prop where
  g : Gt c w wr v vr
  b : Bx wr w.heap.size t0 t1 t2 t3 t4
  cr : Ctr wr c vr
  o : wr.ownsRow (c + 1) 9 1 vr xs.length (xs.map .string)
  z : w.heap.size < wr.heap.size
  nb : vr.ownBlock ≠ some w.heap.size
theorem GW.old {w wr : World} {c : Nat} {v vr : Value} {xs ys : List ByteArray} {t0 t1 t2 t3 t4 : Value} (h : GW w wr c v vr xs t0 t1 t2 t3 t4) (hc : c < w.heap.size) (ho : w.ownsRow (c + 1) 9 1 v ys.length (ys.map .string)) : Below c w wr :=
  ⟨h.g.os, h.g.tape, h.g.output, h.g.size, fun k hk => h.g.keep k (by omega) (by omega) (fun e => by have := (owns_lt ho k e).1; omega)⟩
theorem GW.step {w wr w1 w2 : World} {c : Nat} {v vr v2 : Value} {xs xs2 : List ByteArray} {t0 t1 t2 t3 t4 : Value} (h : GW w wr c v vr xs t0 t1 t2 t3 t4) (hb : Below wr.heap.size wr w1) (hg : Gt c w1 w2 vr v2) (hc : c < w.heap.size) (hcr : Ctr w2 c v2) (ho : w2.ownsRow (c + 1) 9 1 v2 xs2.length (xs2.map .string)) : GW w w2 c v v2 xs2 t0 t1 t2 t3 t4 := by
  have h1 := (Gt.of_below (c := c) vr hb).trans hg
  have h2 := h1.size
  have hz := h.z
  refine ⟨h.g.trans h1, h.b.of (h1.keep _ hz (by omega) h.nb), hcr, ho, by omega, fun e => ?_⟩
  rcases h1.own _ e with h3 | h3
  · exact h.nb h3
  · omega
/-- The place itself is laid behind. -/
theorem g_app {w wr : World} {c : Nat} {v : Value} {a : Option Addr} {cp : Nat} {xs : List ByteArray} {t0 t1 t2 t3 t4 : Value} (p : ByteArray) (h : GW w wr c v (.slice a xs.length cp) xs t0 t1 t2 t3 t4) (hc : c < w.heap.size) (hmax : xs.length ≤ 1000000) :
    ∃ a' c' w2, (∀ ty, (app23 ty #[.slice a xs.length cp, .slice (some ⟨wr.heap.size, 0, none⟩) 1 1]).run Tryd.prog (wr.alloc (.cells #[.string p] 9)) = .ok (.slice a' (xs.length + 1) c') w2) ∧ Ctr w2 c (.slice a xs.length cp) ∧ GW w (w2.setCell ⟨c, 0, none⟩ (.slice a' (xs.length + 1) c')) c v (.slice a' (xs.length + 1) c') (xs ++ [p]) t0 t1 t2 t3 t4 := by
  have hz := h.z
  have ho1 : (wr.alloc (.cells #[.string p] 9)).ownsRow (c + 1) 9 1 (.slice a xs.length cp) xs.length (xs.map .string) := owns_same h.o (fun g hg => Below.heap_alloc _ _ _ (owns_lt h.o g hg).2) (fun _ _ h => h)
  obtain ⟨v', w2, happ, ho2, hg, hf⟩ := app23_own _ (c + 1) _ _ (.slice a xs.length cp) xs.length _ _ 1 1 [.string p] ho1 (one_row wr [.string p] 9) rfl (fun u hu => by simp at hu; subst hu; rfl) (by omega) (by simp; omega)
  obtain ⟨a', c', rfl, _⟩ := owns_slice ho2
  have hs1 : (wr.alloc (.cells #[.string p] 9)).heap.size = wr.heap.size + 1 := by simp
  have hs2 := hg.size
  rw [hs1] at hs2 hf
  have hcne : (.slice a xs.length cp : Value).ownBlock ≠ some c := fun e => by have := (owns_lt h.o c e).1; omega
  have hct : w2.heap[c]? = wr.heap[c]? := by
    rw [hg.block c (by rw [hs1]; omega) (fun e => hcne e.symm), Below.heap_alloc _ _ _ (by omega)]
  have hct2 : Ctr w2 c (.slice a xs.length cp) := ⟨by rw [World.cell?_of_block (w := wr) hct]; exact h.cr.cell, by have := h.cr.fr; unfold World.frozen? at this ⊢; rw [show w2.heap[(⟨c, 0, none⟩ : Addr).block]? = wr.heap[(⟨c, 0, none⟩ : Addr).block]? from hct]; exact this⟩
  have hown : ∀ g, (.slice a' (xs.length + 1) c' : Value).ownBlock = some g → (.slice a xs.length cp : Value).ownBlock = some g ∨ wr.heap.size ≤ g := fun g hgv => by
    rcases hf with e | e
    · exact .inl (by rw [← e]; exact hgv)
    · rw [e] at hgv; simp at hgv; omega
  refine ⟨a', c', w2, happ, hct2, ⟨h.g.trans ⟨hg.os, hg.tape, hg.output, by simp; omega, fun k hk hkc hkv => ?_, hown⟩, ?_, hct2.set _, ?_, by simp; omega, fun e => ?_⟩⟩
  · rw [set_other _ _ _ _ _ hkc, hg.block k (by rw [hs1]; omega) (fun e => hkv e.symm), Below.heap_alloc _ _ _ hk]
  · refine h.b.of ?_
    rw [set_other _ _ _ _ _ (by omega), hg.block _ (by rw [hs1]; omega) (fun e => h.nb e.symm), Below.heap_alloc _ _ _ hz]
  · have e1 : (xs ++ [p]).length = xs.length + 1 := by simp
    have e2 : (xs ++ [p]).map Value.string = xs.map Value.string ++ [.string p] := by simp
    rw [e1, e2]
    exact owns_same ho2 (fun g hg => set_other _ _ _ _ _ (by have := (owns_lt ho2 g hg).1; omega)) (fun _ _ h => h)
  · rcases hown _ e with h3 | h3
    · exact h.nb h3
    · omega
end Go.Proofs.YthfjofmfiklegabDoor
/- gather, in the code. -/
namespace Go.Proofs.YthfjofmfiklegabDoor
open Go.RowKit
set_option linter.unusedSimpArgs false
def kidC (w : World) (g o : Nat) (v0 v1 v2 v3 v4 : Value) : Prop := w.cell? ⟨g, o, none⟩ = some v0 ∧ w.cell? ⟨g, o + 1, none⟩ = some v1 ∧ w.cell? ⟨g, o + 2, none⟩ = some v2 ∧ w.cell? ⟨g, o + 3, none⟩ = some v3 ∧ w.cell? ⟨g, o + 4, none⟩ = some v4
theorem kidC.kept {w w' : World} {g o B : Nat} {v0 v1 v2 v3 v4 : Value} (h : kidC w g o v0 v1 v2 v3 v4) (hb : Below B w w') (hg : g < B) : kidC w' g o v0 v1 v2 v3 v4 := by
  obtain ⟨h0, h1, h2, h3, h4⟩ := h
  refine ⟨?_, ?_, ?_, ?_, ?_⟩
  all_goals rw [hb.cell (p := ⟨g, _, none⟩) (by show g < B; omega)]; assumption
def Zl (ys ns : List ByteArray) (ks : List Tr) (p : ByteArray) (i : Nat) : List ByteArray := ys ++ filesLs (ns.take i) (ks.take i) p
theorem zl_zero (ys ns : List ByteArray) (ks : List Tr) (p : ByteArray) : Zl ys ns ks p 0 = ys := by unfold Zl; rw [List.take_zero, List.take_zero, filesLs_nil, List.append_nil]
theorem zl_step (ys : List ByteArray) {ns : List ByteArray} {ks : List Tr} {p : ByteArray} {i : Nat} (h1 : i < ns.length) (h2 : i < ks.length) : Zl ys ns ks p (i + 1) = Zl ys ns ks p i ++ filesL ks[i] (belowB p ns[i]) := by
  unfold Zl; rw [filesLs_take p h1 h2, List.append_assoc]
/-- What gather leaves. -/
def GatA (c : Nat) (w : World) (v : Value) (xs : List ByteArray) (w' : World) : Prop := ∃ a cp, Gt c w w' v (.slice a xs.length cp) ∧ Ctr w' c (.slice a xs.length cp) ∧ w'.ownsRow (c + 1) 9 1 (.slice a xs.length cp) xs.length (xs.map .string)
set_option maxRecDepth 20000 in
set_option maxHeartbeats 2000000 in
theorem gather_any (T : Tr) : ∀ (lo hi : Nat) (cs : List Value) (w : World) (c : Nat) (p : ByteArray) (a : Option Addr) (cp : Nat) (xs : List ByteArray), Lies lo hi w T cs → hi ≤ c → Ev T → wt T ≤ 100000 → p.size + 20 * wt T ≤ 10000000 → xs.length + wt T ≤ 900000 → Ctr w c (.slice a xs.length cp) → w.ownsRow (c + 1) 9 1 (.slice a xs.length cp) xs.length (xs.map .string) →
    Calls Tryd.prog 28 #[.agg cs.toArray, .string p, .pointer (some ⟨c, 0, none⟩)] w fun e w' => e = .returned (.tuple #[]) ∧ GatA c w (.slice a xs.length cp) (xs ++ filesL T p) w' := by
  induction T using Tr.ind with
  | h k x d ns ks ih =>
  intro lo hi cs w c p a cp xs hL hhi hev hW hps hxl hCt hOw
  have hSm := small_of hW
  obtain ⟨hlen, hevk⟩ : ns.length = ks.length ∧ ∀ t ∈ ks, Ev t := by cases hev with | mk _ _ _ _ _ h1 h2 => exact ⟨h1, h2⟩
  clear hev
  cases hL with
  | mk _ _ _ _ _ vd vn vk Ks hl hd hn hk hK =>
  obtain ⟨ad, cd, rfl, hcd⟩ := hd.slice
  obtain ⟨an, cn, rfl, hcn⟩ := hn.slice
  obtain ⟨ak, ck, rfl, hck⟩ := hk.slice
  have hcw := hCt.lt
  have hG0 : GW w (w.alloc (.cells #[.int .i64 k, .bool x, .slice ad d.size cd, .slice an ns.length cn, .slice ak ks.length ck] 26)) c (.slice a xs.length cp) (.slice a xs.length cp) xs (.int .i64 k) (.bool x) (.slice ad d.size cd) (.slice an ns.length cn) (.slice ak ks.length ck) := by
    have hb : Below w.heap.size w (w.alloc (.cells #[.int .i64 k, .bool x, .slice ad d.size cd, .slice an ns.length cn, .slice ak ks.length ck] 26)) := (Below.refl _ _).alloc (Nat.le_refl _) _
    exact ⟨Gt.of_below _ hb, bx_new _ _ _ _ _ _, hCt.below hb hcw, owns_same hOw (fun g hg => hb.block g (owns_lt hOw g hg).2) (fun _ _ h => h), by simp, fun e => by have := (owns_lt hOw _ e).2; omega⟩
  have hwt : ∀ (i : Nat) (h1 : i < ns.length) (h2 : i < ks.length), (belowB p ns[i]).size + 20 * wt ks[i] ≤ 10000000 ∧ ns[i].size ≤ 1000009 ∧ wt ks[i] ≤ 100000 := fun i h1 h2 => by
    have e1 := belowB_size p ns[i]
    have e2 := wts_mem (List.getElem_mem h2)
    have e3 := tenths_mem (List.getElem_mem h1)
    rw [wt] at hps hW
    refine ⟨by omega, hSm.s _ (List.getElem_mem h1), by omega⟩
  have hcnt : ∀ i (h2 : i < ks.length), (filesLs (ns.take i) (ks.take i) p).length + wt ks[i] ≤ wts ks := fun i h2 => by
    have e1 := wts_take ks i h2
    have e2 := wts_take_le ks (i + 1)
    have e3 : (filesLs (ns.take i) (ks.take i) p).length ≤ wts (ks.take i) := filesLs_len _ _ _
    omega
  have hwk : xs.length + 1 + wts ks ≤ 900000 := by rw [wt] at hxl; omega
  have HF : Hid (filesL (.mk k x d ns ks) p = (if k = 1 then [p] else []) ++ filesLs ns ks p) := by show _ = _; rw [filesL]
  obtain ⟨N, hN⟩ : ∃ N, ns.length = N := ⟨_, rfl⟩
  have hNk : ks.length = N := by rw [← hlen]; exact hN
  have hN1 : N ≤ 100000 := by rw [← hN]; exact hSm.n
  have HWt := hide (And.intro hwt (And.intro hcnt hwk))
  have HOw := hide (And.intro hOw hCt)
  have HIH := hide (fun (t : Tr) (ht : t ∈ ks) => ih t ht lo hi)
  have HEv := hide hevk
  rw [hN] at hn hG0 hcn
  rw [hNk] at hk hG0 hck hl
  have HR := hide (And.intro hn (And.intro hk (And.intro hl hK)))
  have HN := hide (And.intro hN hNk)
  rw [hN, hNk]
  have hps' : p.size ≤ 10000000 := by omega
  have HPs := hide (And.intro hps' hxl)
  clear hN hNk hlen hn hk hl hK hSm hd hcd hwt hcnt hwk ih hevk hCt hOw hps hW hxl hps'
  -- from here on: the loop, from a world that GW speaks of
  have HLoop := hide hG0
  obtain ⟨b0, b1, b2, b3, b4⟩ := hG0.b.cells
  clear hG0
  by_cases hk1 : k = 1
  case pos =>
    subst hk1
    obtain ⟨a1, c1, w2, happ, hct2, hG⟩ := g_app p (unhide HLoop) hcw (by have := (unhide HWt).2.2; omega)
    have z0 := (unhide HLoop).cr.cell
    have hct2c := hct2.cell
    have hct2f := hct2.fr
    have hsz : (w.alloc (.cells #[.int .i64 1, .bool x, .slice ad d.size cd, .slice an N cn, .slice ak N ck] 26)).heap.size = w.heap.size + 1 := by simp
    rw [hsz] at happ
    have HG := hide hG
    have hcw1 : c < w.heap.size + 1 := by omega
    obtain ⟨d0, d1, d2, d3, d4⟩ := hG.b.cells
    have hne : w.heap.size ≠ c := by omega
    clear hG hct2 hsz z0 HLoop b0 b1 b2 b3 b4
    have HCt := hide (unhide HOw).2
    have zc := (unhide HCt).cell
    go_enter Tryd.func28, Tryd.ntmps28
    go_wp2_with fail
    obtain ⟨ys, eys⟩ : ∃ ys, ys = (xs ++ [p]) := ⟨_, rfl⟩
    have HY : Hid (ys ++ filesLs ns ks p = xs ++ filesL (.mk 1 x d ns ks) p) := by show _ = _; rw [eys, unhide HF]; simp
    have hys : ys.length ≤ xs.length + 1 := by rw [eys]; simp
    have H0 : Hid (GW w (w2.setCell ⟨c, 0, none⟩ (.slice a1 (xs.length + 1) c1)) c (.slice a xs.length cp) (.slice a1 ys.length c1) ys (.int .i64 1) (.bool x) (.slice ad d.size cd) (.slice an N cn) (.slice ak N ck)) := by show GW _ _ _ _ _ _ _ _ _ _ _; rw [eys]; rw [show (xs ++ [p]).length = xs.length + 1 by simp]; exact unhide HG
    have HYs := hide hys
    clear eys hys
    clear happ hct2c hct2f HG d0 d1 d2 d3 d4 zc
    go_loopw [22] (fun vi wr => ∃ (i : Nat) (av : Option Addr) (cv : Nat), i ≤ N ∧ vi = .int .i64 (i : Int) ∧ GW w wr c (.slice a xs.length cp) (.slice av (Zl ys ns ks p i).length cv) (Zl ys ns ks p i) (.int .i64 1) (.bool x) (.slice ad d.size cd) (.slice an N cn) (.slice ak N ck)) (fun vi _ => N - (intOf vi).toNat)
    case atStart => exact ⟨0, a1, c1, by omega, rfl, by rw [zl_zero]; exact unhide H0⟩
    case round =>
     clear H0
     obtain ⟨i, av, cv, hiN, rfl, hW⟩ := hrel
     obtain ⟨y0, y1, y2, y3, y4⟩ := hW.b.cells
     have hz := hW.z
     have hb := hW.old hcw (unhide HOw).1
     by_cases hlt : i < N
     · have hn1 : i < ns.length := by rw [(unhide HN).1]; exact hlt
       have hk1 : i < ks.length := by rw [(unhide HN).2]; exact hlt
       obtain ⟨g, o, rfl, hg1, hg2, hcell⟩ := (unhide HR).1.at (by omega)
       obtain ⟨g', o', rfl, hg1', hg2', hcell'⟩ := (unhide HR).2.1.at (by omega)
       obtain ⟨hl, hK⟩ := (unhide HR).2.2
       have hci : wr.cell? ⟨g, o + i, none⟩ = some (.string ns[i]) := by rw [hb.cell (p := ⟨g, o + i, none⟩) (show g < c by omega)]; exact hcell i _ (by simp [List.getElem?_eq_getElem hn1])
       obtain ⟨q0, q1, f1, g1, h1, f2, g2, h2, f3, g3, h3, hLi, m0, m1, m2, m3, m4⟩ := kid_sl (hl.trans (unhide HN).2.symm) (fun j u hj => by rw [hb.cell (p := ⟨g', o' + j, none⟩) (show g' < c by omega)]; exact hcell' j u hj) (fun i t c h1 h2 => (hK i t c h1 h2).kept hb hhi) i hk1
       have HKc : Hid (kidC wr g' (o' + i * 5) (.int .i64 q0) (.bool q1) (.slice f1 g1 h1) (.slice f2 g2 h2) (.slice f3 g3 h3)) := ⟨m0, m1, m2, m3, m4⟩
       have hwi := (unhide HWt).1 i hn1 hk1
       have HBl := hide (fun w => below_any p ns[i] w (by have := (unhide HPs).1; omega) (by omega))
       have HZ := hide (zl_step ys (p := p) hn1 hk1)
       have hZl : (Zl ys ns ks p i).length + wt ks[i] ≤ 900000 := by
         have e1 := (unhide HWt).2.1 i hk1
         have e2 := (unhide HWt).2.2
         have e3 := unhide HYs
         unfold Zl
         rw [List.length_append]
         omega
       have HI := hide (fun (w' : World) (hL : Lies lo hi w' ks[i] [.int .i64 q0, .bool q1, .slice f1 g1 h1, .slice f2 g2 h2, .slice f3 g3 h3]) (hC : Ctr w' c (.slice av (Zl ys ns ks p i).length cv)) (hO : w'.ownsRow (c + 1) 9 1 (.slice av (Zl ys ns ks p i).length cv) (Zl ys ns ks p i).length ((Zl ys ns ks p i).map .string)) => unhide HIH ks[i] (List.getElem_mem hk1) _ w' c (belowB p ns[i]) av cv (Zl ys ns ks p i) hL hhi (unhide HEv _ (List.getElem_mem hk1)) hwi.2.2 hwi.1 hZl hC hO)
       have HLi := hide hLi
       have HW := hide hW
       have hgw : g' < wr.heap.size := by omega
       have hgc : g < wr.heap.size := by omega
       clear hcell hcell' hl hK hW hLi hZl hwi hb m0 m1 m2 m3 m4
       generalize ns[i] = s at *
       generalize ks[i] = t at *
       clear hn1 hk1
       go_wp2_with fail
       clear hci
       refine wp_region_noPanic ?_
       refine wp_region_held_drew (S := fun w' => Bx w' w.heap.size (.int .i64 1) (.bool x) (.slice ad d.size cd) (.slice (some ⟨g, o, none⟩) N cn) (.slice (some ⟨g', o', none⟩) N ck) ∧ kidC w' g' (o' + i * 5) (.int .i64 q0) (.bool q1) (.slice f1 g1 h1) (.slice f2 g2 h2) (.slice f3 g3 h3)) (by kernel_rfl) ⟨(unhide HW).b, unhide HKc⟩ (fun hHeld => ?_)
       clear y0 y1 y2 y3 y4
       refine wpAnyH_take (i := 0) (v := .pointer (some ⟨w.heap.size, 4, none⟩)) rfl (by kernel_rfl) (by kernel_rfl) (by kernel_rfl) (fun _ _ _ h => h) (Or.inl ⟨by rfl, ?_⟩) hHeld ?_
       · intro w' hS'; go_simp
       try simp only [Act.put, List.getElem_toArray, List.getElem_cons_zero, List.getElem_cons_succ, List.setIfInBounds_toArray, List.set_cons_zero, List.set_cons_succ]
       refine wpAnyH_take (i := 1) (v := .slice (some ⟨g', o', none⟩) N ck) rfl (by kernel_rfl) (by kernel_rfl) (by kernel_rfl) (fun _ _ _ h => h) (Or.inl ⟨by rfl, ?_⟩) hHeld ?_
       · intro w' hS'; obtain ⟨t0, t1, t2, t3, t4⟩ := hS'.1.cells; go_simp
       try simp only [Act.put, List.getElem_toArray, List.getElem_cons_zero, List.getElem_cons_succ, List.setIfInBounds_toArray, List.set_cons_zero, List.set_cons_succ]
       refine wpAnyH_take (i := 2) (v := .int .i64 (i : Int)) rfl (by kernel_rfl) (by kernel_rfl) (by kernel_rfl) (fun _ _ _ h => h) (Or.inl ⟨by rfl, ?_⟩) hHeld ?_
       · intro w' hS'; go_simp
       try simp only [Act.put, List.getElem_toArray, List.getElem_cons_zero, List.getElem_cons_succ, List.setIfInBounds_toArray, List.set_cons_zero, List.set_cons_succ]
       refine wpAnyH_take (i := 3) (v := .pointer (some ⟨g', o' + i * 5, none⟩)) rfl (by kernel_rfl) (by kernel_rfl) (by kernel_rfl) (fun _ _ _ h => h) (Or.inl ⟨by rfl, ?_⟩) hHeld ?_
       · intro w' hS'; go_simp
       try simp only [Act.put, List.getElem_toArray, List.getElem_cons_zero, List.getElem_cons_succ, List.setIfInBounds_toArray, List.set_cons_zero, List.set_cons_succ]
       refine wpAnyH_take (i := 4) (v := .agg #[.int .i64 q0, .bool q1, .slice f1 g1 h1, .slice f2 g2 h2, .slice f3 g3 h3]) rfl (by kernel_rfl) (by kernel_rfl) (by kernel_rfl) (fun _ _ _ h => h) (Or.inl ⟨by rfl, ?_⟩) hHeld ?_
       · intro w' hS'; obtain ⟨k0, k1, k2, k3, k4⟩ := hS'.2; go_simp
       try simp only [Act.put, List.getElem_toArray, List.getElem_cons_zero, List.getElem_cons_succ, List.setIfInBounds_toArray, List.set_cons_zero, List.set_cons_succ]
       refine wpAnyH_take (i := 5) (v := .string p) rfl (by kernel_rfl) (by kernel_rfl) (by kernel_rfl) (fun _ _ _ h => h) (Or.inl ⟨by rfl, ?_⟩) hHeld ?_
       · intro w' hS'; go_simp
       try simp only [Act.put, List.getElem_toArray, List.getElem_cons_zero, List.getElem_cons_succ, List.setIfInBounds_toArray, List.set_cons_zero, List.set_cons_succ]
       refine wpAnyH_take (i := 6) (v := .string s) rfl (by kernel_rfl) (by kernel_rfl) (by kernel_rfl) (fun _ _ _ h => h) (Or.inl ⟨by rfl, ?_⟩) hHeld ?_
       · intro w' hS'; go_simp
       try simp only [Act.put, List.getElem_toArray, List.getElem_cons_zero, List.getElem_cons_succ, List.setIfInBounds_toArray, List.set_cons_zero, List.set_cons_succ]
       refine wpAnyH_take (i := 8) (v := .pointer (some ⟨c, 0, none⟩)) rfl (by kernel_rfl) (by kernel_rfl) (by kernel_rfl) (fun _ _ _ h => h) (Or.inl ⟨by rfl, ?_⟩) hHeld ?_
       · intro w' hS'; go_simp
       try simp only [Act.put, List.getElem_toArray, List.getElem_cons_zero, List.getElem_cons_succ, List.setIfInBounds_toArray, List.set_cons_zero, List.set_cons_succ]
       refine wpAnyH_ready (rs := [7]) (by kernel_rfl) (by simp) (AllReadyH.cons rfl (fun K hK => ?_) AllReadyH.nil)
       simp only [List.getElem_toArray, List.getElem_cons_zero, List.getElem_cons_succ]
       go_simp
       refine (unhide HBl _).mono ?_
       rintro e w1 ⟨rfl, hb1⟩
       have hb1' : Below wr.heap.size wr w1 := below_drew' hb1
       have hs1 := hb1'.size
       refine hK.out _ _ ⟨(unhide HW).b.kept hb1' hz, (unhide HKc).kept hb1' hgw⟩ (fun hHeld => ?_)
       clear hK K
       try simp only [Act.put, List.getElem_toArray, List.getElem_cons_zero, List.getElem_cons_succ, List.setIfInBounds_toArray, List.set_cons_zero, List.set_cons_succ]
       refine wpAnyH_ready (rs := [9]) (by kernel_rfl) (by simp) (AllReadyH.cons rfl (fun K hK => ?_) AllReadyH.nil)
       simp only [List.getElem_toArray, List.getElem_cons_zero, List.getElem_cons_succ]
       go_simp
       refine (unhide HI _ ((unhide HLi).kept (B := wr.heap.size) hb1' (by omega)) ((unhide HW).cr.below (B := wr.heap.size) hb1' (by omega)) (owns_same (unhide HW).o (fun g hg => hb1'.block g (owns_lt (unhide HW).o g hg).2) (fun _ _ h => h))).mono ?_
       rintro e w2 ⟨rfl, a2, c2, hG2, hC2, hO2⟩
       have HW2 := hide ((unhide HW).step hb1' hG2 hcw hC2 hO2)
       have hz2 := (unhide HW2).z
       refine hK.out _ _ ?_ (fun hHeld => ?_)
       · refine ⟨(unhide HW2).b, ?_⟩
         have hbo := (unhide HW2).old hcw (unhide HOw).1
         have hbo' := (unhide HW).old hcw (unhide HOw).1
         obtain ⟨u0, u1, u2, u3, u4⟩ := unhide HKc
         refine ⟨?_, ?_, ?_, ?_, ?_⟩
         all_goals rw [hbo.cell (p := ⟨g', _, none⟩) (by show g' < c; omega), ← hbo'.cell (p := ⟨g', _, none⟩) (by show g' < c; omega)]; assumption
       clear hK K
       try simp only [Act.put, List.getElem_toArray, List.getElem_cons_zero, List.getElem_cons_succ, List.setIfInBounds_toArray, List.set_cons_zero, List.set_cons_succ]
       refine wpAnyH_done (by kernel_rfl) ?_ _
       refine NoPanic.normal ?_
       clear hHeld
       go_wp2_with fail
       go_roundw
       case rel => exact ⟨i + 1, a2, c2, by omega, by go_num, by rw [unhide HZ]; exact unhide HW2⟩
       case measure => simp [intOf]; try omega
     · obtain rfl : i = N := by omega
       have HW := hide hW
       clear hW hb
       go_wp2_with fail
       refine bodyPost_end (v := .tuple #[]) (by simp [results, Tryd.results28, go_sem]) rfl ⟨rfl, ?_⟩
       have e1 : Zl ys ns ks p i = xs ++ filesL (.mk 1 x d ns ks) p := by
         unfold Zl
         rw [List.take_of_length_le (by rw [(unhide HN).1]; omega), List.take_of_length_le (by rw [(unhide HN).2]; omega)]
         exact unhide HY
       rw [e1] at HW
       exact ⟨av, cv, (unhide HW).g, (unhide HW).cr, (unhide HW).o⟩
  case neg =>
    have e2 : (k == 1) = false := by simpa using hk1
    have HK1 := hide hk1
    clear hk1
    go_enter Tryd.func28, Tryd.ntmps28
    go_wp2_with fail
    obtain ⟨ys, eys⟩ : ∃ ys, ys = xs := ⟨_, rfl⟩
    have HY : Hid (ys ++ filesLs ns ks p = xs ++ filesL (.mk k x d ns ks) p) := by show _ = _; rw [eys, unhide HF]; rw [if_neg (unhide HK1)]; simp
    have hys : ys.length ≤ xs.length + 1 := by rw [eys]; simp
    have H0 : Hid (GW w (w.alloc (.cells #[.int .i64 k, .bool x, .slice ad d.size cd, .slice an N cn, .slice ak N ck] 26)) c (.slice a xs.length cp) (.slice a ys.length cp) ys (.int .i64 k) (.bool x) (.slice ad d.size cd) (.slice an N cn) (.slice ak N ck)) := by show GW _ _ _ _ _ _ _ _ _ _ _; rw [eys]; exact unhide HLoop
    have HYs := hide hys
    clear eys hys
    clear b0 b1 b2 b3 b4 HLoop
    go_loopw [22] (fun vi wr => ∃ (i : Nat) (av : Option Addr) (cv : Nat), i ≤ N ∧ vi = .int .i64 (i : Int) ∧ GW w wr c (.slice a xs.length cp) (.slice av (Zl ys ns ks p i).length cv) (Zl ys ns ks p i) (.int .i64 k) (.bool x) (.slice ad d.size cd) (.slice an N cn) (.slice ak N ck)) (fun vi _ => N - (intOf vi).toNat)
    case atStart => exact ⟨0, a, cp, by omega, rfl, by rw [zl_zero]; exact unhide H0⟩
    case round =>
     clear H0
     obtain ⟨i, av, cv, hiN, rfl, hW⟩ := hrel
     obtain ⟨y0, y1, y2, y3, y4⟩ := hW.b.cells
     have hz := hW.z
     have hb := hW.old hcw (unhide HOw).1
     by_cases hlt : i < N
     · have hn1 : i < ns.length := by rw [(unhide HN).1]; exact hlt
       have hk1 : i < ks.length := by rw [(unhide HN).2]; exact hlt
       obtain ⟨g, o, rfl, hg1, hg2, hcell⟩ := (unhide HR).1.at (by omega)
       obtain ⟨g', o', rfl, hg1', hg2', hcell'⟩ := (unhide HR).2.1.at (by omega)
       obtain ⟨hl, hK⟩ := (unhide HR).2.2
       have hci : wr.cell? ⟨g, o + i, none⟩ = some (.string ns[i]) := by rw [hb.cell (p := ⟨g, o + i, none⟩) (show g < c by omega)]; exact hcell i _ (by simp [List.getElem?_eq_getElem hn1])
       obtain ⟨q0, q1, f1, g1, h1, f2, g2, h2, f3, g3, h3, hLi, m0, m1, m2, m3, m4⟩ := kid_sl (hl.trans (unhide HN).2.symm) (fun j u hj => by rw [hb.cell (p := ⟨g', o' + j, none⟩) (show g' < c by omega)]; exact hcell' j u hj) (fun i t c h1 h2 => (hK i t c h1 h2).kept hb hhi) i hk1
       have HKc : Hid (kidC wr g' (o' + i * 5) (.int .i64 q0) (.bool q1) (.slice f1 g1 h1) (.slice f2 g2 h2) (.slice f3 g3 h3)) := ⟨m0, m1, m2, m3, m4⟩
       have hwi := (unhide HWt).1 i hn1 hk1
       have HBl := hide (fun w => below_any p ns[i] w (by have := (unhide HPs).1; omega) (by omega))
       have HZ := hide (zl_step ys (p := p) hn1 hk1)
       have hZl : (Zl ys ns ks p i).length + wt ks[i] ≤ 900000 := by
         have e1 := (unhide HWt).2.1 i hk1
         have e2 := (unhide HWt).2.2
         have e3 := unhide HYs
         unfold Zl
         rw [List.length_append]
         omega
       have HI := hide (fun (w' : World) (hL : Lies lo hi w' ks[i] [.int .i64 q0, .bool q1, .slice f1 g1 h1, .slice f2 g2 h2, .slice f3 g3 h3]) (hC : Ctr w' c (.slice av (Zl ys ns ks p i).length cv)) (hO : w'.ownsRow (c + 1) 9 1 (.slice av (Zl ys ns ks p i).length cv) (Zl ys ns ks p i).length ((Zl ys ns ks p i).map .string)) => unhide HIH ks[i] (List.getElem_mem hk1) _ w' c (belowB p ns[i]) av cv (Zl ys ns ks p i) hL hhi (unhide HEv _ (List.getElem_mem hk1)) hwi.2.2 hwi.1 hZl hC hO)
       have HLi := hide hLi
       have HW := hide hW
       have hgw : g' < wr.heap.size := by omega
       have hgc : g < wr.heap.size := by omega
       clear hcell hcell' hl hK hW hLi hZl hwi hb m0 m1 m2 m3 m4
       generalize ns[i] = s at *
       generalize ks[i] = t at *
       clear hn1 hk1
       go_wp2_with fail
       clear hci
       refine wp_region_noPanic ?_
       refine wp_region_held_drew (S := fun w' => Bx w' w.heap.size (.int .i64 k) (.bool x) (.slice ad d.size cd) (.slice (some ⟨g, o, none⟩) N cn) (.slice (some ⟨g', o', none⟩) N ck) ∧ kidC w' g' (o' + i * 5) (.int .i64 q0) (.bool q1) (.slice f1 g1 h1) (.slice f2 g2 h2) (.slice f3 g3 h3)) (by kernel_rfl) ⟨(unhide HW).b, unhide HKc⟩ (fun hHeld => ?_)
       clear y0 y1 y2 y3 y4
       refine wpAnyH_take (i := 0) (v := .pointer (some ⟨w.heap.size, 4, none⟩)) rfl (by kernel_rfl) (by kernel_rfl) (by kernel_rfl) (fun _ _ _ h => h) (Or.inl ⟨by rfl, ?_⟩) hHeld ?_
       · intro w' hS'; go_simp
       try simp only [Act.put, List.getElem_toArray, List.getElem_cons_zero, List.getElem_cons_succ, List.setIfInBounds_toArray, List.set_cons_zero, List.set_cons_succ]
       refine wpAnyH_take (i := 1) (v := .slice (some ⟨g', o', none⟩) N ck) rfl (by kernel_rfl) (by kernel_rfl) (by kernel_rfl) (fun _ _ _ h => h) (Or.inl ⟨by rfl, ?_⟩) hHeld ?_
       · intro w' hS'; obtain ⟨t0, t1, t2, t3, t4⟩ := hS'.1.cells; go_simp
       try simp only [Act.put, List.getElem_toArray, List.getElem_cons_zero, List.getElem_cons_succ, List.setIfInBounds_toArray, List.set_cons_zero, List.set_cons_succ]
       refine wpAnyH_take (i := 2) (v := .int .i64 (i : Int)) rfl (by kernel_rfl) (by kernel_rfl) (by kernel_rfl) (fun _ _ _ h => h) (Or.inl ⟨by rfl, ?_⟩) hHeld ?_
       · intro w' hS'; go_simp
       try simp only [Act.put, List.getElem_toArray, List.getElem_cons_zero, List.getElem_cons_succ, List.setIfInBounds_toArray, List.set_cons_zero, List.set_cons_succ]
       refine wpAnyH_take (i := 3) (v := .pointer (some ⟨g', o' + i * 5, none⟩)) rfl (by kernel_rfl) (by kernel_rfl) (by kernel_rfl) (fun _ _ _ h => h) (Or.inl ⟨by rfl, ?_⟩) hHeld ?_
       · intro w' hS'; go_simp
       try simp only [Act.put, List.getElem_toArray, List.getElem_cons_zero, List.getElem_cons_succ, List.setIfInBounds_toArray, List.set_cons_zero, List.set_cons_succ]
       refine wpAnyH_take (i := 4) (v := .agg #[.int .i64 q0, .bool q1, .slice f1 g1 h1, .slice f2 g2 h2, .slice f3 g3 h3]) rfl (by kernel_rfl) (by kernel_rfl) (by kernel_rfl) (fun _ _ _ h => h) (Or.inl ⟨by rfl, ?_⟩) hHeld ?_
       · intro w' hS'; obtain ⟨k0, k1, k2, k3, k4⟩ := hS'.2; go_simp
       try simp only [Act.put, List.getElem_toArray, List.getElem_cons_zero, List.getElem_cons_succ, List.setIfInBounds_toArray, List.set_cons_zero, List.set_cons_succ]
       refine wpAnyH_take (i := 5) (v := .string p) rfl (by kernel_rfl) (by kernel_rfl) (by kernel_rfl) (fun _ _ _ h => h) (Or.inl ⟨by rfl, ?_⟩) hHeld ?_
       · intro w' hS'; go_simp
       try simp only [Act.put, List.getElem_toArray, List.getElem_cons_zero, List.getElem_cons_succ, List.setIfInBounds_toArray, List.set_cons_zero, List.set_cons_succ]
       refine wpAnyH_take (i := 6) (v := .string s) rfl (by kernel_rfl) (by kernel_rfl) (by kernel_rfl) (fun _ _ _ h => h) (Or.inl ⟨by rfl, ?_⟩) hHeld ?_
       · intro w' hS'; go_simp
       try simp only [Act.put, List.getElem_toArray, List.getElem_cons_zero, List.getElem_cons_succ, List.setIfInBounds_toArray, List.set_cons_zero, List.set_cons_succ]
       refine wpAnyH_take (i := 8) (v := .pointer (some ⟨c, 0, none⟩)) rfl (by kernel_rfl) (by kernel_rfl) (by kernel_rfl) (fun _ _ _ h => h) (Or.inl ⟨by rfl, ?_⟩) hHeld ?_
       · intro w' hS'; go_simp
       try simp only [Act.put, List.getElem_toArray, List.getElem_cons_zero, List.getElem_cons_succ, List.setIfInBounds_toArray, List.set_cons_zero, List.set_cons_succ]
       refine wpAnyH_ready (rs := [7]) (by kernel_rfl) (by simp) (AllReadyH.cons rfl (fun K hK => ?_) AllReadyH.nil)
       simp only [List.getElem_toArray, List.getElem_cons_zero, List.getElem_cons_succ]
       go_simp
       refine (unhide HBl _).mono ?_
       rintro e w1 ⟨rfl, hb1⟩
       have hb1' : Below wr.heap.size wr w1 := below_drew' hb1
       have hs1 := hb1'.size
       refine hK.out _ _ ⟨(unhide HW).b.kept hb1' hz, (unhide HKc).kept hb1' hgw⟩ (fun hHeld => ?_)
       clear hK K
       try simp only [Act.put, List.getElem_toArray, List.getElem_cons_zero, List.getElem_cons_succ, List.setIfInBounds_toArray, List.set_cons_zero, List.set_cons_succ]
       refine wpAnyH_ready (rs := [9]) (by kernel_rfl) (by simp) (AllReadyH.cons rfl (fun K hK => ?_) AllReadyH.nil)
       simp only [List.getElem_toArray, List.getElem_cons_zero, List.getElem_cons_succ]
       go_simp
       refine (unhide HI _ ((unhide HLi).kept (B := wr.heap.size) hb1' (by omega)) ((unhide HW).cr.below (B := wr.heap.size) hb1' (by omega)) (owns_same (unhide HW).o (fun g hg => hb1'.block g (owns_lt (unhide HW).o g hg).2) (fun _ _ h => h))).mono ?_
       rintro e w2 ⟨rfl, a2, c2, hG2, hC2, hO2⟩
       have HW2 := hide ((unhide HW).step hb1' hG2 hcw hC2 hO2)
       have hz2 := (unhide HW2).z
       refine hK.out _ _ ?_ (fun hHeld => ?_)
       · refine ⟨(unhide HW2).b, ?_⟩
         have hbo := (unhide HW2).old hcw (unhide HOw).1
         have hbo' := (unhide HW).old hcw (unhide HOw).1
         obtain ⟨u0, u1, u2, u3, u4⟩ := unhide HKc
         refine ⟨?_, ?_, ?_, ?_, ?_⟩
         all_goals rw [hbo.cell (p := ⟨g', _, none⟩) (by show g' < c; omega), ← hbo'.cell (p := ⟨g', _, none⟩) (by show g' < c; omega)]; assumption
       clear hK K
       try simp only [Act.put, List.getElem_toArray, List.getElem_cons_zero, List.getElem_cons_succ, List.setIfInBounds_toArray, List.set_cons_zero, List.set_cons_succ]
       refine wpAnyH_done (by kernel_rfl) ?_ _
       refine NoPanic.normal ?_
       clear hHeld
       go_wp2_with fail
       go_roundw
       case rel => exact ⟨i + 1, a2, c2, by omega, by go_num, by rw [unhide HZ]; exact unhide HW2⟩
       case measure => simp [intOf]; try omega
     · obtain rfl : i = N := by omega
       have HW := hide hW
       clear hW hb
       go_wp2_with fail
       refine bodyPost_end (v := .tuple #[]) (by simp [results, Tryd.results28, go_sem]) rfl ⟨rfl, ?_⟩
       have e1 : Zl ys ns ks p i = xs ++ filesL (.mk k x d ns ks) p := by
         unfold Zl
         rw [List.take_of_length_le (by rw [(unhide HN).1]; omega), List.take_of_length_le (by rw [(unhide HN).2]; omega)]
         exact unhide HY
       rw [e1] at HW
       exact ⟨av, cv, (unhide HW).g, (unhide HW).cr, (unhide HW).o⟩
end Go.Proofs.YthfjofmfiklegabDoor
/- slices.Sort of rows of texts: the library's own contract, laid at this program, in plain words. -/
namespace Go.Proofs
open Go.Shelf
def Tryd.laySort_ren : Go.Shelf.Ren := ⟨fun | 6 => 29 | 8 => 39 | 9 => 38 | 19 => 55 | 20 => 56 | 21 => 47 | 22 => 48 | 23 => 49 | 24 => 50 | 25 => 51 | 26 => 52 | 27 => 34 | 28 => 53 | 29 => 54 | 36 => 62 | 31 => 63 | 32 => 64 | 37 => 65 | 38 => 66 | 39 => 46 | 41 => 68 | n => n, fun | 27 => 23 | 29 => 9 | 3 => 3 | 32 => 65 | 26 => 23 | 0 => 0 | 44 => 85 | 46 => 87 | 4 => 4 | 36 => 79 | 35 => 78 | 41 => 53 | 5 => 5 | 9 => 9 | 53 => 89 | 57 => 37 | 63 => 100 | 64 => 33 | n => n, fun | n => n⟩
theorem Tryd.laySort : Go.Proofs.SlLaysM.n6 Tryd.prog Tryd.laySort_ren := {
  mixed := by kernel_rfl
  f6 := ⟨Tryd.f29.name, by decide, Tryd.func29.trans (congrArg some (by kernel_rfl))⟩
  f8 := Tryd.func39.trans (congrArg some (by kernel_rfl))
  f9 := ⟨Tryd.f38.name, by decide, Tryd.func38.trans (congrArg some (by kernel_rfl))⟩
  f19 := Tryd.func55.trans (congrArg some (by kernel_rfl))
  f20 := Tryd.func56.trans (congrArg some (by kernel_rfl))
  f21 := ⟨Tryd.f47.name, by decide, Tryd.func47.trans (congrArg some (by kernel_rfl))⟩
  f22 := ⟨Tryd.f48.name, by decide, Tryd.func48.trans (congrArg some (by kernel_rfl))⟩
  f23 := ⟨Tryd.f49.name, by decide, Tryd.func49.trans (congrArg some (by kernel_rfl))⟩
  f24 := ⟨Tryd.f50.name, by decide, Tryd.func50.trans (congrArg some (by kernel_rfl))⟩
  f25 := ⟨Tryd.f51.name, by decide, Tryd.func51.trans (congrArg some (by kernel_rfl))⟩
  f26 := ⟨Tryd.f52.name, by decide, Tryd.func52.trans (congrArg some (by kernel_rfl))⟩
  f27 := ⟨Tryd.f34.name, by decide, Tryd.func34.trans (congrArg some (by kernel_rfl))⟩
  f28 := ⟨Tryd.f53.name, by decide, Tryd.func53.trans (congrArg some (by kernel_rfl))⟩
  f29 := ⟨Tryd.f54.name, by decide, Tryd.func54.trans (congrArg some (by kernel_rfl))⟩
  f31 := Tryd.func63.trans (congrArg some (by kernel_rfl))
  f32 := Tryd.func64.trans (congrArg some (by kernel_rfl))
  f36 := ⟨Tryd.f62.name, by decide, Tryd.func62.trans (congrArg some (by kernel_rfl))⟩
  f37 := ⟨Tryd.f65.name, by decide, Tryd.func65.trans (congrArg some (by kernel_rfl))⟩
  f38 := ⟨Tryd.f66.name, by decide, Tryd.func66.trans (congrArg some (by kernel_rfl))⟩
  f39 := ⟨Tryd.f46.name, by decide, Tryd.func46.trans (congrArg some (by kernel_rfl))⟩
  f41 := ⟨Tryd.f68.name, by decide, Tryd.func68.trans (congrArg some (by kernel_rfl))⟩
  t0 := Tryd.underlying0
  a0 := Tryd.isAgg0
  z0 := Tryd.sizeOf0
  v0 := Tryd.zeroValue0
  t3 := Tryd.underlying3
  a3 := Tryd.isAgg3
  z3 := Tryd.sizeOf3
  v3 := Tryd.zeroValue3
  t4 := Tryd.underlying4
  a4 := Tryd.isAgg4
  z4 := Tryd.sizeOf4
  v4 := Tryd.zeroValue4
  t5 := Tryd.underlying5
  a5 := Tryd.isAgg5
  z5 := Tryd.sizeOf5
  v5 := Tryd.zeroValue5
  t9 := Tryd.underlying9
  a9 := Tryd.isAgg9
  z9 := Tryd.sizeOf9
  v9 := Tryd.zeroValue9
  t26 := Tryd.underlying23
  a26 := Tryd.isAgg23
  z26 := Tryd.sizeOf23
  v26 := Tryd.zeroValue23
  t27 := Tryd.underlying23
  a27 := Tryd.isAgg23
  z27 := Tryd.sizeOf23
  v27 := Tryd.zeroValue23
  t29 := Tryd.underlying9
  a29 := Tryd.isAgg9
  z29 := Tryd.sizeOf9
  v29 := Tryd.zeroValue9
  t32 := Tryd.underlying65
  a32 := Tryd.isAgg65
  z32 := Tryd.sizeOf65
  v32 := Tryd.zeroValue65
  t35 := Tryd.underlying78
  a35 := Tryd.isAgg78
  z35 := Tryd.sizeOf78
  v35 := Tryd.zeroValue78
  t36 := Tryd.underlying79
  a36 := Tryd.isAgg79
  z36 := Tryd.sizeOf79
  v36 := Tryd.zeroValue79
  t41 := Tryd.underlying53
  a41 := Tryd.isAgg53
  z41 := Tryd.sizeOf53
  v41 := Tryd.zeroValue53
  t44 := Tryd.underlying85
  a44 := Tryd.isAgg85
  z44 := Tryd.sizeOf85
  v44 := Tryd.zeroValue85
  t46 := Tryd.underlying87
  a46 := Tryd.isAgg87
  z46 := Tryd.sizeOf87
  v46 := Tryd.zeroValue87
  t53 := Tryd.underlying89
  a53 := Tryd.isAgg89
  z53 := Tryd.sizeOf89
  v53 := Tryd.zeroValue89
  t57 := Tryd.underlying37
  a57 := Tryd.isAgg37
  z57 := Tryd.sizeOf37
  v57 := Tryd.zeroValue37
  t63 := Tryd.underlying100
  a63 := Tryd.isAgg100
  z63 := Tryd.sizeOf100
  v63 := Tryd.zeroValue100
  t64 := Tryd.underlying33
  a64 := Tryd.isAgg33
  z64 := Tryd.sizeOf33
  v64 := Tryd.zeroValue33 }
end Go.Proofs
namespace Go.Proofs.YthfjofmfiklegabDoor
open Go.RowKit Go.Shelf
/-- Texts, rising. -/
def sortL (xs : List ByteArray) : List (List UInt8) := (xs.map fun s => s.data.toList).mergeSort fun x y => decide (x ≤ y)
def sortB (xs : List ByteArray) : List ByteArray := (sortL xs).map fun l => ⟨l.toArray⟩
theorem sortL_length (xs : List ByteArray) : (sortL xs).length = xs.length := by unfold sortL; rw [List.length_mergeSort, List.length_map]
theorem sortB_length (xs : List ByteArray) : (sortB xs).length = xs.length := by unfold sortB; rw [List.length_map, sortL_length]
theorem enc_map (xs : List ByteArray) : xs.map Value.string = (xs.map fun s => s.data.toList).map encStr := by
  rw [List.map_map]; rfl
theorem below_grow {B : Nat} {w0 w : World} (h : Below B w0 w) (hB : B ≤ w.heap.size) (os : Array Obj) : Below B w0 (Go.Sort.grow w os) :=
  ⟨h.os, h.tape, h.output, by have := h.size; rw [Go.Sort.size_grow]; omega, fun k hk => by rw [Go.Sort.heap_grow_old _ _ (by omega)]; exact h.block k hk⟩
theorem holds_at {w : World} {g : Nat} {Z : List (List UInt8)} (h : Go.Sort.Holds encStr w g 0 Z.toArray) (i : Nat) (hi : i < Z.length) : w.cell? ⟨g, 0 + i, none⟩ = some (encStr (Z.getD i [])) := by
  have := (h i (by simpa using hi)).1
  rw [this]
  simp [List.getD, hi]
theorem sort_any (base : Nat) (a : Option Addr) (cp : Nat) (xs : List ByteArray) (w : World) (ho : w.ownsRow base 9 1 (.slice a xs.length cp) xs.length (xs.map .string)) (hB : base ≤ w.heap.size) (hmax : xs.length ≤ 1000000) :
    Calls Tryd.prog 29 #[.slice a xs.length cp] w fun e w' => e = .returned (.tuple #[]) ∧ Row base w'.heap.size w' (.slice a xs.length cp) xs.length ((sortB xs).map .string) ∧ Below base w w' := by
  by_cases hne : a = none
  · have h0 : xs.length = 0 ∧ cp = 0 := by
      subst hne
      rcases ho.2 with ⟨h1, h2⟩ | ⟨g, cap, cur, h1, _⟩
      · injection h1 with _ e2 e3; exact ⟨e2, e3⟩
      · injection h1 with e1; cases e1
    subst hne
    obtain rfl : xs = [] := List.eq_nil_of_length_eq_zero h0.1
    obtain rfl := h0.2
    refine (AnyM.slices_Sort_string_none Tryd.laySort none 0 w).mono fun e w' ⟨he, hw⟩ => ⟨he, ⟨none, 0, rfl, Nat.le_refl _, fun h => absurd h (Nat.lt_irrefl _)⟩, by rw [hw]; exact Below.refl _ _⟩
  · rw [enc_map] at ho
    have hl0 : (xs.map fun s => s.data.toList).length = xs.length := by simp
    obtain ⟨g, c, hv, hbg, hgl, hncap, hcm, hlen, hH⟩ := Lib.holds_of_ownsRow ho (by intro h; injection h with e1; exact hne e1)
    cases hv
    have hsort : (sortL xs).length = xs.length := sortL_length xs
    have hC := AnyM.slices_Sort_string Tryd.laySort g 0 cp (xs.map fun s => s.data.toList) w hH hgl (by rw [hl0]; omega)
    rw [hl0] at hC
    refine hC.mono fun e w' ⟨he, n, os, hw⟩ => ⟨he, ⟨_, cp, rfl, hncap, fun h0 => ⟨g, 0, rfl, hbg, ?_, fun j u hj => ?_⟩⟩, ?_⟩
    · rw [hw, Go.Sort.size_grow, Go.Sort.size_putRow, Go.Sort.heap_ahead]; omega
    · have hH2 : Go.Sort.Holds encStr w' g 0 (sortL xs).toArray := by
        rw [hw]
        exact Go.Sort.holds_grow encStr _ os g 0 _ (by rw [Go.Sort.size_putRow]; exact hgl) (Go.Sort.holds_putRow encStr _ g 0 _ _ (Go.Sort.holds_ahead encStr w n g 0 _ hH) (by simp))
      have hj2 := (List.getElem?_eq_some_iff.1 hj).1
      rw [List.length_map, sortB_length] at hj2
      rw [holds_at hH2 j (by omega)]
      unfold sortB at hj
      rw [List.map_map, List.getElem?_map, List.getElem?_eq_getElem (by omega)] at hj
      rw [List.getD_eq_getElem?_getD, List.getElem?_eq_getElem (by omega)]
      exact hj
    · rw [hw]
      exact below_grow (Lib.below_putRow (Below.refl _ _) hbg) (by rw [Go.Sort.size_putRow]; exact hB) os
end Go.Proofs.YthfjofmfiklegabDoor
