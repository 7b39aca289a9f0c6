/- A loop over the places of digits, whatever its round does: its law. -/
import Derived.Test.YtlbfcneboaihnaaGreatDoorRlw
namespace Go.Proofs.YtlbfcneboaihnaaGreatDoor
open Go.RowKit Go.Shelf Go.Great
attribute [local go_sem] Oper.semAt_some
set_option linter.unusedSimpArgs false
set_option maxRecDepth 20000 in
theorem range_gen {assign body : Code} {Q : Exit → Act → World → Prop} {b : Act} {W0 : World} {Bd Bb : Nat} {F : List Nat} {a : Option Addr} {n c : Nat} {B : List Nat} {g : Operand} {p : Tmp} (a1 : Nat → Act) (J : List Nat → World → Prop)
    (hn : B.length = n) (hmax : n ≤ 1000000) (hB : Sha.Bytes B) (hF : Sha.Bytes F) (hFl : F.length = 32)
    (hg : b.eval g = .func (.func 29) #[] #[.pointer (some ⟨Bd, 0, none⟩), .pointer (some ⟨Bb, 0, none⟩)])
    (hBx : ∀ pre W, J pre W → W.cell? ⟨Bd, 0, none⟩ = some (.string (strOf F)) ∧ W.cell? ⟨Bb, 0, none⟩ = some (.slice a n c) ∧ BytesAt W (.slice a n c) B ∧ ∃ m, W.cell? ⟨0, 0, none⟩ = some (.int .i64 m))
    (hup : ∀ pre W W', J pre W → Below W.heap.size W W' → J pre W') (hput : ∀ pre W r, J pre W → W0.heap.size + 1 < W.heap.size → J pre (W.putObj (W0.heap.size + 1) (.loop r))) (h0 : J [] W0)
    (hassign : ∀ (l x : Nat) (W : World) (K : Act → World → Prop), K (a1 x) W → assign.wpIn (Fence.wide.inRound l) 1 Tryz.prog (Exit.then K (fun _ _ _ => False)) { tmps := (#[p].zip #[Value.int .i64 (x : Int)]).foldl (fun t (p, v) => t.setIfInBounds p v) b.tmps, defers := [] } W)
    (hbody : ∀ (l x : Nat) (pre : List Nat) (W : World) (R : Exit → Act → World → Prop), x + 32 ≤ n → pre.length ≤ n → (∃ rest, plcs B F 0 = pre ++ x :: rest) → J pre W → W0.heap.size + 1 < W.heap.size → (∀ a' W', J (pre ++ [x]) W' → W.heap.size ≤ W'.heap.size → (∀ k, W0.heap.size ≤ k → k < W.heap.size → W'.heap[k]? = W.heap[k]?) → R .normal a' W') → body.wpIn (Fence.wide.inRound l) 1 Tryz.prog R (a1 x) W)
    (hdone : ∀ (W : World), J (plcs B F 0) W → W.heap[W0.heap.size]? = some (.deferred (some [])) → W0.heap.size + 1 < W.heap.size → Q .normal { b with defers := { target := .collected W0.heap.size, args := #[] } :: b.defers } W) :
    (Code.rangeFunc g #[p] assign body).wpIn Fence.wide 3 Tryz.prog Q b W0 := by
  refine wpIn_rangeFunc ?_
  intro fn hfn
  obtain ⟨rc, hrc⟩ : ∃ rc : LoopState → Option Code → Loop, rc = fun st pe => { state := st, pending := pe, fn, tmps := b.tmps, params := #[p], assign, body, defers := W0.heap.size } := ⟨_, rfl⟩
  obtain ⟨W1, hW1⟩ : ∃ W1, (W0.alloc (.deferred (some []))).alloc (.loop (rc .ready none)) = W1 := ⟨_, rfl⟩
  have hb1 : Below W0.heap.size W0 W1 := by rw [← hW1]; exact ((Below.refl _ _).alloc (Nat.le_refl _) _).alloc (by simp) _
  have hsz1 : W1.heap.size = W0.heap.size + 1 + 1 := by rw [← hW1]; simp
  have hd1 : W1.heap[W0.heap.size]? = some (.deferred (some [])) := by rw [← hW1]; exact (Below.heap_alloc _ _ _ (by simp)).trans (World.alloc_heap_new W0 _)
  have hl1 : W1.heap[W0.heap.size + 1]? = some (.loop (rc .ready none)) := by rw [← hW1]; have := World.alloc_heap_new (W0.alloc (.deferred (some []))) (.loop (rc .ready none)); rwa [World.size_alloc] at this
  refine ⟨W0.heap.size + 1, [{ target := .collected W0.heap.size, args := #[] }], W1, { target := .fn (.func 29) #[.pointer (some ⟨Bd, 0, none⟩), .pointer (some ⟨Bb, 0, none⟩)], args := #[.func (.yield (W0.heap.size + 1)) #[] #[]] }, W1, 29, #[.func (.yield (W0.heap.size + 1)) #[] #[]] ++ #[.pointer (some ⟨Bd, 0, none⟩), .pointer (some ⟨Bb, 0, none⟩)], W1, ?_, ?_, fun _ _ => trivial, ?_, fun _ => by omega, ?_⟩
  · rw [← hW1, hrc]; exact run_enterLoop_outer _ _ _ _ _
  · simp only [resolve, hg]
    simp [go_sem]
  · simp [invoke, go_sem]
  refine CallsIn.mono (places_in 2 (W0.heap.size + 1) Bd Bb B F a n c
    (fun pre W => J pre W ∧ W.heap[W0.heap.size]? = some (.deferred (some [])) ∧ W.heap[W0.heap.size + 1]? = some (.loop (rc .ready none))) hn hmax hB hF hFl ?_ ?_ W1 ⟨hup _ _ _ h0 hb1, hd1, hl1⟩ ?_) ?_
  · rintro pre W ⟨h, _⟩
    exact hBx pre W h
  · rintro pre W W' ⟨h1, h2, h3⟩ hb
    exact ⟨hup _ _ _ h1 hb, by rw [hb.block _ (Array.getElem?_eq_some_iff.1 h2).1]; exact h2, by rw [hb.block _ (Array.getElem?_eq_some_iff.1 h3).1]; exact h3⟩
  · rintro pre x W hx hxl hxr ⟨h1, h2, h3⟩ hszW
    have hlt := (Array.getElem?_eq_some_iff.1 h3).1
    have hy := run_yield (P := Tryz.prog) (args := #[.int .i64 (x : Int)]) h3 (by rw [hrc]; rfl)
    rw [hrc] at hy
    refine ⟨fn, _, assign, body, hy, roundIn_of_wpIn hfn (hassign _ x W _ ⟨_, run_beginRound h3 (by rw [hrc]), ?_⟩)⟩
    have hputs : ∀ (V : World) r', (V.putObj (W0.heap.size + 1) (.loop r')).heap.size = V.heap.size := fun V r' => by simp [World.putObj]
    have hJ := hput pre W { rc .ready none with state := .busy } h1 hlt
    refine hbody _ x pre _ _ hx hxl hxr hJ (by rw [hputs]; exact hlt) (fun a' W' h4 hsz4 hk4 => ?_)
    rw [hputs] at hsz4 hk4
    have hlt' : W0.heap.size + 1 < W'.heap.size := by omega
    have hl4 : W'.heap[W0.heap.size + 1]? = some (.loop { rc .ready none with state := .busy }) := by rw [hk4 _ (by omega) hlt]; exact World.putObj_heap_same hlt
    refine ⟨_, _, run_endRound none hl4, rfl, ⟨?_, ?_, ?_⟩, ?_, ?_⟩
    · exact hput _ _ _ h4 hlt'
    · rw [World.putObj_heap_other (by omega), hk4 _ (Nat.le_refl _) (by omega), World.putObj_heap_other (by omega)]; exact h2
    · have := World.putObj_heap_same (w := W') (o := .loop (rc .ready none)) hlt'
      rw [hrc] at this ⊢; exact this
    · rw [hputs]; exact hsz4
    · intro k hk1 hk2
      rw [World.putObj_heap_other (by omega), hk4 k (by omega) hk2, World.putObj_heap_other (by omega)]
  · rintro e W2 ⟨⟨v, rfl⟩, h1, h2, h3⟩
    have hlt := (Array.getElem?_eq_some_iff.1 h3).1
    exact ⟨none, _, by have := run_endLoop (P := Tryz.prog) h3 (by rw [hrc]; simp); rw [hrc] at this; exact this, hdone _ (hput _ _ _ h1 hlt) (by rw [World.putObj_heap_other (by omega)]; exact h2) (by simpa [World.putObj] using hlt)⟩
end Go.Proofs.YtlbfcneboaihnaaGreatDoor
