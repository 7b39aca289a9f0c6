/- A search in memory: its paths and its set of rows, in blocks of its own. -/
import Derived.Test.YtlbfcneboaihnaaKey
import Derived.Test.YtlbfcneboaihnaaLay
import Derived.Test.YtlbfcneboaihnaaRefq
namespace Go.Proofs.Ytlbfcneboaihnaa
open Go.RowKit Go.Great Go.ChangeMaps Go.MapKept
theorem ownL_keep {w w' : World} {base : Nat} {v : Value} {L : List Ord.S} (h : OwnL w base v L) (hk : ∀ k, base ≤ k → k < w.heap.size → w'.heap[k]? = w.heap[k]?) : OwnL w' base v L := by
  refine ⟨h.1, ?_⟩
  rcases h.2 with h2 | ⟨g, cap, cur, e, hb, hh, r⟩
  · exact .inl h2
  · exact .inr ⟨g, cap, cur, e, hb, by rw [hk g hb (Array.getElem?_eq_some_iff.1 hh).1]; exact hh, r⟩
theorem ownsMap_keep {w w' : World} {b n : Nat} {D : DataW Unit} (h : w.ownsMap Try.prog 82 unitElem b n D) (hk : w'.heap[b]? = w.heap[b]?) : w'.ownsMap Try.prog 82 unitElem b n D := by
  obtain ⟨es, clock, hb, r⟩ := h
  exact ⟨es, clock, hk.trans hb, r⟩
theorem rowSet_keep {w w' : World} {b n : Nat} {S : List Nat → Prop} (h : RowSet w b n S) (hk : w'.heap[b]? = w.heap[b]?) : RowSet w' b n S := by
  obtain ⟨D, ho, hS⟩ := h
  exact ⟨D, ownsMap_keep ho hk, hS⟩
theorem RowSet.congr {w : World} {b n : Nat} {S S' : List Nat → Prop} (h : RowSet w b n S) (hs : ∀ d, S d ↔ S' d) : RowSet w b n S' := by
  obtain ⟨D, ho, hS⟩ := h
  exact ⟨D, ho, fun d hl hb => (hS d hl hb).trans (hs d)⟩
theorem below_turned {B b : Nat} {w0 w w' : World} (h : Below B w0 w) (hb : B ≤ b) (ht : w.mapTurned w' b) : Below B w0 w' := by
  obtain ⟨es, clock, es', clock', hh, rfl⟩ := ht
  refine ⟨h.os, h.tape, h.output, by have := h.size; simpa [setBlock] using this, fun k hk => ?_⟩
  show (Array.setIfInBounds w.heap b _)[k]? = _
  rw [Array.getElem?_setIfInBounds_ne (by omega)]
  exact h.block k hk
theorem turned_heap {b : Nat} {w w' : World} (ht : w.mapTurned w' b) (k : Nat) (hk : k ≠ b) : w'.heap[k]? = w.heap[k]? := by
  obtain ⟨es, clock, es', clock', hh, rfl⟩ := ht
  show (Array.setIfInBounds w.heap b _)[k]? = _
  rw [Array.getElem?_setIfInBounds_ne (by omega)]
theorem turned_size {b : Nat} {w w' : World} (ht : w.mapTurned w' b) : w'.heap.size = w.heap.size := by
  obtain ⟨es, clock, es', clock', hh, rfl⟩ := ht
  simp [setBlock]
/-- A search: at B its two cells, behind it its set. -/
structure SrchM (B T : Nat) (w wr : World) (vp : Value) (n : Nat) (S : List Nat → Prop) : Prop where
  below : Below B w wr
  size : B + 2 ≤ wr.heap.size
  cells : wr.heap[B + 1]? = some (.cells #[vp, .map (some B)] T (0, 0))
  set : RowSet wr B n S
theorem SrchM.up {B T : Nat} {w wr wr' : World} {vp : Value} {n : Nat} {S : List Nat → Prop} (h : SrchM B T w wr vp n S) (hb : Below (B + 2) wr wr') : SrchM B T w wr' vp n S :=
  ⟨h.below.trans (hb.mono (by omega)), Nat.le_trans h.size hb.size, by rw [hb.block (B + 1) (by omega)]; exact h.cells, rowSet_keep h.set (hb.block B (by omega))⟩
theorem SrchM.cell0 {B T : Nat} {w wr : World} {vp : Value} {n : Nat} {S : List Nat → Prop} (h : SrchM B T w wr vp n S) : wr.cell? ⟨B + 1, 0, none⟩ = some vp := by
  simp [World.cell?, h.cells]
theorem SrchM.cell1 {B T : Nat} {w wr : World} {vp : Value} {n : Nat} {S : List Nat → Prop} (h : SrchM B T w wr vp n S) : wr.cell? ⟨B + 1, 1, none⟩ = some (.map (some B)) := by
  simp [World.cell?, h.cells]
theorem SrchM.free {B T : Nat} {w wr : World} {vp : Value} {n : Nat} {S : List Nat → Prop} (h : SrchM B T w wr vp n S) (o : Nat) : wr.frozen? ⟨B + 1, o, none⟩ = false := by
  simp [World.frozen?, h.cells]
theorem SrchM.paths {B T : Nat} {w wr : World} {vp : Value} {n : Nat} {S : List Nat → Prop} (h : SrchM B T w wr vp n S) (u : Value) : SrchM B T w (wr.setCell ⟨B + 1, 0, none⟩ u) u n S := by
  have hlt : B + 1 < wr.heap.size := by have := h.size; omega
  refine ⟨h.below.setCell (by simp) u, by have := h.size; simpa using this, ?_, rowSet_keep h.set (Below.heap_setCell _ _ _ _ (by simp))⟩
  have hg := h.cells
  rw [Array.getElem?_eq_getElem hlt] at hg
  have hg' := Option.some.inj hg
  simp [World.setCell, Array.getElem?_modify, Array.getElem?_eq_getElem hlt, hg']
theorem SrchM.store {B T : Nat} {w wr wr' : World} {vp : Value} {n n' : Nat} {S S' : List Nat → Prop} (h : SrchM B T w wr vp n S) (hs : RowSet wr' B n' S') (ht : wr.mapTurned wr' B) : SrchM B T w wr' vp n' S' :=
  ⟨below_turned h.below (by omega) ht, by rw [turned_size ht]; exact h.size, by rw [turned_heap ht (B + 1) (by omega)]; exact h.cells, hs⟩
theorem ownL_turned {b base : Nat} {w w' : World} {v : Value} {L : List Ord.S} (h : OwnL w base v L) (hb : b < base) (ht : w.mapTurned w' b) : OwnL w' base v L :=
  ownL_keep h fun k h1 _ => turned_heap ht k (by omega)
theorem OwnL.toS {w : World} {base : Nat} {v : Value} {L : List Ord.S} (h : OwnL w base v L) : OwnS w base v L := by
  by_cases hv : v = .slice none 0 0
  · subst hv
    rcases h.2 with ⟨_, h0⟩ | ⟨g, cap, cur, e, _⟩
    · exact .inl ⟨rfl, List.eq_nil_of_length_eq_zero h0⟩
    · cases e
  · obtain ⟨g, c, rfl, hbg, hgl, hncap, hcm, hlen, hH⟩ := Lib.holds_of_ownsRow h hv
    exact .inr ⟨g, c, rfl, hbg, hgl, hncap, hH⟩
/-- The bytes of a conversion's row. -/
theorem conv_text (w : World) (z : ByteArray) (h32 : z.size = 32) : (Lib.bytesWorld w 5 z).rangeAt w.heap.size 0 (E8 (bytesOf z)).toList := by
  intro j v hj
  have hj32 : j < 32 := by
    have := (List.getElem?_eq_some_iff.1 hj).1
    rw [Array.length_toList] at this
    simpa [bytesOf, h32] using this
  have := Lib.bytesWorld_cell w 5 z j (by omega)
  rw [Nat.zero_add, this]
  have hs : z.data.size = 32 := h32
  rw [Array.getElem?_toList, Array.getElem?_eq_getElem (by simp [bytesOf, h32]; omega), E8_getElem] at hj
  rw [← hj]
  simp [Sha.nth, bytesOf, List.getD_eq_getElem?_getD, hs, hj32]
theorem below_conv (w : World) (z : ByteArray) : Below w.heap.size w (Lib.bytesWorld w 5 z) :=
  ⟨rfl, rfl, rfl, by rw [Lib.bytesWorld_size]; omega, fun k hk => Lib.bytesWorld_at_old w 5 z k hk⟩
end Go.Proofs.Ytlbfcneboaihnaa
