/- Two records that last together: the pieces of the law's known. -/
import Derived.Test.YtebcmicmklpflaaGreatDoorSd
import Derived.Test.YtebcmicmklpflaaGreatDoorK10
namespace Go.Proofs.YtebcmicmklpflaaGreatDoor
open Go.RowKit Go.Maps
set_option linter.unusedSimpArgs false
theorem JS.below {w w' : World} {f j : Nat} {nm : ByteArray} {S : Fs} {J : Jn} {U : Nat → Prop} {k : Nat} (h : JS w f j nm S J U k) (hb : Below w.heap.size w w') : JS w' f j nm S J U k := by
  obtain ⟨Of, O, OL, gv, lv, qs, hF, hJ, hdis, u1, u2, u3, u4, u5⟩ := h
  exact ⟨Of, O, OL, gv, lv, qs, hF.kept hb.size (fun q o => hb.block q (hF.lt q o)), ⟨hJ.gm.below hb, hJ.laid.kept (fun _ o => o) (fun q o => hb.block q (hJ.ltl q o)), hJ.dis, hJ.nl, fun q o => Nat.lt_of_lt_of_le (hJ.ltl q o) hb.size⟩, hdis, u1, u2, u3, u4, fun q o => Nat.lt_of_lt_of_le (u5 q o) hb.size⟩
/-- A byte in a row of its own. -/
def byteBlk (b : UInt8) : Obj := .cells #[.int .u8 (b.toNat : Int)] 5 (1, 2)
theorem row_byte (w : World) (b : UInt8) : Row (w.alloc (byteBlk b)).heap.size (w.alloc (byteBlk b)) (.slice (some ⟨w.heap.size, 0, none⟩) [b].length 1) [b] := by
  refine ⟨_, 1, rfl, Nat.le_refl _, fun _ => ⟨w.heap.size, 0, rfl, by simp, fun j u hj => ?_⟩⟩
  have hnew : (w.alloc (byteBlk b)).heap[w.heap.size]? = some (byteBlk b) := heap_alloc_new _ _
  unfold byteBlk at hnew ⊢
  simp only [World.cell?, hnew, Nat.zero_add]
  simpa [byteVals] using hj
/-- A byte is laid down. -/
theorem add_byte {w : World} {f j : Nat} {nm : ByteArray} {S : Fs} {J : Jn} {U : Nat → Prop} {k : Nat} (b : UInt8) (h : JS w f j nm S J U k) (hal : J.dead = false) (hw : wt J.D + 1 ≤ 524288) (hn : J.D.length < 4096) :
    Calls Tryz.prog 22 #[.pointer (some ⟨j, 0, none⟩), .slice (some ⟨w.heap.size, 0, none⟩) 1 1] (w.alloc (byteBlk b)) fun e w' => e = .returned (.int .i64 0) ∧ ∃ U', JS w' f j nm S (J.add [b]) U' k :=
  (add_rec (w.alloc (byteBlk b)) f j nm S J U k (some ⟨w.heap.size, 0, none⟩) 1 [b] (h.below ((Below.refl _ _).alloc (Nat.le_refl _) _)) hal (row_byte w b) hw hn).mono fun _ _ ⟨e1, U', h1, _⟩ => ⟨e1, U', h1⟩
theorem RR.below {w w' : World} {v : Value} {G : List (List (List UInt8))} (h : RR w v G) (hb : Below w.heap.size w w') : RR w' v G := by
  obtain ⟨a, c, e, h1⟩ := h
  refine ⟨a, c, e, fun i ds hi => ?_⟩
  obtain ⟨b0, a', c', e1, h2, h3⟩ := h1 i ds hi
  refine ⟨b0, a', c', e1, by rw [hb.cell (p := ⟨b0, i, none⟩) (cellLt h2)]; exact h2, fun k d hd => ?_⟩
  obtain ⟨b1, x, y, e2, h4, h5⟩ := h3 k d hd
  refine ⟨b1, x, y, e2, by rw [hb.cell (p := ⟨b1, k, none⟩) (cellLt h4)]; exact h4, ?_⟩
  obtain ⟨a1, c1, f1, f2, f3⟩ := h5.below hb
  exact ⟨a1, c1, f1, f2, fun h0 => by obtain ⟨g, o, g1, g2, g3⟩ := f3 h0; exact ⟨g, o, g1, Nat.lt_of_lt_of_le g2 hb.size, g3⟩⟩
/-- The name of known's journal. -/
def nmJ : ByteArray := ⟨#[106]⟩
def GJ : List (List (List UInt8)) := [[[97], [98]]]
/-- A FS whose only name is one. -/
theorem only_nopart {T : Tb} (h : ∀ s, s ≠ nmJ → T.N s = none) : NoPart T nmJ ∧ T.N (part1 nmJ) = none ∧ ∀ s i, T.N s = some i → s.size ≤ 300 := by
  have hone : ∀ s i, T.N s = some i → s = nmJ := fun s i hi => Classical.byContradiction fun hs => by rw [h s hs] at hi; cases hi
  refine ⟨fun s hs => ?_, h _ (fun e => absurd (congrArg ByteArray.size e) (by decide)), fun s i hi => ?_⟩
  · cases hN : T.N s with
    | none => rw [hN] at hs; cases hs
    | some i => rw [hone s i hN]; decide
  · rw [hone s i hi]; decide
end Go.Proofs.YtebcmicmklpflaaGreatDoor
