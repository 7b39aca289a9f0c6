/- What stands while Modulo goes on: its boxes, and the Hasher. -/
import Derived.Test.YtlbfcneboaihnaaGreatDoorRgn
import Derived.Test.YtlbfcneboaihnaaGreatDoorMdm
import Derived.Test.YtlbfcneboaihnaaGreatDoorIto
import Derived.Test.YtlbfcneboaihnaaGreatDoorK4
namespace Go.Proofs.YtlbfcneboaihnaaGreatDoor
open Go.RowKit Go.Shelf Go.Great
set_option linter.unusedSimpArgs false
theorem dg_bytesAt {w : World} {v : Value} {B : List Nat} (h : BytesAt w v B) : Dg.BytesAt w v B := h
theorem dg_bytes {B : List Nat} (h : Sha.Bytes B) : Dg.Sha.Bytes B := h
theorem kept_new (w : World) : Dg.Kept (w.alloc (.cells Dg.H0 85)) w.heap.size [] (Dg.zs 32) :=
  ⟨Dg.zs 8, Dg.zs 64, ⟨heap_alloc_last w _, by simp, by simp, by simp⟩, fun h => by simp at h, rfl⟩
theorem kept_keep {w w' : World} {g : Nat} {all sum : List Nat} (h : Dg.Kept w g all sum) (hk : w'.heap[g]? = w.heap[g]?) : Dg.Kept w' g all sum := by
  obtain ⟨st, rest, hh, r⟩ := h
  exact ⟨st, rest, ⟨hk.trans hh.1, hh.2⟩, r⟩
theorem Kept.lt {w : World} {g : Nat} {all sum : List Nat} (h : Dg.Kept w g all sum) : g < w.heap.size := by
  obtain ⟨st, rest, hh, _⟩ := h
  exact (Array.getElem?_eq_some_iff.1 hh.1).1
/-- The boxes: of b at w's end, of what is answered behind it; of the digits at M, the Hasher, its box and that of done behind it; the iterator's own at P. -/
structure Mb (w : World) (M P : Nat) (F : List Nat) (a : Option Addr) (n c : Nat) (B : List Nat) (dn : Nat) (all : List Nat) (W : World) : Prop where
  below : Below w.heap.size w W
  bb : W.heap[w.heap.size]? = some (.cells #[.slice a n c] 22)
  br : W.heap[w.heap.size + 1]? = some (.cells (Dg.E8 (Dg.zs 32)) 25)
  bf : W.heap[M]? = some (.cells #[.string (strOf F)] 9)
  hk : Dg.Kept W (M + 1) all (Dg.zs 32)
  bh : W.heap[M + 1 + 1]? = some (.cells #[.pointer (some ⟨M + 1, 0, none⟩)] 42)
  bo : W.heap[M + 1 + 1 + 1]? = some (.cells #[.int .i64 (dn : Int)] 3)
  pb : W.heap[P]? = some (.cells #[.slice a n c] 22)
  pd : W.heap[P + 1]? = some (.cells #[.string (strOf F)] 9)
  row : BytesAt W (.slice a n c) B
  mxl : ∃ m, W.cell? ⟨0, 0, none⟩ = some (.int .i64 m)
  pow : Pow W
/-- Where they lie. -/
structure Mw (w : World) (M P : Nat) (a : Option Addr) (n : Nat) : Prop where
  hM : w.heap.size + 1 < M
  hP : M + 1 + 1 + 1 < P
  ha : 0 < n → ∀ x, a = some x → x.block < w.heap.size
  h0 : 0 < w.heap.size
section
variable {w : World} {M P : Nat} {F : List Nat} {a : Option Addr} {n c : Nat} {B : List Nat} {dn : Nat} {all : List Nat} {W : World}
theorem Mb.up (h : Mb w M P F a n c B dn all W) {W' : World} (hb : Below W.heap.size W W') : Mb w M P F a n c B dn all W' := by
  have g1 : ∀ k o, W.heap[k]? = some o → W'.heap[k]? = some o := fun k o e => by rw [hb.block k (Array.getElem?_eq_some_iff.1 e).1]; exact e
  obtain ⟨m, hm⟩ := h.mxl
  exact ⟨h.below.trans (hb.mono h.below.size), g1 _ _ h.bb, g1 _ _ h.br, g1 _ _ h.bf, kept_keep h.hk (hb.block _ (Kept.lt h.hk)), g1 _ _ h.bh, g1 _ _ h.bo, g1 _ _ h.pb, g1 _ _ h.pd, h.row.below hb, ⟨m, by rw [hb.cell (p := ⟨0, 0, none⟩) (cell_lt hm)]; exact hm⟩, pow_below h.pow hb⟩
/-- Some blocks turned, none of ours but those that are named. -/
theorem Mb.turn (h : Mb w M P F a n c B dn all W) (hw : Mw w M P a n) {W' : World} {dn' : Nat} {all' : List Nat} (hos : W'.os = W.os) (htp : W'.tape = W.tape) (hot : W'.output = W.output) (hsz : W.heap.size ≤ W'.heap.size)
    (hk : ∀ k, k < W.heap.size → k < M + 1 ∨ k = M + 1 + 1 ∨ k = P ∨ k = P + 1 → W'.heap[k]? = W.heap[k]?) (ho : W'.heap[M + 1 + 1 + 1]? = some (.cells #[.int .i64 (dn' : Int)] 3)) (hkp : Dg.Kept W' (M + 1) all' (Dg.zs 32)) : Mb w M P F a n c B dn' all' W' := by
  have hM := hw.hM
  have hP := hw.hP
  have g1 : ∀ k o, (k < M + 1 ∨ k = M + 1 + 1 ∨ k = P ∨ k = P + 1) → W.heap[k]? = some o → W'.heap[k]? = some o := fun k o hh e => by rw [hk k (Array.getElem?_eq_some_iff.1 e).1 hh]; exact e
  have hb : Below w.heap.size w W' := ⟨hos.trans h.below.os, htp.trans h.below.tape, hot.trans h.below.output, Nat.le_trans h.below.size hsz, fun k hk' => (hk k (Nat.lt_of_lt_of_le hk' h.below.size) (.inl (by omega))).trans (h.below.block k hk')⟩
  obtain ⟨m, hm⟩ := h.mxl
  have h0 := hw.h0
  refine ⟨hb, g1 _ _ (.inl (by omega)) h.bb, g1 _ _ (.inl (by omega)) h.br, g1 _ _ (.inl (by omega)) h.bf, hkp, g1 _ _ (.inr (.inl rfl)) h.bh, ho, g1 _ _ (.inr (.inr (.inl rfl))) h.pb, g1 _ _ (.inr (.inr (.inr rfl))) h.pd, ?_, ⟨m, ?_⟩, ?_⟩
  · exact bytes_keep h.row hsz (fun hn x hx => hk _ (Nat.lt_of_lt_of_le (hw.ha hn x hx) h.below.size) (.inl (by have := hw.ha hn x hx; omega)))
  · rw [World.cell?_of_block (w := W) (a := ⟨0, 0, none⟩) (hk 0 (cell_lt hm) (.inl (by omega)))]; exact hm
  · have hp := h.pow
    unfold Pow Lib.TabIs World.var? at hp ⊢
    have hg : Tryz.prog.globalNamed "internal/strconv.uint64pow10" = some 1 := by kernel_rfl
    rw [hg] at hp ⊢
    simp only [Option.bind_some] at hp ⊢
    rcases Nat.lt_or_ge 1 W.heap.size with hl | hl
    · rw [hk 1 hl (.inl (by omega))]; exact hp
    · rw [Array.getElem?_eq_none hl] at hp; cases hp
theorem Mb.put (h : Mb w M P F a n c B dn all W) (hw : Mw w M P a n) (l : Nat) (hl : P + 1 < l) (o : Obj) : Mb w M P F a n c B dn all (W.putObj l o) := by
  have hP := hw.hP
  refine h.turn hw rfl rfl rfl (by simp [World.putObj]) (fun k _ hk => World.putObj_heap_other (by omega)) (by rw [World.putObj_heap_other (by omega)]; exact h.bo) (kept_keep h.hk (World.putObj_heap_other (by omega)))
theorem Mb.sole (h : Mb w M P F a n c B dn all W) (hw : Mw w M P a n) {W' : World} {all' : List Nat} (hs : Dg.Sole (M + 1) W W') (hkp : Dg.Kept W' (M + 1) all' (Dg.zs 32)) : Mb w M P F a n c B dn all' W' := by
  have hP := hw.hP
  refine h.turn hw hs.os hs.tape hs.output hs.size (fun k hk1 hk2 => hs.block k hk1 (by omega)) ?_ hkp
  rw [hs.block _ (Array.getElem?_eq_some_iff.1 h.bo).1 (by omega)]; exact h.bo
theorem Mb.done (h : Mb w M P F a n c B dn all W) (hw : Mw w M P a n) (d : Nat) : Mb w M P F a n c B d all (W.setCell ⟨M + 1 + 1 + 1, 0, none⟩ (.int .i64 (d : Int))) := by
  have hP := hw.hP
  have g1 : ∀ k, k ≠ M + 1 + 1 + 1 → (W.setCell ⟨M + 1 + 1 + 1, 0, none⟩ (.int .i64 (d : Int))).heap[k]? = W.heap[k]? := fun k hk => heap_set_other _ _ _ _ _ hk
  refine h.turn hw rfl rfl rfl (by simp) (fun k _ hk => g1 k (by omega)) ?_ (kept_keep h.hk (g1 _ (by omega)))
  have hl := (Array.getElem?_eq_some_iff.1 h.bo).1
  have s2 := h.bo
  rw [Array.getElem?_eq_getElem hl] at s2
  have s3 := Option.some.inj s2
  simp [World.setCell, Array.getElem?_modify, Array.getElem?_eq_getElem hl, s3]
end
end Go.Proofs.YtlbfcneboaihnaaGreatDoor
