/- The document's own block. -/
import Derived.Test.YtlbfcneboaihnaaK1
import Derived.Deep.RegionHeld3
namespace Go.Proofs.Ytlbfcneboaihnaa
open Go.RowKit Go.Great
attribute [local go_sem] f_8 f_1024 f_hi4 f_lo4

theorem cell_set_other (w : World) (b i j : Nat) (v : Value) (h : i ≠ j) : (w.setCell ⟨b, i, none⟩ v).cell? ⟨b, j, none⟩ = w.cell? ⟨b, j, none⟩ := by
  refine World.cell?_setCell_other _ _ _ _ (fun e => ?_)
  simp_all
theorem wrap_add (a b : Nat) : IntKind.u32.wrap ((a : Int) + (b : Int)) = ((Sha.add a b : Nat) : Int) := by rw [IntKind.wrap_u32]; exact f_add a b
theorem row_cell32 (w : World) (b : Nat) (l : List Nat) (h : rowOf w b = E32 l) (i : Nat) (hi : i < l.length) : w.cell? ⟨b, i, none⟩ = some (.int .u32 ((Sha.nth l i : Nat) : Int)) :=
  cell_row _ _ _ _ (by rw [h]; exact E32_get _ _ hi)
theorem block_plus (s : Sha.St) (p : List Nat) : Sha.block s p = Sha.plus s (Sha.rounds s (Sha.sched p) 64) := by unfold Sha.block; rfl
/-- The cells that one of the document's rounds reads. -/
structure R3 (wr : World) (kb z k : Nat) (t : Sha.St) (kk ss : Nat) : Prop where
  ck : wr.cell? ⟨kb, k, none⟩ = some (.int .u32 (kk : Int))
  cs : wr.cell? ⟨z + 1 + 1, k, none⟩ = some (.int .u32 (ss : Int))
  c0 : wr.cell? ⟨z + 1 + 1 + 1, 0, none⟩ = some (.int .u32 (t.a : Int))
  c1 : wr.cell? ⟨z + 1 + 1 + 1, 1, none⟩ = some (.int .u32 (t.b : Int))
  c2 : wr.cell? ⟨z + 1 + 1 + 1, 2, none⟩ = some (.int .u32 (t.c : Int))
  c3 : wr.cell? ⟨z + 1 + 1 + 1, 3, none⟩ = some (.int .u32 (t.d : Int))
  c4 : wr.cell? ⟨z + 1 + 1 + 1, 4, none⟩ = some (.int .u32 (t.e : Int))
  c5 : wr.cell? ⟨z + 1 + 1 + 1, 5, none⟩ = some (.int .u32 (t.f : Int))
  c6 : wr.cell? ⟨z + 1 + 1 + 1, 6, none⟩ = some (.int .u32 (t.g : Int))
  c7 : wr.cell? ⟨z + 1 + 1 + 1, 7, none⟩ = some (.int .u32 (t.h : Int))
theorem R3.drews {wr : World} {kb z k : Nat} {t : Sha.St} {kk ss : Nat} (h : R3 wr kb z k t kk ss) (n : Nat) : R3 (wr.drewN n) kb z k t kk ss :=
  ⟨h.ck, h.cs, h.c0, h.c1, h.c2, h.c3, h.c4, h.c5, h.c6, h.c7⟩
theorem R3.mk' {wr : World} {kb z k : Nat} {t : Sha.St} {kk ss : Nat} (ck : wr.cell? ⟨kb, k, none⟩ = some (.int .u32 (kk : Int))) (cs : wr.cell? ⟨z + 1 + 1, k, none⟩ = some (.int .u32 (ss : Int))) (h : rowOf wr (z + 1 + 1 + 1) = E32 t.list) : R3 wr kb z k t kk ss := by
  have e : ∀ i, i < 8 → wr.cell? ⟨z + 1 + 1 + 1, i, none⟩ = some (.int .u32 ((Sha.nth t.list i : Nat) : Int)) := fun i hi => row_cell32 _ _ _ h i (by simpa using hi)
  exact ⟨ck, cs, e 0 (by omega), e 1 (by omega), e 2 (by omega), e 3 (by omega), e 4 (by omega), e 5 (by omega), e 6 (by omega), e 7 (by omega)⟩
theorem fits_setRow_at (w : World) (n k : Nat) (c : Array Value) (h : fits w n k = true) (hc : c.size = k) : fits (w.setRow n c) n k = true := by
  obtain ⟨cs, t, e, -, -⟩ := fits_some h
  unfold fits; rw [setRow_heap w n cs c t _ e]; simp [hc]
end Go.Proofs.Ytlbfcneboaihnaa
