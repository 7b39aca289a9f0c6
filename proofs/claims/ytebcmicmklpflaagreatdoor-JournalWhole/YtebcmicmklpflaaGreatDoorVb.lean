/- An empty table is cloned. -/
import Derived.Test.YtebcmicmklpflaaGreatDoorVa
namespace Go.Proofs.YtebcmicmklpflaaGreatDoor
open Go.RowKit Go.Maps
set_option linter.unusedSimpArgs false
set_option maxRecDepth 20000 in
set_option maxHeartbeats 4000000 in
theorem clone_nil (f : Nat) (nm : ByteArray) (a : Option Addr) (d : Nat) (u : Int) (W : World) (c5 : W.cell? ⟨f, 5, none⟩ = some (.map none)) (c6 : W.cell? ⟨f, 6, none⟩ = some (.int .i64 u)) :
    Calls Tryz.prog 110 #[.pointer (some ⟨f, 5, none⟩)] W fun e w' => Cloned W w' nm none a d u e := by
  have hfl : f < W.heap.size := cellLt c5
  obtain ⟨kl, hkl⟩ : ∃ kl : Nat, kl = 0 := ⟨_, rfl⟩
  have fact : ∀ W', Below W.heap.size W W' → W'.cell? ⟨f, 5, none⟩ = some (.map none) ∧ W'.cell? ⟨f, 6, none⟩ = some (.int .i64 u) ∧ (Builtin.len_ #[87] 3 #[.map none]).run Tryz.prog W' = .ok (.int .i64 (kl : Int)) W' := fun W' hb => ⟨by rw [hb.cell (p := ⟨f, 5, none⟩) hfl]; exact c5, by rw [hb.cell (p := ⟨f, 6, none⟩) hfl]; exact c6, by rw [hkl]; exact Maps.len_nil Tryz.underlying87 3⟩
  have b1 : Below W.heap.size W (W.alloc zT) := (Below.refl _ _).alloc (Nat.le_refl _) _
  have b1d := b1.drew
  have b2 : Below W.heap.size W ((W.alloc zT).alloc zT) := b1.alloc (by simp) _
  have b2d := b2.drew
  have b3 : Below W.heap.size W ((W.alloc zT).alloc zM) := b1.alloc (by simp) _
  have b3d := b3.drew
  have b4 : Below W.heap.size W (((W.alloc zT).alloc zM).alloc zT) := b3.alloc (by simp; omega) _
  have b4d := b4.drew
  have b5 : Below W.heap.size W (((W.alloc zT).alloc zT).alloc zM) := b2.alloc (by simp; omega) _
  have b5d := b5.drew
  obtain ⟨x1, y1, l1⟩ := fact _ b1d
  obtain ⟨x2, y2, l2⟩ := fact _ b2d
  obtain ⟨x3, y3, l3⟩ := fact _ b3d
  obtain ⟨x4, y4, l4⟩ := fact _ b4d
  obtain ⟨x5, y5, l5⟩ := fact _ b5d
  have HF := hide fact
  clear fact b1 b2 b3 b4 b5 b1d b2d b3d b4d b5d hkl
  unfold zT zM at *
  go_enter Tryz.func110, Tryz.ntmps110
  go_wp2_with fail
  apply one_way
  case go =>
    intro key
    refine wp_region_noPanic ?_
    go_region_law (go_simp)
    all_goals
      refine NoPanic.normal ?_
      first
        | (have hR : Made W (((W.alloc (.cells #[.map none, .int .i64 0] 89)).alloc (.map #[] 0)).alloc (.cells #[.map (some (W.heap.size + 1)), .int .i64 u] 89)).drew u (W.heap.size + 1) (W.heap.size + 1 + 1) := made_a W u
           generalize (((W.alloc (.cells #[.map none, .int .i64 0] 89)).alloc (.map #[] 0)).alloc (.cells #[.map (some (W.heap.size + 1)), .int .i64 u] 89)).drew = W1 at hR ⊢
           generalize W.heap.size + 1 + 1 = q at hR ⊢
           generalize W.heap.size + 1 = p at hR ⊢
           revert hR
           revert W1
           revert p
           revert q
           exact unhide key)
        | (have hR : Made W (((W.alloc (.cells #[.map none, .int .i64 0] 89)).alloc (.cells #[.map (some (W.heap.size + 1 + 1)), .int .i64 u] 89)).alloc (.map #[] 0)).drew u (W.heap.size + 1 + 1) (W.heap.size + 1) := made_b W u
           generalize (((W.alloc (.cells #[.map none, .int .i64 0] 89)).alloc (.cells #[.map (some (W.heap.size + 1 + 1)), .int .i64 u] 89)).alloc (.map #[] 0)).drew = W1 at hR ⊢
           generalize W.heap.size + 1 + 1 = p at hR ⊢
           generalize W.heap.size + 1 = q at hR ⊢
           revert hR
           revert W1
           revert p
           revert q
           exact unhide key)
        | trace_state
  case all =>
    intro q p W1 hR
    clear x1 y1 l1 x2 y2 l2 x3 y3 l3 x4 y4 l4 x5 y5 l5
    obtain ⟨z5, z6, lz⟩ := unhide HF W1 hR.bel
    have hba : Below W.heap.size W (W1.alloc (.map #[] 0)) := hR.bel.alloc hR.bel.size _
    obtain ⟨za5, _, _⟩ := unhide HF _ hba
    have hrg := run_range_nilMap (P := Tryz.prog) (W1.alloc (.map #[] 0)) 87 9 130 Tryz.underlying87
    have hnx : ∀ ty, (Instr.next (.pointer (some ⟨(W1.alloc (.map #[] 0)).heap.size, 0, none⟩)) false ty).run Tryz.prog ((W1.alloc (.map #[] 0)).alloc (.mapIter none 0 #[] 0)) = _ := fun ty => run_next_nilMap (W1.alloc (.map #[] 0)) ty 0 0 #[]
    obtain ⟨r1, r2, r3, r4, r5, r6, r7⟩ := hR
    have hsz : (W1.alloc (.map #[] 0)).heap.size = W1.heap.size + 1 := by simp
    have hlp : p < W1.heap.size := (Array.getElem?_eq_some_iff.1 r2).1
    have hlq : q < W1.heap.size := (Array.getElem?_eq_some_iff.1 r3).1
    obtain ⟨wr, hwr⟩ : ∃ wr, wr = (W1.alloc (.map #[] 0)).alloc (.mapIter none 0 #[] 0) := ⟨_, rfl⟩
    have hk : ∀ b, b < W1.heap.size → wr.heap[b]? = W1.heap[b]? := fun b hb => by rw [hwr]; exact (Below.heap_alloc _ _ _ (by omega)).trans (Below.heap_alloc _ _ _ hb)
    have hzr : W1.heap.size < wr.heap.size := by rw [hwr]; simp; omega
    have hbw : Below W.heap.size W wr := by rw [hwr]; exact hba.alloc hba.size _
    have hbox : wr.heap[q]? = some (.cells #[.map (some p), .int .i64 u] 89 (0, 0)) := (hk q hlq).trans r3
    have hres : wr.heap[W.heap.size]? = some (.cells #[.map none, .int .i64 0] 89 (0, 0)) := (hk _ (by omega)).trans r4
    have hq0 : wr.cell? ⟨q, 0, none⟩ = some (.map (some p)) := by simp [World.cell?, hbox]
    have hq1 : wr.cell? ⟨q, 1, none⟩ = some (.int .i64 u) := by simp [World.cell?, hbox]
    have hE : Cloned W wr nm none a d u (.returned (.agg #[.map (some p), .int .i64 u])) := ⟨p, 0, 0, rfl, hbw, r6, by omega, by omega, by simpa using tab_empty ((hk p hlp).trans r2), fun h => by cases h⟩
    have hr0 : wr.cell? ⟨W.heap.size, 0, none⟩ = some (.map none) := by simp [World.cell?, hres]
    have hf0 : wr.frozen? ⟨W.heap.size, 0, none⟩ = false := by simp [World.frozen?, hres]
    have hr1 : (wr.setCell ⟨W.heap.size, 0, none⟩ (.map (some p))).cell? ⟨W.heap.size, 1, none⟩ = some (.int .i64 0) := by simp [World.setCell, World.cell?, Array.getElem?_modify, hres]
    have hf1 : (wr.setCell ⟨W.heap.size, 0, none⟩ (.map (some p))).frozen? ⟨W.heap.size, 1, none⟩ = false := by simp [World.setCell, World.frozen?, Array.getElem?_modify, hres]
    have z0 : ((wr.setCell ⟨W.heap.size, 0, none⟩ (.map (some p))).setCell ⟨W.heap.size, 1, none⟩ (.int .i64 u)).cell? ⟨W.heap.size, 0, none⟩ = some (.map (some p)) := by simp [World.setCell, World.cell?, Array.getElem?_modify, hres]
    have z1 : ((wr.setCell ⟨W.heap.size, 0, none⟩ (.map (some p))).setCell ⟨W.heap.size, 1, none⟩ (.int .i64 u)).cell? ⟨W.heap.size, 1, none⟩ = some (.int .i64 u) := by simp [World.setCell, World.cell?, Array.getElem?_modify, hres]
    have HE2 : Hid (Cloned W ((wr.setCell ⟨W.heap.size, 0, none⟩ (.map (some p))).setCell ⟨W.heap.size, 1, none⟩ (.int .i64 u)) nm none a d u (.returned (.agg #[.map (some p), .int .i64 u]))) := (hE.set 0 _).set 1 _
    rw [← hwr] at hrg hnx
    rw [hsz] at hrg hnx
    clear hE hbw hbox hres hk r1 r2 r3 r4 r5 r6 r7 hba HF hwr hsz hzr hlp hlq
    go_wp2_with fail
    refine wp_loop_rounds 1 ?_
    rw [rounds_succ]
    go_wp2_with fail
    exact bodyPost_ret (by simp [results, Tryz.results110, go_sem, z0, z1]) rfl (unhide HE2)
end Go.Proofs.YtebcmicmklpflaaGreatDoor
