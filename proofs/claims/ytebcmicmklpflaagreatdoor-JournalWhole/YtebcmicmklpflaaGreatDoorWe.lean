/- Reset that the fuse breaks off. -/
import Derived.Test.YtebcmicmklpflaaGreatDoorWd
import Derived.Test.YtebcmicmklpflaaGreatDoorUe
namespace Go.Proofs.YtebcmicmklpflaaGreatDoor
open Go.RowKit Go.Maps
set_option linter.unusedSimpArgs false
set_option maxRecDepth 20000 in
set_option maxHeartbeats 2000000 in
theorem forget_breaks (j f : Nat) (nm : ByteArray) (S : Fs) (Of : Nat → Prop) (k N : Nat) (J : Jn) (gv lv : Value) (d0 : List UInt8) (w : World) (h : FsIs w f 0 S Of k) (hj : w.heap[j]? = some (jnBlk f nm J gv lv)) (hOj : ¬ Of j) (hk : k ≤ 15000) (hf : S.fuse = some N) (hNN : N < 2 ∧ (J.parts = 0 → N < 1)) (hp : S.pend = []) (hl : S.las = S.now) (ho : ∀ s, s ≠ nm → S.now.N s = none) (hs : 1 ≤ nm.size ∧ nm.size ≤ 300) (hH : HasF S.now nm J.parts d0) (hu : S.now.u ≤ (S.room : Int)) :
    Calls Tryz.prog 63 #[.pointer (some ⟨j, 0, none⟩)] w fun e w' => e = .returned (.int .i64 26) ∧ ∃ S' O', FsIs w' f 0 S' O' (k + 3) ∧ Brk S' nm d0 [] ∧ w'.heap[j]? = some (jnBlk f nm J gv lv) ∧ FFr Of O' w w' ∧ ¬ O' j := by
  have hjl : j < w.heap.size := (Array.getElem?_eq_some_iff.1 hj).1
  have same : ∀ w', FsIs w' f 0 S Of k → Below w.heap.size w w' → ∃ S' O', FsIs w' f 0 S' O' (k + 3) ∧ Brk S' nm d0 [] ∧ w'.heap[j]? = some (jnBlk f nm J gv lv) ∧ FFr Of O' w w' ∧ ¬ O' j := fun w' h1 h2 => ⟨S, Of, h1.up (by omega), brk_same hp (by rw [hl]; exact ho) (by rw [hl]; exact hH), (h2.block j hjl).trans hj, below_ffr h2, hOj⟩
  have hCells : ∀ W : World, W.heap[j]? = some (jnBlk f nm J gv lv) → W.cell? ⟨j, 0, none⟩ = some (.pointer (some ⟨f, 0, none⟩)) ∧ W.cell? ⟨j, 1, none⟩ = some (.string nm) ∧ W.cell? ⟨j, 2, none⟩ = some (.int .i64 (J.parts : Int)) ∧ W.cell? ⟨j, 3, none⟩ = some (.slice none 0 0) ∧ W.cell? ⟨j, 4, none⟩ = some (.bool false) ∧ W.cell? ⟨j, 5, none⟩ = some (.slice none 0 0) ∧ ∀ i, W.frozen? ⟨j, i, none⟩ = false := fun W hb => by
    unfold jnBlk at hb
    refine ⟨?_, ?_, ?_, ?_, ?_, ?_, fun i => ?_⟩
    all_goals first | (simp [World.cell?, hb]; done) | (simp [World.frozen?, hb]; done)
  rcases id hH with ⟨hp0, hN, hd0⟩ | ⟨hp1, i, hA⟩
  · obtain ⟨c0, c1, c2, c3, c4, c5, cz⟩ := hCells w hj
    have hN0 : N = 0 := by have := hNN.2 hp0; omega
    have HS' : Hid (Calls Tryz.prog 29 #[.pointer (some ⟨f, 0, none⟩)] w fun e w' => e = .returned (.int .i64 26) ∧ Hid (∃ S' O', FsIs w' f 0 S' O' (k + 3) ∧ Brk S' nm d0 [] ∧ w'.heap[j]? = some (jnBlk f nm J gv lv) ∧ FFr Of O' w w' ∧ ¬ O' j)) := (sync_dead f S Of k w h (by rw [hf, hN0])).mono fun e w' ⟨e1, h1, h2⟩ => ⟨e1, same w' h1 h2⟩
    rw [hp0] at c2
    simp only [Int.natCast_zero] at c2
    have i2 := setCell_id c2
    have i4 := setCell_id c4
    have i5 := setCell_id c5
    have z2 := cz 2
    have z4 := cz 4
    have z5 := cz 5
    have HSw := hide (sweep_none j w c3 (cz 3))
    clear h hj hOj hk hf hp hs hu hCells hN hp0 cz c1 c3 same hH hl ho hNN hN0
    go_enter Tryz.func63, Tryz.ntmps63
    go_wp2_with fail
    go_loop [4] (fun i => i = .int .i64 1) (fun _ => 0)
    case atStart => rfl
    case round =>
      subst hrel
      go_wp2_with fail
      rw [show min (0 : Int) 1 = 0 from rfl, i2, i4, i5]
      refine (unhide HSw).mono ?_
      rintro e w' ⟨rfl, hw'⟩
      rw [hw']
      clear hw' w'
      go_wp2_with fail
      refine (unhide HS').mono ?_
      rintro e w' ⟨rfl, HE⟩
      go_wp2_with fail
      go_ret
      exact ⟨rfl, unhide HE⟩
  · obtain ⟨c0, c1, c2, c3, c4, c5, cz⟩ := hCells w hj
    rw [hp1] at c2
    simp only [Int.natCast_one] at c2
    have ha : S.now.alone nm = d0.length := by unfold Tb.alone; rw [hA.N]; simp [hA.c, hA.D]
    by_cases hN0 : N = 0
    · have HW : Hid (Calls Tryz.prog 28 #[.pointer (some ⟨f, 0, none⟩), .string nm, .slice none 0 0] w.drew fun e w' => e = .returned (.int .i64 26) ∧ Hid (∃ S' O', FsIs w' f 0 S' O' (k + 3) ∧ Brk S' nm d0 [] ∧ w'.heap[j]? = some (jnBlk f nm J gv lv) ∧ FFr Of O' w w' ∧ ¬ O' j)) := (write_dead f S Of k nm none 0 0 w.drew h.drew (by rw [hf, hN0])).mono fun e w' ⟨e1, h1, h2⟩ => ⟨e1, same w' h1 ⟨h2.os, h2.tape, h2.output, h2.size, h2.block⟩⟩
      have c0d : w.drew.cell? ⟨j, 0, none⟩ = some (.pointer (some ⟨f, 0, none⟩)) := c0
      have c1d : w.drew.cell? ⟨j, 1, none⟩ = some (.string nm) := c1
      clear h hj hOj hk hf hp hs hu hCells hA hp1 cz c3 c4 c5 ha same hH hl ho hNN hN0
      go_enter Tryz.func63, Tryz.ntmps63
      go_wp2_with fail
      refine wp_region_noPanic ?_
      go_region_law (go_simp; refine (unhide HW).mono ?_; rintro e W ⟨rfl, HE⟩; simp only [])
      all_goals
        refine NoPanic.normal ?_
        clear HW c0 c1 c2 c0d c1d
        go_wp2_with fail
        go_ret
        exact ⟨rfl, unhide HE⟩
    · have hN1 : N = 1 := by omega
      have HW : Hid (Calls Tryz.prog 28 #[.pointer (some ⟨f, 0, none⟩), .string nm, .slice none 0 0] w.drew fun e W => e = .returned (.int .i64 0) ∧ W.cell? ⟨j, 0, none⟩ = some (.pointer (some ⟨f, 0, none⟩)) ∧ W.cell? ⟨j, 2, none⟩ = some (.int .i64 1) ∧ W.cell? ⟨j, 4, none⟩ = some (.bool false) ∧ W.cell? ⟨j, 5, none⟩ = some (.slice none 0 0) ∧ W.setCell ⟨j, 2, none⟩ (.int .i64 1) = W ∧ W.setCell ⟨j, 4, none⟩ (.bool false) = W ∧ W.setCell ⟨j, 5, none⟩ (.slice none 0 0) = W ∧ W.frozen? ⟨j, 2, none⟩ = false ∧ W.frozen? ⟨j, 4, none⟩ = false ∧ W.frozen? ⟨j, 5, none⟩ = false ∧ Hid (Calls Tryz.prog 109 #[.pointer (some ⟨j, 0, none⟩)] W fun e w' => e = .returned (.int .i64 0) ∧ w' = W) ∧ Hid (Calls Tryz.prog 29 #[.pointer (some ⟨f, 0, none⟩)] W fun e w' => e = .returned (.int .i64 26) ∧ Hid (∃ S' O', FsIs w' f 0 S' O' (k + 3) ∧ Brk S' nm d0 [] ∧ w'.heap[j]? = some (jnBlk f nm J gv lv) ∧ FFr Of O' w w' ∧ ¬ O' j))) := by
        refine (write_ok f S Of k nm none 0 [] 0 w.drew h.drew (by omega) (by rw [hf, hN1]; simp) (by rw [hp]; decide) hs (by simp) (by rw [ha]; simp; omega) (row_nil _ _) (Nat.zero_le _)).mono fun e W ⟨e1, z, O', hz, hF1, hE0⟩ => ⟨e1, ?_⟩
        have hE1 := hE0.undrew
        have hjW : W.heap[j]? = some (jnBlk f nm J gv lv) := (hE1.rest j hjl hOj).trans hj
        obtain ⟨d0', d1, d2, d3, d4, d5, dz⟩ := hCells W hjW
        rw [hp1] at d2
        simp only [Int.natCast_one] at d2
        have hfz : (S.done (S.now.write nm [] z) (.write nm [] z)).fuse = some 0 := by show S.fuse.map Nat.pred = some 0; rw [hf, hN1]; rfl
        have hjW2 : j < W.heap.size := Nat.lt_of_lt_of_le hjl hE1.size
        refine ⟨d0', d2, d4, d5, setCell_id d2, setCell_id d4, setCell_id d5, dz 2, dz 4, dz 5, sweep_none j W d3 (dz 3), (sync_dead f _ O' (k + 3) W hF1 hfz).mono fun e w' ⟨e2, h5, h6⟩ => ⟨e2, _, O', h5, ?_, (h6.block j hjW2).trans hjW, hE1.trans (below_ffr h6), hE1.not hOj hjl⟩⟩
        exact brk_write (S := S) (p := J.parts) (d0 := d0) rfl (by show S.pend ++ [_] = _; rw [hp]; rfl) (by rw [hl]; exact ho) (by rw [hl]; exact hH) (by rw [hl]; exact hz) rfl (.inr rfl)
      clear h hj hOj hk hf hp hs hu hCells hA hp1 cz c3 c4 c5 ha same hH hl ho hNN hN0 hN1
      go_enter Tryz.func63, Tryz.ntmps63
      go_wp2_with fail
      have c0d : w.drew.cell? ⟨j, 0, none⟩ = some (.pointer (some ⟨f, 0, none⟩)) := c0
      have c1d : w.drew.cell? ⟨j, 1, none⟩ = some (.string nm) := c1
      refine wp_region_noPanic ?_
      go_region_law (go_simp; refine (unhide HW).mono ?_; rintro e W ⟨rfl, k0, k2, k4, k5, i2, i4, i5, z2, z4, z5, HSw, HS'⟩; simp only [])
      all_goals
        refine NoPanic.normal ?_
        clear HW c0 c1 c2 c0d c1d
        simp only [Act.put, List.getElem_toArray, List.getElem_cons_zero, List.getElem_cons_succ, List.setIfInBounds_toArray, List.set_cons_zero, List.set_cons_succ]
        go_wp2_with fail
        go_loop [4] (fun i => i = .int .i64 1) (fun _ => 0)
        case atStart => rfl
        case round =>
          subst hrel
          go_wp2_with fail
          refine (unhide HSw).mono ?_
          rintro e w' ⟨rfl, hw'⟩
          rw [hw']
          clear hw' w'
          go_wp2_with fail
          refine (unhide HS').mono ?_
          rintro e w' ⟨rfl, HE⟩
          go_wp2_with fail
          go_ret
          exact ⟨rfl, unhide HE⟩
set_option maxRecDepth 20000 in
set_option maxHeartbeats 2000000 in
theorem reset_breaks (w : World) (f j : Nat) (nm : ByteArray) (S : Fs) (J : Jn) (U : Nat → Prop) (k N : Nat) (h : JS w f j nm S J U k) (hk : k ≤ 15000) (hf : S.fuse = some N) (hNN : N < 2 ∧ (J.parts = 0 → N < 1)) (hp : S.pend = []) (hl : S.las = S.now) (ho : ∀ s, s ≠ nm → S.now.N s = none) (hs : 1 ≤ nm.size ∧ nm.size ≤ 300) (hH : HasF S.now nm J.parts (encs z32 J.G)) (hu : S.now.u ≤ (S.room : Int)) (hal : J.dead = false) :
    Calls Tryz.prog 26 #[.pointer (some ⟨j, 0, none⟩)] w fun e w' => e = .returned (.int .i64 26) ∧ ∃ S' O', FsIs w' f 0 S' O' (k + 3) ∧ Brk S' nm (encs z32 J.G) [] ∧ FFr U (fun q => U q ∨ O' q) w w' := by
  obtain ⟨Of, O, OL, gv, lv, qs, hF, hJ, hdis, u1, u2, u3, u4, u5⟩ := h
  obtain ⟨_, _, _, _, _, _, _, c10, _⟩ := jn_cells hJ.gm.blk
  rw [hal] at c10
  have HR := hide (refusal_ok j w c10)
  have hOj : ¬ Of j := fun o => (hdis j o).2.2 rfl
  have HF : Hid (Calls Tryz.prog 63 #[.pointer (some ⟨j, 0, none⟩)] w fun e W => e = .returned (.int .i64 26) ∧ Hid (Calls Tryz.prog 62 #[.pointer (some ⟨j, 0, none⟩), .int .i64 26] W fun e w' => e = .returned (.int .i64 26) ∧ Hid (∃ S' O', FsIs w' f 0 S' O' (k + 3) ∧ Brk S' nm (encs z32 J.G) [] ∧ FFr U (fun q => U q ∨ O' q) w w'))) := by
    refine (forget_breaks j f nm S Of k N J gv lv (encs z32 J.G) w hF hJ.gm.blk hOj hk hf hNN hp hl ho hs hH hu).mono fun e W ⟨e1, S', O', h1, h2, h3, h4, h5⟩ => ⟨e1, ?_⟩
    obtain ⟨_, _, _, _, _, _, _, d10, dz⟩ := jn_cells h3
    refine (failed_dead j 26 _ W (by decide) d10 (dz 10)).mono fun e W4 ⟨e2, e3⟩ => ⟨e2, S', O', ?_⟩
    subst e3
    refine ⟨h1.drew.kept (by rw [size_set]; exact Nat.le_refl _) (fun q o => set_other _ _ _ _ _ (fun e => h5 (e ▸ o))), h2, h4.os, h4.tape, h4.output, by rw [size_set]; exact h4.size, fun q p1 p2 => ?_, fun q o => ?_⟩
    · have hqj : q ≠ j := fun e => p2 (e ▸ u4)
      rw [set_other _ _ _ _ _ hqj]
      exact h4.rest q p1 (fun o => p2 (u1 q o))
    · rcases o with o | o
      · exact .inl o
      · exact (h4.new q o).imp (u1 q) id
  clear hF hJ hdis u1 u2 u3 u4 u5 hk hf hp hs hH hu c10 hOj hNN hl ho
  go_enter Tryz.func26, Tryz.ntmps26
  go_wp2_with fail
  refine (unhide HR).mono ?_
  rintro e w' ⟨rfl, rfl⟩
  go_wp2_with fail
  refine (unhide HF).mono ?_
  rintro e W ⟨rfl, HD⟩
  clear HF HR
  go_wp2_with fail
  refine (unhide HD).mono ?_
  rintro e W2 ⟨rfl, HE⟩
  clear HD
  go_wp2_with fail
  go_ret
  exact ⟨rfl, unhide HE⟩
end Go.Proofs.YtebcmicmklpflaaGreatDoor
