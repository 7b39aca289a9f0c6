/- Reset: all groups are forgotten. -/
import Derived.Test.YtebcmicmklpflaaGreatDoorUd
namespace Go.Proofs.YtebcmicmklpflaaGreatDoor
open Go.RowKit Go.Maps
set_option linter.unusedSimpArgs false
/-- A FS in which the journal's file, if it is there, is empty now, and all lasts. -/
structure Emp (S S' : Fs) (nm : ByteArray) (p : Nat) (n : Int) : Prop where
  room : S'.room = S.room
  fuse : Less S.fuse S'.fuse
  pend : S'.pend = []
  las : S'.las = S'.now
  has : HasF S'.now nm p []
  oth : Others nm S.now S'.now
  us : S'.now.u = S.now.u - n
set_option maxRecDepth 20000 in
set_option maxHeartbeats 2000000 in
theorem forget_ok (j f : Nat) (nm : ByteArray) (S : Fs) (Of : Nat → Prop) (k : Nat) (J : Jn) (gv lv : Value) (d0 : List UInt8) (w : World) (h : FsIs w f 0 S Of k) (hj : w.heap[j]? = some (jnBlk f nm J gv lv)) (hOj : ¬ Of j) (hk : k ≤ 15000) (hf : Bears S.fuse (1 + J.parts)) (hp : S.pend.length < 16000) (hs : 1 ≤ nm.size ∧ nm.size ≤ 300) (hH : HasF S.now nm J.parts d0) (hu : S.now.u ≤ (S.room : Int)) :
    Calls Tryz.prog 63 #[.pointer (some ⟨j, 0, none⟩)] w fun e w' => e = .returned (.int .i64 0) ∧ ∃ S' O', FsIs w' f 0 S' O' (k + 3) ∧ Emp S S' nm J.parts (d0.length : Int) ∧ w'.heap[j]? = some (jnBlk f nm J gv lv) ∧ FFr Of O' w w' ∧ ¬ O' j := by
  have hjl : j < w.heap.size := (Array.getElem?_eq_some_iff.1 hj).1
  have hFk : ∀ {W S O}, FsIs W f 0 S O k → FsIs W f 0 S O (k + 3) := fun hF => by
    obtain ⟨K, n, l, pv, ps, hM, hnk, hex⟩ := hF
    exact ⟨K, n, l, pv, ps, hM, by omega, hex⟩
  -- what comes behind the Write
  have HS : Hid (∀ W S1 O1, FsIs W f 0 S1 O1 (k + 3) → (Bears S1.fuse 1 ∧ Less S.fuse S1.fuse) → W.heap[j]? = some (jnBlk f nm J gv lv) → ¬ O1 j → FFr Of O1 w W → S1.room = S.room → HasF S1.now nm J.parts [] → Others nm S.now S1.now → S1.now.u = S.now.u - (d0.length : Int) → Calls Tryz.prog 29 #[.pointer (some ⟨f, 0, none⟩)] W fun e w' => e = .returned (.int .i64 0) ∧ Hid (∃ S' O', FsIs w' f 0 S' O' (k + 3) ∧ Emp S S' nm J.parts (d0.length : Int) ∧ w'.heap[j]? = some (jnBlk f nm J gv lv) ∧ FFr Of O' w w' ∧ ¬ O' j)) := fun W S1 O1 h1 h2 h3 h4 h5 h6 h7 h8 h9 => by
    have hjW : j < W.heap.size := Nat.lt_of_lt_of_le hjl h5.size
    refine (sync_ok f S1 O1 (k + 3) W h1 (by omega) h2.1.ne).mono fun e w' ⟨e1, O', g1, g2⟩ => ⟨e1, _, O', g1, ⟨h6, ?_, rfl, rfl, h7, h8, h9⟩, (g2.rest j hjW h4).trans h3, h5.trans g2, g2.not h4 hjW⟩
    show Less S.fuse (S1.fuse.map Nat.pred)
    exact h2.2.pred
  have hCells : ∀ W : World, W.heap[j]? = some (jnBlk f nm J gv lv) → W.cell? ⟨j, 0, none⟩ = some (.pointer (some ⟨f, 0, none⟩)) ∧ W.cell? ⟨j, 1, none⟩ = some (.string nm) ∧ W.cell? ⟨j, 2, none⟩ = some (.int .i64 (J.parts : Int)) ∧ W.cell? ⟨j, 3, none⟩ = some (.slice none 0 0) ∧ W.cell? ⟨j, 4, none⟩ = some (.bool false) ∧ W.cell? ⟨j, 5, none⟩ = some (.slice none 0 0) ∧ ∀ i, W.frozen? ⟨j, i, none⟩ = false := fun W hb => by
    unfold jnBlk at hb
    refine ⟨?_, ?_, ?_, ?_, ?_, ?_, fun i => ?_⟩
    all_goals first | (simp [World.cell?, hb]; done) | (simp [World.frozen?, hb]; done)
  rcases hH with ⟨hp0, hN, hd0⟩ | ⟨hp1, i, hA⟩
  · obtain ⟨c0, c1, c2, c3, c4, c5, cz⟩ := hCells w hj
    have HS' := hide (unhide HS w S Of (hFk h) ⟨hf.mono (by omega), Less.refl _⟩ hj hOj (FFr.refl _ _) rfl (.inl ⟨hp0, hN, rfl⟩) (Others.refl _ _) (by rw [hd0]; simp))
    rw [hp0] at c2
    simp only [Int.natCast_zero] at c2
    have i2 := setCell_id c2
    have i4 := setCell_id c4
    have i5 := setCell_id c5
    have z2 := cz 2
    have z4 := cz 4
    have z5 := cz 5
    have HSw := hide (sweep_none j w c3 (cz 3))
    clear h hj hOj hk hf hp hs hu HS hCells hN hp0 hFk cz c1 c3
    go_enter Tryz.func63, Tryz.ntmps63
    go_wp2_with fail
    go_loop [4] (fun i => i = .int .i64 1) (fun _ => 0)
    case atStart => rfl
    case round =>
      subst hrel
      go_wp2_with fail
      rw [show min (0 : Int) 1 = 0 from rfl, i2, i4, i5]
      refine (unhide HSw).mono ?_
      rintro e w' ⟨rfl, hw'⟩
      rw [hw']
      clear hw' w'
      go_wp2_with fail
      refine (unhide HS').mono ?_
      rintro e w' ⟨rfl, HE⟩
      go_wp2_with fail
      go_ret
      exact ⟨rfl, unhide HE⟩
  · obtain ⟨c0, c1, c2, c3, c4, c5, cz⟩ := hCells w hj
    rw [hp1] at c2
    simp only [Int.natCast_one] at c2
    have ha : S.now.alone nm = d0.length := by unfold Tb.alone; rw [hA.N]; simp [hA.c, hA.D]
    have HW : Hid (Calls Tryz.prog 28 #[.pointer (some ⟨f, 0, none⟩), .string nm, .slice none 0 0] w.drew fun e W => e = .returned (.int .i64 0) ∧ W.cell? ⟨j, 0, none⟩ = some (.pointer (some ⟨f, 0, none⟩)) ∧ W.cell? ⟨j, 2, none⟩ = some (.int .i64 1) ∧ W.cell? ⟨j, 4, none⟩ = some (.bool false) ∧ W.cell? ⟨j, 5, none⟩ = some (.slice none 0 0) ∧ W.setCell ⟨j, 2, none⟩ (.int .i64 1) = W ∧ W.setCell ⟨j, 4, none⟩ (.bool false) = W ∧ W.setCell ⟨j, 5, none⟩ (.slice none 0 0) = W ∧ W.frozen? ⟨j, 2, none⟩ = false ∧ W.frozen? ⟨j, 4, none⟩ = false ∧ W.frozen? ⟨j, 5, none⟩ = false ∧ Hid (Calls Tryz.prog 109 #[.pointer (some ⟨j, 0, none⟩)] W fun e w' => e = .returned (.int .i64 0) ∧ w' = W) ∧ Hid (Calls Tryz.prog 29 #[.pointer (some ⟨f, 0, none⟩)] W fun e w' => e = .returned (.int .i64 0) ∧ Hid (∃ S' O', FsIs w' f 0 S' O' (k + 3) ∧ Emp S S' nm J.parts (d0.length : Int) ∧ w'.heap[j]? = some (jnBlk f nm J gv lv) ∧ FFr Of O' w w' ∧ ¬ O' j))) := by
      refine (write_ok f S Of k nm none 0 [] 0 w.drew h.drew (by omega) (hf.mono (by omega : 2 ≤ 1 + J.parts)).ne (by omega) hs (by simp) (by rw [ha]; simp; omega) (row_nil _ _) (Nat.zero_le _)).mono fun e W ⟨e1, z, O', hz, hF1, hE0⟩ => ⟨e1, ?_⟩
      have hE1 := hE0.undrew
      have hjW : W.heap[j]? = some (jnBlk f nm J gv lv) := (hE1.rest j hjl hOj).trans hj
      obtain ⟨d0', d1, d2, d3, d4, d5, dz⟩ := hCells W hjW
      rw [hp1] at d2
      simp only [Int.natCast_one] at d2
      obtain ⟨hA2, hO2, hu2⟩ := hA.anew hz []
      refine ⟨d0', d2, d4, d5, setCell_id d2, setCell_id d4, setCell_id d5, dz 2, dz 4, dz 5, sweep_none j W d3 (dz 3), unhide HS W _ O' hF1 ?_ hjW (hE1.not hOj hjl) hE1 rfl (.inr ⟨hp1, z, hA2⟩) hO2 ?_⟩
      · show Bears (S.fuse.map Nat.pred) 1 ∧ Less S.fuse (S.fuse.map Nat.pred)
        exact ⟨(hf.mono (by omega : 2 ≤ 1 + J.parts)).pred, (Less.refl _).pred⟩
      · show (S.now.write nm [] z).u = _
        rw [hu2]; simp
    clear h hj hOj hk hf hp hs hu HS hCells hA hp1 hFk cz c3 c4 c5 ha
    go_enter Tryz.func63, Tryz.ntmps63
    go_wp2_with fail
    have c0d : w.drew.cell? ⟨j, 0, none⟩ = some (.pointer (some ⟨f, 0, none⟩)) := c0
    have c1d : w.drew.cell? ⟨j, 1, none⟩ = some (.string nm) := c1
    refine wp_region_noPanic ?_
    go_region_law (go_simp; refine (unhide HW).mono ?_; rintro e W ⟨rfl, k0, k2, k4, k5, i2, i4, i5, z2, z4, z5, HSw, HS'⟩; simp only [])
    all_goals
      refine NoPanic.normal ?_
      clear HW c0 c1 c2 c0d c1d
      simp only [Act.put, List.getElem_toArray, List.getElem_cons_zero, List.getElem_cons_succ, List.setIfInBounds_toArray, List.set_cons_zero, List.set_cons_succ]
      go_wp2_with fail
      go_loop [4] (fun i => i = .int .i64 1) (fun _ => 0)
      case atStart => rfl
      case round =>
        subst hrel
        go_wp2_with fail
        refine (unhide HSw).mono ?_
        rintro e w' ⟨rfl, hw'⟩
        rw [hw']
        clear hw' w'
        go_wp2_with fail
        refine (unhide HS').mono ?_
        rintro e w' ⟨rfl, HE⟩
        go_wp2_with fail
        go_ret
        exact ⟨rfl, unhide HE⟩
theorem jn_reset {w : World} {j f : Nat} {nm : ByteArray} {J : Jn} {gv lv : Value} (h : w.heap[j]? = some (jnBlk f nm J gv lv)) : ((w.setCell ⟨j, 6, none⟩ (.slice none 0 0)).setCell ⟨j, 7, none⟩ (.int .i64 0)).heap[j]? = some (jnBlk f nm { J with G := [] } (.slice none 0 0) lv) := by
  unfold jnBlk at *
  simp [World.setCell, Array.getElem?_modify, h, wts]
set_option maxRecDepth 20000 in
set_option maxHeartbeats 2000000 in
theorem reset_ok (w : World) (f j : Nat) (nm : ByteArray) (S : Fs) (J : Jn) (U : Nat → Prop) (k : Nat) (h : JS w f j nm S J U k) (hk : k ≤ 15000) (hf : Bears S.fuse (1 + J.parts)) (hp : S.pend.length < 16000) (hs : 1 ≤ nm.size ∧ nm.size ≤ 300) (hH : HasF S.now nm J.parts (encs z32 J.G)) (hu : S.now.u ≤ (S.room : Int)) (hal : J.dead = false) :
    Calls Tryz.prog 26 #[.pointer (some ⟨j, 0, none⟩)] w fun e w' => e = .returned (.int .i64 0) ∧ ∃ S' U', JS w' f j nm S' { J with G := [] } U' (k + 3) ∧ Emp S S' nm J.parts ((encs z32 J.G).length : Int) ∧ FFr U U' w w' := by
  obtain ⟨Of, O, OL, gv, lv, qs, hF, hJ, hdis, u1, u2, u3, u4, u5⟩ := h
  obtain ⟨_, _, _, _, _, _, _, c10, _⟩ := jn_cells hJ.gm.blk
  rw [hal] at c10
  have HR := hide (refusal_ok j w c10)
  have hOj : ¬ Of j := fun o => (hdis j o).2.2 rfl
  have HF : Hid (Calls Tryz.prog 63 #[.pointer (some ⟨j, 0, none⟩)] w fun e W => e = .returned (.int .i64 0) ∧ W.cell? ⟨j, 6, none⟩ = some gv ∧ W.frozen? ⟨j, 6, none⟩ = false ∧ (W.setCell ⟨j, 6, none⟩ (.slice none 0 0)).cell? ⟨j, 7, none⟩ = some (.int .i64 (wts J.G : Int)) ∧ (W.setCell ⟨j, 6, none⟩ (.slice none 0 0)).frozen? ⟨j, 7, none⟩ = false ∧ Hid (∃ S' U', JS ((W.setCell ⟨j, 6, none⟩ (.slice none 0 0)).setCell ⟨j, 7, none⟩ (.int .i64 0)) f j nm S' { J with G := [] } U' (k + 3) ∧ Emp S S' nm J.parts ((encs z32 J.G).length : Int) ∧ FFr U U' w ((W.setCell ⟨j, 6, none⟩ (.slice none 0 0)).setCell ⟨j, 7, none⟩ (.int .i64 0)))) := by
    refine (forget_ok j f nm S Of k J gv lv (encs z32 J.G) w hF hJ.gm.blk hOj hk hf hp hs hH hu).mono fun e W ⟨e1, S', O', h1, h2, h3, h4, h5⟩ => ⟨e1, ?_⟩
    obtain ⟨_, _, _, d6, d7, _, _, _, dz⟩ := jn_cells h3
    have hz := h4.size
    have hjl := hJ.gm.jlt
    have hset : ∀ b, b ≠ j → ((W.setCell ⟨j, 6, none⟩ (.slice none 0 0)).setCell ⟨j, 7, none⟩ (.int .i64 0)).heap[b]? = W.heap[b]? := fun b hb => by rw [set_other _ _ _ _ _ hb, set_other _ _ _ _ _ hb]
    refine ⟨d6, dz 6, by rw [World.cell?_setCell_other _ ⟨j, 6, none⟩ ⟨j, 7, none⟩ _ (by simp)]; exact d7, by rw [World.frozen?_setCell]; exact dz 7, S', fun q => U q ∨ (w.heap.size ≤ q ∧ q < W.heap.size), ?_, h2, ?_⟩
    · refine ⟨O', fun _ => False, OL, .slice none 0 0, lv, [], ?_, ⟨⟨jn_reset h3, id, World.ownsRow_nil _ _ _ _, fun q e => by simp [Value.ownBlock] at e, trivial, fun _ o => o.elim⟩, ?_, fun _ o => o.elim, hJ.nl, fun q o => by simp only [size_set]; have := hJ.ltl q o; omega⟩, fun q o => ⟨id, ?_, fun e => h5 (e ▸ o)⟩, fun q o => ?_, fun _ o => o.elim, fun q o => .inl (u3 q o), .inl u4, ?_⟩
      · exact h1.kept (by simp only [size_set]; exact Nat.le_refl _) (fun q o => hset q (fun e => h5 (e ▸ o)))
      · exact hJ.laid.kept (fun _ o => o) (fun q o => by rw [hset q (fun e => hJ.nl (e ▸ o))]; exact h4.rest q (hJ.ltl q o) (fun o2 => (hdis q o2).2.1 o))
      · intro o2
        rcases h4.new q o with o3 | o3
        · exact (hdis q o3).2.1 o2
        · have := hJ.ltl q o2; omega
      · rcases h4.new q o with o3 | o3
        · exact .inl (u1 q o3)
        · exact .inr ⟨o3, h1.lt q o⟩
      · simp only [size_set]
        rintro q (o | o)
        · have := u5 q o; omega
        · exact o.2
    · refine ⟨h4.os, h4.tape, h4.output, by simp only [size_set]; exact hz, fun q p1 p2 => ?_, fun q o => o.imp id (fun o => o.1)⟩
      have hqj : q ≠ j := fun e => p2 (e ▸ u4)
      rw [hset q hqj]
      exact h4.rest q p1 (fun o => p2 (u1 q o))
  clear hF hJ hdis u1 u2 u3 u4 u5 hk hf hp hs hH hu c10 hOj
  go_enter Tryz.func26, Tryz.ntmps26
  go_wp2_with fail
  refine (unhide HR).mono ?_
  rintro e w' ⟨rfl, rfl⟩
  go_wp2_with fail
  refine (unhide HF).mono ?_
  rintro e W ⟨rfl, k1, k2, k3, k4, HE⟩
  clear HF HR
  go_wp2_with fail
  go_ret
  exact ⟨rfl, unhide HE⟩
/-- Drop: what is laid down is forgotten. -/
theorem drop_ok (w : World) (f j : Nat) (nm : ByteArray) (S : Fs) (J : Jn) (U : Nat → Prop) (k : Nat) (h : JS w f j nm S J U k) :
    Calls Tryz.prog 32 #[.pointer (some ⟨j, 0, none⟩)] w fun e w' => e = .returned (.tuple #[]) ∧ JS w' f j nm S { J with D := [] } U k ∧ FFr U U w w' := by
  obtain ⟨Of, O, OL, gv, lv, qs, hF, hJ, hdis, u1, u2, u3, u4, u5⟩ := h
  obtain ⟨_, _, _, _, _, c8, c9, _, cz⟩ := jn_cells hJ.gm.blk
  refine (drop_cell j _ _ w c8 c9 cz).mono fun e w' ⟨e1, e2⟩ => ⟨e1, ?_⟩
  subst e2
  have hset : ∀ b, b ≠ j → ((w.setCell ⟨j, 8, none⟩ (.slice none 0 0)).setCell ⟨j, 9, none⟩ (.int .i64 0)).heap[b]? = w.heap[b]? := fun b hb => by rw [set_other _ _ _ _ _ hb, set_other _ _ _ _ _ hb]
  refine ⟨⟨Of, O, fun _ => False, gv, .slice none 0 0, qs, ?_, ⟨?_, Recs.nil _ _, fun _ _ h => h, id, fun _ o => o.elim⟩, fun q o => ⟨(hdis q o).1, id, (hdis q o).2.2⟩, u1, u2, fun _ o => o.elim, u4, ?_⟩, rfl, rfl, rfl, by simp only [size_set]; exact Nat.le_refl _, fun q p1 p2 => hset q (fun e => p2 (e ▸ u4)), fun q o => .inl o⟩
  · exact hF.kept (by simp only [size_set]; exact Nat.le_refl _) (fun q o => hset q (hdis q o).2.2)
  · exact hJ.gm.re (J' := { J with D := [] }) (by simp only [size_set]; exact Nat.le_refl _) (jn_drop hJ.gm.blk) rfl (fun q o => hset q (fun e => hJ.gm.nj (e ▸ o)))
  · simp only [size_set]; exact u5
end Go.Proofs.YtebcmicmklpflaaGreatDoor
