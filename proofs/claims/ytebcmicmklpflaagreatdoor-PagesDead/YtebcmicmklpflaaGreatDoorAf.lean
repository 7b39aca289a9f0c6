/- A Commit behind a burnt fuse, and the journal behind it. -/
import Derived.Test.YtebcmicmklpflaaGreatDoorTa
namespace Go.Proofs.YtebcmicmklpflaaGreatDoor
open Go.RowKit Go.Maps
set_option linter.unusedSimpArgs false
set_option maxRecDepth 20000 in
set_option maxHeartbeats 2000000 in
theorem commit_dead2 (w : World) (f j : Nat) (nm : ByteArray) (S : Fs) (J : Jn) (U : Nat → Prop) (k : Nat) (h : JS w f j nm S J U k) (hf : S.fuse = some 0) (hp0 : J.parts = 0) (hal : J.dead = false) (hne : J.D ≠ []) (hg : J.G.length ≤ 10000) (hdl : J.D.length ≤ 100000) (hwd : wt J.D ≤ 10000000) (hwg : wts J.G < 524288) :
    Calls Tryz.prog 24 #[.pointer (some ⟨j, 0, none⟩)] w fun e w' => e = .returned (.int .i64 26) ∧ (∃ Of, FsIs w' f 0 S Of k ∧ ¬ Of j ∧ ∀ q, Of q → U q) ∧ (∃ gv lv, w'.heap[j]? = some (jnBlk f nm { J with dead := true } gv lv)) ∧ FFr U U w w' := by
  obtain ⟨Of, O, OL, gv, lv, qs, hF, hJ, hdis, u1, u2, u3, u4, u5⟩ := h
  obtain ⟨c0, c1, c2, c6, c7, c8, c9, c10, cz⟩ := jn_cells hJ.gm.blk
  rw [hal] at c10
  have HR := hide (refusal_ok j w c10)
  have hql := hJ.gm.ch.len
  have HL := hide (last_ok gv qs w.drew (by rw [hql]; exact hJ.gm.row) (by rw [hql]; omega))
  obtain ⟨la, lc, el⟩ := hJ.laid.shape
  obtain ⟨ga, gc, eg⟩ := hJ.gm.shapes
  have hD0 : ¬ ((J.D.length : Int) = 0) := by have := List.length_pos_iff.2 hne; omega
  obtain ⟨WG, hWG⟩ : ∃ WG : Int, WG = (wts J.G : Int) := ⟨_, rfl⟩
  have hW : WG < 524288 := by omega
  rw [← hWG] at c7
  have HWG := hide hWG
  clear hWG
  go_enter Tryz.func24, Tryz.ntmps24
  go_wp2_with fail
  refine (unhide HR).mono ?_
  rintro e w' ⟨rfl, rfl⟩
  subst el eg
  obtain ⟨ND, hND⟩ : ∃ ND, ND = J.D.length := ⟨_, rfl⟩
  obtain ⟨NG, hNG⟩ : ∃ NG, NG = J.G.length := ⟨_, rfl⟩
  rw [← hND] at c8 hD0
  rw [← hNG] at c6 HL
  have HJ := hide (And.intro hJ (And.intro hF (And.intro hdis (And.intro (And.intro hdl hwd) (And.intro hND hNG)))))
  have HU := hide (And.intro u1 (And.intro u4 u5))
  clear hJ hF hql hND hNG hdis c0 c1 c2 c9 u1 u2 u3 u4 u5 hg hdl hwd hwg hne
  have e8 : w'.drew.cell? ⟨j, 8, none⟩ = some (.slice la ND lc) := c8
  have e6 : w'.drew.cell? ⟨j, 6, none⟩ = some (.slice ga NG gc) := c6
  go_wp2_with fail
  apply one_way
  case go =>
    intro key
    refine wp_region_noPanic ?_
    go_region_with ((go_at_call 59; refine Calls.mono (unhide HL) ?_; rintro e w5 ⟨rfl, rfl⟩))
    all_goals
      refine NoPanic.normal ?_
      exact unhide key
  case all =>
    change Exit.then _ _ _ _ (w'.alloc (grpBlk (lastq qs) (.slice la ND lc) 0 0 (Dg.zs 32))).drew
    obtain ⟨W1, hW1⟩ : ∃ W1, W1 = (w'.alloc (grpBlk (lastq qs) (.slice la ND lc) 0 0 (Dg.zs 32))).drew := ⟨_, rfl⟩
    rw [← hW1]
    have hb1 : Below w'.heap.size w' W1 := by rw [hW1]; exact ((Below.refl _ _).alloc (Nat.le_refl _) _).drew
    have hq1 : W1.heap[w'.heap.size]? = some (grpBlk (lastq qs) (.slice la ND lc) 0 0 (Dg.zs 32)) := by rw [hW1]; exact heap_alloc_new _ _
    have hz1 : W1.heap.size = w'.heap.size + 1 := by rw [hW1]; show (w'.alloc _).heap.size = _; simp
    obtain ⟨hJ, hF, hdis, ⟨hdl, hwd⟩, hND, hNG⟩ := unhide HJ
    rw [hND] at hq1
    have hjl := hJ.gm.jlt
    have hOl := hJ.gm.lt
    have hJ1 : GM W1 j f nm J O (.slice ga J.G.length gc) (.slice la J.D.length lc) qs := hJ.gm.below hb1
    have hL1 : Recs W1 OL (.slice la J.D.length lc) J.D := hJ.laid.kept (fun _ o => o) (fun q o => hb1.block q (hJ.ltl q o))
    have hA1 := chain_last hJ1.ch
    have HEn := hide (encoded_ok w'.heap.size (lastq qs) (.slice la J.D.length lc) (Dg.zs 32) OL J.D (digs z32 J.G) W1.drew hq1 (by simp) hL1 (fun b o => by have := hJ.ltl b o; show b < W1.heap.size; omega) (fun o => by have := hJ.ltl _ o; omega) hA1 (fun e => by have := hOl _ (chain_last_own hJ1.ch _ e); omega) hdl hwd)
    have hF1 : FsIs W1 f 0 S Of k := hF.kept hb1.size (fun q o => hb1.block q (hF.lt q o))
    obtain ⟨Q0, hQ0⟩ : ∃ Q0, Q0 = w'.heap.size := ⟨_, rfl⟩
    have HLay : Hid (∀ v W2, Rec W2 (fun b => W1.drew.heap.size ≤ b) v (enc (digs z32 J.G) J.D) → Dg.Sole w'.heap.size W1.drew W2 → Calls Tryz.prog 60 #[.pointer (some ⟨j, 0, none⟩), v] W2 fun e W3 => e = .returned (.int .i64 26) ∧ FsIs W3 f 0 S Of k ∧ W3.heap[j]? = some (jnBlk f nm J (.slice ga J.G.length gc) (.slice la J.D.length lc)) ∧ Below w'.heap.size w' W3) := fun v W2 hv hs2 => by
      have hs2z : W1.heap.size ≤ W2.heap.size := hs2.size
      have hb2 : ∀ b, b < W1.heap.size → b ≠ w'.heap.size → W2.heap[b]? = W1.heap[b]? := fun b h1 h2 => hs2.block b h1 h2
      have hF2 : FsIs W2 f 0 S Of k := hF1.kept hs2z (fun q o => hb2 q (hF1.lt q o) (by have := hF.lt q o; omega))
      have hj2 : W2.heap[j]? = some (jnBlk f nm J (.slice ga J.G.length gc) (.slice la J.D.length lc)) := by rw [hb2 j (by omega) (by omega)]; exact hJ1.blk
      have hB2 : Below w'.heap.size w' W2 := ⟨hs2.os.trans hb1.os, hs2.tape.trans hb1.tape, hs2.output.trans hb1.output, by omega, fun b hb => (hb2 b (by omega) (by omega)).trans (hb1.block b hb)⟩
      obtain ⟨va, vc, rfl, _⟩ := hv
      refine (lay_dead j f nm S Of k J _ _ va _ vc W2 hF2 hj2 hp0 hf).mono fun e W3 ⟨e1, h1, h2⟩ => ⟨e1, h1, (h2.block j (by omega)).trans hj2, hB2.trans (h2.mono (by omega))⟩
    have hOfj : ¬ Of j := fun o => (hdis j o).2.2 rfl
    have HFin : Hid (∀ W3, FsIs W3 f 0 S Of k → W3.heap[j]? = some (jnBlk f nm J (.slice ga J.G.length gc) (.slice la J.D.length lc)) → Below w'.heap.size w' W3 → Calls Tryz.prog 62 #[.pointer (some ⟨j, 0, none⟩), .int .i64 26] W3 fun e W4 => e = .returned (.int .i64 26) ∧ (∃ Of, FsIs W4 f 0 S Of k ∧ ¬ Of j ∧ ∀ q, Of q → U q) ∧ (∃ gv lv, W4.heap[j]? = some (jnBlk f nm { J with dead := true } gv lv)) ∧ FFr U U w' W4) := fun W3 h1 h2 h3 => by
      obtain ⟨_, _, _, _, _, _, _, d10, dz⟩ := jn_cells h2
      obtain ⟨u1, u4, u5⟩ := unhide HU
      refine (failed_dead j 26 _ W3 (by decide) d10 (dz 10)).mono fun e W4 ⟨e1, e2⟩ => ⟨e1, ?_⟩
      subst e2
      refine ⟨⟨Of, h1.drew.kept (by rw [size_set]; exact Nat.le_refl _) (fun q o => set_other _ _ _ _ _ (fun e => hOfj (e ▸ o))), hOfj, u1⟩, ?_, ?_⟩
      · refine ⟨.slice ga J.G.length gc, .slice la J.D.length lc, ?_⟩
        unfold jnBlk at h2
        have h2' : W3.drew.heap[j]? = W3.heap[j]? := rfl
        rw [h2] at h2'
        unfold jnBlk
        simp [World.setCell, Array.getElem?_modify, h2']
      · refine ⟨h3.os, h3.tape, h3.output, by rw [size_set]; exact h3.size, fun q p1 p2 => ?_, fun q o => .inl o⟩
        have hqj : q ≠ j := fun e => p2 (e ▸ u4)
        rw [set_other _ _ _ _ _ hqj]
        exact h3.block q p1
    clear hJ hF hND hNG hJ1 hL1 hA1 hF1 hq1 hb1 hW1 hdis HL e6 e8 c6 c7 c8 c10 cz hQ0 hOl hdl hwd
    simp only [Act.put, List.getElem_toArray, List.getElem_cons_zero, List.getElem_cons_succ, List.setIfInBounds_toArray, List.set_cons_zero, List.set_cons_succ]
    go_wp2_with fail
    apply one_way
    case go =>
      intro key
      refine wp_region_noPanic ?_
      go_region_with (first | (go_at_call 61; refine Calls.mono (unhide HEn) ?_; rintro e W2 ⟨v, rfl, hv, hq2, hs2⟩) | (go_at_call 60; refine Calls.mono (unhide HLay v W2 hv hs2) ?_; rintro e W3 ⟨rfl, hP⟩))
      all_goals
        refine NoPanic.normal ?_
        revert W3
        revert W2 v
        exact unhide key
    case all =>
      intro W2 v _ _ _ W3 hP
      have HT := hide (unhide HFin W3 hP.1 hP.2.1 hP.2.2)
      clear hP HFin HLay HEn
      simp only [Act.put, List.getElem_toArray, List.getElem_cons_zero, List.getElem_cons_succ, List.setIfInBounds_toArray, List.set_cons_zero, List.set_cons_succ]
      go_wp2_with fail
      refine (unhide HT).mono ?_
      rintro e W4 ⟨rfl, hE⟩
      have HE := hide hE
      clear hE HT
      go_wp2_with fail
      go_ret
      exact ⟨rfl, unhide HE⟩
end Go.Proofs.YtebcmicmklpflaaGreatDoor
