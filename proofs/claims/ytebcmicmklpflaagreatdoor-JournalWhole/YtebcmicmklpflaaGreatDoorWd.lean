/- Commit and Reset that the fuse breaks off. -/
import Derived.Test.YtebcmicmklpflaaGreatDoorWb
namespace Go.Proofs.YtebcmicmklpflaaGreatDoor
open Go.RowKit Go.Maps
set_option linter.unusedSimpArgs false
set_option maxRecDepth 20000 in
theorem lay_walkA (j : Nat) (a : Option Addr) (n c : Nat) (w : World) (Q : World → Prop) (c3 : w.cell? ⟨j, 3, none⟩ = some (.slice none 0 0)) (c4 : w.cell? ⟨j, 4, none⟩ = some (.bool false)) (z3 : w.frozen? ⟨j, 3, none⟩ = false) (hA : Calls Tryz.prog 105 #[.pointer (some ⟨j, 0, none⟩), .slice a n c] w fun e w' => e = .returned (.int .i64 26) ∧ Q w') :
    Calls Tryz.prog 60 #[.pointer (some ⟨j, 0, none⟩), .slice a n c] w fun e w' => e = .returned (.int .i64 26) ∧ Q w' := by
  have HA := hide hA
  have HM := hide (mend_none j w c3 c4 z3)
  clear hA
  go_enter Tryz.func60, Tryz.ntmps60
  go_wp2_with fail
  refine (unhide HM).mono ?_
  rintro e w0 ⟨rfl, rfl⟩
  go_wp2_with fail
  refine (unhide HA).mono ?_
  rintro e w1 ⟨rfl, hE⟩
  have HE := hide hE
  clear hE
  go_wp2_with fail
  go_ret
  exact ⟨rfl, unhide HE⟩
set_option maxRecDepth 20000 in
theorem lay_walkB (j f : Nat) (a : Option Addr) (n c : Nat) (w : World) (Q : World → Prop) (c3 : w.cell? ⟨j, 3, none⟩ = some (.slice none 0 0)) (c4 : w.cell? ⟨j, 4, none⟩ = some (.bool false)) (z3 : w.frozen? ⟨j, 3, none⟩ = false) (hA : Calls Tryz.prog 105 #[.pointer (some ⟨j, 0, none⟩), .slice a n c] w fun e w1 => e = .returned (.int .i64 0) ∧ w1.cell? ⟨j, 0, none⟩ = some (.pointer (some ⟨f, 0, none⟩)) ∧ Calls Tryz.prog 29 #[.pointer (some ⟨f, 0, none⟩)] w1 fun e w2 => e = .returned (.int .i64 26) ∧ Q w2) :
    Calls Tryz.prog 60 #[.pointer (some ⟨j, 0, none⟩), .slice a n c] w fun e w' => e = .returned (.int .i64 26) ∧ Q w' := by
  have HA := hide hA
  have HM := hide (mend_none j w c3 c4 z3)
  clear hA
  go_enter Tryz.func60, Tryz.ntmps60
  go_wp2_with fail
  refine (unhide HM).mono ?_
  rintro e w0 ⟨rfl, rfl⟩
  go_wp2_with fail
  refine (unhide HA).mono ?_
  rintro e w1 ⟨rfl, d0, hS⟩
  have HS := hide hS
  clear hS HA
  go_wp2_with fail
  refine (unhide HS).mono ?_
  rintro e w2 ⟨rfl, hE⟩
  have HE := hide hE
  clear hE
  go_wp2_with fail
  go_ret
  exact ⟨rfl, unhide HE⟩
/-- lay, broken off. -/
theorem lay_breaks (j f : Nat) (nm : ByteArray) (S : Fs) (Of : Nat → Prop) (k N : Nat) (J : Jn) (gv lv v : Value) (d d0 : List UInt8) (OB : Nat → Prop) (w : World) (h : FsIs w f 0 S Of k) (hj : w.heap[j]? = some (jnBlk f nm J gv lv)) (hOj : ¬ Of j) (hk : k ≤ 15000) (hf : S.fuse = some N) (hN : N < 3 ∧ (J.parts = 1 → N < 2)) (hp : S.pend = []) (hl : S.las = S.now) (ho : ∀ s, s ≠ nm → S.now.N s = none) (hs : 1 ≤ nm.size ∧ nm.size ≤ 300) (hH : HasF S.now nm J.parts d0) (hd : d0.length + d.length ≤ 1048576) (hfit : S.now.u + (d.length : Int) ≤ (S.room : Int)) (hrec : Rec w OB v d) (hdis : ∀ q, OB q → ¬ Of q) :
    Calls Tryz.prog 60 #[.pointer (some ⟨j, 0, none⟩), v] w fun e w' => e = .returned (.int .i64 26) ∧ LayBr j f nm J gv lv d0 (d0 ++ d) Of k w w' := by
  have hrow := hrec.row
  have hdis2 : ∀ a n c, v = .slice a n c → 0 < d.length → ∀ x, a = some x → ¬ Of x.block := fun a n c ev h0 x hx => by
    obtain ⟨a', c', e, _, _, h3⟩ := hrec
    obtain ⟨g, cur, ea, ho, _⟩ := h3 h0
    rw [ev] at e
    injection e with e1 _ _
    rw [← e1, hx] at ea
    injection ea with ea
    rw [ea]
    exact hdis g ho
  obtain ⟨a, c, rfl, _⟩ := hrec
  have hjl : j < w.heap.size := (Array.getElem?_eq_some_iff.1 hj).1
  have hb := hj
  unfold jnBlk at hb
  have c3 : w.cell? ⟨j, 3, none⟩ = some (.slice none 0 0) := by simp [World.cell?, hb]
  have c4 : w.cell? ⟨j, 4, none⟩ = some (.bool false) := by simp [World.cell?, hb]
  have z3 : w.frozen? ⟨j, 3, none⟩ = false := by simp [World.frozen?, hb]
  have hJp : ∀ p, J.parts = p → jnBlk f nm { J with parts := p } gv lv = jnBlk f nm J gv lv := fun p e => by subst e; rfl
  have hu : S.now.u ≤ (S.room : Int) := by omega
  -- a FS that is as it was
  have same : ∀ w', FsIs w' f 0 S Of k → Below w.heap.size w w' → LayBr j f nm J gv lv d0 (d0 ++ d) Of k w w' := fun w' h1 h2 => ⟨S, Of, J.parts, h1.up (by omega), brk_same hp (by rw [hl]; exact ho) (by rw [hl]; exact hH), by rw [hJp _ rfl]; exact (h2.block j hjl).trans hj, (below_ffr h2).plus, hOj⟩
  rcases hH with ⟨hp0, hNn, hd0⟩ | ⟨hp1, i, hA⟩
  · subst hd0
    match N, hN with
    | 0, _ =>
      refine lay_walkA j a _ c w _ c3 c4 z3 ((add_dead j f nm S Of k J gv lv a _ c w h hj hp0 hf).mono fun e w' ⟨e1, h1, h2⟩ => ⟨e1, same w' h1 h2⟩)
    | 1, _ =>
      refine lay_walkA j a _ c w _ c3 c4 z3 ((add_broke1 j f nm S Of k J gv lv a c _ w h hj hOj hp0 hk hf (by rw [hp]; decide) hs hNn hu).mono fun e w' ⟨e1, z, O', hz, h1, h2, h3, h4⟩ => ⟨e1, _, O', 0, h1.up (by omega), ?_, by rw [hJp 0 hp0]; exact h2, h3.plus, h4⟩)
      exact brk_write (S := S) (p := 0) (d0 := []) rfl (by show S.pend ++ [_] = _; rw [hp]; rfl) (by rw [hl]; exact ho) (by rw [hl]; exact .inl ⟨rfl, hNn, rfl⟩) (by rw [hl]; exact hz) rfl (.inl rfl)
    | 2, _ =>
      refine lay_walkB j f a _ c w _ c3 c4 z3 ((add_first j f nm S Of k J gv lv a c d w h hj hOj hp0 hk (fun m e => by rw [hf] at e; injection e with e; omega) (by rw [hp]; decide) hs hNn (by simp at hd; omega) hfit hrow (hdis2 a _ c rfl)).mono fun e w1 ⟨e1, z, O', hz, h1, h2, h3, h4⟩ => ⟨e1, ?_, ?_⟩)
      · unfold jnBlk at h2; simp [World.cell?, h2]
      · refine (sync_dead f _ O' (k + 6) w1 h1 (by show (S.fuse.map Nat.pred).map Nat.pred = some 0; rw [hf]; rfl)).mono fun e w2 ⟨e2, h5, h6⟩ => ⟨e2, _, O', 1, h5, ?_, (h6.block j (Nat.lt_of_lt_of_le hjl h3.size)).trans h2, h3.trans (below_ffr h6).plus, h4⟩
        obtain ⟨a1, _, _⟩ := Alone.new hNn hz []
        have hpd : ((S.done (S.now.write nm [] z) (.write nm [] z)).done ((S.now.write nm [] z).put z ((S.now.write nm [] z).D z ++ d)) (.fill nm ((S.now.write nm [] z).D z ++ d))).pend = [.write nm [] z, .fill nm d] := by
          show (S.pend ++ [_]) ++ [_] = _
          rw [hp, a1.D]; rfl
        rw [List.nil_append]
        exact brk_two (S := S) rfl hpd (by rw [hl]; exact ho) (by rw [hl]; exact hNn) (by rw [hl]; exact hz)
    | n + 3, hN => exact absurd hN.1 (by omega)
  · match N, hN with
    | 0, _ =>
      refine lay_walkA j a _ c w _ c3 c4 z3 ((add_dead1 j f nm S Of k J gv lv a _ c w h hj hp1 hf).mono fun e w' ⟨e1, h1, h2⟩ => ⟨e1, same w' h1 h2⟩)
    | 1, _ =>
      refine lay_walkB j f a _ c w _ c3 c4 z3 ((add_more j f nm S Of k i J gv lv a c d w.heap.size w h hj hOj hp1 (by omega) (by rw [hf]; simp) (by rw [hp]; decide) hs hA.N (by rw [hA.D]; exact hd) hfit hrow).mono fun e w1 ⟨e1, O', h1, h3⟩ => ⟨e1, ?_, ?_⟩)
      · have h2 := (h3.rest j hjl hOj).trans hj
        unfold jnBlk at h2; simp [World.cell?, h2]
      · refine (sync_dead f _ O' (k + 3) w1 h1 (by show S.fuse.map Nat.pred = some 0; rw [hf]; rfl)).mono fun e w2 ⟨e2, h5, h6⟩ => ⟨e2, _, O', 1, h5.up (by omega), ?_, by rw [hJp 1 hp1]; exact (h6.block j (Nat.lt_of_lt_of_le hjl h3.size)).trans ((h3.rest j hjl hOj).trans hj), (h3.trans (below_ffr h6)).plus, h3.not hOj hjl⟩
        have hpd : (S.done (S.now.put i (S.now.D i ++ d)) (.fill nm (S.now.D i ++ d))).pend = [.fill nm (d0 ++ d)] := by
          show S.pend ++ [_] = _
          rw [hp, hA.D]; rfl
        exact brk_fill (S := S) rfl hpd (by rw [hl]; exact ho) (by rw [hl]; exact hA)
    | n + 2, hN => exact absurd (hN.2 hp1) (by omega)
set_option maxRecDepth 20000 in
set_option maxHeartbeats 2000000 in
theorem commit_breaks (w : World) (f j : Nat) (nm : ByteArray) (S : Fs) (J : Jn) (U : Nat → Prop) (k : Nat) (h : JS w f j nm S J U k) (hlay : ∀ (Of : Nat → Prop) (gv lv v : Value) (W : World) (OB : Nat → Prop), FsIs W f 0 S Of k → W.heap[j]? = some (jnBlk f nm J gv lv) → ¬ Of j → Rec W OB v (enc (digs z32 J.G) J.D) → (∀ q, OB q → ¬ Of q) → Calls Tryz.prog 60 #[.pointer (some ⟨j, 0, none⟩), v] W fun e W' => e = .returned (.int .i64 26) ∧ LayBr j f nm J gv lv (encs z32 J.G) (encs z32 (J.G ++ [J.D])) Of k W W') (hal : J.dead = false) (hne : J.D ≠ []) (hg : J.G.length ≤ 10000) (hdl : J.D.length ≤ 100000) (hwd : wt J.D ≤ 10000000) (hwg : wts J.G < 524288) :
    Calls Tryz.prog 24 #[.pointer (some ⟨j, 0, none⟩)] w fun e w' => e = .returned (.int .i64 26) ∧ ∃ S' O', FsIs w' f 0 S' O' (k + 6) ∧ Brk S' nm (encs z32 J.G) (encs z32 (J.G ++ [J.D])) ∧ FFr U (fun q => U q ∨ O' q) w w' := by
  obtain ⟨Of, O, OL, gv, lv, qs, hF, hJ, hdis, u1, u2, u3, u4, u5⟩ := h
  obtain ⟨c0, c1, c2, c6, c7, c8, c9, c10, cz⟩ := jn_cells hJ.gm.blk
  rw [hal] at c10
  have HR := hide (refusal_ok j w c10)
  have hql := hJ.gm.ch.len
  have HL := hide (last_ok gv qs w.drew (by rw [hql]; exact hJ.gm.row) (by rw [hql]; omega))
  obtain ⟨la, lc, el⟩ := hJ.laid.shape
  obtain ⟨ga, gc, eg⟩ := hJ.gm.shapes
  have hD0 : ¬ ((J.D.length : Int) = 0) := by have := List.length_pos_iff.2 hne; omega
  obtain ⟨WG, hWG⟩ : ∃ WG : Int, WG = (wts J.G : Int) := ⟨_, rfl⟩
  have hW : WG < 524288 := by omega
  rw [← hWG] at c7
  have HWG := hide hWG
  clear hWG
  go_enter Tryz.func24, Tryz.ntmps24
  go_wp2_with fail
  refine (unhide HR).mono ?_
  rintro e w' ⟨rfl, rfl⟩
  subst el eg
  obtain ⟨ND, hND⟩ : ∃ ND, ND = J.D.length := ⟨_, rfl⟩
  obtain ⟨NG, hNG⟩ : ∃ NG, NG = J.G.length := ⟨_, rfl⟩
  rw [← hND] at c8 hD0
  rw [← hNG] at c6 HL
  have HJ := hide (And.intro hJ (And.intro hF (And.intro hdis (And.intro (And.intro hdl hwd) (And.intro hND hNG)))))
  have HU := hide (And.intro u1 (And.intro u4 u5))
  clear hJ hF hql hND hNG hdis c0 c1 c2 c9 u1 u2 u3 u4 u5 hg hdl hwd hwg hne
  have e8 : w'.drew.cell? ⟨j, 8, none⟩ = some (.slice la ND lc) := c8
  have e6 : w'.drew.cell? ⟨j, 6, none⟩ = some (.slice ga NG gc) := c6
  go_wp2_with fail
  apply one_way
  case go =>
    intro key
    refine wp_region_noPanic ?_
    go_region_with ((go_at_call 59; refine Calls.mono (unhide HL) ?_; rintro e w5 ⟨rfl, rfl⟩))
    all_goals
      refine NoPanic.normal ?_
      exact unhide key
  case all =>
    change Exit.then _ _ _ _ (w'.alloc (grpBlk (lastq qs) (.slice la ND lc) 0 0 (Dg.zs 32))).drew
    obtain ⟨W1, hW1⟩ : ∃ W1, W1 = (w'.alloc (grpBlk (lastq qs) (.slice la ND lc) 0 0 (Dg.zs 32))).drew := ⟨_, rfl⟩
    rw [← hW1]
    have hb1 : Below w'.heap.size w' W1 := by rw [hW1]; exact ((Below.refl _ _).alloc (Nat.le_refl _) _).drew
    have hq1 : W1.heap[w'.heap.size]? = some (grpBlk (lastq qs) (.slice la ND lc) 0 0 (Dg.zs 32)) := by rw [hW1]; exact heap_alloc_new _ _
    have hz1 : W1.heap.size = w'.heap.size + 1 := by rw [hW1]; show (w'.alloc _).heap.size = _; simp
    obtain ⟨hJ, hF, hdis, ⟨hdl, hwd⟩, hND, hNG⟩ := unhide HJ
    rw [hND] at hq1
    have hjl := hJ.gm.jlt
    have hOl := hJ.gm.lt
    have hJ1 : GM W1 j f nm J O (.slice ga J.G.length gc) (.slice la J.D.length lc) qs := hJ.gm.below hb1
    have hL1 : Recs W1 OL (.slice la J.D.length lc) J.D := hJ.laid.kept (fun _ o => o) (fun q o => hb1.block q (hJ.ltl q o))
    have hA1 := chain_last hJ1.ch
    have HEn := hide (encoded_ok w'.heap.size (lastq qs) (.slice la J.D.length lc) (Dg.zs 32) OL J.D (digs z32 J.G) W1.drew hq1 (by simp) hL1 (fun b o => by have := hJ.ltl b o; show b < W1.heap.size; omega) (fun o => by have := hJ.ltl _ o; omega) hA1 (fun e => by have := hOl _ (chain_last_own hJ1.ch _ e); omega) hdl hwd)
    have hF1 : FsIs W1 f 0 S Of k := hF.kept hb1.size (fun q o => hb1.block q (hF.lt q o))
    obtain ⟨Q0, hQ0⟩ : ∃ Q0, Q0 = w'.heap.size := ⟨_, rfl⟩
    have hOfj : ¬ Of j := fun o => (hdis j o).2.2 rfl
    have HLay : Hid (∀ v W2, Rec W2 (fun b => W1.drew.heap.size ≤ b) v (enc (digs z32 J.G) J.D) → Dg.Sole w'.heap.size W1.drew W2 → Calls Tryz.prog 60 #[.pointer (some ⟨j, 0, none⟩), v] W2 fun e W3 => e = .returned (.int .i64 26) ∧ ∃ S' O' p', FsIs W3 f 0 S' O' (k + 6) ∧ Brk S' nm (encs z32 J.G) (encs z32 (J.G ++ [J.D])) ∧ W3.heap[j]? = some (jnBlk f nm { J with parts := p' } (.slice ga J.G.length gc) (.slice la J.D.length lc)) ∧ ¬ O' j ∧ FFr U (fun q => U q ∨ O' q) w' W3) := fun v W2 hv hs2 => by
      have hs2z : W1.heap.size ≤ W2.heap.size := hs2.size
      have hb2 : ∀ b, b < W1.heap.size → b ≠ w'.heap.size → W2.heap[b]? = W1.heap[b]? := fun b h1 h2 => hs2.block b h1 h2
      have hF2 : FsIs W2 f 0 S Of k := hF1.kept hs2z (fun q o => hb2 q (hF1.lt q o) (by have := hF.lt q o; omega))
      have hj2 : W2.heap[j]? = some (jnBlk f nm J (.slice ga J.G.length gc) (.slice la J.D.length lc)) := by rw [hb2 j (by omega) (by omega)]; exact hJ1.blk
      have hB2 : Below w'.heap.size w' W2 := ⟨hs2.os.trans hb1.os, hs2.tape.trans hb1.tape, hs2.output.trans hb1.output, by omega, fun b hb => (hb2 b (by omega) (by omega)).trans (hb1.block b hb)⟩
      obtain ⟨u1, u4, u5⟩ := unhide HU
      refine (hlay Of _ _ v W2 _ hF2 hj2 hOfj hv (fun q o o2 => by have h1 : W1.heap.size ≤ q := o; have := hF.lt q o2; omega)).mono fun e W3 ⟨e1, S', O', p', h1, h2, h3, h4, h5⟩ => ⟨e1, S', O', p', h1, h2, h3, h5, ?_⟩
      refine ⟨h4.os.trans hB2.os, h4.tape.trans hB2.tape, h4.output.trans hB2.output, Nat.le_trans hB2.size h4.size, fun q p1 p2 => ?_, fun q o => ?_⟩
      · rw [h4.rest q (by have := hB2.size; omega) (fun o => o.elim (fun o => p2 (u1 q o)) (fun e => p2 (by rw [e]; exact u4)))]
        exact hB2.block q p1
      · rcases o with o | o
        · exact .inl o
        · rcases h4.new q (.inl o) with (o2 | o2) | o2
          · exact .inl (u1 q o2)
          · exact absurd (o2 ▸ o) h5
          · exact .inr (by have := hB2.size; omega)
    have HFin : Hid (∀ W3, (∃ S' O' p', FsIs W3 f 0 S' O' (k + 6) ∧ Brk S' nm (encs z32 J.G) (encs z32 (J.G ++ [J.D])) ∧ W3.heap[j]? = some (jnBlk f nm { J with parts := p' } (.slice ga J.G.length gc) (.slice la J.D.length lc)) ∧ ¬ O' j ∧ FFr U (fun q => U q ∨ O' q) w' W3) → Calls Tryz.prog 62 #[.pointer (some ⟨j, 0, none⟩), .int .i64 26] W3 fun e W4 => e = .returned (.int .i64 26) ∧ ∃ S' O', FsIs W4 f 0 S' O' (k + 6) ∧ Brk S' nm (encs z32 J.G) (encs z32 (J.G ++ [J.D])) ∧ FFr U (fun q => U q ∨ O' q) w' W4) := fun W3 ⟨S', O', p', h1, h2, h3, h4, h5⟩ => by
      obtain ⟨_, _, _, _, _, _, _, d10, dz⟩ := jn_cells h3
      obtain ⟨u1, u4, u5⟩ := unhide HU
      refine (failed_dead j 26 _ W3 (by decide) d10 (dz 10)).mono fun e W4 ⟨e1, e2⟩ => ⟨e1, S', O', ?_⟩
      subst e2
      refine ⟨h1.drew.kept (by rw [size_set]; exact Nat.le_refl _) (fun q o => set_other _ _ _ _ _ (fun e => h4 (e ▸ o))), h2, ?_⟩
      refine ⟨h5.os, h5.tape, h5.output, by rw [size_set]; exact h5.size, fun q p1 p2 => ?_, h5.new⟩
      have hqj : q ≠ j := fun e => p2 (e ▸ u4)
      rw [set_other _ _ _ _ _ hqj]
      exact h5.rest q p1 p2
    clear hJ hF hND hNG hJ1 hL1 hA1 hF1 hq1 hb1 hW1 hdis HL e6 e8 c6 c7 c8 c10 cz hQ0 hOl hdl hwd
    simp only [Act.put, List.getElem_toArray, List.getElem_cons_zero, List.getElem_cons_succ, List.setIfInBounds_toArray, List.set_cons_zero, List.set_cons_succ]
    go_wp2_with fail
    apply one_way
    case go =>
      intro key
      refine wp_region_noPanic ?_
      go_region_with (first | (go_at_call 61; refine Calls.mono (unhide HEn) ?_; rintro e W2 ⟨v, rfl, hv, hq2, hs2⟩) | (go_at_call 60; refine Calls.mono (unhide HLay v W2 hv hs2) ?_; rintro e W3 ⟨rfl, hP⟩))
      all_goals
        refine NoPanic.normal ?_
        revert W3
        revert W2 v
        exact unhide key
    case all =>
      intro W2 v _ _ _ W3 hP
      have HT := hide (unhide HFin W3 hP)
      clear hP HFin HLay HEn
      simp only [Act.put, List.getElem_toArray, List.getElem_cons_zero, List.getElem_cons_succ, List.setIfInBounds_toArray, List.set_cons_zero, List.set_cons_succ]
      go_wp2_with fail
      refine (unhide HT).mono ?_
      rintro e W4 ⟨rfl, hE⟩
      have HE := hide hE
      clear hE HT
      go_wp2_with fail
      go_ret
      exact ⟨rfl, unhide HE⟩
end Go.Proofs.YtebcmicmklpflaaGreatDoor
