/- Add: a record is laid down. -/
import Derived.Test.YtebcmicmklpflaaGreatDoorRe
namespace Go.Proofs.YtebcmicmklpflaaGreatDoor
open Go.RowKit Go.Maps
set_option linter.unusedSimpArgs false
/-- A record joins a row of records. -/
theorem Recs.grown {w w1 w3 : World} {OL : Nat → Prop} {lv lv' x : Value} {ds : List (List UInt8)} {vals : List Value} {d : List UInt8} (h1 : w.ownsRow 0 39 1 lv ds.length vals) (h2 : ∀ q, lv.ownBlock = some q → OL q) (h3 : ∀ (j : Nat) (x : Value) (d : List UInt8), vals[j]? = some x → ds[j]? = some d → Rec w OL x d) (hl : ∀ q, OL q → q < w.heap.size) (hb : Below w.heap.size w w1) (hx : Rec w1 (fun b => w.heap.size ≤ b ∧ b < w1.heap.size) x d) (hg : Grew w1 39 lv ds.length vals x lv' w3) : Recs w3 (more OL w w3) lv' (ds ++ [d]) := by
  have hz1 := hb.size
  have hz3 := hg.gr.size
  refine ⟨vals ++ [x], ?_, fun q e => ?_, fun j y e2 hj hd => ?_⟩
  · rw [List.length_append, List.length_singleton]; exact hg.row
  · rcases hg.loc with e3 | ⟨b', e3, h4⟩
    · rw [e3] at e; exact .inl (h2 q e)
    · rw [e3] at e; injection e with e
      subst e
      obtain ⟨cur, hc⟩ := row_tag hg.row b' e3
      exact .inr ⟨by omega, (Array.getElem?_eq_some_iff.1 hc).1⟩
  · have hvl : vals.length = ds.length := by rw [h1.1, Nat.mul_one]
    have htag : ∀ b cur, w1.heap[b]? = some (.cells cur 5 (0, 0)) → b < w1.heap.size → w3.heap[b]? = w1.heap[b]? := fun b cur hc hb' => hg.gr.block b hb' (fun e => by
      obtain ⟨cur2, hc2⟩ := row_tag h1 b e.symm
      rw [hb.block b (Array.getElem?_eq_some_iff.1 hc2).1, hc2] at hc
      injection hc with hc
      injection hc with _ hc
      exact absurd hc (by decide))
    by_cases hlt : j < vals.length
    · rw [List.getElem?_append_left hlt] at hj
      rw [List.getElem?_append_left (by omega)] at hd
      obtain ⟨a, c, e, p1, p2, p3⟩ := h3 j y e2 hj hd
      refine ⟨a, c, e, p1, p2, fun h0 => ?_⟩
      obtain ⟨g, cur, ea, ho, hg', hp⟩ := p3 h0
      have hgl := hl g ho
      have hg1 : w1.heap[g]? = some (.cells cur 5 (0, 0)) := by rw [hb.block g hgl]; exact hg'
      exact ⟨g, cur, ea, .inl ho, (htag g cur hg1 (by omega)).trans hg1, hp⟩
    · have ej : j = vals.length := by
        have := (List.getElem?_eq_some_iff.1 hj).1
        simp at this; omega
      subst ej
      rw [List.getElem?_append_right (Nat.le_refl _)] at hj
      rw [hvl, List.getElem?_append_right (Nat.le_refl _)] at hd
      simp at hj hd
      subst hj hd
      obtain ⟨a, c, e, p1, p2, p3⟩ := hx
      refine ⟨a, c, e, p1, p2, fun h0 => ?_⟩
      obtain ⟨g, cur, ea, ho, hg', hp⟩ := p3 h0
      exact ⟨g, cur, ea, .inr ⟨ho.1, by omega⟩, (htag g cur hg' ho.2).trans hg', hp⟩
def Jn.add (J : Jn) (d : List UInt8) : Jn := ⟨J.G, J.D ++ [d], J.parts, J.dead⟩
theorem jn_add {w : World} {j f : Nat} {nm : ByteArray} {J : Jn} {gv lv lv' : Value} (h : w.heap[j]? = some (jnBlk f nm J gv lv)) (d : List UInt8) : ((w.setCell ⟨j, 8, none⟩ lv').setCell ⟨j, 9, none⟩ (.int .i64 ((wt J.D : Int) + (d.length : Int)))).heap[j]? = some (jnBlk f nm (J.add d) gv lv') := by
  unfold jnBlk Jn.add at *
  simp only [wt_append]
  simp [World.setCell, Array.getElem?_modify, h, wt]
set_option maxRecDepth 20000 in
set_option maxHeartbeats 2000000 in
theorem add_rec (w : World) (f j : Nat) (nm : ByteArray) (S : Fs) (J : Jn) (U : Nat → Prop) (k : Nat) (a : Option Addr) (c : Nat) (d : List UInt8) (h : JS w f j nm S J U k) (hal : J.dead = false) (hrow : Row w.heap.size w (.slice a d.length c) d) (hw : wt J.D + d.length ≤ 524288) (hn : J.D.length < 4096) :
    Calls Tryz.prog 22 #[.pointer (some ⟨j, 0, none⟩), .slice a d.length c] w fun e w' => e = .returned (.int .i64 0) ∧ ∃ U', JS w' f j nm S (J.add d) U' k ∧ FFr U U' w w' := by
  obtain ⟨Of, O, OL, gv, lv, qs, hF, hJ, hdis, u1, u2, u3, u4, u5⟩ := h
  obtain ⟨c0, c1, c2, c6, c7, c8, c9, c10, cz⟩ := jn_cells hJ.gm.blk
  rw [hal] at c10
  have HR := hide (refusal_ok j w c10)
  obtain ⟨la, lc, el⟩ := hJ.laid.shape
  obtain ⟨WD, hWD⟩ : ∃ WD : Int, WD = (wt J.D : Int) := ⟨_, rfl⟩
  obtain ⟨ND, hND⟩ : ∃ ND : Int, ND = (J.D.length : Int) := ⟨_, rfl⟩
  have hNDb : ND < 4096 := by omega
  have hND2 : ¬ (ND = 4096) := by omega
  obtain ⟨L, hL⟩ : ∃ L, L = d.length := ⟨_, rfl⟩
  have hLb : (L : Int) + WD ≤ 524288 := by omega
  have hL0 : 0 ≤ WD := by omega
  have HCl := hide (bclone_new w.heap.size a d.length c d w.drew hrow rfl (Nat.le_refl _) (by omega))
  -- behind the clone
  have HG : Hid (∀ x L0 W1, NewData w.heap.size L0 x d → Below w.heap.size w W1 → (∀ p ∈ L0, W1.heap[p.1]? = some p.2) → ∃ lv' W3, (∀ ty, (appL ty #[lv, .slice (some ⟨W1.heap.size, 0, none⟩) 1 1]).run Tryz.prog (W1.alloc (.cells #[x] 39)) = .ok lv' W3) ∧ (∃ a' c', lv' = .slice a' (J.D.length + 1) c') ∧ W3.cell? ⟨j, 8, none⟩ = some lv ∧ W3.cell? ⟨j, 9, none⟩ = some (.int .i64 (wt J.D : Int)) ∧ (∀ i, W3.frozen? ⟨j, i, none⟩ = false) ∧ ∃ U', JS ((W3.setCell ⟨j, 8, none⟩ lv').setCell ⟨j, 9, none⟩ (.int .i64 ((wt J.D : Int) + (d.length : Int)))) f j nm S (J.add d) U' k ∧ FFr U U' w ((W3.setCell ⟨j, 8, none⟩ lv').setCell ⟨j, 9, none⟩ (.int .i64 ((wt J.D : Int) + (d.length : Int))))) := by
    intro x L0 W1 hnd hb hL
    obtain ⟨vals, h1, h2, h3⟩ := hJ.laid
    have hz1 := hb.size
    have hx : Rec W1 (fun b => w.heap.size ≤ b ∧ b < W1.heap.size) x d := Rec.new hnd hL (fun p hp => by
      have h4 := hL p hp
      rcases hnd with ⟨rfl, _⟩ | ⟨g, cap, cur, rfl, _, hlo, _⟩
      · cases hp
      · have := List.mem_singleton.1 hp
        subst this
        exact ⟨hlo, (Array.getElem?_eq_some_iff.1 h4).1⟩)
    have hx1 : x.oneCell' = true := by obtain ⟨_, _, e, _⟩ := hx; rw [e]; rfl
    have h1' : W1.ownsRow 0 39 1 lv J.D.length vals := ownsRow_kept h1 (fun q e => hb.block q (hJ.ltl q (h2 q e)))
    obtain ⟨lv', W3, hr, hg⟩ := rec_grow h1' (by omega) x hx1
    have hjl := hJ.gm.jlt
    have hlvj : lv.ownBlock ≠ some j := fun e => hJ.nl (h2 j e)
    have hz3 := hg.gr.size
    have hold : ∀ b, b < w.heap.size → ¬ OL b → W3.heap[b]? = w.heap[b]? := fun b h4 h5 => by
      rw [hg.gr.block b (by omega) (fun e => h5 (h2 b e.symm)), hb.block b h4]
    have hj3 : W3.heap[j]? = some (jnBlk f nm J gv lv) := by rw [hold j hjl hJ.nl]; exact hJ.gm.blk
    obtain ⟨_, _, _, _, _, d8, d9, _, dz⟩ := jn_cells hj3
    have hrec := Recs.grown h1 h2 h3 hJ.ltl hb hx hg
    have hset : ∀ b, b ≠ j → ((W3.setCell ⟨j, 8, none⟩ lv').setCell ⟨j, 9, none⟩ (.int .i64 ((wt J.D : Int) + (d.length : Int)))).heap[b]? = W3.heap[b]? := fun b hb => by rw [set_other _ _ _ _ _ hb, set_other _ _ _ _ _ hb]
    refine ⟨lv', W3, hr, hg.shp, d8, d9, dz, fun q => U q ∨ (w.heap.size ≤ q ∧ q < W3.heap.size), ?_, ?_⟩
    · refine ⟨Of, O, more OL w W3, gv, lv', qs, ?_, ⟨?_, ?_, ?_, ?_, ?_⟩, ?_, fun q o => .inl (u1 q o), fun q o => .inl (u2 q o), fun q o => o.imp (u3 q) id, .inl u4, ?_⟩
      · exact hF.kept (by simp only [size_set]; omega) (fun q o => by rw [hset q (hdis q o).2.2, hold q (hF.lt q o) (hdis q o).2.1])
      · exact hJ.gm.re (by simp only [size_set]; omega) (jn_add hj3 d) rfl (fun q o => by rw [hset q (fun e => hJ.gm.nj (e ▸ o)), hold q (hJ.gm.lt q o) (hJ.dis q o)])
      · exact hrec.kept (fun _ o => o) (fun q o => hset q (fun e => by
          rcases o with o | o
          · exact hJ.nl (e ▸ o)
          · omega))
      · rintro q o (o2 | o2)
        · exact hJ.dis q o o2
        · have := hJ.gm.lt q o; omega
      · rintro (o | o)
        · exact hJ.nl o
        · omega
      · rintro q (o | o)
        · have := hJ.ltl q o; simp only [size_set]; omega
        · simp only [size_set]; exact o.2
      · intro q o
        refine ⟨(hdis q o).1, ?_, (hdis q o).2.2⟩
        rintro (o2 | o2)
        · exact (hdis q o).2.1 o2
        · have := hF.lt q o; omega
      · simp only [size_set]
        rintro q (o | o)
        · have := u5 q o; omega
        · exact o.2
    · refine ⟨hg.gr.os.trans hb.os, hg.gr.tape.trans hb.tape, hg.gr.output.trans hb.output, by simp only [size_set]; omega, fun q p1 p2 => ?_, fun q o => o.imp id (fun o => o.1)⟩
      have hj : q ≠ j := fun e => p2 (e ▸ u4)
      rw [hset q hj, hold q p1 (fun o => p2 (u3 q o))]
  have hjl := hJ.gm.jlt
  have HClD : Hid (Calls Tryz.prog 57 #[.slice a d.length c] w.drew fun e W1 => ∃ a' c' la' lc' W3, e = .returned (.slice a' d.length c') ∧ W1.cell? ⟨j, 8, none⟩ = some lv ∧ j < W1.heap.size ∧ (∀ ty, (appL ty #[lv, .slice (some ⟨W1.heap.size, 0, none⟩) 1 1]).run Tryz.prog (W1.alloc (.cells #[.slice a' d.length c'] 39)) = .ok (.slice la' (J.D.length + 1) lc') W3) ∧ W3.cell? ⟨j, 8, none⟩ = some lv ∧ W3.cell? ⟨j, 9, none⟩ = some (.int .i64 (wt J.D : Int)) ∧ (∀ i, W3.frozen? ⟨j, i, none⟩ = false) ∧ Hid (∃ U', JS ((W3.setCell ⟨j, 8, none⟩ (.slice la' (J.D.length + 1) lc')).setCell ⟨j, 9, none⟩ (.int .i64 ((wt J.D : Int) + (d.length : Int)))) f j nm S (J.add d) U' k ∧ FFr U U' w ((W3.setCell ⟨j, 8, none⟩ (.slice la' (J.D.length + 1) lc')).setCell ⟨j, 9, none⟩ (.int .i64 ((wt J.D : Int) + (d.length : Int)))))) := by
    refine (unhide HCl).mono fun e W1 ⟨a', c', L0, e1, h1, h2, h3⟩ => ?_
    have hb : Below w.heap.size w W1 := ⟨h2.os, h2.tape, h2.output, h2.size, h2.block⟩
    obtain ⟨lv', W3, hr, ⟨x, y, rfl⟩, p8, p9, pz, hE⟩ := unhide HG _ L0 W1 h1 hb h3
    exact ⟨a', c', x, y, W3, e1, by rw [hb.cell (p := ⟨j, 8, none⟩) hjl]; exact c8, Nat.lt_of_lt_of_le hjl hb.size, hr, p8, p9, pz, hE⟩
  rw [← hWD] at c9 HClD
  rw [← hL] at HClD ⊢
  have hL2 : ¬ (524288 - WD < (L : Int)) := by omega
  clear hJ hF hdis u1 u2 u3 u4 u5 hrow c0 c1 c2 c6 c7 c10 hw hn HG HCl
  subst el
  generalize hNN : J.D.length = NN at *
  have hNN4 : ¬ ((NN : Int) = 4096) := by omega
  have hwr : IntKind.i64.wrap (WD + (L : Int)) = WD + (L : Int) := IntWalk.i64_in _ (by omega)
  clear hWD hL hNN hND hNDb hND2 hLb hal
  have e8 : w.drew.cell? ⟨j, 8, none⟩ = some (.slice la NN lc) := c8
  have hB1 : decide (524288 - WD < (L : Int)) = false := decide_eq_false hL2
  have hB2 : ((NN : Int) == 4096) = false := by rw [beq_eq_false_iff_ne]; exact hNN4
  have hWb : WD ≤ 524288 := by omega
  have hw0 : IntKind.i64.wrap (524288 - WD) = 524288 - WD := IntWalk.i64_in _ (by omega)
  clear hL2 hNN4
  go_enter Tryz.func22, Tryz.ntmps22
  go_wp2_with fail
  refine (unhide HR).mono ?_
  rintro e w' ⟨rfl, rfl⟩
  go_wp2_with fail
  refine wp_region_noPanic ?_
  go_region_law (go_simp; refine (unhide HClD).mono ?_; rintro e W1 ⟨a', c', la', lc', W3, rfl, k1, k2, k3, k4, k5, k6, HE⟩; have k7 := k6 8; simp only [])
  all_goals
    refine NoPanic.normal ?_
    have k9 : (W3.setCell ⟨j, 8, none⟩ (.slice la' (NN + 1) lc')).cell? ⟨j, 9, none⟩ = some (.int .i64 WD) := by rw [World.cell?_setCell_other _ ⟨j, 8, none⟩ ⟨j, 9, none⟩ _ (by simp)]; exact k5
    have k10 : (W3.setCell ⟨j, 8, none⟩ (.slice la' (NN + 1) lc')).frozen? ⟨j, 9, none⟩ = false := by rw [World.frozen?_setCell]; exact k6 9
    clear k1 k2 k3 k4 k5 k6 k7
    go_wp2_with fail
    go_ret
    exact ⟨rfl, unhide HE⟩
end Go.Proofs.YtebcmicmklpflaaGreatDoor
