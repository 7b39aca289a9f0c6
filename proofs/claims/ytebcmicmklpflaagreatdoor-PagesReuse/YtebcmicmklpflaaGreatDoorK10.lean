import Derived.Test.YtebcmicmklpflaaGreatDoorK9
import Derived.Test.YtebcmicmklpflaaGreatDoorK3
import Derived.Ground.SlgmProg
import Derived.Shelf.Strings.Prefix
import Derived.Shelf.SortM.Plain
import Derived.Shelf.SortM.SortNone
import Derived.Lib.OwnBridge
import Derived.Test.YtebcmicmklpflaaGreatDoorK7
/- Add: a record is laid down. -/
namespace Go.Proofs.YtebcmicmklpflaaGreatDoor
open Go.RowKit Go.Maps
set_option linter.unusedSimpArgs false
/-- A record joins a row of records. -/
theorem Recs.grown {w w1 w3 : World} {OL : Nat → Prop} {lv lv' x : Value} {ds : List (List UInt8)} {vals : List Value} {d : List UInt8} (h1 : w.ownsRow 0 39 1 lv ds.length vals) (h2 : ∀ q, lv.ownBlock = some q → OL q) (h3 : ∀ (j : Nat) (x : Value) (d : List UInt8), vals[j]? = some x → ds[j]? = some d → Rec w OL x d) (hl : ∀ q, OL q → q < w.heap.size) (hb : Below w.heap.size w w1) (hx : Rec w1 (fun b => w.heap.size ≤ b ∧ b < w1.heap.size) x d) (hg : Grew w1 39 lv ds.length vals x lv' w3) : Recs w3 (more OL w w3) lv' (ds ++ [d]) := by
  have hz1 := hb.size
  have hz3 := hg.gr.size
  refine ⟨vals ++ [x], ?_, fun q e => ?_, fun j y e2 hj hd => ?_⟩
  · rw [List.length_append, List.length_singleton]; exact hg.row
  · rcases hg.loc with e3 | ⟨b', e3, h4⟩
    · rw [e3] at e; exact .inl (h2 q e)
    · rw [e3] at e; injection e with e
      subst e
      obtain ⟨cur, hc⟩ := row_tag hg.row b' e3
      exact .inr ⟨by omega, (Array.getElem?_eq_some_iff.1 hc).1⟩
  · have hvl : vals.length = ds.length := by rw [h1.1, Nat.mul_one]
    have htag : ∀ b cur, w1.heap[b]? = some (.cells cur 5 (0, 0)) → b < w1.heap.size → w3.heap[b]? = w1.heap[b]? := fun b cur hc hb' => hg.gr.block b hb' (fun e => by
      obtain ⟨cur2, hc2⟩ := row_tag h1 b e.symm
      rw [hb.block b (Array.getElem?_eq_some_iff.1 hc2).1, hc2] at hc
      injection hc with hc
      injection hc with _ hc
      exact absurd hc (by decide))
    by_cases hlt : j < vals.length
    · rw [List.getElem?_append_left hlt] at hj
      rw [List.getElem?_append_left (by omega)] at hd
      obtain ⟨a, c, e, p1, p2, p3⟩ := h3 j y e2 hj hd
      refine ⟨a, c, e, p1, p2, fun h0 => ?_⟩
      obtain ⟨g, cur, ea, ho, hg', hp⟩ := p3 h0
      have hgl := hl g ho
      have hg1 : w1.heap[g]? = some (.cells cur 5 (0, 0)) := by rw [hb.block g hgl]; exact hg'
      exact ⟨g, cur, ea, .inl ho, (htag g cur hg1 (by omega)).trans hg1, hp⟩
    · have ej : j = vals.length := by
        have := (List.getElem?_eq_some_iff.1 hj).1
        simp at this; omega
      subst ej
      rw [List.getElem?_append_right (Nat.le_refl _)] at hj
      rw [hvl, List.getElem?_append_right (Nat.le_refl _)] at hd
      simp at hj hd
      subst hj hd
      obtain ⟨a, c, e, p1, p2, p3⟩ := hx
      refine ⟨a, c, e, p1, p2, fun h0 => ?_⟩
      obtain ⟨g, cur, ea, ho, hg', hp⟩ := p3 h0
      exact ⟨g, cur, ea, .inr ⟨ho.1, by omega⟩, (htag g cur hg' ho.2).trans hg', hp⟩
def Jn.add (J : Jn) (d : List UInt8) : Jn := ⟨J.G, J.D ++ [d], J.parts, J.dead⟩
theorem jn_add {w : World} {j f : Nat} {nm : ByteArray} {J : Jn} {gv lv lv' : Value} (h : w.heap[j]? = some (jnBlk f nm J gv lv)) (d : List UInt8) : ((w.setCell ⟨j, 8, none⟩ lv').setCell ⟨j, 9, none⟩ (.int .i64 ((wt J.D : Int) + (d.length : Int)))).heap[j]? = some (jnBlk f nm (J.add d) gv lv') := by
  unfold jnBlk Jn.add at *
  simp only [wt_append]
  simp [World.setCell, Array.getElem?_modify, h, wt]
set_option maxRecDepth 20000 in
set_option maxHeartbeats 2000000 in
theorem add_rec (w : World) (f j : Nat) (nm : ByteArray) (S : Fs) (J : Jn) (U : Nat → Prop) (k : Nat) (a : Option Addr) (c : Nat) (d : List UInt8) (h : JS w f j nm S J U k) (hal : J.dead = false) (hrow : Row w.heap.size w (.slice a d.length c) d) (hw : wt J.D + d.length ≤ 524288) (hn : J.D.length < 4096) :
    Calls Tryz.prog 22 #[.pointer (some ⟨j, 0, none⟩), .slice a d.length c] w fun e w' => e = .returned (.int .i64 0) ∧ ∃ U', JS w' f j nm S (J.add d) U' k ∧ FFr U U' w w' := by
  obtain ⟨Of, O, OL, gv, lv, qs, hF, hJ, hdis, u1, u2, u3, u4, u5⟩ := h
  obtain ⟨c0, c1, c2, c6, c7, c8, c9, c10, cz⟩ := jn_cells hJ.gm.blk
  rw [hal] at c10
  have HR := hide (refusal_ok j w c10)
  obtain ⟨la, lc, el⟩ := hJ.laid.shape
  obtain ⟨WD, hWD⟩ : ∃ WD : Int, WD = (wt J.D : Int) := ⟨_, rfl⟩
  obtain ⟨ND, hND⟩ : ∃ ND : Int, ND = (J.D.length : Int) := ⟨_, rfl⟩
  have hNDb : ND < 4096 := by omega
  have hND2 : ¬ (ND = 4096) := by omega
  obtain ⟨L, hL⟩ : ∃ L, L = d.length := ⟨_, rfl⟩
  have hLb : (L : Int) + WD ≤ 524288 := by omega
  have hL0 : 0 ≤ WD := by omega
  have HCl := hide (bclone_new w.heap.size a d.length c d w.drew hrow rfl (Nat.le_refl _) (by omega))
  -- behind the clone
  have HG : Hid (∀ x L0 W1, NewData w.heap.size L0 x d → Below w.heap.size w W1 → (∀ p ∈ L0, W1.heap[p.1]? = some p.2) → ∃ lv' W3, (∀ ty, (appL ty #[lv, .slice (some ⟨W1.heap.size, 0, none⟩) 1 1]).run Tryz.prog (W1.alloc (.cells #[x] 39)) = .ok lv' W3) ∧ (∃ a' c', lv' = .slice a' (J.D.length + 1) c') ∧ W3.cell? ⟨j, 8, none⟩ = some lv ∧ W3.cell? ⟨j, 9, none⟩ = some (.int .i64 (wt J.D : Int)) ∧ (∀ i, W3.frozen? ⟨j, i, none⟩ = false) ∧ ∃ U', JS ((W3.setCell ⟨j, 8, none⟩ lv').setCell ⟨j, 9, none⟩ (.int .i64 ((wt J.D : Int) + (d.length : Int)))) f j nm S (J.add d) U' k ∧ FFr U U' w ((W3.setCell ⟨j, 8, none⟩ lv').setCell ⟨j, 9, none⟩ (.int .i64 ((wt J.D : Int) + (d.length : Int))))) := by
    intro x L0 W1 hnd hb hL
    obtain ⟨vals, h1, h2, h3⟩ := hJ.laid
    have hz1 := hb.size
    have hx : Rec W1 (fun b => w.heap.size ≤ b ∧ b < W1.heap.size) x d := Rec.new hnd hL (fun p hp => by
      have h4 := hL p hp
      rcases hnd with ⟨rfl, _⟩ | ⟨g, cap, cur, rfl, _, hlo, _⟩
      · cases hp
      · have := List.mem_singleton.1 hp
        subst this
        exact ⟨hlo, (Array.getElem?_eq_some_iff.1 h4).1⟩)
    have hx1 : x.oneCell' = true := by obtain ⟨_, _, e, _⟩ := hx; rw [e]; rfl
    have h1' : W1.ownsRow 0 39 1 lv J.D.length vals := ownsRow_kept h1 (fun q e => hb.block q (hJ.ltl q (h2 q e)))
    obtain ⟨lv', W3, hr, hg⟩ := rec_grow h1' (by omega) x hx1
    have hjl := hJ.gm.jlt
    have hlvj : lv.ownBlock ≠ some j := fun e => hJ.nl (h2 j e)
    have hz3 := hg.gr.size
    have hold : ∀ b, b < w.heap.size → ¬ OL b → W3.heap[b]? = w.heap[b]? := fun b h4 h5 => by
      rw [hg.gr.block b (by omega) (fun e => h5 (h2 b e.symm)), hb.block b h4]
    have hj3 : W3.heap[j]? = some (jnBlk f nm J gv lv) := by rw [hold j hjl hJ.nl]; exact hJ.gm.blk
    obtain ⟨_, _, _, _, _, d8, d9, _, dz⟩ := jn_cells hj3
    have hrec := Recs.grown h1 h2 h3 hJ.ltl hb hx hg
    have hset : ∀ b, b ≠ j → ((W3.setCell ⟨j, 8, none⟩ lv').setCell ⟨j, 9, none⟩ (.int .i64 ((wt J.D : Int) + (d.length : Int)))).heap[b]? = W3.heap[b]? := fun b hb => by rw [set_other _ _ _ _ _ hb, set_other _ _ _ _ _ hb]
    refine ⟨lv', W3, hr, hg.shp, d8, d9, dz, fun q => U q ∨ (w.heap.size ≤ q ∧ q < W3.heap.size), ?_, ?_⟩
    · refine ⟨Of, O, more OL w W3, gv, lv', qs, ?_, ⟨?_, ?_, ?_, ?_, ?_⟩, ?_, fun q o => .inl (u1 q o), fun q o => .inl (u2 q o), fun q o => o.imp (u3 q) id, .inl u4, ?_⟩
      · exact hF.kept (by simp only [size_set]; omega) (fun q o => by rw [hset q (hdis q o).2.2, hold q (hF.lt q o) (hdis q o).2.1])
      · exact hJ.gm.re (by simp only [size_set]; omega) (jn_add hj3 d) rfl (fun q o => by rw [hset q (fun e => hJ.gm.nj (e ▸ o)), hold q (hJ.gm.lt q o) (hJ.dis q o)])
      · exact hrec.kept (fun _ o => o) (fun q o => hset q (fun e => by
          rcases o with o | o
          · exact hJ.nl (e ▸ o)
          · omega))
      · rintro q o (o2 | o2)
        · exact hJ.dis q o o2
        · have := hJ.gm.lt q o; omega
      · rintro (o | o)
        · exact hJ.nl o
        · omega
      · rintro q (o | o)
        · have := hJ.ltl q o; simp only [size_set]; omega
        · simp only [size_set]; exact o.2
      · intro q o
        refine ⟨(hdis q o).1, ?_, (hdis q o).2.2⟩
        rintro (o2 | o2)
        · exact (hdis q o).2.1 o2
        · have := hF.lt q o; omega
      · simp only [size_set]
        rintro q (o | o)
        · have := u5 q o; omega
        · exact o.2
    · refine ⟨hg.gr.os.trans hb.os, hg.gr.tape.trans hb.tape, hg.gr.output.trans hb.output, by simp only [size_set]; omega, fun q p1 p2 => ?_, fun q o => o.imp id (fun o => o.1)⟩
      have hj : q ≠ j := fun e => p2 (e ▸ u4)
      rw [hset q hj, hold q p1 (fun o => p2 (u3 q o))]
  have hjl := hJ.gm.jlt
  have HClD : Hid (Calls Tryz.prog 57 #[.slice a d.length c] w.drew fun e W1 => ∃ a' c' la' lc' W3, e = .returned (.slice a' d.length c') ∧ W1.cell? ⟨j, 8, none⟩ = some lv ∧ j < W1.heap.size ∧ (∀ ty, (appL ty #[lv, .slice (some ⟨W1.heap.size, 0, none⟩) 1 1]).run Tryz.prog (W1.alloc (.cells #[.slice a' d.length c'] 39)) = .ok (.slice la' (J.D.length + 1) lc') W3) ∧ W3.cell? ⟨j, 8, none⟩ = some lv ∧ W3.cell? ⟨j, 9, none⟩ = some (.int .i64 (wt J.D : Int)) ∧ (∀ i, W3.frozen? ⟨j, i, none⟩ = false) ∧ Hid (∃ U', JS ((W3.setCell ⟨j, 8, none⟩ (.slice la' (J.D.length + 1) lc')).setCell ⟨j, 9, none⟩ (.int .i64 ((wt J.D : Int) + (d.length : Int)))) f j nm S (J.add d) U' k ∧ FFr U U' w ((W3.setCell ⟨j, 8, none⟩ (.slice la' (J.D.length + 1) lc')).setCell ⟨j, 9, none⟩ (.int .i64 ((wt J.D : Int) + (d.length : Int)))))) := by
    refine (unhide HCl).mono fun e W1 ⟨a', c', L0, e1, h1, h2, h3⟩ => ?_
    have hb : Below w.heap.size w W1 := ⟨h2.os, h2.tape, h2.output, h2.size, h2.block⟩
    obtain ⟨lv', W3, hr, ⟨x, y, rfl⟩, p8, p9, pz, hE⟩ := unhide HG _ L0 W1 h1 hb h3
    exact ⟨a', c', x, y, W3, e1, by rw [hb.cell (p := ⟨j, 8, none⟩) hjl]; exact c8, Nat.lt_of_lt_of_le hjl hb.size, hr, p8, p9, pz, hE⟩
  rw [← hWD] at c9 HClD
  rw [← hL] at HClD ⊢
  have hL2 : ¬ (524288 - WD < (L : Int)) := by omega
  clear hJ hF hdis u1 u2 u3 u4 u5 hrow c0 c1 c2 c6 c7 c10 hw hn HG HCl
  subst el
  generalize hNN : J.D.length = NN at *
  have hNN4 : ¬ ((NN : Int) = 4096) := by omega
  have hwr : IntKind.i64.wrap (WD + (L : Int)) = WD + (L : Int) := IntWalk.i64_in _ (by omega)
  clear hWD hL hNN hND hNDb hND2 hLb hal
  have e8 : w.drew.cell? ⟨j, 8, none⟩ = some (.slice la NN lc) := c8
  have hB1 : decide (524288 - WD < (L : Int)) = false := decide_eq_false hL2
  have hB2 : ((NN : Int) == 4096) = false := by rw [beq_eq_false_iff_ne]; exact hNN4
  have hWb : WD ≤ 524288 := by omega
  have hw0 : IntKind.i64.wrap (524288 - WD) = 524288 - WD := IntWalk.i64_in _ (by omega)
  clear hL2 hNN4
  go_enter Tryz.func22, Tryz.ntmps22
  go_wp2_with fail
  refine (unhide HR).mono ?_
  rintro e w' ⟨rfl, rfl⟩
  go_wp2_with fail
  refine wp_region_noPanic ?_
  go_region_law (go_simp; refine (unhide HClD).mono ?_; rintro e W1 ⟨a', c', la', lc', W3, rfl, k1, k2, k3, k4, k5, k6, HE⟩; have k7 := k6 8; simp only [])
  all_goals
    refine NoPanic.normal ?_
    have k9 : (W3.setCell ⟨j, 8, none⟩ (.slice la' (NN + 1) lc')).cell? ⟨j, 9, none⟩ = some (.int .i64 WD) := by rw [World.cell?_setCell_other _ ⟨j, 8, none⟩ ⟨j, 9, none⟩ _ (by simp)]; exact k5
    have k10 : (W3.setCell ⟨j, 8, none⟩ (.slice la' (NN + 1) lc')).frozen? ⟨j, 9, none⟩ = false := by rw [World.frozen?_setCell]; exact k6 9
    clear k1 k2 k3 k4 k5 k6 k7
    go_wp2_with fail
    go_ret
    exact ⟨rfl, unhide HE⟩
end Go.Proofs.YtebcmicmklpflaaGreatDoor
/- A group is read. -/
namespace Go.Proofs.YtebcmicmklpflaaGreatDoor
open Go.RowKit Go.Maps
set_option linter.unusedSimpArgs false
/-- Bytes that lie from a place on. -/
def Lies (w : World) (g o : Nat) (B : List UInt8) : Prop := ∀ i u, (byteVals B)[i]? = some u → w.cell? ⟨g, o + i, none⟩ = some u
theorem Lies.part {w : World} {g o : Nat} {X Y Z : List UInt8} (h : Lies w g o (X ++ (Y ++ Z))) : Lies w g (o + X.length) Y := fun i u hi => by
  have hi' := (List.getElem?_eq_some_iff.1 hi).1
  rw [Nat.add_assoc]
  refine h (X.length + i) u ?_
  rw [byteVals_append, byteVals_append, List.getElem?_append_right (by rw [byteVals_len]; omega), byteVals_len, Nat.add_sub_cancel_left, List.getElem?_append_left hi']
  exact hi
theorem Lies.below {w w' : World} {g o : Nat} {B : List UInt8} (h : Lies w g o B) (hb : w'.heap[g]? = w.heap[g]?) : Lies w' g o B := fun i u hi => by
  rw [World.cell?_of_block (w := w) (a := ⟨g, o + i, none⟩) hb]; exact h i u hi
theorem Lies.num {w : World} {g o n : Nat} (h : Lies w g o (num n)) (hn : n < 16777216) : w.cell? ⟨g, o, none⟩ = some (.int .u8 ((n / 65536 : Nat) : Int)) ∧ w.cell? ⟨g, o + 1, none⟩ = some (.int .u8 ((n / 256 % 256 : Nat) : Int)) ∧ w.cell? ⟨g, o + 2, none⟩ = some (.int .u8 ((n % 256 : Nat) : Int)) := by
  have e0 : n / 65536 % 256 = n / 65536 := by omega
  refine ⟨h 0 _ ?_, h 1 _ ?_, h 2 _ ?_⟩
  all_goals simp [byteVals, Go.Proofs.YtebcmicmklpflaaGreatDoor.num, UInt8.toNat_ofNat', e0]
theorem Lies.row {w : World} {g o c : Nat} {B : List UInt8} (h : Lies w g o B) (hg : g < w.heap.size) (hc : B.length ≤ c) : Row w.heap.size w (.slice (some ⟨g, o, none⟩) B.length c) B := ⟨_, c, rfl, hc, fun _ => ⟨g, o, rfl, hg, h⟩⟩
theorem lies_ld {w : World} {g X : Nat} {B : List UInt8} (h : Lies w g X B) (hl : B.length = 32) : (Dg.ld113 (.pointer (some ⟨g, X, none⟩))).run Tryz.prog w = .ok (.agg (Dg.E8 (nats B))) w := by
  have e0 : byteVals B = (nats B).map Dg.B8 := by simp [byteVals, nats, Dg.B8, Function.comp_def]
  have : (loadCells ⟨g, X, none⟩ 32).run Tryz.prog w = .ok ((nats B).map Dg.B8).toArray w := by
    have e : 32 = ((nats B).map Dg.B8).length := by rw [List.length_map, nats_len, hl]
    rw [e]
    refine run_loadCells_list (P := Tryz.prog) (w := w) ⟨g, X, none⟩ ((nats B).map Dg.B8) (fun j v hj => ?_)
    rw [Addr.add_mid]
    exact h j v (by rw [e0]; exact hj)
  unfold Dg.ld113
  simp only [Instr.loadAt, Instr.sureAddr, Sem.run_bind, Sem.run_pure, Result.andThen]
  exact Dg.loadVar_of w 113 32 _ _ _ Tryz.underlying113 rfl (zero_of_info Dg.Z113_info).2 this
theorem arr_at (g X c : Nat) (w : World) : (Instr.arrayAt 113 (.slice (some ⟨g, X, none⟩) 32 c)).run Tryz.prog w = .ok (.pointer (some ⟨g, X, none⟩)) w := by
  simp [Instr.arrayAt, go_sem, Tryz.underlying113]
theorem run_neB (w : World) (l : List Nat) (hl : l.length = 32) : (binOp .neq 113 (.agg (Dg.E8 l)) (.agg (Dg.E8 l))).run Tryz.prog w = .ok (.bool false) w := by
  rw [run_neq_struct, Dg.eq113 w l hl]; rfl
/-- A group that is being read: its block behind w, its records behind that. -/
structure RG (w W : World) (ah : Option Nat) (rv : Value) (ds : List (List UInt8)) : Prop where
  bel : Below w.heap.size w W
  blk : W.heap[w.heap.size]? = some (grpBlk ah rv 0 0 (Dg.zs 32))
  recs : Recs W (fun b => w.heap.size < b ∧ b < W.heap.size) rv ds
theorem RG.up {w W W' : World} {ah : Option Nat} {rv : Value} {ds : List (List UInt8)} (h : RG w W ah rv ds) (hb : Below W.heap.size W W') : RG w W' ah rv ds :=
  ⟨h.bel.trans (hb.mono h.bel.size), by rw [hb.block _ (Array.getElem?_eq_some_iff.1 h.blk).1]; exact h.blk, h.recs.kept (fun q o => ⟨o.1, Nat.lt_of_lt_of_le o.2 hb.size⟩) (fun q o => hb.block q o.2)⟩
theorem grp_rv {w : World} {q : Nat} {ah : Option Nat} {rv rv' : Value} {dn lk : Int} {dg : List Nat} (h : w.heap[q]? = some (grpBlk ah rv dn lk dg)) : (w.setCell ⟨q, 1, none⟩ rv').heap[q]? = some (grpBlk ah rv' dn lk dg) := by
  unfold grpBlk grpCells at *
  simp [World.setCell, Array.getElem?_modify, h]
theorem RG.step {w W : World} {ah : Option Nat} {rv : Value} {ds : List (List UInt8)} (h : RG w W ah rv ds) (hn : ds.length ≤ 100000) {x : Value} {L0 : List (Nat × Obj)} {W1 : World} {d : List UInt8} (hnd : NewData W.heap.size L0 x d) (hb : Below W.heap.size W W1) (hL : ∀ p ∈ L0, W1.heap[p.1]? = some p.2) :
    ∃ rv' W3, (∀ ty, (appL ty #[rv, .slice (some ⟨W1.heap.size, 0, none⟩) 1 1]).run Tryz.prog (W1.alloc (.cells #[x] 39)) = .ok rv' W3) ∧ (∃ a' c', rv' = .slice a' (ds.length + 1) c') ∧ W3.cell? ⟨w.heap.size, 1, none⟩ = some rv ∧ W3.frozen? ⟨w.heap.size, 1, none⟩ = false ∧ RG w (W3.setCell ⟨w.heap.size, 1, none⟩ rv') ah rv' (ds ++ [d]) := by
  obtain ⟨vals, h1, h2, h3⟩ := h.recs
  have hz1 := hb.size
  have hqW := (Array.getElem?_eq_some_iff.1 h.blk).1
  have hx : Rec W1 (fun b => W.heap.size ≤ b ∧ b < W1.heap.size) x d := Rec.new hnd hL (fun p hp => by
    have h4 := hL p hp
    rcases hnd with ⟨rfl, _⟩ | ⟨g, cap, cur, rfl, _, hlo, _⟩
    · cases hp
    · have := List.mem_singleton.1 hp
      subst this
      exact ⟨hlo, (Array.getElem?_eq_some_iff.1 h4).1⟩)
  have hx1 : x.oneCell' = true := by obtain ⟨_, _, e, _⟩ := hx; rw [e]; rfl
  have h1' : W1.ownsRow 0 39 1 rv ds.length vals := ownsRow_kept h1 (fun q e => hb.block q (h2 q e).2)
  obtain ⟨rv', W3, hr, hg⟩ := rec_grow h1' hn x hx1
  have hz3 := hg.gr.size
  have hold : ∀ b, b ≤ w.heap.size → W3.heap[b]? = W.heap[b]? := fun b h4 => by
    rw [hg.gr.block b (by omega) (fun e => by have := (h2 b e.symm).1; omega), hb.block b (by omega)]
  have hq3 : W3.heap[w.heap.size]? = some (grpBlk ah rv 0 0 (Dg.zs 32)) := by rw [hold _ (Nat.le_refl _)]; exact h.blk
  have hrec := Recs.grown h1 h2 h3 (fun q o => o.2) hb hx hg
  obtain ⟨_, c1, _, _, cz⟩ := grp_cells hq3
  refine ⟨rv', W3, hr, hg.shp, c1, cz 1, ⟨⟨hg.gr.os.trans (hb.os.trans h.bel.os), hg.gr.tape.trans (hb.tape.trans h.bel.tape), hg.gr.output.trans (hb.output.trans h.bel.output), by rw [size_set]; omega, fun b hb' => ?_⟩, grp_rv hq3, hrec.kept (fun q o => ?_) (fun q o => ?_)⟩⟩
  · rw [set_other _ _ _ _ _ (by omega), hold b (by omega)]; exact h.bel.block b hb'
  · rw [size_set]
    rcases o with o | o
    · exact ⟨o.1, by have := o.2; omega⟩
    · exact ⟨by omega, o.2⟩
  · refine set_other _ _ _ _ _ (fun e => ?_)
    rcases o with o | o
    · have := o.1; omega
    · omega
/-- Where the reading of records is. -/
def RdR (g o c : Nat) (ah : Option Nat) (ds : List (List UInt8)) (prev tail : List UInt8) (w : World) (r : Value) (wr : World) (k : Nat) : Prop :=
  r = .slice (some ⟨g, o + 3 + (recB (ds.take k)).length, none⟩) (recB (ds.drop k) ++ (dig prev ds ++ tail)).length (c - 3 - (recB (ds.take k)).length) ∧ ∃ rv, RG w wr ah rv (ds.take k)
theorem lies_k {w : World} {g o : Nat} {ds : List (List UInt8)} {prev tail : List UInt8} (h : Lies w g o (enc prev ds ++ tail)) (k : Nat) : Lies w g (o + 3 + (recB (ds.take k)).length) (recB (ds.drop k) ++ (dig prev ds ++ tail)) := by
  have e : enc prev ds ++ tail = (num ds.length ++ recB (ds.take k)) ++ ((recB (ds.drop k) ++ (dig prev ds ++ tail)) ++ []) := by
    unfold enc pcs
    conv => lhs; rw [← List.take_append_drop k ds]
    rw [recB_append, List.take_append_drop]
    simp only [List.append_assoc, List.append_nil]
  rw [e] at h
  have := h.part
  rwa [List.length_append, num_len, ← Nat.add_assoc] at this
theorem len_k {ds : List (List UInt8)} {prev tail : List UInt8} (k : Nat) : (enc prev ds ++ tail).length = 3 + ((recB (ds.take k)).length + (recB (ds.drop k) ++ (dig prev ds ++ tail)).length) := by
  unfold enc pcs
  conv => lhs; rw [← List.take_append_drop k ds]
  rw [recB_append, List.take_append_drop]
  simp only [List.length_append, num_len]
  omega
/-- What a round of the reading is: the record is cut off, cloned, and joins. -/
theorem read_round (g o c : Nat) (ah : Option Nat) (ds : List (List UInt8)) (prev tail : List UInt8) (w : World) (hL : Lies w g o (enc prev ds ++ tail)) (hg : g < w.heap.size) (hc : (enc prev ds ++ tail).length ≤ c) (hcm : c ≤ 9223372036854775807) (hl : ds.length ≤ 100000) (hwt : wt ds ≤ 10000000) :
    ∀ (k : Nat) (rv : Value) (W : World) (hk : k < ds.length), RG w W ah rv (ds.take k) → ∃ B C : Nat, B = ds[k].length ∧ C = c - 3 - (recB (ds.take k)).length - 3 ∧
      (∃ r2, Calls Tryz.prog 179 #[.slice (some ⟨g, o + 3 + (recB (ds.take k)).length, none⟩) (recB (ds.drop k) ++ (dig prev ds ++ tail)).length (c - 3 - (recB (ds.take k)).length)] W (fun e w' => e = .returned (.tuple #[.slice (some ⟨g, o + 3 + (recB (ds.take k)).length + 3, none⟩) B C, r2, .bool true]) ∧ ∃ p, w' = W.drewN p) ∧ (∃ a m q, r2 = .slice a m q) ∧
        ∀ p, Calls Tryz.prog 57 #[.slice (some ⟨g, o + 3 + (recB (ds.take k)).length + 3, none⟩) B C] (W.drewN p).drew fun e W1 => ∃ a' c' la' lc' W3, e = .returned (.slice a' B c') ∧ W1.cell? ⟨w.heap.size, 1, none⟩ = some rv ∧ w.heap.size < W1.heap.size ∧ (∀ ty, (appL ty #[rv, .slice (some ⟨W1.heap.size, 0, none⟩) 1 1]).run Tryz.prog (W1.alloc (.cells #[.slice a' B c'] 39)) = .ok (.slice la' (k + 1) lc') W3) ∧ W3.cell? ⟨w.heap.size, 1, none⟩ = some rv ∧ W3.frozen? ⟨w.heap.size, 1, none⟩ = false ∧ Hid (RdR g o c ah ds prev tail w r2 (W3.setCell ⟨w.heap.size, 1, none⟩ (.slice la' (k + 1) lc')) (k + 1))) := by
  intro k rv W hk hRG
  have hlk := len_k (ds := ds) (prev := prev) (tail := tail) k
  have hLk := (lies_k hL k).below (hRG.bel.block g hg)
  have hdk : recB (ds.drop k) = num ds[k].length ++ (ds[k] ++ recB (ds.drop (k + 1))) := by rw [List.drop_eq_getElem_cons hk]; rfl
  have hB : ds[k].length ≤ 10000000 := Nat.le_trans (wt_mem (List.getElem_mem hk)) hwt
  have hm0 : 0 < (recB (ds.drop (k + 1)) ++ (dig prev ds ++ tail)).length := by simp only [List.length_append, dig_len]; omega
  have hlen : (recB (ds.drop k) ++ (dig prev ds ++ tail)).length = 3 + (ds[k].length + (recB (ds.drop (k + 1)) ++ (dig prev ds ++ tail)).length) := by
    rw [hdk]; simp only [List.length_append, num_len]; omega
  have hLn : Lies W g (o + 3 + (recB (ds.take k)).length) (num ds[k].length) := by
    have := Lies.part (X := []) (Y := num ds[k].length) (Z := (ds[k] ++ recB (ds.drop (k + 1))) ++ (dig prev ds ++ tail)) (by rw [hdk] at hLk; simpa only [List.nil_append, List.append_assoc] using hLk)
    simpa using this
  have hLp : Lies W g (o + 3 + (recB (ds.take k)).length + 3) ds[k] := by
    have := Lies.part (X := num ds[k].length) (Y := ds[k]) (Z := recB (ds.drop (k + 1)) ++ (dig prev ds ++ tail)) (by rw [hdk] at hLk; simpa only [List.append_assoc] using hLk)
    rwa [num_len] at this
  obtain ⟨n0, n1, n2⟩ := hLn.num (by omega)
  have htk : (recB (ds.take (k + 1))).length = (recB (ds.take k)).length + 3 + ds[k].length := by
    rw [List.take_succ_eq_append_getElem hk, recB_append]; simp only [recB, List.length_append, num_len, List.length_nil]; omega
  refine ⟨ds[k].length, _, rfl, rfl, .slice (some ⟨g, o + 3 + (recB (ds.take k)).length + 3 + ds[k].length, none⟩) (recB (ds.drop (k + 1)) ++ (dig prev ds ++ tail)).length (c - 3 - (recB (ds.take k)).length - 3 - ds[k].length), ?_, ⟨_, _, _, rfl⟩, fun p => ?_⟩
  · rw [hlen]
    exact cut_record g _ ds[k].length _ (c - 3 - (recB (ds.take k)).length) hm0 (by omega) (by omega) (by omega) W n0 n1 n2
  · have hWl : g < W.heap.size := Nat.lt_of_lt_of_le hg hRG.bel.size
    have hRG' : RG w (W.drewN p).drew ah rv (ds.take k) := ⟨⟨hRG.bel.os, hRG.bel.tape, hRG.bel.output, hRG.bel.size, hRG.bel.block⟩, hRG.blk, hRG.recs⟩
    refine (bclone_new W.heap.size (some ⟨g, _, none⟩) ds[k].length _ ds[k] (W.drewN p).drew (hLp.row hWl (by omega)) rfl (Nat.le_refl _) (by omega)).mono fun e W1 ⟨a', c', L0, e1, h1, h2, h3⟩ => ?_
    obtain ⟨rv', W3, hr, ⟨x, y, rfl⟩, c1, z1, hst⟩ := hRG'.step (by rw [List.length_take]; omega) h1 h2 h3
    have hql := (Array.getElem?_eq_some_iff.1 hRG'.blk).1
    have hkl : (ds.take k).length = k := by rw [List.length_take]; omega
    rw [hkl] at hr hst
    refine ⟨a', c', x, y, W3, e1, by rw [h2.cell (p := ⟨w.heap.size, 1, none⟩) hql]; exact (grp_cells hRG'.blk).2.1, Nat.lt_of_lt_of_le hql h2.size, hr, c1, z1, ?_, .slice x (k + 1) y, ?_⟩
    · show Value.slice _ _ _ = Value.slice _ _ _
      rw [htk, show o + 3 + ((recB (ds.take k)).length + 3 + ds[k].length) = o + 3 + (recB (ds.take k)).length + 3 + ds[k].length from by omega, show c - 3 - ((recB (ds.take k)).length + 3 + ds[k].length) = c - 3 - (recB (ds.take k)).length - 3 - ds[k].length from by omega]
    · rw [List.take_succ_eq_append_getElem hk]; exact hst
theorem AhIs.lt {w : World} {ah : Option Nat} {prev : List UInt8} (h : AhIs w ah prev) {q : Nat} (hq : ah = some q) : q < w.heap.size := by
  obtain ⟨_, h9⟩ := h
  rw [hq] at h9
  obtain ⟨_, _, h9⟩ := h9
  exact (Array.getElem?_eq_some_iff.1 h9).1
/-- What is asked for behind the records. -/
theorem read_end (g o c : Nat) (ah : Option Nat) (ds : List (List UInt8)) (prev tail : List UInt8) (w : World) (hL : Lies w g o (enc prev ds ++ tail)) (hg : g < w.heap.size) (hc : (enc prev ds ++ tail).length ≤ c) (hcm : c ≤ 9223372036854775807) (hA : AhIs w ah prev) (hl : ds.length ≤ 100000) (hwt : wt ds ≤ 10000000) (k : Nat) (hkl : k = ds.length) (R : Nat) (hR : R = (recB ds ++ (dig prev ds ++ tail)).length) (rv : Value) (wr : World) (hRG : RG w wr ah rv (ds.take k)) :
    ∃ (X M Q E : Nat) (DG : List Nat), Value.slice (some ⟨g, o + 3 + (recB (ds.take k)).length, none⟩) (recB (ds.drop k) ++ (dig prev ds ++ tail)).length (c - 3 - (recB (ds.take k)).length) = .slice (some ⟨g, X, none⟩) M Q ∧ E = (enc prev ds).length ∧ ((3 + R : Nat) : Int) - (M : Int) + 32 = (E : Int) ∧ 32 ≤ M ∧ M ≤ Q ∧ Q ≤ 9223372036854775807 ∧ DG.length = 32 ∧ (Dg.ld113 (.pointer (some ⟨g, X, none⟩))).run Tryz.prog wr.drew = .ok (.agg (Dg.E8 DG)) wr.drew ∧
      Calls Tryz.prog 107 #[.pointer (some ⟨w.heap.size, 0, none⟩)] wr.drew fun e w' => e = .returned (.agg (Dg.E8 DG)) ∧ (Dg.ld113 (.pointer (some ⟨g, X, none⟩))).run Tryz.prog w' = .ok (.agg (Dg.E8 DG)) w' ∧ Hid (Below w.heap.size w w' ∧ Grp w' (fun b => w.heap.size ≤ b ∧ b < w'.heap.size) w.heap.size ah ds prev) := by
  have hLk := lies_k hL k
  have hlk := len_k (ds := ds) (prev := prev) (tail := tail) k
  rw [hkl, List.take_length] at hRG hLk hlk ⊢
  rw [List.drop_length, show recB [] = [] from rfl, List.nil_append] at hLk hlk ⊢
  have hLd : Lies w g (o + 3 + (recB ds).length) (dig prev ds) := by
    have := Lies.part (w := w) (g := g) (o := o + 3 + (recB ds).length) (X := []) (Y := dig prev ds) (Z := tail) (by rw [List.nil_append]; exact hLk)
    rwa [List.length_nil, Nat.add_zero] at this
  have hzw : w.heap.size < wr.heap.size := (Array.getElem?_eq_some_iff.1 hRG.blk).1
  have hD0 : (dig prev ds ++ tail).length = 32 + tail.length := by rw [List.length_append, dig_len]
  have hen := enc_len prev ds
  have hrl : (recB ds).length = 3 * ds.length + wt ds := by
    have h1 := pcs_len ds
    unfold pcs at h1
    rw [List.length_append, num_len] at h1
    omega
  have hA' : AhIs wr ah prev := hA.below (fun q hq => hRG.bel.block q (hA.lt hq))
  have hAq : ah ≠ some w.heap.size := fun e => Nat.lt_irrefl _ (hA.lt e)
  have hdl : (nats (dig prev ds)).length = 32 := by rw [nats_len, dig_len]
  have hR2 : R = (recB ds).length + (dig prev ds ++ tail).length := by rw [hR, List.length_append]
  have hlen : (enc prev ds ++ tail).length = (enc prev ds).length + tail.length := List.length_append
  generalize hDD : dig prev ds = DD at *
  have hDl : DD.length = 32 := by rw [← hDD]; exact dig_len _ _
  refine ⟨o + 3 + (recB ds).length, (DD ++ tail).length, c - 3 - (recB ds).length, (enc prev ds).length, nats DD, rfl, rfl, by omega, by omega, by omega, by omega, hdl, ?_, ?_⟩
  · exact lies_ld (hLd.below (hRG.bel.block g hg)) hDl
  · refine (digest_first w.heap.size ah rv (Dg.zs 32) (fun b => w.heap.size < b ∧ b < wr.heap.size) ds prev wr.drew hRG.blk (by simp [Dg.zs]) hRG.recs (fun b hb => hb.2) (fun h => Nat.lt_irrefl _ h.1) hA' hAq hl hwt).mono fun e w' ⟨e1, h1, hs⟩ => ?_
    have hz := hs.size
    have hb' : Below w.heap.size w w' := ⟨hs.os.trans hRG.bel.os, hs.tape.trans hRG.bel.tape, hs.output.trans hRG.bel.output, Nat.le_trans hRG.bel.size hz, fun b hb => by rw [hs.block b (Nat.lt_of_lt_of_le hb hRG.bel.size) (by omega)]; exact hRG.bel.block b hb⟩
    refine ⟨by rw [← hDD]; exact e1, lies_ld (hLd.below (hb'.block g hg)) hDl, hb', ⟨Nat.le_refl _, Nat.lt_of_lt_of_le hzw hz⟩, rv, h1, hRG.recs.kept (fun q o => ⟨by have := o.1; omega, Nat.lt_of_lt_of_le o.2 hz⟩) (fun q o => hs.block q o.2 (by have := o.1; omega))⟩
set_option maxRecDepth 20000 in
set_option maxHeartbeats 2000000 in
theorem read_group (g o c : Nat) (ah : Option Nat) (ds : List (List UInt8)) (prev tail : List UInt8) (w : World) (hL : Lies w g o (enc prev ds ++ tail)) (hg : g < w.heap.size) (hc : (enc prev ds ++ tail).length ≤ c) (hcm : c ≤ 9223372036854775807) (hA : AhIs w ah prev) (hl : ds.length ≤ 100000) (hwt : wt ds ≤ 10000000) :
    Calls Tryz.prog 131 #[.pointer (ah.map fun q => ⟨q, 0, none⟩), .slice (some ⟨g, o, none⟩) (enc prev ds ++ tail).length c] w fun e w' => e = .returned (.tuple #[.pointer (some ⟨w.heap.size, 0, none⟩), .int .i64 ((enc prev ds).length : Int)]) ∧ Below w.heap.size w w' ∧ Grp w' (fun b => w.heap.size ≤ b ∧ b < w'.heap.size) w.heap.size ah ds prev := by
  have hel := enc_len prev ds
  have hlen : (enc prev ds ++ tail).length = 3 + (recB ds ++ (dig prev ds ++ tail)).length := by simp only [enc, pcs, List.length_append, num_len, List.append_assoc]
  have hm0 : 0 < (recB ds ++ (dig prev ds ++ tail)).length := by simp only [List.length_append, dig_len]; omega
  have hL0 : Lies w g o (num ds.length) := by
    have : Lies w g (o + ([] : List UInt8).length) (num ds.length) := Lies.part (X := []) (Y := num ds.length) (Z := recB ds ++ (dig prev ds ++ tail)) (by simpa [enc, pcs] using hL)
    simpa using this
  obtain ⟨n0, n1, n2⟩ := hL0.num (by omega)
  have HC := hide (cut_number g o (recB ds ++ (dig prev ds ++ tail)).length c ds.length hm0 (by omega) hcm (by omega) w n0 n1 n2)
  obtain ⟨R, hR⟩ : ∃ R, R = (recB ds ++ (dig prev ds ++ tail)).length := ⟨_, rfl⟩
  rw [hlen]
  rw [← hR] at HC ⊢
  obtain ⟨N, hN⟩ : ∃ N, N = ds.length := ⟨_, rfl⟩
  rw [← hN] at HC
  have HD := hide (And.intro hL (And.intro hg (And.intro hc (And.intro hcm (And.intro hA (And.intro hl (And.intro hwt (And.intro hlen (And.intro hR hN)))))))))
  clear hL hg hc hcm hA hl hwt hlen hR hN n0 n1 n2 hL0 hel hm0
  go_enter Tryz.func131, Tryz.ntmps131
  go_wp2_with fail
  refine (unhide HC).mono ?_
  rintro e w1 ⟨rfl, p, rfl⟩
  obtain ⟨WA, hWA⟩ : ∃ WA, WA = (w.drewN p).alloc (grpBlk ah (.slice none 0 0) 0 0 (Dg.zs 32)) := ⟨_, rfl⟩
  have hRG0 : RG w WA ah (.slice none 0 0) [] := by
    rw [hWA]
    exact ⟨(show Below w.heap.size w (w.drewN p) from ⟨rfl, rfl, rfl, Nat.le_refl _, fun _ _ => rfl⟩).alloc (Nat.le_refl _) _, heap_alloc_new (w.drewN p) _, Recs.nil _ _⟩
  have HRG0 := hide (And.intro hWA hRG0)
  clear hRG0 hWA
  have HRound := hide (read_round g o c ah ds prev tail w (unhide HD).1 (unhide HD).2.1 (unhide HD).2.2.1 (unhide HD).2.2.2.1 (unhide HD).2.2.2.2.2.1 (unhide HD).2.2.2.2.2.2.1)
  go_wp2_with fail
  change Code.wp _ _ _ _ ((w.drewN p).alloc (grpBlk ah (.slice none 0 0) 0 0 (Dg.zs 32)))
  rw [← (unhide HRG0).1]
  go_loopw [23, 7, 8] (fun i r ok wr => ∃ k : Nat, k ≤ N ∧ i = .int .i64 k ∧ ok = .bool true ∧ RdR g o c ah ds prev tail w r wr k) (fun i _ _ _ => N - (intOf i).toNat)
  case atStart =>
    refine ⟨0, Nat.zero_le _, rfl, rfl, ?_, _, by first | exact (unhide HRG0).2 | (rw [← (unhide HRG0).1]; exact (unhide HRG0).2)⟩
    have hR' := (unhide HD).2.2.2.2.2.2.2.2.1
    rw [hR']
    rfl
  case round =>
    obtain ⟨k, hk, rfl, rfl, hRd⟩ := hrel
    by_cases hlt : k < N
    · obtain ⟨hr1, rv, hRG⟩ := hRd
      have hN' := (unhide HD).2.2.2.2.2.2.2.2.2
      have hNb := hide (show N ≤ 100000 by have := (unhide HD).2.2.2.2.2.1; omega)
      obtain ⟨B, C, -, -, r2, hcut, ⟨xa, xm, xq, hx⟩, hcl⟩ := unhide HRound k rv _ (by omega) hRG
      rw [← hr1] at hcut
      obtain ⟨a, m, q, hr⟩ : ∃ a m q, u7 = .slice a m q := ⟨_, _, _, hr1⟩
      subst hr
      subst hx
      clear hr1
      generalize o + 3 + (recB (ds.take k)).length + 3 = Z at hcut hcl
      obtain ⟨ra, rn, rc, rfl⟩ : ∃ ra rn rc, rv = .slice ra rn rc := by
        obtain ⟨a1, c1, e1⟩ := hRG.recs.shape
        exact ⟨_, _, _, e1⟩
      have hqz : w.heap.size < wr.heap.size := (Array.getElem?_eq_some_iff.1 hRG.blk).1
      have hc1 : wr.cell? ⟨w.heap.size, 1, none⟩ = some (.slice ra rn rc) := (grp_cells hRG.blk).2.1
      have HCut := hide hcut
      have HCl := hide hcl
      clear hcut hcl HRound HC HRG0 hRG hN'
      have hlt2 : (k : Int) < (N : Int) := by omega
      go_wp2_with fail
      refine (unhide HCut).mono ?_
      rintro e w' ⟨rfl, p', rfl⟩
      go_wp2_with fail
      have hc2 : (wr.drewN p').drew.cell? ⟨w.heap.size, 1, none⟩ = some (.slice ra rn rc) := hc1
      refine wp_region_noPanic ?_
      go_region_law (go_simp; refine (unhide HCl p').mono ?_; rintro e W1 ⟨a', c', la', lc', W3, rfl, k1, k2, k3, k4, k5, HE⟩; simp only [])
      all_goals
        refine NoPanic.normal ?_
        clear k1 k2 k3 k4 k5
        go_wp2_with fail
        have hNb2 := unhide hNb
        have e1 : Go.RowKit.wrap64 ((k : Int) + 1) = ((k + 1 : Nat) : Int) := by unfold Go.RowKit.wrap64; omega
        rw [e1]
        exact ⟨⟨k + 1, by omega, rfl, rfl, unhide HE⟩, by simp [intOf]; omega⟩
    · obtain ⟨hr1, rv, hRG⟩ := hRd
      obtain ⟨hL, hg, hc, hcm, hA, hl, hwt, hlen, hR, hN'⟩ := unhide HD
      have hkl : k = ds.length := by omega
      obtain ⟨X, M, Q, E, DG, hr2, hE, hres, hM3, hMQ, hQm, hdl, hld0, hdig⟩ := read_end g o c ah ds prev tail w hL hg hc hcm hA hl hwt k hkl R hR rv _ hRG
      rw [hr2] at hr1
      have hMl : decide ((M : Int) < 32) = false := decide_eq_false (by omega)
      have hQ32 : (32 : Int) ≤ (Q : Int) := by omega
      have hQm : (Q : Int) ≤ 9223372036854775807 := by omega
      have hkN : ¬ ((k : Int) < (N : Int)) := by omega
      have HDig := hide hdig
      have hEq := fun W => run_neB W DG hdl
      have hgd := fun (W : World) (x y : Operand) => run_eqGuard_agg (P := Tryz.prog) (w := W) .neq 113 x y (Dg.E8 DG) (Dg.E8 DG) Dg.guard113
      have harr := arr_at g X Q
      have hRb : 3 + R ≤ 9223372036854775807 := by rw [← hR] at hlen; omega
      have HN := hide (And.intro hMQ (And.intro hM3 (And.intro hres (And.intro hRb hE))))
      subst hr1
      clear hdig HRound HC HRG0 hRG hL hg hc hcm hA hl hwt hlen hR hN' hkl hE hMQ hM3 hr2 HD hlt hk hres hRb
      go_wp2_with fail
      refine wp_region_noPanic ?_
      go_region_law (go_simp; refine (unhide HDig).mono ?_; rintro e W1 ⟨rfl, k1, HE⟩; simp only [])
      all_goals
        refine NoPanic.normal ?_
        go_wp2_with fail
        obtain ⟨hMQ, hM3, hres, hRb, hE⟩ := unhide HN
        have e1 : Go.RowKit.wrap64 (Go.RowKit.wrap64 (3 + (R : Int) - (M : Int)) + 32) = ((enc prev ds).length : Int) := by
          rw [← hE]
          unfold Go.RowKit.wrap64
          omega
        rw [e1]
        exact bodyPost_ret (by simp [results, Tryz.results131]) rfl ⟨rfl, unhide HE⟩
end Go.Proofs.YtebcmicmklpflaaGreatDoor
/- Groups are read. -/
namespace Go.Proofs.YtebcmicmklpflaaGreatDoor
open Go.RowKit Go.Maps
set_option linter.unusedSimpArgs false
set_option maxRecDepth 20000 in
theorem read_nothing (pv : Option Addr) (a : Option Addr) (n c : Nat) (hn : n < 3) (w : World) : Calls Tryz.prog 131 #[.pointer pv, .slice a n c] w fun e w' => e = .returned (.tuple #[.pointer none, .int .i64 0]) ∧ w' = w := by
  have HC := hide (cut_short a n c hn w)
  go_enter Tryz.func131, Tryz.ntmps131
  go_wp2_with fail
  refine (unhide HC).mono ?_
  rintro e w1 ⟨rfl, rfl⟩
  go_wp2_with fail
  exact bodyPost_ret (by simp [results, Tryz.results131]) rfl ⟨rfl, rfl⟩
/-- Groups that are being read: all of them behind w. -/
structure RGs (w W : World) (gv : Value) (qs : List Nat) (G : List (List (List UInt8))) : Prop where
  bel : Below w.heap.size w W
  row : W.ownsRow 0 104 1 gv qs.length (qs.map ptrV)
  rown : ∀ q, gv.ownBlock = some q → w.heap.size ≤ q ∧ q < W.heap.size
  ch : Chain W (fun b => w.heap.size ≤ b ∧ b < W.heap.size) none z32 qs G
theorem RGs.drewN {w W : World} {gv : Value} {qs : List Nat} {G : List (List (List UInt8))} (h : RGs w W gv qs G) (p : Nat) : RGs w (W.drewN p) gv qs G :=
  ⟨⟨h.bel.os, h.bel.tape, h.bel.output, h.bel.size, h.bel.block⟩, h.row, h.rown, Chain.kept (w := W) (w' := W.drewN p) (O := fun b => w.heap.size ≤ b ∧ b < W.heap.size) (O' := fun b => w.heap.size ≤ b ∧ b < (W.drewN p).heap.size) (fun _ o => o) (fun _ _ => rfl) h.ch⟩
theorem RGs.nil (w : World) : RGs w w (.slice none 0 0) [] [] := ⟨Below.refl _ _, ⟨rfl, .inl ⟨rfl, rfl⟩⟩, fun q e => by simp [Value.ownBlock] at e, trivial⟩
theorem RGs.step {w W : World} {gv : Value} {qs : List Nat} {G : List (List (List UInt8))} (h : RGs w W gv qs G) (hn : qs.length ≤ 100000) {W1 : World} {ds : List (List UInt8)} (hb : Below W.heap.size W W1) (hG : Grp W1 (fun b => W.heap.size ≤ b ∧ b < W1.heap.size) W.heap.size (lastq qs) ds (digs z32 G)) :
    ∃ gv' W3, (∀ ty, (appG ty #[gv, .slice (some ⟨W1.heap.size, 0, none⟩) 1 1]).run Tryz.prog (W1.alloc (.cells #[ptrV W.heap.size] 104)) = .ok gv' W3) ∧ (∃ a' c', gv' = .slice a' (qs.length + 1) c') ∧ RGs w W3 gv' (qs ++ [W.heap.size]) (G ++ [ds]) := by
  have hz1 := hb.size
  have hz0 := h.bel.size
  have h1' : W1.ownsRow 0 104 1 gv qs.length (qs.map ptrV) := ownsRow_kept h.row (fun q e => hb.block q (h.rown q e).2)
  obtain ⟨gv', W3, hr, hg⟩ := ptr_grow h1' hn (ptrV W.heap.size) rfl
  have hz3 := hg.gr.size
  have htag := row_tag h1'
  have hTg : ∀ P : Nat → Prop, (∀ b, P b → b < W1.heap.size) → Tg P W1 W3 := fun P hP b x t hb hx ht => by
    refine hg.gr.block b (hP b hb) (fun e => ?_)
    obtain ⟨cur, hc⟩ := htag b e.symm
    rw [hx] at hc
    injection hc with hc
    injection hc with _ hc
    rcases ht with rfl | rfl | rfl <;> exact absurd hc (by decide)
  refine ⟨gv', W3, hr, hg.shp, ⟨⟨hg.gr.os.trans (hb.os.trans h.bel.os), hg.gr.tape.trans (hb.tape.trans h.bel.tape), hg.gr.output.trans (hb.output.trans h.bel.output), by omega, fun b hb' => ?_⟩, ?_, fun q e => ?_, ?_⟩⟩
  · rw [hg.gr.block b (by omega) (fun e => by have := (h.rown b e.symm).1; omega), hb.block b (by omega)]
    exact h.bel.block b hb'
  · rw [List.length_append, List.map_append]; exact hg.row
  · rcases hg.loc with e3 | ⟨b', e3, h4⟩
    · rw [e3] at e; have := h.rown q e; exact ⟨this.1, by omega⟩
    · rw [e3] at e; injection e with e
      subst e
      obtain ⟨cur, hc⟩ := row_tag hg.row b' e3
      exact ⟨by omega, (Array.getElem?_eq_some_iff.1 hc).1⟩
  · have hch1 := h.ch.kept (w' := W1) (O' := fun b => w.heap.size ≤ b ∧ b < W1.heap.size) (fun q o => ⟨o.1, by have := o.2; omega⟩) (fun q o => hb.block q o.2)
    refine Chain.snoc (hch1.keptT (fun q o => ⟨o.1, by have := o.2; omega⟩) (hTg _ (fun b o => o.2))) ?_
    have hGk := hG.keptT (O' := fun b => w.heap.size ≤ b ∧ b < W3.heap.size) (fun q o => ⟨by have := o.1; omega, by have := o.2; omega⟩) (hTg _ (fun b o => o.2))
    by_cases hq : qs = []
    · rw [if_pos hq]
      rw [hq] at hGk
      exact hGk
    · rw [if_neg hq]; exact hGk
theorem encs_append (a b : List (List (List UInt8))) : ∀ prev, encs prev (a ++ b) = encs prev a ++ encs (digs prev a) b := by
  induction a with
  | nil => intro prev; simp only [List.nil_append, encs, digs]
  | cons g a ih => intro prev; simp only [List.cons_append, encs, digs, ih, List.append_assoc]
/-- Where the reading of groups is. -/
def RdG (G : List (List (List UInt8))) (w : World) (gv : Value) (W : World) (k : Nat) : Prop := ∃ qs, RGs w W gv qs (G.take k)
/-- What a round of the reading is. -/
theorem groups_round (g o c : Nat) (G : List (List (List UInt8))) (w : World) (hL : Lies w g o (encs z32 G)) (hg : g < w.heap.size) (hc : (encs z32 G).length ≤ c) (hcm : c ≤ 9223372036854775807) (hl : G.length ≤ 10000) (hds : ∀ d ∈ G, d.length ≤ 100000 ∧ wt d ≤ 10000000) :
    ∀ (k : Nat) (gv : Value) (W : World), k < G.length → RdG G w gv W k → ∃ (E : Nat) (L : Option Addr), (encs z32 (G.take (k + 1))).length = (encs z32 (G.take k)).length + E ∧ 0 < E ∧ (encs z32 (G.take k)).length + E ≤ (encs z32 G).length ∧ (∃ a' c', gv = .slice a' k c') ∧
      (Calls Tryz.prog 59 #[gv] W.drew fun e w' => e = .returned (.pointer L) ∧ w' = W.drew) ∧
      (Calls Tryz.prog 131 #[.pointer L, .slice (some ⟨g, o + (encs z32 (G.take k)).length, none⟩) ((encs z32 G).length - (encs z32 (G.take k)).length) (c - (encs z32 (G.take k)).length)] W.drew fun e W1 => ∃ a' c' W3, e = .returned (.tuple #[.pointer (some ⟨W.heap.size, 0, none⟩), .int .i64 (E : Int)]) ∧ (∀ ty, (appG ty #[gv, .slice (some ⟨W1.heap.size, 0, none⟩) 1 1]).run Tryz.prog (W1.alloc (.cells #[ptrV W.heap.size] 104)) = .ok (.slice a' (k + 1) c') W3) ∧ Hid (RdG G w (.slice a' (k + 1) c') W3 (k + 1))) := by
  intro k gv W hk ⟨qs, hR⟩
  have hR' : RGs w W.drew gv qs (G.take k) := hR.drewN 1
  have hkl : (G.take k).length = k := by rw [List.length_take]; omega
  have hql : qs.length = k := by rw [hR.ch.len, hkl]
  have hspl : encs z32 G = encs z32 (G.take k) ++ (enc (digs z32 (G.take k)) G[k] ++ encs (digs z32 (G.take (k + 1))) (G.drop (k + 1))) := by
    conv => lhs; rw [← List.take_append_drop (k + 1) G]
    rw [encs_append, List.take_succ_eq_append_getElem hk, encs_snoc, List.append_assoc]
  have htk : (encs z32 (G.take (k + 1))).length = (encs z32 (G.take k)).length + (enc (digs z32 (G.take k)) G[k]).length := by
    rw [List.take_succ_eq_append_getElem hk, encs_snoc, List.length_append]
  have htot : (encs z32 G).length = (encs z32 (G.take k)).length + (enc (digs z32 (G.take k)) G[k] ++ encs (digs z32 (G.take (k + 1))) (G.drop (k + 1))).length := by
    conv => lhs; rw [hspl]
    rw [List.length_append]
  have hel := enc_len (digs z32 (G.take k)) G[k]
  have htl : (enc (digs z32 (G.take k)) G[k] ++ encs (digs z32 (G.take (k + 1))) (G.drop (k + 1))).length = (enc (digs z32 (G.take k)) G[k]).length + (encs (digs z32 (G.take (k + 1))) (G.drop (k + 1))).length := List.length_append
  have hLk : Lies w g (o + (encs z32 (G.take k)).length) (enc (digs z32 (G.take k)) G[k] ++ encs (digs z32 (G.take (k + 1))) (G.drop (k + 1))) := by
    refine Lies.part (X := encs z32 (G.take k)) (Z := []) ?_
    rw [List.append_nil, ← hspl]
    exact hL
  generalize encs (digs z32 (G.take (k + 1))) (G.drop (k + 1)) = tail at *
  have hgW : g < W.drew.heap.size := Nat.lt_of_lt_of_le hg hR.bel.size
  have hLW : Lies W.drew g (o + (encs z32 (G.take k)).length) (enc (digs z32 (G.take k)) G[k] ++ tail) := hLk.below (hR.bel.block g hg)
  have hd := hds G[k] (List.getElem_mem hk)
  refine ⟨(enc (digs z32 (G.take k)) G[k]).length, (lastq qs).map fun q => ⟨q, 0, none⟩, htk, by omega, by omega, ?_, ?_, ?_⟩
  · obtain ⟨a, c, e⟩ := row_shape hR.row
    exact ⟨a, c, by rw [e, hql]⟩
  · exact last_ok gv qs W.drew hR'.row (by omega)
  · rw [show (encs z32 G).length - (encs z32 (G.take k)).length = (enc (digs z32 (G.take k)) G[k] ++ tail).length by omega]
    refine (read_group g _ (c - (encs z32 (G.take k)).length) (lastq qs) G[k] (digs z32 (G.take k)) tail W.drew hLW hgW (by omega) (by omega) (chain_last hR'.ch) hd.1 hd.2).mono fun e W1 ⟨e1, hb, hG⟩ => ?_
    obtain ⟨gv', W3, hr, ⟨a', c', rfl⟩, h3⟩ := hR'.step (by omega) hb hG
    rw [hql] at hr h3
    refine ⟨a', c', W3, e1, hr, hide ⟨qs ++ [W.drew.heap.size], ?_⟩⟩
    rw [List.take_succ_eq_append_getElem hk]
    exact h3
set_option maxRecDepth 20000 in
set_option maxHeartbeats 2000000 in
theorem read_groups (g o c : Nat) (G : List (List (List UInt8))) (w : World) (hL : Lies w g o (encs z32 G)) (hg : g < w.heap.size) (hc : (encs z32 G).length ≤ c) (hcm : c ≤ 9223372036854775807) (hl : G.length ≤ 10000) (hds : ∀ d ∈ G, d.length ≤ 100000 ∧ wt d ≤ 10000000) :
    Calls Tryz.prog 98 #[.slice none 0 0, .slice (some ⟨g, o, none⟩) (encs z32 G).length c] w fun e w' => ∃ gv qs, e = .returned (.tuple #[gv, .int .i64 ((encs z32 G).length : Int)]) ∧ RGs w w' gv qs G := by
  have HRound := hide (groups_round g o c G w hL hg hc hcm hl hds)
  have HLast : Hid (∀ gv W, RdG G w gv W G.length → ∃ qs, RGs w W.drew gv qs G) := fun gv W ⟨qs, h⟩ => ⟨qs, by rw [List.take_length] at h; exact h.drewN 1⟩
  have HLq : Hid (∀ gv W, RdG G w gv W G.length → (∃ a' c', gv = .slice a' G.length c') ∧ ∃ L, Calls Tryz.prog 59 #[gv] W.drew fun e w' => e = .returned (.pointer L) ∧ w' = W.drew) := fun gv W ⟨qs, h⟩ => by
    have h' : RGs w W.drew gv qs (G.take G.length) := h.drewN 1
    have hql : qs.length = G.length := by rw [h.ch.len, List.take_length]
    obtain ⟨a, c, e⟩ := row_shape h.row
    exact ⟨⟨a, c, by rw [e, hql]⟩, _, last_ok gv qs W.drew h'.row (by omega)⟩
  obtain ⟨n, hn⟩ : ∃ n, n = (encs z32 G).length := ⟨_, rfl⟩
  obtain ⟨N, hN⟩ : ∃ N, N = G.length := ⟨_, rfl⟩
  have hnc : n ≤ c := by omega
  have HD := hide (And.intro hn (And.intro hN (And.intro hnc (And.intro hcm hl))))
  rw [← hn] at HRound ⊢
  rw [← hN] at HLast HLq
  clear hL hg hc hcm hl hds hn hN hnc
  go_enter Tryz.func98, Tryz.ntmps98
  go_wp2_with fail
  go_loopw [0, 6] (fun gv i wr => ∃ k : Nat, k ≤ N ∧ i = .int .i64 ((encs z32 (G.take k)).length : Int) ∧ RdG G w gv wr k) (fun _ i _ => n + 1 - (intOf i).toNat)
  case atStart => exact ⟨0, Nat.zero_le _, rfl, [], RGs.nil w⟩
  case round =>
    obtain ⟨k, hk, rfl, hRd⟩ := hrel
    by_cases hlt : k < N
    · obtain ⟨hn, hN, hnc, hcm, hl⟩ := unhide HD
      obtain ⟨E, L, hE1, hE0, hE2, ⟨ga, gc, hgv⟩, h59, h131⟩ := unhide HRound k _ _ (by omega) hRd
      subst hgv
      obtain ⟨A, hA⟩ : ∃ A, A = (encs z32 (G.take k)).length := ⟨_, rfl⟩
      rw [← hA] at h131 hE1 hE2 ⊢
      have HR := hide h131
      have HL := hide h59
      have hAn : (A : Int) ≤ (n : Int) := by omega
      have hAc : (A : Int) ≤ (c : Int) := by omega
      have hnc2 : (n : Int) ≤ (c : Int) := by omega
      have hcm2 : (c : Int) ≤ 9223372036854775807 := by omega
      have hcne : ¬ (c = A) := by omega
      have HP := hide (And.intro hE1 (And.intro hE0 (And.intro hE2 (And.intro hcm (And.intro hnc hlt)))))
      clear hn hN hnc hcm hl h59 h131 hE1 hE0 hE2 hA HD HRound HLast HLq hRd hk hlt
      unfold ptrV at HR
      go_wp2_with fail
      refine wp_region_noPanic ?_
      go_region_law (go_simp; first | (refine (unhide HL).mono ?_; rintro e w5 ⟨rfl, rfl⟩; simp only []; done) | (refine (unhide HL).mono ?_; rintro e w5 ⟨rfl, rfl⟩; simp only []) | (refine (unhide HR).mono ?_; rintro e W1 ⟨a', c', W3, rfl, k1, HE⟩; simp only []))
      all_goals
        refine NoPanic.normal ?_
        go_wp2_with fail
        obtain ⟨hE1, hE0, hE2, hcm, hnc, hlt⟩ := unhide HP
        have e1 : Go.RowKit.wrap64 ((A : Int) + (E : Int)) = ((A + E : Nat) : Int) := by unfold Go.RowKit.wrap64; omega
        rw [e1]
        exact ⟨⟨k + 1, by omega, by rw [hE1], unhide HE⟩, by simp only [intOf, Int.toNat_natCast]; omega⟩
    · obtain ⟨hn, hN, hnc, hcm, hl⟩ := unhide HD
      obtain rfl : k = N := by omega
      have hA : (encs z32 (G.take k)).length = n := by rw [hn, hN, List.take_length]
      obtain ⟨⟨ga, gc, hgv⟩, L, h59⟩ := unhide HLq _ _ hRd
      obtain ⟨qs2, hfin⟩ := unhide HLast _ _ hRd
      have HF := hide hfin
      have HR : Hid (∀ a c', Calls Tryz.prog 131 #[.pointer L, .slice a 0 c'] wr.drew fun e w' => e = .returned (.tuple #[.pointer none, .int .i64 0]) ∧ w' = wr.drew) := fun a c' => read_nothing L a 0 c' (by omega) _
      have HL := hide h59
      subst hgv
      rw [hA]
      have hnc2 : (n : Int) ≤ (c : Int) := by omega
      have hcm2 : (c : Int) ≤ 9223372036854775807 := by omega
      clear hn hnc hcm hl hN h59 hA HD HRound HLast HLq hRd hk hlt hfin
      by_cases hcn : c = n
      all_goals
        go_wp2_with fail
        refine wp_region_noPanic ?_
        go_region_law (go_simp; first | (refine (unhide HL).mono ?_; rintro e w5 ⟨rfl, rfl⟩; simp only []) | (refine (unhide HR _ _).mono ?_; rintro e w5 ⟨rfl, rfl⟩; simp only []))
        all_goals
          refine NoPanic.normal ?_
          go_wp2_with fail
          exact bodyPost_ret (by simp [results, Tryz.results98]) rfl ⟨_, _, rfl, unhide HF⟩
end Go.Proofs.YtebcmicmklpflaaGreatDoor
/- strings.HasPrefix and slices.Sort of texts: the library's own contracts, laid at this program, in plain words. -/
namespace Go.Proofs.YtebcmicmklpflaaGreatDoor
open Go.RowKit Go.Shelf
def laysPfx_ren : Go.Shelf.Ren := ⟨fun | 99 => 180 | 206 => 213 | n => n, fun | 9 => 9 | 4 => 4 | 3 => 3 | n => n, fun | n => n⟩
theorem laysPfx : Go.Proofs.Lays.n99 Tryz.prog laysPfx_ren := {
  mixed := by kernel_rfl
  f99 := Tryz.func180.trans (congrArg some (by kernel_rfl))
  f206 := Tryz.func213.trans (congrArg some (by kernel_rfl))
  t3 := Tryz.underlying3
  a3 := Tryz.isAgg3
  z3 := Tryz.sizeOf3
  v3 := Tryz.zeroValue3
  t4 := Tryz.underlying4
  a4 := Tryz.isAgg4
  z4 := Tryz.sizeOf4
  v4 := Tryz.zeroValue4
  t9 := Tryz.underlying9
  a9 := Tryz.isAgg9
  z9 := Tryz.sizeOf9
  v9 := Tryz.zeroValue9 }
def laySort_ren : Go.Shelf.Ren := ⟨fun | 6 => 181 | 8 => 215 | 9 => 214 | 19 => 242 | 20 => 243 | 21 => 233 | 22 => 234 | 23 => 235 | 24 => 236 | 25 => 237 | 26 => 238 | 27 => 239 | 28 => 240 | 29 => 241 | 36 => 253 | 31 => 254 | 32 => 255 | 37 => 256 | 38 => 257 | 39 => 258 | 41 => 263 | n => n, fun | 27 => 94 | 29 => 9 | 3 => 3 | 32 => 238 | 26 => 94 | 0 => 0 | 44 => 82 | 46 => 136 | 4 => 4 | 36 => 292 | 35 => 291 | 41 => 156 | 5 => 5 | 9 => 9 | 53 => 309 | 57 => 312 | 63 => 318 | 64 => 77 | n => n, fun | n => n⟩
theorem laySort : Go.Proofs.SlLaysM.n6 Tryz.prog laySort_ren := {
  mixed := by kernel_rfl
  f6 := ⟨Tryz.f181.name, by decide, Tryz.func181.trans (congrArg some (by kernel_rfl))⟩
  f8 := Tryz.func215.trans (congrArg some (by kernel_rfl))
  f9 := ⟨Tryz.f214.name, by decide, Tryz.func214.trans (congrArg some (by kernel_rfl))⟩
  f19 := Tryz.func242.trans (congrArg some (by kernel_rfl))
  f20 := Tryz.func243.trans (congrArg some (by kernel_rfl))
  f21 := ⟨Tryz.f233.name, by decide, Tryz.func233.trans (congrArg some (by kernel_rfl))⟩
  f22 := ⟨Tryz.f234.name, by decide, Tryz.func234.trans (congrArg some (by kernel_rfl))⟩
  f23 := ⟨Tryz.f235.name, by decide, Tryz.func235.trans (congrArg some (by kernel_rfl))⟩
  f24 := ⟨Tryz.f236.name, by decide, Tryz.func236.trans (congrArg some (by kernel_rfl))⟩
  f25 := ⟨Tryz.f237.name, by decide, Tryz.func237.trans (congrArg some (by kernel_rfl))⟩
  f26 := ⟨Tryz.f238.name, by decide, Tryz.func238.trans (congrArg some (by kernel_rfl))⟩
  f27 := ⟨Tryz.f239.name, by decide, Tryz.func239.trans (congrArg some (by kernel_rfl))⟩
  f28 := ⟨Tryz.f240.name, by decide, Tryz.func240.trans (congrArg some (by kernel_rfl))⟩
  f29 := ⟨Tryz.f241.name, by decide, Tryz.func241.trans (congrArg some (by kernel_rfl))⟩
  f31 := Tryz.func254.trans (congrArg some (by kernel_rfl))
  f32 := Tryz.func255.trans (congrArg some (by kernel_rfl))
  f36 := ⟨Tryz.f253.name, by decide, Tryz.func253.trans (congrArg some (by kernel_rfl))⟩
  f37 := ⟨Tryz.f256.name, by decide, Tryz.func256.trans (congrArg some (by kernel_rfl))⟩
  f38 := ⟨Tryz.f257.name, by decide, Tryz.func257.trans (congrArg some (by kernel_rfl))⟩
  f39 := ⟨Tryz.f258.name, by decide, Tryz.func258.trans (congrArg some (by kernel_rfl))⟩
  f41 := ⟨Tryz.f263.name, by decide, Tryz.func263.trans (congrArg some (by kernel_rfl))⟩
  t0 := Tryz.underlying0
  a0 := Tryz.isAgg0
  z0 := Tryz.sizeOf0
  v0 := Tryz.zeroValue0
  t3 := Tryz.underlying3
  a3 := Tryz.isAgg3
  z3 := Tryz.sizeOf3
  v3 := Tryz.zeroValue3
  t4 := Tryz.underlying4
  a4 := Tryz.isAgg4
  z4 := Tryz.sizeOf4
  v4 := Tryz.zeroValue4
  t5 := Tryz.underlying5
  a5 := Tryz.isAgg5
  z5 := Tryz.sizeOf5
  v5 := Tryz.zeroValue5
  t9 := Tryz.underlying9
  a9 := Tryz.isAgg9
  z9 := Tryz.sizeOf9
  v9 := Tryz.zeroValue9
  t26 := Tryz.underlying94
  a26 := Tryz.isAgg94
  z26 := Tryz.sizeOf94
  v26 := Tryz.zeroValue94
  t27 := Tryz.underlying94
  a27 := Tryz.isAgg94
  z27 := Tryz.sizeOf94
  v27 := Tryz.zeroValue94
  t29 := Tryz.underlying9
  a29 := Tryz.isAgg9
  z29 := Tryz.sizeOf9
  v29 := Tryz.zeroValue9
  t32 := Tryz.underlying238
  a32 := Tryz.isAgg238
  z32 := Tryz.sizeOf238
  v32 := Tryz.zeroValue238
  t35 := Tryz.underlying291
  a35 := Tryz.isAgg291
  z35 := Tryz.sizeOf291
  v35 := Tryz.zeroValue291
  t36 := Tryz.underlying292
  a36 := Tryz.isAgg292
  z36 := Tryz.sizeOf292
  v36 := Tryz.zeroValue292
  t41 := Tryz.underlying156
  a41 := Tryz.isAgg156
  z41 := Tryz.sizeOf156
  v41 := Tryz.zeroValue156
  t44 := Tryz.underlying82
  a44 := Tryz.isAgg82
  z44 := Tryz.sizeOf82
  v44 := Tryz.zeroValue82
  t46 := Tryz.underlying136
  a46 := Tryz.isAgg136
  z46 := Tryz.sizeOf136
  v46 := Tryz.zeroValue136
  t53 := Tryz.underlying309
  a53 := Tryz.isAgg309
  z53 := Tryz.sizeOf309
  v53 := Tryz.zeroValue309
  t57 := Tryz.underlying312
  a57 := Tryz.isAgg312
  z57 := Tryz.sizeOf312
  v57 := Tryz.zeroValue312
  t63 := Tryz.underlying318
  a63 := Tryz.isAgg318
  z63 := Tryz.sizeOf318
  v63 := Tryz.zeroValue318
  t64 := Tryz.underlying77
  a64 := Tryz.isAgg77
  z64 := Tryz.sizeOf77
  v64 := Tryz.zeroValue77 }
theorem prefix_any (s p : ByteArray) (w : World) : Calls Tryz.prog 180 #[.string s, .string p] w fun e w' => e = .returned (.bool (Lib.hasPrefix s.data.toList p.data.toList)) ∧ w' = w := Any.strings_HasPrefix laysPfx s p w
/-- Texts, rising. -/
def sortL (xs : List ByteArray) : List (List UInt8) := (xs.map fun s => s.data.toList).mergeSort fun x y => decide (x ≤ y)
def sortB (xs : List ByteArray) : List ByteArray := (sortL xs).map fun l => ⟨l.toArray⟩
theorem sortL_length (xs : List ByteArray) : (sortL xs).length = xs.length := by unfold sortL; rw [List.length_mergeSort, List.length_map]
theorem sortB_length (xs : List ByteArray) : (sortB xs).length = xs.length := by unfold sortB; rw [List.length_map, sortL_length]
theorem enc_map (xs : List ByteArray) : xs.map Value.string = (xs.map fun s => s.data.toList).map encStr := by
  rw [List.map_map]; rfl
theorem below_grow {B : Nat} {w0 w : World} (h : Below B w0 w) (hB : B ≤ w.heap.size) (os : Array Obj) : Below B w0 (Go.Sort.grow w os) :=
  ⟨h.os, h.tape, h.output, by have := h.size; rw [Go.Sort.size_grow]; omega, fun k hk => by rw [Go.Sort.heap_grow_old _ _ (by omega)]; exact h.block k hk⟩
theorem holds_at {w : World} {g : Nat} {Z : List (List UInt8)} (h : Go.Sort.Holds encStr w g 0 Z.toArray) (i : Nat) (hi : i < Z.length) : w.cell? ⟨g, 0 + i, none⟩ = some (encStr (Z.getD i [])) := by
  have := (h i (by simpa using hi)).1
  rw [this]
  simp [List.getD, hi]
/-- A slice of texts that lies in blocks from a bound on. -/
def StrRow (base : Nat) (w : World) (v : Value) (ys : List ByteArray) : Prop :=
  ∃ a cp, v = .slice a ys.length cp ∧ ys.length ≤ cp ∧ (0 < ys.length → ∃ g, a = some ⟨g, 0, none⟩ ∧ base ≤ g ∧ g < w.heap.size ∧ ∀ j s, ys[j]? = some s → w.cell? ⟨g, 0 + j, none⟩ = some (.string s))
theorem sort_any (base : Nat) (a : Option Addr) (cp : Nat) (xs : List ByteArray) (w : World) (ho : w.ownsRow base 9 1 (.slice a xs.length cp) xs.length (xs.map .string)) (hB : base ≤ w.heap.size) (hmax : xs.length ≤ 1000000) :
    Calls Tryz.prog 181 #[.slice a xs.length cp] w fun e w' => e = .returned (.tuple #[]) ∧ StrRow base w' (.slice a xs.length cp) (sortB xs) ∧ Below base w w' := by
  have hsl : (sortB xs).length = xs.length := sortB_length xs
  by_cases hne : a = none
  · have h0 : xs.length = 0 ∧ cp = 0 := by
      subst hne
      rcases ho.2 with ⟨h1, h2⟩ | ⟨g, cap, cur, h1, _⟩
      · injection h1 with _ e2 e3; exact ⟨e2, e3⟩
      · injection h1 with e1; cases e1
    subst hne
    obtain rfl : xs = [] := List.eq_nil_of_length_eq_zero h0.1
    obtain rfl := h0.2
    refine (AnyM.slices_Sort_string_none laySort none 0 w).mono fun e w' ⟨he, hw⟩ => ⟨he, ⟨none, 0, by rw [hsl], by rw [hsl]; exact Nat.le_refl _, fun h => absurd h (by rw [hsl]; exact Nat.lt_irrefl _)⟩, by rw [hw]; exact Below.refl _ _⟩
  · rw [enc_map] at ho
    have hl0 : (xs.map fun s => s.data.toList).length = xs.length := by simp
    obtain ⟨g, c, hv, hbg, hgl, hncap, hcm, hlen, hH⟩ := Lib.holds_of_ownsRow ho (by intro h; injection h with e1; exact hne e1)
    cases hv
    have hsort : (sortL xs).length = xs.length := sortL_length xs
    have hC := AnyM.slices_Sort_string laySort g 0 cp (xs.map fun s => s.data.toList) w hH hgl (by rw [hl0]; omega)
    rw [hl0] at hC
    refine hC.mono fun e w' ⟨he, n, os, hw⟩ => ⟨he, ⟨_, cp, by rw [hsl], by rw [hsl]; exact hncap, fun h0 => ⟨g, rfl, hbg, ?_, fun j u hj => ?_⟩⟩, ?_⟩
    · rw [hw, Go.Sort.size_grow, Go.Sort.size_putRow, Go.Sort.heap_ahead]; omega
    · have hH2 : Go.Sort.Holds encStr w' g 0 (sortL xs).toArray := by
        rw [hw]
        exact Go.Sort.holds_grow encStr _ os g 0 _ (by rw [Go.Sort.size_putRow]; exact hgl) (Go.Sort.holds_putRow encStr _ g 0 _ _ (Go.Sort.holds_ahead encStr w n g 0 _ hH) (by simp))
      have hj2 := (List.getElem?_eq_some_iff.1 hj).1
      rw [hsl] at hj2
      rw [holds_at hH2 j (by omega)]
      unfold sortB at hj
      rw [List.getElem?_map, List.getElem?_eq_getElem (by omega)] at hj
      rw [List.getD_eq_getElem?_getD, List.getElem?_eq_getElem (by omega)]
      injection hj with hj
      rw [← hj]
      rfl
    · rw [hw]
      exact below_grow (Lib.below_putRow (Below.refl _ _) hbg) (by rw [Go.Sort.size_putRow]; exact hB) os
end Go.Proofs.YtebcmicmklpflaaGreatDoor
/- Names: the names of a FS that begin with a text. -/
namespace Go.Proofs.YtebcmicmklpflaaGreatDoor
open Go.RowKit Go.Maps Go.Shelf
set_option linter.unusedSimpArgs false
def pfx (s p : ByteArray) : Bool := Lib.hasPrefix s.data.toList p.data.toList
/-- The names that were met, of those that begin so. -/
def Coll (D : DataW Unit) (p : ByteArray) (left : Lit → Bool) (xs : List ByteArray) : Prop :=
  xs.Nodup ∧ ∀ s : ByteArray, s ∈ xs ↔ (Maps.has D (.string s.data.toList) = true ∧ left (.string s.data.toList) = false ∧ pfx s p = true)
theorem Coll.start (D : DataW Unit) (p : ByteArray) : Coll D p (Maps.has D) [] := ⟨List.nodup_nil, fun x => by cases Maps.has D (.string x.data.toList) <;> simp⟩
theorem same_str (s q : ByteArray) : (Lit.string s.data.toList).sameKey (.string q.data.toList) = decide (s = q) := by
  by_cases h : s = q
  · subst h
    simp [Lit.sameKey]
  · have : s.data ≠ q.data := fun e => h (bytes_eq (congrArg Array.toList e))
    simp [Lit.sameKey, h, this]
theorem Coll.skip {D : DataW Unit} {p : ByteArray} {left : Lit → Bool} {xs : List ByteArray} (h : Coll D p left xs) {q : ByteArray} (hp : pfx q p = false) : Coll D p (fun z => left z && !z.sameKey (.string q.data.toList)) xs :=
  ⟨h.1, fun s => by
    simp only [h.2 s, same_str]
    by_cases e : s = q
    · subst e; simp [hp]
    · simp [e]⟩
theorem Coll.take {D : DataW Unit} {p : ByteArray} {left : Lit → Bool} {xs : List ByteArray} (h : Coll D p left xs) {q : ByteArray} (hp : pfx q p = true) (hl : left (.string q.data.toList) = true) (hh : Maps.has D (.string q.data.toList) = true) : Coll D p (fun z => left z && !z.sameKey (.string q.data.toList)) (xs ++ [q]) :=
  ⟨List.nodup_append.2 ⟨h.1, by simp, fun a ha b hb => by
      simp at hb
      subst hb
      rintro rfl
      have := ((h.2 a).1 ha).2.1
      rw [hl] at this
      exact absurd this (by simp)⟩, fun s => by
    simp only [List.mem_append, h.2 s, same_str]
    by_cases e : s = q
    · subst e; simp [hp, hl, hh]
    · simp [e]⟩
theorem StrRow.set {base : Nat} {w : World} {v : Value} {ys : List ByteArray} (h : StrRow base w v ys) {f : Nat} (hf : f < base) (x : Value) : StrRow base (w.setCell ⟨f, 0, none⟩ x) v ys := by
  obtain ⟨a, cp, e, hl, hc⟩ := h
  refine ⟨a, cp, e, hl, fun h0 => ?_⟩
  obtain ⟨g, e1, h1, h2, h3⟩ := hc h0
  exact ⟨g, e1, h1, by rw [size_set]; exact h2, fun j s hj => by rw [World.cell?_of_block (w := w) (a := ⟨g, 0 + j, none⟩) (set_other _ _ _ _ _ (by intro (e : g = f); omega))]; exact h3 j s hj⟩
def app45 (ty : TypeId) (args : Array Value) : Sem Value := Builtin.append_ #[94, 94] ty args
@[go_sem ↓] theorem append_app45 (ty : TypeId) (args : Array Value) : Builtin.append_ #[94, 94] ty args = app45 ty args := rfl
theorem info9 : ∃ i z, Tryz.prog.info? 9 = some i ∧ i.zero = some z ∧ i.size = 1 ∧ i.bytes = 16 ∧ z.cells.size = 1 := by
  have h : (Tryz.prog.info? 9).map (fun i => (i.zero.map (fun z => z.cells.size), i.size, i.bytes)) = some (some 1, 1, 16) := by kernel_rfl
  cases hq : Tryz.prog.info? 9 with
  | none => simp [hq] at h
  | some i =>
    simp [hq] at h
    obtain ⟨⟨z, hz, h1⟩, h2, h3⟩ := h
    exact ⟨i, z, rfl, hz, h2, h3, h1⟩
/-- A text joins a row of texts. -/
theorem strs_grow {w : World} {base : Nat} {a : Option Addr} {cp : Nat} {xs : List ByteArray} (ho : w.ownsRow base 9 1 (.slice a xs.length cp) xs.length (xs.map .string)) (hB : base ≤ w.heap.size) (hl : xs.length ≤ 100000) (s : ByteArray) :
    ∃ a' cp' w3, (∀ ty, (app45 ty #[.slice a xs.length cp, .slice (some ⟨w.heap.size, 0, none⟩) 1 1]).run Tryz.prog (w.alloc (.cells #[.string s] 9)) = .ok (.slice a' (xs ++ [s]).length cp') w3) ∧ w3.ownsRow base 9 1 (.slice a' (xs ++ [s]).length cp') (xs ++ [s]).length ((xs ++ [s]).map .string) ∧ w.grownBy w3 (Value.slice a xs.length cp).ownBlock := by
  obtain ⟨i, z, hi, hz, hsz, hby, hzs⟩ := info9
  obtain ⟨v', w3, hr, hown, hgr, _⟩ := run_append_own (P := Tryz.prog) (w.alloc (.cells #[.string s] 9)) base 94 94 9 i z 1 16 Tryz.underlying94 hi hz hsz hby hzs (by omega) _ xs.length _ (ho.alloc _) ⟨w.heap.size, 0, none⟩ 1 1 [.string s] rfl (cell_one_new w (.string s) 9) (fun u hu => by simp at hu; subst hu; rfl) (by simp only [maxLen]; omega) (by omega) (by simp; omega)
  have e : (xs ++ [s]).length = xs.length + 1 := by simp
  have e2 : (xs ++ [s]).map Value.string = xs.map .string ++ [.string s] := by simp
  rw [e, e2]
  rcases hown.2 with ⟨_, e0⟩ | ⟨g, cap, cur, e0, _⟩
  · omega
  · subst e0
    exact ⟨_, _, w3, fun _ => hr, hown, (World.grownBy_alloc w _ _).trans hgr⟩
/-- What the loop over the names keeps. -/
def NamesR (mb B n : Nat) (D : DataW Unit) (p : ByteArray) (W : World) (x : Value) (wr : World) : Prop :=
  ∃ (xs : List ByteArray) (left : Lit → Bool) (cnt : Nat) (a : Option Addr) (cp : Nat), x = .slice a xs.length cp ∧ wr.ownsRow (B + 1) 9 1 (.slice a xs.length cp) xs.length (xs.map .string) ∧ Coll D p left xs ∧ wr.ranges Tryz.prog 9 fileElem mb B n D left cnt ∧ xs.length + cnt ≤ n ∧ B < wr.heap.size ∧ Below B W wr
theorem has_iff {w : World} {mb n : Nat} {D : DataW Unit} {L : ByteArray → Option Nat} (ho : w.ownsMap Tryz.prog 9 fileElem mb n D) {s : ByteArray} (hD : ∀ zd, D.atKey (.string s.data.toList) zd = atD (L s) zd) : Maps.has D (.string s.data.toList) = true ↔ (L s).isSome = true := by
  have hm : ∃ E, D = .map E := by
    obtain ⟨es, cl, hb, _, _, e⟩ := ho
    exact ⟨_, e⟩
  obtain ⟨E, rfl⟩ := hm
  simp only [DataW.atKey] at hD
  rw [Maps.has_eq]
  cases hf : List.find? (fun p => p.1.sameKey (Lit.string s.data.toList)) E with
  | none =>
    rw [hf] at hD
    have h1 : L s = none := by
      cases hq : L s with
      | none => rfl
      | some g =>
        have := hD .nil
        rw [hq] at this
        simp [atD] at this
    have h2 := List.find?_eq_none.1 hf
    rw [h1]
    simp only [Option.isSome_none, Bool.false_eq_true, iff_false]
    intro h3
    obtain ⟨p, hp, hs⟩ := List.any_eq_true.1 h3
    exact h2 p hp hs
  | some p =>
    rw [hf] at hD
    have h1 : ∃ g, L s = some g := by
      cases hq : L s with
      | some g => exact ⟨g, rfl⟩
      | none =>
        have a1 := hD .nil
        have a2 := hD (.map [])
        rw [hq] at a1 a2
        simp only [atD] at a1 a2
        rw [a1] at a2
        cases a2
    obtain ⟨g, hg⟩ := h1
    rw [hg]
    have h2 := List.find?_some hf
    exact ⟨fun _ => rfl, fun _ => List.any_eq_true.2 ⟨p, List.mem_of_find?_eq_some hf, h2⟩⟩
theorem has_le {w : World} {mb n : Nat} {D : DataW Unit} (ho : w.ownsMap Tryz.prog 9 fileElem mb n D) {s : ByteArray} (h : Maps.has D (.string s.data.toList) = true) : s.size ≤ maxLen := by
  obtain ⟨es, rfl, hk⟩ := ho.keysOf
  rw [Maps.has_eq] at h
  obtain ⟨p, hp, hs⟩ := List.any_eq_true.1 h
  obtain ⟨v, hv⟩ := hk p hp
  obtain ⟨x, _, hx, hl⟩ := Maps.keyOf_str Tryz.underlying9 hv
  have e := WideAt.sameKey_eq hs
  rw [hx] at e
  injection e with e
  have : s.size = x.length := by rw [e]; exact (Array.length_toList).symm
  rw [this]; exact hl
/-- What Names gives. -/
def NamesOut (f : Nat) (S : Fs) (O : Nat → Prop) (k : Nat) (p : ByteArray) (w : World) (e : Ending) (w' : World) : Prop :=
  ∃ (v : Value) (xs : List ByteArray), e = .returned v ∧ xs.Nodup ∧ (∀ s : ByteArray, s.size ≤ maxLen → (s ∈ xs ↔ ((S.now.N s).isSome = true ∧ pfx s p = true))) ∧ (∀ s ∈ xs, s.size ≤ maxLen) ∧ StrRow w.heap.size w' v (sortB xs) ∧ FsIs w' f 0 S O k ∧ Below w.heap.size w w'
set_option maxRecDepth 20000 in
set_option maxHeartbeats 2000000 in
theorem names_ok (f : Nat) (S : Fs) (O : Nat → Prop) (k : Nat) (p : ByteArray) (w : World) (h : FsIs w f 0 S O k) (hk : k ≤ 16000) (hNs : ∀ s i, S.now.N s = some i → s.size ≤ 300) :
    Calls Tryz.prog 132 #[.pointer (some ⟨f, 0, none⟩), .string p] w fun e w' => NamesOut f S O k p w e w' := by
  obtain ⟨K, n, l, pv, ps, hM, hnk, hex⟩ := h
  obtain ⟨h0, _, _, _, _, _, _, _, _, hz⟩ := hM.cells
  have hfl : f < w.heap.size := hM.lt f hM.of
  obtain ⟨W1, hW1⟩ : ∃ W1, W1 = w.setCell ⟨f, 0, none⟩ (.int .i32 1) := ⟨_, rfl⟩
  have hs1 : W1.heap.size = w.heap.size := by rw [hW1, size_set]
  have hM1 : FsM W1 f 1 S S.pend O K n l pv ps := by rw [hW1]; exact hM.lock 1
  obtain ⟨_, _, t3, _⟩ := hM1.cells
  have HL0 := hide (lock_free ⟨f, 0, none⟩ w h0 (hz 0))
  rw [← hW1] at HL0
  have HE : Hid (∀ W : World, Below W1.heap.size W1 W → FsIs (W.setCell ⟨f, 0, none⟩ (.int .i32 0)) f 0 S O k ∧ Below w.heap.size w (W.setCell ⟨f, 0, none⟩ (.int .i32 0)) ∧ W.cell? ⟨f, 0, none⟩ = some (.int .i32 1) ∧ W.frozen? ⟨f, 0, none⟩ = false) := fun W hb => by
    have hI : Inv (fun _ => False) (w.setCell ⟨f, 0, none⟩ (.int .i32 1)) W [] := by
      rw [← hW1]
      exact ⟨hb.os, hb.tape, hb.output, hb.size, fun q h1 _ => hb.block q h1, fun _ h => (by cases h), fun _ h => (by cases h)⟩
    obtain ⟨b1, b2, b3, b4⟩ := hM.back hI
    exact ⟨⟨K, n, l, pv, ps, b1, hnk, hex⟩, b2, b3, b4⟩
  have hT := hM1.now.tab
  have HS1 := hide hs1
  have HNS := hide hNs
  clear hNs
  have hnn : n.n ≤ 16000 := by have := hM1.now.nk; omega
  clear hM hM1 hz hW1 hs1
  generalize hmm : n.m = m at *
  cases m with
  | none =>
    have hN : ∀ s, (S.now.N s).map n.b = none := hT.tab
    have HS := hide (sort_any W1.heap.size none 0 [] (W1.alloc (.mapIter none 0 #[] 0)) (World.ownsRow_nil _ _ _ _) (by simp) (by simp))
    have HN := hide hN
    have hrg := run_range_nilMap (P := Tryz.prog) W1 87 9 130 Tryz.underlying87
    have hnx : ∀ ty, (Instr.next (.pointer (some ⟨W1.heap.size, 0, none⟩)) false ty).run Tryz.prog (W1.alloc (.mapIter none 0 #[] 0)) = _ := fun ty => run_next_nilMap W1 ty 0 0 #[]
    clear hT hN
    go_enter_defers Tryz.func132, Tryz.ntmps132
    go_wp2_with fail
    refine (unhide HL0).mono ?_
    rintro e w' ⟨rfl, rfl⟩
    go_wp2_with fail
    refine wp_loop_rounds 1 ?_
    rw [rounds_succ]
    go_wp2_with fail
    refine (unhide HS).mono ?_
    rintro e w2 ⟨rfl, hR2, hb2⟩
    have hb3 : Below w'.heap.size w' w2 := ((Below.refl _ _).alloc (Nat.le_refl _) _).trans hb2
    obtain ⟨e1, e2, c2, z2⟩ := unhide HE w2 hb3
    have HO : Hid (NamesOut f S O k p w (.returned (.slice none 0 0)) (w2.setCell ⟨f, 0, none⟩ (.int .i32 0))) :=
      ⟨_, [], rfl, List.nodup_nil, fun s _ => ⟨fun h => (by cases h), fun h => (by have := unhide HN s; cases hq : S.now.N s with | none => rw [hq] at h; simp at h | some i => rw [hq] at this; simp at this)⟩, fun s hs => (by cases hs), (unhide HS1 ▸ hR2).set hfl _, e1, e2⟩
    clear e1 e2 hR2 hb2 hb3
    go_wp2_with fail
    refine leaves_cons (f := 55) (args := #[.pointer (some ⟨f, 0, none⟩)]) (by simp) (by simp [go_sem]) ?_
    refine (unlock_deferred ⟨f, 0, none⟩ .returning _ c2 z2).mono ?_
    rintro e u' w7 ⟨rfl, rfl, rfl⟩
    refine ⟨_, results_tmp rfl _ _ _, ?_⟩
    exact unhide HO
  | some mb =>
    obtain ⟨D, ho, hD⟩ := hT.tab
    have hms := ho.size_le
    obtain ⟨B, hB⟩ : ∃ B, B = W1.heap.size := ⟨_, rfl⟩
    have hmb : mb < B := by
      obtain ⟨es, cl, hb, _⟩ := ho
      rw [hB]
      exact (Array.getElem?_eq_some_iff.1 hb).1
    have HO := hide ho
    have HD := hide hD
    have HB := hide hB
    clear hT ho hD hB
    go_enter_defers Tryz.func132, Tryz.ntmps132
    go_wp2_with fail
    refine (unhide HL0).mono ?_
    rintro e w' ⟨rfl, rfl⟩
    go_wp2_with (first | (at_range; refine wpList_range_own _ rfl _ 87 rfl 9 130 strK Tryz.underlying87 _ mb n.n _ rfl (unhide HO) ?_; rw [← unhide HB]; intro w0 hrg0 hg0 hs0) | go_in)
    go_frame
    go_loopw [5] (fun x wr => NamesR mb B n.n D p w' x wr) (fun _ wr => wr.rangeLeft mb B)
    case atStart =>
      refine ⟨[], _, _, none, 0, rfl, World.ownsRow_nil _ _ _ _, Coll.start D p, hrg0, by simpa using hms, by omega, ?_⟩
      rw [unhide HB]
      exact (Below.refl _ _).grown hg0 (Nat.le_refl _) (fun j hj => by cases hj)
    case round =>
      obtain ⟨xs, left, cnt, a, cp, rfl, hrow, hcoll, hrg, hcn, hBl, hbw⟩ := hrel
      have HC := hide hcoll
      clear hcoll
      go_wp2_with (first | (at_next; refine wpList_next_ranges _ rfl _ rfl 9 strK fileElem encStr ptr (fun key kl hk => by obtain ⟨x, hx, _⟩ := Maps.keyOf_str Tryz.underlying9 hk; exact ⟨x, hx⟩) fileElem_shape mb B n.n _ _ _ rfl hrg ?_ ?_) | go_in)
      · intro hc0 hl0
        have HSo := hide (sort_any (B + 1) a cp xs wr hrow (by omega) (by omega))
        have hHI : ∀ s : ByteArray, s.size ≤ maxLen → (Maps.has D (.string s.data.toList) = true ↔ (S.now.N s).isSome = true) := fun s hs => by
          have := has_iff (L := fun s => (S.now.N s).map n.b) (unhide HO) (unhide HD s hs)
          simpa using this
        have HX : Hid (xs.Nodup ∧ (∀ s : ByteArray, s.size ≤ maxLen → (s ∈ xs ↔ ((S.now.N s).isSome = true ∧ pfx s p = true))) ∧ ∀ s ∈ xs, s.size ≤ maxLen) :=
          ⟨(unhide HC).1, fun s hs => by rw [(unhide HC).2 s, hl0, hHI s hs]; simp, fun s hs => has_le (unhide HO) ((unhide HC).2 s |>.1 hs).1⟩
        have HR := hide hrow
        have HBW := hide hbw
        clear hrow hbw hrg hHI
        generalize hXL : xs.length = XL at *
        have HXL := hide hXL
        clear hXL
        go_wp2_with fail
        refine (unhide HSo).mono ?_
        rintro e w3 ⟨rfl, hR3, hb3⟩
        have hb4 : Below B w' w3 := (unhide HBW).trans ⟨hb3.os, hb3.tape, hb3.output, hb3.size, fun q hq => hb3.block q (by omega)⟩
        obtain ⟨e1, e2, c2, z2⟩ := unhide HE w3 (unhide HB ▸ hb4)
        have HF : Hid (NamesOut f S O k p w (.returned (.slice a XL cp)) (w3.setCell ⟨f, 0, none⟩ (.int .i32 0))) := by
          have hBw : B = w.heap.size := (unhide HB).trans (unhide HS1)
          obtain ⟨g1, g2, g3⟩ := unhide HX
          refine ⟨_, xs, rfl, g1, g2, g3, StrRow.set ?_ hfl _, e1, e2⟩
          obtain ⟨a', cp', r1, r2, r3⟩ := hR3
          exact ⟨a', cp', r1, r2, fun h0 => by obtain ⟨g, u1, u2, u3, u4⟩ := r3 h0; exact ⟨g, u1, by omega, u3, u4⟩⟩
        clear e1 e2 hR3 hb3 hb4
        go_wp2_with fail
        refine leaves_cons (f := 55) (args := #[.pointer (some ⟨f, 0, none⟩)]) (by simp) (by simp [go_sem]) ?_
        refine (unlock_deferred ⟨f, 0, none⟩ .returning _ c2 z2).mono ?_
        rintro e u' w7 ⟨rfl, rfl, rfl⟩
        refine ⟨_, results_tmp rfl _ _ _, ?_⟩
        exact unhide HF
      · intro x c kl yd yp w2 cnt2 hkey hlk hv hat hrg2 hlt hg2 hs2 hen
        obtain ⟨x', ex, rfl, hxl⟩ := Maps.keyOf_str Tryz.underlying9 hkey
        obtain rfl : x = x' := encStr_inj ex
        obtain ⟨q, hq⟩ : ∃ q : ByteArray, q = ⟨x.toArray⟩ := ⟨_, rfl⟩
        have hqe : encStr x = .string q := congrArg Value.string hq.symm
        rw [hqe] at hen ⊢
        have hqs : q.size ≤ maxLen := by rw [hq]; exact hxl
        have hqx : q.data.toList = x := congrArg (fun t : ByteArray => t.data.toList) hq
        have hbw2 : Below B w' w2 := hbw.grown hg2 (by omega) (fun j hj => by cases hj; exact Nat.le_refl _)
        have HR : Hid (w2.rangeLeft mb B < wr.rangeLeft mb B) := by rw [hrg2.left_eq, hrg.left_eq]; exact hlt
        have hhas : Maps.has D (.string q.data.toList) = true := by rw [hqx]; exact has_true_of_atKey hat
        have hlq : left (.string q.data.toList) = true := by rw [hqx]; exact hlk
        have hrow2 : w2.ownsRow (B + 1) 9 1 (.slice a xs.length cp) xs.length (xs.map .string) := by
          refine hrow.kept hg2 ?_
          cases ha : (Value.slice a xs.length cp).ownBlock with
          | none => exact .inl rfl
          | some g => exact .inr (fun e => by injection e with e; have := (hrow.lt g ha).1; omega)
        rw [← hqx] at hrg2
        have HPx := hide (prefix_any q p w2)
        have hq3 : q.size ≤ 300 := by
          have := (has_iff (L := fun s => (S.now.N s).map n.b) (unhide HO) (unhide HD q hqs)).1 hhas
          cases hN : S.now.N q with
          | none => simp [hN] at this
          | some i => exact unhide HNS q i hN
        have hsz2 : B < w2.heap.size := by omega
        have hRL2 := hrg2.left_eq
        unfold ptr at hen ⊢
        cases hpf : pfx q p with
        | false =>
          have HK : Hid (NamesR mb B n.n D p w' (.slice a xs.length cp) w2) := ⟨xs, _, cnt2, a, cp, rfl, hrow2, (unhide HC).skip hpf, hrg2, by omega, hsz2, hbw2⟩
          unfold pfx at hpf
          rw [hpf] at HPx
          clear hrow2 hrow hrg2 hrg hbw hbw2 hg2 hs2 hat hv hkey hhas hlq hlk hRL2
          cases c <;> simp only at hen ⊢
          all_goals
            go_wp2_with fail
            refine (unhide HPx).mono ?_
            rintro e w5 ⟨rfl, rfl⟩
            go_wp2_with fail
            go_roundw
            case rel => exact unhide HK
            case measure => exact unhide HR
        | true =>
          have HK : Hid (∀ w3 : World, Below w2.heap.size w2 w3 → ∃ a' cp' w4, (∀ ty, (app45 ty #[.slice a xs.length cp, .slice (some ⟨w3.heap.size, 0, none⟩) 1 1]).run Tryz.prog (w3.alloc (.cells #[.string q] 9)) = .ok (.slice a' (xs ++ [q]).length cp') w4) ∧ Hid (NamesR mb B n.n D p w' (.slice a' (xs ++ [q]).length cp') w4 ∧ w4.rangeLeft mb B = w2.rangeLeft mb B)) := fun w3 hb3 => by
            have hg3 : w2.grownBy w3 none := ⟨hb3.os, hb3.tape, hb3.output, hb3.size, fun j hj _ => hb3.block j hj⟩
            have hrow3 := hrow2.kept hg3 (by cases (Value.slice a xs.length cp).ownBlock <;> simp)
            have hz3 := hb3.size
            obtain ⟨a', cp', w4, hr, hown, hgr⟩ := strs_grow hrow3 (by omega) (by omega) q
            have hne : ∀ j, j ≤ B → some j ≠ (Value.slice a xs.length cp).ownBlock := fun j hj e => by have := (hrow.lt j e.symm).1; omega
            have hrg4 := (hrg2.kept hg3 (by simp) (by simp)).kept hgr (hne mb (by omega)) (hne B (Nat.le_refl _))
            have hz4 := hgr.size
            refine ⟨a', cp', w4, hr, ⟨xs ++ [q], _, cnt2, a', cp', rfl, hown, (unhide HC).take hpf hlq hhas, hrg4, by simp; omega, by omega, ?_⟩, ?_⟩
            · exact (hbw2.grown hg3 (by omega) (fun j hj => by cases hj)).grown hgr (by omega) (fun j hj => by have := (hrow.lt j hj).1; omega)
            · rw [hrg4.left_eq, hRL2]
          unfold pfx at hpf
          rw [hpf] at HPx
          have HCl := hide (clone_any q w2 (by omega))
          clear hrow2 hrow hrg2 hrg hbw hbw2 hg2 hs2 hat hv hkey hhas hlq hlk hRL2
          generalize (xs ++ [q]).length = XL2 at *
          generalize xs.length = XL at *
          cases c <;> simp only at hen ⊢
          all_goals
            go_wp2_with fail
            refine (unhide HPx).mono ?_
            rintro e w5 ⟨rfl, rfl⟩
            go_wp2_with fail
            refine (unhide HCl).mono ?_
            rintro e w3 ⟨rfl, hb3⟩
            obtain ⟨a', cp', w4, hr, hX⟩ := unhide HK w3 hb3
            clear hb3
            go_wp2_with fail
            go_roundw
            case rel => exact (unhide hX).1
            case measure => rw [(unhide hX).2]; exact unhide HR
end Go.Proofs.YtebcmicmklpflaaGreatDoor
/- partsFrom: no further parts. -/
namespace Go.Proofs.YtebcmicmklpflaaGreatDoor
open Go.RowKit Go.Maps
set_option linter.unusedSimpArgs false
/-- There is no file with the name of a further part. -/
def NoPart (T : Tb) (nm : ByteArray) : Prop := ∀ s : ByteArray, (T.N s).isSome = true → pfx s (nm ++ mark) = false
theorem names_nopart (f : Nat) (S : Fs) (O : Nat → Prop) (k : Nat) (nm : ByteArray) (w : World) (h : FsIs w f 0 S O k) (hk : k ≤ 16000) (hNs : ∀ s i, S.now.N s = some i → s.size ≤ 300) (hP : NoPart S.now nm) :
    Calls Tryz.prog 132 #[.pointer (some ⟨f, 0, none⟩), .string (nm ++ mark)] w fun e w' => ∃ a c, e = .returned (.slice a 0 c) ∧ FsIs w' f 0 S O k ∧ Below w.heap.size w w' := by
  refine (names_ok f S O k (nm ++ mark) w h hk hNs).mono fun e w' ⟨v, xs, e1, _, hx, hm, hr, hF, hb⟩ => ?_
  have hx0 : xs = [] := by
    cases xs with
    | nil => rfl
    | cons s xs =>
      have := (hx s (hm s (by simp))).1 (by simp)
      rw [hP s this.1] at this
      exact absurd this.2 (by simp)
  subst hx0
  obtain ⟨a, c, ev, _⟩ := hr
  exact ⟨a, c, by rw [e1, ev, sortB_length]; rfl, hF, hb⟩
set_option maxRecDepth 20000 in
theorem parts_none (j f : Nat) (p : Int) (S : Fs) (O : Nat → Prop) (k : Nat) (nm : ByteArray) (w : World) (h0 : w.cell? ⟨j, 0, none⟩ = some (.pointer (some ⟨f, 0, none⟩))) (h1 : w.cell? ⟨j, 1, none⟩ = some (.string nm)) (hn : nm.size ≤ 100) (h : FsIs w f 0 S O k) (hk : k ≤ 16000) (hNs : ∀ s i, S.now.N s = some i → s.size ≤ 300) (hP : NoPart S.now nm) :
    Calls Tryz.prog 99 #[.pointer (some ⟨j, 0, none⟩), .int .i64 p] w fun e w' => e = .returned (.slice none 0 0) ∧ FsIs w' f 0 S O k ∧ Below w.heap.size w w' := by
  have HN : Hid (Calls Tryz.prog 132 #[.pointer (some ⟨f, 0, none⟩), .string (nm ++ mark)] w.drew fun e w' => ∃ a c, e = .returned (.slice a 0 c) ∧ Hid (FsIs w' f 0 S O k ∧ Below w.heap.size w w')) :=
    (names_nopart f S O k nm w.drew h.drew hk hNs hP).mono fun e w' ⟨a, c, e1, hF, hb⟩ => ⟨a, c, e1, hF, hb.os, hb.tape, hb.output, hb.size, hb.block⟩
  have hs1 : ¬ (9223372036854775807 < nm.size + 6) := by omega
  clear h hk hNs hP hn
  go_enter Tryz.func99, Tryz.ntmps99
  go_wp2_with fail
  refine wp_region_noPanic ?_
  go_region_law (go_simp; refine (unhide HN).mono ?_; rintro e w5 ⟨a, c, rfl, HE⟩; simp only [])
  all_goals
    refine NoPanic.normal ?_
    go_wp2_with fail
    simp only [Act.put, List.getElem_toArray, List.getElem_cons_zero, List.getElem_cons_succ, List.setIfInBounds_toArray, List.set_cons_zero, List.set_cons_succ]
    go_loop [21, 5] (fun i s => i = .int .i64 0 ∧ s = .slice none 0 0) (fun _ _ => 0)
    case atStart => exact ⟨rfl, rfl⟩
    case round =>
      obtain ⟨rfl, rfl⟩ := hrel
      go_wp2_with fail
      go_ret
      exact ⟨rfl, unhide HE⟩
end Go.Proofs.YtebcmicmklpflaaGreatDoor
/- load: the groups that are there. -/
namespace Go.Proofs.YtebcmicmklpflaaGreatDoor
open Go.RowKit Go.Maps
set_option linter.unusedSimpArgs false
/-- A journal that is being opened. -/
def jn0 (p : Nat) : Jn := ⟨[], [], p, false⟩
abbrev jBlk0 (f : Nat) (nm : ByteArray) (p : Nat) : Obj := jnBlk f nm (jn0 p) (.slice none 0 0) (.slice none 0 0)
theorem jn0_cells {w : World} {j f : Nat} {nm : ByteArray} {p : Nat} (h : w.heap[j]? = some (jBlk0 f nm p)) : w.cell? ⟨j, 0, none⟩ = some (.pointer (some ⟨f, 0, none⟩)) ∧ w.cell? ⟨j, 1, none⟩ = some (.string nm) ∧ w.cell? ⟨j, 2, none⟩ = some (.int .i64 (p : Int)) ∧ w.cell? ⟨j, 3, none⟩ = some (.slice none 0 0) ∧ w.cell? ⟨j, 4, none⟩ = some (.bool false) ∧ ∀ i, w.frozen? ⟨j, i, none⟩ = false := by
  unfold jBlk0 jnBlk jn0 at h
  refine ⟨?_, ?_, ?_, ?_, ?_, fun i => ?_⟩
  all_goals first | (simp [World.cell?, h]; done) | (simp [World.frozen?, h]; done)
theorem jn0_parts {w : World} {j f : Nat} {nm : ByteArray} {p p' : Nat} (h : w.heap[j]? = some (jBlk0 f nm p)) : (w.setCell ⟨j, 2, none⟩ (.int .i64 (p' : Int))).heap[j]? = some (jBlk0 f nm p') := by
  unfold jBlk0 jnBlk jn0 at *
  simp [World.setCell, Array.getElem?_modify, h]
/-- What the loading ends with: the next part is not there, and there are no strays. -/
theorem load_end (j f : Nat) (S : Fs) (O : Nat → Prop) (k : Nat) (nm : ByteArray) (p : Nat) (W : World) (h : FsIs W f 0 S O k) (hj : W.heap[j]? = some (jBlk0 f nm p)) (hk : k ≤ 16000) (hn : nm.size ≤ 100) (hNs : ∀ s i, S.now.N s = some i → s.size ≤ 300) (hP : NoPart S.now nm) (hp : (p = 0 ∧ S.now.N nm = none) ∨ (p = 1 ∧ S.now.N (part1 nm) = none)) :
    ∃ s, Calls Tryz.prog 97 #[.pointer (some ⟨j, 0, none⟩), .int .i64 (p : Int)] W.drew fun e w1 => e = .returned (.string s) ∧ w1.cell? ⟨j, 0, none⟩ = some (.pointer (some ⟨f, 0, none⟩)) ∧ Hid (Calls Tryz.prog 30 #[.pointer (some ⟨f, 0, none⟩), .string s] w1 fun e w2 => e = .returned (.tuple #[.slice none 0 0, .int .i64 7]) ∧ w2.cell? ⟨j, 2, none⟩ = some (.int .i64 (p : Int)) ∧ Hid (Calls Tryz.prog 99 #[.pointer (some ⟨j, 0, none⟩), .int .i64 (p : Int)] w2 fun e w3 => e = .returned (.slice none 0 0) ∧ w3.cell? ⟨j, 3, none⟩ = some (.slice none 0 0) ∧ w3.frozen? ⟨j, 3, none⟩ = false ∧ w3.setCell ⟨j, 3, none⟩ (.slice none 0 0) = w3 ∧ Hid (FsIs w3 f 0 S O k ∧ Below W.heap.size W w3))) := by
  have hjl : j < W.heap.size := (Array.getElem?_eq_some_iff.1 hj).1
  have key : ∀ (s : ByteArray) (w1 : World), s.size ≤ maxLen → S.now.N s = none → Below W.heap.size W w1 → w1.cell? ⟨j, 0, none⟩ = some (.pointer (some ⟨f, 0, none⟩)) ∧ Hid (Calls Tryz.prog 30 #[.pointer (some ⟨f, 0, none⟩), .string s] w1 fun e w2 => e = .returned (.tuple #[.slice none 0 0, .int .i64 7]) ∧ w2.cell? ⟨j, 2, none⟩ = some (.int .i64 (p : Int)) ∧ Hid (Calls Tryz.prog 99 #[.pointer (some ⟨j, 0, none⟩), .int .i64 (p : Int)] w2 fun e w3 => e = .returned (.slice none 0 0) ∧ w3.cell? ⟨j, 3, none⟩ = some (.slice none 0 0) ∧ w3.frozen? ⟨j, 3, none⟩ = false ∧ w3.setCell ⟨j, 3, none⟩ (.slice none 0 0) = w3 ∧ Hid (FsIs w3 f 0 S O k ∧ Below W.heap.size W w3))) := fun s w1 hs hN hb1 => by
    have hj1 : w1.heap[j]? = some (jBlk0 f nm p) := by rw [hb1.block j hjl]; exact hj
    have hF1 : FsIs w1 f 0 S O k := h.kept hb1.size (fun q o => hb1.block q (h.lt q o))
    refine ⟨(jn0_cells hj1).1, (read_none f S O k s w1 hF1 hs hN).mono fun e w2 ⟨e1, hF2, hb2⟩ => ?_⟩
    have hb2' : Below W.heap.size W w2 := hb1.trans (hb2.mono hb1.size)
    have hj2 : w2.heap[j]? = some (jBlk0 f nm p) := by rw [hb2'.block j hjl]; exact hj
    obtain ⟨c0, c1, c2, _⟩ := jn0_cells hj2
    refine ⟨e1, c2, (parts_none j f p S O k nm w2 c0 c1 hn hF2 hk hNs hP).mono fun e w3 ⟨e3, hF3, hb3⟩ => ?_⟩
    have hb3' : Below W.heap.size W w3 := hb2'.trans (hb3.mono hb2'.size)
    have hj3 : w3.heap[j]? = some (jBlk0 f nm p) := by rw [hb3'.block j hjl]; exact hj
    obtain ⟨_, _, _, d3, _, dz⟩ := jn0_cells hj3
    exact ⟨e3, d3, dz 3, setCell_id d3, hF3, hb3'⟩
  have hbd : Below W.heap.size W W.drew := ⟨rfl, rfl, rfl, Nat.le_refl _, fun _ _ => rfl⟩
  have c1 : W.drew.cell? ⟨j, 1, none⟩ = some (.string nm) := (jn0_cells hj).2.1
  rcases hp with ⟨rfl, hN⟩ | ⟨rfl, hN⟩
  · refine ⟨nm, (part_zero j nm W.drew c1).mono ?_⟩
    rintro e w1 ⟨e1, rfl⟩
    exact ⟨e1, key nm _ (by simp only [maxLen]; omega) hN hbd⟩
  · refine ⟨part1 nm, (part_one j nm W.drew c1 hn).mono ?_⟩
    rintro e w1 ⟨e1, hb1⟩
    have hsz : (part1 nm).size = nm.size + 6 + 1 := by unfold part1; rw [ByteArray.size_append, ByteArray.size_append]; rfl
    exact ⟨e1, key _ _ (by rw [hsz]; simp only [maxLen]; omega) hN (hbd.trans hb1)⟩
set_option maxRecDepth 20000 in
set_option maxHeartbeats 1000000 in
theorem load_none (j f : Nat) (S : Fs) (O : Nat → Prop) (k : Nat) (nm : ByteArray) (w : World) (h : FsIs w f 0 S O k) (hj : w.heap[j]? = some (jBlk0 f nm 0)) (hk : k ≤ 16000) (hn : nm.size ≤ 100) (hNs : ∀ s i, S.now.N s = some i → s.size ≤ 300) (hP : NoPart S.now nm) (hN : S.now.N nm = none) :
    Calls Tryz.prog 49 #[.pointer (some ⟨j, 0, none⟩)] w fun e w' => e = .returned (.slice none 0 0) ∧ FsIs w' f 0 S O k ∧ Below w.heap.size w w' := by
  obtain ⟨s, hE⟩ := load_end j f S O k nm 0 w h hj hk hn hNs hP (.inl ⟨rfl, hN⟩)
  obtain ⟨c0, c1, c2, c3, c4, cz⟩ := jn0_cells hj
  have c0d : w.drew.cell? ⟨j, 0, none⟩ = some (.pointer (some ⟨f, 0, none⟩)) := c0
  have c2d : w.drew.cell? ⟨j, 2, none⟩ = some (.int .i64 ((0 : Nat) : Int)) := c2
  have HE := hide hE
  clear h hj hk hn hNs hP hN hE c0 c1 c3 cz
  simp only [Int.natCast_zero] at c2 c2d HE
  go_enter Tryz.func49, Tryz.ntmps49
  go_wp2_with fail
  go_loopw [3] (fun gv wr => gv = .slice none 0 0 ∧ wr = w) (fun _ _ => 0)
  case atStart => exact ⟨rfl, rfl⟩
  case round =>
    obtain ⟨rfl, rfl⟩ := hrel
    go_wp2_with fail
    refine wp_region_noPanic ?_
    go_region_law (go_simp; first | (refine (unhide HE).mono ?_; rintro e w1 ⟨rfl, d0, HR⟩; simp only []) | (refine (unhide HR).mono ?_; rintro e w2 ⟨rfl, d2, HQ⟩; simp only []))
    all_goals
      refine NoPanic.normal ?_
      go_wp2_with fail
      refine (unhide HQ).mono ?_
      rintro e w3 ⟨rfl, d3, dz, did, HF⟩
      go_wp2_with fail
      go_ret
      exact ⟨rfl, unhide HF⟩
end Go.Proofs.YtebcmicmklpflaaGreatDoor
