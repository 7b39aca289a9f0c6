/- Pending of a FS; a group that is loaded joins. -/
import Derived.Test.YtebcmicmklpflaaGreatDoorRl
namespace Go.Proofs.YtebcmicmklpflaaGreatDoor
open Go.RowKit Go.Maps
set_option linter.unusedSimpArgs false
set_option maxRecDepth 20000 in
set_option maxHeartbeats 1000000 in
theorem pending_ok (f : Nat) (S : Fs) (O : Nat → Prop) (k : Nat) (w : World) (h : FsIs w f 0 S O k) :
    Calls Tryz.prog 47 #[.pointer (some ⟨f, 0, none⟩)] w fun e w' => e = .returned (.int .i64 (S.pend.length : Int)) ∧ FsIs w' f 0 S O k ∧ Below w.heap.size w w' := by
  obtain ⟨K, n, l, pv, ps, hM, hnk⟩ := h
  obtain ⟨h0, _, _, _, _, _, _, _, _, hz⟩ := hM.cells
  obtain ⟨W1, hW1⟩ : ∃ W1, W1 = w.setCell ⟨f, 0, none⟩ (.int .i32 1) := ⟨_, rfl⟩
  have hM1 : FsM W1 f 1 S S.pend O K n l pv ps := by rw [hW1]; exact hM.lock 1
  obtain ⟨_, _, _, _, _, _, t7, _⟩ := hM1.cells
  obtain ⟨pa, pc, ep⟩ := row_shape hM.row
  have HL0 := hide (lock_free ⟨f, 0, none⟩ w h0 (hz 0))
  rw [← hW1] at HL0
  obtain ⟨b1, b2, c2, z2⟩ := hM.back (Inv.refl _ _)
  rw [← hW1] at b1 b2 c2 z2
  have HE : Hid (FsIs (W1.setCell ⟨f, 0, none⟩ (.int .i32 0)) f 0 S O k ∧ Below w.heap.size w (W1.setCell ⟨f, 0, none⟩ (.int .i32 0))) := ⟨⟨K, n, l, pv, ps, b1, hnk⟩, b2⟩
  rw [ep] at t7
  clear hM hM1 hW1 hz b1 b2 ep
  go_enter_defers Tryz.func47, Tryz.ntmps47
  go_wp2_with fail
  refine (unhide HL0).mono ?_
  rintro e w' ⟨rfl, rfl⟩
  go_wp2_with fail
  refine leaves_cons (f := 55) (args := #[.pointer (some ⟨f, 0, none⟩)]) (by simp) (by simp [go_sem]) ?_
  refine (unlock_deferred ⟨f, 0, none⟩ .returning _ c2 z2).mono ?_
  rintro e u' w3 ⟨rfl, rfl, rfl⟩
  exact ⟨_, results_tmp rfl _ _ _, rfl, (unhide HE).1, (unhide HE).2⟩
set_option maxRecDepth 20000 in
set_option maxHeartbeats 1000000 in
theorem take_any (j f : Nat) (nm : ByteArray) (J : Jn) (O OX : Nat → Prop) (gv lv : Value) (qs : List Nat) (q : Nat) (ds : List (List UInt8)) (w : World) (h : GM w j f nm J O gv lv qs) (hG : Grp w OX q (lastq qs) ds (digs z32 J.G)) (hXj : ¬ OX j) (hXl : ∀ b, OX b → b < w.heap.size) (hn : J.G.length ≤ 10000) (hl : ds.length ≤ 100000) (hwt : wt ds ≤ 10000000) (hws : wts J.G ≤ 10000000) :
    Calls Tryz.prog 50 #[.pointer (some ⟨j, 0, none⟩), .pointer (some ⟨q, 0, none⟩)] w fun e w' => e = .returned (.tuple #[]) ∧ ∃ gv', GM w' j f nm { J with G := J.G ++ [ds] } (more (fun b => O b ∨ OX b) w w') gv' lv (qs ++ [q]) ∧ w.heap.size ≤ w'.heap.size ∧ ((∀ b, b < w.heap.size → gv.ownBlock ≠ some b → b ≠ j → w'.heap[b]? = w.heap[b]?) ∧ (gv'.ownBlock = gv.ownBlock ∨ ∃ b, gv'.ownBlock = some b ∧ w.heap.size ≤ b)) ∧ w'.os = w.os ∧ w'.tape = w.tape ∧ w'.output = w.output := by
  obtain ⟨gv', w3, hr, hgw⟩ := ptr_grow h.row (by omega) (ptrV q) rfl
  obtain ⟨hj3, hM, hz, hold⟩ := h.took hG hXj hXl hgw
  obtain ⟨_, _, _, c6, c7, _, _, _, cz⟩ := jn_cells h.blk
  obtain ⟨_, _, _, d6, d7, _, _, _, dz⟩ := jn_cells hj3
  have z6 := dz 6
  have z7 := dz 7
  obtain ⟨ga, gc, eg⟩ := h.shapes
  obtain ⟨ga', gc', eg'⟩ := hgw.shp
  obtain ⟨hoq, rv, hqb, hRv⟩ := hG
  have hqj : q ≠ j := fun e => hXj (e ▸ hoq)
  have hql := hXl q hoq
  have hqr : gv.ownBlock ≠ some q := fun e => by
    obtain ⟨cur, hc⟩ := row_tag h.row q e
    rw [hqb] at hc
    injection hc with hc
    injection hc with _ hc
    exact absurd hc (by decide)
  have hb4 : ∀ b, b < w.heap.size → gv.ownBlock ≠ some b → b ≠ j → (w3.setCell ⟨j, 6, none⟩ gv').heap[b]? = w.heap[b]? := fun b h1 h2 h3 => by rw [set_other _ _ _ _ _ h3]; exact hgw.gr.block b h1 (fun e => h2 e.symm)
  have HWe : Hid (∀ p, Calls Tryz.prog 100 #[.pointer (some ⟨q, 0, none⟩)] ((w3.setCell ⟨j, 6, none⟩ gv').drewN p) fun e w' => e = .returned (.int .i64 (wt ds : Int)) ∧ w' = (w3.setCell ⟨j, 6, none⟩ gv').drewN p) := fun p => by
    have hq4 : (w3.setCell ⟨j, 6, none⟩ gv').heap[q]? = some (grpBlk (lastq qs) rv 1 0 (nats (dig (digs z32 J.G) ds))) := by rw [hb4 q hql hqr hqj]; exact hqb
    exact weight_ok q OX rv ds _ (grp_cells (w := (w3.setCell ⟨j, 6, none⟩ gv').drewN p) hq4).2.1 (hRv.keptT (fun _ o => o) (fun b x t hb hx ht => hb4 b (hXl b hb) (fun e => by
      obtain ⟨cur, hc⟩ := row_tag h.row b e
      rw [hx] at hc
      injection hc with hc
      injection hc with _ hc
      rcases ht with rfl | rfl | rfl <;> exact absurd hc (by decide)) (fun e => hXj (e ▸ hb)))) hl (by omega)
  have HE : Hid (∀ p, ∃ gv'', GM (((w3.setCell ⟨j, 6, none⟩ gv').drewN p).setCell ⟨j, 7, none⟩ (.int .i64 ((wts J.G + wt ds : Nat) : Int))) j f nm { J with G := J.G ++ [ds] } (more (fun b => O b ∨ OX b) w (((w3.setCell ⟨j, 6, none⟩ gv').drewN p).setCell ⟨j, 7, none⟩ (.int .i64 ((wts J.G + wt ds : Nat) : Int)))) gv'' lv (qs ++ [q]) ∧ w.heap.size ≤ (((w3.setCell ⟨j, 6, none⟩ gv').drewN p).setCell ⟨j, 7, none⟩ (.int .i64 ((wts J.G + wt ds : Nat) : Int))).heap.size ∧ ((∀ b, b < w.heap.size → gv.ownBlock ≠ some b → b ≠ j → (((w3.setCell ⟨j, 6, none⟩ gv').drewN p).setCell ⟨j, 7, none⟩ (.int .i64 ((wts J.G + wt ds : Nat) : Int))).heap[b]? = w.heap[b]?) ∧ (gv''.ownBlock = gv.ownBlock ∨ ∃ b, gv''.ownBlock = some b ∧ w.heap.size ≤ b)) ∧ (((w3.setCell ⟨j, 6, none⟩ gv').drewN p).setCell ⟨j, 7, none⟩ (.int .i64 ((wts J.G + wt ds : Nat) : Int))).os = w.os ∧ (((w3.setCell ⟨j, 6, none⟩ gv').drewN p).setCell ⟨j, 7, none⟩ (.int .i64 ((wts J.G + wt ds : Nat) : Int))).tape = w.tape ∧ (((w3.setCell ⟨j, 6, none⟩ gv').drewN p).setCell ⟨j, 7, none⟩ (.int .i64 ((wts J.G + wt ds : Nat) : Int))).output = w.output) := fun p => by
    refine ⟨gv', ?_, ?_, ⟨fun b h1 h2 h3 => by rw [set_other _ _ _ _ _ h3]; show (w3.setCell ⟨j, 6, none⟩ gv').heap[b]? = _; exact hb4 b h1 h2 h3, hgw.loc⟩, hgw.gr.os, hgw.gr.tape, hgw.gr.output⟩
    · have hmo : more (fun b => O b ∨ OX b) w (((w3.setCell ⟨j, 6, none⟩ gv').drewN p).setCell ⟨j, 7, none⟩ (.int .i64 ((wts J.G + wt ds : Nat) : Int))) = more (fun b => O b ∨ OX b) w w3 := by
        unfold more
        rw [size_set]
        show (fun q => _ ∨ (_ ∧ q < (w3.setCell ⟨j, 6, none⟩ gv').heap.size)) = _
        rw [size_set]
      rw [hmo]
      exact hM.kept (by simp only [size_set]; show w3.heap.size ≤ (w3.setCell ⟨j, 6, none⟩ gv').heap.size; rw [size_set]; exact Nat.le_refl _) rfl (fun _ _ => rfl)
    · rw [size_set]
      show _ ≤ (w3.setCell ⟨j, 6, none⟩ gv').heap.size
      rw [size_set]; exact hz
  have hD : IntKind.i64.wrap ((wts J.G : Int) + (wt ds : Int)) = (wts J.G : Int) + (wt ds : Int) := IntWalk.i64_in _ (by omega)
  have hc7 : (w3.setCell ⟨j, 6, none⟩ gv').cell? ⟨j, 7, none⟩ = some (.int .i64 (wts J.G : Int)) := by rw [World.cell?_setCell_other _ ⟨j, 6, none⟩ ⟨j, 7, none⟩ _ (by simp)]; exact d7
  have HP : Hid (((wts J.G + wt ds : Nat) : Int) = (wts J.G : Int) + (wt ds : Int)) := Int.natCast_add _ _
  subst eg eg'
  unfold ptrV at hr
  clear h hM hgw hqb hRv hold hb4 hj3 dz cz hws hwt hl hn hqr hXl hXj hoq
  generalize hA : wts J.G = A at *
  generalize hB : wt ds = B at *
  generalize hNG : J.G.length = NG at *
  clear hA hB
  have hz7 : (w3.setCell ⟨j, 6, none⟩ (.slice ga' (NG + 1) gc')).frozen? ⟨j, 7, none⟩ = false := by rw [World.frozen?_setCell]; exact z7
  obtain ⟨W4, hW4⟩ : ∃ W4, W4 = w3.setCell ⟨j, 6, none⟩ (.slice ga' (NG + 1) gc') := ⟨_, rfl⟩
  rw [← hW4] at HWe HE hc7 hz7
  have hc7d : W4.drew.cell? ⟨j, 7, none⟩ = some (.int .i64 (A : Int)) := hc7
  have hz7d : W4.drew.frozen? ⟨j, 7, none⟩ = false := hz7
  have HW4 := hide hW4
  clear hW4
  go_enter Tryz.func50, Tryz.ntmps50
  go_wp2_with fail
  rw [← unhide HW4]
  refine wp_region_noPanic ?_
  go_region_with ((go_at_call 100; refine Calls.mono (unhide HWe 1) ?_; rintro e w5 ⟨rfl, rfl⟩))
  all_goals
    refine NoPanic.normal ?_
    go_wp2_with fail
    go_end0
    have := unhide HE 1
    rw [unhide HP] at this
    exact ⟨rfl, this⟩
end Go.Proofs.YtebcmicmklpflaaGreatDoor
