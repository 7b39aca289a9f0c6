import Derived.Test.YtebcmicmklpflaaGreatDoorK10
/- load, where there is a file with groups. -/
namespace Go.Proofs.YtebcmicmklpflaaGreatDoor
open Go.RowKit Go.Maps
set_option linter.unusedSimpArgs false
/-- Groups that are loaded: all of them behind w, and of what was there only the journal's block is another one. -/
structure LG (w W : World) (j : Nat) (gv : Value) (qs : List Nat) (G : List (List (List UInt8))) : Prop where
  os : W.os = w.os
  tape : W.tape = w.tape
  output : W.output = w.output
  size : w.heap.size ≤ W.heap.size
  rest : ∀ b, b < w.heap.size → b ≠ j → W.heap[b]? = w.heap[b]?
  row : W.ownsRow 0 104 1 gv qs.length (qs.map ptrV)
  rown : ∀ q, gv.ownBlock = some q → w.heap.size ≤ q ∧ q < W.heap.size
  ch : Chain W (fun b => w.heap.size ≤ b ∧ b < W.heap.size) none z32 qs G
theorem LG.below {w W W' : World} {j : Nat} {gv : Value} {qs : List Nat} {G : List (List (List UInt8))} (h : LG w W j gv qs G) (hb : Below W.heap.size W W') : LG w W' j gv qs G :=
  ⟨hb.os.trans h.os, hb.tape.trans h.tape, hb.output.trans h.output, Nat.le_trans h.size hb.size, fun b h1 h2 => (hb.block b (Nat.lt_of_lt_of_le h1 h.size)).trans (h.rest b h1 h2), ownsRow_kept h.row (fun q e => hb.block q (h.rown q e).2), fun q e => ⟨(h.rown q e).1, Nat.lt_of_lt_of_le (h.rown q e).2 hb.size⟩, h.ch.kept (fun _ o => ⟨o.1, Nat.lt_of_lt_of_le o.2 hb.size⟩) (fun q o => hb.block q o.2)⟩
/-- Behind the first part. -/
def Mid (w W : World) (j f : Nat) (nm : ByteArray) (S : Fs) (O : Nat → Prop) (k : Nat) (gv : Value) (G : List (List (List UInt8))) : Prop := FsIs W f 0 S O k ∧ W.heap[j]? = some (jBlk0 f nm 1) ∧ ∃ qs, LG w W j gv qs G
theorem load_first (j f : Nat) (S : Fs) (O : Nat → Prop) (k i : Nat) (nm : ByteArray) (G : List (List (List UInt8))) (w : World) (h : FsIs w f 0 S O k) (hj : w.heap[j]? = some (jBlk0 f nm 0)) (hOj : ¬ O j) (hn : nm.size ≤ 100) (hN : S.now.N nm = some i) (hD : S.now.D i = encs z32 G) (hG : G ≠ []) (hl : G.length ≤ 10000) (hds : ∀ d ∈ G, d.length ≤ 100000 ∧ wt d ≤ 10000000) :
    ∃ n : Nat, Calls Tryz.prog 30 #[.pointer (some ⟨f, 0, none⟩), .string nm] w.drew fun e w2 => ∃ g c, e = .returned (.tuple #[.slice (some ⟨g, 0, none⟩) n c, .int .i64 0]) ∧ Hid (Calls Tryz.prog 98 #[.slice none 0 0, .slice (some ⟨g, 0, none⟩) n c] w2 fun e w4 => ∃ ga NG gc, e = .returned (.tuple #[.slice ga NG gc, .int .i64 (n : Int)]) ∧ w4.cell? ⟨j, 2, none⟩ = some (.int .i64 0) ∧ w4.frozen? ⟨j, 2, none⟩ = false ∧ Hid (Mid w (w4.setCell ⟨j, 2, none⟩ (.int .i64 1)) j f nm S O k (.slice ga NG gc) G)) := by
  have hjl : j < w.heap.size := (Array.getElem?_eq_some_iff.1 hj).1
  have hlen : 0 < (encs z32 G).length := by
    cases G with
    | nil => exact absurd rfl hG
    | cons d G => simp only [encs, List.length_append, enc_len]; omega
  refine ⟨(encs z32 G).length, (read_ok f S O k nm i w.drew h.drew (by simp only [maxLen]; omega) hN).mono fun e w2 ⟨a, c, L, e1, hnd, hL, hF, hb⟩ => ?_⟩
  rw [hD] at e1 hnd
  rcases hnd with ⟨_, _, e0⟩ | ⟨g, cap, cur, eL, ev, hlo, hle, hcap, hcs, htk⟩
  · rw [e0] at hlen; simp at hlen
  · rw [ev] at e1
    refine ⟨g, cap, e1, ?_⟩
    subst eL
    have hg := hL _ (List.mem_singleton.2 rfl)
    have hgl : g < w2.heap.size := (Array.getElem?_eq_some_iff.1 hg).1
    have hLi : Lies w2 g 0 (encs z32 G) := fun i u hi => by
      have hi' := (List.getElem?_eq_some_iff.1 hi).1
      rw [byteVals_len] at hi'
      rw [← htk, List.getElem?_take_of_lt hi'] at hi
      show w2.cell? ⟨g, 0 + i, none⟩ = some u
      rw [Nat.zero_add, World.cell?]
      simp only [hg]
      simpa using hi
    refine (read_groups g 0 cap G w2 hLi hgl hle (by simpa [maxLen] using hcap) hl hds).mono fun e w4 ⟨gv, qs, e4, hR⟩ => ?_
    obtain ⟨ga, gc, egv⟩ := row_shape hR.row
    have hb' : Below w.heap.size w w2 := ⟨hb.os, hb.tape, hb.output, hb.size, hb.block⟩
    have hb4 : Below w.heap.size w w4 := hb'.trans (hR.bel.mono hb'.size)
    have hj4 : w4.heap[j]? = some (jBlk0 f nm 0) := by rw [hb4.block j hjl]; exact hj
    obtain ⟨_, _, c2, _, _, cz⟩ := jn0_cells hj4
    have hz2 := hb'.size
    have hset : ∀ b, b ≠ j → (w4.setCell ⟨j, 2, none⟩ (.int .i64 1)).heap[b]? = w4.heap[b]? := fun b hb => set_other _ _ _ _ _ hb
    subst egv
    refine ⟨ga, qs.length, gc, e4, c2, cz 2, ?_, jn0_parts (p' := 1) hj4, qs, ?_⟩
    · have hF4 : FsIs w4 f 0 S O k := hF.kept hR.bel.size (fun q o => hR.bel.block q (hF.lt q o))
      exact hF4.kept (by rw [size_set]; exact Nat.le_refl _) (fun q o => hset q (fun e => hOj (e ▸ o)))
    · refine ⟨hb4.os, hb4.tape, hb4.output, by rw [size_set]; exact hb4.size, fun b h1 h2 => (hset b h2).trans (hb4.block b h1), ownsRow_kept hR.row (fun q e => hset q (fun e2 => by have := (hR.rown q e).1; omega)), fun q e => by rw [size_set]; exact ⟨by have := (hR.rown q e).1; omega, (hR.rown q e).2⟩, hR.ch.kept (fun q o => by rw [size_set]; exact ⟨by have := o.1; omega, o.2⟩) (fun q o => hset q (fun e2 => by have := o.1; omega))⟩
set_option maxRecDepth 20000 in
set_option maxHeartbeats 1000000 in
theorem load_some (j f : Nat) (S : Fs) (O : Nat → Prop) (k i : Nat) (nm : ByteArray) (G : List (List (List UInt8))) (w : World) (h : FsIs w f 0 S O k) (hj : w.heap[j]? = some (jBlk0 f nm 0)) (hOj : ¬ O j) (hk : k ≤ 16000) (hn : nm.size ≤ 100) (hNs : ∀ s i, S.now.N s = some i → s.size ≤ 300) (hP : NoPart S.now nm) (hP1 : S.now.N (part1 nm) = none) (hN : S.now.N nm = some i) (hD : S.now.D i = encs z32 G) (hG : G ≠ []) (hl : G.length ≤ 10000) (hds : ∀ d ∈ G, d.length ≤ 100000 ∧ wt d ≤ 10000000) :
    Calls Tryz.prog 49 #[.pointer (some ⟨j, 0, none⟩)] w fun e w' => ∃ gv, e = .returned gv ∧ Mid w w' j f nm S O k gv G := by
  obtain ⟨n, h30⟩ := load_first j f S O k i nm G w h hj hOj hn hN hD hG hl hds
  have HR := hide h30
  have HP := hide (part_zero j nm w.drew (jn0_cells hj).2.1)
  have HMid : Hid (∀ gv W, Mid w W j f nm S O k gv G → W.cell? ⟨j, 0, none⟩ = some (.pointer (some ⟨f, 0, none⟩)) ∧ W.cell? ⟨j, 2, none⟩ = some (.int .i64 1) ∧ W.cell? ⟨j, 4, none⟩ = some (.bool false) ∧ ∃ s, Hid (Calls Tryz.prog 97 #[.pointer (some ⟨j, 0, none⟩), .int .i64 1] W.drew fun e w1 => e = .returned (.string s) ∧ w1.cell? ⟨j, 0, none⟩ = some (.pointer (some ⟨f, 0, none⟩)) ∧ Hid (Calls Tryz.prog 30 #[.pointer (some ⟨f, 0, none⟩), .string s] w1 fun e w2 => e = .returned (.tuple #[.slice none 0 0, .int .i64 7]) ∧ w2.cell? ⟨j, 2, none⟩ = some (.int .i64 1) ∧ Hid (Calls Tryz.prog 99 #[.pointer (some ⟨j, 0, none⟩), .int .i64 1] w2 fun e w3 => e = .returned (.slice none 0 0) ∧ w3.cell? ⟨j, 3, none⟩ = some (.slice none 0 0) ∧ w3.frozen? ⟨j, 3, none⟩ = false ∧ w3.setCell ⟨j, 3, none⟩ (.slice none 0 0) = w3 ∧ Hid (Mid w w3 j f nm S O k gv G))))) := fun gv W ⟨hF, hjW, qs, hLG⟩ => by
    obtain ⟨c0, _, c2, _, c4, _⟩ := jn0_cells hjW
    obtain ⟨s, hE⟩ := load_end j f S O k nm 1 W hF hjW hk hn hNs hP (.inr ⟨rfl, hP1⟩)
    have hjl : j < W.heap.size := (Array.getElem?_eq_some_iff.1 hjW).1
    refine ⟨c0, c2, c4, s, hE.mono fun e w1 ⟨e1, h1, h2⟩ => ⟨e1, h1, (unhide h2).mono fun e w2 ⟨e2, h3, h4⟩ => ⟨e2, h3, (unhide h4).mono fun e w3 ⟨e3, h5, h6, h7, h8⟩ => ⟨e3, h5, h6, h7, h8.1, ?_, qs, hLG.below h8.2⟩⟩⟩⟩
    rw [h8.2.block j hjl]; exact hjW
  obtain ⟨c0, c1, c2, c3, c4, cz⟩ := jn0_cells hj
  have c0d : w.drew.cell? ⟨j, 0, none⟩ = some (.pointer (some ⟨f, 0, none⟩)) := c0
  have c2d : w.drew.cell? ⟨j, 2, none⟩ = some (.int .i64 ((0 : Nat) : Int)) := c2
  clear h hj hOj hk hn hNs hP hP1 hN hD hG hl hds h30 c0 c1 c3 cz
  simp only [Int.natCast_zero] at c2 c2d
  go_enter Tryz.func49, Tryz.ntmps49
  go_wp2_with fail
  go_loopw [3] (fun gv wr => (gv = .slice none 0 0 ∧ wr = w) ∨ Mid w wr j f nm S O k gv G) (fun _ wr => 2 - (intOf ((wr.cell? ⟨j, 2, none⟩).getD (.int .i64 0))).toNat)
  case atStart => exact .inl ⟨rfl, rfl⟩
  case round =>
    rcases hrel with ⟨rfl, rfl⟩ | hM
    · clear HMid
      go_wp2_with fail
      refine wp_region_noPanic ?_
      go_region_law (go_simp; first | (refine (unhide HP).mono ?_; rintro e w1 ⟨rfl, rfl⟩; simp only []) | (refine (unhide HR).mono ?_; rintro e w2 ⟨g, c, rfl, HQ⟩; simp only []))
      all_goals
        refine NoPanic.normal ?_
        go_wp2_with fail
        refine (unhide HQ).mono ?_
        rintro e w4 ⟨ga, NG, gc, rfl, d2, dz, HF⟩
        go_wp2_with fail
        refine ⟨.inr (unhide HF), ?_⟩
        have e1 : (w4.setCell ⟨j, 2, none⟩ (.int .i64 1)).cell? ⟨j, 2, none⟩ = some (.int .i64 1) := (jn0_cells (unhide HF).2.1).2.2.1
        rw [e1, c2]
        simp [intOf]
    · obtain ⟨m0, m2, m4, s, HE⟩ := unhide HMid _ _ hM
      clear HMid HR HP c2 c2d c0d c4
      have m0d : wr.drew.cell? ⟨j, 0, none⟩ = some (.pointer (some ⟨f, 0, none⟩)) := m0
      have m2d : wr.drew.cell? ⟨j, 2, none⟩ = some (.int .i64 1) := m2
      go_wp2_with fail
      refine wp_region_noPanic ?_
      go_region_law (go_simp; first | (refine (unhide HE).mono ?_; rintro e w1 ⟨rfl, d0, HR⟩; simp only []) | (refine (unhide HR).mono ?_; rintro e w2 ⟨rfl, d2, HQ⟩; simp only []))
      all_goals
        refine NoPanic.normal ?_
        go_wp2_with fail
        refine (unhide HQ).mono ?_
        rintro e w3 ⟨rfl, d3, dz, did, HF⟩
        go_wp2_with fail
        go_ret
        exact ⟨_, rfl, unhide HF⟩
end Go.Proofs.YtebcmicmklpflaaGreatDoor
/- Pending of a FS; a group that is loaded joins. -/
namespace Go.Proofs.YtebcmicmklpflaaGreatDoor
open Go.RowKit Go.Maps
set_option linter.unusedSimpArgs false
set_option maxRecDepth 20000 in
set_option maxHeartbeats 1000000 in
theorem pending_ok (f : Nat) (S : Fs) (O : Nat → Prop) (k : Nat) (w : World) (h : FsIs w f 0 S O k) :
    Calls Tryz.prog 47 #[.pointer (some ⟨f, 0, none⟩)] w fun e w' => e = .returned (.int .i64 (S.pend.length : Int)) ∧ FsIs w' f 0 S O k ∧ Below w.heap.size w w' := by
  obtain ⟨K, n, l, pv, ps, hM, hnk⟩ := h
  obtain ⟨h0, _, _, _, _, _, _, _, _, hz⟩ := hM.cells
  obtain ⟨W1, hW1⟩ : ∃ W1, W1 = w.setCell ⟨f, 0, none⟩ (.int .i32 1) := ⟨_, rfl⟩
  have hM1 : FsM W1 f 1 S S.pend O K n l pv ps := by rw [hW1]; exact hM.lock 1
  obtain ⟨_, _, _, _, _, _, t7, _⟩ := hM1.cells
  obtain ⟨pa, pc, ep⟩ := row_shape hM.row
  have HL0 := hide (lock_free ⟨f, 0, none⟩ w h0 (hz 0))
  rw [← hW1] at HL0
  obtain ⟨b1, b2, c2, z2⟩ := hM.back (Inv.refl _ _)
  rw [← hW1] at b1 b2 c2 z2
  have HE : Hid (FsIs (W1.setCell ⟨f, 0, none⟩ (.int .i32 0)) f 0 S O k ∧ Below w.heap.size w (W1.setCell ⟨f, 0, none⟩ (.int .i32 0))) := ⟨⟨K, n, l, pv, ps, b1, hnk⟩, b2⟩
  rw [ep] at t7
  clear hM hM1 hW1 hz b1 b2 ep
  go_enter_defers Tryz.func47, Tryz.ntmps47
  go_wp2_with fail
  refine (unhide HL0).mono ?_
  rintro e w' ⟨rfl, rfl⟩
  go_wp2_with fail
  refine leaves_cons (f := 55) (args := #[.pointer (some ⟨f, 0, none⟩)]) (by simp) (by simp [go_sem]) ?_
  refine (unlock_deferred ⟨f, 0, none⟩ .returning _ c2 z2).mono ?_
  rintro e u' w3 ⟨rfl, rfl, rfl⟩
  exact ⟨_, results_tmp rfl _ _ _, rfl, (unhide HE).1, (unhide HE).2⟩
set_option maxRecDepth 20000 in
set_option maxHeartbeats 1000000 in
theorem take_any (j f : Nat) (nm : ByteArray) (J : Jn) (O OX : Nat → Prop) (gv lv : Value) (qs : List Nat) (q : Nat) (ds : List (List UInt8)) (w : World) (h : GM w j f nm J O gv lv qs) (hG : Grp w OX q (lastq qs) ds (digs z32 J.G)) (hXj : ¬ OX j) (hXl : ∀ b, OX b → b < w.heap.size) (hn : J.G.length ≤ 10000) (hl : ds.length ≤ 100000) (hwt : wt ds ≤ 10000000) (hws : wts J.G ≤ 10000000) :
    Calls Tryz.prog 50 #[.pointer (some ⟨j, 0, none⟩), .pointer (some ⟨q, 0, none⟩)] w fun e w' => e = .returned (.tuple #[]) ∧ ∃ gv', GM w' j f nm { J with G := J.G ++ [ds] } (more (fun b => O b ∨ OX b) w w') gv' lv (qs ++ [q]) ∧ w.heap.size ≤ w'.heap.size ∧ ((∀ b, b < w.heap.size → gv.ownBlock ≠ some b → b ≠ j → w'.heap[b]? = w.heap[b]?) ∧ (gv'.ownBlock = gv.ownBlock ∨ ∃ b, gv'.ownBlock = some b ∧ w.heap.size ≤ b)) ∧ w'.os = w.os ∧ w'.tape = w.tape ∧ w'.output = w.output := by
  obtain ⟨gv', w3, hr, hgw⟩ := ptr_grow h.row (by omega) (ptrV q) rfl
  obtain ⟨hj3, hM, hz, hold⟩ := h.took hG hXj hXl hgw
  obtain ⟨_, _, _, c6, c7, _, _, _, cz⟩ := jn_cells h.blk
  obtain ⟨_, _, _, d6, d7, _, _, _, dz⟩ := jn_cells hj3
  have z6 := dz 6
  have z7 := dz 7
  obtain ⟨ga, gc, eg⟩ := h.shapes
  obtain ⟨ga', gc', eg'⟩ := hgw.shp
  obtain ⟨hoq, rv, hqb, hRv⟩ := hG
  have hqj : q ≠ j := fun e => hXj (e ▸ hoq)
  have hql := hXl q hoq
  have hqr : gv.ownBlock ≠ some q := fun e => by
    obtain ⟨cur, hc⟩ := row_tag h.row q e
    rw [hqb] at hc
    injection hc with hc
    injection hc with _ hc
    exact absurd hc (by decide)
  have hb4 : ∀ b, b < w.heap.size → gv.ownBlock ≠ some b → b ≠ j → (w3.setCell ⟨j, 6, none⟩ gv').heap[b]? = w.heap[b]? := fun b h1 h2 h3 => by rw [set_other _ _ _ _ _ h3]; exact hgw.gr.block b h1 (fun e => h2 e.symm)
  have HWe : Hid (∀ p, Calls Tryz.prog 100 #[.pointer (some ⟨q, 0, none⟩)] ((w3.setCell ⟨j, 6, none⟩ gv').drewN p) fun e w' => e = .returned (.int .i64 (wt ds : Int)) ∧ w' = (w3.setCell ⟨j, 6, none⟩ gv').drewN p) := fun p => by
    have hq4 : (w3.setCell ⟨j, 6, none⟩ gv').heap[q]? = some (grpBlk (lastq qs) rv 1 0 (nats (dig (digs z32 J.G) ds))) := by rw [hb4 q hql hqr hqj]; exact hqb
    exact weight_ok q OX rv ds _ (grp_cells (w := (w3.setCell ⟨j, 6, none⟩ gv').drewN p) hq4).2.1 (hRv.keptT (fun _ o => o) (fun b x t hb hx ht => hb4 b (hXl b hb) (fun e => by
      obtain ⟨cur, hc⟩ := row_tag h.row b e
      rw [hx] at hc
      injection hc with hc
      injection hc with _ hc
      rcases ht with rfl | rfl | rfl <;> exact absurd hc (by decide)) (fun e => hXj (e ▸ hb)))) hl (by omega)
  have HE : Hid (∀ p, ∃ gv'', GM (((w3.setCell ⟨j, 6, none⟩ gv').drewN p).setCell ⟨j, 7, none⟩ (.int .i64 ((wts J.G + wt ds : Nat) : Int))) j f nm { J with G := J.G ++ [ds] } (more (fun b => O b ∨ OX b) w (((w3.setCell ⟨j, 6, none⟩ gv').drewN p).setCell ⟨j, 7, none⟩ (.int .i64 ((wts J.G + wt ds : Nat) : Int)))) gv'' lv (qs ++ [q]) ∧ w.heap.size ≤ (((w3.setCell ⟨j, 6, none⟩ gv').drewN p).setCell ⟨j, 7, none⟩ (.int .i64 ((wts J.G + wt ds : Nat) : Int))).heap.size ∧ ((∀ b, b < w.heap.size → gv.ownBlock ≠ some b → b ≠ j → (((w3.setCell ⟨j, 6, none⟩ gv').drewN p).setCell ⟨j, 7, none⟩ (.int .i64 ((wts J.G + wt ds : Nat) : Int))).heap[b]? = w.heap[b]?) ∧ (gv''.ownBlock = gv.ownBlock ∨ ∃ b, gv''.ownBlock = some b ∧ w.heap.size ≤ b)) ∧ (((w3.setCell ⟨j, 6, none⟩ gv').drewN p).setCell ⟨j, 7, none⟩ (.int .i64 ((wts J.G + wt ds : Nat) : Int))).os = w.os ∧ (((w3.setCell ⟨j, 6, none⟩ gv').drewN p).setCell ⟨j, 7, none⟩ (.int .i64 ((wts J.G + wt ds : Nat) : Int))).tape = w.tape ∧ (((w3.setCell ⟨j, 6, none⟩ gv').drewN p).setCell ⟨j, 7, none⟩ (.int .i64 ((wts J.G + wt ds : Nat) : Int))).output = w.output) := fun p => by
    refine ⟨gv', ?_, ?_, ⟨fun b h1 h2 h3 => by rw [set_other _ _ _ _ _ h3]; show (w3.setCell ⟨j, 6, none⟩ gv').heap[b]? = _; exact hb4 b h1 h2 h3, hgw.loc⟩, hgw.gr.os, hgw.gr.tape, hgw.gr.output⟩
    · have hmo : more (fun b => O b ∨ OX b) w (((w3.setCell ⟨j, 6, none⟩ gv').drewN p).setCell ⟨j, 7, none⟩ (.int .i64 ((wts J.G + wt ds : Nat) : Int))) = more (fun b => O b ∨ OX b) w w3 := by
        unfold more
        rw [size_set]
        show (fun q => _ ∨ (_ ∧ q < (w3.setCell ⟨j, 6, none⟩ gv').heap.size)) = _
        rw [size_set]
      rw [hmo]
      exact hM.kept (by simp only [size_set]; show w3.heap.size ≤ (w3.setCell ⟨j, 6, none⟩ gv').heap.size; rw [size_set]; exact Nat.le_refl _) rfl (fun _ _ => rfl)
    · rw [size_set]
      show _ ≤ (w3.setCell ⟨j, 6, none⟩ gv').heap.size
      rw [size_set]; exact hz
  have hD : IntKind.i64.wrap ((wts J.G : Int) + (wt ds : Int)) = (wts J.G : Int) + (wt ds : Int) := IntWalk.i64_in _ (by omega)
  have hc7 : (w3.setCell ⟨j, 6, none⟩ gv').cell? ⟨j, 7, none⟩ = some (.int .i64 (wts J.G : Int)) := by rw [World.cell?_setCell_other _ ⟨j, 6, none⟩ ⟨j, 7, none⟩ _ (by simp)]; exact d7
  have HP : Hid (((wts J.G + wt ds : Nat) : Int) = (wts J.G : Int) + (wt ds : Int)) := Int.natCast_add _ _
  subst eg eg'
  unfold ptrV at hr
  clear h hM hgw hqb hRv hold hb4 hj3 dz cz hws hwt hl hn hqr hXl hXj hoq
  generalize hA : wts J.G = A at *
  generalize hB : wt ds = B at *
  generalize hNG : J.G.length = NG at *
  clear hA hB
  have hz7 : (w3.setCell ⟨j, 6, none⟩ (.slice ga' (NG + 1) gc')).frozen? ⟨j, 7, none⟩ = false := by rw [World.frozen?_setCell]; exact z7
  obtain ⟨W4, hW4⟩ : ∃ W4, W4 = w3.setCell ⟨j, 6, none⟩ (.slice ga' (NG + 1) gc') := ⟨_, rfl⟩
  rw [← hW4] at HWe HE hc7 hz7
  have hc7d : W4.drew.cell? ⟨j, 7, none⟩ = some (.int .i64 (A : Int)) := hc7
  have hz7d : W4.drew.frozen? ⟨j, 7, none⟩ = false := hz7
  have HW4 := hide hW4
  clear hW4
  go_enter Tryz.func50, Tryz.ntmps50
  go_wp2_with fail
  rw [← unhide HW4]
  refine wp_region_noPanic ?_
  go_region_with ((go_at_call 100; refine Calls.mono (unhide HWe 1) ?_; rintro e w5 ⟨rfl, rfl⟩))
  all_goals
    refine NoPanic.normal ?_
    go_wp2_with fail
    go_end0
    have := unhide HE 1
    rw [unhide HP] at this
    exact ⟨rfl, this⟩
end Go.Proofs.YtebcmicmklpflaaGreatDoor
