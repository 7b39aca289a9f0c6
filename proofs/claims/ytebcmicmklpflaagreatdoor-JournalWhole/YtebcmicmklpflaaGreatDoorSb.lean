/- Groups: all groups are copied. -/
import Derived.Test.YtebcmicmklpflaaGreatDoorSa
namespace Go.Proofs.YtebcmicmklpflaaGreatDoor
open Go.RowKit Go.Maps
set_option linter.unusedSimpArgs false
/-- A row of records of its own, behind lo. -/
def CpB (lo : Nat) (W : World) (b : Nat) (ds : List (List UInt8)) : Prop := ∃ cur : Array Value, W.heap[b]? = some (.cells cur 39 (0, 0)) ∧ cur.size = ds.length ∧ ∀ (i : Nat) (d : List UInt8), ds[i]? = some d → ∃ x, cur[i]? = some x ∧ Spl W (fun q => lo < q ∧ q < W.heap.size) x d
theorem CpB.kept {lo : Nat} {W W' : World} {b : Nat} {ds : List (List UInt8)} (h : CpB lo W b ds) (hz : W.heap.size ≤ W'.heap.size) (hb : lo < b) (hw : ∀ q, lo < q → q < W.heap.size → W'.heap[q]? = W.heap[q]?) : CpB lo W' b ds := by
  obtain ⟨cur, h1, h2, h3⟩ := h
  refine ⟨cur, (hw b hb (Array.getElem?_eq_some_iff.1 h1).1).trans h1, h2, fun i d hd => ?_⟩
  obtain ⟨x, hx, hR⟩ := h3 i d hd
  exact ⟨x, hx, hR.kept (fun q o => ⟨o.1, by have := o.2; omega⟩) (fun q o => hw q o.1 o.2)⟩
theorem CpR.cpb {w W : World} {ds : List (List UInt8)} {lo : Nat} (h : CpR w W ds ds.length) (hlo : lo < w.heap.size) : CpB lo W w.heap.size ds := by
  obtain ⟨cur, h1, h2, h3⟩ := h.row
  refine ⟨cur, h1, h2, fun i d hd => ?_⟩
  obtain ⟨x, hx, hR⟩ := h3 i d (List.getElem?_eq_some_iff.1 hd).1 hd
  exact ⟨x, hx, hR.kept (fun q o => ⟨by have := o.1; omega, o.2⟩) (fun _ _ => rfl)⟩
/-- Copies of groups in a new row; all in new blocks. -/
structure CpG (w W : World) (G : List (List (List UInt8))) (k : Nat) : Prop where
  bel : Below w.heap.size w W
  row : ∃ cur : Array Value, W.heap[w.heap.size]? = some (.cells cur 34 (0, 0)) ∧ cur.size = G.length ∧ ∀ i ds, i < k → G[i]? = some ds → ∃ b, cur[i]? = some (.slice (some ⟨b, 0, none⟩) ds.length ds.length) ∧ w.heap.size < b ∧ CpB w.heap.size W b ds
theorem CpG.first (w : World) (G : List (List (List UInt8))) (cur : Array Value) (h : cur.size = G.length) : CpG w (w.alloc (.cells cur 34)) G 0 :=
  ⟨(Below.refl _ _).alloc (Nat.le_refl _) _, cur, heap_alloc_new w _, h, fun _ _ h => absurd h (Nat.not_lt_zero _)⟩
theorem CpG.step {w W : World} {G : List (List (List UInt8))} {k : Nat} (h : CpG w W G k) (hk : k < G.length) {W1 : World} (hc : CpR W W1 G[k] G[k].length) :
    (∃ u, W1.cell? ⟨w.heap.size, k, none⟩ = some u) ∧ W1.frozen? ⟨w.heap.size, k, none⟩ = false ∧ CpG w (W1.setCell ⟨w.heap.size, k, none⟩ (.slice (some ⟨W.heap.size, 0, none⟩) G[k].length G[k].length)) G (k + 1) := by
  obtain ⟨cur, hcu, hs, hr⟩ := h.row
  have hb := hc.bel
  have hbl : w.heap.size < W.heap.size := (Array.getElem?_eq_some_iff.1 hcu).1
  have hc1 : W1.heap[w.heap.size]? = some (.cells cur 34 (0, 0)) := by rw [hb.block _ hbl]; exact hcu
  have hz := hb.size
  have hks : k < cur.size := by omega
  have hset : ∀ b, b ≠ w.heap.size → (W1.setCell ⟨w.heap.size, k, none⟩ (.slice (some ⟨W.heap.size, 0, none⟩) G[k].length G[k].length)).heap[b]? = W1.heap[b]? := fun b hb => set_other _ _ _ _ _ hb
  refine ⟨⟨cur[k], by simp [World.cell?, hc1, hks]⟩, by simp [World.frozen?, hc1], ⟨h.bel.os ▸ hb.os, h.bel.tape ▸ hb.tape, h.bel.output ▸ hb.output, by rw [size_set]; exact Nat.le_trans h.bel.size hz, fun b hb' => ?_⟩, cur.set k (.slice (some ⟨W.heap.size, 0, none⟩) G[k].length G[k].length) hks, ?_, by simp [hs], fun i d hi hd => ?_⟩
  · rw [hset b (by omega), hb.block b (by omega)]; exact h.bel.block b hb'
  · simp [World.setCell, Array.getElem?_modify, hc1, Array.setIfInBounds, hks]
  · by_cases hik : i = k
    · subst hik
      have hd' : G[i] = d := by rw [List.getElem?_eq_getElem hk] at hd; exact Option.some.inj hd
      rw [hd'] at hc hset ⊢
      exact ⟨W.heap.size, by simp, hbl, (hc.cpb hbl).kept (by rw [size_set]; exact Nat.le_refl _) hbl (fun q o _ => hset q (by omega))⟩
    · obtain ⟨b, hy, hb2, hR⟩ := hr i d (by omega) hd
      exact ⟨b, by rw [Array.getElem?_set_ne _ (by omega)]; exact hy, hb2, hR.kept (by rw [size_set]; exact hz) hb2 (fun q o o2 => (hset q (by omega)).trans (hb.block q o2))⟩
set_option maxRecDepth 20000 in
theorem info34 : ∃ i z, Tryz.prog.info? 34 = some i ∧ i.zero = some z ∧ i.size = 1 ∧ i.bytes = 24 ∧ z.cells.size = 1 := by
  have h : (Tryz.prog.info? 34).map (fun i => (i.zero.map (fun z => z.cells.size), i.size, i.bytes)) = some (some 1, 1, 24) := by kernel_rfl
  cases hq : Tryz.prog.info? 34 with
  | none => simp [hq] at h
  | some i =>
    simp [hq] at h
    obtain ⟨⟨z, hz, h1⟩, h2, h3⟩ := h
    exact ⟨i, z, rfl, hz, h2, h3, h1⟩
set_option maxRecDepth 20000 in
set_option maxHeartbeats 1000000 in
theorem groups_ok (j f : Nat) (nm : ByteArray) (J : Jn) (O : Nat → Prop) (gv lv : Value) (qs : List Nat) (w : World) (h : GM w j f nm J O gv lv qs) (hl : J.G.length ≤ 100000) (hds : ∀ d ∈ J.G, d.length ≤ 100000 ∧ wt d ≤ 10000000) :
    Calls Tryz.prog 18 #[.pointer (some ⟨j, 0, none⟩)] w fun e w' => e = .returned (.slice (some ⟨w.heap.size, 0, none⟩) J.G.length J.G.length) ∧ CpG w w' J.G J.G.length := by
  obtain ⟨ga, gc, egv⟩ := h.shapes
  have hq := (jn_cells h.blk).2.2.2.1
  have hqn : qs.length = J.G.length := h.ch.len
  obtain ⟨N, hN⟩ : ∃ N, N = J.G.length := ⟨_, rfl⟩
  have hNb : N ≤ 100000 := by omega
  obtain ⟨i34, z34, hi, hz, hsz, hby, hzs⟩ := info34
  have hmk : (Instr.makeSlice 33 (.int .i64 (N : Int)) (.int .i64 (N : Int))).run Tryz.prog w = .ok (.slice (some ⟨w.heap.size, 0, none⟩) N N) (w.alloc (.cells (madeCells z34.cells (N * 1)) 34)) := by
    have := run_make (P := Tryz.prog) w 33 34 i34 z34 Tryz.underlying33 hi hz .i64 .i64 (N : Int) (N : Int) (by omega) (by omega) (by rw [hby]; omega) (by omega)
    rw [hsz] at this
    simpa using this
  obtain ⟨WA, hWA⟩ : ∃ WA, WA = w.alloc (.cells (madeCells z34.cells (N * 1)) 34) := ⟨_, rfl⟩
  rw [← hWA] at hmk
  have hq1 : WA.cell? ⟨j, 6, none⟩ = some gv := by
    have hb : Below w.heap.size w WA := by rw [hWA]; exact (Below.refl _ _).alloc (Nat.le_refl _) _
    rw [hb.cell (p := ⟨j, 6, none⟩) (cellLt hq)]; exact hq
  obtain ⟨T, hT0, hTs, hTe⟩ : ∃ T : World → Nat → Prop, T WA 0 ∧ (∀ W k, T W k → k < N → ∃ (g q B b : Nat), ga = some ⟨g, 0, none⟩ ∧ W.cell? ⟨g, k, none⟩ = some (.pointer (some ⟨q, 0, none⟩)) ∧ Calls Tryz.prog 53 #[.pointer (some ⟨q, 0, none⟩)] W fun e W1 => ∃ u, e = .returned (.slice (some ⟨b, 0, none⟩) B B) ∧ W1.cell? ⟨w.heap.size, k, none⟩ = some u ∧ W1.frozen? ⟨w.heap.size, k, none⟩ = false ∧ T (W1.setCell ⟨w.heap.size, k, none⟩ (.slice (some ⟨b, 0, none⟩) B B)) (k + 1)) ∧ ∀ W, T W N → CpG w W J.G J.G.length := by
    refine ⟨fun W k => CpG w W J.G k, ?_, fun W k hT hk => ?_, fun W hT => by rw [← hN]; exact hT⟩
    · rw [hWA]
      exact CpG.first w J.G _ (by rw [size_madeCells]; omega)
    · subst egv
      have hk' : k < J.G.length := by omega
      have hrow := h.row
      rw [← hqn] at hrow
      obtain ⟨g, c, eg⟩ := row_cell hrow (by omega)
      injection eg with eg1 _ _
      have e1 : qs[k]? = some qs[k] := List.getElem?_eq_getElem (by omega)
      have e2 : J.G[k]? = some J.G[k] := List.getElem?_eq_getElem hk'
      have hd := hds _ (List.getElem_mem hk')
      rw [eg1] at hrow
      have hc := row_at hrow k _ e1
      obtain ⟨_, rv, hqb, hRv⟩ := h.ch.nth0 k _ _ e1 e2
      have hql : qs[k] < w.heap.size := (Array.getElem?_eq_some_iff.1 hqb).1
      have hRW : Recs W O rv J.G[k] := hRv.kept (fun _ o => o) (fun b o => hT.bel.block b (h.lt b o))
      have hqW : W.heap[qs[k]]? = some (grpBlk (lastq (qs.take k)) rv 1 0 (nats (dig (digs z32 (J.G.take k)) J.G[k]))) := by rw [hT.bel.block _ hql]; exact hqb
      refine ⟨g, qs[k], J.G[k].length, W.heap.size, eg1, by rw [hT.bel.cell (p := ⟨g, k, none⟩) (cellLt hc)]; exact hc, ?_⟩
      refine (copied_ok qs[k] O rv J.G[k] W (grp_cells hqW).2.1 hRW (fun b o => Nat.lt_of_lt_of_le (h.lt b o) hT.bel.size) hd.1 hd.2).mono fun e W1 ⟨e1, hc1⟩ => ?_
      obtain ⟨⟨u, hu⟩, hf, hst⟩ := hT.step hk' hc1
      exact ⟨u, e1, hu, hf, hst⟩
  have HS := hide hTs
  have HE := hide hTe
  have HNb := hide hNb
  subst egv
  rw [← hN] at hq hq1 ⊢
  rw [← hN] at HE
  clear h hl hds hi hz hsz hby hzs hTs hTe hNb hWA hN hqn
  go_enter Tryz.func18, Tryz.ntmps18
  go_wp2_with fail
  go_loopw [19] (fun i wr => ∃ k : Nat, k ≤ N ∧ i = .int .i64 k ∧ T wr k) (fun i _ => N - (intOf i).toNat)
  case atStart => exact ⟨0, Nat.zero_le _, rfl, hT0⟩
  case round =>
    obtain ⟨k, hk, rfl, hT⟩ := hrel
    by_cases hlt : k < N
    · obtain ⟨g, q, B, b, rfl, hcell, hcl⟩ := unhide HS _ k hT hlt
      have HCl := hide hcl
      have hlt2 : (k : Int) < (N : Int) := by omega
      clear hcl HS HE hT0 hT hk
      go_wp2_with fail
      refine (unhide HCl).mono ?_
      rintro e w5 ⟨u, rfl, hu, hf, hT5⟩
      go_wp2_with fail
      have hNb := unhide HNb
      have e1 : Go.RowKit.wrap64 ((k : Int) + 1) = ((k + 1 : Nat) : Int) := by unfold Go.RowKit.wrap64; omega
      rw [e1]
      exact ⟨⟨k + 1, by omega, rfl, hT5⟩, by simp only [intOf, Int.toNat_natCast]; omega⟩
    · obtain rfl : k = N := by omega
      have HE2 := hide (unhide HE _ hT)
      clear HS HE hT0 hT hk
      go_wp2_with fail
      go_ret
      exact ⟨rfl, unhide HE2⟩
end Go.Proofs.YtebcmicmklpflaaGreatDoor
