/- A group's records are copied. -/
import Derived.Test.YtebcmicmklpflaaGreatDoorRo
namespace Go.Proofs.YtebcmicmklpflaaGreatDoor
open Go.RowKit Go.Maps
set_option linter.unusedSimpArgs false
/-- Bytes of one's own that may be written over: nil, or a whole block. -/
def Spl (w : World) (O : Nat → Prop) (v : Value) (d : List UInt8) : Prop :=
  (v = .slice none 0 0 ∧ d = []) ∨ ∃ g cur, v = .slice (some ⟨g, 0, none⟩) d.length cur.size ∧ O g ∧ w.heap[g]? = some (.cells cur 5 (0, 0)) ∧ d.length ≤ cur.size ∧ cur.size ≤ maxLen ∧ byteVals d <+: cur.toList
theorem Spl.kept {w w' : World} {O O' : Nat → Prop} {v : Value} {d : List UInt8} (h : Spl w O v d) (hO : ∀ q, O q → O' q) (hw : ∀ q, O q → w'.heap[q]? = w.heap[q]?) : Spl w' O' v d := by
  rcases h with h | ⟨g, cur, e, ho, hg, h1⟩
  · exact .inl h
  · exact .inr ⟨g, cur, e, hO g ho, (hw g ho).trans hg, h1⟩
theorem Spl.toRec {w : World} {O : Nat → Prop} {v : Value} {d : List UInt8} (h : Spl w O v d) : Rec w O v d := by
  rcases h with ⟨rfl, rfl⟩ | ⟨g, cur, e, ho, hg, h1, h2, h3⟩
  · exact ⟨none, 0, rfl, Nat.le_refl _, by simp [maxLen], fun h => absurd h (Nat.lt_irrefl _)⟩
  · exact ⟨_, _, e, h1, h2, fun _ => ⟨g, cur, rfl, ho, hg, h3⟩⟩
theorem Spl.row {w : World} {O : Nat → Prop} {v : Value} {d : List UInt8} (h : Spl w O v d) : Row w.heap.size w v d := h.toRec.row
theorem Spl.new {w : World} {O : Nat → Prop} {v : Value} {d : List UInt8} {lo : Nat} {L : List (Nat × Obj)} (h : NewData lo L v d) (hL : ∀ p ∈ L, w.heap[p.1]? = some p.2) (hO : ∀ p ∈ L, O p.1) : Spl w O v d := by
  rcases h with ⟨_, rfl, rfl⟩ | ⟨g, cap, cur, rfl, rfl, _, h1, h2, h3, h4⟩
  · exact .inl ⟨rfl, rfl⟩
  · exact .inr ⟨g, cur, by rw [h3], hO _ (List.mem_singleton.2 rfl), hL _ (List.mem_singleton.2 rfl), by omega, by omega, prefix_of_take h4⟩
/-- Copies of records in a new row; all in new blocks. -/
structure CpR (w W : World) (ds : List (List UInt8)) (k : Nat) : Prop where
  bel : Below w.heap.size w W
  row : ∃ cur : Array Value, W.heap[w.heap.size]? = some (.cells cur 39 (0, 0)) ∧ cur.size = ds.length ∧ ∀ i d, i < k → ds[i]? = some d → ∃ x, cur[i]? = some x ∧ Spl W (fun q => w.heap.size < q ∧ q < W.heap.size) x d
theorem CpR.first (w : World) (ds : List (List UInt8)) (cur : Array Value) (h : cur.size = ds.length) : CpR w (w.alloc (.cells cur 39)) ds 0 :=
  ⟨(Below.refl _ _).alloc (Nat.le_refl _) _, cur, heap_alloc_new w _, h, fun _ _ h => absurd h (Nat.not_lt_zero _)⟩
theorem CpR.step {w W : World} {ds : List (List UInt8)} {k : Nat} (h : CpR w W ds k) (hk : k < ds.length) {W1 : World} {L : List (Nat × Obj)} {x : Value} (hnd : NewData W.heap.size L x ds[k]) (hb : Below W.heap.size W W1) (hL : ∀ p ∈ L, W1.heap[p.1]? = some p.2) :
    (∃ u, W1.cell? ⟨w.heap.size, k, none⟩ = some u) ∧ W1.frozen? ⟨w.heap.size, k, none⟩ = false ∧ CpR w (W1.setCell ⟨w.heap.size, k, none⟩ x) ds (k + 1) := by
  obtain ⟨cur, hc, hs, hr⟩ := h.row
  have hbl : w.heap.size < W.heap.size := (Array.getElem?_eq_some_iff.1 hc).1
  have hc1 : W1.heap[w.heap.size]? = some (.cells cur 39 (0, 0)) := by rw [hb.block _ hbl]; exact hc
  have hz := hb.size
  have hks : k < cur.size := by omega
  have hset : ∀ b, b ≠ w.heap.size → (W1.setCell ⟨w.heap.size, k, none⟩ x).heap[b]? = W1.heap[b]? := fun b hb => set_other _ _ _ _ _ hb
  refine ⟨⟨cur[k], by simp [World.cell?, hc1, hks]⟩, by simp [World.frozen?, hc1], ⟨h.bel.os ▸ hb.os, h.bel.tape ▸ hb.tape, h.bel.output ▸ hb.output, by rw [size_set]; exact Nat.le_trans h.bel.size hz, fun b hb' => ?_⟩, cur.set k x hks, ?_, by simp [hs], fun i d hi hd => ?_⟩
  · rw [hset b (by omega), hb.block b (by omega)]; exact h.bel.block b hb'
  · simp [World.setCell, Array.getElem?_modify, hc1, Array.setIfInBounds, hks]
  · by_cases hik : i = k
    · subst hik
      refine ⟨x, by simp, ?_⟩
      have hd' : ds[i] = d := by rw [List.getElem?_eq_getElem hk] at hd; exact Option.some.inj hd
      rw [hd'] at hnd
      refine (Spl.new (O := fun q => w.heap.size < q ∧ q < W1.heap.size) hnd hL (fun p hp => ?_)).kept (fun q o => by rw [size_set]; exact o) (fun q o => hset q (by have := o.1; omega))
      have h4 := hL p hp
      rcases hnd with ⟨rfl, _⟩ | ⟨g, cap, cur2, rfl, _, hlo, _⟩
      · cases hp
      · have := List.mem_singleton.1 hp
        subst this
        exact ⟨by show w.heap.size < g; omega, (Array.getElem?_eq_some_iff.1 h4).1⟩
    · obtain ⟨y, hy, hR⟩ := hr i d (by omega) hd
      refine ⟨y, by rw [Array.getElem?_set_ne _ (by omega)]; exact hy, hR.kept (fun q o => ⟨o.1, by rw [size_set]; have := o.2; omega⟩) (fun q o => (hset q (by have := o.1; omega)).trans (hb.block q o.2))⟩
set_option maxRecDepth 20000 in
set_option maxHeartbeats 1000000 in
theorem copied_ok (q : Nat) (O : Nat → Prop) (rv : Value) (ds : List (List UInt8)) (w : World) (hq : w.cell? ⟨q, 1, none⟩ = some rv) (hR : Recs w O rv ds) (hO : ∀ b, O b → b < w.heap.size) (hl : ds.length ≤ 100000) (hwt : wt ds ≤ 10000000) :
    Calls Tryz.prog 53 #[.pointer (some ⟨q, 0, none⟩)] w fun e w' => e = .returned (.slice (some ⟨w.heap.size, 0, none⟩) ds.length ds.length) ∧ CpR w w' ds ds.length := by
  obtain ⟨ra, rc, erv⟩ := hR.shape
  obtain ⟨N, hN⟩ : ∃ N, N = ds.length := ⟨_, rfl⟩
  have hNb : N ≤ 100000 := by omega
  obtain ⟨i39, z39, hi, hz, hsz, hby, hzs⟩ := info39
  have hmk : (Instr.makeSlice 34 (.int .i64 (N : Int)) (.int .i64 (N : Int))).run Tryz.prog w = .ok (.slice (some ⟨w.heap.size, 0, none⟩) N N) (w.alloc (.cells (madeCells z39.cells (N * 1)) 39)) := by
    have := run_make (P := Tryz.prog) w 34 39 i39 z39 Tryz.underlying34 hi hz .i64 .i64 (N : Int) (N : Int) (by omega) (by omega) (by rw [hby]; omega) (by omega)
    rw [hsz] at this
    simpa using this
  obtain ⟨WA, hWA⟩ : ∃ WA, WA = w.alloc (.cells (madeCells z39.cells (N * 1)) 39) := ⟨_, rfl⟩
  rw [← hWA] at hmk
  have hq1 : WA.cell? ⟨q, 1, none⟩ = some rv := by
    have hb : Below w.heap.size w WA := by rw [hWA]; exact (Below.refl _ _).alloc (Nat.le_refl _) _
    rw [hb.cell (p := ⟨q, 1, none⟩) (cellLt hq)]; exact hq
  obtain ⟨T, hT0, hTs, hTe⟩ : ∃ T : World → Nat → Prop, T WA 0 ∧ (∀ W k, T W k → k < N → ∃ (g B : Nat) (x : Option Addr) (y : Nat), ra = some ⟨g, 0, none⟩ ∧ W.cell? ⟨g, k, none⟩ = some (.slice x B y) ∧ Calls Tryz.prog 57 #[.slice x B y] W fun e W1 => ∃ a' c' u, e = .returned (.slice a' B c') ∧ W1.cell? ⟨w.heap.size, k, none⟩ = some u ∧ W1.frozen? ⟨w.heap.size, k, none⟩ = false ∧ T (W1.setCell ⟨w.heap.size, k, none⟩ (.slice a' B c')) (k + 1)) ∧ ∀ W, T W N → CpR w W ds ds.length := by
    refine ⟨fun W k => CpR w W ds k, ?_, fun W k hT hk => ?_, fun W hT => by rw [← hN]; exact hT⟩
    · rw [hWA]
      exact CpR.first w ds _ (by rw [size_madeCells]; omega)
    · subst erv
      have hk' : k < ds.length := by omega
      obtain ⟨g, x, y, ea, hOg, hc, hRc⟩ := hR.cell k hk'
      have hgl := hO g hOg
      have hRW : Rec W O (.slice x ds[k].length y) ds[k] := hRc.kept (fun _ o => o) (fun b o => hT.bel.block b (hO b o))
      have hB := wt_mem (List.getElem_mem hk')
      refine ⟨g, ds[k].length, x, y, ea, by rw [hT.bel.cell (p := ⟨g, k, none⟩) hgl]; exact hc, ?_⟩
      refine (bclone_new W.heap.size x ds[k].length y ds[k] W hRW.row rfl (Nat.le_refl _) (by omega)).mono fun e W1 ⟨a', c', L, e1, h1, h2, h3⟩ => ?_
      obtain ⟨⟨u, hu⟩, hf, hst⟩ := hT.step hk' h1 h2 h3
      exact ⟨a', c', u, e1, hu, hf, hst⟩
  have HS := hide hTs
  have HE := hide hTe
  have HNb := hide hNb
  have HWA := hide hWA
  subst erv
  rw [← hN] at hq hq1 ⊢
  rw [← hN] at HE
  clear hR hO hl hwt hi hz hsz hby hzs hTs hTe hNb hWA hN
  go_enter Tryz.func53, Tryz.ntmps53
  go_wp2_with fail

  go_loopw [17] (fun i wr => ∃ k : Nat, k ≤ N ∧ i = .int .i64 k ∧ T wr k) (fun i _ => N - (intOf i).toNat)
  case atStart => exact ⟨0, Nat.zero_le _, rfl, hT0⟩
  case round =>
    obtain ⟨k, hk, rfl, hT⟩ := hrel
    by_cases hlt : k < N
    · obtain ⟨g, B, x, y, rfl, hcell, hcl⟩ := unhide HS _ k hT hlt
      have HCl := hide hcl
      have hlt2 : (k : Int) < (N : Int) := by omega
      clear hcl HS HE hT0 hT hk
      go_wp2_with fail
      refine (unhide HCl).mono ?_
      rintro e w5 ⟨a', c', u, rfl, hu, hf, hT5⟩
      go_wp2_with fail
      have hNb := unhide HNb
      have e1 : Go.RowKit.wrap64 ((k : Int) + 1) = ((k + 1 : Nat) : Int) := by unfold Go.RowKit.wrap64; omega
      rw [e1]
      exact ⟨⟨k + 1, by omega, rfl, hT5⟩, by simp only [intOf, Int.toNat_natCast]; omega⟩
    · obtain rfl : k = N := by omega
      have HE2 := hide (unhide HE _ hT)
      clear HS HE hT0 hT hk
      go_wp2_with fail
      go_ret
      exact ⟨rfl, unhide HE2⟩
end Go.Proofs.YtebcmicmklpflaaGreatDoor
