/- A step of a script: Add. -/
import Derived.Test.YtebcmicmklpflaaGreatDoorUf
namespace Go.Proofs.YtebcmicmklpflaaGreatDoor
open Go.RowKit Go.Maps
set_option linter.unusedSimpArgs false
/-- Behind i steps of n bytes. -/
def PI (w W : World) (f r j i n : Nat) : Prop := ∃ S J U V k, PI0 w W f r j S J J.G J.D U V k ∧ Fit S J k i n
/-- The box of a step. -/
def sBox (K N : Int) (v : Value) : Obj := .cells #[.int .i64 K, .int .i64 N, v] 41
theorem sBox_cells {W : World} {b : Nat} {K N : Int} {v : Value} (h : W.heap[b]? = some (sBox K N v)) : W.cell? ⟨b, 0, none⟩ = some (.int .i64 K) ∧ W.cell? ⟨b, 1, none⟩ = some (.int .i64 N) ∧ W.cell? ⟨b, 2, none⟩ = some v := by
  unfold sBox at h
  exact ⟨by simp [World.cell?, h], by simp [World.cell?, h], by simp [World.cell?, h]⟩
theorem OwnB.row {w : World} {base : Nat} {v : Value} {out : List UInt8} (h : OwnB w base v out) : Row w.heap.size w v out := h.rec.row
theorem row_front {hi : Nat} {w : World} {a : Option Addr} {n c : Nat} {d e : List UInt8} (h : Row hi w (.slice a n c) (d ++ e)) : Row hi w (.slice a d.length c) d := by
  obtain ⟨a', c', e1, h1, h2⟩ := h
  injection e1 with e1 e2 e3
  subst e1 e3
  rw [List.length_append] at h1 h2
  refine ⟨a, c, rfl, by omega, fun h0 => ?_⟩
  obtain ⟨g, o, ea, hg, hc⟩ := h2 (by omega)
  exact ⟨g, o, ea, hg, fun i u hi => hc i u (by rw [byteVals_append, List.getElem?_append_left (List.getElem?_eq_some_iff.1 hi).1]; exact hi)⟩
theorem add_chain (w W : World) (f r j i n : Nat) (K N : Int) (a : Option Addr) (c : Nat) (B : List UInt8) (h : PI w W f r j i n) (hrow : Row w.heap.size w (.slice a B.length c) B) (hi : i < 100) (hn : n + B.length ≤ 12000) :
    Calls Tryz.prog 51 #[.slice a B.length c] (W.alloc (sBox K N (.slice a B.length c))) fun e W1 => ∃ g c1, e = .returned (.slice (some ⟨g, 0, none⟩) (B.length + 1) c1) ∧ B.length + 1 ≤ c1 ∧ W1.cell? ⟨W.heap.size, 2, none⟩ = some (.slice a B.length c) ∧ Hid (Calls Tryz.prog 22 #[.pointer (some ⟨j, 0, none⟩), .slice (some ⟨g, 0, none⟩) B.length c1] W1.drew fun e W2 => e = .returned (.int .i64 0) ∧ W2.cell? ⟨W.heap.size, 2, none⟩ = some (.slice a B.length c) ∧ Hid (Calls Tryz.prog 23 #[.pointer (some ⟨r, 0, none⟩), .slice a B.length c] W2 fun e W3 => e = .returned (.int .i64 0) ∧ W3.cell? ⟨W.heap.size, 2, none⟩ = some (.slice a B.length c) ∧ Hid (Calls Tryz.prog 52 #[.slice (some ⟨g, 0, none⟩) (B.length + 1) c1, .slice a B.length c] W3 fun e W4 => e = .returned (.bool true) ∧ Hid (Calls Tryz.prog 20 #[.slice (some ⟨g, 0, none⟩) (B.length + 1) c1] W4 fun e W5 => e = .returned (.tuple #[]) ∧ Hid (PI w W5 f r j (i + 1) (n + B.length)))))) := by
  obtain ⟨S, J, U, V, k, hP, hF⟩ := h
  have f1 := hF.hw
  have f2 := hF.hc
  obtain ⟨W0, hW0⟩ : ∃ W0, W0 = W.alloc (sBox K N (.slice a B.length c)) := ⟨_, rfl⟩
  have hb0 : Below W.heap.size W W0 := by rw [hW0]; exact (Below.refl _ _).alloc (Nat.le_refl _) _
  have hz0 : W0.heap.size = W.heap.size + 1 := by rw [hW0]; simp
  have hx0 : W0.heap[W.heap.size]? = some (sBox K N (.slice a B.length c)) := by rw [hW0]; exact heap_alloc_new _ _
  rw [← hW0]
  have hP0 := hP.below hb0
  refine (roomy_ok a c B W0 (row_below hrow hP0.bel) (by omega)).mono fun e W1 ⟨g, c1, e1, hc1, hO1, hb1⟩ => ⟨g, c1, e1, hc1, ?_⟩
  obtain ⟨hgl, hgh⟩ : W0.heap.size ≤ g ∧ g < W1.heap.size := by
    obtain ⟨h1, cur, h2⟩ := hO1.tag g rfl
    exact ⟨h1, (Array.getElem?_eq_some_iff.1 h2).1⟩
  have hx1 : W1.heap[W.heap.size]? = some (sBox K N (.slice a B.length c)) := (hb1.block _ (by omega)).trans hx0
  have hP1 : PI0 w W1.drew f r j S J J.G J.D U V k := (hP0.below hb1).below (Below.refl _ _).drew
  have hUb : ∀ q, U q → q < W.heap.size := hP.js.ult
  have hVb : ∀ q, V q → q < W.heap.size := hP.rj.vlt
  refine ⟨(sBox_cells hx1).2.2, ?_⟩
  have hr1 : Row W1.drew.heap.size W1.drew (.slice (some ⟨g, 0, none⟩) B.length c1) B := row_front (hO1.row : Row W1.heap.size W1 _ (B ++ [171]))
  refine (add_rec W1.drew f j nmL S J U k (some ⟨g, 0, none⟩) c1 B hP1.js hF.alive hr1 (by omega) (by omega)).mono fun e W2 ⟨e2, U2, hJ2, hE2⟩ => ⟨e2, ?_⟩
  have hz2 : W1.heap.size ≤ W2.heap.size := hE2.size
  have hx2 : W2.heap[W.heap.size]? = some (sBox K N (.slice a B.length c)) := (hE2.rest _ (show W.heap.size < W1.heap.size by omega) (fun o => by have := hUb _ o; omega)).trans hx1
  have hg2 : W2.heap[g]? = W1.heap[g]? := hE2.rest g hgh (fun o => by have := hUb _ o; omega)
  refine ⟨(sBox_cells hx2).2.2, ?_⟩
  have hP2 := hP1.stepJ hJ2 hE2
  refine (ref_add_ok W2 r J.G J.D V a c B hP2.rj (row_below hrow hP2.bel) (by omega) (by omega)).mono fun e W3 ⟨e3, V3, hR3, hE3⟩ => ⟨e3, ?_⟩
  have hz3 := hE3.size
  have hx3 : W3.heap[W.heap.size]? = some (sBox K N (.slice a B.length c)) := (hE3.rest _ (by omega) (fun o => by have := hVb _ o; omega)).trans hx2
  have hg3 : W3.heap[g]? = W1.heap[g]? := (hE3.rest g (by omega) (fun o => by have := hVb _ o; omega)).trans hg2
  refine ⟨(sBox_cells hx3).2.2, ?_⟩
  have hP3 := hP2.stepR hR3 hE3
  have hO3 : OwnB W3 W0.heap.size (.slice (some ⟨g, 0, none⟩) (B.length + 1) c1) (B ++ [171]) := hO1.keep (fun q e => by simp [Value.ownBlock] at e; subst e; exact hg3)
  refine (stands_ok _ _ (some ⟨g, 0, none⟩) a c1 c B W3 hO3.row (row_below hrow hP3.bel) (by omega)).mono fun e W4 ⟨e4, q, hq⟩ => ⟨e4, ?_⟩
  subst hq
  have hl1 : (B ++ [(171 : UInt8)]).length = B.length + 1 := by simp
  have hO4 : OwnB (W3.drewN q) W0.heap.size (.slice (some ⟨g, 0, none⟩) (B ++ [171]).length c1) (B ++ [171]) := by
    rw [hl1]
    exact hO3.keep (fun _ _ => rfl)
  have hsp := spoil_ok W0.heap.size (some ⟨g, 0, none⟩) c1 (B ++ [171]) (W3.drewN q) hO4 (by simp; omega) (by show W0.heap.size ≤ W3.heap.size; omega)
  rw [hl1] at hsp
  refine hsp.mono fun e W5 ⟨e5, hG⟩ => ⟨e5, S, J.add B, U2, V3, k, ?_, hF.add B⟩
  have hz5 : W3.heap.size ≤ W5.heap.size := hG.size
  have hk : ∀ b, b < W3.heap.size → b ≠ g → W5.heap[b]? = W3.heap[b]? := fun b h1 h2 => hG.block b h1 (fun e => h2 (by simp [Value.ownBlock] at e; exact e))
  have hwg : w.heap.size ≤ g := by have := hP0.bel.size; omega
  refine hP3.keep ⟨hG.os.trans hP3.bel.os, hG.tape.trans hP3.bel.tape, hG.output.trans hP3.bel.output, by have := hP3.bel.size; omega, fun b hb => (hk b (by have := hP3.bel.size; omega) (by omega)).trans (hP3.bel.block b hb)⟩ hz5 (fun b o => ?_)
  rcases o with o | o
  · refine hk b (hP3.js.ult b o) (fun e => ?_)
    subst e
    rcases hE2.new b o with o2 | o2
    · have := hUb b o2; omega
    · have : W1.heap.size ≤ b := o2
      omega
  · refine hk b (hP3.rj.vlt b o) (fun e => ?_)
    subst e
    rcases hE3.new b o with o2 | o2
    · have := hVb b o2; omega
    · omega
set_option maxRecDepth 20000 in
set_option maxHeartbeats 2000000 in
theorem does_add (w W : World) (f r j i n : Nat) (N : Int) (a : Option Addr) (c : Nat) (B : List UInt8) (h : PI w W f r j i n) (hrow : Row w.heap.size w (.slice a B.length c) B) (hi : i < 100) (hn : n + B.length ≤ 12000) :
    Calls Tryz.prog 17 #[.pointer (some ⟨f, 0, none⟩), .pointer (some ⟨j, 0, none⟩), .pointer (some ⟨r, 0, none⟩), .agg #[.int .i64 1, .int .i64 N, .slice a B.length c]] W fun e W' => ∃ j', e = .returned (.tuple #[.pointer (some ⟨j', 0, none⟩), .bool true]) ∧ PI w W' f r j' (i + 1) (n + B.length) := by
  have HC := hide (add_chain w W f r j i n 1 N a c B h hrow hi hn)
  have hBi : (B.length : Int) ≤ 12000 := by omega
  unfold sBox at HC
  clear h hrow hi
  generalize hM : B.length = M at *
  clear hn
  go_enter Tryz.func17, Tryz.ntmps17
  go_wp2_with fail
  refine (unhide HC).mono ?_
  rintro e W1 ⟨g, c1, rfl, hc1, x1, HA⟩
  have hnc : M ≤ c1 := by omega
  have x1d : W1.drew.cell? ⟨W.heap.size, 2, none⟩ = some (.slice a M c) := x1
  clear HC hc1
  go_wp2_with fail
  refine wp_region_noPanic ?_
  go_region_law (go_simp; first | (refine (unhide HA).mono ?_; rintro e W2 ⟨rfl, x2, HB⟩; simp only []) | (refine (unhide HB).mono ?_; rintro e W3 ⟨rfl, x3, HD⟩; simp only []) | (refine (unhide HD).mono ?_; rintro e W4 ⟨rfl, HS⟩; simp only []))
  all_goals
    refine NoPanic.normal ?_
    go_wp2_with fail
    refine (unhide HS).mono ?_
    rintro e W5 ⟨rfl, HE⟩
    go_wp2_with fail
    exact bodyPost_ret (by simp [results, Tryz.results17]) rfl ⟨_, rfl, unhide HE⟩
end Go.Proofs.YtebcmicmklpflaaGreatDoor
