/- A script that came in. -/
import Derived.Test.YtebcmicmklpflaaGreatDoorOpn
import Derived.Test.YtebcmicmklpflaaGreatDoorUj
import Derived.Deep.SlicePairs
import Derived.SizedLaws
namespace Go.Proofs.YtebcmicmklpflaaGreatDoor
open Go.ChangeShapes Go.WideShapes Go.RowKit
theorem weights_mem {H : Type} {P : Program} {e : TypeId} : ∀ {l : List (DataW H)} {d : DataW H}, d ∈ l → ∀ n ∈ d.weights P e, n ∈ DataW.weightsAll P e l
  | x :: r, d, hd, n, hn => by
    simp only [DataW.weightsAll, List.mem_append]
    rcases List.mem_cons.1 hd with rfl | h
    · exact Or.inl hn
    · exact Or.inr (weights_mem h n hn)
theorem bytes5' : Tryz.prog.bytesOf 5 = 1 := by kernel_rfl
theorem cells41 : Tryz.prog.cellsOf 41 = 3 := by kernel_rfl
theorem cells3 : Tryz.prog.cellsOf 3 = 1 := by kernel_rfl
theorem cells39 : Tryz.prog.cellsOf 39 = 1 := by kernel_rfl
theorem cells5 : Tryz.prog.cellsOf 5 = 1 := by kernel_rfl
/-- How long a row inside a step may be. -/
theorem step_sized {H : Type} {ts : List TypeId} {ds : List (DataW H)} (h : (DataW.weightsEach Tryz.prog ts ds).all (· ≤ reachBytes) = true) {j : Nat} {elems spare e' sp' : List (DataW H)} {x y : DataW H}
    (ht : ts[j]? = some 22) (hd : ds[j]? = some (.slice elems spare)) (hx : DataW.agg [x, y, .slice e' sp'] ∈ elems) : e'.length + sp'.length ≤ reachBytes := by
  have h2 : (e'.length + sp'.length) * Tryz.prog.bytesOf 5 ≤ reachBytes := by
    refine of_decide_eq_true (List.all_eq_true.1 h _ (DataW.weights_mem_each ht hd _ ?_))
    simp only [DataW.weights, Tryz.underlying22, List.mem_cons, List.mem_append]
    refine Or.inr (Or.inl (weights_mem hx _ ?_))
    simp only [DataW.weights, Tryz.underlying41, List.map_cons, List.map_nil]
    refine DataW.weights_mem_each (j := 2) (t := 39) (d := .slice e' sp') rfl rfl _ ?_
    simp [DataW.weights, Tryz.underlying39]
  rwa [bytes5', Nat.mul_one] at h2
instance : Inhabited Stp := ⟨⟨0, 0, none, 0, []⟩⟩
set_option maxRecDepth 100000 in
theorem open_steps {H : Type} {enc : TypeId × Value → H} {W : World} {held : Bool} {fuel : Nat} {cs : List Value} {x : DataW H × List MemPlace} {a : Option Addr} {len cap : Nat} (h : DataW.trod enc Tryz.prog W 0 (fun _ => true) held fuel 22 cs = some x) (hcs : cs = [.slice a len cap])
    (hz : ∀ elems spare e' sp' y0 y1, x.1 = .slice elems spare → DataW.agg [y0, y1, .slice e' sp'] ∈ elems → e'.length + sp'.length ≤ reachBytes) : ∃ X : Nat → Stp, StepsAt W a len X := by
  rcases Go.Deep.open_slice Tryz.underlying22 h with ⟨h0, _⟩ | ⟨ad, l, c, m, n, D, Pl, h0, hb, hl, hm, hmm, hx, hi⟩
  · rw [h0] at hcs
    injection hcs with hcs
    injection hcs with e1 e2 e3
    subst e2
    exact ⟨fun _ => ⟨0, 0, none, 0, []⟩, fun i hi => absurd hi (Nat.not_lt_zero _)⟩
  · rw [h0] at hcs
    injection hcs with hcs
    injection hcs with e1 e2 e3
    subst e1 e2 e3
    simp only [if_true] at hmm
    have each : ∀ i, i < l → ∃ s : Stp, ∃ g o, some ad = some ⟨g, o, none⟩ ∧ W.cell? ⟨g, o + i * 3, none⟩ = some (.int .i64 s.K) ∧ W.cell? ⟨g, o + i * 3 + 1, none⟩ = some (.int .i64 s.N) ∧ W.cell? ⟨g, o + i * 3 + 2, none⟩ = some s.v ∧ Row W.heap.size W s.v s.B ∧ s.B.length ≤ 281474976710656 := by
      intro i hil
      obtain ⟨cs', h1, h2⟩ := hi i (by omega)
      rw [cells41] at h1
      obtain ⟨_, hlen, hcell⟩ := World.cells?_some h1
      obtain ⟨xs, k, hk, hxy, _, hxl, hf⟩ := DataW.trod_struct Tryz.underlying41 h2
      match xs, hxl, cs', hlen with
      | [y0, y1, y2], _, [v0, v1, v2], _ =>
        have g0 := hf 0 _ rfl
        have g1 := hf 1 _ rfl
        have g2 := hf 2 _ rfl
        simp [cells3, cells39] at g0 g1 g2
        have c0 := hcell 0 (by omega)
        have c1 := hcell 1 (by omega)
        have c2 := hcell 2 (by omega)
        rw [Go.Deep.add_add] at c0 c1 c2
        simp at c0 c1 c2
        obtain ⟨z0, e0, _, _⟩ := DataW.trod_int Tryz.underlying3 g0
        obtain ⟨z1, e1, _, _⟩ := DataW.trod_int Tryz.underlying3 g1
        simp at e0 e1
        subst e0 e1
        have hD : D i = .agg [y0.1, y1.1, y2.1] := by simpa using (Prod.mk.inj hxy).1
        -- where it lies
        have had : ad = ⟨ad.block, ad.off, none⟩ := by
          obtain ⟨cs0, p1, _⟩ := hi 0 (by omega)
          rw [cells41] at p1
          obtain ⟨_, q1, q2⟩ := World.cells?_some p1
          match cs0, q1, q2 with
          | [w0, w1, w2], _, q2 =>
            have q3 := q2 0 (by omega)
            exact (cellSpot (v := w0) (by simpa [Addr.add] using q3)).1
        have hadd : ∀ q, ad.add q = ⟨ad.block, ad.off + q, none⟩ := fun q => by rw [had]; exact addMid _ _ _
        rw [hadd] at c0 c1 c2
        have hrow : ∃ s a' c', v2 = .slice a' s.length c' ∧ Row W.heap.size W (.slice a' s.length c') s ∧ s.length ≤ 281474976710656 := by
          rcases open_ints Tryz.underlying39 Tryz.underlying5 cells5 g2 with ⟨hv, _⟩ | ⟨a', l', c', zs, hv, _, hl', hm', hz', hy, hcell', hwz⟩
          · simp at hv
            exact ⟨[], none, 0, hv, row_nil _ _, by simp⟩
          · simp at hv
            simp only [if_true] at hz'
            obtain ⟨s, es, hr⟩ := isRow_row (w := W) (a := some a') (len := l') (cap := c') (zs := zs) (.inr ⟨a', rfl, hl', hm', hz', hcell', hwz⟩)
            subst es
            refine ⟨s, some a', c', hv, hr, ?_⟩
            have hmem : DataW.agg [y0.1, y1.1, .slice (lits .u8 (List.take s.length zs)) (lits .u8 (List.drop s.length zs))] ∈ (List.range l).map D := by
              refine List.mem_map.2 ⟨i, List.mem_range.2 hil, ?_⟩
              rw [hD, hy]
            have hsz := hz _ _ _ _ _ _ (by rw [hx]) hmem
            have hr : reachBytes = 140737488351232 := rfl
            simp [lits] at hsz
            omega
        obtain ⟨s, a', c', e2, hr, hsl⟩ := hrow
        subst e2
        exact ⟨⟨z0, z1, a', c', s⟩, ad.block, ad.off, congrArg some had, c0, c1, c2, hr, hsl⟩
    obtain ⟨X, hX⟩ := Go.Deep.choose_lt each
    exact ⟨X, fun i hi => hX i hi⟩
end Go.Proofs.YtebcmicmklpflaaGreatDoor
