/- A script of locks that came in. -/
import Derived.Test.YtnlfmmempomcaaaSc
import Derived.Deep.SlicePairs
import Derived.Deep.Slices
import Derived.OpenShut
import Derived.ShutString
import Derived.SizedLaws
import Derived.SliceStrings
namespace Go.Proofs.Ytnlfmmempomcaaa
open Go.ChangeShapes Go.WideShapes Go.RowKit
open Go.ChangeMaps (open_string)
theorem addMid (b o j : Nat) : (⟨b, o, none⟩ : Addr).add j = ⟨b, o + j, none⟩ := by unfold Addr.add; split <;> simp_all
theorem cellSpot {w : World} {x : Addr} {v : Value} (h : w.cell? x = some v) : x = ⟨x.block, x.off, none⟩ ∧ x.block < w.heap.size := by
  obtain ⟨b, o, l⟩ := x
  have hb : b < w.heap.size := by
    unfold World.cell? at h
    split at h
    · rename_i q; exact (Array.getElem?_eq_some_iff.1 q).1
    · cases h
  cases l with
  | none => exact ⟨rfl, hb⟩
  | some l =>
    exfalso
    unfold World.cell? at h
    split at h
    · simp at h
    · cases h
theorem weights_mem {H : Type} {P : Program} {e : TypeId} : ∀ {l : List (DataW H)} {d : DataW H}, d ∈ l → ∀ n ∈ d.weights P e, n ∈ DataW.weightsAll P e l
  | x :: r, d, hd, n, hn => by
    simp only [DataW.weightsAll, List.mem_append]
    rcases List.mem_cons.1 hd with rfl | h
    · exact Or.inl hn
    · exact Or.inr (weights_mem h n hn)
/-- How long a name inside a step may be. -/
theorem step_sized {H : Type} {ts : List TypeId} {ds : List (DataW H)} (h : (DataW.weightsEach Try.prog ts ds).all (· ≤ reachBytes) = true) {j : Nat} {elems spare : List (DataW H)} {x y z : DataW H} {bs : List UInt8}
    (ht : ts[j]? = some 22) (hd : ds[j]? = some (.slice elems spare)) (hx : DataW.agg [x, y, .lit (.string bs), z] ∈ elems) : bs.length ≤ reachBytes := by
  refine of_decide_eq_true (List.all_eq_true.1 h _ (DataW.weights_mem_each ht hd _ ?_))
  simp only [DataW.weights, Try.underlying22, List.mem_cons, List.mem_append]
  refine Or.inr (Or.inl (weights_mem hx _ ?_))
  simp only [DataW.weights, Try.underlying32, List.map_cons, List.map_nil]
  refine DataW.weights_mem_each (j := 2) (t := 9) (d := .lit (.string bs)) rfl rfl _ ?_
  simp [DataW.weights]
instance : Inhabited Sp := ⟨⟨0, 0, ⟨#[]⟩, false⟩⟩
set_option maxRecDepth 100000 in
theorem open_script {H : Type} {enc : TypeId × Value → H} {W : World} {held : Bool} {fuel : Nat} {cs : List Value} {x : DataW H × List MemPlace} {a : Option Addr} {len cap : Nat} (h : DataW.trod enc Try.prog W 0 (fun _ => true) held fuel 22 cs = some x) (hcs : cs = [.slice a len cap])
    (hz : ∀ elems spare y0 y1 y3 bs, x.1 = .slice elems spare → DataW.agg [y0, y1, .lit (.string bs), y3] ∈ elems → bs.length ≤ reachBytes) : ∃ X : Nat → Sp, Script W a len X := by
  rcases Go.Deep.open_slice Try.underlying22 h with ⟨h0, _⟩ | ⟨ad, l, c, m, n, D, Pl, h0, hb, hl, hm, hmm, hx, hi⟩
  · rw [h0] at hcs
    injection hcs with hcs
    injection hcs with e1 e2 e3
    subst e2
    exact ⟨fun _ => default, fun i hi => absurd hi (Nat.not_lt_zero _)⟩
  · rw [h0] at hcs
    injection hcs with hcs
    injection hcs with e1 e2 e3
    subst e1 e2 e3
    simp only [if_true] at hmm
    have each : ∀ i, i < l → ∃ s : Sp, ∃ g o, some ad = some ⟨g, o, none⟩ ∧ g < W.heap.size ∧ W.cell? ⟨g, o + i * 4, none⟩ = some (.int .i64 s.K) ∧ W.cell? ⟨g, o + i * 4 + 1, none⟩ = some (.int .i64 s.T) ∧ W.cell? ⟨g, o + i * 4 + 2, none⟩ = some (.string s.N) ∧ W.cell? ⟨g, o + i * 4 + 3, none⟩ = some (.bool s.D) ∧ IOk s.T ∧ s.N.size ≤ 140737488355328 := by
      intro i hil
      obtain ⟨cs', h1, h2⟩ := hi i (by omega)
      rw [cells32] at h1
      obtain ⟨_, hlen, hcell⟩ := World.cells?_some h1
      obtain ⟨xs, k, hk, hxy, _, hxl, hf⟩ := DataW.trod_struct Try.underlying32 h2
      match xs, hxl, cs', hlen with
      | [y0, y1, y2, y3], _, [v0, v1, v2, v3], _ =>
        have g0 := hf 0 _ rfl
        have g1 := hf 1 _ rfl
        have g2 := hf 2 _ rfl
        have g3 := hf 3 _ rfl
        simp [cells3', cells9, cells4'] at g0 g1 g2 g3
        have c0 := hcell 0 (by omega)
        have c1 := hcell 1 (by omega)
        have c2 := hcell 2 (by omega)
        have c3 := hcell 3 (by omega)
        rw [Go.Deep.add_add] at c0 c1 c2 c3
        simp at c0 c1 c2 c3
        obtain ⟨z0, e0, w0, _⟩ := DataW.trod_int Try.underlying3 g0
        obtain ⟨z1, e1, w1, hw1⟩ := DataW.trod_int Try.underlying3 g1
        obtain ⟨s2, e2, w2, hw2⟩ := DataW.trod_string Try.underlying9 g2
        obtain ⟨d3, e3, _⟩ := DataW.trod_bool Try.underlying4 g3
        simp at e0 e1 e2 e3
        subst e0 e1 e2 e3
        have hD : D i = .agg [y0.1, y1.1, y2.1, y3.1] := by simpa using (Prod.mk.inj hxy).1
        have had : ad = ⟨ad.block, ad.off, none⟩ := by
          obtain ⟨cs0, p1, _⟩ := hi 0 (by omega)
          rw [cells32] at p1
          obtain ⟨_, q1, q2⟩ := World.cells?_some p1
          match cs0, q1, q2 with
          | [w0, w1, w2, w3], _, q2 =>
            have q3 := q2 0 (by omega)
            exact (cellSpot (v := w0) (by simpa [Addr.add] using q3)).1
        have hadd : ∀ q, ad.add q = ⟨ad.block, ad.off + q, none⟩ := fun q => by rw [had]; exact addMid _ _ _
        rw [hadd] at c0 c1 c2 c3
        have hmem : DataW.agg [y0.1, y1.1, y2.1, y3.1] ∈ (List.range l).map D := List.mem_map.2 ⟨i, List.mem_range.2 hil, hD⟩
        rw [w2] at hmem
        have hsz := hz _ _ _ _ _ s2.data.toList (by rw [hx]) hmem
        exact ⟨⟨z0, z1, s2, d3⟩, ad.block, ad.off, congrArg some had, (cellSpot c0).2, c0, c1, c2, c3, hw1, by
          rw [Array.length_toList] at hsz
          have e : s2.size = s2.data.size := rfl
          have e2 : reachBytes = 140737488351232 := by decide
          show s2.size ≤ _
          omega⟩
    have hch : ∀ i, ∃ s : Sp, i < l → ∃ g o, some ad = some ⟨g, o, none⟩ ∧ g < W.heap.size ∧ W.cell? ⟨g, o + i * 4, none⟩ = some (.int .i64 s.K) ∧ W.cell? ⟨g, o + i * 4 + 1, none⟩ = some (.int .i64 s.T) ∧ W.cell? ⟨g, o + i * 4 + 2, none⟩ = some (.string s.N) ∧ W.cell? ⟨g, o + i * 4 + 3, none⟩ = some (.bool s.D) ∧ IOk s.T ∧ s.N.size ≤ 140737488355328 := fun i => by
      by_cases hil : i < l
      · obtain ⟨s, hs⟩ := each i hil
        exact ⟨s, fun _ => hs⟩
      · exact ⟨default, fun h => absurd h hil⟩
    exact ⟨fun i => Classical.choose (hch i), fun i hil => Classical.choose_spec (hch i) hil⟩
end Go.Proofs.Ytnlfmmempomcaaa
