/- Append, where it is done: three ways of its bytes. -/
import Derived.Test.YtbnbakcoomjnaaaGv
namespace Go.Proofs.Ytbnbakcoomjnaaa
open Go.RowKit Go.Maps
set_option linter.unusedSimpArgs false
theorem Inv.setRow {w W : World} {L : List (Nat × Obj)} (h : Inv (fun _ => False) w W L) {g : Nat} (hg : g < w.heap.size) {cur nc : Array Value} (hw : w.heap[g]? = some (.cells cur 5 (0, 0))) : Inv (fun _ => False) (w.setRow g nc) (W.setRow g nc) L := by
  have hW : W.heap[g]? = some (.cells cur 5 (0, 0)) := (h.blk g hg id).trans hw
  refine ⟨h.os, h.tape, h.output, by simp [World.setRow]; exact h.size, fun q h1 _ => ?_, fun p hp => ?_, fun p hp => by simp [World.setRow]; exact h.new p hp⟩
  · by_cases e : q = g
    · rw [e, setRow_heap W g cur nc 5 (0, 0) hW, setRow_heap w g cur nc 5 (0, 0) hw]
    · rw [setRow_other W g q nc e, setRow_other w g q nc e]
      exact h.blk q (by simpa [World.setRow] using h1) id
  · rw [setRow_other W g p.1 nc (by have := h.new p hp; omega)]
    exact h.held p hp
theorem Row.src {hi : Nat} {w : World} {a : Option Addr} {c : Nat} {d : List UInt8} (h : Row hi w (.slice a d.length c) d) (hd : 0 < d.length) : ∃ g o, a = some ⟨g, o, none⟩ ∧ g < hi ∧ ∀ j u, (byteVals d)[j]? = some u → w.cell? ((⟨g, o, none⟩ : Addr).add j) = some u := by
  obtain ⟨a', c', e, _, hx⟩ := h
  obtain ⟨g, o, ea, hg, hcell⟩ := hx hd
  injection e with e1
  refine ⟨g, o, e1.trans ea, hg, fun j u hj => ?_⟩
  rw [show (⟨g, o, none⟩ : Addr).add j = ⟨g, o + j, none⟩ from by unfold Addr.add; split <;> simp_all]
  exact hcell j u hj
theorem byte_one {d : List UInt8} : ∀ u ∈ byteVals d, u.oneCell' = true := fun u hu => by obtain ⟨b, -, rfl⟩ := List.mem_map.1 hu; rfl
/-- Bytes behind bytes, where there is room. -/
theorem app_room {w W : World} {L : List (Nat × Obj)} (hI : Inv (fun _ => False) w W L) {hi g D0 c0 c : Nat} {a : Option Addr} {d : List UInt8} {cur : Array Value} (hg : w.heap[g]? = some (.cells cur 5 (0, 0))) (hsz : cur.size = c0) (hfit : D0 + d.length ≤ c0) (hd : 0 < d.length) (hrow : Row hi w (.slice a d.length c) d) (ty : TypeId) :
    (Builtin.append_ #[22, 22] ty #[.slice (some ⟨g, 0, none⟩) D0 c0, .slice a d.length c]).run Try.prog W = .ok (.slice (some ⟨g, 0, none⟩) (D0 + d.length) c0) (W.setRow g (cur.toList.take D0 ++ byteVals d ++ cur.toList.drop (D0 + d.length)).toArray) := by
  obtain ⟨i, hi', hz, hs, hby⟩ := info5
  obtain ⟨gs, o, rfl, _, hcell⟩ := Row.src (hrow.inv hI (fun _ _ => id)) hd
  have hgl : g < w.heap.size := (Array.getElem?_eq_some_iff.1 hg).1
  have := run_append_room (P := Try.prog) W 22 ty 5 i Try.underlying22 hi' g D0 c0 cur ((hI.blk g hgl id).trans hg) ⟨gs, o, none⟩ d.length c (byteVals d) (by rw [byteVals_len, hs]; omega) hcell byte_one hfit (by rw [byteVals_len, hs]; omega)
  rw [hs, byteVals_len, Nat.mul_one] at this
  exact this
theorem zeros_len (z : Value) (h : z.cells.size = 1) (n : Nat) : (Builtin.zeroCells z.cells n).size = n := by rw [size_zeroCells, h, Nat.mul_one]
/-- Bytes behind bytes, where there is no room. -/
theorem app_grow {w W : World} {L : List (Nat × Obj)} (hI : Inv (fun _ => False) w W L) {K : Nat → Option (List UInt8)} (hK : KOK w K) {hi D0 c0 c : Nat} {a0 a : Option Addr} {d0 d : List UInt8} (hdat : DataIs K (.slice a0 D0 c0) d0) (hD0 : d0.length = D0) (hno : c0 < D0 + d.length) (hd : 0 < d.length) (hmax : D0 + d.length ≤ 1048576) (hrow : Row hi w (.slice a d.length c) d) :
    ∃ a' c' L' w', (∀ ty, (Builtin.append_ #[22, 22] ty #[.slice a0 D0 c0, .slice a d.length c]).run Try.prog W = .ok (.slice a' (D0 + d.length) c') w') ∧ NewData w.heap.size L' (.slice a' (D0 + d.length) c') (d0 ++ d) ∧ Inv (fun _ => False) w w' (L ++ L') := by
  obtain ⟨i, hi', hz, hs, hby⟩ := info5
  obtain ⟨gs, o, rfl, _, hcell⟩ := Row.src (hrow.inv hI (fun _ _ => id)) hd
  have hlen : (d0 ++ d).length = D0 + d.length := by rw [List.length_append, hD0]
  have key : ∀ old : Nat, Inv (fun _ => False) w (W.drew.alloc (.cells ((byteVals d0).toArray ++ (byteVals d).toArray ++ Builtin.zeroCells (Value.int .u8 0).cells (grownCap W (D0 + d.length) old 5 - (D0 + d.length))) 5)) (L ++ [(W.heap.size, .cells ((byteVals d0).toArray ++ (byteVals d).toArray ++ Builtin.zeroCells (Value.int .u8 0).cells (grownCap W (D0 + d.length) old 5 - (D0 + d.length))) 5 (0, 0))]) ∧
      NewData w.heap.size [(W.heap.size, .cells ((byteVals d0).toArray ++ (byteVals d).toArray ++ Builtin.zeroCells (Value.int .u8 0).cells (grownCap W (D0 + d.length) old 5 - (D0 + d.length))) 5 (0, 0))] (.slice (some ⟨W.heap.size, 0, none⟩) (D0 + d.length) (grownCap W (D0 + d.length) old 5)) (d0 ++ d) := fun old => by
    have hge := grownCap_ge W (D0 + d.length) old 5
    have hcm : grownCap W (D0 + d.length) old 5 ≤ maxLen := grownCap_le_maxLen W (D0 + d.length) old 5 (by simp only [maxLen]; omega)
    refine ⟨(hI.dalloc _).sub fun z hz => ?_, .inr ⟨W.heap.size, _, _, rfl, by rw [hlen], hI.size, by rw [hlen]; exact hge, hcm, ?_, ?_⟩⟩
    · rcases List.mem_append.1 hz with hz | hz
      · exact List.mem_cons_of_mem _ hz
      · simp only [List.mem_singleton] at hz
        rw [hz]; exact List.mem_cons_self ..
    · have hb : (byteVals (d0 ++ d)).length = D0 + d.length := by rw [byteVals_len, hlen]
      rw [byteVals_append, List.length_append, byteVals_len, byteVals_len] at hb
      simp only [Array.size_append, List.size_toArray, byteVals_len, zeros_len (.int .u8 0) rfl]
      omega
    · rw [hlen]
      simp only [Array.toList_append, List.toList_toArray, ← byteVals_append]
      rw [List.take_append_of_le_length (by rw [byteVals_len, hlen]; exact Nat.le_refl _)]
      rw [List.take_of_length_le (by rw [byteVals_len, hlen]; exact Nat.le_refl _)]
  cases a0 with
  | none =>
    obtain ⟨a', c', e, hle, _, h3⟩ := hdat
    injection e with e1 e2 e3
    have hc0 : c0 = 0 := by
      rcases h3 with ⟨_, e⟩ | ⟨g, l, e, _⟩
      · rw [e3]; exact e
      · rw [e] at e1; cases e1
    have hD : D0 = 0 := by omega
    subst hc0
    subst hD
    obtain rfl : d0 = [] := List.eq_nil_of_length_eq_zero hD0
    obtain ⟨k1, k2⟩ := key 0
    refine ⟨_, _, _, _, fun ty => ?_, k2, k1⟩
    have := run_append_nil (P := Try.prog) W 22 ty 5 i (.int .u8 0) Try.underlying22 hi' hz ⟨gs, o, none⟩ d.length c (byteVals d) (by rw [byteVals_len, hs]; omega) hcell hd (by omega) (by rw [hby]; omega)
    simpa [byteVals] using this
  | some b0 =>
    have hb0 : ∃ g, b0 = ⟨g, 0, none⟩ ∧ ∀ j u, (byteVals d0)[j]? = some u → W.cell? ((⟨g, 0, none⟩ : Addr).add j) = some u := by
      obtain ⟨a', c', e, hle, _, h3⟩ := hdat
      injection e with e1 e2 e3
      rcases h3 with ⟨e, _⟩ | ⟨g, l, e, hk, hp⟩
      · rw [e] at e1; cases e1
      · rw [e] at e1
        injection e1 with e1
        refine ⟨g, e1, fun j u hj => ?_⟩
        obtain ⟨cur, hc, hpc⟩ := hK g l hk
        have hgl : g < w.heap.size := (Array.getElem?_eq_some_iff.1 hc).1
        rw [show (⟨g, 0, none⟩ : Addr).add j = ⟨g, j, none⟩ from by unfold Addr.add; split <;> simp_all]
        have hW : W.heap[g]? = some (.cells cur 5 (0, 0)) := (hI.blk g hgl id).trans hc
        have hp2 : byteVals d0 <+: cur.toList := by
          obtain ⟨t, ht⟩ := hp
          rw [← ht, byteVals_append] at hpc
          exact (List.prefix_append _ _).trans hpc
        obtain ⟨t, ht⟩ := hp2
        have hj2 := (List.getElem?_eq_some_iff.1 hj).1
        simp only [World.cell?, hW]
        rw [← Array.getElem?_toList, ← ht, List.getElem?_append_left hj2]
        simpa using hj
    obtain ⟨g, rfl, hold⟩ := hb0
    obtain ⟨k1, k2⟩ := key c0
    refine ⟨_, _, _, _, fun ty => ?_, k2, k1⟩
    have := run_append_grow (P := Try.prog) W 22 ty 5 i (.int .u8 0) Try.underlying22 hi' hz ⟨g, 0, none⟩ D0 c0 (byteVals d0) (by rw [byteVals_len, hs]; omega) hold ⟨gs, o, none⟩ d.length c (byteVals d) (by rw [byteVals_len, hs]; omega) hcell hno (by omega) (growslice_fits (by omega) (by rw [hby]; omega))
    exact this
end Go.Proofs.Ytbnbakcoomjnaaa
