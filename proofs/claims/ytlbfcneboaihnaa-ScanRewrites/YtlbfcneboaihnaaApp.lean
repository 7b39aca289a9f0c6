/- Bytes appended to a row of the call's own: it has room, or a new row is made. -/
import Derived.Test.YtlbfcneboaihnaaK1
import Derived.Deep.AppendSrc
import Derived.Deep.Upon
namespace Go.Proofs.Ytlbfcneboaihnaa
open Go.RowKit Go.Great
attribute [local go_sem] f_8 f_1024 f_hi4 f_lo4

/-- A slice of bytes whose row is the call's own. -/
def OwnB (w : World) (base : Nat) (v : Value) (L : List Nat) : Prop :=
  ∃ (g : Nat) (R : List Nat), v = .slice (some ⟨g, 0, none⟩) L.length (L ++ R).length ∧ base ≤ g ∧ w.heap[g]? = some (.cells (E8 (L ++ R)) 5 (0, 0))
theorem E8_append (a b : List Nat) : E8 (a ++ b) = E8 a ++ E8 b := by simp [E8]
theorem nth_map (m : List Nat) (j : Nat) (u : Value) (h : (m.map B8)[j]? = some u) : j < m.length ∧ u = .int .u8 ((Sha.nth m j : Nat) : Int) := by
  rw [List.getElem?_map] at h
  cases e : m[j]? with
  | none => simp [e] at h
  | some x =>
    simp [e] at h
    refine ⟨(List.getElem?_eq_some_iff.1 e).1, ?_⟩
    rw [← h]; unfold B8 Sha.nth; rw [e]; rfl
theorem app_own (w : World) (base : Nat) (v : Value) (L : List Nat) (a : Option Addr) (m : List Nat) (c : Nat) (ho : OwnB w base v L) (hs : BytesAt w (.slice a m.length c) m) (hm : 0 < m.length) (hmax : L.length + m.length ≤ 1000000) :
    ∃ v' w', (∀ ty, (app52 ty #[v, .slice a m.length c]).run Try.prog w = .ok v' w') ∧ OwnB w' base v' (L ++ m) ∧ Below base w w' ∧ w.heap.size ≤ w'.heap.size := by
  obtain ⟨g, R, rfl, hg, hh⟩ := ho
  obtain ⟨a', c', ev, hc, hb⟩ := hs
  cases ev
  obtain ⟨b, o, rfl, hbl, hcell⟩ := hb hm
  obtain ⟨i, hi, hz, hsz, hby⟩ := info5_at
  have hlt : g < w.heap.size := (Array.getElem?_eq_some_iff.1 hh).1
  have hnews : ∀ j u, (m.map B8)[j]? = some u → w.cell? ((⟨b, o, none⟩ : Addr).add j) = some u := fun j u hj => by
    obtain ⟨hj1, rfl⟩ := nth_map m j u hj
    rw [Addr.add_mid]; exact hcell j hj1
  have hone : ∀ u ∈ m.map B8, u.oneCell' = true := fun u hu => by obtain ⟨x, -, rfl⟩ := List.mem_map.1 hu; rfl
  by_cases hroom : L.length + m.length ≤ (L ++ R).length
  · have hrl : m.length ≤ R.length := by simp at hroom; omega
    refine ⟨.slice (some ⟨g, 0, none⟩) (L.length + m.length) (L ++ R).length, w.setRow g (E8 (L ++ m ++ R.drop m.length)), fun ty => ?_, ?_, ?_, ?_⟩
    · unfold app52
      rw [run_append_room (P := Try.prog) w 22 ty 5 i Try.underlying22 hi g L.length (L ++ R).length (E8 (L ++ R)) hh ⟨b, o, none⟩ m.length c (m.map B8) (by simp [hsz]) hnews hone hroom (by simp [hsz]; omega)]
      rw [hsz, Nat.mul_one]
      have e : ((E8 (L ++ R)).toList.take L.length ++ m.map B8 ++ (E8 (L ++ R)).toList.drop (L.length + (m.map B8).length)).toArray = E8 (L ++ m ++ R.drop m.length) := by
        unfold E8
        rw [List.toList_toArray, List.map_append, List.take_left' (by simp), List.drop_append]
        simp [List.map_drop]
      rw [e]
    · refine ⟨g, R.drop m.length, by simp; omega, hg, ?_⟩
      rw [setRow_heap w g _ _ 5 _ hh]
    · exact below_setRow (Below.refl _ _) hg _
    · simp
  · refine ⟨.slice (some ⟨w.heap.size, 0, none⟩) (L.length + m.length) (grownCap w (L.length + m.length) (L ++ R).length 5), w.drew.alloc (.cells (E8 (L ++ m ++ zs (grownCap w (L.length + m.length) (L ++ R).length 5 - (L.length + m.length)))) 5), fun ty => ?_, ?_, ?_, ?_⟩
    · unfold app52
      have hold : (Builtin.firstCells i.size L.length (.slice (some ⟨g, 0, none⟩) L.length (L ++ R).length)).run Try.prog w.drew = .ok (L.map B8).toArray w.drew :=
        run_firstCells_some w.drew i.size L.length ⟨g, 0, none⟩ L.length _ (L.map B8) (by simp [hsz]) (fun j u hj => by
          obtain ⟨hj1, rfl⟩ := nth_map L j u hj
          rw [Addr.add_mid, Nat.zero_add]
          have : w.cell? ⟨g, j, none⟩ = some (.int .u8 ((Sha.nth L j : Nat) : Int)) := by
            rw [cell_of_row w g j _ 5 _ hh, E8_get _ _ (by simp; omega), Sha.nth_append_left hj1]
          exact this)
      rw [run_append_grow_src (P := Try.prog) w 22 22 ty 5 i (.int .u8 0) Try.underlying22 hi hz (some ⟨g, 0, none⟩) L.length (L ++ R).length (L.map B8) hold (.slice (some ⟨b, o, none⟩) m.length c) m.length (m.map B8)
        (Src.ofSlice w Try.underlying22 ⟨b, o, none⟩ m.length c (m.map B8) (by simp [hsz]) hnews hone) (by omega) (by omega) (growslice_fits (by omega) (by rw [hby]; omega))]
      have hzc : ∀ k, Builtin.zeroCells (Value.int .u8 0).cells k = E8 (zs k) := fun k => by
        have := made_zs k
        unfold madeCells at this
        unfold Builtin.zeroCells
        simpa [Value.cells] using this
      have e : ((L.map B8 ++ m.map B8).toArray : Array Value) = E8 (L ++ m) := by unfold E8; rw [List.map_append]
      rw [hzc, e, ← E8_append]
    · refine ⟨w.heap.size, zs (grownCap w (L.length + m.length) (L ++ R).length 5 - (L.length + m.length)), ?_, by omega, ?_⟩
      · have hge := grownCap_ge w (L.length + m.length) (L ++ R).length 5
        have e1 : (L ++ m).length = L.length + m.length := List.length_append
        have e2 : (L ++ m ++ zs (grownCap w (L.length + m.length) (L ++ R).length 5 - (L.length + m.length))).length = grownCap w (L.length + m.length) (L ++ R).length 5 := by
          rw [List.length_append, e1, zs_length]; omega
        rw [e2, e1]
      · exact heap_alloc_last w.drew _
    · exact (Below.refl _ _).drew.alloc (by show base ≤ w.heap.size; omega) _
    · simp
end Go.Proofs.Ytlbfcneboaihnaa
