/- Nothing yet, or a row of one's own; rows laid one behind the other. -/
import Derived.Test.YtdkhmjiconedkaaHsum
import Derived.Test.YtdkhmjiconedkaaRoomown
import Derived.Test.YtdkhmjiconedkaaMacs
namespace Go.Proofs.Ytdkhmjiconedkaa
open Go.RowKit Go.Great
theorem app_nil (w : World) (base : Nat) (a : Option Addr) (m : List Nat) (c : Nat) (hbase : base ≤ w.heap.size) (hs : BytesAt w (.slice a m.length c) m) (hm : 0 < m.length) (hmax : m.length ≤ 1000000) :
    ∃ v' w', (∀ ty, (app22 ty #[.slice none 0 0, .slice a m.length c]).run Try.prog w = .ok v' w') ∧ OwnB w' base v' m ∧ Below base w w' ∧ w.heap.size ≤ w'.heap.size := by
  obtain ⟨a', c', ev, hc, hb⟩ := hs
  cases ev
  obtain ⟨b, o, rfl, hbl, hcell⟩ := hb hm
  obtain ⟨i, hi, hz, hsz, hby⟩ := info5_at
  have hnews : ∀ j u, (m.map B8)[j]? = some u → w.cell? ((⟨b, o, none⟩ : Addr).add j) = some u := fun j u hj => by
    obtain ⟨hj1, rfl⟩ := nth_map m j u hj
    rw [Addr.add_mid]; exact hcell j hj1
  have hone : ∀ u ∈ m.map B8, u.oneCell' = true := fun u hu => by obtain ⟨x, -, rfl⟩ := List.mem_map.1 hu; rfl
  refine ⟨.slice (some ⟨w.heap.size, 0, none⟩) (0 + m.length) (grownCap w (0 + m.length) 0 5), w.drew.alloc (.cells (E8 (m ++ zs (grownCap w (0 + m.length) 0 5 - (0 + m.length)))) 5), fun ty => ?_, ?_, ?_, ?_⟩
  · unfold app22
    rw [run_append_grow_src (P := Try.prog) w 22 22 ty 5 i (.int .u8 0) Try.underlying22 hi hz none 0 0 [] (run_firstCells_none _ _ _ _ _) (.slice (some ⟨b, o, none⟩) m.length c) m.length (m.map B8)
      (Src.ofSlice w Try.underlying22 ⟨b, o, none⟩ m.length c (m.map B8) (by simp [hsz]) hnews hone) (by omega) (by omega) (growslice_fits (by omega) (by rw [hby]; omega))]
    have hzc : ∀ k, Builtin.zeroCells (Value.int .u8 0).cells k = E8 (zs k) := fun k => by
      have := made_zs k
      unfold madeCells at this
      unfold Builtin.zeroCells
      simpa [Value.cells] using this
    have e : (([] ++ m.map B8 : List Value).toArray : Array Value) = E8 m := by unfold E8; simp
    rw [hzc, e, ← E8_append]
  · refine ⟨w.heap.size, zs (grownCap w (0 + m.length) 0 5 - (0 + m.length)), ?_, hbase, ?_⟩
    · have hge := grownCap_ge w (0 + m.length) 0 5
      have e2 : (m ++ zs (grownCap w (0 + m.length) 0 5 - (0 + m.length))).length = grownCap w (0 + m.length) 0 5 := by
        rw [List.length_append, zs_length]; omega
      rw [e2, Nat.zero_add]
    · exact heap_alloc_last w.drew _
  · exact (Below.refl _ _).drew.alloc (by show base ≤ w.heap.size; omega) _
  · simp
/-- Nothing yet, or a slice whose row is the call's own. -/
def OwnN (w : World) (base : Nat) (v : Value) (L : List Nat) : Prop := (v = .slice none 0 0 ∧ L = []) ∨ OwnB w base v L
theorem app_ownN (w : World) (base : Nat) (v : Value) (L : List Nat) (a : Option Addr) (m : List Nat) (c : Nat) (hbase : base ≤ w.heap.size) (ho : OwnN w base v L) (hs : BytesAt w (.slice a m.length c) m) (hm : 0 < m.length) (hmax : L.length + m.length ≤ 1000000) :
    ∃ v' w', (∀ ty, (app22 ty #[v, .slice a m.length c]).run Try.prog w = .ok v' w') ∧ OwnB w' base v' (L ++ m) ∧ Below base w w' ∧ w.heap.size ≤ w'.heap.size := by
  rcases ho with ⟨rfl, rfl⟩ | ho
  · exact app_nil w base a m c hbase hs hm (by simpa using hmax)
  · exact app_own w base v L a m c ho hs hm hmax
theorem OwnN.alloc {w : World} {base : Nat} {v : Value} {L : List Nat} (h : OwnN w base v L) (o : Obj) : OwnN (w.alloc o) base v L := by
  rcases h with h | h
  · exact .inl h
  · exact .inr (h.alloc o)
theorem OwnN.bytesAt {w : World} {base : Nat} {v : Value} {L : List Nat} (h : OwnN w base v L) : BytesAt w v L := by
  rcases h with ⟨rfl, rfl⟩ | h
  · exact ⟨none, 0, rfl, Nat.le_refl _, fun h => absurd h (by simp)⟩
  · exact h.bytesAt
theorem OwnN.below' {w w' : World} {base : Nat} {v : Value} {L : List Nat} (h : OwnN w base v L) (hb : Below w.heap.size w w') : OwnN w' base v L := by
  rcases h with h | h
  · exact .inl h
  · exact .inr (h.below' hb)
/-- Bytes added to nothing yet, or to a row of one's own; no bytes too. -/
theorem app_more (w : World) (base : Nat) (v : Value) (L : List Nat) (a : Option Addr) (m : List Nat) (c : Nat) (hbase : base ≤ w.heap.size) (ho : OwnN w base v L) (hs : BytesAt w (.slice a m.length c) m) (hmax : L.length + m.length ≤ 1000000) :
    ∃ v' w', (∀ ty, (app22 ty #[v, .slice a m.length c]).run Try.prog w = .ok v' w') ∧ OwnN w' base v' (L ++ m) ∧ Below base w w' := by
  by_cases h0 : 0 < m.length
  · obtain ⟨v', w', h1, h2, h3, h4⟩ := app_ownN w base v L a m c hbase ho hs h0 hmax
    exact ⟨v', w', h1, .inr h2, h3⟩
  · obtain rfl : m = [] := List.eq_nil_of_length_eq_zero (by omega)
    rcases ho with ⟨rfl, rfl⟩ | ⟨g, R, rfl, hg, hh⟩
    · exact ⟨_, w, app_none w none a 0 0 c (Nat.le_refl _), .inl ⟨rfl, rfl⟩, Below.refl _ _⟩
    · exact ⟨_, w, app_none w (some ⟨g, 0, none⟩) a L.length (L ++ R).length c (by simp), .inr ⟨g, R, by simp, hg, by simpa using hh⟩, Below.refl _ _⟩
theorem OwnN.shape {w : World} {base : Nat} {v : Value} {L : List Nat} (h : OwnN w base v L) : ∃ a c, v = .slice a L.length c ∧ L.length ≤ c := by
  rcases h with ⟨rfl, rfl⟩ | ⟨g, R, rfl, hg, hh⟩
  · exact ⟨none, 0, rfl, Nat.le_refl _⟩
  · exact ⟨_, _, rfl, by simp⟩
/-- The first so many rows, one behind the other. -/
def catTo (B : Nat → List Nat) : Nat → List Nat
  | 0 => []
  | i + 1 => catTo B i ++ B i
/-- A row in a slice of rows, as the call found it. -/
def RowAt (w : World) (g o : Nat) (B : Nat → List Nat) (i : Nat) : Prop :=
  ∃ a c, w.cell? ⟨g, o + i, none⟩ = some (.slice a (B i).length c) ∧ BytesAt w (.slice a (B i).length c) (B i) ∧ Sha.Bytes (B i)
theorem Kept.belowB {w w' : World} {g base : Nat} {all sum : List Nat} (h : Kept w g all sum) (hb : Below base w w') (hg : g < base) : Kept w' g all sum := by
  obtain ⟨st, rest, hh, h2⟩ := h
  obtain ⟨a1, a2⟩ := hh
  exact ⟨st, rest, ⟨by rw [hb.block g hg]; exact a1, a2⟩, h2⟩
theorem OwnB.sole {w w' : World} {g base : Nat} {v : Value} {L : List Nat} (h : OwnB w base v L) (hs : Sole g w w') (hg : g < base) : OwnB w' base v L := by
  obtain ⟨q, R, rfl, hq, hh⟩ := h
  exact ⟨q, R, rfl, hq, by rw [hs.block q (Array.getElem?_eq_some_iff.1 hh).1 (by omega)]; exact hh⟩
end Go.Proofs.Ytdkhmjiconedkaa
