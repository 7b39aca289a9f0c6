/- Lay, of the document's own answer: a text laid among texts that rise. -/
import Derived.Test.YtlbfcneboaihnaaGreatDoorSorts
namespace Go.Proofs.YtlbfcneboaihnaaGreatDoor
open Go.RowKit Go.Great
/-- A row of texts of the call's own, and how its memory lies. -/
def OwnL (w : World) (base : Nat) (v : Value) (L : List Ord.S) : Prop := w.ownsRow base 23 1 v L.length (L.map encStr)
theorem OwnL.at {w : World} {base : Nat} {v : Value} {L : List Ord.S} (h : OwnL w base v L) : StrsAt w v L := by
  by_cases hv : v = .slice none 0 0
  · subst hv
    rcases h.2 with ⟨_, h0⟩ | ⟨g, cap, cur, e, _⟩
    · obtain rfl : L = [] := List.eq_nil_of_length_eq_zero h0
      exact ⟨none, 0, rfl, Nat.le_refl _, fun h => by simp at h⟩
    · cases e
  · obtain ⟨g, c, rfl, hbg, hgl, hncap, hcm, hlen, hH⟩ := Lib.holds_of_ownsRow h hv
    exact ⟨_, c, rfl, hncap, fun _ => ⟨g, 0, rfl, hgl, fun i hi => holds_at hH i hi⟩⟩
theorem info26 : (Tryz.prog.info? 23).map (fun i => (i.zero, i.size, i.bytes)) = some (some (.string ⟨#[]⟩), 1, 16) := by kernel_rfl
theorem info26_at : ∃ i, Tryz.prog.info? 23 = some i ∧ i.zero = some (.string ⟨#[]⟩) ∧ i.size = 1 ∧ i.bytes = 16 := by
  have h := info26
  cases hq : Tryz.prog.info? 23 with
  | none => simp [hq] at h
  | some i => simp [hq] at h; exact ⟨i, rfl, h.1, h.2.1, h.2.2⟩
def app38 (ty : TypeId) (args : Array Value) : Sem Value := Builtin.append_ #[58, 58] ty args
@[go_sem ↓] theorem append_app38 (ty : TypeId) (args : Array Value) : Builtin.append_ #[58, 58] ty args = app38 ty args := rfl
theorem appS (w : World) (base : Nat) (v : Value) (L : List Ord.S) (a : Option Addr) (m c : Nat) (Z : List Ord.S) (ty : TypeId) (hm : Z.length = m) (ho : OwnL w base v L) (hs : StrsAt w (.slice a m c) Z) (hmax : L.length + m ≤ 1000000) (hbase : base ≤ w.heap.size) :
    ∃ v' w', (app38 ty #[v, .slice a m c]).run Tryz.prog w = .ok v' w' ∧ OwnL w' base v' (L ++ Z) ∧ Below base w w' ∧ w.heap.size ≤ w'.heap.size := by
  subst hm
  obtain ⟨i, hi, hz, hsz, hby⟩ := info26_at
  by_cases h0 : 0 < Z.length
  · obtain ⟨a', c', e, hc, hx⟩ := hs
    cases e
    obtain ⟨b, o, rfl, hb, hcell⟩ := hx h0
    have hnews : ∀ j u, (Z.map encStr)[j]? = some u → w.cell? ((⟨b, o, none⟩ : Addr).add j) = some u := fun j u hj => by
      rw [List.getElem?_map] at hj
      cases h : Z[j]? with
      | none => simp [h] at hj
      | some z =>
        simp [h] at hj
        obtain ⟨hjl, rfl⟩ := List.getElem?_eq_some_iff.1 h
        rw [Addr.add_mid, hcell j hjl, ← hj, List.getD_eq_getElem?_getD, h]; rfl
    obtain ⟨v', w', hr, hown, hg, -⟩ := run_append_own (P := Tryz.prog) w base 58 ty 23 i (.string ⟨#[]⟩) 1 16 Tryz.underlying58 hi hz hsz hby rfl (by omega) v L.length (L.map encStr) ho ⟨b, o, none⟩ Z.length c (Z.map encStr) (by simp) hnews
      (fun u hu => by obtain ⟨z, -, rfl⟩ := List.mem_map.1 hu; rfl) (by simp only [maxLen]; omega) (by omega) hbase
    refine ⟨v', w', hr, ?_, ?_, hg.size⟩
    · unfold OwnL; rw [List.length_append, List.map_append]; exact hown
    · exact (Below.refl base w).grown hg hbase (fun k hk => (World.ownsRow.lt ho k hk).1)
  · obtain rfl : Z = [] := List.eq_nil_of_length_eq_zero (by omega)
    have hsrc : Src Tryz.prog i.size 58 (.slice a 0 c) 0 [] w := by
      cases a with
      | none => exact Src.ofNil w Tryz.underlying58 c
      | some x => exact Src.ofSlice w Tryz.underlying58 x 0 c [] (by simp) (fun j u hj => by simp at hj) (fun u hu => by simp at hu)
    obtain ⟨b, n, cp, rfl, hle, hn⟩ : ∃ b n cp, v = .slice b n cp ∧ n ≤ cp ∧ n = L.length := by
      rcases ho.2 with ⟨rfl, h⟩ | ⟨g, cap, cur, rfl, _, _, h, _⟩
      · exact ⟨none, 0, 0, rfl, Nat.le_refl _, h.symm⟩
      · exact ⟨_, _, _, rfl, h, rfl⟩
    refine ⟨_, w, run_append_nothing w 58 58 ty 23 i Tryz.underlying58 hi b n cp hle _ hsrc, ?_, Below.refl _ _, Nat.le_refl _⟩
    rw [List.append_nil]; exact ho
/-- A slice whose block is one of texts. -/
def T25 (w : World) (v : Value) : Prop := ∀ k, v.ownBlock = some k → ∃ cs fr, w.heap[k]? = some (.cells cs 23 fr)
theorem OwnL.t25 {w : World} {base : Nat} {v : Value} {L : List Ord.S} (h : OwnL w base v L) : T25 w v := fun k hk => by
  rcases h.2 with ⟨rfl, _⟩ | ⟨g, cap, cur, rfl, _, hh, _⟩
  · cases hk
  · cases hk; exact ⟨_, _, hh⟩
theorem T25.keep {w w' : World} {v : Value} (h : T25 w v) (hk : ∀ k, v.ownBlock = some k → w'.heap[k]? = w.heap[k]?) : T25 w' v := fun k e => by
  obtain ⟨cs, fr, h⟩ := h k e
  exact ⟨cs, fr, (hk k e).trans h⟩
theorem ownL_new (w : World) : OwnL (w.alloc (.cells #[] 23)) w.heap.size (.slice (some ⟨w.heap.size, 0, none⟩) 0 0) [] :=
  ⟨by simp, .inr ⟨w.heap.size, 0, #[], rfl, Nat.le_refl _, heap_alloc_last w _, Nat.le_refl _, Nat.zero_le _, rfl, rfl⟩⟩
theorem oneS_at (w : World) (p : Ord.S) : StrsAt (w.alloc (.cells #[.string ⟨p.toArray⟩] 23)) (.slice (some ⟨w.heap.size, 0, none⟩) 1 1) [p] :=
  ⟨_, 1, rfl, Nat.le_refl _, fun _ => ⟨w.heap.size, 0, rfl, by simp, fun i hi => by
    obtain rfl : i = 0 := by simp at hi; omega
    simp [go_sem, encStr]⟩⟩
/-- A row that rises, as Rising carries it. -/
def RowR (w : World) (v : Value) (R : List Ord.S) : Prop := StrsAt w v R ∧ Ord.Rises R ∧ ((v = .slice none 0 0 ∧ R = []) ∨ 0 < R.length)
theorem RowR.below {w w' : World} {v : Value} {R : List Ord.S} (h : RowR w v R) (hb : Below w.heap.size w w') : RowR w' v R := ⟨h.1.below hb, h.2⟩
end Go.Proofs.YtlbfcneboaihnaaGreatDoor
