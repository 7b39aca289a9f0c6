/- Bytes appended to a row of the call's own, that may be nil: a row's, and a text's. -/
import Derived.Test.YtlbfcneboaihnaaParts
import Derived.Lib.AppendStr
namespace Go.Proofs.Ytlbfcneboaihnaa
open Go.RowKit Go.Great
/-- A row of bytes of the call's own. -/
def OwnR (w : World) (base : Nat) (v : Value) (L : List Nat) : Prop := w.ownsRow base 5 1 v L.length (L.map B8)
theorem ownR_nil (w : World) (base : Nat) : OwnR w base (.slice none 0 0) [] := ⟨rfl, .inl ⟨rfl, rfl⟩⟩
theorem ownR_keep {w w' : World} {base : Nat} {v : Value} {L : List Nat} (h : OwnR w base v L) (hk : ∀ k, base ≤ k → k < w.heap.size → w'.heap[k]? = w.heap[k]?) : OwnR w' base v L := by
  refine ⟨h.1, ?_⟩
  rcases h.2 with h2 | ⟨g, cap, cur, e, hb, hh, r⟩
  · exact .inl h2
  · exact .inr ⟨g, cap, cur, e, hb, by rw [hk g hb (Array.getElem?_eq_some_iff.1 hh).1]; exact hh, r⟩
theorem OwnR.at {w : World} {base : Nat} {v : Value} {L : List Nat} (h : OwnR w base v L) : ∃ a c, v = .slice a L.length c ∧ BytesAt w (.slice a L.length c) L := by
  rcases h.2 with ⟨rfl, h0⟩ | ⟨g, cap, cur, e, hb, hh, hl, _, hs, ht⟩
  · obtain rfl : L = [] := List.eq_nil_of_length_eq_zero h0
    exact ⟨none, 0, rfl, none, 0, rfl, Nat.le_refl _, fun h => by simp at h⟩
  · refine ⟨_, cap, e, _, cap, rfl, hl, fun _ => ⟨g, 0, rfl, (Array.getElem?_eq_some_iff.1 hh).1, fun i hi => ?_⟩⟩
    have h1 : (cur.toList.take (L.length * 1))[i]? = (L.map B8)[i]? := by rw [ht]
    rw [List.getElem?_take, if_pos (by omega), List.getElem?_map, List.getElem?_eq_getElem hi, Array.getElem?_toList] at h1
    simp [World.cell?, hh, h1, B8, Sha.nth, List.getElem?_eq_getElem hi]
theorem appR (w : World) (base : Nat) (v : Value) (L : List Nat) (a : Option Addr) (n c : Nat) (Z : List Nat) (ty : TypeId) (hn : Z.length = n) (ho : OwnR w base v L) (hs : BytesAt w (.slice a n c) Z) (hmax : L.length + n ≤ 1000000) (hbase : base ≤ w.heap.size) :
    ∃ v' w', (app52 ty #[v, .slice a n c]).run Try.prog w = .ok v' w' ∧ OwnR w' base v' (L ++ Z) ∧ Below base w w' ∧ w.grownBy w' v.ownBlock := by
  subst hn
  obtain ⟨i, hi, hz, hsz, hby⟩ := info5_at
  by_cases h0 : 0 < Z.length
  · obtain ⟨a', c', e, hc, hx⟩ := hs
    cases e
    obtain ⟨b, o, rfl, hb, hcell⟩ := hx h0
    have hnews : ∀ j u, (Z.map B8)[j]? = some u → w.cell? ((⟨b, o, none⟩ : Addr).add j) = some u := fun j u hj => by
      obtain ⟨hj1, rfl⟩ := nth_map Z j u hj
      rw [Addr.add_mid]; exact hcell j hj1
    obtain ⟨v', w', hr, hown, hg, -⟩ := run_append_own (P := Try.prog) w base 22 ty 5 i (.int .u8 0) 1 1 Try.underlying22 hi hz hsz hby rfl (by omega) v L.length (L.map B8) ho ⟨b, o, none⟩ Z.length c (Z.map B8) (by simp) hnews
      (fun u hu => by obtain ⟨z, -, rfl⟩ := List.mem_map.1 hu; rfl) (by simp only [maxLen]; omega) (by omega) hbase
    refine ⟨v', w', hr, ?_, ?_, hg⟩
    · unfold OwnR; rw [List.length_append, List.map_append]; exact hown
    · exact (Below.refl base w).grown hg hbase (fun k hk => (World.ownsRow.lt ho k hk).1)
  · obtain rfl : Z = [] := List.eq_nil_of_length_eq_zero (by omega)
    have hsrc : Src Try.prog i.size 22 (.slice a 0 c) 0 [] w := by
      cases a with
      | none => exact Src.ofNil w Try.underlying22 c
      | some x => exact Src.ofSlice w Try.underlying22 x 0 c [] (by simp) (fun j u hj => by simp at hj) (fun u hu => by simp at hu)
    obtain ⟨b, n, cp, rfl, hle, hn⟩ : ∃ b n cp, v = .slice b n cp ∧ n ≤ cp ∧ n = L.length := by
      rcases ho.2 with ⟨rfl, h⟩ | ⟨g, cap, cur, rfl, _, _, h, _⟩
      · exact ⟨none, 0, 0, rfl, Nat.le_refl _, h.symm⟩
      · exact ⟨_, _, _, rfl, h, rfl⟩
    refine ⟨_, w, run_append_nothing w 22 22 ty 5 i Try.underlying22 hi b n cp hle _ hsrc, ?_, Below.refl _ _, World.grownBy.refl w _⟩
    rw [List.append_nil]; exact ho
def appP (ty : TypeId) (args : Array Value) : Sem Value := Builtin.append_ #[22, 25] ty args
@[go_sem ↓] theorem append_appP (ty : TypeId) (args : Array Value) : Builtin.append_ #[22, 25] ty args = appP ty args := rfl
theorem appT (w : World) (base : Nat) (v : Value) (L : List Nat) (p : Ord.S) (ty : TypeId) (ho : OwnR w base v L) (hmax : L.length + p.length ≤ 1000000) (hbase : base ≤ w.heap.size) :
    ∃ v' w', (appP ty #[v, .string ⟨p.toArray⟩]).run Try.prog w = .ok v' w' ∧ OwnR w' base v' (L ++ natsOf p) ∧ Below base w w' ∧ w.grownBy w' v.ownBlock := by
  obtain ⟨i, hi, hz, hsz, hby⟩ := info5_at
  have hs : (⟨p.toArray⟩ : ByteArray).size = p.length := by simp [ByteArray.size]
  obtain ⟨v', w', hr, hown, hg, -⟩ := Lib.run_append_own_string (P := Try.prog) w base 22 25 ty 5 i Try.underlying22 Try.underlying25 hi hz hsz hby v L.length (L.map B8) ho ⟨p.toArray⟩ (by rw [hs]; simp only [maxLen]; omega) (by rw [hs]; omega) hbase
  refine ⟨v', w', hr, ?_, (Below.refl base w).grown hg hbase (fun k hk => (World.ownsRow.lt ho k hk).1), hg⟩
  have e : Lib.strCells ⟨p.toArray⟩ = (natsOf p).map B8 := by simp [Lib.strCells, natsOf, B8, Function.comp_def]
  unfold OwnR
  rw [List.length_append, List.map_append, natsOf_length, ← hs, ← e]; exact hown
theorem isP_len {p : Ord.S} (h : IsP p) : p.length ≤ 113 := by
  have h1 := (isNm_len h.2.2.1).2
  rw [List.length_drop, natsOf_length] at h1
  omega
open Classical in
theorem allB_len (A : List Nat) (of : List Ord.S) : (allB A of).length ≤ of.length * (A.length + 113) := by
  unfold allB pathsOf
  induction of with
  | nil => simp
  | cons p of ih =>
    rw [List.filter_cons, List.length_cons, Nat.add_mul]
    by_cases h : IsP p
    · rw [decide_eq_true h, if_pos rfl, List.flatMap_cons, List.length_append, List.length_append, natsOf_length]
      have := isP_len h
      omega
    · rw [decide_eq_false h, if_neg (by simp)]
      omega
end Go.Proofs.Ytlbfcneboaihnaa
