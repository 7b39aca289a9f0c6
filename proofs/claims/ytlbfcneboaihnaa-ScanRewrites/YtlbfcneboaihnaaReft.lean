/- The document's own Text. -/
import Derived.Test.YtlbfcneboaihnaaDleaf
namespace Go.Proofs.Ytlbfcneboaihnaa
open Go.RowKit Go.Great
theorem app_nil (w : World) (base : Nat) (a : Option Addr) (m : List Nat) (c : Nat) (hbase : base ≤ w.heap.size) (hs : BytesAt w (.slice a m.length c) m) (hm : 0 < m.length) (hmax : m.length ≤ 1000000) :
    ∃ v' w', (∀ ty, (app52 ty #[.slice none 0 0, .slice a m.length c]).run Try.prog w = .ok v' w') ∧ OwnB w' base v' m ∧ Below base w w' ∧ w.heap.size ≤ w'.heap.size := by
  obtain ⟨a', c', ev, hc, hb⟩ := hs
  cases ev
  obtain ⟨b, o, rfl, hbl, hcell⟩ := hb hm
  obtain ⟨i, hi, hz, hsz, hby⟩ := info5_at
  have hnews : ∀ j u, (m.map B8)[j]? = some u → w.cell? ((⟨b, o, none⟩ : Addr).add j) = some u := fun j u hj => by
    obtain ⟨hj1, rfl⟩ := nth_map m j u hj
    rw [Addr.add_mid]; exact hcell j hj1
  have hone : ∀ u ∈ m.map B8, u.oneCell' = true := fun u hu => by obtain ⟨x, -, rfl⟩ := List.mem_map.1 hu; rfl
  refine ⟨.slice (some ⟨w.heap.size, 0, none⟩) (0 + m.length) (grownCap w (0 + m.length) 0 5), w.drew.alloc (.cells (E8 (m ++ zs (grownCap w (0 + m.length) 0 5 - (0 + m.length)))) 5), fun ty => ?_, ?_, ?_, ?_⟩
  · unfold app52
    rw [run_append_grow_src (P := Try.prog) w 22 22 ty 5 i (.int .u8 0) Try.underlying22 hi hz none 0 0 [] (run_firstCells_none _ _ _ _ _) (.slice (some ⟨b, o, none⟩) m.length c) m.length (m.map B8)
      (Src.ofSlice w Try.underlying22 ⟨b, o, none⟩ m.length c (m.map B8) (by simp [hsz]) hnews hone) (by omega) (by omega) (growslice_fits (by omega) (by rw [hby]; omega))]
    have hzc : ∀ k, Builtin.zeroCells (Value.int .u8 0).cells k = E8 (zs k) := fun k => by
      have := made_zs k
      unfold madeCells at this
      unfold Builtin.zeroCells
      simpa [Value.cells] using this
    have e : (([] ++ m.map B8 : List Value).toArray : Array Value) = E8 m := by unfold E8; simp
    rw [hzc, e, ← E8_append]
  · refine ⟨w.heap.size, zs (grownCap w (0 + m.length) 0 5 - (0 + m.length)), ?_, hbase, ?_⟩
    · have hge := grownCap_ge w (0 + m.length) 0 5
      have e2 : (m ++ zs (grownCap w (0 + m.length) 0 5 - (0 + m.length))).length = grownCap w (0 + m.length) 0 5 := by
        rw [List.length_append, zs_length]; omega
      rw [e2, Nat.zero_add]
    · exact heap_alloc_last w.drew _
  · exact (Below.refl _ _).drew.alloc (by show base ≤ w.heap.size; omega) _
  · simp
/-- Nothing yet, or a slice whose row is the call's own. -/
def OwnN (w : World) (base : Nat) (v : Value) (L : List Nat) : Prop := (v = .slice none 0 0 ∧ L = []) ∨ OwnB w base v L
theorem app_ownN (w : World) (base : Nat) (v : Value) (L : List Nat) (a : Option Addr) (m : List Nat) (c : Nat) (hbase : base ≤ w.heap.size) (ho : OwnN w base v L) (hs : BytesAt w (.slice a m.length c) m) (hm : 0 < m.length) (hmax : L.length + m.length ≤ 1000000) :
    ∃ v' w', (∀ ty, (app52 ty #[v, .slice a m.length c]).run Try.prog w = .ok v' w') ∧ OwnB w' base v' (L ++ m) ∧ Below base w w' ∧ w.heap.size ≤ w'.heap.size := by
  rcases ho with ⟨rfl, rfl⟩ | ho
  · exact app_nil w base a m c hbase hs hm (by simpa using hmax)
  · exact app_own w base v L a m c ho hs hm hmax
theorem OwnN.alloc {w : World} {base : Nat} {v : Value} {L : List Nat} (h : OwnN w base v L) (o : Obj) : OwnN (w.alloc o) base v L := by
  rcases h with h | h
  · exact .inl h
  · exact .inr (h.alloc o)
theorem OwnB.bytesAt {w : World} {base : Nat} {v : Value} {L : List Nat} (h : OwnB w base v L) : BytesAt w v L := by
  obtain ⟨g, R, rfl, hg, hh⟩ := h
  exact bytesAt_row w g (L ++ R) L _ _ (by unfold rowOf; rw [hh]) (Array.getElem?_eq_some_iff.1 hh).1 (by simp) (by simp) (List.take_left' rfl)
theorem conv_at (w : World) (v : Value) (L : List Nat) (h : BytesAt w v L) : (convert 22 9 v).run Try.prog w = .ok (.string (strOf L)) w := by
  obtain ⟨a, cap, rfl, hc, hx⟩ := h
  rw [run_convert_bytes_string w 22 9 5 _ _ _ Try.underlying22 Try.underlying5 Try.underlying9]
  by_cases h0 : 0 < L.length
  · obtain ⟨g, o, rfl, hl, hcell⟩ := hx h0
    have hload : (loadCells ⟨g, o, none⟩ L.length).run Try.prog w = .ok ((L.map Int.ofNat).map (Value.int .u8)).toArray w := by
      have := run_loadCells_list (P := Try.prog) w ⟨g, o, none⟩ ((L.map Int.ofNat).map (Value.int .u8)) (fun j v hv => by
        rw [Addr.add_mid]
        rw [List.map_map] at hv
        obtain ⟨hj, rfl⟩ := nth_map L j v hv
        exact hcell j hj)
      simpa using this
    rw [run_bytesToString w _ L.length cap _ hload, strOf_fold]
    simp [strOf, ByteArray.empty, ByteArray.emptyWithCapacity]
    rfl
  · obtain rfl : L = [] := List.eq_nil_of_length_eq_zero (by omega)
    cases a with
    | none => rfl
    | some x =>
      show (Conv.bytesToString (.slice (some x) 0 cap)).run Try.prog w = _
      rw [run_bytesToString w _ 0 cap [] rfl]; rfl
theorem and_one (y : Nat) (hy : y < 9223372036854775808) : bits .and .i64 (y : Int) 1 = ((y % 2 : Nat) : Int) := by
  show IntKind.i64.wrap ((BitVec.ofInt 64 (y : Int) &&& BitVec.ofInt 64 1).toNat : Int) = _
  have e1 : (BitVec.ofInt 64 (1 : Int)).toNat = 1 := by decide
  have e2 : (BitVec.ofInt 64 (y : Int)).toNat = y := by rw [BitVec.ofInt_natCast, BitVec.toNat_ofNat]; omega
  rw [BitVec.toNat_and, e1, e2, Nat.and_one_is_mod]
  exact IntWalk.i64_in _ (by omega)
theorem bit_val {b : List Nat} (hb : Sha.Bytes b) (i : Nat) : Sha.nth b (i / 8) / 2 ^ (i % 8) % 2 = Sha.W (Sha.num b) i 1 := by
  rw [← Sha.num_byte hb (i / 8)]
  have h1 := Sha.W_high (Sha.num b) (8 * (i / 8)) 8 (i % 8) (by omega)
  rw [h1, show 8 * (i / 8) + i % 8 = i by omega]
  exact Sha.W_low (Sha.num b) i (8 - i % 8) 1 (by omega)
theorem bit_zero {b : List Nat} (hb : Sha.Bytes b) (i : Nat) (h : b.length ≤ i / 8) : Sha.W (Sha.num b) i 1 = 0 := by
  unfold Sha.W
  rw [Nat.div_eq_of_lt (Nat.lt_of_lt_of_le (Sha.num_lt hb) (Nat.pow_le_pow_right (by omega) (by omega)))]
theorem OwnN.bytesAt {w : World} {base : Nat} {v : Value} {L : List Nat} (h : OwnN w base v L) : BytesAt w v L := by
  rcases h with ⟨rfl, rfl⟩ | h
  · exact ⟨none, 0, rfl, Nat.le_refl _, fun h => by simp at h⟩
  · exact h.bytesAt
theorem take_text (L N I : Nat) (h : I < L) : (Sha.text L N).take (L - I) = (Sha.text L N).take (L - (I + 1)) ++ [Sha.dg (Sha.W N (5 * I) 5)] := by
  have e : L - I = (L - (I + 1)) + 1 := by omega
  have hl : L - (I + 1) < (Sha.text L N).length := by rw [Sha.text_length]; omega
  rw [e, List.take_add_one]
  congr 1
  have := Sha.text_nth L N (L - (I + 1)) (by omega)
  unfold Sha.nth at this
  rw [List.getElem?_eq_getElem hl] at this ⊢
  simp only [Option.getD_some, Option.toList_some] at this ⊢
  rw [this]
  congr 4; omega
theorem lenRef_n (n : Nat) (h : n ≤ 16777216) (w : World) : Calls Try.prog 61 #[.int .i64 (n : Int)] w fun e w' => e = .returned (.int .i64 ((Sha.lenOf n : Nat) : Int)) ∧ w' = w := by
  rw [← lenI_nat n h]; exact lenRef_any n w
theorem two_more (N p q : Nat) : 2 * ((Sha.W N (p + 1) q : Nat) : Int) + ((Sha.W N p 1 : Nat) : Int) = ((Sha.W N p (q + 1) : Nat) : Int) := by
  have := Sha.W_more N p 1 q
  rw [Nat.add_comm q 1, this]; omega
end Go.Proofs.Ytlbfcneboaihnaa
