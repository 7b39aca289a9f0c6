/- The document's own Text. -/
import Derived.Test.YtfoghaocfkcggaaDleaf
namespace Go.Proofs.Ytfoghaocfkcggaa
open Go.RowKit Go.Great
theorem app_nil (w : World) (base : Nat) (a : Option Addr) (m : List Nat) (c : Nat) (hbase : base ≤ w.heap.size) (hs : BytesAt w (.slice a m.length c) m) (hm : 0 < m.length) (hmax : m.length ≤ 1000000) :
    ∃ v' w', (∀ ty, (app52 ty #[.slice none 0 0, .slice a m.length c]).run Try.prog w = .ok v' w') ∧ OwnB w' base v' m ∧ Below base w w' ∧ w.heap.size ≤ w'.heap.size := by
  obtain ⟨a', c', ev, hc, hb⟩ := hs
  cases ev
  obtain ⟨b, o, rfl, hbl, hcell⟩ := hb hm
  obtain ⟨i, hi, hz, hsz, hby⟩ := info5_at
  have hnews : ∀ j u, (m.map B8)[j]? = some u → w.cell? ((⟨b, o, none⟩ : Addr).add j) = some u := fun j u hj => by
    obtain ⟨hj1, rfl⟩ := nth_map m j u hj
    rw [Addr.add_mid]; exact hcell j hj1
  have hone : ∀ u ∈ m.map B8, u.oneCell' = true := fun u hu => by obtain ⟨x, -, rfl⟩ := List.mem_map.1 hu; rfl
  refine ⟨.slice (some ⟨w.heap.size, 0, none⟩) (0 + m.length) (grownCap w (0 + m.length) 0 5), w.drew.alloc (.cells (E8 (m ++ zs (grownCap w (0 + m.length) 0 5 - (0 + m.length)))) 5), fun ty => ?_, ?_, ?_, ?_⟩
  · unfold app52
    rw [run_append_grow_src (P := Try.prog) w 52 52 ty 5 i (.int .u8 0) Try.underlying52 hi hz none 0 0 [] (run_firstCells_none _ _ _ _ _) (.slice (some ⟨b, o, none⟩) m.length c) m.length (m.map B8)
      (Src.ofSlice w Try.underlying52 ⟨b, o, none⟩ m.length c (m.map B8) (by simp [hsz]) hnews hone) (by omega) (by omega) (growslice_fits (by omega) (by rw [hby]; omega))]
    have hzc : ∀ k, Builtin.zeroCells (Value.int .u8 0).cells k = E8 (zs k) := fun k => by
      have := made_zs k
      unfold madeCells at this
      unfold Builtin.zeroCells
      simpa [Value.cells] using this
    have e : (([] ++ m.map B8 : List Value).toArray : Array Value) = E8 m := by unfold E8; simp
    rw [hzc, e, ← E8_append]
  · refine ⟨w.heap.size, zs (grownCap w (0 + m.length) 0 5 - (0 + m.length)), ?_, hbase, ?_⟩
    · have hge := grownCap_ge w (0 + m.length) 0 5
      have e2 : (m ++ zs (grownCap w (0 + m.length) 0 5 - (0 + m.length))).length = grownCap w (0 + m.length) 0 5 := by
        rw [List.length_append, zs_length]; omega
      rw [e2, Nat.zero_add]
    · exact heap_alloc_last w.drew _
  · exact (Below.refl _ _).drew.alloc (by show base ≤ w.heap.size; omega) _
  · simp
/-- Nothing yet, or a slice whose row is the call's own. -/
def OwnN (w : World) (base : Nat) (v : Value) (L : List Nat) : Prop := (v = .slice none 0 0 ∧ L = []) ∨ OwnB w base v L
theorem app_ownN (w : World) (base : Nat) (v : Value) (L : List Nat) (a : Option Addr) (m : List Nat) (c : Nat) (hbase : base ≤ w.heap.size) (ho : OwnN w base v L) (hs : BytesAt w (.slice a m.length c) m) (hm : 0 < m.length) (hmax : L.length + m.length ≤ 1000000) :
    ∃ v' w', (∀ ty, (app52 ty #[v, .slice a m.length c]).run Try.prog w = .ok v' w') ∧ OwnB w' base v' (L ++ m) ∧ Below base w w' ∧ w.heap.size ≤ w'.heap.size := by
  rcases ho with ⟨rfl, rfl⟩ | ho
  · exact app_nil w base a m c hbase hs hm (by simpa using hmax)
  · exact app_own w base v L a m c ho hs hm hmax
theorem OwnN.alloc {w : World} {base : Nat} {v : Value} {L : List Nat} (h : OwnN w base v L) (o : Obj) : OwnN (w.alloc o) base v L := by
  rcases h with h | h
  · exact .inl h
  · exact .inr (h.alloc o)
theorem OwnB.bytesAt {w : World} {base : Nat} {v : Value} {L : List Nat} (h : OwnB w base v L) : BytesAt w v L := by
  obtain ⟨g, R, rfl, hg, hh⟩ := h
  exact bytesAt_row w g (L ++ R) L _ _ (by unfold rowOf; rw [hh]) (Array.getElem?_eq_some_iff.1 hh).1 (by simp) (by simp) (List.take_left' rfl)
theorem conv_at (w : World) (v : Value) (L : List Nat) (h : BytesAt w v L) : (convert 52 9 v).run Try.prog w = .ok (.string (strOf L)) w := by
  obtain ⟨a, cap, rfl, hc, hx⟩ := h
  rw [run_convert_bytes_string w 52 9 5 _ _ _ Try.underlying52 Try.underlying5 Try.underlying9]
  by_cases h0 : 0 < L.length
  · obtain ⟨g, o, rfl, hl, hcell⟩ := hx h0
    have hload : (loadCells ⟨g, o, none⟩ L.length).run Try.prog w = .ok ((L.map Int.ofNat).map (Value.int .u8)).toArray w := by
      have := run_loadCells_list (P := Try.prog) w ⟨g, o, none⟩ ((L.map Int.ofNat).map (Value.int .u8)) (fun j v hv => by
        rw [Addr.add_mid]
        rw [List.map_map] at hv
        obtain ⟨hj, rfl⟩ := nth_map L j v hv
        exact hcell j hj)
      simpa using this
    rw [run_bytesToString w _ L.length cap _ hload, strOf_fold]
    simp [strOf, ByteArray.empty, ByteArray.emptyWithCapacity]
    rfl
  · obtain rfl : L = [] := List.eq_nil_of_length_eq_zero (by omega)
    cases a with
    | none => rfl
    | some x =>
      show (Conv.bytesToString (.slice (some x) 0 cap)).run Try.prog w = _
      rw [run_bytesToString w _ 0 cap [] rfl]; rfl
theorem and_one (y : Nat) (hy : y < 9223372036854775808) : bits .and .i64 (y : Int) 1 = ((y % 2 : Nat) : Int) := by
  show IntKind.i64.wrap ((BitVec.ofInt 64 (y : Int) &&& BitVec.ofInt 64 1).toNat : Int) = _
  have e1 : (BitVec.ofInt 64 (1 : Int)).toNat = 1 := by decide
  have e2 : (BitVec.ofInt 64 (y : Int)).toNat = y := by rw [BitVec.ofInt_natCast, BitVec.toNat_ofNat]; omega
  rw [BitVec.toNat_and, e1, e2, Nat.and_one_is_mod]
  exact IntWalk.i64_in _ (by omega)
theorem bit_val {b : List Nat} (hb : Sha.Bytes b) (i : Nat) : Sha.nth b (i / 8) / 2 ^ (i % 8) % 2 = Sha.W (Sha.num b) i 1 := by
  rw [← Sha.num_byte hb (i / 8)]
  have h1 := Sha.W_high (Sha.num b) (8 * (i / 8)) 8 (i % 8) (by omega)
  rw [h1, show 8 * (i / 8) + i % 8 = i by omega]
  exact Sha.W_low (Sha.num b) i (8 - i % 8) 1 (by omega)
theorem bit_zero {b : List Nat} (hb : Sha.Bytes b) (i : Nat) (h : b.length ≤ i / 8) : Sha.W (Sha.num b) i 1 = 0 := by
  unfold Sha.W
  rw [Nat.div_eq_of_lt (Nat.lt_of_lt_of_le (Sha.num_lt hb) (Nat.pow_le_pow_right (by omega) (by omega)))]
set_option maxRecDepth 20000 in
set_option maxHeartbeats 1000000 in
theorem bit_any (g o n cap : Nat) (b : List Nat) (i : Nat) (w : World) (hn : b.length = n) (hc : ∀ k, k < n → w.cell? ⟨g, o + k, none⟩ = some (.int .u8 ((Sha.nth b k : Nat) : Int))) (hb : Sha.Bytes b) (hmax : n ≤ 600) (hi : i < 10000) :
    Calls Try.prog 45 #[.slice (some ⟨g, o, none⟩) n cap, .int .i64 (i : Int)] w fun e w' => e = .returned (.int .i64 ((Sha.W (Sha.num b) i 1 : Nat) : Int)) ∧ w' = w := by
  by_cases hlt : i / 8 < n
  · have hd : decide ((n : Int) ≤ (i : Int) / 8) = false := by simp; omega
    have hck := hc _ hlt
    have hx := hb.at (i / 8)
    have HV := hide (bit_val hb i)
    have hm : i % 8 < 8 := by omega
    generalize Sha.nth b (i / 8) = x at *
    clear hc
    go_enter Try.func45, Try.ntmps45
    go_wp2
    go_ret
    refine ⟨ret_int ?_, rfl⟩
    have e : ((x : Int) / 2 ^ (i % 8)) = ((x / 2 ^ (i % 8) : Nat) : Int) := by push_cast; rfl
    have h1 : x / 2 ^ (i % 8) < 256 := Nat.lt_of_le_of_lt (Nat.div_le_self _ _) hx
    rw [e]
    rw [← unhide HV]
    generalize x / 2 ^ (i % 8) = y at *
    rw [show wrap64 (y : Int) = (y : Int) by unfold wrap64; omega, and_one y (by omega)]
  · have hd : decide ((n : Int) ≤ (i : Int) / 8) = true := by simp; omega
    have HV := hide (bit_zero hb i (by omega))
    clear hc
    go_enter Try.func45, Try.ntmps45
    go_wp2
    go_ret
    exact ⟨ret_int (by rw [unhide HV]; rfl), rfl⟩
theorem bit_i (g o n cap : Nat) (b : List Nat) (j : Int) (i : Nat) (hj : j = (i : Int)) (w : World) (hn : b.length = n) (hc : ∀ k, k < n → w.cell? ⟨g, o + k, none⟩ = some (.int .u8 ((Sha.nth b k : Nat) : Int))) (hb : Sha.Bytes b) (hmax : n ≤ 600) (hi : i < 10000) :
    Calls Try.prog 45 #[.slice (some ⟨g, o, none⟩) n cap, .int .i64 j] w fun e w' => e = .returned (.int .i64 ((Sha.W (Sha.num b) i 1 : Nat) : Int)) ∧ w' = w := by
  subst hj; exact bit_any g o n cap b i w hn hc hb hmax hi
theorem OwnN.bytesAt {w : World} {base : Nat} {v : Value} {L : List Nat} (h : OwnN w base v L) : BytesAt w v L := by
  rcases h with ⟨rfl, rfl⟩ | h
  · exact ⟨none, 0, rfl, Nat.le_refl _, fun h => by simp at h⟩
  · exact h.bytesAt
theorem take_text (L N I : Nat) (h : I < L) : (Sha.text L N).take (L - I) = (Sha.text L N).take (L - (I + 1)) ++ [Sha.dg (Sha.W N (5 * I) 5)] := by
  have e : L - I = (L - (I + 1)) + 1 := by omega
  have hl : L - (I + 1) < (Sha.text L N).length := by rw [Sha.text_length]; omega
  rw [e, List.take_add_one]
  congr 1
  have := Sha.text_nth L N (L - (I + 1)) (by omega)
  unfold Sha.nth at this
  rw [List.getElem?_eq_getElem hl] at this ⊢
  simp only [Option.getD_some, Option.toList_some] at this ⊢
  rw [this]
  congr 4; omega
theorem lenRef_n (n : Nat) (h : n ≤ 16777216) (w : World) : Calls Try.prog 44 #[.int .i64 (n : Int)] w fun e w' => e = .returned (.int .i64 ((Sha.lenOf n : Nat) : Int)) ∧ w' = w := by
  rw [← lenI_nat n h]; exact lenRef_any n w
theorem two_more (N p q : Nat) : 2 * ((Sha.W N (p + 1) q : Nat) : Int) + ((Sha.W N p 1 : Nat) : Int) = ((Sha.W N p (q + 1) : Nat) : Int) := by
  have := Sha.W_more N p 1 q
  rw [Nat.add_comm q 1, this]; omega
set_option maxRecDepth 20000 in
set_option maxHeartbeats 1000000 in
theorem textRef_some (g o n cap : Nat) (b : List Nat) (w : World) (hn : b.length = n) (hv : BytesAt w (.slice (some ⟨g, o, none⟩) n cap) b) (hb : Sha.Bytes b) (h0 : 0 < n) (hmax : n ≤ 600) :
    Calls Try.prog 32 #[.slice (some ⟨g, o, none⟩) n cap] w fun e w' => e = .returned (.string (strOf (Sha.textOf b))) ∧ Below w.heap.size w w' := by
  obtain ⟨N, hN⟩ : ∃ N, N = Sha.num b := ⟨_, rfl⟩
  obtain ⟨L, hL⟩ : ∃ L, L = Sha.lenOf n := ⟨_, rfl⟩
  obtain ⟨T, hT⟩ : ∃ T : Nat → List Nat, T = fun I => (Sha.text L N).take (L - I) := ⟨_, rfl⟩
  have HT0 : Hid (T L = []) := by rw [hT]; simp [Hid]
  have HTs : Hid (∀ I, I < L → T I = T (I + 1) ++ [Sha.dg (Sha.W N (5 * I) 5)]) := fun I hI => by rw [hT]; exact take_text L N I hI
  have HTe : Hid (Sha.textOf b = T 0) := by
    rw [hT]; unfold Sha.textOf Hid; rw [hn, ← hL, ← hN]
    show _ = List.take (L - 0) _
    rw [Nat.sub_zero, List.take_of_length_le (by rw [Sha.text_length]; omega)]
  have HTl : Hid (∀ I, (T I).length ≤ L) := fun I => by rw [hT]; simp; omega
  have hcell : ∀ k, k < n → w.cell? ⟨g, o + k, none⟩ = some (.int .u8 ((Sha.nth b k : Nat) : Int)) := fun k hk => by
    obtain ⟨a, c, e, hc, hx⟩ := hv
    obtain ⟨g', o', ea, hl, hcell⟩ := hx (by omega)
    cases e; cases ea
    exact hcell k (by omega)
  have hg : g < w.heap.size := by
    obtain ⟨a, c, e, hc, hx⟩ := hv
    obtain ⟨g', o', ea, hl, hcell⟩ := hx (by omega)
    cases e; cases ea
    exact hl
  have HB : Hid (∀ (wr : World) (j : Int) (i : Nat), Below w.heap.size w wr → j = (i : Int) → i < 10000 → Calls Try.prog 45 #[.slice (some ⟨g, o, none⟩) n cap, .int .i64 j] wr fun e w' => e = .returned (.int .i64 ((Sha.W N i 1 : Nat) : Int)) ∧ w' = wr) := fun wr j i hwr hj hi => by
    rw [hN]
    exact bit_i g o n cap b j i hj wr hn (fun k hk => by rw [hwr.cell (p := ⟨g, o + k, none⟩) hg]; exact hcell k hk) hb hmax hi
  have hL1 : 8 * n ≤ 5 * L := by rw [hL]; exact Sha.lenOf_le n
  have hL2 : 5 * L ≤ 8 * n + 4 := by rw [hL]; unfold Sha.lenOf; omega
  have HLe := hide hL
  clear hT hN hv hL hcell hg hb
  have hd : decide ((16777216 : Int) < (n : Int)) = false := by simp; omega
  go_enter Try.func32, Try.ntmps32
  go_wp2_with (go_at_call 44; refine (lenRef_n n (by omega) _).mono ?_; rintro e w' ⟨rfl, hw'⟩; rw [hw', ← unhide HLe]; clear hw' w')
  go_loopw [3, 4] (fun vs vi wr => ∃ M : Nat, M ≤ L ∧ vi = .int .i64 ((M : Int) - 1) ∧ OwnN wr w.heap.size vs (T M) ∧ Below w.heap.size w wr) (fun _ vi _ => (intOf vi + 1).toNat)
  case atStart => exact ⟨L, Nat.le_refl _, rfl, .inl ⟨rfl, unhide HT0⟩, Below.refl _ _⟩
  case round =>
    rename_i vs vi
    obtain ⟨M, hM, rfl, ho, hbl⟩ := hrel
    by_cases hlt : 0 < M
    · obtain ⟨I, rfl⟩ : ∃ I, M = I + 1 := ⟨M - 1, by omega⟩
      rw [show (((I + 1 : Nat) : Int) - 1) = (I : Int) by omega]
      go_wp2
      go_loopw [5, 6] (fun vd vj wr' => ∃ J : Nat, J ≤ 5 ∧ vj = .int .i64 ((J : Int) - 1) ∧ vd = .int .i64 ((Sha.W N (5 * I + J) (5 - J) : Nat) : Int) ∧ wr' = wr) (fun _ vj _ => (intOf vj + 1).toNat)
      case atStart => exact ⟨5, Nat.le_refl _, rfl, by rw [Nat.sub_self, Sha.W_zero]; rfl, rfl⟩
      case round =>
        obtain ⟨J, hJ, rfl, rfl, rfl⟩ := hrel
        by_cases hJ0 : 0 < J
        · obtain ⟨J, rfl⟩ : ∃ q, J = q + 1 := ⟨J - 1, by omega⟩
          have hs := two_more N (5 * I + J) (4 - J)
          rw [show 4 - J + 1 = 5 - J by omega] at hs
          have hlt1 : Sha.W N (5 * I + J + 1) (4 - J) < 2 ^ 4 := Nat.lt_of_lt_of_le (Sha.W_lt _ _ _) (Nat.pow_le_pow_right (by omega) (by omega))
          have hlt2 : Sha.W N (5 * I + J) 1 < 2 := Sha.W_lt _ _ 1
          rw [show 5 * I + (J + 1) = 5 * I + J + 1 by omega, show 5 - (J + 1) = 4 - J by omega]
          generalize hA : Sha.W N (5 * I + J + 1) (4 - J) = A at *
          clear hA
          go_wp2_with (go_at_call 45; refine (unhide HB _ _ (5 * I + J) hbl (by simp) (by omega)).mono ?_; rintro e w' ⟨rfl, hw'⟩; rw [hw']; clear hw' w')
          go_roundw
          case rel => exact ⟨J, by omega, by first | rfl | go_num, by rw [← hs], by first | rfl | trivial⟩
          case measure => simp [intOf]; try omega
        · obtain rfl : J = 0 := by omega
          have hlt5 : Sha.W N (5 * I) 5 < 32 := Sha.W_lt N (5 * I) 5
          have hTs := hide (unhide HTs I (by omega))
          have hTl := hide (unhide HTl (I + 1))
          rw [show 5 * I + 0 = 5 * I from rfl, show 5 - 0 = 5 from rfl]
          generalize Sha.W N (5 * I) 5 = D at *
          go_wp2_with fail
          have hbs := hbl.size
          obtain ⟨v', w', hr, ho', hbl', hsz⟩ := app_ownN (wr.alloc (.cells #[.int .u8 ((Sha.dg D : Nat) : Int)] 5)) w.heap.size _ (T (I + 1)) (some ⟨wr.heap.size, 0, none⟩) [Sha.dg D] 1 (by simp; omega) (ho.alloc _) (one_at wr (Sha.dg D)) (by simp) (by have := unhide hTl; simp; omega)
          simp only [List.length_singleton] at hr
          rw [hr]
          clear hr
          have hbl2 : Below w.heap.size w w' := (hbl.alloc hbs _).trans hbl'
          rw [← unhide hTs] at ho'
          go_wp2
          go_roundw
          case rel => exact ⟨I, by omega, by first | rfl | go_num, .inr ho', hbl2⟩
          case measure => simp [intOf]; try omega
    · obtain rfl : M = 0 := by omega
      have hconv := conv_at wr _ _ ho.bytesAt
      go_wp2
      go_ret
      exact ⟨by rw [unhide HTe]; rfl, hbl⟩
set_option maxRecDepth 20000 in
set_option maxHeartbeats 400000 in
theorem textRef_none (a : Option Addr) (cap : Nat) (w : World) : Calls Try.prog 32 #[.slice a 0 cap] w fun e w' => e = .returned (.string (strOf (Sha.textOf []))) ∧ Below w.heap.size w w' := by
  have hconv : (convert 52 9 (.slice none 0 0)).run Try.prog w = .ok (.string (strOf (Sha.textOf []))) w := conv_at w _ [] ⟨none, 0, rfl, Nat.le_refl _, fun h => by simp at h⟩
  go_enter Try.func32, Try.ntmps32
  go_wp2_with (go_at_call 44; refine (lenRef_n 0 (by omega) _).mono ?_; rintro e w' ⟨rfl, hw'⟩; rw [hw', show Sha.lenOf 0 = 0 from rfl]; clear hw' w')
  go_loopw [3, 4] (fun vs vi wr => vs = .slice none 0 0 ∧ vi = .int .i64 (-1) ∧ wr = w) (fun _ _ _ => 0)
  case atStart => exact ⟨rfl, rfl, rfl⟩
  case round =>
    obtain ⟨rfl, rfl, rfl⟩ := hrel
    go_wp2
    go_ret
    exact ⟨rfl, Below.refl _ _⟩
theorem textRef_any (a : Option Addr) (n cap : Nat) (b : List Nat) (w : World) (hn : b.length = n) (hv : BytesAt w (.slice a n cap) b) (hb : Sha.Bytes b) (hmax : n ≤ 600) :
    Calls Try.prog 32 #[.slice a n cap] w fun e w' => e = .returned (.string (strOf (Sha.textOf b))) ∧ Below w.heap.size w w' := by
  subst hn
  by_cases h0 : 0 < b.length
  · obtain ⟨g, o, rfl⟩ : ∃ g o, a = some ⟨g, o, none⟩ := by
      obtain ⟨a', c, e, hc, hx⟩ := hv
      obtain ⟨g, o, ea, hl, hcell⟩ := hx h0
      cases e; exact ⟨g, o, ea⟩
    exact textRef_some g o _ cap b w rfl hv hb h0 hmax
  · obtain rfl : b = [] := List.eq_nil_of_length_eq_zero (by omega)
    exact textRef_none a cap w
end Go.Proofs.Ytfoghaocfkcggaa
