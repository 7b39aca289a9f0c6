/- The law DigestHexes: its walk. -/
import Derived.Test.YtdkhmjiconedkaaHexref
import Derived.Deep.RegionHeld3
namespace Go.Proofs.Ytdkhmjiconedkaa
open Go.RowKit Go.Great

theorem rangeAt_row {w : World} {b : Nat} {l : List Nat} {cl : List Value} (h : rowOf w b = E8 l) (hc : l.map B8 = cl) : w.rangeAt b 0 cl := by
  intro j v hj
  rw [Nat.zero_add]
  refine cell_row _ _ _ _ ?_
  rw [h]; unfold E8; rw [hc]
  simpa using hj
theorem least (p : Nat → Bool) (n : Nat) : (∀ i, i < n → p i = true) ∨ ∃ j, j < n ∧ p j = false ∧ ∀ i, i < j → p i = true := by
  induction n with
  | zero => exact Or.inl fun i hi => absurd hi (Nat.not_lt_zero i)
  | succ n ih =>
    rcases ih with h | ⟨j, h1, h2, h3⟩
    · cases hp : p n with
      | true =>
        refine Or.inl fun i hi => ?_
        by_cases e : i = n
        · rw [e]; exact hp
        · exact h i (by omega)
      | false => exact Or.inr ⟨n, by omega, hp, h⟩
    · exact Or.inr ⟨j, by omega, h2, h3⟩
/-- Whatever the text: both say the same. -/
theorem fromHex_both (s : ByteArray) : ∃ (R : List Nat) (e : Int), R.length = 32 ∧
    (∀ w, Calls Try.prog 18 #[.string s] w fun r w' => r = .returned (.tuple #[.agg (E8 R), .int .i64 e]) ∧ Below w.heap.size w w') ∧
    (∀ w, Calls Try.prog 20 #[.string s] w fun r w' => r = .returned (.tuple #[.agg (E8 R), .int .i64 e]) ∧ Below w.heap.size w w') := by
  by_cases hs : s.size = 64
  · rcases least (fun i => isDig (Sha.nth (bytesOf s) i)) 64 with h | ⟨j, h1, h2, h3⟩
    · have hd : Digits (bytesOf s) := ⟨by rw [bytesOf_length]; exact hs, h⟩
      exact ⟨_, 0, unhexTo_length _ _, fun w => fromHex_yes s w hd, fun w => fromHexRef_yes s w hd⟩
    · exact ⟨List.replicate 32 0, 3, by simp, fun w => fromHex_no s w hs j h1 h2 h3, fun w => fromHexRef_no s w hs j h1 h2 h3⟩
  · exact ⟨List.replicate 32 0, 3, by simp, fun w => fromHex_len s w hs, fun w => fromHexRef_len s w hs⟩

set_option linter.unusedSimpArgs false in
set_option maxRecDepth 20000 in
set_option maxHeartbeats 2000000 in
theorem hexes_walk (l : List Nat) (s : ByteArray) (w : World) (hl : l.length = 32) (hb : Sha.Bytes l) (hs : s.size ≤ 9223372036854775807) :
    Calls Try.prog 6 #[.agg (E8 l), .string s] w fun e w' => e = .returned (.bool true) ∧ Below w.heap.size w w' := by
  have hb0 : Below w.heap.size w (w.alloc (.cells (E8 l) 25)) := (Below.refl _ _).alloc (Nat.le_refl _) _
  by_cases hgt : 3000 < s.size
  · have hd : decide ((3000 : Int) < (s.size : Int)) = true := by simp; omega
    go_enter Try.func6, Try.ntmps6
    go_wp2
    go_ret
    exact ⟨rfl, hb0⟩
  · have hd : decide ((3000 : Int) < (s.size : Int)) = false := by simp; omega
    have hback : ∀ w, Calls Try.prog 18 #[.string (strOf (hexTo l 32))] w fun r w' => r = .returned (.tuple #[.agg (E8 l), .int .i64 0]) ∧ Below w.heap.size w w' := fun w => by
      have hbs := bytesOf_strOf (hexTo l 32) (hexTo_bytes l hb 32)
      have := fromHex_yes (strOf (hexTo l 32)) w (by rw [hbs]; exact hexTo_digits l hb)
      rw [hbs, unhex_hex l hl hb] at this
      exact this
    have hhex := hex_any l
    have hhexr := hexRef_any l
    generalize strOf (hexTo l 32) = T at *
    obtain ⟨R, er, hR, hc1, hc2⟩ := fromHex_both s
    have Hback := hide hback
    have Hhex := hide hhex
    have Hhexr := hide hhexr
    have Hc1 := hide hc1
    have Hc2 := hide hc2
    clear hback hhex hhexr hc1 hc2
    go_enter Try.func6, Try.ntmps6
    go_wp2_with fail
    refine (unhide Hhex _ hl hb).mono ?_; rintro e w1 ⟨rfl, hb1⟩
    have hz1 : w.heap.size + 1 ≤ w1.heap.size := by have := hb1.size; simp at this; omega
    have hr1 : rowOf w1 w.heap.size = E8 l := by rw [below_rowOf hb1 (by simp)]; simp [go_sem]
    have hbl1 : Below w.heap.size w w1 := hb0.trans (hb1.mono (by simp))
    clear hb1 hb0
    go_wp2_with fail
    refine (unhide Hback _).mono ?_; rintro e w2 ⟨rfl, hb2⟩
    have hz2 : w1.heap.size ≤ w2.heap.size := hb2.size
    have hr2 : rowOf w2 w.heap.size = E8 l := by rw [below_rowOf hb2 (by omega)]; exact hr1
    have hbl2 : Below w.heap.size w w2 := hbl1.trans (hb2.mono (by omega))
    clear hb2 hr1 hbl1
    go_wp2_with fail
    refine (unhide Hc1 _).mono ?_; rintro e w3 ⟨rfl, hb3⟩
    have hz3 : w2.heap.size + 1 ≤ w3.heap.size := by have := hb3.size; simp at this; omega
    have hr3 : rowOf w3 w.heap.size = E8 l := by rw [below_rowOf hb3 (by simp; omega), rowOf_alloc_past _ _ _ (by omega)]; exact hr2
    have hx3 : rowOf w3 w2.heap.size = E8 l := by rw [below_rowOf hb3 (by simp)]; simp [go_sem]
    have hbl3 : Below w.heap.size w w3 := (hbl2.alloc (by omega) _).trans (hb3.mono (by simp; omega))
    clear hb3 hr2 hbl2
    go_wp2_with fail
    refine (unhide Hc2 _).mono ?_; rintro e w4 ⟨rfl, hb4⟩
    have hz4 : w3.heap.size + 1 ≤ w4.heap.size := by have := hb4.size; simp at this; omega
    have hr4 : rowOf w4 w.heap.size = E8 l := by rw [below_rowOf hb4 (by simp; omega), rowOf_alloc_past _ _ _ (by omega)]; exact hr3
    have hx4 : rowOf w4 w2.heap.size = E8 l := by rw [below_rowOf hb4 (by simp; omega), rowOf_alloc_past _ _ _ (by omega)]; exact hx3
    have hy4 : rowOf w4 w3.heap.size = E8 R := by rw [below_rowOf hb4 (by simp)]; simp [go_sem]
    have hbl4 : Below w.heap.size w w4 := (hbl3.alloc (by omega) _).trans (hb4.mono (by simp; omega))
    clear hb4 hr3 hx3 hbl3
    go_wp2_with fail
    obtain ⟨W, hWe⟩ : ∃ W, w4.alloc (.cells (E8 R) 25) = W := ⟨_, rfl⟩
    have hr5 : rowOf W w.heap.size = E8 l := by rw [← hWe, rowOf_alloc_past _ _ _ (by omega)]; exact hr4
    have hx5 : rowOf W w2.heap.size = E8 l := by rw [← hWe, rowOf_alloc_past _ _ _ (by omega)]; exact hx4
    have hy5 : rowOf W w3.heap.size = E8 R := by rw [← hWe, rowOf_alloc_past _ _ _ (by omega)]; exact hy4
    have hv5 : rowOf W w4.heap.size = E8 R := by rw [← hWe]; simp [go_sem]
    have hbl5 : Below w.heap.size w W := by rw [← hWe]; exact hbl4.alloc (by omega) _
    have hz5 : w4.heap.size + 1 ≤ W.heap.size := by rw [← hWe]; simp
    rw [hWe]
    clear hWe hr4 hx4 hy4 hbl4
    generalize w2.heap.size = b1 at *
    generalize w3.heap.size = b2 at *
    generalize w4.heap.size = b3 at *
    obtain ⟨cl, hcl⟩ : ∃ cl : List Value, l.map B8 = cl := ⟨_, rfl⟩
    obtain ⟨cR, hcR⟩ : ∃ cR : List Value, R.map B8 = cR := ⟨_, rfl⟩
    have hu := Try.underlying25
    have hll : cl.length = 32 := by rw [← hcl]; simp [hl]
    have hlR : cR.length = 32 := by rw [← hcR]; simp [hR]
    have hin : (Try.prog.info? 25).map (·.size) = some cl.length := by rw [hll]; exact (zero_of_info Z25_info).2
    have hinR : (Try.prog.info? 25).map (·.size) = some cR.length := by rw [hlR]; exact (zero_of_info Z25_info).2
    have hone : ∀ v ∈ cl, v.oneCell' = true := fun v hv => by rw [← hcl] at hv; obtain ⟨x, -, rfl⟩ := List.mem_map.1 hv; rfl
    have honeR : ∀ v ∈ cR, v.oneCell' = true := fun v hv => by rw [← hcR] at hv; obtain ⟨x, -, rfl⟩ := List.mem_map.1 hv; rfl
    have heq1 : ∀ w, (Op.equalIn 10000 25 (.agg cl.toArray) (.agg cl.toArray)).run Try.prog w = .ok true w := fun w => by rw [← hcl]; exact eq25 w l hl
    have heq2 : ∀ w, (Op.equalIn 10000 25 (.agg cR.toArray) (.agg cR.toArray)).run Try.prog w = .ok true w := fun w => by rw [← hcR]; exact eq25 w R hR
    have hx19 : ∀ w, Calls Try.prog 19 #[.agg cl.toArray] w fun e w' => e = .returned (.string T) ∧ Below w.heap.size w w' := fun w => by rw [← hcl]; exact unhide Hhex w hl hb
    have hx21 : ∀ w, Calls Try.prog 21 #[.agg cl.toArray] w fun e w' => e = .returned (.string T) ∧ Below w.heap.size w w' := fun w => by rw [← hcl]; exact unhide Hhexr w hl hb
    have hS5 : W.rangeAt w.heap.size 0 cl ∧ W.rangeAt b1 0 cl ∧ W.rangeAt b2 0 cR ∧ W.rangeAt b3 0 cR := ⟨rangeAt_row hr5 hcl, rangeAt_row hx5 hcl, rangeAt_row hy5 hcR, rangeAt_row hv5 hcR⟩
    have hkeep : ∀ {a b : World}, Below W.heap.size a b → W.heap.size ≤ a.heap.size → (a.rangeAt w.heap.size 0 cl ∧ a.rangeAt b1 0 cl ∧ a.rangeAt b2 0 cR ∧ a.rangeAt b3 0 cR) → (b.rangeAt w.heap.size 0 cl ∧ b.rangeAt b1 0 cl ∧ b.rangeAt b2 0 cR ∧ b.rangeAt b3 0 cR) := by
      rintro a b hab - ⟨k1, k2, k3, k4⟩
      refine ⟨fun j v hv => ?_, fun j v hv => ?_, fun j v hv => ?_, fun j v hv => ?_⟩
      · exact (hab.cell (p := ⟨w.heap.size, 0 + j, none⟩) (show w.heap.size < W.heap.size by omega)).trans (k1 j v hv)
      · exact (hab.cell (p := ⟨b1, 0 + j, none⟩) (show b1 < W.heap.size by omega)).trans (k2 j v hv)
      · exact (hab.cell (p := ⟨b2, 0 + j, none⟩) (show b2 < W.heap.size by omega)).trans (k3 j v hv)
      · exact (hab.cell (p := ⟨b3, 0 + j, none⟩) (show b3 < W.heap.size by omega)).trans (k4 j v hv)
    have Hkeep := @hkeep
    have Hx19 := hide hx19
    have Hx21 := hide hx21
    have HS5 : Hid (W.drew.rangeAt w.heap.size 0 cl ∧ W.drew.rangeAt b1 0 cl ∧ W.drew.rangeAt b2 0 cR ∧ W.drew.rangeAt b3 0 cR) := hS5
    clear hkeep hx19 hx21 hS5 hr5 hx5 hy5 hv5 hcl hcR Hhex Hhexr Hc1 Hc2 Hback
    refine wp_region_noPanic ?_
    refine wp_region_held_drew (S := fun w' => w'.rangeAt w.heap.size 0 cl ∧ w'.rangeAt b1 0 cl ∧ w'.rangeAt b2 0 cR ∧ w'.rangeAt b3 0 cR) (by kernel_rfl) (unhide HS5) (fun hHeld => ?_)
    refine wpAnyH_take (i := 0) rfl (by kernel_rfl) (by kernel_rfl) (by kernel_rfl) (fun _ _ _ h => h) (yieldsIf_load_mid (by rfl) _ _ rfl _ _ rfl _ _ (fun w h => h.1) hu rfl hin) hHeld ?_
    try simp only [Act.put, List.getElem_toArray, List.getElem_cons_zero, List.getElem_cons_succ, List.setIfInBounds_toArray, List.set_cons_zero, List.set_cons_succ]
    refine wpAnyH_take (i := 2) rfl (by kernel_rfl) (by kernel_rfl) (by kernel_rfl) (fun _ _ _ h => h) (yieldsIf_load_mid (by rfl) _ _ rfl _ _ rfl _ _ (fun w h => h.1) hu rfl hin) hHeld ?_
    try simp only [Act.put, List.getElem_toArray, List.getElem_cons_zero, List.getElem_cons_succ, List.setIfInBounds_toArray, List.set_cons_zero, List.set_cons_succ]
    refine wpAnyH_ready (rs := [1]) (by kernel_rfl) (by simp) (AllReadyH.cons rfl (fun K hK => ?_) AllReadyH.nil)
    simp only [List.getElem_toArray, List.getElem_cons_zero, List.getElem_cons_succ]
    go_simp
    refine (unhide Hx19 _).mono ?_
    rintro e w6 ⟨rfl, hb6⟩
    have hz6 : W.heap.size ≤ w6.heap.size := hb6.size
    have HS6 := hide (Hkeep (hb6.mono (by simp)) (by simp) (unhide HS5))
    have hbl6 : Below w.heap.size w w6 := hbl5.drew.trans (hb6.mono (by simp; omega))
    clear hb6
    refine hK.out _ _ (unhide HS6) (fun hHeld6 => ?_)
    clear hK K
    try simp only [Act.put, List.getElem_toArray, List.getElem_cons_zero, List.getElem_cons_succ, List.setIfInBounds_toArray, List.set_cons_zero, List.set_cons_succ]
    refine wpAnyH_ready (rs := [3]) (by kernel_rfl) (by simp) (AllReadyH.cons rfl (fun K hK => ?_) AllReadyH.nil)
    simp only [List.getElem_toArray, List.getElem_cons_zero, List.getElem_cons_succ]
    go_simp
    refine (unhide Hx21 _).mono ?_
    rintro e w7 ⟨rfl, hb7⟩
    have HS7 := hide (Hkeep (hb7.mono hz6) hz6 (unhide HS6))
    have hz7 : W.heap.size ≤ w7.heap.size := Nat.le_trans hz6 hb7.size
    have hbl7 : Below w.heap.size w w7 := hbl6.trans (hb7.mono (by omega))
    clear hb7
    refine hK.out _ _ (unhide HS7) (fun hHeld7 => ?_)
    clear hK K
    try simp only [Act.put, List.getElem_toArray, List.getElem_cons_zero, List.getElem_cons_succ, List.setIfInBounds_toArray, List.set_cons_zero, List.set_cons_succ]
    refine wpAnyH_take (i := 4) (v := .bool true) rfl (by kernel_rfl) (by kernel_rfl) (by kernel_rfl) (fun _ _ _ h => h) (Or.inl ⟨by rfl, ?_⟩) hHeld7 ?_
    · intro w hSw; go_simp
    try simp only [Act.put, List.getElem_toArray, List.getElem_cons_zero, List.getElem_cons_succ, List.setIfInBounds_toArray, List.set_cons_zero, List.set_cons_succ]
    refine wpAnyH_take (i := 5) (v := .bool true) rfl (by kernel_rfl) (by kernel_rfl) (by kernel_rfl) (fun _ _ _ h => h) (Or.inl ⟨by rfl, ?_⟩) hHeld7 ?_
    · intro w hSw; go_simp
    try simp only [Act.put, List.getElem_toArray, List.getElem_cons_zero, List.getElem_cons_succ, List.setIfInBounds_toArray, List.set_cons_zero, List.set_cons_succ]
    refine wpAnyH_take (i := 6) rfl (by kernel_rfl) (by kernel_rfl) (by kernel_rfl) (fun _ _ _ h => h) (yieldsIf_load_mid (by rfl) _ _ rfl _ _ rfl _ _ (fun w h => h.2.1) hu rfl hin) hHeld7 ?_
    try simp only [Act.put, List.getElem_toArray, List.getElem_cons_zero, List.getElem_cons_succ, List.setIfInBounds_toArray, List.set_cons_zero, List.set_cons_succ]
    refine wpAnyH_take (i := 7) rfl (by kernel_rfl) (by kernel_rfl) (by kernel_rfl) (fun _ _ _ h => h) (yieldsIf_load_mid (by rfl) _ _ rfl _ _ rfl _ _ (fun w h => h.1) hu rfl hin) hHeld7 ?_
    try simp only [Act.put, List.getElem_toArray, List.getElem_cons_zero, List.getElem_cons_succ, List.setIfInBounds_toArray, List.set_cons_zero, List.set_cons_succ]
    refine wpAnyH_take (i := 8) (v := .bool true) rfl (by kernel_rfl) (by kernel_rfl) (by kernel_rfl) (fun _ _ _ h => h) (Or.inl ⟨by rfl, ?_⟩) hHeld7 ?_
    · intro w hSw; go_simp
    try simp only [Act.put, List.getElem_toArray, List.getElem_cons_zero, List.getElem_cons_succ, List.setIfInBounds_toArray, List.set_cons_zero, List.set_cons_succ]
    refine wpAnyH_take (i := 9) (v := .bool true) rfl (by kernel_rfl) (by kernel_rfl) (by kernel_rfl) (fun _ _ _ h => h) (Or.inl ⟨by rfl, ?_⟩) hHeld7 ?_
    · intro w hSw; go_simp
    try simp only [Act.put, List.getElem_toArray, List.getElem_cons_zero, List.getElem_cons_succ, List.setIfInBounds_toArray, List.set_cons_zero, List.set_cons_succ]
    refine wpAnyH_take (i := 10) (v := .bool true) rfl (by kernel_rfl) (by kernel_rfl) (by kernel_rfl) (fun _ _ _ h => h) (Or.inl ⟨by rfl, ?_⟩) hHeld7 ?_
    · intro w hSw; go_simp
    try simp only [Act.put, List.getElem_toArray, List.getElem_cons_zero, List.getElem_cons_succ, List.setIfInBounds_toArray, List.set_cons_zero, List.set_cons_succ]
    refine wpAnyH_take (i := 11) (v := .int .i64 0) rfl (by kernel_rfl) (by kernel_rfl) (by kernel_rfl) (fun _ _ _ h => h) (Or.inl ⟨by rfl, ?_⟩) hHeld7 ?_
    · intro w hSw; go_simp
    try simp only [Act.put, List.getElem_toArray, List.getElem_cons_zero, List.getElem_cons_succ, List.setIfInBounds_toArray, List.set_cons_zero, List.set_cons_succ]
    refine wpAnyH_take (i := 12) (v := .bool true) rfl (by kernel_rfl) (by kernel_rfl) (by kernel_rfl) (fun _ _ _ h => h) (Or.inl ⟨by rfl, ?_⟩) hHeld7 ?_
    · intro w hSw; go_simp
    try simp only [Act.put, List.getElem_toArray, List.getElem_cons_zero, List.getElem_cons_succ, List.setIfInBounds_toArray, List.set_cons_zero, List.set_cons_succ]
    refine wpAnyH_take (i := 13) (v := .bool true) rfl (by kernel_rfl) (by kernel_rfl) (by kernel_rfl) (fun _ _ _ h => h) (Or.inl ⟨by rfl, ?_⟩) hHeld7 ?_
    · intro w hSw; go_simp
    try simp only [Act.put, List.getElem_toArray, List.getElem_cons_zero, List.getElem_cons_succ, List.setIfInBounds_toArray, List.set_cons_zero, List.set_cons_succ]
    refine wpAnyH_take (i := 14) (v := .bool true) rfl (by kernel_rfl) (by kernel_rfl) (by kernel_rfl) (fun _ _ _ h => h) (Or.inl ⟨by rfl, ?_⟩) hHeld7 ?_
    · intro w hSw; go_simp
    try simp only [Act.put, List.getElem_toArray, List.getElem_cons_zero, List.getElem_cons_succ, List.setIfInBounds_toArray, List.set_cons_zero, List.set_cons_succ]
    refine wpAnyH_take (i := 15) rfl (by kernel_rfl) (by kernel_rfl) (by kernel_rfl) (fun _ _ _ h => h) (yieldsIf_load_mid (by rfl) _ _ rfl _ _ rfl _ _ (fun w h => h.2.2.1) hu rfl hinR) hHeld7 ?_
    try simp only [Act.put, List.getElem_toArray, List.getElem_cons_zero, List.getElem_cons_succ, List.setIfInBounds_toArray, List.set_cons_zero, List.set_cons_succ]
    refine wpAnyH_take (i := 16) rfl (by kernel_rfl) (by kernel_rfl) (by kernel_rfl) (fun _ _ _ h => h) (yieldsIf_load_mid (by rfl) _ _ rfl _ _ rfl _ _ (fun w h => h.2.2.2) hu rfl hinR) hHeld7 ?_
    try simp only [Act.put, List.getElem_toArray, List.getElem_cons_zero, List.getElem_cons_succ, List.setIfInBounds_toArray, List.set_cons_zero, List.set_cons_succ]
    refine wpAnyH_take (i := 17) (v := .bool true) rfl (by kernel_rfl) (by kernel_rfl) (by kernel_rfl) (fun _ _ _ h => h) (Or.inl ⟨by rfl, ?_⟩) hHeld7 ?_
    · intro w hSw; go_simp
    try simp only [Act.put, List.getElem_toArray, List.getElem_cons_zero, List.getElem_cons_succ, List.setIfInBounds_toArray, List.set_cons_zero, List.set_cons_succ]
    refine wpAnyH_take (i := 18) (v := .bool true) rfl (by kernel_rfl) (by kernel_rfl) (by kernel_rfl) (fun _ _ _ h => h) (Or.inl ⟨by rfl, ?_⟩) hHeld7 ?_
    · intro w hSw; go_simp
    try simp only [Act.put, List.getElem_toArray, List.getElem_cons_zero, List.getElem_cons_succ, List.setIfInBounds_toArray, List.set_cons_zero, List.set_cons_succ]
    refine wpAnyH_take (i := 19) (v := .bool true) rfl (by kernel_rfl) (by kernel_rfl) (by kernel_rfl) (fun _ _ _ h => h) (Or.inl ⟨by rfl, ?_⟩) hHeld7 ?_
    · intro w hSw; go_simp
    try simp only [Act.put, List.getElem_toArray, List.getElem_cons_zero, List.getElem_cons_succ, List.setIfInBounds_toArray, List.set_cons_zero, List.set_cons_succ]
    refine wpAnyH_take (i := 20) (v := .int .i64 er) rfl (by kernel_rfl) (by kernel_rfl) (by kernel_rfl) (fun _ _ _ h => h) (Or.inl ⟨by rfl, ?_⟩) hHeld7 ?_
    · intro w hSw; go_simp
    try simp only [Act.put, List.getElem_toArray, List.getElem_cons_zero, List.getElem_cons_succ, List.setIfInBounds_toArray, List.set_cons_zero, List.set_cons_succ]
    refine wpAnyH_take (i := 21) (v := .int .i64 er) rfl (by kernel_rfl) (by kernel_rfl) (by kernel_rfl) (fun _ _ _ h => h) (Or.inl ⟨by rfl, ?_⟩) hHeld7 ?_
    · intro w hSw; go_simp
    try simp only [Act.put, List.getElem_toArray, List.getElem_cons_zero, List.getElem_cons_succ, List.setIfInBounds_toArray, List.set_cons_zero, List.set_cons_succ]
    refine wpAnyH_take (i := 22) (v := .bool true) rfl (by kernel_rfl) (by kernel_rfl) (by kernel_rfl) (fun _ _ _ h => h) (Or.inl ⟨by rfl, ?_⟩) hHeld7 ?_
    · intro w hSw; go_simp
    try simp only [Act.put, List.getElem_toArray, List.getElem_cons_zero, List.getElem_cons_succ, List.setIfInBounds_toArray, List.set_cons_zero, List.set_cons_succ]
    refine wpAnyH_take (i := 23) (v := .bool true) rfl (by kernel_rfl) (by kernel_rfl) (by kernel_rfl) (fun _ _ _ h => h) (Or.inl ⟨by rfl, ?_⟩) hHeld7 ?_
    · intro w hSw; go_simp
    try simp only [Act.put, List.getElem_toArray, List.getElem_cons_zero, List.getElem_cons_succ, List.setIfInBounds_toArray, List.set_cons_zero, List.set_cons_succ]
    refine wpAnyH_take (i := 24) (v := .bool true) rfl (by kernel_rfl) (by kernel_rfl) (by kernel_rfl) (fun _ _ _ h => h) (Or.inl ⟨by rfl, ?_⟩) hHeld7 ?_
    · intro w hSw; go_simp
    try simp only [Act.put, List.getElem_toArray, List.getElem_cons_zero, List.getElem_cons_succ, List.setIfInBounds_toArray, List.set_cons_zero, List.set_cons_succ]
    refine wpAnyH_ready (rs := [25]) (by kernel_rfl) (by simp) (AllReadyH.cons rfl (fun K hK => ?_) AllReadyH.nil)
    simp only [List.getElem_toArray, List.getElem_cons_zero, List.getElem_cons_succ]
    go_simp
    refine (known_any _).mono ?_
    rintro e w8 ⟨rfl, hb8⟩
    have HS8 := hide (Hkeep (hb8.mono hz7) hz7 (unhide HS7))
    have hbl8 : Below w.heap.size w w8 := hbl7.trans (hb8.mono hbl7.size)
    clear hb8
    refine hK.out _ _ (unhide HS8) (fun hHeld8 => ?_)
    clear hK K
    try simp only [Act.put, List.getElem_toArray, List.getElem_cons_zero, List.getElem_cons_succ, List.setIfInBounds_toArray, List.set_cons_zero, List.set_cons_succ]
    refine wpAnyH_take (i := 26) (v := .bool true) rfl (by kernel_rfl) (by kernel_rfl) (by kernel_rfl) (fun _ _ _ h => h) (Or.inl ⟨by rfl, ?_⟩) hHeld8 ?_
    · intro w hSw; go_simp
    try simp only [Act.put, List.getElem_toArray, List.getElem_cons_zero, List.getElem_cons_succ, List.setIfInBounds_toArray, List.set_cons_zero, List.set_cons_succ]
    refine wpAnyH_take (i := 27) (v := .bool true) rfl (by kernel_rfl) (by kernel_rfl) (by kernel_rfl) (fun _ _ _ h => h) (Or.inl ⟨by rfl, ?_⟩) hHeld8 ?_
    · intro w hSw; go_simp
    try simp only [Act.put, List.getElem_toArray, List.getElem_cons_zero, List.getElem_cons_succ, List.setIfInBounds_toArray, List.set_cons_zero, List.set_cons_succ]
    refine wpAnyH_done (by kernel_rfl) ?_ _
    refine NoPanic.normal ?_
    go_wp2
    go_ret
    exact ⟨rfl, hbl8⟩
end Go.Proofs.Ytdkhmjiconedkaa
