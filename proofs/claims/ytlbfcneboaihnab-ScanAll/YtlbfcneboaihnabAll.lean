/- ScanAll: of bytes in which all of some paths stand all are found: the law's walk. -/
import Derived.Test.YtlbfcneboaihnabOwnr
namespace Go.Proofs.Ytlbfcneboaihnab
open Go.RowKit Go.Great Go.ChangeMaps Go.MapKept
set_option linter.unusedSimpArgs false
/-- The state of the loop: behind i of them. -/
structure AllI (w wr : World) (A : List Nat) (of : List Ord.S) (i : Nat) (vb vw : Value) : Prop where
  below : Below w.heap.size w wr
  own : OwnR wr w.heap.size vb (allB A (of.take i))
  t25 : T25 wr vw
  want : ∃ R, RowR wr vw R ∧ (∀ x, x ∈ R ↔ x ∈ of.take i ∧ IsP x) ∧ R.length ≤ i
theorem strs_grown {w w' : World} {v vb : Value} {base : Nat} {Z : List Ord.S} {L : List Nat} (h : StrsAt w v Z) (ht : T25 w v) (ho : OwnR w base vb L) (hg : w.grownBy w' vb.ownBlock) : StrsAt w' v Z ∧ T25 w' v := by
  have hne : ∀ k, v.ownBlock = some k → some k ≠ vb.ownBlock := fun k hk e => by
    obtain ⟨cs, fr, h1⟩ := ht k hk
    rcases ho.2 with ⟨rfl, _⟩ | ⟨g, cap, cur, rfl, _, hh, _⟩
    · cases e
    · cases e; rw [hh] at h1; cases h1
  have hk : ∀ k, v.ownBlock = some k → w'.heap[k]? = w.heap[k]? := fun k hk => by
    obtain ⟨cs, fr, h1⟩ := ht k hk
    exact hg.block k (Array.getElem?_eq_some_iff.1 h1).1 (hne k hk)
  refine ⟨?_, ht.keep hk⟩
  obtain ⟨a, cap, rfl, hc, hm⟩ := h
  refine ⟨a, cap, rfl, hc, fun h0 => ?_⟩
  obtain ⟨b, o, rfl, hl, hcell⟩ := hm h0
  exact ⟨b, o, rfl, Nat.lt_of_lt_of_le hl hg.size, fun i hi => by rw [World.cell?_of_block (w := w) (a := ⟨b, o + i, none⟩) (hk b rfl)]; exact hcell i hi⟩
theorem allB_bytes {A : List Nat} (hA : Sha.Bytes A) (of : List Ord.S) : Sha.Bytes (allB A of) := fun x hx => by
  unfold allB at hx
  obtain ⟨q, _, hq⟩ := List.mem_flatMap.1 hx
  rcases List.mem_append.1 hq with h | h
  · exact hA x h
  · exact natsOf_bytes q x h
theorem t25_nil (w : World) : T25 w (.slice none 0 0) := fun k hk => by cases hk
set_option maxRecDepth 20000 in
set_option maxHeartbeats 1000000 in
theorem all_walk (p : Option Addr) (k e : Nat) (of : List Ord.S) (a : Option Addr) (n c : Nat) (A : List Nat) (w : World)
    (hp : StrsAt w (.slice p k e) of) (hk : of.length = k) (hkz : k ≤ 9223372036854775807) (hz : ∀ z ∈ of, z.length ≤ 140737488351232)
    (ha : BytesAt w (.slice a n c) A) (hA : Sha.Bytes A) (hn : A.length = n) (hnz : n ≤ 281474976710656) :
    Calls Try.prog 3 #[.slice p k e, .slice a n c] w fun e w' => e = .returned (.bool true) ∧ Below w.heap.size w w' := by
  have HZ : Hid (∀ z ∈ of, z.length ≤ 281474976710656) := fun z h => by have := hz z h; omega
  have HA := hide (And.intro ha (And.intro hA hn))
  have HP := hide (And.intro hp hk)
  clear ha hA hn hp hk hz
  by_cases h30 : k ≤ 30
  case neg =>
    go_enter Try.func3, Try.ntmps3
    go_wp2_with fail
    go_ret
    exact ⟨rfl, Below.refl _ _⟩
  by_cases h4 : n ≤ 200
  case neg =>
    go_enter Try.func3, Try.ntmps3
    go_wp2_with fail
    go_ret
    exact ⟨rfl, Below.refl _ _⟩
  have H0 : Hid (AllI w w A of 0 (.slice none 0 0) (.slice none 0 0)) := ⟨Below.refl _ _, by simpa [allB, pathsOf] using ownR_nil w w.heap.size, t25_nil w, [], ⟨⟨none, 0, rfl, Nat.le_refl _, fun h => by simp at h⟩, by simp [Ord.Rises], .inl ⟨rfl, rfl⟩⟩, by simp, by simp⟩
  go_enter Try.func3, Try.ntmps3
  go_wp2_with fail
  go_loopw [5, 6, 7] (fun vb vw vi wr => ∃ i : Nat, i ≤ k ∧ vi = .int .i64 (i : Int) ∧ Hid (AllI w wr A of i vb vw)) (fun _ _ vi _ => k - (intOf vi).toNat)
  case atStart => exact ⟨0, by omega, rfl, H0⟩
  case round =>
    obtain ⟨i, hin, rfl, HI⟩ := hrel
    by_cases hlt : i < k
    · obtain ⟨g, o, rfl, hc⟩ := str_at ((unhide HP).1.below (unhide HI).below) (unhide HP).2 i hlt
      have hmem : of.getD i [] ∈ of := getD_mem (by rw [(unhide HP).2]; exact hlt)
      have hzl := unhide HZ _ hmem
      have HS := hide (take_snoc (of := of) (i := i) (by rw [(unhide HP).2]; exact hlt))
      have hgl := cell_lt hc
      generalize of.getD i [] = q at *
      have HR := hide (isRef_any q wr hzl)
      clear hmem hzl
      go_wp2_with fail
      refine (unhide HR).mono ?_
      rintro e1 w1 ⟨hb1, ⟨hq, rfl⟩ | ⟨hq, rfl⟩⟩
      · have hisq : IsP q := hq
        have hc1 : w1.cell? ⟨g, o + i, none⟩ = some (.string ⟨q.toArray⟩) := by rw [hb1.cell (p := ⟨g, o + i, none⟩) hgl]; exact hc
        have hbl1 : Below w.heap.size w w1 := (unhide HI).below.trans (hb1.mono (unhide HI).below.size)
        have hown1 := ownR_keep (unhide HI).own fun j _ hj => hb1.block j hj
        have ht1 : T25 w1 u6 := (unhide HI).t25.keep fun j hj => by
          obtain ⟨cs, fr, h1⟩ := (unhide HI).t25 j hj
          exact hb1.block j (Array.getElem?_eq_some_iff.1 h1).1
        obtain ⟨R, hR, hRm, hRl⟩ := (unhide HI).want
        have HL := hide (lay_any u6 R q w1 (hR.below hb1) (by omega))
        have HO1 := hide hown1
        have HB1 := hide hbl1
        have HT1 := hide ht1
        have HRM := hide hRm
        have HQ := hide hisq
        clear hq hisq hbl1 hown1 ht1 hR hRm HR hb1 hc
        go_wp2_with fail
        refine (unhide HL).mono ?_
        rintro e2 w2 ⟨u2, R2, rfl, hR2, hm2, hl2, hb2, ht2⟩
        have hc2 : w2.cell? ⟨g, o + i, none⟩ = some (.string ⟨q.toArray⟩) := by rw [hb2.cell (p := ⟨g, o + i, none⟩) (cell_lt hc1)]; exact hc1
        have hbl2 : Below w.heap.size w w2 := (unhide HB1).trans (hb2.mono (unhide HB1).size)
        have HO2 := hide (ownR_keep (unhide HO1) fun j _ hj => hb2.block j hj)
        have HT2 := hide (ht2 (unhide HT1))
        have HR2 := hide hR2
        have HM2 : Hid (∀ x, x ∈ R2 ↔ x ∈ of.take (i + 1) ∧ IsP x) := fun x => by
          rw [hm2, unhide HRM, unhide HS, List.mem_append, List.mem_singleton]
          constructor
          · rintro (rfl | h)
            · exact ⟨.inr rfl, unhide HQ⟩
            · exact ⟨.inl h.1, h.2⟩
          · rintro ⟨h | h, h3⟩
            · exact .inr ⟨h, h3⟩
            · exact .inl h
        have hl2' : R2.length ≤ i + 1 := by omega
        have HB2 := hide hbl2
        clear hb2 hbl2 hR2 hm2 ht2 HL hc1 hl2 HT1 HO1
        go_wp2_with fail
        refine wp_region_noPanic ?_
        refine wp_region_held_drew (S := fun w' => w'.cell? ⟨g, o + i, none⟩ = some (.string ⟨q.toArray⟩)) (by kernel_rfl) hc2 (fun hHeld => ?_)
        refine wpAnyH_take (i := 0) (v := u5) rfl (by kernel_rfl) (by kernel_rfl) (by kernel_rfl) (fun _ _ _ h => h) (Or.inl ⟨by rfl, ?_⟩) hHeld ?_
        · intro w' hS'; have hq' := hS'; go_simp
        try simp only [Act.put, List.getElem_toArray, List.getElem_cons_zero, List.getElem_cons_succ, List.setIfInBounds_toArray, List.set_cons_zero, List.set_cons_succ]
        refine wpAnyH_take (i := 1) (v := .slice a n c) rfl (by kernel_rfl) (by kernel_rfl) (by kernel_rfl) (fun _ _ _ h => h) (Or.inl ⟨by rfl, ?_⟩) hHeld ?_
        · intro w' hS'; have hq' := hS'; go_simp
        try simp only [Act.put, List.getElem_toArray, List.getElem_cons_zero, List.getElem_cons_succ, List.setIfInBounds_toArray, List.set_cons_zero, List.set_cons_succ]
        refine wpAnyH_take (i := 3) (v := .slice (some ⟨g, o, none⟩) k e) rfl (by kernel_rfl) (by kernel_rfl) (by kernel_rfl) (fun _ _ _ h => h) (Or.inl ⟨by rfl, ?_⟩) hHeld ?_
        · intro w' hS'; have hq' := hS'; go_simp
        try simp only [Act.put, List.getElem_toArray, List.getElem_cons_zero, List.getElem_cons_succ, List.setIfInBounds_toArray, List.set_cons_zero, List.set_cons_succ]
        refine wpAnyH_take (i := 4) (v := .int .i64 (i : Int)) rfl (by kernel_rfl) (by kernel_rfl) (by kernel_rfl) (fun _ _ _ h => h) (Or.inl ⟨by rfl, ?_⟩) hHeld ?_
        · intro w' hS'; have hq' := hS'; go_simp
        try simp only [Act.put, List.getElem_toArray, List.getElem_cons_zero, List.getElem_cons_succ, List.setIfInBounds_toArray, List.set_cons_zero, List.set_cons_succ]
        refine wpAnyH_take (i := 5) (v := .pointer (some ⟨g, o + i, none⟩)) rfl (by kernel_rfl) (by kernel_rfl) (by kernel_rfl) (fun _ _ _ h => h) (Or.inl ⟨by rfl, ?_⟩) hHeld ?_
        · intro w' hS'; have hq' := hS'; go_simp
        try simp only [Act.put, List.getElem_toArray, List.getElem_cons_zero, List.getElem_cons_succ, List.setIfInBounds_toArray, List.set_cons_zero, List.set_cons_succ]
        refine wpAnyH_take (i := 6) (v := .string ⟨q.toArray⟩) rfl (by kernel_rfl) (by kernel_rfl) (by kernel_rfl) (fun _ _ _ h => h) (Or.inl ⟨by rfl, ?_⟩) hHeld ?_
        · intro w' hS'; have hq' := hS'; go_simp
        try simp only [Act.put, List.getElem_toArray, List.getElem_cons_zero, List.getElem_cons_succ, List.setIfInBounds_toArray, List.set_cons_zero, List.set_cons_succ]
        refine wpAnyH_ready (rs := [2]) (by kernel_rfl) (by simp) (AllReadyH.cons rfl (fun K hK => ?_) AllReadyH.nil)
        simp only [List.getElem_toArray, List.getElem_cons_zero, List.getElem_cons_succ]
        have hlen := allB_len A (of.take i)
        have hlt2 : (of.take i).length ≤ 30 := by rw [List.length_take]; omega
        have hAn := (unhide HA).2.2
        have hbd : (allB A (of.take i)).length ≤ 9390 := Nat.le_trans hlen (Nat.le_trans (Nat.mul_le_mul_right _ hlt2) (by omega))
        obtain ⟨v3, w3, hr3, ho3, hb3, hg3⟩ := appR w2.drew w.heap.size u5 (allB A (of.take i)) a n c A 23 hAn (unhide HO2) ((unhide HA).1.below (unhide HB2).drew) (by omega) (unhide HB2).size
        have hst3 := strs_grown (w := w2.drew) (unhide HR2).1 (unhide HT2) (unhide HO2) hg3
        have hbl3 : Below w.heap.size w w3 := (unhide HB2).drew.trans hb3
        have hgw : g < w.heap.size := by
          obtain ⟨a', c', e', _, hx⟩ := (unhide HP).1
          obtain ⟨b', o', ea, hl, _⟩ := hx (by have := (unhide HP).2; omega)
          cases e'; cases ea; exact hl
        have hc3 : w3.cell? ⟨g, o + i, none⟩ = some (.string ⟨q.toArray⟩) := by rw [hb3.cell (p := ⟨g, o + i, none⟩) hgw]; exact hc2
        go_simp
        refine hK.out _ _ hc3 (fun hHeld => ?_)
        clear hK K hr3
        try simp only [Act.put, List.getElem_toArray, List.getElem_cons_zero, List.getElem_cons_succ, List.setIfInBounds_toArray, List.set_cons_zero, List.set_cons_succ]
        refine wpAnyH_ready (rs := [7]) (by kernel_rfl) (by simp) (AllReadyH.cons rfl (fun K hK => ?_) AllReadyH.nil)
        simp only [List.getElem_toArray, List.getElem_cons_zero, List.getElem_cons_succ]
        have hql := isP_len (unhide HQ)
        obtain ⟨v4, w4, hr4, ho4, hb4, hg4⟩ := appT w3 w.heap.size v3 (allB A (of.take i) ++ A) q 23 ho3 (by rw [List.length_append]; omega) hbl3.size
        have hst4 := strs_grown hst3.1 hst3.2 ho3 hg4
        have hbl4 : Below w.heap.size w w4 := hbl3.trans hb4
        have hc4 : w4.cell? ⟨g, o + i, none⟩ = some (.string ⟨q.toArray⟩) := by rw [hb4.cell (p := ⟨g, o + i, none⟩) hgw]; exact hc3
        have HN1 : Hid (AllI w w4 A of (i + 1) v4 u2) := ⟨hbl4, by rw [unhide HS, allB_snoc _ _ _ (unhide HQ)]; exact ho4, hst4.2, R2, ⟨hst4.1, (unhide HR2).2⟩, unhide HM2, hl2'⟩
        go_simp
        refine hK.out _ _ hc4 (fun hHeld => ?_)
        clear hK K hr4 hst3 hst4 ho3 ho4 hb3 hb4 hg3 hg4 hbl3 hbl4 hlen hlt2 hbd
        try simp only [Act.put, List.getElem_toArray, List.getElem_cons_zero, List.getElem_cons_succ, List.setIfInBounds_toArray, List.set_cons_zero, List.set_cons_succ]
        refine wpAnyH_take (i := 8) (v := v4) rfl (by kernel_rfl) (by kernel_rfl) (by kernel_rfl) (fun _ _ _ h => h) (Or.inl ⟨by rfl, ?_⟩) hHeld ?_
        · intro w' hS'; have hq' := hS'; go_simp
        try simp only [Act.put, List.getElem_toArray, List.getElem_cons_zero, List.getElem_cons_succ, List.setIfInBounds_toArray, List.set_cons_zero, List.set_cons_succ]
        refine wpAnyH_done (by kernel_rfl) ?_ _
        refine NoPanic.normal ?_
        clear hHeld
        go_wp2_with fail
        exact ⟨⟨i + 1, by omega, rfl, HN1⟩, by simp [intOf]; omega⟩
      · have hnq : ¬ IsP q := hq
        obtain ⟨R, hR, hRm, hRl⟩ := (unhide HI).want
        have HN1 : Hid (AllI w w1 A of (i + 1) u5 u6) := by
          refine ⟨(unhide HI).below.trans (hb1.mono (unhide HI).below.size), ?_, (unhide HI).t25.keep fun j hj => ?_, R, hR.below hb1, fun x => ?_, by omega⟩
          · rw [unhide HS, allB_skip _ _ _ hnq]; exact ownR_keep (unhide HI).own fun j _ hj => hb1.block j hj
          · obtain ⟨cs, fr, h1⟩ := (unhide HI).t25 j hj
            exact hb1.block j (Array.getElem?_eq_some_iff.1 h1).1
          · rw [hRm, unhide HS, List.mem_append, List.mem_singleton]
            constructor
            · rintro ⟨h1, h2⟩; exact ⟨.inl h1, h2⟩
            · rintro ⟨h1 | rfl, h2⟩
              · exact ⟨h1, h2⟩
              · exact absurd h2 hnq
        clear hq hnq hR hRm HR hb1
        go_wp2_with fail
        exact ⟨⟨i + 1, by omega, rfl, HN1⟩, by simp [intOf]; omega⟩
    · obtain rfl : i = k := by omega
      obtain ⟨R, hR, hRm, hRl⟩ := (unhide HI).want
      have htk : of.take i = of := List.take_of_length_le (by have := (unhide HP).2; omega)
      have hown := (unhide HI).own
      rw [htk] at hown hRm
      obtain ⟨a5, c5, rfl, hat5⟩ := hown.at
      have hlen := allB_len A of
      have hAn := (unhide HA).2.2
      have hki := (unhide HP).2
      have hbd : (allB A of).length ≤ 9390 := Nat.le_trans hlen (Nat.le_trans (Nat.mul_le_mul_right _ (show of.length ≤ 30 by omega)) (by omega))
      have hBy : Sha.Bytes (allB A of) := allB_bytes (unhide HA).2.1 of
      have HR5 := hide (refs_any a5 (allB A of).length c5 (allB A of) p i e of wr hat5 hBy rfl (by omega) ((unhide HP).1.below (unhide HI).below) hki (unhide HZ) (by omega))
      rw [refs_all A of R hR.2.1 hRm] at HR5
      have HRR := hide hR
      clear hown hat5 hR hRm hlen hBy htk hki hAn
      generalize (allB A of).length = n5 at *
      go_wp2_with fail
      refine (unhide HR5).mono ?_
      rintro e6 w6 ⟨v6, rfl, hs6, hb6⟩
      obtain ⟨a6, c6, rfl⟩ := hs6.form
      obtain ⟨a7, c7, rfl⟩ := (unhide HRR).1.form
      have HPT := hide (paths_any a6 a7 R.length R.length c6 c7 R R w6 hs6 ((unhide HRR).1.below hb6) rfl rfl (by omega) (by omega))
      rw [decide_eq_true (rfl : R = R)] at HPT
      have HB6 : Hid (Below w.heap.size w w6) := (unhide HI).below.trans (hb6.mono (unhide HI).below.size)
      clear hs6 hb6 HR5
      generalize R.length = r at *
      go_wp2_with fail
      refine (unhide HPT).mono ?_
      rintro e7 w7 ⟨⟨q7, rfl⟩, rfl⟩
      have HK := hide (known_any (w6.drewN q7))
      clear HPT
      go_wp2_with fail
      refine (unhide HK).mono ?_
      rintro e8 w8 ⟨rfl, hb8⟩
      have HE : Hid (Below w.heap.size w w8) := by
        have h6 := unhide HB6
        have h7 : Below w.heap.size w (w6.drewN q7) := ⟨h6.os, h6.tape, h6.output, h6.size, h6.block⟩
        exact h7.trans (hb8.mono h7.size)
      clear hb8
      go_wp2_with fail
      go_ret
      exact ⟨rfl, unhide HE⟩
end Go.Proofs.Ytlbfcneboaihnab
