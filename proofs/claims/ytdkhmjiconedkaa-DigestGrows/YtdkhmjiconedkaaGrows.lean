/- The walk of the law DigestGrows. -/
import Derived.Test.YtdkhmjiconedkaaOwn
namespace Go.Proofs.Ytdkhmjiconedkaa
open Go.RowKit Go.Great Helped
theorem catTo_mono (B : Nat → List Nat) (i j : Nat) (h : i ≤ j) : (catTo B i).length ≤ (catTo B j).length := by
  induction j with
  | zero => obtain rfl : i = 0 := by omega
            exact Nat.le_refl _
  | succ j ih =>
    by_cases e : i = j + 1
    · subst e; exact Nat.le_refl _
    · have := ih (by omega)
      simp only [catTo, List.length_append]; omega
theorem catTo_bytes (B : Nat → List Nat) (n : Nat) (h : ∀ i, i < n → Sha.Bytes (B i)) : ∀ i, i ≤ n → Sha.Bytes (catTo B i)
  | 0, _ => fun x hx => by simp [catTo] at hx
  | i + 1, hi => (catTo_bytes B n h i (by omega)).append (h i (by omega))
theorem kept_new (w : World) : Kept (w.alloc (.cells H0 78)) w.heap.size [] (zs 32) :=
  ⟨zs 8, zs 64, ⟨heap_alloc_last w _, by simp [zs], by simp [zs], by simp [zs]⟩, fun h => by simp at h, by simp⟩
theorem OwnN.off {w : World} {base : Nat} {v : Value} {L : List Nat} (h : OwnN w base v L) {a : Option Addr} {n c : Nat} (e : v = .slice a n c) : ∀ x, a = some x → x.block ≠ w.heap.size := by
  rintro x rfl
  rcases h with ⟨rfl, rfl⟩ | ⟨g, R, rfl, hg, hh⟩
  · cases e
  · cases e
    have := (Array.getElem?_eq_some_iff.1 hh).1
    show g ≠ _; omega
theorem Kept.lt {w : World} {g : Nat} {all sum : List Nat} (h : Kept w g all sum) : g < w.heap.size := by
  obtain ⟨st, rest, hh, _⟩ := h; exact hh.lt
theorem range_sole {g P : Nat} {w w' : World} {cs : List Value} (h : w.rangeAt P 0 cs) (hs : Sole g w w') (hP : P < w.heap.size) (hg : P ≠ g) : w'.rangeAt P 0 cs := fun j v hv => by
  rw [World.cell?_of_block (w := w) (w' := w') (a := ⟨P, 0 + j, none⟩) (hs.block P hP hg)]; exact h j v hv
theorem sole_drewN (g k : Nat) (w : World) : Sole g w (w.drewN k) := ⟨rfl, rfl, rfl, Nat.le_refl _, fun _ _ _ => rfl⟩
set_option linter.unusedSimpArgs false in
set_option maxRecDepth 20000 in
set_option maxHeartbeats 2000000 in
theorem grows_ok (a0 : Option Addr) (g0 o0 len0 cap0 : Nat) (B : Nat → List Nat) (v1 : Value) (W : World) (hlen : len0 ≤ 281474976710656)
    (hR : ∀ i, i < len0 → a0 = some ⟨g0, o0, none⟩ ∧ g0 < W.heap.size ∧ RowAt W g0 o0 B i ∧ (B i).length ≤ 281474976710656) :
    Calls Try.prog 7 #[.slice a0 len0 cap0, v1] W fun e w' => e = .returned (.bool true) ∧ Below W.heap.size W w' := by
  have HR := hide hR
  obtain ⟨F, hF⟩ : ∃ F, F = catTo B := ⟨_, rfl⟩
  have HF0 : Hid (F 0 = []) := by rw [hF]; exact rfl
  have HFs : Hid (∀ i, F (i + 1) = F i ++ B i) := by rw [hF]; exact fun i => rfl
  have HFm : Hid (∀ i, i ≤ len0 → (F i).length ≤ (F len0).length) := by rw [hF]; exact fun i h => catTo_mono B i len0 h
  have HFb : Hid (∀ i, i ≤ len0 → Sha.Bytes (F i)) := by
    rw [hF]; exact catTo_bytes B len0 (fun i h => by obtain ⟨_, _, ⟨_, _, _, _, h⟩, _⟩ := hR i h; exact h)
  clear hF hR
  go_enter Try.func7, Try.ntmps7
  go_wp2_with fail
  go_loopw [5, 6] (fun v vi wr => ∃ i : Nat, i ≤ len0 ∧ vi = .int .i64 (i : Int) ∧ OwnN wr W.heap.size v (F i) ∧ (F i).length ≤ 3000 ∧ Below W.heap.size W wr) (fun _ vi _ => len0 - (intOf vi).toNat)
  case atStart => exact ⟨0, by omega, rfl, by rw [unhide HF0]; exact .inl ⟨rfl, rfl⟩, by rw [unhide HF0]; simp, Below.refl _ _⟩
  case round =>
    obtain ⟨i, hi, rfl, ho, hL, hbl⟩ := hrel
    have HO := hide ho
    obtain ⟨va, vc, rfl, hvc⟩ := ho.shape
    clear ho
    by_cases hlt : i < len0
    · obtain ⟨rfl, hg0, ⟨ra, rc, hcell, hby, hbb⟩, hB⟩ := unhide HR i hlt
      have hcell' : wr.cell? ⟨g0, o0 + i, none⟩ = some (.slice ra (B i).length rc) := by rw [hbl.cell (p := ⟨g0, o0 + i, none⟩) hg0]; exact hcell
      have hby' := hide (hby.below hbl)
      clear hcell hby
      by_cases hgt : 3000 < (F i).length + (B i).length
      · have hd : decide ((3000 : Int) < ((F i).length : Int) + ((B i).length : Int)) = true := by simp; omega
        go_wp2
        go_ret
        exact ⟨rfl, hbl⟩
      · have hd : decide ((3000 : Int) < ((F i).length : Int) + ((B i).length : Int)) = false := by simp; omega
        obtain ⟨v', w', hr, ho', hbl'⟩ := app_more wr W.heap.size _ (F i) ra (B i) rc hbl.size (unhide HO) (unhide hby') (by omega)
        have HR' := hide hr
        have HO' := hide ho'
        clear hr ho'
        go_wp2_with fail
        rw [unhide HR']
        clear HR'
        go_wp2
        go_roundw
        case rel => exact ⟨i + 1, by omega, by go_num, by rw [unhide HFs i]; exact unhide HO', by rw [unhide HFs i, List.length_append]; omega, hbl.trans hbl'⟩
        case measure => simp [intOf]; omega
    · obtain rfl : i = len0 := by omega
      go_wp2_with fail
      have HK0 := hide (kept_new wr)
      have hoff := hide ((unhide HO).off rfl)
      have hgW : W.heap.size ≤ wr.heap.size := hbl.size
      have hbn : Below wr.heap.size wr (wr.alloc (.cells H0 78)) := (Below.refl _ _).alloc (Nat.le_refl _) _
      have hba := hide ((unhide HO).bytesAt.below hbn)
      have hb2 : Below W.heap.size W (wr.alloc (.cells H0 78)) := hbl.trans (hbn.mono hgW)
      refine (new_any wr).mono ?_
      rintro e w2 ⟨rfl, hw2⟩
      rw [← hw2] at HK0 hba hb2
      have hg2 : wr.heap.size < w2.heap.size := (unhide HK0).lt
      clear hw2 hbn HO hbl
      generalize wr.heap.size = g at *
      clear hlt
      go_wp2_with fail
      go_loopw [8] (fun vi wr => ∃ j : Nat, j ≤ i ∧ vi = .int .i64 (j : Int) ∧ Kept wr g (F j) (zs 32) ∧ Sole g w2 wr) (fun vi _ => i - (intOf vi).toNat)
      case atStart => exact ⟨0, by omega, rfl, by rw [unhide HF0]; exact unhide HK0, Sole.refl _ _⟩
      case round =>
        clear HK0
        obtain ⟨j, hj, rfl, hk, hs⟩ := hrel
        have hblr : Below W.heap.size W wr := hb2.trans (hs.below hgW hb2.size)
        have hgr : g < wr.heap.size := hk.lt
        have hFj : (F j).length ≤ 3000 := Nat.le_trans (unhide HFm j hj) hL
        by_cases hlt : j < i
        · obtain ⟨rfl, hg0, ⟨ra, rc, hcell, hby, hbb⟩, hB⟩ := unhide HR j hlt
          have hFB : (F j).length + (B j).length ≤ 3000 := by
            have h1 := unhide HFm (j + 1) (by omega)
            rw [unhide HFs j, List.length_append] at h1; omega
          have hcr : wr.cell? ⟨g0, o0 + j, none⟩ = some (.slice ra (B j).length rc) := by rw [hblr.cell (p := ⟨g0, o0 + j, none⟩) hg0]; exact hcell
          have HRO := hide (roomy_own ra (B j).length rc (B j) wr rfl (hby.below hblr) (by omega))
          have HBY := hide hby
          have HBB := hide hbb
          have HK := hide hk
          clear hk hby hbb
          have hW0 : W.heap.size ≤ wr.heap.size := hblr.size
          go_wp2_with fail
          refine (unhide HRO).mono ?_
          clear HRO
          rintro e w3 ⟨q, c, rfl, hq, hc, hqs, hown, hbq, hmk, hb3⟩
          have hqg : q ≠ g := by omega
          have hc3 : w3.cell? ⟨g0, o0 + j, none⟩ = some (.slice ra (B j).length rc) := by rw [hb3.cell (p := ⟨g0, o0 + j, none⟩) (by show g0 < _; omega)]; exact hcr
          have hbl3 : Below W.heap.size W w3 := hblr.trans (hb3.mono hW0)
          have HWR := hide (write_any g (F j) (zs 32) (B j).length c (some ⟨q, 0, none⟩) (B j) w3 ((unhide HK).belowB hb3 hgr) (unhide HFb j hj) rfl (unhide HBB) hbq (fun x hx => by cases hx; exact hqg) (by omega))
          have HOWN := hide hown
          have HBQ := hide hbq
          have hnc : (B j).length ≤ c := by omega
          clear hown hbq HK
          go_wp2_with fail
          refine (unhide HWR).mono ?_
          clear HWR
          rintro e w4 ⟨rfl, hk4, hs4⟩
          have hbl4 : Below W.heap.size W w4 := hbl3.trans (hs4.below hgW hbl3.size)
          have hc4 : w4.cell? ⟨g0, o0 + j, none⟩ = some (.slice ra (B j).length rc) := by rw [hbl4.cell (p := ⟨g0, o0 + j, none⟩) hg0]; exact hcell
          have hmk4 : w4.cell? ⟨q, (B j).length, none⟩ = some (.int .u8 171) := by
            rw [World.cell?_of_block (w := w3) (w' := w4) (a := ⟨q, (B j).length, none⟩) (hs4.block q hqs hqg)]; exact hmk
          have HST := hide (stands_at q c ra (B j).length rc (B j) w4 rfl (by omega) hc ((unhide HBY).below hbl4) ((unhide HBQ).sole (fun x hx => by cases hx; exact hqg) hs4) hmk4)
          have HK4 := hide hk4
          clear hk4
          go_wp2_with fail
          refine (unhide HST).mono ?_
          clear HST
          rintro e w5 ⟨rfl, k, hw5⟩
          have hs5 : Sole g w4 w5 := by rw [hw5]; exact sole_drewN g k w4
          have HK5 : Hid (Kept w5 g (F j ++ B j) (zs 32)) := by rw [hw5]; exact unhide HK4
          have hown5 : OwnB w5 wr.heap.size (.slice (some ⟨q, 0, none⟩) ((B j).length + 1) c) (B j ++ [171]) := ((unhide HOWN).sole hs4 hgr).sole hs5 hgr
          have hz5 : wr.heap.size ≤ w5.heap.size := by have := hb3.size; have := hs4.size; have := hs5.size; omega
          have HSP := hide (spoil_any wr.heap.size _ (B j ++ [171]) w5 hown5 (by simp; omega) hz5)
          clear hown5 HOWN HBQ hw5 HK4
          go_wp2_with fail
          refine (unhide HSP).mono ?_
          clear HSP
          rintro e w6 ⟨rfl, hb6⟩
          have hs6 : Sole g wr w6 := ⟨by rw [hb6.os, hs5.os, hs4.os, hb3.os], by rw [hb6.tape, hs5.tape, hs4.tape, hb3.tape], by rw [hb6.output, hs5.output, hs4.output, hb3.output], Nat.le_trans hz5 hb6.size, fun k hk hkg => by
            rw [hb6.block k hk, hs5.block k (by have := hb3.size; have := hs4.size; omega) hkg, hs4.block k (by have := hb3.size; omega) hkg, hb3.block k hk]⟩
          go_wp2
          go_roundw
          case rel => exact ⟨j + 1, by omega, by go_num, by rw [unhide HFs j]; exact (unhide HK5).belowB hb6 hgr, hs.trans hs6⟩
          case measure => simp [intOf]; omega
        · obtain rfl : j = i := by omega
          have hbF := hide ((unhide hba).sole (unhide hoff) hs)
          have HREF := hide (refSum_any va (F j).length vc (F j) wr rfl (unhide hbF) (unhide HFb j (Nat.le_refl _)) (by omega))
          have HK := hide hk
          have hRl : (Sha.sum (F j)).length = 32 := Sha.sumBehind_length _ _ _
          obtain ⟨R, hRR⟩ : ∃ R, R = Sha.sum (F j) := ⟨_, rfl⟩
          rw [← hRR] at hRl
          have HRR := hide hRR
          clear hk hba hoff hRR
          go_wp2_with fail
          refine (unhide HREF).mono ?_
          clear HREF
          rintro e w3 ⟨rfl, hb3⟩
          rw [← unhide HRR]
          have HK3 := hide (KeptL.below (unhide HK) hb3)
          have hbl3 : Below W.heap.size W w3 := hblr.trans (hb3.mono hblr.size)
          clear HK hbF
          go_wp2_with fail
          have HRA : Hid ((w3.alloc (.cells (E8 R) 25)).rangeAt w3.heap.size 0 (R.map B8)) := by
            intro k v hv
            rw [cell_of_row _ w3.heap.size (0 + k) _ 25 _ (heap_alloc_last w3 _), Nat.zero_add]
            simpa [E8] using hv
          have hbn : Below w3.heap.size w3 (w3.alloc (.cells (E8 R) 25)) := (Below.refl _ _).alloc (Nat.le_refl _) _
          have hg3 : g < w3.heap.size := Nat.lt_of_lt_of_le hgr hb3.size
          have HK4 := hide (KeptL.below (unhide HK3) hbn)
          have hbl4 : Below W.heap.size W (w3.alloc (.cells (E8 R) 25)) := hbl3.trans (hbn.mono hbl3.size)
          have hP4 : w3.heap.size < (w3.alloc (.cells (E8 R) 25)).heap.size := by simp
          generalize w3.alloc (.cells (E8 R) 25) = w4 at *
          have hPg : w3.heap.size ≠ g := by omega
          generalize w3.heap.size = P at *
          obtain ⟨N, hN⟩ : ∃ N, N = (F j).length := ⟨_, rfl⟩
          have hin : (Try.prog.info? 25).map (·.size) = some (R.map B8).length := by rw [List.length_map, hRl]; kernel_rfl
          have HL1 : Hid (Calls Try.prog 25 #[.pointer (some ⟨g, 0, none⟩)] w4.drew fun e w' => e = .returned (.int .i64 (N : Int)) ∧ w' = w4.drew) := by
            obtain ⟨st, rest, hh, _⟩ := unhide HK4
            rw [hN]; exact hlen_any g _ w4.drew hh.size
          have HS1 : Hid (Calls Try.prog 26 #[.pointer (some ⟨g, 0, none⟩)] w4.drew fun e w' => e = .returned (.agg (E8 R)) ∧ ToldL w' g ⟨1, 0⟩ (F j) ∧ Sole g w4.drew w') := by
            rw [unhide HRR]; exact hsum_first g (F j) (zs 32) w4.drew (unhide HK4) (unhide HFb j (Nat.le_refl _)) (by omega)
          have HBF := hide (unhide HFb j (Nat.le_refl _))
          have HNj := hide hN
          rw [← hN]
          clear HK3 HK4 hN hbn hb3 HR HFs HFm HFb HF0
          refine wp_region_noPanic ?_
          refine wp_region_held_drew (S := fun w' => w'.rangeAt P 0 (R.map B8)) (by kernel_rfl) (unhide HRA) (fun hHeld => ?_)
          refine wpAnyH_take (i := 0) (v := .pointer (some ⟨g, 0, none⟩)) rfl (by kernel_rfl) (by kernel_rfl) (by kernel_rfl) (fun _ _ _ h => h) (Or.inl ⟨by rfl, ?_⟩) hHeld ?_
          · intro w' _; go_simp
          try simp only [Act.put, List.getElem_toArray, List.getElem_cons_zero, List.getElem_cons_succ, List.setIfInBounds_toArray, List.set_cons_zero, List.set_cons_succ]
          refine wpAnyH_take (i := 2) (v := .slice va N vc) rfl (by kernel_rfl) (by kernel_rfl) (by kernel_rfl) (fun _ _ _ h => h) (Or.inl ⟨by rfl, ?_⟩) hHeld ?_
          · intro w' _; go_simp
          try simp only [Act.put, List.getElem_toArray, List.getElem_cons_zero, List.getElem_cons_succ, List.setIfInBounds_toArray, List.set_cons_zero, List.set_cons_succ]
          refine wpAnyH_take (i := 3) (v := .int .i64 (N : Int)) rfl (by kernel_rfl) (by kernel_rfl) (by kernel_rfl) (fun _ _ _ h => h) (Or.inl ⟨by rfl, ?_⟩) hHeld ?_
          · intro w' _; go_simp
          try simp only [Act.put, List.getElem_toArray, List.getElem_cons_zero, List.getElem_cons_succ, List.setIfInBounds_toArray, List.set_cons_zero, List.set_cons_succ]
          refine wpAnyH_ready (rs := [1]) (by kernel_rfl) (by simp) (AllReadyH.cons rfl (fun K hK => ?_) AllReadyH.nil)
          simp only [List.getElem_toArray, List.getElem_cons_zero, List.getElem_cons_succ]
          go_simp
          refine (unhide HL1).mono ?_
          rintro e w' ⟨rfl, hw'⟩; rw [hw']; clear hw' w'
          refine hK.out _ _ (unhide HRA) (fun hHeld => ?_)
          clear hK K
          try simp only [Act.put, List.getElem_toArray, List.getElem_cons_zero, List.getElem_cons_succ, List.setIfInBounds_toArray, List.set_cons_zero, List.set_cons_succ]
          refine wpAnyH_take (i := 4) (v := .bool true) rfl (by kernel_rfl) (by kernel_rfl) (by kernel_rfl) (fun _ _ _ h => h) (Or.inl ⟨by rfl, ?_⟩) hHeld ?_
          · intro w' _; go_simp
          try simp only [Act.put, List.getElem_toArray, List.getElem_cons_zero, List.getElem_cons_succ, List.setIfInBounds_toArray, List.set_cons_zero, List.set_cons_succ]
          refine wpAnyH_take (i := 5) (v := .bool true) rfl (by kernel_rfl) (by kernel_rfl) (by kernel_rfl) (fun _ _ _ h => h) (Or.inl ⟨by rfl, ?_⟩) hHeld ?_
          · intro w' _; go_simp
          try simp only [Act.put, List.getElem_toArray, List.getElem_cons_zero, List.getElem_cons_succ, List.setIfInBounds_toArray, List.set_cons_zero, List.set_cons_succ]
          refine wpAnyH_take (i := 6) (v := .pointer (some ⟨g, 0, none⟩)) rfl (by kernel_rfl) (by kernel_rfl) (by kernel_rfl) (fun _ _ _ h => h) (Or.inl ⟨by rfl, ?_⟩) hHeld ?_
          · intro w' _; go_simp
          try simp only [Act.put, List.getElem_toArray, List.getElem_cons_zero, List.getElem_cons_succ, List.setIfInBounds_toArray, List.set_cons_zero, List.set_cons_succ]
          refine wpAnyH_take (i := 8) rfl (by kernel_rfl) (by kernel_rfl) (by kernel_rfl) (fun _ _ _ h => h) (yieldsIf_load_mid (by rfl) _ _ rfl _ _ rfl _ _ (fun w h => h) Try.underlying25 rfl hin) hHeld ?_
          try simp only [Act.put, List.getElem_toArray, List.getElem_cons_zero, List.getElem_cons_succ, List.setIfInBounds_toArray, List.set_cons_zero, List.set_cons_succ]
          refine wpAnyH_ready (rs := [7]) (by kernel_rfl) (by simp) (AllReadyH.cons rfl (fun K hK => ?_) AllReadyH.nil)
          simp only [List.getElem_toArray, List.getElem_cons_zero, List.getElem_cons_succ]
          go_simp
          refine (unhide HS1).mono ?_
          rintro e w5 ⟨rfl, ht5, hs5⟩
          have HS5 := hide (range_sole (show w4.drew.rangeAt P 0 (R.map B8) from unhide HRA) hs5 hP4 hPg)
          have hbl5 : Below W.heap.size W w5 := hbl4.trans (show Below W.heap.size w4 w5 from ⟨hs5.os, hs5.tape, hs5.output, hs5.size, (hs5.below hgW hbl4.size).block⟩)
          have hP5 : P < w5.heap.size := Nat.lt_of_lt_of_le hP4 hs5.size
          have HW5 : Hid (Calls Try.prog 23 #[.pointer (some ⟨g, 0, none⟩), v1] w5 fun e w' => e = .returned (.bool false) ∧ w' = w5) := by
            obtain ⟨st, rest, hh⟩ := ht5
            exact write_told g st rest _ _ _ v1 w5 hh
          have HA5 : Hid (Calls Try.prog 26 #[.pointer (some ⟨g, 0, none⟩)] w5 fun e w' => e = .returned (.agg (E8 R)) ∧ ToldL w' g ⟨1, 0⟩ (F j) ∧ Sole g w5 w') := by
            rw [unhide HRR]; exact hsum_again g (F j) w5 ht5
          clear ht5 hs5 HS1 HL1 HRA
          refine hK.out _ _ (unhide HS5) (fun hHeld => ?_)
          clear hK K
          try simp only [Act.put, List.getElem_toArray, List.getElem_cons_zero, List.getElem_cons_succ, List.setIfInBounds_toArray, List.set_cons_zero, List.set_cons_succ]
          refine wpAnyH_take (i := 9) (v := .bool true) rfl (by kernel_rfl) (by kernel_rfl) (by kernel_rfl) (fun _ _ _ h => h) (Or.inl ⟨by rfl, ?_⟩) hHeld ?_
          · intro w' _; exact exec_eq25 _ _ (.tmp 76) (.tmp 77) R rfl rfl rfl hRl w'
          try simp only [Act.put, List.getElem_toArray, List.getElem_cons_zero, List.getElem_cons_succ, List.setIfInBounds_toArray, List.set_cons_zero, List.set_cons_succ]
          refine wpAnyH_take (i := 10) (v := .bool true) rfl (by kernel_rfl) (by kernel_rfl) (by kernel_rfl) (fun _ _ _ h => h) (Or.inl ⟨by rfl, ?_⟩) hHeld ?_
          · intro w' _; go_simp
          try simp only [Act.put, List.getElem_toArray, List.getElem_cons_zero, List.getElem_cons_succ, List.setIfInBounds_toArray, List.set_cons_zero, List.set_cons_succ]
          refine wpAnyH_take (i := 11) (v := .bool true) rfl (by kernel_rfl) (by kernel_rfl) (by kernel_rfl) (fun _ _ _ h => h) (Or.inl ⟨by rfl, ?_⟩) hHeld ?_
          · intro w' _; go_simp
          try simp only [Act.put, List.getElem_toArray, List.getElem_cons_zero, List.getElem_cons_succ, List.setIfInBounds_toArray, List.set_cons_zero, List.set_cons_succ]
          refine wpAnyH_take (i := 12) (v := .pointer (some ⟨g, 0, none⟩)) rfl (by kernel_rfl) (by kernel_rfl) (by kernel_rfl) (fun _ _ _ h => h) (Or.inl ⟨by rfl, ?_⟩) hHeld ?_
          · intro w' _; go_simp
          try simp only [Act.put, List.getElem_toArray, List.getElem_cons_zero, List.getElem_cons_succ, List.setIfInBounds_toArray, List.set_cons_zero, List.set_cons_succ]
          refine wpAnyH_take (i := 13) (v := v1) rfl (by kernel_rfl) (by kernel_rfl) (by kernel_rfl) (fun _ _ _ h => h) (Or.inl ⟨by rfl, ?_⟩) hHeld ?_
          · intro w' _; go_simp
          try simp only [Act.put, List.getElem_toArray, List.getElem_cons_zero, List.getElem_cons_succ, List.setIfInBounds_toArray, List.set_cons_zero, List.set_cons_succ]
          refine wpAnyH_ready (rs := [14]) (by kernel_rfl) (by simp) (AllReadyH.cons rfl (fun K hK => ?_) AllReadyH.nil)
          simp only [List.getElem_toArray, List.getElem_cons_zero, List.getElem_cons_succ]
          go_simp
          refine (unhide HW5).mono ?_
          rintro e w' ⟨rfl, hw'⟩; rw [hw']; clear hw' w'
          refine hK.out _ _ (unhide HS5) (fun hHeld => ?_)
          clear hK K
          try simp only [Act.put, List.getElem_toArray, List.getElem_cons_zero, List.getElem_cons_succ, List.setIfInBounds_toArray, List.set_cons_zero, List.set_cons_succ]
          refine wpAnyH_take (i := 15) (v := .bool true) rfl (by kernel_rfl) (by kernel_rfl) (by kernel_rfl) (fun _ _ _ h => h) (Or.inl ⟨by rfl, ?_⟩) hHeld ?_
          · intro w' _; go_simp
          try simp only [Act.put, List.getElem_toArray, List.getElem_cons_zero, List.getElem_cons_succ, List.setIfInBounds_toArray, List.set_cons_zero, List.set_cons_succ]
          refine wpAnyH_take (i := 16) (v := .bool true) rfl (by kernel_rfl) (by kernel_rfl) (by kernel_rfl) (fun _ _ _ h => h) (Or.inl ⟨by rfl, ?_⟩) hHeld ?_
          · intro w' _; go_simp
          try simp only [Act.put, List.getElem_toArray, List.getElem_cons_zero, List.getElem_cons_succ, List.setIfInBounds_toArray, List.set_cons_zero, List.set_cons_succ]
          refine wpAnyH_take (i := 17) (v := .bool true) rfl (by kernel_rfl) (by kernel_rfl) (by kernel_rfl) (fun _ _ _ h => h) (Or.inl ⟨by rfl, ?_⟩) hHeld ?_
          · intro w' _; go_simp
          try simp only [Act.put, List.getElem_toArray, List.getElem_cons_zero, List.getElem_cons_succ, List.setIfInBounds_toArray, List.set_cons_zero, List.set_cons_succ]
          refine wpAnyH_take (i := 18) (v := .pointer (some ⟨g, 0, none⟩)) rfl (by kernel_rfl) (by kernel_rfl) (by kernel_rfl) (fun _ _ _ h => h) (Or.inl ⟨by rfl, ?_⟩) hHeld ?_
          · intro w' _; go_simp
          try simp only [Act.put, List.getElem_toArray, List.getElem_cons_zero, List.getElem_cons_succ, List.setIfInBounds_toArray, List.set_cons_zero, List.set_cons_succ]
          refine wpAnyH_take (i := 20) rfl (by kernel_rfl) (by kernel_rfl) (by kernel_rfl) (fun _ _ _ h => h) (yieldsIf_load_mid (by rfl) _ _ rfl _ _ rfl _ _ (fun w h => h) Try.underlying25 rfl hin) hHeld ?_
          try simp only [Act.put, List.getElem_toArray, List.getElem_cons_zero, List.getElem_cons_succ, List.setIfInBounds_toArray, List.set_cons_zero, List.set_cons_succ]
          refine wpAnyH_ready (rs := [19]) (by kernel_rfl) (by simp) (AllReadyH.cons rfl (fun K hK => ?_) AllReadyH.nil)
          simp only [List.getElem_toArray, List.getElem_cons_zero, List.getElem_cons_succ]
          go_simp
          refine (unhide HA5).mono ?_
          rintro e w6 ⟨rfl, ht6, hs6⟩
          have HS6 := hide (range_sole (unhide HS5) hs6 hP5 hPg)
          have hbl6 : Below W.heap.size W w6 := hbl5.trans (hs6.below hgW hbl5.size)
          have HL6 : Hid (Calls Try.prog 25 #[.pointer (some ⟨g, 0, none⟩)] w6 fun e w' => e = .returned (.int .i64 (N : Int)) ∧ w' = w6) := by
            obtain ⟨st, rest, hh⟩ := ht6
            rw [unhide HNj]; exact hlen_any g _ w6 hh.size
          have hP6 : P < w6.heap.size := Nat.lt_of_lt_of_le hP5 hs6.size
          clear ht6 hs6 HA5 HW5 HS5
          refine hK.out _ _ (unhide HS6) (fun hHeld => ?_)
          clear hK K
          try simp only [Act.put, List.getElem_toArray, List.getElem_cons_zero, List.getElem_cons_succ, List.setIfInBounds_toArray, List.set_cons_zero, List.set_cons_succ]
          refine wpAnyH_take (i := 21) (v := .bool true) rfl (by kernel_rfl) (by kernel_rfl) (by kernel_rfl) (fun _ _ _ h => h) (Or.inl ⟨by rfl, ?_⟩) hHeld ?_
          · intro w' _; exact exec_eq25 _ _ (.tmp 88) (.tmp 89) R rfl rfl rfl hRl w'
          try simp only [Act.put, List.getElem_toArray, List.getElem_cons_zero, List.getElem_cons_succ, List.setIfInBounds_toArray, List.set_cons_zero, List.set_cons_succ]
          refine wpAnyH_take (i := 22) (v := .bool true) rfl (by kernel_rfl) (by kernel_rfl) (by kernel_rfl) (fun _ _ _ h => h) (Or.inl ⟨by rfl, ?_⟩) hHeld ?_
          · intro w' _; go_simp
          try simp only [Act.put, List.getElem_toArray, List.getElem_cons_zero, List.getElem_cons_succ, List.setIfInBounds_toArray, List.set_cons_zero, List.set_cons_succ]
          refine wpAnyH_take (i := 23) (v := .bool true) rfl (by kernel_rfl) (by kernel_rfl) (by kernel_rfl) (fun _ _ _ h => h) (Or.inl ⟨by rfl, ?_⟩) hHeld ?_
          · intro w' _; go_simp
          try simp only [Act.put, List.getElem_toArray, List.getElem_cons_zero, List.getElem_cons_succ, List.setIfInBounds_toArray, List.set_cons_zero, List.set_cons_succ]
          refine wpAnyH_take (i := 24) (v := .pointer (some ⟨g, 0, none⟩)) rfl (by kernel_rfl) (by kernel_rfl) (by kernel_rfl) (fun _ _ _ h => h) (Or.inl ⟨by rfl, ?_⟩) hHeld ?_
          · intro w' _; go_simp
          try simp only [Act.put, List.getElem_toArray, List.getElem_cons_zero, List.getElem_cons_succ, List.setIfInBounds_toArray, List.set_cons_zero, List.set_cons_succ]
          refine wpAnyH_take (i := 26) (v := .slice va N vc) rfl (by kernel_rfl) (by kernel_rfl) (by kernel_rfl) (fun _ _ _ h => h) (Or.inl ⟨by rfl, ?_⟩) hHeld ?_
          · intro w' _; go_simp
          try simp only [Act.put, List.getElem_toArray, List.getElem_cons_zero, List.getElem_cons_succ, List.setIfInBounds_toArray, List.set_cons_zero, List.set_cons_succ]
          refine wpAnyH_take (i := 27) (v := .int .i64 (N : Int)) rfl (by kernel_rfl) (by kernel_rfl) (by kernel_rfl) (fun _ _ _ h => h) (Or.inl ⟨by rfl, ?_⟩) hHeld ?_
          · intro w' _; go_simp
          try simp only [Act.put, List.getElem_toArray, List.getElem_cons_zero, List.getElem_cons_succ, List.setIfInBounds_toArray, List.set_cons_zero, List.set_cons_succ]
          refine wpAnyH_ready (rs := [25]) (by kernel_rfl) (by simp) (AllReadyH.cons rfl (fun K hK => ?_) AllReadyH.nil)
          simp only [List.getElem_toArray, List.getElem_cons_zero, List.getElem_cons_succ]
          go_simp
          refine (unhide HL6).mono ?_
          rintro e w' ⟨rfl, hw'⟩; rw [hw']; clear hw' w'
          refine hK.out _ _ (unhide HS6) (fun hHeld => ?_)
          clear hK K
          try simp only [Act.put, List.getElem_toArray, List.getElem_cons_zero, List.getElem_cons_succ, List.setIfInBounds_toArray, List.set_cons_zero, List.set_cons_succ]
          refine wpAnyH_take (i := 28) (v := .bool true) rfl (by kernel_rfl) (by kernel_rfl) (by kernel_rfl) (fun _ _ _ h => h) (Or.inl ⟨by rfl, ?_⟩) hHeld ?_
          · intro w' _; go_simp
          try simp only [Act.put, List.getElem_toArray, List.getElem_cons_zero, List.getElem_cons_succ, List.setIfInBounds_toArray, List.set_cons_zero, List.set_cons_succ]
          refine wpAnyH_take (i := 29) (v := .bool true) rfl (by kernel_rfl) (by kernel_rfl) (by kernel_rfl) (fun _ _ _ h => h) (Or.inl ⟨by rfl, ?_⟩) hHeld ?_
          · intro w' _; go_simp
          try simp only [Act.put, List.getElem_toArray, List.getElem_cons_zero, List.getElem_cons_succ, List.setIfInBounds_toArray, List.set_cons_zero, List.set_cons_succ]
          refine wpAnyH_take (i := 30) (v := .bool true) rfl (by kernel_rfl) (by kernel_rfl) (by kernel_rfl) (fun _ _ _ h => h) (Or.inl ⟨by rfl, ?_⟩) hHeld ?_
          · intro w' _; go_simp
          try simp only [Act.put, List.getElem_toArray, List.getElem_cons_zero, List.getElem_cons_succ, List.setIfInBounds_toArray, List.set_cons_zero, List.set_cons_succ]
          refine wpAnyH_ready (rs := [31]) (by kernel_rfl) (by simp) (AllReadyH.cons rfl (fun K hK => ?_) AllReadyH.nil)
          simp only [List.getElem_toArray, List.getElem_cons_zero, List.getElem_cons_succ]
          go_simp
          refine (known_any _).mono ?_
          rintro e w7 ⟨rfl, hb7⟩
          have HS7 := hide (range_sole (unhide HS6) (Sole.of_below (g := g) hb7) hP6 hPg)
          have hbl7 : Below W.heap.size W w7 := hbl6.trans (hb7.mono hbl6.size)
          clear hb7 HS6
          refine hK.out _ _ (unhide HS7) (fun hHeld => ?_)
          clear hK K
          try simp only [Act.put, List.getElem_toArray, List.getElem_cons_zero, List.getElem_cons_succ, List.setIfInBounds_toArray, List.set_cons_zero, List.set_cons_succ]
          refine wpAnyH_take (i := 32) (v := .bool true) rfl (by kernel_rfl) (by kernel_rfl) (by kernel_rfl) (fun _ _ _ h => h) (Or.inl ⟨by rfl, ?_⟩) hHeld ?_
          · intro w' _; go_simp
          try simp only [Act.put, List.getElem_toArray, List.getElem_cons_zero, List.getElem_cons_succ, List.setIfInBounds_toArray, List.set_cons_zero, List.set_cons_succ]
          refine wpAnyH_take (i := 33) (v := .bool true) rfl (by kernel_rfl) (by kernel_rfl) (by kernel_rfl) (fun _ _ _ h => h) (Or.inl ⟨by rfl, ?_⟩) hHeld ?_
          · intro w' _; go_simp
          try simp only [Act.put, List.getElem_toArray, List.getElem_cons_zero, List.getElem_cons_succ, List.setIfInBounds_toArray, List.set_cons_zero, List.set_cons_succ]
          refine wpAnyH_done (by kernel_rfl) ?_ _
          refine NoPanic.normal ?_
          go_wp2
          go_ret
          exact ⟨rfl, hbl7⟩
end Go.Proofs.Ytdkhmjiconedkaa
