/- The document's own Mac. -/
import Derived.Test.YtdkhmjiconedkaaSums
namespace Go.Proofs.Ytdkhmjiconedkaa
namespace Sha
theorem sum_behind64 (x b : List Nat) (hx : x.length = 64) : sum (x ++ b) = sumBehind (blocks start x 1) 64 b := by
  have hl : (x ++ b).length = 64 + b.length := by rw [List.length_append, hx]
  have h1 : (64 + b.length) % 64 = b.length % 64 := by omega
  have h2 : (64 + b.length) / 64 = 1 + b.length / 64 := by omega
  have h3 : 64 + b.length - b.length % 64 = 64 + (b.length - b.length % 64) := by omega
  have ht : (x ++ b).take (64 + (b.length - b.length % 64)) = x ++ b.take (b.length - b.length % 64) := by rw [List.take_append, hx, List.take_of_length_le (by omega)]; congr 2; omega
  have hd : (x ++ b).drop (64 + (b.length - b.length % 64)) = b.drop (b.length - b.length % 64) := by rw [List.drop_append, hx, List.drop_eq_nil_of_le (by omega), List.nil_append]; congr 1; omega
  unfold sum sumBehind
  rw [hl, h1, h2, h3, ht, hd, blocks_append start x _ 1 _ (by omega), Nat.zero_add]
theorem mac_sums (key b k0 : List Nat) (h : padKey key = fill 64 k0) : mac key b = sum (turned (fill 64 k0) 92 ++ sum (turned (fill 64 k0) 54 ++ b)) := by
  have hl : (fill 64 k0).length = 64 := by rw [← h]; exact padKey_length key
  unfold mac
  rw [h, sum_behind64 _ _ (by rw [turned_length]; exact hl), sum_behind64 _ _ (by rw [turned_length]; exact hl)]
end Sha
open Go.RowKit Go.Great
theorem app_full (w : World) (g : Nat) (L : List Nat) (a : Option Addr) (m : List Nat) (c : Nat) (hh : w.heap[g]? = some (.cells (E8 L) 5 (0, 0))) (hs : BytesAt w (.slice a m.length c) m) (hmax : L.length + m.length ≤ 1000000) :
    ∃ a' c' w', (∀ ty, (app22 ty #[.slice (some ⟨g, 0, none⟩) L.length L.length, .slice a m.length c]).run Try.prog w = .ok (.slice a' (L ++ m).length c') w') ∧ BytesAt w' (.slice a' (L ++ m).length c') (L ++ m) ∧ Below w.heap.size w w' := by
  have hg : g < w.heap.size := (Array.getElem?_eq_some_iff.1 hh).1
  by_cases hm : 0 < m.length
  · obtain ⟨i, hi, hz, hsz, hby⟩ := info5_at
    obtain ⟨a', c', ev, hc, hb⟩ := hs
    cases ev
    obtain ⟨b, o, rfl, hbl, hcell⟩ := hb hm
    have hnews : ∀ j u, (m.map B8)[j]? = some u → w.cell? ((⟨b, o, none⟩ : Addr).add j) = some u := fun j u hj => by
      obtain ⟨hj1, rfl⟩ := nth_map m j u hj
      rw [Addr.add_mid]; exact hcell j hj1
    have hone : ∀ u ∈ m.map B8, u.oneCell' = true := fun u hu => by obtain ⟨x, -, rfl⟩ := List.mem_map.1 hu; rfl
    have e1 : (L ++ m).length = L.length + m.length := List.length_append
    refine ⟨some ⟨w.heap.size, 0, none⟩, grownCap w (L.length + m.length) L.length 5, w.drew.alloc (.cells (E8 (L ++ m ++ zs (grownCap w (L.length + m.length) L.length 5 - (L.length + m.length)))) 5), fun ty => ?_, ?_, ?_⟩
    · unfold app22
      have hold : (Builtin.firstCells i.size L.length (.slice (some ⟨g, 0, none⟩) L.length L.length)).run Try.prog w.drew = .ok (L.map B8).toArray w.drew :=
        run_firstCells_some w.drew i.size L.length ⟨g, 0, none⟩ L.length _ (L.map B8) (by simp [hsz]) (fun j u hj => by
          obtain ⟨hj1, rfl⟩ := nth_map L j u hj
          rw [Addr.add_mid, Nat.zero_add]
          have : w.cell? ⟨g, j, none⟩ = some (.int .u8 ((Sha.nth L j : Nat) : Int)) := by
            rw [cell_of_row w g j _ 5 _ hh, E8_get _ _ hj1]
          exact this)
      rw [run_append_grow_src (P := Try.prog) w 22 22 ty 5 i (.int .u8 0) Try.underlying22 hi hz (some ⟨g, 0, none⟩) L.length L.length (L.map B8) hold (.slice (some ⟨b, o, none⟩) m.length c) m.length (m.map B8)
        (Src.ofSlice w Try.underlying22 ⟨b, o, none⟩ m.length c (m.map B8) (by simp [hsz]) hnews hone) (by omega) (by omega) (growslice_fits (by omega) (by rw [hby]; omega))]
      have hzc : ∀ k, Builtin.zeroCells (Value.int .u8 0).cells k = E8 (zs k) := fun k => by
        have := made_zs k
        unfold madeCells at this
        unfold Builtin.zeroCells
        simpa [Value.cells] using this
      have e : ((L.map B8 ++ m.map B8).toArray : Array Value) = E8 (L ++ m) := by unfold E8; rw [List.map_append]
      rw [hzc, e, ← E8_append, e1]
    · have hge := grownCap_ge w (L.length + m.length) L.length 5
      exact bytesAt_row _ w.heap.size (L ++ m ++ zs _) (L ++ m) _ _ (by unfold rowOf; rw [show (w.drew.alloc _).heap[w.heap.size]? = some _ from heap_alloc_last w.drew _]) (by simp) (by simp) (by omega) (List.take_left' rfl)
    · exact (Below.refl _ _).drew.alloc (Nat.le_refl _) _
  · obtain rfl : m = [] := List.eq_nil_of_length_eq_zero (by omega)
    rw [List.append_nil]
    exact ⟨_, _, w, app_none w (some ⟨g, 0, none⟩) a L.length L.length c (Nat.le_refl _), bytesAt_row w g L L _ _ (by unfold rowOf; rw [hh]) hg (Nat.le_refl _) (Nat.le_refl _) (List.take_of_length_le (Nat.le_refl _)), Below.refl _ _⟩
theorem copy_two (W : World) (a : Option Addr) (l c : Nat) (k : List Nat) (hl : k.length = l) (h64 : l ≤ 64) (hv : BytesAt W (.slice a l c) k) :
    (∀ ty, (Builtin.copy_ #[22, 22] ty #[.slice (some ⟨W.heap.size, 0, none⟩) 64 64, .slice a l c]).run Try.prog ((W.alloc (.cells (E8 (zs 64)) 5)).alloc (.cells (E8 (zs 64)) 5))
      = .ok (.int .i64 (l : Int)) ((W.alloc (.cells (E8 (Sha.fill 64 k)) 5)).alloc (.cells (E8 (zs 64)) 5))) ∧
    (∀ ty, (Builtin.copy_ #[22, 22] ty #[.slice (some ⟨W.heap.size + 1, 0, none⟩) 64 64, .slice a l c]).run Try.prog ((W.alloc (.cells (E8 (Sha.fill 64 k)) 5)).alloc (.cells (E8 (zs 64)) 5))
      = .ok (.int .i64 (l : Int)) ((W.alloc (.cells (E8 (Sha.fill 64 k)) 5)).alloc (.cells (E8 (Sha.fill 64 k)) 5))) := by
  subst hl
  have hb : ∀ o1 o2, Below W.heap.size W ((W.alloc o1).alloc o2) := fun o1 o2 => ((Below.refl _ _).alloc (Nat.le_refl _) _).alloc (by simp) _
  constructor
  · intro ty
    have := copy_bytes ((W.alloc (.cells (E8 (zs 64)) 5)).alloc (.cells (E8 (zs 64)) 5)) ty W.heap.size 64 c a (zs 64) k (by simp [go_sem]) (by simp [go_sem]) (hv.below (hb _ _)) (by simp; omega)
    rw [zs_length, fill_zs] at this
    rw [this]
    simp [go_sem]
  · intro ty
    have := copy_bytes ((W.alloc (.cells (E8 (Sha.fill 64 k)) 5)).alloc (.cells (E8 (zs 64)) 5)) ty (W.heap.size + 1) 64 c a (zs 64) k (by simp [go_sem]) (by simp [go_sem]) (hv.below (hb _ _)) (by simp; omega)
    rw [zs_length, fill_zs] at this
    rw [this]
    simp [go_sem]
set_option linter.unusedSimpArgs false in
set_option maxRecDepth 20000 in
set_option maxHeartbeats 2000000 in
theorem refMac_any (a : Option Addr) (n cap : Nat) (key : List Nat) (a2 : Option Addr) (n2 cap2 : Nat) (b : List Nat) (w : World) (hn : key.length = n) (hv : BytesAt w (.slice a n cap) key) (hb : Sha.Bytes key)
    (hn2 : b.length = n2) (hv2 : BytesAt w (.slice a2 n2 cap2) b) (hb2 : Sha.Bytes b) (hmax : n + n2 ≤ 3000) :
    Calls Try.prog 17 #[.slice a n cap, .slice a2 n2 cap2] w fun e w' => e = .returned (.agg (E8 (Sha.mac key b))) ∧ Below w.heap.size w w' := by
  subst hn hn2
  have hbA : Below w.heap.size w (w.alloc (.cells Z25 25)) := (Below.refl _ _).alloc (Nat.le_refl _) _
  have HV2 := hide hv2
  have HSum := hide (Sha.mac_sums key b)
  generalize Sha.mac key b = MAC at *
  by_cases hs : 64 < key.length
  have hd : decide ((64 : Int) < (key.length : Int)) = true := by simp; omega
  have HK : Hid (Sha.padKey key = Sha.fill 64 (Sha.sum key)) := by show _ = _; unfold Sha.padKey; rw [if_pos (by omega)]
  have hsl : (Sha.sum key).length = 32 := Sha.sumBehind_length _ _ _
  have hsb : Sha.Bytes (Sha.sum key) := Sha.sumBehind_bytes _ _ _
  have HRS := hide (refSum_any a key.length cap key (w.alloc (.cells Z25 25)) rfl (hv.below hbA) hb (by omega))
  generalize Sha.sum key = k0 at *
  clear hv2
  go_enter Try.func17, Try.ntmps17
  go_wp2_with fail
  refine (unhide HRS).mono ?_
  rintro e w1 ⟨rfl, hb1⟩
  clear HRS hv
  go_wp2_with fail
  have HM := hide (unhide HSum _ (unhide HK))
  have hz1 : w.heap.size + 1 ≤ w1.heap.size := by have := hb1.size; simpa using this
  have hbw0 : Below w.heap.size w (w1.alloc (.cells (E8 k0) 25)) := (hbA.trans (hb1.mono (by simp))).alloc (by omega) _
  have hfr0 : fits (w1.alloc (.cells (E8 k0) 25)) w.heap.size 32 = true := by rw [fits_alloc_past _ _ _ _ (by omega), below_fits hb1 (by simp)]; simp [go_sem]
  have hv0 : BytesAt (w1.alloc (.cells (E8 k0) 25)) (.slice (some ⟨w1.heap.size, 0, none⟩) 32 32) k0 := bytesAt_row _ _ k0 k0 _ _ (rowOf_alloc_at _ _ _ _ rfl) (by simp) (by omega) (by omega) (List.take_of_length_le (by omega))
  have hwz0 : w.heap.size < (w1.alloc (.cells (E8 k0) 25)).heap.size := by simp; omega
  have hz0 : w1.heap.size + 1 = (w1.alloc (.cells (E8 k0) 25)).heap.size := by simp
  have hvb0 := hide ((unhide HV2).below hbw0)
  rw [hz0]
  generalize w1.alloc (.cells (E8 k0) 25) = W0 at *
  obtain ⟨l0, hl0⟩ : ∃ l0, 32 = l0 := ⟨_, rfl⟩
  obtain ⟨c0, hc0⟩ : ∃ c0, c0 = l0 := ⟨_, rfl⟩
  have hl64 : l0 ≤ 64 := by omega
  have hkl0 : k0.length = l0 := by omega
  rw [hl0] at hv0 ⊢
  have hfr1 : fits W0 w.heap.size 32 = true := by rw [hl0]; exact (by rw [← hl0]; exact hfr0)
  have HFR := hide hfr1
  generalize (some ⟨w1.heap.size, 0, none⟩ : Option Addr) = a0 at *
  clear hsl hb1 hz1 hz0 hl0 hc0 hfr0 hfr1 HK HSum hd hs hb hbA HV2
  rotate_left
  have hd : decide ((64 : Int) < (key.length : Int)) = false := by simp; omega
  have HK : Hid (Sha.padKey key = Sha.fill 64 key) := by show _ = _; unfold Sha.padKey; rw [if_neg (by omega)]
  have HM := hide (unhide HSum _ (unhide HK))
  have hv0 := hv.below hbA
  have hfr0 : fits (w.alloc (.cells Z25 25)) w.heap.size 32 = true := by simp [go_sem]
  have hwz0 : w.heap.size < (w.alloc (.cells Z25 25)).heap.size := by simp
  have HZ0 : Hid (w.heap.size + 1 = (w.alloc (.cells Z25 25)).heap.size) := by show _ = _; simp
  have hvb0 := hide ((unhide HV2).below hbA)
  have hbw0 := hbA
  clear hv2 hv
  go_enter Try.func17, Try.ntmps17
  go_wp2_with fail
  rw [unhide HZ0]
  have hsb := hb
  generalize w.alloc (.cells Z25 25) = W0 at *
  have HFR := hide hfr0
  have hl64 : key.length ≤ 64 := by omega
  generalize hkl0 : key.length = l0 at *
  generalize a = a0 at *
  clear HZ0 hfr0 HK HSum hd hs hb hbA HV2
  generalize key = k0 at *
  all_goals
    have HMX := hide hmax
    have hbl : b.length ≤ 3000 := by omega
    clear hmax
    obtain ⟨hcopy1, hcopy2⟩ := copy_two W0 a0 l0 _ k0 hkl0 hl64 hv0
    have hPl : (Sha.fill 64 k0).length = 64 := Sha.fill_length 64 k0 (by omega)
    have hPb : Sha.Bytes (Sha.fill 64 k0) := Sha.fill_bytes hsb
    generalize Sha.fill 64 k0 = P at *
    obtain ⟨A, hA⟩ : ∃ A : Nat → List Nat, A = Sha.turnTo P 54 := ⟨_, rfl⟩
    obtain ⟨B, hB⟩ : ∃ B : Nat → List Nat, B = Sha.turnTo P 92 := ⟨_, rfl⟩
    have HA0 : Hid (P = A 0) := by rw [hA]; exact rfl
    have HB0 : Hid (P = B 0) := by rw [hB]; exact rfl
    have HAl : Hid (∀ i, (A i).length = 64) := fun i => by rw [hA, Sha.turnTo_length]; exact hPl
    have HBl : Hid (∀ i, (B i).length = 64) := fun i => by rw [hB, Sha.turnTo_length]; exact hPl
    have HAs : Hid (∀ i, i < 64 → (A i).set i (x8 (Sha.nth (A i) i) 54) = A (i + 1)) := fun i hi => by
      rw [hA, Sha.turnTo_nth P 54 i (by omega) i, if_neg (by omega), x8_eq (hPb.at i) (by omega)]; rfl
    have HBs : Hid (∀ i, i < 64 → (B i).set i (x8 (Sha.nth (B i) i) 92) = B (i + 1)) := fun i hi => by
      rw [hB, Sha.turnTo_nth P 92 i (by omega) i, if_neg (by omega), x8_eq (hPb.at i) (by omega)]; rfl
    have HAe : Hid (A 64 = Sha.turned P 54) := by rw [hA, ← hPl]; exact Sha.turnTo_all P 54
    have HBe : Hid (B 64 = Sha.turned P 92) := by rw [hB, ← hPl]; exact Sha.turnTo_all P 92
    have HTA := hide (Sha.turned_bytes hPb (show 54 < 256 by omega))
    have HTB := hide (Sha.turned_bytes hPb (show 92 < 256 by omega))
    rw [← unhide HAe] at HTA HM
    rw [← unhide HBe] at HTB HM
    have HP0 := hide hPl
    clear hA hB HAe HBe hPb hPl hv0 hsb hl64
    rw [hcopy1]
    clear hcopy1
    go_wp2_with fail
    first
      | rw [hcopy2]
      | skip
    clear hcopy2
    go_wp2_with fail
    go_loopw [8] (fun c wr => ∃ i n : Nat, i ≤ 64 ∧ c = .int .i64 (i : Int) ∧ wr = ((W0.alloc (.cells (E8 (A i)) 5)).alloc (.cells (E8 (B i)) 5)).drewN n) (fun c _ => 64 - (intOf c).toNat)
    case atStart => exact ⟨0, 0, by omega, rfl, by rw [← unhide HA0, ← unhide HB0]; rfl⟩
    case round =>
      obtain ⟨i, n, hi, rfl, rfl⟩ := hrel
      have hpa := unhide HAl i
      have hpb := unhide HBl i
      by_cases hlt : i < 64
      · have HX1 : Hid (bits .xor .u8 ((Sha.nth (A i) i : Nat) : Int) 54 = ((x8 (Sha.nth (A i) i) 54 : Nat) : Int)) := f_xor8 _ 54
        have HX2 : Hid (bits .xor .u8 ((Sha.nth (B i) i : Nat) : Int) 92 = ((x8 (Sha.nth (B i) i) 92 : Nat) : Int)) := f_xor8 _ 92
        go_wp2
        go_roundw
        case rel => exact ⟨i + 1, n, by omega, by go_num, by rw [unhide HX1, unhide HX2, E8_set, E8_set, ← unhide HAs i hlt, ← unhide HBs i hlt]⟩
        case measure => simp [intOf]; omega
      · obtain rfl : i = 64 := by omega
        have hbX : Below W0.heap.size W0 (((W0.alloc (.cells (E8 (A 64)) 5)).alloc (.cells (E8 (B 64)) 5)).drewN n) := below_drews (((Below.refl _ _).alloc (Nat.le_refl _) _).alloc (by simp) _) _
        have hhA : (((W0.alloc (.cells (E8 (A 64)) 5)).alloc (.cells (E8 (B 64)) 5)).drewN n).heap[W0.heap.size]? = some (.cells (E8 (A 64)) 5 (0, 0)) := by
          show ((W0.alloc (.cells (E8 (A 64)) 5)).alloc (.cells (E8 (B 64)) 5)).heap[W0.heap.size]? = _
          rw [Below.heap_alloc _ _ _ (by simp)]; exact heap_alloc_last W0 _
        have hhB : (((W0.alloc (.cells (E8 (A 64)) 5)).alloc (.cells (E8 (B 64)) 5)).drewN n).heap[W0.heap.size + 1]? = some (.cells (E8 (B 64)) 5 (0, 0)) := by
          show ((W0.alloc (.cells (E8 (A 64)) 5)).alloc (.cells (E8 (B 64)) 5)).heap[W0.heap.size + 1]? = _
          have := heap_alloc_last (W0.alloc (.cells (E8 (A 64)) 5)) (.cells (E8 (B 64)) 5)
          simpa using this
        generalize ((W0.alloc (.cells (E8 (A 64)) 5)).alloc (.cells (E8 (B 64)) 5)).drewN n = W3 at *
        have hbw3 : Below w.heap.size w W3 := hbw0.trans (hbX.mono (by omega))
        have hfr3 : Hid (fits W3 w.heap.size 32 = true) := by show _ = _; rw [below_fits hbX hwz0]; exact unhide HFR
        have hz3 := hbX.size
        obtain ⟨aI, cI, w4, hrI, hvI, hbI⟩ := app_full W3 W0.heap.size (A 64) a2 b cap2 hhA ((unhide hvb0).below hbX) (by omega)
        rw [hpa] at hrI
        have HRI := hide hrI
        go_wp2_with fail
        have hlI : (A 64 ++ b).length = 64 + b.length := by rw [List.length_append, hpa]
        refine (refSum_any aI (64 + b.length) cI (A 64 ++ b) w4 hlI (by rw [← hlI]; exact hvI) ((unhide HTA).append hb2) (by omega)).mono ?_
        rintro e w5 ⟨rfl, hb5⟩
        have hS1l : (Sha.sum (A 64 ++ b)).length = 32 := Sha.sumBehind_length _ _ _
        have hS1b : Sha.Bytes (Sha.sum (A 64 ++ b)) := Sha.sumBehind_bytes _ _ _
        have hW1 : W0.heap.size + 1 < W3.heap.size := (Array.getElem?_eq_some_iff.1 hhB).1
        have hz4 := hbI.size
        have hz5 := hb5.size
        have hhB5 : w5.heap[W0.heap.size + 1]? = some (.cells (E8 (B 64)) 5 (0, 0)) := by
          rw [hb5.block _ (by omega), hbI.block _ hW1]; exact hhB
        have hfr5 : Hid (fits w5 w.heap.size 32 = true) := by show _ = _; rw [below_fits hb5 (by omega), below_fits hbI (by omega)]; exact unhide hfr3
        have hbw5 : Below w.heap.size w w5 := (hbw3.trans (hbI.mono (by omega))).trans (hb5.mono (by omega))
        clear hrI HRI hvI hbI hb5 hhA hhB hlI hbX hbw3 hfr3
        generalize Sha.sum (A 64 ++ b) = S1 at *
        have hS2l : (Sha.sum (B 64 ++ S1)).length = 32 := Sha.sumBehind_length _ _ _
        obtain ⟨aO, cO, w6, hrO, hvO, hbO⟩ := app_full (w5.alloc (.cells (E8 S1) 25)) (W0.heap.size + 1) (B 64) (some ⟨w5.heap.size, 0, none⟩) S1 32 (by rw [Below.heap_alloc _ _ _ (by omega)]; exact hhB5)
          (by rw [hS1l]; exact bytesAt_row _ _ S1 S1 _ _ (rowOf_alloc_at _ _ _ _ rfl) (by simp) (by omega) (by omega) (List.take_of_length_le (by omega))) (by omega)
        have hlO : (B 64 ++ S1).length = 96 := by rw [List.length_append, hpb, hS1l]
        rw [hpb, hS1l, hlO] at hrO
        rw [hlO] at hvO
        go_wp2_with fail
        refine (refSum_any aO 96 cO (B 64 ++ S1) w6 hlO hvO ((unhide HTB).append hS1b) (by omega)).mono ?_
        rintro e w7 ⟨rfl, hb7⟩
        have hz6 : w5.heap.size + 1 ≤ w6.heap.size := by have := hbO.size; simpa using this
        have hfr7 : fits w7 w.heap.size 32 = true := by rw [below_fits hb7 (by omega), below_fits hbO (by simp; omega), fits_alloc_past _ _ _ _ (by omega)]; exact unhide hfr5
        have hbw7 : Below w.heap.size w w7 := ((hbw5.alloc (by omega) _).trans (hbO.mono (by simp; omega))).trans (hb7.mono (by omega))
        rw [← unhide HM]
        rw [← unhide HM] at hS2l
        clear HM hrO hvO hbO hb7
        go_wp2
        exact bodyPost_ret (res25 Try.results17 rfl (rowOf_setRow_at _ _ 32 _ hfr7) (by simp [hS2l])) rfl ⟨rfl, below_setRow hbw7 (Nat.le_refl _) _⟩
end Go.Proofs.Ytdkhmjiconedkaa
