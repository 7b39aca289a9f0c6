/- The walk of the law DigestMacs. -/
import Derived.Test.YtdkhmjiconedkaaRefmac
import Derived.Deep.RegionHeld3
namespace Go.Proofs.Ytdkhmjiconedkaa
open Go.RowKit Go.Great Helped
theorem run_eqB (w : World) (l : List Nat) (hl : l.length = 32) : (binOp .eql 25 (.agg (E8 l)) (.agg (E8 l))).run Try.prog w = .ok (.bool true) w := by
  rw [run_eql_struct, eq25 w l hl]; rfl
theorem guard25 : Try.prog.eqGuardType Try.prog.depth 25 = false := by kernel_rfl
theorem exec_eq25 (ρ : Operand → Value) (o : Oper) (x y : Operand) (l : List Nat) (ho : o.op = .binOp .eql 25 x y 25) (hx : ρ x = .agg (E8 l)) (hy : ρ y = .agg (E8 l)) (hl : l.length = 32) (w : World) :
    (execOp ρ o).run Try.prog w = .ok (.value (.bool true)) w := by
  have h := run_eqB w l hl
  have hg := run_eqGuard_agg (P := Try.prog) (w := w) .eql 25 x y (E8 l) (E8 l) guard25
  unfold execOp
  simp only [ho, hx, hy]
  simp [hg, h]
set_option linter.unusedSimpArgs false in
set_option maxRecDepth 20000 in
set_option maxHeartbeats 2000000 in
theorem macs_ok (a : Option Addr) (n cap : Nat) (key : List Nat) (a2 : Option Addr) (n2 cap2 : Nat) (b : List Nat) (w : World) (hn : key.length = n) (hv : BytesAt w (.slice a n cap) key) (hb : Sha.Bytes key)
    (hn2 : b.length = n2) (hv2 : BytesAt w (.slice a2 n2 cap2) b) (hbb : Sha.Bytes b) (hmax : n + n2 ≤ 3000) :
    Calls Try.prog 5 #[.slice a n cap, .slice a2 n2 cap2] w fun e w' => e = .returned (.bool true) ∧ Below w.heap.size w w' := by
  have hd : decide ((3000 : Int) < (n : Int) + (n2 : Int)) = false := by simp; omega
  have hn1' : n ≤ 3000 := by omega
  have hn2' : n2 ≤ 3000 := by omega
  have HR := hide (roomy_at a n cap key w hn hv (by omega))
  go_enter Try.func5, Try.ntmps5
  go_wp2_with fail
  refine (unhide HR).mono ?_
  clear HR
  rintro e w1 ⟨q1, c1, R1, rfl, hq1, hh1, hb1, hc1⟩
  have HR := hide (roomy_at a2 n2 cap2 b w1 hn2 (hv2.below hb1) (by omega))
  go_wp2_with fail
  refine (unhide HR).mono ?_
  clear HR
  rintro e w2 ⟨q2, c2, R2, rfl, hq2, hh2, hb2, hc2⟩
  have hqs1 : q1 < w1.heap.size := (Array.getElem?_eq_some_iff.1 hh1).1
  have hqs2 : q2 < w2.heap.size := (Array.getElem?_eq_some_iff.1 hh2).1
  have hbw2 : Below w.heap.size w w2 := hb1.trans (hb2.mono hb1.size)
  have hz2 := hb2.size
  have hh1' : w2.heap[q1]? = some (.cells (E8 (key ++ [171, 171] ++ R1)) 5 (0, 0)) := by rw [hb2.block _ hqs1]; exact hh1
  have hvk : BytesAt w2 (.slice (some ⟨q1, 0, none⟩) n c1) key := bytesAt_row w2 q1 _ key n c1 (by unfold rowOf; rw [hh1']) (by omega) (by simp; omega) (by omega) (by rw [List.append_assoc, List.take_left' hn])
  have hvb : BytesAt w2 (.slice (some ⟨q2, 0, none⟩) n2 c2) b := bytesAt_row w2 q2 _ b n2 c2 (by unfold rowOf; rw [hh2]) hqs2 (by simp; omega) (by omega) (by rw [List.append_assoc, List.take_left' hn2])
  have hmk : w2.cell? ⟨q1, n, none⟩ = some (.int .u8 171) := by
    rw [cell_of_row w2 q1 n _ 5 _ hh1', E8_get _ _ (by simp; omega), List.append_assoc, Sha.nth_append_right (by omega), show n - key.length = 0 by omega]; rfl
  have hmb : w2.cell? ⟨q2, n2, none⟩ = some (.int .u8 171) := by
    rw [cell_of_row w2 q2 n2 _ 5 _ hh2, E8_get _ _ (by simp; omega), List.append_assoc, Sha.nth_append_right (by omega), show n2 - b.length = 0 by omega]; rfl
  have HMAC := hide (fun (w' : World) (h : Below w2.heap.size w2 w') => mac_any q1 0 n c1 q2 0 n2 c2 key b w' hn (hvk.below h) hb (by omega) hn2 (hvb.below h) hbb (by omega))
  have HREF := hide (fun (w' : World) (h : Below w2.heap.size w2 w') => refMac_any a n cap key a2 n2 cap2 b w' hn (hv.below (hbw2.trans (h.mono hbw2.size))) hb hn2 (hv2.below (hbw2.trans (h.mono hbw2.size))) hbb hmax)
  have HST1 := hide (fun (w' : World) (h : Below w2.heap.size w2 w') => stands_at q1 c1 a n cap key w' hn (by omega) hc1 (hv.below (hbw2.trans (h.mono hbw2.size))) (hvk.below h) (by rw [h.cell (p := ⟨q1, n, none⟩) (by show q1 < _; omega)]; exact hmk))
  have HST2 := hide (fun (w' : World) (h : Below w2.heap.size w2 w') => stands_at q2 c2 a2 n2 cap2 b w' hn2 (by omega) hc2 (hv2.below (hbw2.trans (h.mono hbw2.size))) (hvb.below h) (by rw [h.cell (p := ⟨q2, n2, none⟩) (by show q2 < _; omega)]; exact hmb))
  have hml : (Sha.mac key b).length = 32 := Sha.sumBehind_length _ _ _
  generalize Sha.mac key b = MAC at *
  have hc1' : n ≤ c1 := by omega
  have hc2' : n2 ≤ c2 := by omega
  have hr0 : Below w2.heap.size w2 w2 := Below.refl _ _
  clear hh1 hh2 hh1' hvk hvb hmk hmb hv hv2 hb hbb hb1 hb2
  go_wp2_with fail
  refine wp_region_noPanic ?_
  refine wp_region_held_drew (S := fun w' => Below w2.heap.size w2 w') (by kernel_rfl) hr0.drew (fun hHeld => ?_)
  refine wpAnyH_take (i := 0) (v := .slice (some ⟨q1, 0, none⟩) (n + 1) c1) rfl (by kernel_rfl) (by kernel_rfl) (by kernel_rfl) (fun _ _ _ h => h) (Or.inl ⟨by rfl, ?_⟩) hHeld ?_
  · intro w' _; go_simp
  try simp only [Act.put, List.getElem_toArray, List.getElem_cons_zero, List.getElem_cons_succ, List.setIfInBounds_toArray, List.set_cons_zero, List.set_cons_succ]
  refine wpAnyH_take (i := 1) (v := .slice a n cap) rfl (by kernel_rfl) (by kernel_rfl) (by kernel_rfl) (fun _ _ _ h => h) (Or.inl ⟨by rfl, ?_⟩) hHeld ?_
  · intro w' _; go_simp
  try simp only [Act.put, List.getElem_toArray, List.getElem_cons_zero, List.getElem_cons_succ, List.setIfInBounds_toArray, List.set_cons_zero, List.set_cons_succ]
  refine wpAnyH_take (i := 2) (v := .int .i64 (n : Int)) rfl (by kernel_rfl) (by kernel_rfl) (by kernel_rfl) (fun _ _ _ h => h) (Or.inl ⟨by rfl, ?_⟩) hHeld ?_
  · intro w' _; go_simp
  try simp only [Act.put, List.getElem_toArray, List.getElem_cons_zero, List.getElem_cons_succ, List.setIfInBounds_toArray, List.set_cons_zero, List.set_cons_succ]
  refine wpAnyH_take (i := 3) (v := .slice (some ⟨q1, 0, none⟩) n c1) rfl (by kernel_rfl) (by kernel_rfl) (by kernel_rfl) (fun _ _ _ h => h) (Or.inl ⟨by rfl, ?_⟩) hHeld ?_
  · intro w' _; go_simp
  try simp only [Act.put, List.getElem_toArray, List.getElem_cons_zero, List.getElem_cons_succ, List.setIfInBounds_toArray, List.set_cons_zero, List.set_cons_succ]
  refine wpAnyH_take (i := 4) (v := .slice (some ⟨q2, 0, none⟩) (n2 + 1) c2) rfl (by kernel_rfl) (by kernel_rfl) (by kernel_rfl) (fun _ _ _ h => h) (Or.inl ⟨by rfl, ?_⟩) hHeld ?_
  · intro w' _; go_simp
  try simp only [Act.put, List.getElem_toArray, List.getElem_cons_zero, List.getElem_cons_succ, List.setIfInBounds_toArray, List.set_cons_zero, List.set_cons_succ]
  refine wpAnyH_take (i := 5) (v := .slice a2 n2 cap2) rfl (by kernel_rfl) (by kernel_rfl) (by kernel_rfl) (fun _ _ _ h => h) (Or.inl ⟨by rfl, ?_⟩) hHeld ?_
  · intro w' _; go_simp
  try simp only [Act.put, List.getElem_toArray, List.getElem_cons_zero, List.getElem_cons_succ, List.setIfInBounds_toArray, List.set_cons_zero, List.set_cons_succ]
  refine wpAnyH_take (i := 6) (v := .int .i64 (n2 : Int)) rfl (by kernel_rfl) (by kernel_rfl) (by kernel_rfl) (fun _ _ _ h => h) (Or.inl ⟨by rfl, ?_⟩) hHeld ?_
  · intro w' _; go_simp
  try simp only [Act.put, List.getElem_toArray, List.getElem_cons_zero, List.getElem_cons_succ, List.setIfInBounds_toArray, List.set_cons_zero, List.set_cons_succ]
  refine wpAnyH_take (i := 7) (v := .slice (some ⟨q2, 0, none⟩) n2 c2) rfl (by kernel_rfl) (by kernel_rfl) (by kernel_rfl) (fun _ _ _ h => h) (Or.inl ⟨by rfl, ?_⟩) hHeld ?_
  · intro w' _; go_simp
  try simp only [Act.put, List.getElem_toArray, List.getElem_cons_zero, List.getElem_cons_succ, List.setIfInBounds_toArray, List.set_cons_zero, List.set_cons_succ]
  refine wpAnyH_take (i := 9) (v := .slice a n cap) rfl (by kernel_rfl) (by kernel_rfl) (by kernel_rfl) (fun _ _ _ h => h) (Or.inl ⟨by rfl, ?_⟩) hHeld ?_
  · intro w' _; go_simp
  try simp only [Act.put, List.getElem_toArray, List.getElem_cons_zero, List.getElem_cons_succ, List.setIfInBounds_toArray, List.set_cons_zero, List.set_cons_succ]
  refine wpAnyH_take (i := 10) (v := .slice a2 n2 cap2) rfl (by kernel_rfl) (by kernel_rfl) (by kernel_rfl) (fun _ _ _ h => h) (Or.inl ⟨by rfl, ?_⟩) hHeld ?_
  · intro w' _; go_simp
  try simp only [Act.put, List.getElem_toArray, List.getElem_cons_zero, List.getElem_cons_succ, List.setIfInBounds_toArray, List.set_cons_zero, List.set_cons_succ]
  refine wpAnyH_ready (rs := [8]) (by kernel_rfl) (by simp) (AllReadyH.cons rfl (fun K hK => ?_) AllReadyH.nil)
  simp only [List.getElem_toArray, List.getElem_cons_zero, List.getElem_cons_succ]
  go_simp
  refine (unhide HMAC _ hHeld).mono ?_
  rintro e w3 ⟨rfl, hb3⟩
  refine hK.out _ _ (hHeld.trans (hb3.mono hHeld.size)) (fun hHeld => ?_)
  clear hb3
  clear hK K
  try simp only [Act.put, List.getElem_toArray, List.getElem_cons_zero, List.getElem_cons_succ, List.setIfInBounds_toArray, List.set_cons_zero, List.set_cons_succ]
  refine wpAnyH_ready (rs := [11]) (by kernel_rfl) (by simp) (AllReadyH.cons rfl (fun K hK => ?_) AllReadyH.nil)
  simp only [List.getElem_toArray, List.getElem_cons_zero, List.getElem_cons_succ]
  go_simp
  refine (unhide HREF _ hHeld).mono ?_
  rintro e w4 ⟨rfl, hb4⟩
  refine hK.out _ _ (hHeld.trans (hb4.mono hHeld.size)) (fun hHeld => ?_)
  clear hb4
  clear hK K
  try simp only [Act.put, List.getElem_toArray, List.getElem_cons_zero, List.getElem_cons_succ, List.setIfInBounds_toArray, List.set_cons_zero, List.set_cons_succ]
  refine wpAnyH_take (i := 12) (v := .bool true) rfl (by kernel_rfl) (by kernel_rfl) (by kernel_rfl) (fun _ _ _ h => h) (Or.inl ⟨by rfl, ?_⟩) hHeld ?_
  · intro w' _; exact exec_eq25 _ _ (.tmp 25) (.tmp 28) MAC rfl rfl rfl hml w'
  try simp only [Act.put, List.getElem_toArray, List.getElem_cons_zero, List.getElem_cons_succ, List.setIfInBounds_toArray, List.set_cons_zero, List.set_cons_succ]
  refine wpAnyH_take (i := 13) (v := .bool true) rfl (by kernel_rfl) (by kernel_rfl) (by kernel_rfl) (fun _ _ _ h => h) (Or.inl ⟨by rfl, ?_⟩) hHeld ?_
  · intro w' _; go_simp
  try simp only [Act.put, List.getElem_toArray, List.getElem_cons_zero, List.getElem_cons_succ, List.setIfInBounds_toArray, List.set_cons_zero, List.set_cons_succ]
  refine wpAnyH_take (i := 14) (v := .slice (some ⟨q1, 0, none⟩) (n + 1) c1) rfl (by kernel_rfl) (by kernel_rfl) (by kernel_rfl) (fun _ _ _ h => h) (Or.inl ⟨by rfl, ?_⟩) hHeld ?_
  · intro w' _; go_simp
  try simp only [Act.put, List.getElem_toArray, List.getElem_cons_zero, List.getElem_cons_succ, List.setIfInBounds_toArray, List.set_cons_zero, List.set_cons_succ]
  refine wpAnyH_take (i := 15) (v := .slice a n cap) rfl (by kernel_rfl) (by kernel_rfl) (by kernel_rfl) (fun _ _ _ h => h) (Or.inl ⟨by rfl, ?_⟩) hHeld ?_
  · intro w' _; go_simp
  try simp only [Act.put, List.getElem_toArray, List.getElem_cons_zero, List.getElem_cons_succ, List.setIfInBounds_toArray, List.set_cons_zero, List.set_cons_succ]
  refine wpAnyH_ready (rs := [16]) (by kernel_rfl) (by simp) (AllReadyH.cons rfl (fun K hK => ?_) AllReadyH.nil)
  simp only [List.getElem_toArray, List.getElem_cons_zero, List.getElem_cons_succ]
  go_simp
  refine (unhide HST1 _ hHeld).mono ?_
  rintro e w5 ⟨rfl, k1, hw5⟩
  refine hK.out _ _ (by rw [hw5]; exact below_drews hHeld k1) (fun hHeld => ?_)
  clear hw5
  clear hK K
  try simp only [Act.put, List.getElem_toArray, List.getElem_cons_zero, List.getElem_cons_succ, List.setIfInBounds_toArray, List.set_cons_zero, List.set_cons_succ]
  refine wpAnyH_take (i := 17) (v := .bool true) rfl (by kernel_rfl) (by kernel_rfl) (by kernel_rfl) (fun _ _ _ h => h) (Or.inl ⟨by rfl, ?_⟩) hHeld ?_
  · intro w' _; go_simp
  try simp only [Act.put, List.getElem_toArray, List.getElem_cons_zero, List.getElem_cons_succ, List.setIfInBounds_toArray, List.set_cons_zero, List.set_cons_succ]
  refine wpAnyH_take (i := 18) (v := .bool true) rfl (by kernel_rfl) (by kernel_rfl) (by kernel_rfl) (fun _ _ _ h => h) (Or.inl ⟨by rfl, ?_⟩) hHeld ?_
  · intro w' _; go_simp
  try simp only [Act.put, List.getElem_toArray, List.getElem_cons_zero, List.getElem_cons_succ, List.setIfInBounds_toArray, List.set_cons_zero, List.set_cons_succ]
  refine wpAnyH_take (i := 19) (v := .slice (some ⟨q2, 0, none⟩) (n2 + 1) c2) rfl (by kernel_rfl) (by kernel_rfl) (by kernel_rfl) (fun _ _ _ h => h) (Or.inl ⟨by rfl, ?_⟩) hHeld ?_
  · intro w' _; go_simp
  try simp only [Act.put, List.getElem_toArray, List.getElem_cons_zero, List.getElem_cons_succ, List.setIfInBounds_toArray, List.set_cons_zero, List.set_cons_succ]
  refine wpAnyH_take (i := 20) (v := .slice a2 n2 cap2) rfl (by kernel_rfl) (by kernel_rfl) (by kernel_rfl) (fun _ _ _ h => h) (Or.inl ⟨by rfl, ?_⟩) hHeld ?_
  · intro w' _; go_simp
  try simp only [Act.put, List.getElem_toArray, List.getElem_cons_zero, List.getElem_cons_succ, List.setIfInBounds_toArray, List.set_cons_zero, List.set_cons_succ]
  refine wpAnyH_ready (rs := [21]) (by kernel_rfl) (by simp) (AllReadyH.cons rfl (fun K hK => ?_) AllReadyH.nil)
  simp only [List.getElem_toArray, List.getElem_cons_zero, List.getElem_cons_succ]
  go_simp
  refine (unhide HST2 _ hHeld).mono ?_
  rintro e w6 ⟨rfl, k2, hw6⟩
  refine hK.out _ _ (by rw [hw6]; exact below_drews hHeld k2) (fun hHeld => ?_)
  clear hw6
  clear hK K
  try simp only [Act.put, List.getElem_toArray, List.getElem_cons_zero, List.getElem_cons_succ, List.setIfInBounds_toArray, List.set_cons_zero, List.set_cons_succ]
  refine wpAnyH_take (i := 22) (v := .bool true) rfl (by kernel_rfl) (by kernel_rfl) (by kernel_rfl) (fun _ _ _ h => h) (Or.inl ⟨by rfl, ?_⟩) hHeld ?_
  · intro w' _; go_simp
  try simp only [Act.put, List.getElem_toArray, List.getElem_cons_zero, List.getElem_cons_succ, List.setIfInBounds_toArray, List.set_cons_zero, List.set_cons_succ]
  refine wpAnyH_take (i := 23) (v := .bool true) rfl (by kernel_rfl) (by kernel_rfl) (by kernel_rfl) (fun _ _ _ h => h) (Or.inl ⟨by rfl, ?_⟩) hHeld ?_
  · intro w' _; go_simp
  try simp only [Act.put, List.getElem_toArray, List.getElem_cons_zero, List.getElem_cons_succ, List.setIfInBounds_toArray, List.set_cons_zero, List.set_cons_succ]
  refine wpAnyH_ready (rs := [24]) (by kernel_rfl) (by simp) (AllReadyH.cons rfl (fun K hK => ?_) AllReadyH.nil)
  simp only [List.getElem_toArray, List.getElem_cons_zero, List.getElem_cons_succ]
  go_simp
  refine (known_any _).mono ?_
  rintro e w7 ⟨rfl, hb7⟩
  refine hK.out _ _ (hHeld.trans (hb7.mono hHeld.size)) (fun hHeld => ?_)
  clear hb7
  clear hK K
  try simp only [Act.put, List.getElem_toArray, List.getElem_cons_zero, List.getElem_cons_succ, List.setIfInBounds_toArray, List.set_cons_zero, List.set_cons_succ]
  refine wpAnyH_take (i := 25) (v := .bool true) rfl (by kernel_rfl) (by kernel_rfl) (by kernel_rfl) (fun _ _ _ h => h) (Or.inl ⟨by rfl, ?_⟩) hHeld ?_
  · intro w' _; go_simp
  try simp only [Act.put, List.getElem_toArray, List.getElem_cons_zero, List.getElem_cons_succ, List.setIfInBounds_toArray, List.set_cons_zero, List.set_cons_succ]
  refine wpAnyH_take (i := 26) (v := .bool true) rfl (by kernel_rfl) (by kernel_rfl) (by kernel_rfl) (fun _ _ _ h => h) (Or.inl ⟨by rfl, ?_⟩) hHeld ?_
  · intro w' _; go_simp
  try simp only [Act.put, List.getElem_toArray, List.getElem_cons_zero, List.getElem_cons_succ, List.setIfInBounds_toArray, List.set_cons_zero, List.set_cons_succ]
  refine wpAnyH_done (by kernel_rfl) ?_ _
  refine NoPanic.normal ?_
  go_wp2
  go_ret
  exact ⟨rfl, hbw2.trans (hHeld.mono hbw2.size)⟩
set_option maxRecDepth 20000 in
set_option maxHeartbeats 400000 in
theorem macs_walk (w : World) (a0 : Option Addr) (len0 cap0 : Nat) (z0 : List Int) (r0 : IsRow .u8 w a0 len0 cap0 z0) (a1 : Option Addr) (len1 cap1 : Nat) (z1 : List Int) (r1 : IsRow .u8 w a1 len1 cap1 z1) (hlen : len0 ≤ 281474976710656) (hlen1 : len1 ≤ 281474976710656) :
    Calls Try.prog 5 #[.slice a0 len0 cap0, .slice a1 len1 cap1] w fun e w' => e = .returned (.bool true) ∧ Below w.heap.size w w' := by
  obtain ⟨b, hbl, hb, hv⟩ := isRow_bytes r0
  obtain ⟨b1, hbl1, hb1, hv1⟩ := isRow_bytes r1
  clear r0 r1
  by_cases hgt : 3000 < len0 + len1
  · have hd : decide ((3000 : Int) < (len0 : Int) + (len1 : Int)) = true := by simp; omega
    go_enter Try.func5, Try.ntmps5
    go_wp2
    go_ret
    exact ⟨rfl, Below.refl _ _⟩
  exact macs_ok a0 len0 cap0 b a1 len1 cap1 b1 w hbl hv hb hbl1 hv1 hb1 (by omega)
end Go.Proofs.Ytdkhmjiconedkaa
