/- roomy, spoil and stands. -/
import Derived.Test.YtikamklgelcnhaaSplw
namespace Go.Proofs.Ytikamklgelcnhaa
open Go.RowKit
set_option linter.unusedSimpArgs false
set_option maxRecDepth 20000 in
set_option maxHeartbeats 1000000 in
theorem roomy_any (lo hi : Nat) (a : Option Addr) (c : Nat) (B : List UInt8) (w : World) (hr : Row lo hi w (.slice a B.length c) B.length (bv B)) (hhi : hi ≤ w.heap.size) (hB : B.length ≤ 1000000) :
    Calls Try.prog 18 #[.slice a B.length c] w fun e w' => ∃ a1 c1, e = .returned (.slice a1 (B.length + 1) c1) ∧ Row w.heap.size w'.heap.size w' (.slice a1 (B.length + 1) c1) (B.length + 1) (bv (B ++ [171])) ∧ Below w.heap.size w w' := by
  obtain ⟨a1, c1, w1, happ1, ho1, hb1⟩ := copy_bytes w lo hi a B.length c B hr rfl (by omega) hhi
  have hs1 := hb1.size
  obtain ⟨a2, c2, w2, happ2, ho2, hb2, hs2⟩ := byte_app w1 w.heap.size _ B.length B 171 ho1 (by omega) hs1
  obtain ⟨a3, c3, w3, happ3, ho3, hb3, hs3⟩ := byte_app w2 w.heap.size _ (B.length + 1) (B ++ [171]) 171 ho2 (by omega) (by omega)
  have happ2' : ∀ ty, (app22 ty #[.slice a1 B.length c1, .slice (some ⟨w1.heap.size, 0, none⟩) 1 1]).run Try.prog (w1.alloc (.cells #[.int .u8 171] 5)) = .ok (.slice a2 (B.length + 1) c2) w2 := happ2
  have happ3' : ∀ ty, (app22 ty #[.slice a2 (B.length + 1) c2, .slice (some ⟨w2.heap.size, 0, none⟩) 1 1]).run Try.prog (w2.alloc (.cells #[.int .u8 171] 5)) = .ok (.slice a3 (B.length + 1 + 1) c3) w3 := happ3
  have hr3 := owns_row ho3 (owns_lt ho3)
  have HR := hide (row_pre hr3 (show B.length + 1 ≤ B.length + 1 + 1 by omega))
  have hc3 : B.length + 1 + 1 ≤ c3 := by obtain ⟨_, c', e, h, _⟩ := hr3; cases e; exact h
  have HBB := hide ((hb1.trans hb2).trans hb3)
  have hcc : (B.length : Int) + 1 ≤ (c3 : Int) := by omega
  have HTK : Hid ((bv (B ++ [171] ++ [171])).take (B.length + 1) = bv (B ++ [171])) := by
    show _ = _
    rw [bv_append, List.take_left' (by rw [bv_length]; simp)]
  clear hr happ2 happ3 ho1 ho2 ho3 hb1 hb2 hb3 hr3 hs1 hs2 hs3 hhi
  go_enter Try.func18, Try.ntmps18
  go_wp2_with fail
  go_ret
  refine ⟨a3, c3, rfl, ?_, unhide HBB⟩
  rw [← unhide HTK]
  exact unhide HR
set_option maxRecDepth 20000 in
set_option maxHeartbeats 1000000 in
theorem spoil_any (base : Nat) (a : Option Addr) (c : Nat) (d : List UInt8) (w : World) (ho : w.ownsRow base 5 1 (.slice a d.length c) d.length (bv d)) (hd : d.length ≤ 2000000) (hbase : base ≤ w.heap.size) :
    Calls Try.prog 21 #[.slice a d.length c] w fun e w' => e = .returned (.tuple #[]) ∧ Below base w w' := by
  obtain ⟨a1, c1, w1, happ, ho1, hb1, hs1⟩ := byte_app w base _ d.length d 99 ho (by omega) hbase
  have happ' : ∀ ty, (app22 ty #[.slice a d.length c, .slice (some ⟨w.heap.size, 0, none⟩) 1 1]).run Try.prog (w.alloc (.cells #[.int .u8 99] 5)) = .ok (.slice a1 (d.length + 1) c1) w1 := happ
  obtain ⟨g, cur, rfl, hg, hh, hcs⟩ : ∃ g cur, a1 = some ⟨g, 0, none⟩ ∧ base ≤ g ∧ w1.heap[g]? = some (.cells cur 5) ∧ d.length + 1 ≤ cur.size := by
    rcases ho1.2 with ⟨h1, h2⟩ | ⟨g, cap, cur, e, hg, hh, hcap, hm, hcs, htk⟩
    · omega
    · cases e
      exact ⟨g, cur, rfl, hg, hh, by omega⟩
  have HB1 := hide hb1
  have HH : Hid (∃ cur, w1.heap[g]? = some (.cells cur 5) ∧ d.length + 1 ≤ cur.size) := ⟨cur, hh, hcs⟩
  clear ho ho1 hb1 happ hh hcs hs1 hbase
  generalize d.length = N at *
  go_enter Try.func21, Try.ntmps21
  go_wp2_with fail
  go_loopw [3] (fun vi wr => ∃ i : Nat, i ≤ N + 1 ∧ vi = .int .i64 (i : Int) ∧ Hid (Below base w wr) ∧ Hid (∃ cur, wr.heap[g]? = some (.cells cur 5) ∧ N + 1 ≤ cur.size)) (fun vi _ => N + 1 - (intOf vi).toNat)
  case atStart => exact ⟨0, by omega, rfl, unhide HB1, unhide HH⟩
  case round =>
    clear HB1 HH happ'
    obtain ⟨i, hi, rfl, hB, hC⟩ := hrel
    by_cases hlt : i < N + 1
    · obtain ⟨cur, hcur, hsz⟩ := unhide hC
      have hcell : wr.cell? ⟨g, i, none⟩ = some cur[i] := by rw [cell_of_row wr g i cur 5 _ hcur]; exact Array.getElem?_eq_getElem (by omega)
      have hfr : wr.frozen? ⟨g, i, none⟩ = false := by unfold World.frozen?; rw [hcur]; simp
      have HB' : Hid (Below base w (wr.setCell ⟨g, i, none⟩ (.int .u8 98))) := (unhide hB).setCell hg _
      have HC' : Hid (∃ cur, (wr.setCell ⟨g, i, none⟩ (.int .u8 98)).heap[g]? = some (.cells cur 5) ∧ N + 1 ≤ cur.size) := ⟨cur.setIfInBounds i (.int .u8 98), by simp [World.setCell, Array.getElem?_modify, hcur], by simp; omega⟩
      generalize cur[i] = old at *
      clear hcur hsz hB hC
      go_wp2_with fail
      refine ⟨⟨i + 1, by omega, by simp, unhide HB', unhide HC'⟩, ?_⟩
      simp [intOf]; omega
    · obtain rfl : i = N + 1 := by omega
      go_wp2_with fail
      exact bodyPost_end (v := .tuple #[]) (by simp [results, Try.results21, go_sem]) rfl ⟨rfl, unhide hB⟩
set_option maxRecDepth 20000 in
set_option maxHeartbeats 1000000 in
theorem stands_any (lo hi lo' hi' : Nat) (a b : Option Addr) (c d : Nat) (B : List UInt8) (w : World) (hx : Row lo hi w (.slice a (B.length + 1) c) (B.length + 1) (bv (B ++ [171]))) (hy : Row lo' hi' w (.slice b B.length d) B.length (bv B)) (hB : B.length ≤ 1000000) :
    Calls Try.prog 22 #[.slice a (B.length + 1) c, .slice b B.length d] w fun e w' => e = .returned (.bool true) ∧ Below w.heap.size w w' := by
  have hc : B.length + 1 ≤ c := by obtain ⟨_, c', e, h, _⟩ := hx; cases e; exact h
  have hr : Row lo hi w (.slice a B.length c) B.length (bv B) := by
    have := row_pre hx (show B.length ≤ B.length + 1 by omega)
    rw [bv_append, List.take_left' (bv_length B)] at this
    exact this
  have HS := hide (same_any lo hi lo' hi' a b B.length B.length c d B B w hr hy rfl rfl (by omega) (by omega))
  obtain ⟨g, o, rfl, h1, h2, hcell⟩ := hx.at (by omega)
  have hce : w.cell? ⟨g, o + B.length, none⟩ = some (.int .u8 171) := hcell B.length _ (by rw [bv_append, List.getElem?_append_right (by rw [bv_length]; exact Nat.le_refl _), bv_length, Nat.sub_self]; rfl)
  rw [decide_eq_true rfl] at HS
  have hcc : (B.length : Int) ≤ (c : Int) := by omega
  clear hx hy hr hcell h1 h2 hc
  generalize B.length = N at *
  have hnc : N ≤ c := by omega
  clear hcc
  go_enter Try.func22, Try.ntmps22
  go_wp2_with fail
  refine (unhide HS).mono ?_
  rintro e w' ⟨⟨k, rfl⟩, rfl⟩
  go_wp2_with fail
  go_ret
  exact ⟨rfl, below_drewN (Below.refl w.heap.size w) k⟩
end Go.Proofs.Ytikamklgelcnhaa
