import Derived.Test.YtebcmicmklpflaaGreatDoorK7
import Derived.RangeFuncNested
import Derived.RangeFuncBound
import Derived.RangeFuncCalls
import Derived.RangeFuncLeaves
import Derived.Shelf.Abstract
import Derived.Shelf.RegionOpen
import Derived.WalkKit
import Derived.TacticsInMore
import Derived.LoopIn
import Derived.LoopNIn
import Derived.OwnWalkIn
/- number, weight. -/
namespace Go.Proofs.YtebcmicmklpflaaGreatDoor
open Go.RowKit Go.Maps
set_option linter.unusedSimpArgs false
theorem byteVals_num (n : Nat) (hn : n < 16777216) : (byteVals (num n)).toArray = #[Value.int .u8 ((n : Int) / 65536), .int .u8 ((n : Int) / 256 % 256), .int .u8 ((n : Int) % 256)] := by
  have h1 : ((n / 65536 % 256 : Nat) : Int) = (n : Int) / 65536 := by omega
  have h2 : ((n / 256 % 256 : Nat) : Int) = (n : Int) / 256 % 256 := by omega
  have h3 : ((n % 256 : Nat) : Int) = (n : Int) % 256 := by omega
  simp only [byteVals, num, List.map_cons, List.map_nil, UInt8.toNat_ofNat']
  rw [show 2 ^ 8 = 256 from rfl, h1, h2, h3]
set_option maxRecDepth 20000 in
theorem number_ok (n : Nat) (hn : n < 16777216) (w : World) : Calls Tryz.prog 148 #[.int .i64 (n : Int)] w fun e w' => e = .returned (.slice (some ⟨w.heap.size, 0, none⟩) 3 3) ∧ w' = w.alloc (.cells (byteVals (num n)).toArray 5) := by
  rw [byteVals_num n hn]
  go_enter Tryz.func148, Tryz.ntmps148
  go_wp2_with fail
  go_ret
  exact ⟨rfl, rfl⟩
theorem Recs.shape {w : World} {O : Nat → Prop} {v : Value} {ds : List (List UInt8)} (h : Recs w O v ds) : ∃ a c, v = .slice a ds.length c := by
  obtain ⟨vals, h1, _⟩ := h
  rcases h1.2 with ⟨rfl, e⟩ | ⟨g, cap, cur, rfl, _⟩
  · exact ⟨none, 0, by rw [e]⟩
  · exact ⟨_, _, rfl⟩
theorem Recs.cell {w : World} {O : Nat → Prop} {a : Option Addr} {n c : Nat} {ds : List (List UInt8)} (h : Recs w O (.slice a n c) ds) (i : Nat) (hi : i < ds.length) : ∃ g x y, a = some ⟨g, 0, none⟩ ∧ O g ∧ w.cell? ⟨g, i, none⟩ = some (.slice x ds[i].length y) ∧ Rec w O (.slice x ds[i].length y) ds[i] := by
  obtain ⟨vals, h1, h2, h3⟩ := h
  have hl : vals.length = ds.length := by rw [h1.1, Nat.mul_one]
  rcases h1.2 with ⟨_, e⟩ | ⟨g, cap, cur, e, _, hg, hn, hm, hs, ht⟩
  · omega
  · injection e with e1 e2 e3
    have hR := h3 i vals[i] ds[i] (List.getElem?_eq_getElem (by omega)) (List.getElem?_eq_getElem hi)
    obtain ⟨x, y, ex, _⟩ := id hR
    refine ⟨g, x, y, e1, h2 g (by rw [e1]; rfl), ?_, by rw [← ex]; exact hR⟩
    rw [← ex]
    have hc : cur.toList[i]? = some vals[i] := by
      have : (cur.toList.take (ds.length * 1))[i]? = some vals[i] := by rw [ht]; exact List.getElem?_eq_getElem (by omega)
      rwa [List.getElem?_take_of_lt (by omega)] at this
    simp only [World.cell?, hg]
    rw [← Array.getElem?_toList]
    exact hc
theorem wt_take_succ (ds : List (List UInt8)) (i : Nat) (hi : i < ds.length) : wt (ds.take (i + 1)) = wt (ds.take i) + ds[i].length := by
  rw [List.take_succ_eq_append_getElem hi, wt_append]; simp [wt]
theorem wt_take_le (ds : List (List UInt8)) (i : Nat) : wt (ds.take i) ≤ wt ds := by
  have := wt_append (ds.take i) (ds.drop i)
  rw [List.take_append_drop] at this
  omega
set_option maxRecDepth 20000 in
set_option maxHeartbeats 1000000 in
theorem weight_ok (q : Nat) (O : Nat → Prop) (rv : Value) (ds : List (List UInt8)) (w : World) (hc : w.cell? ⟨q, 1, none⟩ = some rv) (h : Recs w O rv ds) (hl : ds.length ≤ 100000) (hw : wt ds ≤ 100000000) :
    Calls Tryz.prog 100 #[.pointer (some ⟨q, 0, none⟩)] w fun e w' => e = .returned (.int .i64 (wt ds : Int)) ∧ w' = w := by
  obtain ⟨a, c, rfl⟩ := h.shape
  have HC : Hid (∀ i (hi : i < ds.length), ∃ g x y, a = some ⟨g, 0, none⟩ ∧ w.cell? ⟨g, i, none⟩ = some (.slice x ds[i].length y) ∧ ds[i].length ≤ 100000000) := fun i hi => by
    obtain ⟨g, x, y, h1, _, h2, _⟩ := h.cell i hi
    exact ⟨g, x, y, h1, h2, Nat.le_trans (wt_mem (List.getElem_mem hi)) hw⟩
  have HW := hide hw
  clear h hw
  obtain ⟨N, hN⟩ : ∃ N, N = ds.length := ⟨_, rfl⟩
  have HN := hide hN
  rw [← hN] at hc hl
  clear hN
  have hl2 : (N : Int) ≤ 100000 := by omega
  go_enter Tryz.func100, Tryz.ntmps100
  go_wp2_with fail
  go_loop [11, 3] (fun i s => ∃ k : Nat, k ≤ N ∧ i = .int .i64 k ∧ s = .int .i64 ((wt (ds.take k) : Nat) : Int)) (fun i _ => N - (intOf i).toNat)
  case atStart => exact ⟨0, Nat.zero_le _, rfl, rfl⟩
  case round =>
    obtain ⟨k, hk, rfl, rfl⟩ := hrel
    by_cases hlt : k < N
    · have hk' : k < ds.length := by rw [← unhide HN]; exact hlt
      obtain ⟨g, x, y, rfl, hcell, hb⟩ := unhide HC k hk'
      have hle := wt_take_le ds k
      have hs := wt_take_succ ds k hk'
      have hW := unhide HW
      obtain ⟨A, hA⟩ : ∃ A, A = wt (ds.take k) := ⟨_, rfl⟩
      obtain ⟨B, hB⟩ : ∃ B, B = ds[k].length := ⟨_, rfl⟩
      rw [← hA] at hle hs
      rw [← hB] at hcell hb hs
      rw [← hA]
      have HS := hide hs
      have hAB : (A : Int) + B ≤ 200000000 := by omega
      clear hs hA hB hle hW
      go_wp2_with fail
      go_round
      case rel => exact ⟨k + 1, by omega, by go_num, by rw [unhide HS]; go_num⟩
      case measure => simp [intOf]; omega
    · obtain rfl : k = N := by omega
      go_wp2_with fail
      go_ret
      refine ⟨?_, rfl⟩
      rw [unhide HN, List.take_length]
      rfl
end Go.Proofs.YtebcmicmklpflaaGreatDoor
/- The pieces of a group: the iterator. -/
namespace Go.Proofs.YtebcmicmklpflaaGreatDoor
open Go.RowKit Go.Shelf Go.Great
attribute [local go_sem] Oper.semAt_some
set_option linter.unusedSimpArgs false
set_option maxRecDepth 20000 in
theorem pieces_any (q : Nat) (w : World) : Calls Tryz.prog 106 #[.pointer (some ⟨q, 0, none⟩)] w fun e w' => e = .returned (.func (.func 147) #[] #[.pointer (some ⟨w.heap.size, 0, none⟩)]) ∧ w' = w.alloc (.cells #[.pointer (some ⟨q, 0, none⟩)] 104) := by
  go_enter Tryz.func106, Tryz.ntmps106
  go_wp2
  go_ret
  exact ⟨rfl, rfl⟩
set_option maxRecDepth 20000 in
set_option maxHeartbeats 2000000 in
theorem pieces_in (n l pb q : Nat) (O : Nat → Prop) (rv : Value) (ds : List (List UInt8)) (J : List UInt8 → World → Prop) (hl : ds.length ≤ 100000) (hwt : wt ds ≤ 10000000)
    (Wb : World) (hRb : Recs Wb O rv ds) (hBx : ∀ pre W, J pre W → W.cell? ⟨pb, 0, none⟩ = some (.pointer (some ⟨q, 0, none⟩)) ∧ W.cell? ⟨q, 1, none⟩ = some rv ∧ ∀ b, O b → W.heap[b]? = Wb.heap[b]?)
    (hup : ∀ pre W W', J pre W → Below W.heap.size W W' → J pre W')
    (W : World) (h0 : J [] W)
    (hY : ∀ pre d v w', (∃ rest, pcs ds = pre ++ d ++ rest) → Rec w' (fun _ => True) v d → J pre w' → W.heap.size ≤ w'.heap.size → YieldAt Fence.wide (n - 1) Tryz.prog l #[v] w' fun e w'' =>
      e = .returned (.bool true) ∧ J (pre ++ d) w'' ∧ w'.heap.size ≤ w''.heap.size) :
    CallsIn Fence.wide n Tryz.prog 147 #[.func (.yield l) #[] #[], .pointer (some ⟨pb, 0, none⟩)] W fun e W' => (∃ v, e = .returned v) ∧ J (pcs ds) W' := by
  refine callsIn_of_wp Tryz.func147 rfl trivial ?_ rfl
  simp only [Tryz.ntmps147, List.size_toArray, List.length_cons, List.length_nil, Nat.reduceAdd, Nat.reduceSub, Array.replicate_succ, Array.replicate_zero, List.push_toArray, List.append_toArray, List.nil_append, List.cons_append]
  obtain ⟨c1, c2, _⟩ := hBx [] W h0
  obtain ⟨a, c, rfl⟩ := hRb.shape
  have hrowN : ∀ (k : Nat) (W1 : World), Rec (W1.alloc (.cells (byteVals (num k)).toArray 5)) (fun _ => True) (.slice (some ⟨W1.heap.size, 0, none⟩) 3 3) (num k) := fun k W1 =>
    ⟨_, 3, rfl, Nat.le_refl _, by simp [maxLen], fun _ => ⟨W1.heap.size, (byteVals (num k)).toArray, rfl, trivial, heap_alloc_new W1 _, by simp⟩⟩
  have hbel : ∀ (k : Nat) (W1 : World), Below W1.heap.size W1 (W1.alloc (.cells (byteVals (num k)).toArray 5)) := fun k W1 => (Below.refl _ _).alloc (Nat.le_refl _) _
  have HNu : Hid (∀ (k : Nat) (W1 : World), k < 16777216 → Calls Tryz.prog 148 #[.int .i64 (k : Int)] W1 fun e w' => e = .returned (.slice (some ⟨W1.heap.size, 0, none⟩) 3 3) ∧ w' = W1.alloc (.cells (byteVals (num k)).toArray 5)) := fun k W1 hk => number_ok k hk W1
  have HRN := hide hrowN
  have HBel := hide hbel
  have HBx := hide hBx
  have HRb := hide hRb
  have HY := hide hY
  have HUP := hide hup
  have HWt := hide hwt
  obtain ⟨N, hN⟩ : ∃ N, N = ds.length := ⟨_, rfl⟩
  have HN := hide hN
  rw [← hN] at c2 hl
  clear hrowN hbel hBx hY hup hwt hRb hN
  gi_wp2_with fail
  refine ⟨trivial, fun h => by simp [Fence.wide] at h, ?_⟩
  refine (callsIn_wide.2 (unhide HNu N W (by omega))).mono ?_
  rintro e w1 ⟨rfl, rfl⟩
  obtain ⟨w1, hw1⟩ : ∃ w1, w1 = W.alloc (.cells (byteVals (num N)).toArray 5) := ⟨_, rfl⟩
  have hJ1 : J [] w1 := by rw [hw1]; exact unhide HUP _ _ _ h0 (unhide HBel N W)
  have hr1 := unhide HRN N W
  have hs1 : W.heap.size ≤ w1.heap.size := by rw [hw1]; simp
  rw [← hw1] at hr1 ⊢
  clear hw1
  obtain ⟨fn, tmps, assign, body, hy, hR⟩ := unhide HY [] (num N) _ w1 ⟨recB ds, by rw [unhide HN]; rfl⟩ hr1 hJ1 hs1
  have HR := hide hR
  clear hR hr1
  gi_wp2_with fail
  refine ⟨fun h => by simp [Fence.wide] at h, (unhide HR).mono ?_⟩
  rintro e w2 ⟨rfl, hJ2, hz2⟩
  rw [List.nil_append] at hJ2
  have hz2' : W.heap.size ≤ w2.heap.size := by omega
  obtain ⟨d1, d2, hR2⟩ := unhide HBx _ _ hJ2
  rw [← unhide HN] at d2
  clear HR hy hJ1 hR2 hz2 hs1
  gi_wp2_with fail
  have hl2 : (N : Int) ≤ 100000 := by omega
  gi_loopw [19] (fun vi wr => ∃ k : Nat, k ≤ N ∧ vi = .int .i64 (k : Int) ∧ J (num N ++ recB (ds.take k)) wr ∧ W.heap.size ≤ wr.heap.size) (fun vi _ => N - (intOf vi).toNat)
  case atStart => exact ⟨0, Nat.zero_le _, rfl, by simpa [recB] using hJ2, hz2'⟩
  case round =>
    clear hJ2 hz2' d1 d2
    obtain ⟨k, hk, rfl, hJ, hz⟩ := hrel
    obtain ⟨d1, d2, hEq⟩ := unhide HBx _ _ hJ
    rw [← unhide HN] at d2
    by_cases hlt : k < N
    · have hk' : k < ds.length := by rw [← unhide HN]; exact hlt
      obtain ⟨g, x, y, ea, hog, hcell0, hrec⟩ := (unhide HRb).cell k hk'
      have hcell : wr.cell? ⟨g, k, none⟩ = some (.slice x ds[k].length y) := by rw [World.cell?_of_block (w := Wb) (a := ⟨g, k, none⟩) (hEq g hog)]; exact hcell0
      have hB : ds[k].length ≤ 10000000 := Nat.le_trans (wt_mem (List.getElem_mem hk')) (unhide HWt)
      obtain ⟨B, eB⟩ : ∃ B, B = ds[k].length := ⟨_, rfl⟩
      have HB := hide eB
      have HRec := hide hrec
      rw [← eB] at hB
      rw [← eB] at hcell
      subst ea
      clear eB hrec hcell0 hog hEq
      have hJw := unhide HUP _ _ _ hJ (unhide HBel B wr)
      have hr1 := unhide HRN B wr
      obtain ⟨w1, hw1⟩ : ∃ w1, w1 = wr.alloc (.cells (byteVals (num B)).toArray 5) := ⟨_, rfl⟩
      have hs1 : W.heap.size ≤ w1.heap.size := by rw [hw1]; simp; omega
      have HPc : Hid (pcs ds = (num N ++ recB (ds.take k)) ++ num B ++ (ds[k] ++ recB (ds.drop (k + 1)))) := by
        show pcs ds = _
        unfold pcs
        rw [← unhide HN, unhide HB]
        conv => lhs; rw [← List.take_append_drop k ds, recB_append, List.drop_eq_getElem_cons hk']
        simp only [recB, List.append_assoc]
      rw [← hw1] at hJw hr1
      obtain ⟨fn, tmps, assign, body, hy, hRo⟩ := unhide HY _ (num B) _ w1 ⟨_, unhide HPc⟩ hr1 hJw hs1
      have HR1 := hide hRo
      have HW1 := hide hw1
      clear hRo hr1 hw1
      gi_wp2_with fail
      refine ⟨trivial, fun h => by simp [Fence.wide] at h, ?_⟩
      refine (callsIn_wide.2 (unhide HNu B wr (by omega))).mono ?_
      rintro e w1' ⟨rfl, rfl⟩
      rw [← unhide HW1]
      gi_wp2_with fail
      refine ⟨fun h => by simp [Fence.wide] at h, (unhide HR1).mono ?_⟩
      rintro e w2 ⟨rfl, hJ2, hz2⟩
      have hs2 : W.heap.size ≤ w2.heap.size := by omega
      obtain ⟨_, _, hEq2⟩ := unhide HBx _ _ hJ2
      have hrow2 : Rec w2 (fun _ => True) (.slice x ds[k].length y) ds[k] := (unhide HRec).kept (fun _ _ => trivial) hEq2
      have HPc2 : Hid (pcs ds = (num N ++ recB (ds.take k) ++ num B) ++ ds[k] ++ recB (ds.drop (k + 1))) := by
        show pcs ds = _
        rw [unhide HPc]; simp only [List.append_assoc]
      obtain ⟨fn2, tmps2, assign2, body2, hy2, hRo2⟩ := unhide HY _ ds[k] _ w2 ⟨_, unhide HPc2⟩ hrow2 hJ2 hs2
      have HR2 := hide hRo2
      rw [← unhide HB] at hy2
      clear hRo2 hrow2 hy HR1 hEq2 hJw hs1
      gi_wp2_with fail
      refine ⟨fun h => by simp [Fence.wide] at h, (unhide HR2).mono ?_⟩
      rintro e w3 ⟨rfl, hJ3, hz3⟩
      have hs3 : W.heap.size ≤ w3.heap.size := by omega
      have hJ4 : J (num N ++ recB (ds.take (k + 1))) w3 := by
        rw [List.take_succ_eq_append_getElem hk', recB_append]
        simp only [recB, List.append_nil, ← unhide HB]
        simpa only [List.append_assoc] using hJ3
      clear hJ3 hy2 HR2 hJ2
      gi_wp2_with fail
      exact ⟨⟨k + 1, by omega, by first | rfl | (congr 1; omega), hJ4, hs3⟩, by simp [intOf]; omega⟩
    · obtain rfl : k = N := by omega
      gi_wp2_with fail
      rw [unhide HN, List.take_length] at hJ
      exact bodyPost_end (v := .tuple #[]) (by simp [results, Tryz.results147]) rfl ⟨⟨_, rfl⟩, hJ⟩
end Go.Proofs.YtebcmicmklpflaaGreatDoor
/- A loop over the pieces of a group, whatever its round does: its law. -/
namespace Go.Proofs.YtebcmicmklpflaaGreatDoor
open Go.RowKit Go.Shelf Go.Great
attribute [local go_sem] Oper.semAt_some
set_option linter.unusedSimpArgs false
set_option maxRecDepth 20000 in
theorem range_pieces {assign body : Code} {Q : Exit → Act → World → Prop} {b : Act} {W0 : World} {pb q : Nat} {O : Nat → Prop} {rv : Value} {ds : List (List UInt8)} {g : Operand} {p : Tmp} (a1 : Value → Act) (J : List UInt8 → World → Prop) (hl : ds.length ≤ 100000) (hwt : wt ds ≤ 10000000)
    (hg : b.eval g = .func (.func 147) #[] #[.pointer (some ⟨pb, 0, none⟩)])
    (Wb : World) (hRb : Recs Wb O rv ds) (hBx : ∀ pre W, J pre W → W.cell? ⟨pb, 0, none⟩ = some (.pointer (some ⟨q, 0, none⟩)) ∧ W.cell? ⟨q, 1, none⟩ = some rv ∧ ∀ b, O b → W.heap[b]? = Wb.heap[b]?)
    (hup : ∀ pre W W', J pre W → Below W.heap.size W W' → J pre W') (hput : ∀ pre W r, J pre W → W0.heap.size + 1 < W.heap.size → J pre (W.putObj (W0.heap.size + 1) (.loop r))) (h0 : J [] W0)
    (hassign : ∀ (l : Nat) (v : Value) (W : World) (K : Act → World → Prop), K (a1 v) W → assign.wpIn (Fence.wide.inRound l) 1 Tryz.prog (Exit.then K (fun _ _ _ => False)) { tmps := (#[p].zip #[v]).foldl (fun t (p, v) => t.setIfInBounds p v) b.tmps, defers := [] } W)
    (hbody : ∀ (l : Nat) (v : Value) (d pre : List UInt8) (W : World) (R : Exit → Act → World → Prop), (∃ rest, pcs ds = pre ++ d ++ rest) → Rec W (fun _ => True) v d → J pre W → W0.heap.size + 1 < W.heap.size → (∀ k, k < W0.heap.size + 2 → W0.heap.size ≤ k → ∀ cs t z, W.heap[k]? ≠ some (.cells cs t z)) → (∀ a' W', J (pre ++ d) W' → W.heap.size ≤ W'.heap.size → (∀ k, W0.heap.size ≤ k → k < W0.heap.size + 2 → W'.heap[k]? = W.heap[k]?) → R .normal a' W') → body.wpIn (Fence.wide.inRound l) 1 Tryz.prog R (a1 v) W)
    (hdone : ∀ (W : World), J (pcs ds) W → W.heap[W0.heap.size]? = some (.deferred (some [])) → W0.heap.size + 1 < W.heap.size → Q .normal { b with defers := { target := .collected W0.heap.size, args := #[] } :: b.defers } W) :
    (Code.rangeFunc g #[p] assign body).wpIn Fence.wide 3 Tryz.prog Q b W0 := by
  refine wpIn_rangeFunc ?_
  intro fn hfn
  obtain ⟨rc, hrc⟩ : ∃ rc : LoopState → Option Code → Loop, rc = fun st pe => { state := st, pending := pe, fn, tmps := b.tmps, params := #[p], assign, body, defers := W0.heap.size } := ⟨_, rfl⟩
  obtain ⟨W1, hW1⟩ : ∃ W1, (W0.alloc (.deferred (some []))).alloc (.loop (rc .ready none)) = W1 := ⟨_, rfl⟩
  have hb1 : Below W0.heap.size W0 W1 := by rw [← hW1]; exact ((Below.refl _ _).alloc (Nat.le_refl _) _).alloc (by simp) _
  have hsz1 : W1.heap.size = W0.heap.size + 1 + 1 := by rw [← hW1]; simp
  have hd1 : W1.heap[W0.heap.size]? = some (.deferred (some [])) := by rw [← hW1]; exact (Below.heap_alloc _ _ _ (by simp)).trans (World.alloc_heap_new W0 _)
  have hl1 : W1.heap[W0.heap.size + 1]? = some (.loop (rc .ready none)) := by rw [← hW1]; have := World.alloc_heap_new (W0.alloc (.deferred (some []))) (.loop (rc .ready none)); rwa [World.size_alloc] at this
  refine ⟨W0.heap.size + 1, [{ target := .collected W0.heap.size, args := #[] }], W1, { target := .fn (.func 147) #[.pointer (some ⟨pb, 0, none⟩)], args := #[.func (.yield (W0.heap.size + 1)) #[] #[]] }, W1, 147, #[.func (.yield (W0.heap.size + 1)) #[] #[]] ++ #[.pointer (some ⟨pb, 0, none⟩)], W1, ?_, ?_, fun _ _ => trivial, ?_, fun _ => by omega, ?_⟩
  · rw [← hW1, hrc]; exact run_enterLoop_outer _ _ _ _ _
  · simp only [resolve, hg]
    simp [go_sem]
  · simp [invoke, go_sem]
  refine CallsIn.mono (pieces_in 2 (W0.heap.size + 1) pb q O rv ds
    (fun pre W => J pre W ∧ W.heap[W0.heap.size]? = some (.deferred (some [])) ∧ W.heap[W0.heap.size + 1]? = some (.loop (rc .ready none))) hl hwt Wb hRb ?_ ?_ W1 ⟨hup _ _ _ h0 hb1, hd1, hl1⟩ ?_) ?_
  · rintro pre W ⟨h, _⟩
    exact hBx pre W h
  · rintro pre W W' ⟨h1, h2, h3⟩ hb
    exact ⟨hup _ _ _ h1 hb, by rw [hb.block _ (Array.getElem?_eq_some_iff.1 h2).1]; exact h2, by rw [hb.block _ (Array.getElem?_eq_some_iff.1 h3).1]; exact h3⟩
  · rintro pre d v W hpre hrow ⟨h1, h2, h3⟩ hszW
    have hlt := (Array.getElem?_eq_some_iff.1 h3).1
    have hy := run_yield (P := Tryz.prog) (args := #[v]) h3 (by rw [hrc]; rfl)
    rw [hrc] at hy
    refine ⟨fn, _, assign, body, hy, roundIn_of_wpIn hfn (hassign _ v W _ ⟨_, run_beginRound h3 (by rw [hrc]), ?_⟩)⟩
    have hputs : ∀ (V : World) r', (V.putObj (W0.heap.size + 1) (.loop r')).heap.size = V.heap.size := fun V r' => by simp [World.putObj]
    have hJ := hput pre W { rc .ready none with state := .busy } h1 hlt
    have hrow' : Rec (W.putObj (W0.heap.size + 1) (.loop { rc .ready none with state := .busy })) (fun _ => True) v d := by
      obtain ⟨a', c', e', h1', h2', h3'⟩ := hrow
      refine ⟨a', c', e', h1', h2', fun h0 => ?_⟩
      obtain ⟨g', cur, ea, ht, hg', hp'⟩ := h3' h0
      have hne : g' ≠ W0.heap.size + 1 := by
        rintro rfl
        rw [h3] at hg'
        cases hg'
      exact ⟨g', cur, ea, ht, by rw [World.putObj_heap_other hne]; exact hg', hp'⟩
    refine hbody _ v d pre _ _ hpre hrow' hJ (by rw [hputs]; exact hlt) (fun k hk1 hk2 cs t z => ?_) (fun a' W' h4 hsz4 hk4 => ?_)
    · rcases (show k = W0.heap.size ∨ k = W0.heap.size + 1 by omega) with rfl | rfl
      · rw [World.putObj_heap_other (by omega), h2]; simp
      · rw [World.putObj_heap_same hlt]; simp
    rw [hputs] at hsz4
    have hlt' : W0.heap.size + 1 < W'.heap.size := by omega
    have hl4 : W'.heap[W0.heap.size + 1]? = some (.loop { rc .ready none with state := .busy }) := by rw [hk4 _ (by omega) (by omega)]; exact World.putObj_heap_same hlt
    refine ⟨_, _, run_endRound none hl4, rfl, ⟨?_, ?_, ?_⟩, ?_⟩
    · exact hput _ _ _ h4 hlt'
    · rw [World.putObj_heap_other (by omega), hk4 _ (Nat.le_refl _) (by omega), World.putObj_heap_other (by omega)]; exact h2
    · have := World.putObj_heap_same (w := W') (o := .loop (rc .ready none)) hlt'
      rw [hrc] at this ⊢; exact this
    · rw [hputs]; exact hsz4
  · rintro e W2 ⟨⟨v, rfl⟩, h1, h2, h3⟩
    have hlt := (Array.getElem?_eq_some_iff.1 h3).1
    exact ⟨none, _, by have := run_endLoop (P := Tryz.prog) h3 (by rw [hrc]; simp); rw [hrc] at this; exact this, hdone _ (hput _ _ _ h1 hlt) (by rw [World.putObj_heap_other (by omega)]; exact h2) (by simpa [World.putObj] using hlt)⟩
end Go.Proofs.YtebcmicmklpflaaGreatDoor
/- A group's block; the digest that is told; the Once of a group. -/
namespace Go.Proofs.YtebcmicmklpflaaGreatDoor
open Go.RowKit Go.Maps
set_option linter.unusedSimpArgs false
section
variable {w : World} {q : Nat} {ah : Option Nat} {rv : Value} {dn lk : Int} {dg : List Nat}
theorem grp_cells (h : w.heap[q]? = some (grpBlk ah rv dn lk dg)) : w.cell? ⟨q, 0, none⟩ = some (.pointer (ah.map fun q => ⟨q, 0, none⟩)) ∧ w.cell? ⟨q, 1, none⟩ = some rv ∧ w.cell? ⟨q, 2, none⟩ = some (.int .u32 dn) ∧ w.cell? ⟨q, 3, none⟩ = some (.int .i32 lk) ∧ ∀ j, w.frozen? ⟨q, j, none⟩ = false := by
  unfold grpBlk grpCells at h
  refine ⟨?_, ?_, ?_, ?_, fun j => ?_⟩
  all_goals first | (simp [World.cell?, h]; done) | (simp [World.frozen?, h]; done)
theorem grp_ld (h : w.heap[q]? = some (grpBlk ah rv dn lk dg)) (hl : dg.length = 32) : (Dg.ld113 (.pointer (some ⟨q, 5, none⟩))).run Tryz.prog w = .ok (.agg (Dg.E8 dg)) w := by
  unfold grpBlk grpCells at h
  have : (loadCells ⟨q, 5, none⟩ 32).run Tryz.prog w = .ok (dg.map Dg.B8).toArray w := by
    have e : 32 = (dg.map Dg.B8).length := by rw [List.length_map, hl]
    rw [e]
    refine run_loadCells_list (P := Tryz.prog) (w := w) ⟨q, 5, none⟩ (dg.map Dg.B8) (fun j v hj => ?_)
    rw [Addr.add_mid, cell_of_row w q (5 + j) _ 115 _ h, List.getElem?_toArray, List.getElem?_append_right (by simp)]
    rw [show 5 + j - [Value.pointer (ah.map fun q => ⟨q, 0, none⟩), rv, .int .u32 dn, .int .i32 lk, .int .u32 0].length = j by simp]
    exact hj
  unfold Dg.ld113
  simp only [Instr.loadAt, Instr.sureAddr, Sem.run_bind, Sem.run_pure, Result.andThen]
  exact Dg.loadVar_of w 113 32 _ _ _ Tryz.underlying113 rfl (zero_of_info Dg.Z113_info).2 this
theorem grp_st (h : w.heap[q]? = some (grpBlk ah rv dn lk dg)) (hl : dg.length = 32) (dg' : List Nat) (hl' : dg'.length = 32) : (Dg.st113 (.pointer (some ⟨q, 5, none⟩)) (.agg (Dg.E8 dg'))).run Tryz.prog w = .ok () (w.setRow q (grpCells ah rv dn lk dg').toArray) := by
  unfold grpBlk grpCells at h
  have := run_storeCells_at (P := Tryz.prog) q 5 115 (dg'.map Dg.B8) 0 _ w h (by simp; omega) (Dg.b8_one _)
  unfold Dg.st113
  simp only [Instr.storeAt, Instr.sureAddr, Sem.run_bind, Sem.run_pure, Result.andThen]
  refine Dg.storeVar_of w _ 113 32 _ (Dg.E8 dg') (zero_of_info Dg.Z113_info).2 (by simp [hl']) ?_
  have e : (Dg.E8 dg').toList = dg'.map Dg.B8 := by simp [Dg.E8]
  rw [e]
  refine this.trans ?_
  congr 3
  unfold grpCells
  simp only [Nat.add_zero, List.toList_toArray]
  rw [List.take_left' (by simp), List.drop_of_length_le (by simp; omega), List.append_nil]
theorem grp_set (h : w.heap[q]? = some (grpBlk ah rv dn lk dg)) (dg' : List Nat) : (w.setRow q (grpCells ah rv dn lk dg').toArray).heap[q]? = some (grpBlk ah rv dn lk dg') := by
  unfold grpBlk at h ⊢
  exact setRow_heap w q _ _ 115 _ h
theorem grp_dn (h : w.heap[q]? = some (grpBlk ah rv dn lk dg)) (x : Int) : (w.setCell ⟨q, 2, none⟩ (.int .u32 x)).heap[q]? = some (grpBlk ah rv x lk dg) := by
  unfold grpBlk grpCells at *
  simp [World.setCell, Array.getElem?_modify, h]
theorem grp_lk (h : w.heap[q]? = some (grpBlk ah rv dn lk dg)) (x : Int) : (w.setCell ⟨q, 3, none⟩ (.int .i32 x)).heap[q]? = some (grpBlk ah rv dn x dg) := by
  unfold grpBlk grpCells at *
  simp [World.setCell, Array.getElem?_modify, h]
end
theorem z113 : Dg.Z113 = Dg.E8 (nats z32) := rfl
set_option maxRecDepth 20000 in
theorem digest_nil (w : World) : Calls Tryz.prog 107 #[.pointer none] w fun e w' => e = .returned (.agg (Dg.E8 (nats z32))) ∧ Below w.heap.size w w' := by
  have hb : Below w.heap.size w ((w.alloc (.cells #[.pointer none] 104)).alloc (.cells Dg.Z113 113)) := ((Below.refl _ _).alloc (Nat.le_refl _) _).alloc (by simp) _
  have hr : Dg.rowOf ((w.alloc (.cells #[.pointer none] 104)).alloc (.cells Dg.Z113 113)) (w.heap.size + 1) = Dg.Z113 := by simp [go_sem]
  have hst := Dg.run_st113 _ _ Dg.Z113 (show Dg.fits ((w.alloc (.cells #[.pointer none] 104)).alloc (.cells Dg.Z113 113)) (w.heap.size + 1) 32 = true by simp [go_sem]) Dg.Z113_size (Dg.E8_all _)
  rw [← z113]
  go_enter Tryz.func107, Tryz.ntmps107
  go_wp2_with fail
  exact bodyPost_ret (Dg.res113 Tryz.results107 rfl hr Dg.Z113_size) rfl ⟨rfl, hb⟩
set_option maxRecDepth 20000 in
theorem do_told (q : Nat) (fv : Value) (w : World) (h0 : w.cell? ⟨q, 2, none⟩ = some (.int .u32 1)) :
    Calls Tryz.prog 149 #[.pointer (some ⟨q, 2, none⟩), fv] w fun e w' => e = .returned (.tuple #[]) ∧ w' = w := by
  have hl := run_call_load (P := Tryz.prog) Tryz.func143 (by kernel_rfl) (by kernel_rfl) (by kernel_rfl) .u32 (by kernel_rfl) h0
  have hnot : ∀ (x : Bool) (w : World), (Op.unary .not (.bool x)).run Tryz.prog w = .ok (.bool (!x)) w := fun _ _ => rfl
  go_enter Tryz.func149, Tryz.ntmps149
  go_wp2
  go_end0
  exact ⟨rfl, rfl⟩
set_option maxRecDepth 20000 in
theorem digest_told (q : Nat) (ah : Option Nat) (rv : Value) (dg : List Nat) (w : World) (h : w.heap[q]? = some (grpBlk ah rv 1 0 dg)) (hl : dg.length = 32) : Calls Tryz.prog 107 #[.pointer (some ⟨q, 0, none⟩)] w fun e w' => e = .returned (.agg (Dg.E8 dg)) ∧ Below w.heap.size w w' := by
  have hmf : ∀ (fn : Fn) (first cap : Array Value) (w : World), (Instr.makeFunc fn first cap).run Tryz.prog w = .ok (.func fn first cap) w := fun _ _ _ _ => rfl
  have hq : q < w.heap.size := (Array.getElem?_eq_some_iff.1 h).1
  obtain ⟨WA, hWA⟩ : ∃ WA, WA = (w.alloc (.cells #[.pointer (some ⟨q, 0, none⟩)] 104)).alloc (.cells Dg.Z113 113) := ⟨_, rfl⟩
  have hbA : Below w.heap.size w WA := by rw [hWA]; exact ((Below.refl _ _).alloc (Nat.le_refl _) _).alloc (by simp) _
  have hA : WA.heap[q]? = some (grpBlk ah rv 1 0 dg) := (hbA.block q hq).trans h
  have HDO := hide (do_told q (.func (.func 150) #[] #[.pointer (some ⟨w.heap.size, 0, none⟩)]) WA (grp_cells hA).2.2.1)
  have hld := grp_ld hA hl
  have hpA : WA.cell? ⟨w.heap.size, 0, none⟩ = some (.pointer (some ⟨q, 0, none⟩)) := by rw [hWA]; simp [go_sem]
  have hfit : Dg.fits WA (w.heap.size + 1) 32 = true := by rw [hWA]; simp [go_sem]
  have hb : Below w.heap.size w (WA.setRow (w.heap.size + 1) (Dg.E8 dg)) := ⟨hbA.os, hbA.tape, hbA.output, by simpa [World.setRow] using hbA.size, fun k hk => (setRow_other _ _ _ _ (by omega)).trans (hbA.block k hk)⟩
  have HWA := hide hWA
  clear h hA hbA hWA
  go_enter Tryz.func107, Tryz.ntmps107
  go_wp2_with fail
  rw [← unhide HWA]
  refine (unhide HDO).mono ?_
  rintro e w1 ⟨rfl, rfl⟩
  go_wp2
  exact bodyPost_ret (Dg.results_at Tryz.results107 _ _ hfit rfl hl) rfl ⟨rfl, hb⟩
end Go.Proofs.YtebcmicmklpflaaGreatDoor
/- The Once of a group, the first time; the closure that makes the digest. -/
namespace Go.Proofs.YtebcmicmklpflaaGreatDoor
open Go.RowKit Go.Shelf Go.Great
attribute [local go_sem] Oper.semAt_some
set_option linter.unusedSimpArgs false
set_option maxRecDepth 20000 in
theorem once_slow (q : Nat) (cap : Value) (w : World) (P : World → Prop) (hlk : w.cell? ⟨q, 3, none⟩ = some (.int .i32 0)) (h0 : w.cell? ⟨q, 2, none⟩ = some (.int .u32 0)) (hfz : ∀ j, w.frozen? ⟨q, j, none⟩ = false)
    (hP : ∀ w2, P w2 → w2.cell? ⟨q, 2, none⟩ = some (.int .u32 0) ∧ w2.cell? ⟨q, 3, none⟩ = some (.int .i32 1) ∧ ∀ j, w2.frozen? ⟨q, j, none⟩ = false)
    (HC : Calls Tryz.prog 150 #[cap] (w.setCell ⟨q, 3, none⟩ (.int .i32 1)) fun e w2 => e = .returned (.tuple #[]) ∧ P w2) :
    Calls Tryz.prog 197 #[.pointer (some ⟨q, 2, none⟩), .func (.func 150) #[] #[cap]] w fun e w' => e = .returned (.tuple #[]) ∧ ∃ w2, P w2 ∧ w' = (w2.drew.setCell ⟨q, 2, none⟩ (.int .u32 1)).setCell ⟨q, 3, none⟩ (.int .i32 0) := by
  have HC := hide HC
  have HP := hide hP
  have hdn : (w.setCell ⟨q, 3, none⟩ (.int .i32 1)).cell? ⟨q, 2, none⟩ = some (.int .u32 0) := by rw [World.cell?_setCell_other _ ⟨q, 3, none⟩ ⟨q, 2, none⟩ _ (by simp)]; exact h0
  have hnot : ∀ (x : Bool) (w : World), (Op.unary .not (.bool x)).run Tryz.prog w = .ok (.bool (!x)) w := fun _ _ => rfl
  have HL := hide (Dg.lock_free ⟨q, 3, none⟩ w hlk (hfz 3))
  clear hP hfz h0 hlk
  go_enter_defers Tryz.func197, Tryz.ntmps197
  go_wp2_with fail
  refine (unhide HL).mono ?_
  rintro e w' ⟨rfl, hw'⟩; rw [hw']; clear hw' w'
  generalize w.setCell ⟨q, 3, none⟩ (.int .i32 1) = w1 at *
  go_wp2_with fail
  refine (Dg.bload_zero ⟨q, 2, none⟩ _ hdn).mono ?_
  rintro e w' ⟨rfl, hw'⟩; rw [hw']; clear hw' w'
  go_wp2_with fail
  refine (unhide HC).mono ?_
  rintro e w2 ⟨rfl, hw2⟩
  obtain ⟨g2, g3, gz⟩ := unhide HP w2 hw2
  have hl3 : (w2.drew.setCell ⟨q, 2, none⟩ (.int .u32 1)).cell? ⟨q, 3, none⟩ = some (.int .i32 1) := by rw [World.cell?_setCell_other _ ⟨q, 2, none⟩ ⟨q, 3, none⟩ _ (by simp)]; exact g3
  have hf3 : (w2.drew.setCell ⟨q, 2, none⟩ (.int .u32 1)).frozen? ⟨q, 3, none⟩ = false := by rw [World.frozen?_setCell]; exact gz 3
  have HE := hide hw2
  clear hw2 HC HP
  go_wp2
  refine leaves_cons (f := 108) (args := #[.pointer (some ⟨q, 2, none⟩), .bool true]) (by simp) (by simp [go_sem]) ?_
  refine (Dg.word_deferred ⟨q, 2, none⟩ _ .returning _ g2 (gz 2)).mono ?_
  rintro e u' w'' ⟨rfl, rfl, rfl⟩
  refine leaves_cons (f := 55) (args := #[.pointer (some ⟨q, 3, none⟩)]) (by simp [settle]) (by simp [go_sem]) ?_
  refine (Dg.unlock_deferred ⟨q, 3, none⟩ _ _ hl3 hf3).mono ?_
  rintro e u' w'' ⟨rfl, rfl, rfl⟩
  simp [Leaves, settle, results, Tryz.results197]
  exact ⟨w2, unhide HE, rfl⟩
set_option maxRecDepth 20000 in
theorem once_first (q : Nat) (cap : Value) (w : World) (P : World → Prop) (hlk : w.cell? ⟨q, 3, none⟩ = some (.int .i32 0)) (h0 : w.cell? ⟨q, 2, none⟩ = some (.int .u32 0)) (hfz : ∀ j, w.frozen? ⟨q, j, none⟩ = false)
    (hP : ∀ w2, P w2 → w2.cell? ⟨q, 2, none⟩ = some (.int .u32 0) ∧ w2.cell? ⟨q, 3, none⟩ = some (.int .i32 1) ∧ ∀ j, w2.frozen? ⟨q, j, none⟩ = false)
    (HC : Calls Tryz.prog 150 #[cap] (w.setCell ⟨q, 3, none⟩ (.int .i32 1)) fun e w2 => e = .returned (.tuple #[]) ∧ P w2) :
    Calls Tryz.prog 149 #[.pointer (some ⟨q, 2, none⟩), .func (.func 150) #[] #[cap]] w fun e w' => e = .returned (.tuple #[]) ∧ ∃ w2, P w2 ∧ w' = (w2.drew.setCell ⟨q, 2, none⟩ (.int .u32 1)).setCell ⟨q, 3, none⟩ (.int .i32 0) := by
  have hnot : ∀ (x : Bool) (w : World), (Op.unary .not (.bool x)).run Tryz.prog w = .ok (.bool (!x)) w := fun _ _ => rfl
  have HSL := hide (once_slow q cap w P hlk h0 hfz hP HC)
  clear HC hP hfz hlk
  go_enter Tryz.func149, Tryz.ntmps149
  go_wp2_with fail
  refine (Dg.bload_zero ⟨q, 2, none⟩ _ h0).mono ?_
  rintro e w' ⟨rfl, hw'⟩; rw [hw']; clear hw' w'
  go_wp2_with fail
  refine (unhide HSL).mono ?_
  rintro e w1 ⟨rfl, h1⟩
  have H1 := hide h1
  clear h1
  go_wp2
  go_end0
  exact ⟨rfl, unhide H1⟩
end Go.Proofs.YtebcmicmklpflaaGreatDoor
/- The closure that makes a group's digest. -/
namespace Go.Proofs.YtebcmicmklpflaaGreatDoor
open Go.RowKit Go.Shelf Go.Great
attribute [local go_sem] Oper.semAt_some
set_option linter.unusedSimpArgs false
/-- What is ahead of a group: nothing, or one whose digest is told. -/
def AhIs (w : World) (ah : Option Nat) (prev : List UInt8) : Prop :=
  prev.length = 32 ∧ match ah with
  | none => prev = z32
  | some qa => ∃ ah' rv', w.heap[qa]? = some (grpBlk ah' rv' 1 0 (nats prev))
theorem AhIs.below {w w' : World} {ah : Option Nat} {prev : List UInt8} (h : AhIs w ah prev) (hb : ∀ q, ah = some q → w'.heap[q]? = w.heap[q]?) : AhIs w' ah prev := by
  refine ⟨h.1, ?_⟩
  have := h.2
  cases ah with
  | none => exact this
  | some qa => obtain ⟨a, r, h2⟩ := this; exact ⟨a, r, by rw [hb qa rfl]; exact h2⟩
theorem digest_ah (w : World) (ah : Option Nat) (prev : List UInt8) (h : AhIs w ah prev) : Calls Tryz.prog 107 #[.pointer (ah.map fun q => ⟨q, 0, none⟩)] w fun e w' => e = .returned (.agg (Dg.E8 (nats prev))) ∧ Below w.heap.size w w' := by
  obtain ⟨h1, h2⟩ := h
  cases ah with
  | none =>
    simp only at h2
    rw [h2]
    exact digest_nil w
  | some qa =>
    obtain ⟨a, r, h3⟩ := h2
    exact digest_told qa a r _ w h3 (by rw [nats_len, h1])
theorem kept_new (w : World) : Dg.Kept (w.alloc (.cells Dg.H0 255)) w.heap.size [] (Dg.zs 32) :=
  ⟨Dg.zs 8, Dg.zs 64, ⟨heap_alloc_new w _, by simp, by simp, by simp⟩, fun h => by simp at h, rfl⟩
theorem kept_keep {w w' : World} {g : Nat} {all sum : List Nat} (h : Dg.Kept w g all sum) (hk : w'.heap[g]? = w.heap[g]?) : Dg.Kept w' g all sum := by
  obtain ⟨st, rest, hh, r⟩ := h
  exact ⟨st, rest, ⟨hk.trans hh.1, hh.2⟩, r⟩
theorem Kept.lt {w : World} {g : Nat} {all sum : List Nat} (h : Dg.Kept w g all sum) : g < w.heap.size := by
  obtain ⟨st, rest, hh, _⟩ := h
  exact (Array.getElem?_eq_some_iff.1 hh.1).1
theorem Kept.tag {w : World} {g : Nat} {all sum : List Nat} (h : Dg.Kept w g all sum) : ∃ cs, w.heap[g]? = some (.cells cs 255 (0, 0)) := by
  obtain ⟨st, rest, hh, _⟩ := h
  exact ⟨_, hh.1⟩
theorem Rec.bytes {w : World} {O : Nat → Prop} {v : Value} {d : List UInt8} (h : Rec w O v d) : Dg.BytesAt w v (nats d) := by
  obtain ⟨a, c, e, h1, h2, h3⟩ := h
  refine ⟨a, c, by rw [nats_len]; exact e, by rw [nats_len]; exact h1, fun h0 => ?_⟩
  rw [nats_len] at h0
  obtain ⟨g, cur, ea, _, hg, hp⟩ := h3 h0
  refine ⟨g, 0, ea, (Array.getElem?_eq_some_iff.1 hg).1, fun i hi => ?_⟩
  rw [nats_len] at hi
  obtain ⟨t, ht⟩ := hp
  have : cur.toList[i]? = some (.int .u8 ((d[i].toNat : Nat) : Int)) := by
    rw [← ht, List.getElem?_append_left (by rw [byteVals_len]; exact hi)]
    simp [byteVals, hi]
  simp only [World.cell?, hg, Nat.zero_add]
  rw [← Array.getElem?_toList, this]
  simp [Dg.Sha.nth, nats, hi]
theorem cellP {W : World} {b : Nat} {v : Value} {t : TypeId} (h : W.heap[b]? = some (.cells #[v] t (0, 0))) : W.cell? ⟨b, 0, none⟩ = some v := by simp [World.cell?, h]
theorem one_way {P G : Prop} (all : P) (go : Hid P → G) : G := go all
/-- What stands while the closure goes on: the Hasher at w's end, its box behind it. -/
structure Cl (w : World) (all : List Nat) (W : World) : Prop where
  bel : Below w.heap.size w W
  hk : Dg.Kept W w.heap.size all (Dg.zs 32)
  hbx : W.heap[w.heap.size + 1]? = some (.cells #[.pointer (some ⟨w.heap.size, 0, none⟩)] 214 (0, 0))
theorem Cl.up {w W W' : World} {all : List Nat} (h : Cl w all W) (hb : Below W.heap.size W W') : Cl w all W' :=
  ⟨h.bel.trans (hb.mono h.bel.size), kept_keep h.hk (hb.block _ (Kept.lt h.hk)), by rw [hb.block _ (Array.getElem?_eq_some_iff.1 h.hbx).1]; exact h.hbx⟩
theorem Cl.sole {w W W' : World} {all all' : List Nat} (h : Cl w all W) (hk : Dg.Kept W' w.heap.size all' (Dg.zs 32)) (hs : Dg.Sole w.heap.size W W') : Cl w all' W' :=
  ⟨⟨hs.os.trans h.bel.os, hs.tape.trans h.bel.tape, hs.output.trans h.bel.output, Nat.le_trans h.bel.size hs.size, fun k hk' => (hs.block k (Nat.lt_of_lt_of_le hk' h.bel.size) (by omega)).trans (h.bel.block k hk')⟩, hk, by rw [hs.block _ (Array.getElem?_eq_some_iff.1 h.hbx).1 (by omega)]; exact h.hbx⟩
theorem Cl.put {w W : World} {all : List Nat} (h : Cl w all W) (k : Nat) (hk : w.heap.size + 1 < k) (o : Obj) : Cl w all (W.putObj k o) :=
  ⟨⟨h.bel.os, h.bel.tape, h.bel.output, by simpa [World.putObj] using h.bel.size, fun j hj => by rw [World.putObj_heap_other (by omega)]; exact h.bel.block j hj⟩, kept_keep h.hk (World.putObj_heap_other (by omega)), by rw [World.putObj_heap_other (by omega)]; exact h.hbx⟩
set_option maxRecDepth 20000 in
set_option maxHeartbeats 2000000 in
theorem closure_ok (pb q : Nat) (ah : Option Nat) (rv : Value) (dg0 : List Nat) (O : Nat → Prop) (ds : List (List UInt8)) (prev : List UInt8) (w : World) (hp : w.cell? ⟨pb, 0, none⟩ = some (.pointer (some ⟨q, 0, none⟩))) (hq : w.heap[q]? = some (grpBlk ah rv 0 1 dg0)) (hd0 : dg0.length = 32) (hR : Recs w O rv ds) (hO : ∀ b, O b → b < w.heap.size) (hA : AhIs w ah prev) (hl : ds.length ≤ 100000) (hwt : wt ds ≤ 10000000) :
    Calls Tryz.prog 150 #[.pointer (some ⟨pb, 0, none⟩)] w fun e w2 => e = .returned (.tuple #[]) ∧ w2.heap[q]? = some (grpBlk ah rv 0 1 (nats (dig prev ds))) ∧ Dg.Sole q w w2 := by
  refine (callsIn_wide (n := 3)).1 ?_
  refine callsIn_of_wp_marks Tryz.func150 rfl trivial ?_ rfl
  simp only [Tryz.ntmps150, List.size_toArray, List.length_cons, List.length_nil, Nat.reduceAdd, Nat.reduceSub, Array.replicate_succ, Array.replicate_zero, List.push_toArray, List.append_toArray, List.nil_append, List.cons_append]
  have HNew := hide (Dg.new_any w)
  obtain ⟨g0, _, _, _, _⟩ := grp_cells hq
  have hqs : q < w.heap.size := (Array.getElem?_eq_some_iff.1 hq).1
  have hps : pb < w.heap.size := cellLt hp
  have HD := hide (And.intro hq (And.intro hd0 (And.intro hR (And.intro hO (And.intro hA (And.intro hl hwt))))))
  clear hq hd0 hR hO hA hl hwt
  gi_wp2_with fail
  refine ⟨trivial, ?_⟩
  refine (callsIn_wide.2 (unhide HNew)).mono ?_
  rintro e w1 ⟨rfl, hw1⟩
  have hs1 : w1.heap.size = w.heap.size + 1 := by rw [hw1]; simp
  have hk1 : Dg.Kept w1 w.heap.size [] (Dg.zs 32) := by rw [hw1]; exact kept_new w
  have hb1 : Below w.heap.size w w1 := by rw [hw1]; exact (Below.refl _ _).alloc (Nat.le_refl _) _
  obtain ⟨w2, hw2⟩ : ∃ w2, w2 = w1.alloc (.cells #[.pointer (some ⟨w.heap.size, 0, none⟩)] 214) := ⟨_, rfl⟩
  have hb2 : Below w1.heap.size w1 w2 := by rw [hw2]; exact (Below.refl _ _).alloc (Nat.le_refl _) _
  have hx2 : w2.heap[w1.heap.size]? = some (.cells #[.pointer (some ⟨w.heap.size, 0, none⟩)] 214 (0, 0)) := by
    rw [hw2]; exact heap_alloc_new _ _
  have hC2 : Cl w [] w2 := ⟨hb1.trans (hb2.mono (by omega)), kept_keep hk1 (hb2.block _ (by omega)), by rw [← hs1]; exact hx2⟩
  have hs2 : w2.heap.size = w.heap.size + 1 + 1 := by rw [hw2]; simp [hs1]
  have HW2 := hide hw2
  have HC2 := hide hC2
  have hp2 : w2.cell? ⟨pb, 0, none⟩ = some (.pointer (some ⟨q, 0, none⟩)) := by rw [hC2.bel.cell (p := ⟨pb, 0, none⟩) hps]; exact hp
  have hg2 : w2.cell? ⟨q, 0, none⟩ = some (.pointer (ah.map fun q => ⟨q, 0, none⟩)) := by rw [hC2.bel.cell (p := ⟨q, 0, none⟩) hqs]; exact g0
  have HDG := hide (digest_ah w2 ah prev ((unhide HD).2.2.2.2.1.below (fun b hb => hC2.bel.block b (by
    obtain ⟨_, h9⟩ := (unhide HD).2.2.2.2.1
    rw [hb] at h9
    obtain ⟨_, _, h9⟩ := h9
    exact (Array.getElem?_eq_some_iff.1 h9).1))))
  rw [hw2] at hp2 hg2
  clear hw1 hk1 hb1 hw2 hb2 hx2 HNew hC2
  gi_wp2_with fail
  rw [← unhide HW2]
  refine ⟨trivial, ?_⟩
  refine (callsIn_wide.2 (unhide HDG)).mono ?_
  rintro e w3 ⟨rfl, hb3⟩
  have hpl : prev.length = 32 := (unhide HD).2.2.2.2.1.1
  have hnl : (nats prev).length = 32 := by rw [nats_len, hpl]
  have hC3 := (unhide HC2).up hb3
  obtain ⟨w4, hw4⟩ : ∃ w4, w4 = w3.alloc (.cells (Dg.E8 (nats prev)) 113) := ⟨_, rfl⟩
  have hb4 : Below w3.heap.size w3 w4 := by rw [hw4]; exact (Below.refl _ _).alloc (Nat.le_refl _) _
  have hC4 := hC3.up hb4
  have hsz3 : w.heap.size + 1 + 1 ≤ w3.heap.size := by rw [← hs2]; exact hb3.size
  clear HDG HC2 HW2 hp2 hg2 hb3
  have hEs : (Dg.E8 (nats prev)).size = 32 := by simp [hnl]
  have hEo : Dg.ones (Dg.E8 (nats prev)) = true := Dg.E8_all _
  generalize hE : Dg.E8 (nats prev) = E at *
  have HE := hide hE
  have hx4 : w4.heap[w3.heap.size]? = some (.cells E 113 (0, 0)) := by rw [hw4]; exact heap_alloc_new _ _
  have hba : Dg.BytesAt w4.drew (.slice (some ⟨w3.heap.size, 0, none⟩) 32 32) (nats prev) := by
    refine ⟨_, 32, by rw [hnl], by rw [hnl]; exact Nat.le_refl _, fun _ => ⟨w3.heap.size, 0, rfl, (Array.getElem?_eq_some_iff.1 hx4).1, fun i hi => ?_⟩⟩
    have e1 : w4.drew.cell? ⟨w3.heap.size, 0 + i, none⟩ = w4.cell? ⟨w3.heap.size, i, none⟩ := by rw [Nat.zero_add]; rfl
    rw [e1]
    simp only [World.cell?, hx4]
    rw [← hE]
    exact Dg.E8_get _ _ hi
  have hC4d := hC4.up (Below.refl _ _).drew
  have HWr := hide ((callsIn_wide (n := 2)).2 (Dg.write_any w.heap.size [] (Dg.zs 32) 32 32 (some ⟨w3.heap.size, 0, none⟩) (nats prev) w4.drew hC4d.hk (fun x hx => by cases hx) hnl (nats_bytes _) hba (fun y hy _ => by have := Option.some.inj hy; rw [← this]; show w3.heap.size ≠ w.heap.size; omega) (by simp)))
  have q1 := cellP hC4.hbx
  have q2 := cellP hC4d.hbx
  have HC4 := hide (And.intro hC4 hC4d)
  have HS4 : Hid (w4.heap.size = w3.heap.size + 1) := by rw [hw4]; show (w3.alloc _).heap.size = _; simp
  have HW4 := hide hw4
  rw [hw4] at q1 q2
  clear hE hx4 hba hC4 hC4d hw4 hb4 hC3
  gi_wp2_with fail
  rw [← unhide HW4] at q1 q2 ⊢
  clear HW4
  apply one_way
  case go =>
    intro key
    refine Code.wpIn_mono NoPanic.imp ?_
    gi_region_with (refine ⟨trivial, ?_⟩; refine (unhide HWr).mono ?_; rintro e W1 ⟨rfl, hk1, hs1'⟩)
    all_goals
      refine NoPanic.normal ?_
      revert W1
      exact unhide key
  case all =>
    intro W1 hk1 hs1'
    have hC5 := (unhide HC4).2.sole hk1 hs1'
    rw [List.nil_append] at hC5
    have HPi := hide (pieces_any q W1)
    have hp5 : W1.cell? ⟨pb, 0, none⟩ = some (.pointer (some ⟨q, 0, none⟩)) := by rw [hC5.bel.cell (p := ⟨pb, 0, none⟩) hps]; exact hp
    have hz5 : w.heap.size + 1 + 1 ≤ W1.heap.size := (Array.getElem?_eq_some_iff.1 hC5.hbx).1
    clear HWr q1 q2 HC4 HS4 hk1 hs1' hsz3
    gi_wp2_with fail
    refine ⟨trivial, ?_⟩
    refine (callsIn_wide.2 (unhide HPi)).mono ?_
    rintro e W2 ⟨rfl, hW2⟩
    have hb2 : Below W1.heap.size W1 W2 := by rw [hW2]; exact (Below.refl _ _).alloc (Nat.le_refl _) _
    have hx2 : W2.heap[W1.heap.size]? = some (.cells #[.pointer (some ⟨q, 0, none⟩)] 104 (0, 0)) := by rw [hW2]; exact heap_alloc_new _ _
    have hz2 : W2.heap.size = W1.heap.size + 1 := by rw [hW2]; simp
    have hC6 := hC5.up hb2
    obtain ⟨M, hM⟩ : ∃ M, W1.heap.size = M := ⟨_, rfl⟩
    rw [hM] at hx2 hz2 hz5 ⊢
    clear hW2 hb2 hC5 HPi hp5 hM
    gi_wp2_with fail
    obtain ⟨hq, hd0, hR, hO, hA, hl, hwt⟩ := unhide HD
    obtain ⟨_, g1, _, _, _⟩ := grp_cells hq
    have hpc := pcs_len ds
    refine range_pieces (W0 := W2) (pb := M) (q := q) (O := O) (rv := rv) (ds := ds) (fun v => { tmps := #[.pointer (some ⟨pb, 0, none⟩), .pointer (some ⟨w.heap.size + 1, 0, none⟩), .pointer (some ⟨w3.heap.size, 0, none⟩), v, .pointer (some ⟨w.heap.size, 0, none⟩), .pointer (some ⟨q, 0, none⟩), .pointer (some ⟨q, 0, none⟩), .pointer (some ⟨q, 0, none⟩), .pointer (ah.map fun q => ⟨q, 0, none⟩), .agg E, .pointer (some ⟨w.heap.size, 0, none⟩), .slice (some ⟨w3.heap.size, 0, none⟩) 32 32, .bool true, .pointer (some ⟨q, 0, none⟩), .func (.func 147) #[] #[.pointer (some ⟨M, 0, none⟩)], v, undef, undef, undef, undef, undef, undef, undef, undef], defers := [] })
      (fun pre W => Cl w (nats prev ++ nats pre) W ∧ W.heap[M]? = some (.cells #[.pointer (some ⟨q, 0, none⟩)] 104 (0, 0))) hl hwt rfl w hR ?_ ?_ ?_ ?_ ?_ ?_ ?_
    · rintro pre W ⟨h, hx⟩
      exact ⟨cellP hx, by rw [h.bel.cell (p := ⟨q, 1, none⟩) hqs]; exact g1, fun b hb => h.bel.block b (hO b hb)⟩
    · rintro pre W W' ⟨h, hx⟩ hb
      exact ⟨h.up hb, by rw [hb.block _ (Array.getElem?_eq_some_iff.1 hx).1]; exact hx⟩
    · rintro pre W r ⟨h, hx⟩ _
      exact ⟨h.put _ (by omega) _, by rw [World.putObj_heap_other (by omega)]; exact hx⟩
    · exact ⟨by simpa [nats] using hC6, hx2⟩
    · intro l v W K hK
      gi_wp2
      exact hK
    · intro l v d pre W R hpre hrow ⟨hJ, hx⟩ hsz hno hR2
      obtain ⟨rest, hrest⟩ := hpre
      have hlen : (nats prev ++ nats pre).length + (nats d).length ≤ 20000000 := by
        have h1 : (pcs ds).length = pre.length + d.length + rest.length := by rw [hrest]; simp only [List.length_append]
        rw [List.length_append, nats_len, nats_len, nats_len, hpl]
        omega
      obtain ⟨a, c, ev, _⟩ := id hrow
      have hbt := hrow.bytes
      obtain ⟨cs, htag⟩ := Kept.tag hJ.hk
      have hne : ∀ x, a = some x → 0 < (nats d).length → x.block ≠ w.heap.size := fun x hx h0 e => by
        obtain ⟨a', c', ev', _, _, h3⟩ := hrow
        rw [ev] at ev'
        injection ev' with e1 _ _
        rw [nats_len] at h0
        obtain ⟨g', cur, ea, _, hg', _⟩ := h3 h0
        rw [← e1, hx] at ea
        injection ea with ea
        rw [ea] at e
        simp only at e
        rw [e, htag] at hg'
        injection hg' with hg'
        injection hg' with _ hg'
        exact absurd hg' (by decide)
      subst ev
      have HWr := hide (CallsIn.inRound l ((callsIn_wide (n := 0)).2 (Dg.write_any w.heap.size (nats prev ++ nats pre) (Dg.zs 32) d.length c a (nats d) W hJ.hk (fun x hx => (List.mem_append.1 hx).elim (nats_bytes _ x) (nats_bytes _ x)) (nats_len d) (nats_bytes d) hbt hne (by rw [nats_len] at hlen; exact hlen))))
      have q1 := cellP hJ.hbx
      have HJ := hide hJ
      have HR2 := hide hR2
      have HX := hide hx
      have HN := hide hsz
      clear hJ hR2 hx hsz hno hrow hbt hne hrest hlen htag hR hO hA hl hwt hC6 hx2
      generalize d.length = dl at *
      gi_wp2_with fail
      refine ⟨trivial, ?_⟩
      refine (unhide HWr).mono ?_
      rintro e W3 ⟨rfl, hk3, hs3⟩
      have HE2 : Hid (∀ a', R .normal a' W3) := fun a' => by
        have hJ := unhide HJ
        have hx := unhide HX
        refine unhide HR2 a' W3 ⟨?_, ?_⟩ hs3.size (fun k h1 h2 => hs3.block k (by have := unhide HN; omega) (by omega))
        · have := hJ.sole hk3 hs3
          rw [List.append_assoc, ← nats_append] at this
          exact this
        · rw [hs3.block _ (Array.getElem?_eq_some_iff.1 hx).1 (by omega)]; exact hx
      clear HWr hk3 hs3 HJ HR2 HX
      gi_wp2_with fail
      exact unhide HE2 _
    · intro W ⟨hJ, hx⟩ hdf hszW
      have hall : Dg.Sha.Bytes (nats prev ++ nats (pcs ds)) := fun x hx => (List.mem_append.1 hx).elim (nats_bytes _ x) (nats_bytes _ x)
      have hal : (nats prev ++ nats (pcs ds)).length ≤ 20000000 := by rw [List.length_append, nats_len, nats_len, hpl]; omega
      have hJd := hJ.up (Below.refl _ _).drew
      have HS := hide ((callsIn_wide (n := 2)).2 (Dg.hsum_first w.heap.size _ (Dg.zs 32) W.drew hJd.hk hall hal))
      have hSE : Dg.Sha.sum (nats prev ++ nats (pcs ds)) = nats (dig prev ds) := by rw [← nats_append, ← nats_sumB]; rfl
      rw [hSE] at HS
      have hSl : (nats (dig prev ds)).length = 32 := by rw [nats_len, dig_len]
      have q1 := cellP hJ.hbx
      have q2 := cellP hJd.hbx
      have q3 : W.drew.cell? ⟨pb, 0, none⟩ = some (.pointer (some ⟨q, 0, none⟩)) := by rw [hJd.bel.cell (p := ⟨pb, 0, none⟩) hps]; exact hp
      have HST : Hid (∀ W3, Dg.Sole w.heap.size W.drew W3 → (Dg.st113 (.pointer (some ⟨q, 5, none⟩)) (.agg (Dg.E8 (nats (dig prev ds))))).run Tryz.prog W3 = .ok () (W3.setRow q (grpCells ah rv 0 1 (nats (dig prev ds))).toArray)) := fun W3 hs => by
        refine grp_st (dg := dg0) ?_ hd0 _ hSl
        rw [hs.block q (Nat.lt_of_lt_of_le hqs hJ.bel.size) (by omega), hJd.bel.block q hqs]; exact hq
      have HP3 : Hid (∀ W3, Dg.Sole w.heap.size W.drew W3 → W3.cell? ⟨pb, 0, none⟩ = some (.pointer (some ⟨q, 0, none⟩))) := fun W3 hs => by
        rw [World.cell?_of_block (w := W.drew) (a := ⟨pb, 0, none⟩) (hs.block pb (Nat.lt_of_lt_of_le hps hJ.bel.size) (by omega))]; exact q3
      have HFin : Hid (∀ W3, Dg.Sole w.heap.size W.drew W3 → ((W3.setRow q (grpCells ah rv 0 1 (nats (dig prev ds))).toArray).putObj W2.heap.size (.deferred none)).heap[q]? = some (grpBlk ah rv 0 1 (nats (dig prev ds))) ∧ Dg.Sole q w ((W3.setRow q (grpCells ah rv 0 1 (nats (dig prev ds))).toArray).putObj W2.heap.size (.deferred none)) ∧ (W3.setRow q (grpCells ah rv 0 1 (nats (dig prev ds))).toArray).heap[W2.heap.size]? = some (.deferred (some []))) := fun W3 hs => by
        have hz0 := hJ.bel.size
        have hq3 : W3.heap[q]? = some (grpBlk ah rv 0 1 dg0) := by rw [hs.block q (Nat.lt_of_lt_of_le hqs hJ.bel.size) (by omega), hJd.bel.block q hqs]; exact hq
        have hset := grp_set hq3 (nats (dig prev ds))
        have hzs : W.drew.heap.size = W.heap.size := rfl
        have hz3 := hs.size
        refine ⟨by rw [World.putObj_heap_other (by omega)]; exact hset, ⟨hs.os.trans hJd.bel.os, hs.tape.trans hJd.bel.tape, hs.output.trans hJd.bel.output, ?_, fun k hk hkq => ?_⟩, ?_⟩
        · simp [World.putObj]; omega
        · rw [World.putObj_heap_other (by omega), setRow_other _ _ _ _ hkq, hs.block k (by omega) (by omega)]
          exact hJd.bel.block k hk
        · rw [setRow_other _ _ _ _ (by omega), hs.block _ (by omega) (by omega)]; exact hdf
      clear hJ hJd hx hdf hszW hall hal hR hO hA hl hwt hC6 hx2 hSE hq
      generalize hDG : nats (dig prev ds) = DG at *
      generalize hGC : (grpCells ah rv 0 1 DG).toArray = GC at *
      gi_wp2_with fail
      apply one_way
      case go =>
        intro key
        refine Code.wpIn_mono NoPanic.imp ?_
        gi_region_with (refine ⟨trivial, ?_⟩; refine (unhide HS).mono ?_; rintro e W3 ⟨rfl, _, hs3⟩; have hst3 := unhide HST W3 hs3; have hp3 := unhide HP3 W3 hs3)
        all_goals
          refine NoPanic.normal ?_
          revert W3
          exact unhide key
      case all =>
        intro W3 _ hs3 _ _
        obtain ⟨f1, f2, f3⟩ := unhide HFin W3 hs3
        rw [hz2] at f1 f2 f3
        refine ⟨by simp, .inl ⟨_, _, rfl, run_takeDeferred f3, ?_⟩⟩
        refine ⟨.tuple #[], by simp [results, Tryz.results150], ?_⟩
        refine ⟨rfl, ?_, f2⟩
        rw [hDG]
        exact f1
end Go.Proofs.YtebcmicmklpflaaGreatDoor
/- The digest of a group, the first time. -/
namespace Go.Proofs.YtebcmicmklpflaaGreatDoor
open Go.RowKit Go.Maps
set_option linter.unusedSimpArgs false
set_option maxRecDepth 20000 in
set_option maxHeartbeats 1000000 in
theorem digest_first (q : Nat) (ah : Option Nat) (rv : Value) (dg0 : List Nat) (O : Nat → Prop) (ds : List (List UInt8)) (prev : List UInt8) (w : World) (hq : w.heap[q]? = some (grpBlk ah rv 0 0 dg0)) (hd0 : dg0.length = 32) (hR : Recs w O rv ds) (hO : ∀ b, O b → b < w.heap.size) (hOq : ¬ O q) (hA : AhIs w ah prev) (hAq : ah ≠ some q) (hl : ds.length ≤ 100000) (hwt : wt ds ≤ 10000000) :
    Calls Tryz.prog 107 #[.pointer (some ⟨q, 0, none⟩)] w fun e w' => e = .returned (.agg (Dg.E8 (nats (dig prev ds)))) ∧ w'.heap[q]? = some (grpBlk ah rv 1 0 (nats (dig prev ds))) ∧ Dg.Sole q w w' := by
  have hmf : ∀ (fn : Fn) (first cap : Array Value) (w : World), (Instr.makeFunc fn first cap).run Tryz.prog w = .ok (.func fn first cap) w := fun _ _ _ _ => rfl
  have hqs : q < w.heap.size := (Array.getElem?_eq_some_iff.1 hq).1
  obtain ⟨WA, hWA⟩ : ∃ WA, WA = (w.alloc (.cells #[.pointer (some ⟨q, 0, none⟩)] 104)).alloc (.cells Dg.Z113 113) := ⟨_, rfl⟩
  have hbA : Below w.heap.size w WA := by rw [hWA]; exact ((Below.refl _ _).alloc (Nat.le_refl _) _).alloc (by simp) _
  have hsA : WA.heap.size = w.heap.size + 1 + 1 := by rw [hWA]; simp
  have hA1 : WA.heap[q]? = some (grpBlk ah rv 0 0 dg0) := (hbA.block q hqs).trans hq
  have hpA : WA.heap[w.heap.size]? = some (.cells #[.pointer (some ⟨q, 0, none⟩)] 104 (0, 0)) := by
    rw [hWA, Below.heap_alloc _ _ _ (by simp)]; exact heap_alloc_new _ _
  have hzA : WA.heap[w.heap.size + 1]? = some (.cells Dg.Z113 113 (0, 0)) := by
    have := heap_alloc_new (w.alloc (.cells #[.pointer (some ⟨q, 0, none⟩)] 104)) (.cells Dg.Z113 113)
    rw [World.size_alloc] at this
    rw [hWA]; exact this
  obtain ⟨c0, c1, c2, c3, cz⟩ := grp_cells hA1
  have hB1 := grp_lk hA1 1
  have hblk : ∀ k, k ≠ q → (WA.setCell ⟨q, 3, none⟩ (.int .i32 1)).heap[k]? = WA.heap[k]? := fun k hk => set_other _ _ _ _ _ hk
  have hcl := closure_ok w.heap.size q ah rv dg0 O ds prev (WA.setCell ⟨q, 3, none⟩ (.int .i32 1)) (by rw [World.cell?_of_block (w := WA) (a := ⟨w.heap.size, 0, none⟩) (hblk w.heap.size (by omega))]; exact cellP hpA) hB1 hd0
    (hR.kept (fun _ o => o) (fun b hb => by rw [hblk b (fun e => hOq (e ▸ hb))]; exact hbA.block b (hO b hb))) (fun b hb => by rw [size_set, hsA]; have := hO b hb; omega) (hA.below (fun b hb => by
      have hne : b ≠ q := fun e => hAq (by rw [hb, e])
      rw [hblk b hne]
      refine hbA.block b ?_
      obtain ⟨_, h9⟩ := hA
      rw [hb] at h9
      obtain ⟨_, _, h9⟩ := h9
      exact (Array.getElem?_eq_some_iff.1 h9).1)) hl hwt
  have HDO := hide (once_first q (.pointer (some ⟨w.heap.size, 0, none⟩)) WA (fun w2 => w2.heap[q]? = some (grpBlk ah rv 0 1 (nats (dig prev ds))) ∧ Dg.Sole q (WA.setCell ⟨q, 3, none⟩ (.int .i32 1)) w2) c3 c2 cz (fun w2 h => by
    obtain ⟨_, _, d2, d3, dz⟩ := grp_cells h.1
    exact ⟨d2, d3, dz⟩) hcl)
  have hgl : (nats (dig prev ds)).length = 32 := by rw [nats_len, dig_len]
  have HF : Hid (∀ w2, w2.heap[q]? = some (grpBlk ah rv 0 1 (nats (dig prev ds))) ∧ Dg.Sole q (WA.setCell ⟨q, 3, none⟩ (.int .i32 1)) w2 → ∀ w3, w3 = (w2.drew.setCell ⟨q, 2, none⟩ (.int .u32 1)).setCell ⟨q, 3, none⟩ (.int .i32 0) → w3.cell? ⟨w.heap.size, 0, none⟩ = some (.pointer (some ⟨q, 0, none⟩)) ∧ (Dg.ld113 (.pointer (some ⟨q, 5, none⟩))).run Tryz.prog w3 = .ok (.agg (Dg.E8 (nats (dig prev ds)))) w3 ∧ Dg.fits w3 (w.heap.size + 1) 32 = true ∧ (w3.setRow (w.heap.size + 1) (Dg.E8 (nats (dig prev ds)))).heap[q]? = some (grpBlk ah rv 1 0 (nats (dig prev ds))) ∧ Dg.Sole q w (w3.setRow (w.heap.size + 1) (Dg.E8 (nats (dig prev ds))))) := fun w2 h w3 e3 => by
    obtain ⟨h1, hs⟩ := h
    have hk3 : ∀ k, k ≠ q → w3.heap[k]? = w2.heap[k]? := fun k hk => by rw [e3, set_other _ _ _ _ _ hk, set_other _ _ _ _ _ hk]; rfl
    have hz3 : w3.heap.size = w2.heap.size := by rw [e3, size_set, size_set]; rfl
    have hzz := hs.size
    rw [size_set, hsA] at hzz
    have hk2 : ∀ k, k < w.heap.size + 2 → k ≠ q → w3.heap[k]? = WA.heap[k]? := fun k hk hkq => by rw [hk3 k hkq, hs.block k (by rw [size_set, hsA]; omega) hkq, hblk k hkq]
    have hg3 : w3.heap[q]? = some (grpBlk ah rv 1 0 (nats (dig prev ds))) := by
      rw [e3]
      exact grp_lk (grp_dn (show w2.drew.heap[q]? = _ from h1) 1) 0
    refine ⟨?_, grp_ld hg3 hgl, ?_, ?_, ⟨?_, ?_, ?_, ?_, fun k hk hkq => ?_⟩⟩
    · rw [World.cell?_of_block (w := WA) (a := ⟨w.heap.size, 0, none⟩) (hk2 w.heap.size (by omega) (by omega))]; exact cellP hpA
    · rw [Dg.fits_of (hk2 _ (by omega) (by omega))]; simp [Dg.fits, hzA]
    · rw [setRow_other _ _ _ _ (by omega)]; exact hg3
    · show w3.os = w.os
      rw [e3]; exact hs.os.trans hbA.os
    · show w3.tape = w.tape
      rw [e3]; exact hs.tape.trans hbA.tape
    · show w3.output = w.output
      rw [e3]; exact hs.output.trans hbA.output
    · simp [World.setRow]; omega
    · rw [setRow_other _ _ _ _ (by omega), hk2 k (by omega) hkq]; exact hbA.block k hk
  have HWA := hide hWA
  clear hq hR hO hA hAq hOq hcl hB1 hblk hA1 hpA hzA hbA hWA c0 c1 c2 c3 cz hl hwt
  generalize hDG : nats (dig prev ds) = DG at *
  have HDG := hide hDG
  clear hDG
  go_enter Tryz.func107, Tryz.ntmps107
  go_wp2_with fail
  rw [← unhide HWA]
  refine (unhide HDO).mono ?_
  rintro e w3 ⟨rfl, w2, hw2, e3⟩
  obtain ⟨p1, p2, p3, p4, p5⟩ := unhide HF w2 hw2 w3 e3
  have HP := hide (And.intro p4 p5)
  have hEs : (Dg.E8 DG).size = 32 := by simp [hgl]
  clear hw2 e3 HF HDO p4 p5
  go_wp2
  exact bodyPost_ret (Dg.results_at Tryz.results107 _ _ p3 rfl hgl) rfl ⟨rfl, (unhide HP).1, (unhide HP).2⟩
end Go.Proofs.YtebcmicmklpflaaGreatDoor
/- Bytes appended to bytes of one's own; what lies in a file of a group. -/
namespace Go.Proofs.YtebcmicmklpflaaGreatDoor
open Go.RowKit Go.Shelf Go.Great
attribute [local go_sem] Oper.semAt_some
set_option linter.unusedSimpArgs false
/-- Bytes of one's own, in blocks from base on. -/
def OwnB (w : World) (base : Nat) (v : Value) (out : List UInt8) : Prop := w.ownsRow base 5 1 v out.length (byteVals out)
theorem OwnB.shape {w : World} {base : Nat} {v : Value} {out : List UInt8} (h : OwnB w base v out) : ∃ a c, v = .slice a out.length c ∧ out.length ≤ c := by
  rcases h.2 with ⟨rfl, e⟩ | ⟨g, cap, cur, rfl, _, _, hl, _⟩
  · exact ⟨none, 0, by rw [e], by omega⟩
  · exact ⟨_, _, rfl, hl⟩
theorem OwnB.keep {w w' : World} {base : Nat} {v : Value} {out : List UInt8} (h : OwnB w base v out) (hw : ∀ q, v.ownBlock = some q → w'.heap[q]? = w.heap[q]?) : OwnB w' base v out := by
  refine ⟨h.1, h.2.imp id ?_⟩
  rintro ⟨g, cap, cur, e, h1, h2, h3⟩
  exact ⟨g, cap, cur, e, h1, by rw [hw g (by rw [e]; rfl)]; exact h2, h3⟩
theorem OwnB.tag {w : World} {base : Nat} {v : Value} {out : List UInt8} (h : OwnB w base v out) : ∀ q, v.ownBlock = some q → base ≤ q ∧ ∃ cur, w.heap[q]? = some (.cells cur 5 (0, 0)) := fun q e => by
  rcases h.2 with ⟨rfl, _⟩ | ⟨g, cap, cur, rfl, hb, hg, _⟩
  · simp [Value.ownBlock] at e
  · simp [Value.ownBlock] at e; subst e; exact ⟨hb, cur, hg⟩
theorem OwnB.rec {w : World} {base : Nat} {v : Value} {out : List UInt8} (h : OwnB w base v out) : Rec w (fun q => base ≤ q) v out := by
  rcases h.2 with ⟨rfl, e⟩ | ⟨g, cap, cur, rfl, hb, hg, hl, hm, hs, ht⟩
  · exact ⟨none, 0, by rw [e], by omega, by simp [maxLen], fun h0 => by omega⟩
  · refine ⟨_, cap, rfl, hl, hm, fun _ => ⟨g, cur, rfl, hb, hg, ?_⟩⟩
    rw [Nat.mul_one] at ht
    exact prefix_of_take ht
theorem app_bytes {W : World} {base : Nat} {v x : Value} {out d : List UInt8} (ho : OwnB W base v out) (hb : base ≤ W.heap.size) (hx : Row W.heap.size W x d) (hmax : out.length + d.length ≤ 100000000) :
    ∃ v' W', (∀ ty, (app22 ty #[v, x]).run Tryz.prog W = .ok v' W') ∧ OwnB W' base v' (out ++ d) ∧ W.grownBy W' v.ownBlock := by
  obtain ⟨a, c, rfl, hc⟩ := ho.shape
  obtain ⟨ax, cx, rfl, hcx, h3⟩ := hx
  by_cases h0 : d.length = 0
  · obtain rfl : d = [] := List.eq_nil_of_length_eq_zero h0
    refine ⟨.slice a out.length c, W, fun ty => run_append_none a ax out.length c cx hc ty W, by rw [List.append_nil]; exact ho, ⟨rfl, rfl, rfl, Nat.le_refl _, fun _ _ _ => rfl⟩⟩
  · obtain ⟨g, o, rfl, hg, hp⟩ := h3 (by omega)
    obtain ⟨i, hi', hz, hsz, hby⟩ := info5
    obtain ⟨v', W', hr, hown, hgr, -⟩ := run_append_own (P := Tryz.prog) W base 39 39 5 i (.int .u8 0) 1 1 Tryz.underlying39 hi' hz hsz hby rfl (by omega) (.slice a out.length c) out.length (byteVals out) ho ⟨g, o, none⟩ d.length cx (byteVals d) (by simp [byteVals])
      (fun j u hj => by
        rw [show (⟨g, o, none⟩ : Addr).add j = ⟨g, o + j, none⟩ from by unfold Addr.add; split <;> simp_all]
        exact hp j u hj)
      (fun u hu => by obtain ⟨b, -, rfl⟩ := List.mem_map.1 hu; rfl) (by simp only [maxLen]; omega) (by omega) hb
    refine ⟨v', W', fun _ => hr, ?_, hgr⟩
    unfold OwnB
    rw [List.length_append, byteVals_append]
    exact hown
/-- What stands while bytes are gathered: they lie in the box bx, all of w stands. -/
structure En (w W : World) (bx : Nat) (v : Value) (out : List UInt8) : Prop where
  bel : Below w.heap.size w W
  box : W.heap[bx]? = some (.cells #[v] 39 (0, 0))
  hbx : w.heap.size ≤ bx
  own : OwnB W w.heap.size v out
theorem En.up {w W W' : World} {bx : Nat} {v : Value} {out : List UInt8} (h : En w W bx v out) (hb : Below W.heap.size W W') : En w W' bx v out :=
  ⟨h.bel.trans (hb.mono h.bel.size), by rw [hb.block _ (Array.getElem?_eq_some_iff.1 h.box).1]; exact h.box, h.hbx, h.own.keep (fun q e => by
    obtain ⟨_, cur, hc⟩ := h.own.tag q e
    exact hb.block q (Array.getElem?_eq_some_iff.1 hc).1)⟩
theorem En.put {w W : World} {bx : Nat} {v : Value} {out : List UInt8} (h : En w W bx v out) (k : Nat) (hk : w.heap.size ≤ k) (h1 : bx ≠ k) (h2 : ∀ q, v.ownBlock = some q → q ≠ k) (o : Obj) : En w (W.putObj k o) bx v out :=
  ⟨⟨h.bel.os, h.bel.tape, h.bel.output, by simpa [World.putObj] using h.bel.size, fun j hj => by rw [World.putObj_heap_other (by omega)]; exact h.bel.block j hj⟩, by rw [World.putObj_heap_other h1]; exact h.box, h.hbx, h.own.keep (fun q e => World.putObj_heap_other (h2 q e))⟩
/-- Bytes are appended, and the box is set. -/
theorem En.app {w W : World} {bx : Nat} {v x : Value} {out d : List UInt8} (h : En w W bx v out) (hx : Rec W (fun _ => True) x d) (hmax : out.length + d.length ≤ 100000000) :
    ∃ v' W', (∀ ty, (app22 ty #[v, x]).run Tryz.prog W = .ok v' W') ∧ W'.cell? ⟨bx, 0, none⟩ = some v ∧ W'.frozen? ⟨bx, 0, none⟩ = false ∧ En w (W'.setCell ⟨bx, 0, none⟩ v') bx v' (out ++ d) ∧ W.heap.size ≤ W'.heap.size ∧ (∀ k, k < W.heap.size → (∀ cs t z, W.heap[k]? ≠ some (.cells cs t z)) ∨ (∃ cs t z, t ≠ 5 ∧ W.heap[k]? = some (.cells cs t z)) → k ≠ bx → (W'.setCell ⟨bx, 0, none⟩ v').heap[k]? = W.heap[k]?) ∧ (∀ q, v'.ownBlock = some q → q < W.heap.size → ∃ cur, W.heap[q]? = some (.cells cur 5 (0, 0))) := by
  obtain ⟨v', W', hr, ho, hg⟩ := app_bytes h.own h.bel.size hx.row hmax
  have hne : ∀ k, (∀ cs t z, W.heap[k]? ≠ some (.cells cs t z)) ∨ (∃ cs t z, t ≠ 5 ∧ W.heap[k]? = some (.cells cs t z)) → some k ≠ v.ownBlock := fun k hk e => by
    obtain ⟨_, cur, hc⟩ := h.own.tag k e.symm
    rcases hk with hk | ⟨cs, t, z, ht, hk⟩
    · exact hk _ _ _ hc
    · rw [hc] at hk
      injection hk with hk
      injection hk with _ hk
      exact ht hk.symm
  have hbs := (Array.getElem?_eq_some_iff.1 h.box).1
  have hb' : W'.heap[bx]? = some (.cells #[v] 39 (0, 0)) := by rw [hg.block bx hbs (hne bx (.inr ⟨_, _, _, by decide, h.box⟩))]; exact h.box
  refine ⟨v', W', hr, cellP hb', by simp [World.frozen?, hb'], ⟨⟨hg.os.trans h.bel.os, hg.tape.trans h.bel.tape, hg.output.trans h.bel.output, by rw [size_set]; exact Nat.le_trans h.bel.size hg.size, fun k hk => ?_⟩, by simp [World.setCell, Array.getElem?_modify, hb'], h.hbx, ho.keep (fun q e => ?_)⟩, hg.size, fun k hk h1 h2 => ?_, fun q e hq => ?_⟩
  · have := h.hbx
    rw [set_other _ _ _ _ _ (by omega), hg.block k (Nat.lt_of_lt_of_le hk h.bel.size) (fun e => by have := (h.own.tag k e.symm).1; omega)]
    exact h.bel.block k hk
  · obtain ⟨_, cur, hc⟩ := ho.tag q e
    exact set_other _ _ _ _ _ (fun e2 => by rw [e2, hb'] at hc; injection hc with hc; injection hc with _ hc; exact absurd hc (by decide))
  · rw [set_other _ _ _ _ _ h2]
    exact hg.block k hk (hne k h1)
  · by_cases hv : some q = v.ownBlock
    · exact (h.own.tag q hv.symm).2
    · obtain ⟨_, cur, hc⟩ := ho.tag q e
      exact ⟨cur, by rw [← hg.block q hq hv]; exact hc⟩
set_option maxRecDepth 20000 in
set_option maxHeartbeats 2000000 in
theorem encoded_ok (q : Nat) (ah : Option Nat) (rv : Value) (dg0 : List Nat) (O : Nat → Prop) (ds : List (List UInt8)) (prev : List UInt8) (w : World) (hq : w.heap[q]? = some (grpBlk ah rv 0 0 dg0)) (hd0 : dg0.length = 32) (hR : Recs w O rv ds) (hO : ∀ b, O b → b < w.heap.size) (hOq : ¬ O q) (hA : AhIs w ah prev) (hAq : ah ≠ some q) (hl : ds.length ≤ 100000) (hwt : wt ds ≤ 10000000) :
    Calls Tryz.prog 61 #[.pointer (some ⟨q, 0, none⟩)] w fun e w' => ∃ v, e = .returned v ∧ Rec w' (fun b => w.heap.size ≤ b) v (enc prev ds) ∧ w'.heap[q]? = some (grpBlk ah rv 1 0 (nats (dig prev ds))) ∧ Dg.Sole q w w' := by
  refine (callsIn_wide (n := 3)).1 ?_
  refine callsIn_of_wp_marks Tryz.func61 rfl trivial ?_ rfl
  simp only [Tryz.ntmps61, List.size_toArray, List.length_cons, List.length_nil, Nat.reduceAdd, Nat.reduceSub, Array.replicate_succ, Array.replicate_zero, List.push_toArray, List.append_toArray, List.nil_append, List.cons_append]
  obtain ⟨c0, c1, c2, c3, cz⟩ := grp_cells hq
  have hqs : q < w.heap.size := (Array.getElem?_eq_some_iff.1 hq).1
  have HWt : Hid (∀ W, Below w.heap.size w W → CallsIn Fence.wide 2 Tryz.prog 100 #[.pointer (some ⟨q, 0, none⟩)] W fun e w' => e = .returned (.int .i64 (wt ds : Int)) ∧ w' = W) := fun W hb => callsIn_wide.2 (weight_ok q O rv ds W (by rw [hb.cell (p := ⟨q, 1, none⟩) hqs]; exact c1) (hR.kept (fun _ o => o) (fun b hb' => hb.block b (hO b hb'))) hl (by omega))
  obtain ⟨ra, rc, rfl⟩ := hR.shape
  obtain ⟨N, hN⟩ : ∃ N, N = ds.length := ⟨_, rfl⟩
  obtain ⟨T, hT⟩ : ∃ T, T = wt ds := ⟨_, rfl⟩
  have hmk : ∀ W : World, (Instr.makeSlice 39 (.int .i64 0) (.int .i64 (3 * (1 + (N : Int)) + (T : Int) + 32))).run Tryz.prog W = .ok (.slice (some ⟨W.heap.size, 0, none⟩) 0 (3 * (1 + N) + T + 32)) (W.alloc (.cells (Dg.E8 (Dg.zs (3 * (1 + N) + T + 32))) 5)) := fun W => by
    obtain ⟨i, hi, hz, hs, hby⟩ := Dg.info5_at
    have e : (3 * (1 + (N : Int)) + (T : Int) + 32).toNat = 3 * (1 + N) + T + 32 := by omega
    rw [run_make (P := Tryz.prog) W 39 5 i _ Tryz.underlying39 hi hz .i64 .i64 0 _ (by omega) (by omega) (by rw [hby]; omega) (by omega), hs, Nat.mul_one, Dg.made_zs, e]
    rfl
  have hN1 : (N : Int) ≤ 100000 := by omega
  have hT1 : (T : Int) ≤ 10000000 := by omega
  obtain ⟨Z, hZ⟩ : ∃ Z, Z = Dg.E8 (Dg.zs (3 * (1 + N) + T + 32)) := ⟨_, rfl⟩
  obtain ⟨C, hC⟩ : ∃ C, C = 3 * (1 + N) + T + 32 := ⟨_, rfl⟩
  rw [← hN] at c1
  rw [← hT] at HWt
  rw [← hZ, ← hC] at hmk
  have HC := hide (And.intro hN (And.intro hT (And.intro hZ hC)))
  have hB1 : Below w.heap.size w w.drew := (Below.refl _ _).drew
  have hB2 : Below w.heap.size w (w.drew.alloc (.cells #[.slice none 0 0] 39)) := (Below.refl _ _).drew.alloc (Nat.le_refl _) _
  have HD := hide (And.intro hq (And.intro hd0 (And.intro hR (And.intro hO (And.intro hOq (And.intro hA (And.intro hAq (And.intro hl hwt))))))))
  have HB := hide (And.intro hB1 hB2)
  have hw1 : IntKind.i64.wrap (1 + (N : Int)) = 1 + (N : Int) := IntWalk.i64_in _ (by omega)
  have hw2 : IntKind.i64.wrap (3 * (1 + (N : Int))) = 3 * (1 + (N : Int)) := IntWalk.i64_in _ (by omega)
  have hw3 : IntKind.i64.wrap (3 * (1 + (N : Int)) + (T : Int)) = 3 * (1 + (N : Int)) + (T : Int) := IntWalk.i64_in _ (by omega)
  have hw4 : IntKind.i64.wrap (3 * (1 + (N : Int)) + (T : Int) + 32) = 3 * (1 + (N : Int)) + (T : Int) + 32 := IntWalk.i64_in _ (by omega)
  clear hq hd0 hR hO hOq hA hAq hl hwt hN hT hZ hC c0 c2 c3 cz hB1 hB2
  gi_wp2_with fail
  rename_i Q2 K2 a2
  have hEn : ∀ (W : World) (bx g : Nat), Below w.heap.size w W → W.heap[bx]? = some (.cells #[.slice (some ⟨g, 0, none⟩) 0 C] 39 (0, 0)) → w.heap.size ≤ bx → w.heap.size ≤ g → W.heap[g]? = some (.cells Z 5 (0, 0)) → En w W bx (.slice (some ⟨g, 0, none⟩) 0 C) [] := fun W bx g h1 h2 h3 h4 h5 => by
    obtain ⟨hN, hT, hZ, hC⟩ := unhide HC
    refine ⟨h1, h2, h3, rfl, .inr ⟨g, C, Z, rfl, h4, h5, Nat.zero_le _, ?_, ?_, rfl⟩⟩
    · simp only [maxLen]; omega
    · rw [hZ, hC]; simp
  have HEn := hide hEn
  clear hEn
  have key : Hid (∀ (W : World) (bx g : Nat), En w W bx (.slice (some ⟨g, 0, none⟩) 0 C) [] → K2 { tmps := #[.pointer (some ⟨q, 0, none⟩), undef, .slice none 0 0, .pointer (some ⟨bx, 0, none⟩), undef, undef, .pointer (some ⟨q, 0, none⟩), .pointer (some ⟨q, 0, none⟩), .pointer (some ⟨q, 1, none⟩), .slice ra N rc, .int .i64 (N : Int), .int .i64 (1 + (N : Int)), .int .i64 (3 * (1 + (N : Int))), .pointer (some ⟨q, 0, none⟩), .int .i64 (T : Int), .int .i64 (3 * (1 + (N : Int)) + (T : Int)), .int .i64 (3 * (1 + (N : Int)) + (T : Int) + 32), .slice (some ⟨g, 0, none⟩) 0 C, undef, undef, undef, undef, undef, undef, undef, undef, undef, undef, undef], defers := [] } W) := by
    intro W bx g hE
    apply a2
    clear a2
    have HPi := hide (pieces_any q W)
    obtain ⟨g0, hg0⟩ : ∃ v0, v0 = Value.slice (some ⟨g, 0, none⟩) 0 C := ⟨_, rfl⟩
    have HG0 : Hid (∀ q', g0.ownBlock = some q' → q' < W.heap.size) := fun q' e => by
      rw [hg0] at e
      obtain ⟨_, cur, hc⟩ := hE.own.tag q' e
      exact (Array.getElem?_eq_some_iff.1 hc).1
    rw [← hg0] at hE ⊢
    clear HWt hmk HB hw1 hw2 hw3 hw4 hg0
    gi_wp2_with fail
    refine ⟨trivial, ?_⟩
    refine (callsIn_wide.2 (unhide HPi)).mono ?_
    rintro e W2 ⟨rfl, hW2⟩
    have hb2 : Below W.heap.size W W2 := by rw [hW2]; exact (Below.refl _ _).alloc (Nat.le_refl _) _
    have hx2 : W2.heap[W.heap.size]? = some (.cells #[.pointer (some ⟨q, 0, none⟩)] 104 (0, 0)) := by rw [hW2]; exact heap_alloc_new _ _
    have hz2 : W2.heap.size = W.heap.size + 1 := by rw [hW2]; simp
    have hE2 := hE.up hb2
    have hbs := (Array.getElem?_eq_some_iff.1 hE.box).1
    have hz5 := hE.bel.size
    obtain ⟨M, hM⟩ : ∃ M, W.heap.size = M := ⟨_, rfl⟩
    rw [hM] at hx2 hz2 hz5 hbs HG0 ⊢
    clear hW2 hb2 hE HPi hM
    gi_wp2_with fail
    obtain ⟨hq, hd0, hR, hO, hOq, hA, hAq, hl, hwt⟩ := unhide HD
    obtain ⟨hN, hT, hZ, hC⟩ := unhide HC
    have hpc := pcs_len ds
    refine range_pieces (W0 := W2) (pb := M) (q := q) (O := O) (rv := .slice ra ds.length rc) (ds := ds) (fun v => { tmps := #[.pointer (some ⟨q, 0, none⟩), undef, .slice none 0 0, .pointer (some ⟨bx, 0, none⟩), v, undef, .pointer (some ⟨q, 0, none⟩), .pointer (some ⟨q, 0, none⟩), .pointer (some ⟨q, 1, none⟩), .slice ra N rc, .int .i64 (N : Int), .int .i64 (1 + (N : Int)), .int .i64 (3 * (1 + (N : Int))), .pointer (some ⟨q, 0, none⟩), .int .i64 (T : Int), .int .i64 (3 * (1 + (N : Int)) + (T : Int)), .int .i64 (3 * (1 + (N : Int)) + (T : Int) + 32), g0, .pointer (some ⟨q, 0, none⟩), .func (.func 147) #[] #[.pointer (some ⟨M, 0, none⟩)], v, undef, undef, undef, undef, undef, undef, undef, undef], defers := [] })
      (fun pre W => (∃ v, En w W bx v pre ∧ ∀ q, v.ownBlock = some q → q ≠ W2.heap.size ∧ q ≠ W2.heap.size + 1) ∧ W.heap[M]? = some (.cells #[.pointer (some ⟨q, 0, none⟩)] 104 (0, 0))) hl hwt rfl w hR ?_ ?_ ?_ ?_ ?_ ?_ ?_
    · rintro pre W ⟨⟨v, h, _⟩, hx⟩
      exact ⟨cellP hx, by rw [h.bel.cell (p := ⟨q, 1, none⟩) hqs, c1, hN], fun b hb => h.bel.block b (hO b hb)⟩
    · rintro pre W W' ⟨⟨v, h, hk⟩, hx⟩ hb
      exact ⟨⟨v, h.up hb, hk⟩, by rw [hb.block _ (Array.getElem?_eq_some_iff.1 hx).1]; exact hx⟩
    · rintro pre W r ⟨⟨v, h, hk⟩, hx⟩ _
      exact ⟨⟨v, h.put _ (by omega) (by omega) (fun q e => (hk q e).2) _, hk⟩, by rw [World.putObj_heap_other (by omega)]; exact hx⟩
    · refine ⟨⟨g0, hE2, fun q' e => ?_⟩, hx2⟩
      have := unhide HG0 q' e
      omega
    · intro l v W K hK
      clear hN hT hC hZ
      gi_wp2
      exact hK
    · intro l v d pre W R hpre hrow ⟨⟨v0, hJ, hk⟩, hx⟩ hsz hno hR2
      obtain ⟨rest, hrest⟩ := hpre
      have hlen : pre.length + d.length ≤ 100000000 := by
        have h1 : (pcs ds).length = pre.length + d.length + rest.length := by rw [hrest]; simp only [List.length_append]
        omega
      obtain ⟨v1, W3, hr, q1, q2, hE3, hz3, hk3, hk4⟩ := hJ.app hrow hlen
      have q0 := cellP hJ.box
      have HE2 : Hid (∀ a', R .normal a' (W3.setCell ⟨bx, 0, none⟩ v1)) := fun a' => by
        refine hR2 a' _ ⟨⟨v1, hE3, fun q' e => ?_⟩, ?_⟩ (by rw [size_set]; exact hz3) (fun k h1 h2 => hk3 k (by omega) (.inl (hno k h2 h1)) (by omega))
        · by_cases hq' : q' < W.heap.size
          · obtain ⟨cur, hc⟩ := hk4 q' e hq'
            exact ⟨fun e2 => hno q' (by omega) (by omega) _ _ _ hc, fun e2 => hno q' (by omega) (by omega) _ _ _ hc⟩
          · omega
        · rw [hk3 M (Array.getElem?_eq_some_iff.1 hx).1 (.inr ⟨_, _, _, by decide, hx⟩) (by omega)]; exact hx
      obtain ⟨va, vc, ev1, _⟩ := hE3.own.shape
      obtain ⟨ua, uc, ev0, _⟩ := hJ.own.shape
      subst ev1 ev0
      clear hN hT hC hZ hR2 hno hk3 hk4 hE3 hJ hk hx hrow hrest hlen hR hO hA hl hwt hE2 hx2 hsz
      generalize (pre ++ d).length = L1 at *
      generalize pre.length = L0 at *
      gi_wp2_with fail
      exact unhide HE2 _
    · intro W ⟨⟨v0, hJ, hk⟩, hx⟩ hdf hszW
      have hqW : W.heap[q]? = some (grpBlk ah (.slice ra ds.length rc) 0 0 dg0) := by rw [hJ.bel.block q hqs]; exact hq
      have HDi := hide ((callsIn_wide (n := 2)).2 (digest_first q ah (.slice ra ds.length rc) dg0 O ds prev W hqW hd0 (hR.kept (fun _ o => o) (fun b hb => hJ.bel.block b (hO b hb))) (fun b hb => Nat.lt_of_lt_of_le (hO b hb) hJ.bel.size) hOq (hA.below (fun b hb => hJ.bel.block b (by
        obtain ⟨_, h9⟩ := hA
        rw [hb] at h9
        obtain ⟨_, _, h9⟩ := h9
        exact (Array.getElem?_eq_some_iff.1 h9).1))) hAq hl hwt))
      have hbs2 := (Array.getElem?_eq_some_iff.1 hJ.box).1
      have hbw := hJ.bel.size
      have hgl : (nats (dig prev ds)).length = 32 := by rw [nats_len, dig_len]
      -- behind the digest, the box of it and the bytes appended
      have HF : Hid (∀ W5, W5.heap[q]? = some (grpBlk ah (.slice ra ds.length rc) 1 0 (nats (dig prev ds))) ∧ Dg.Sole q W W5 → ∃ v' W7, (∀ ty, (app22 ty #[v0, .slice (some ⟨W5.heap.size, 0, none⟩) 32 32]).run Tryz.prog (W5.alloc (.cells (Dg.E8 (nats (dig prev ds))) 113)).drew = .ok v' W7) ∧ (W5.alloc (.cells (Dg.E8 (nats (dig prev ds))) 113)).drew.cell? ⟨bx, 0, none⟩ = some v0 ∧ W7.heap[W2.heap.size]? = some (.deferred (some [])) ∧ Rec (W7.putObj W2.heap.size (.deferred none)) (fun b => w.heap.size ≤ b) v' (enc prev ds) ∧ (W7.putObj W2.heap.size (.deferred none)).heap[q]? = some (grpBlk ah (.slice ra ds.length rc) 1 0 (nats (dig prev ds))) ∧ Dg.Sole q w (W7.putObj W2.heap.size (.deferred none))) := by
        rintro W5 ⟨h5, hs5⟩
        obtain ⟨W6, hW6⟩ : ∃ W6, W6 = (W5.alloc (.cells (Dg.E8 (nats (dig prev ds))) 113)).drew := ⟨_, rfl⟩
        have hz5' := hs5.size
        have hb6 : ∀ k, k < W5.heap.size → W6.heap[k]? = W5.heap[k]? := fun k hk' => by
          rw [hW6]; exact Below.heap_alloc _ _ _ hk'
        have hz6 : W6.heap.size = W5.heap.size + 1 := by rw [hW6]; show (W5.alloc _).heap.size = _; simp
        have hx6 : W6.heap[W5.heap.size]? = some (.cells (Dg.E8 (nats (dig prev ds))) 113 (0, 0)) := by rw [hW6]; exact heap_alloc_new _ _
        have hk6 : ∀ k, k < W.heap.size → k ≠ q → W6.heap[k]? = W.heap[k]? := fun k h1 h2 => by rw [hb6 k (by omega), hs5.block k h1 h2]
        have hvq : ∀ b, v0.ownBlock = some b → w.heap.size ≤ b ∧ b < W.heap.size ∧ b ≠ q := fun b e => by
          obtain ⟨h1, cur, hc⟩ := hJ.own.tag b e
          exact ⟨h1, (Array.getElem?_eq_some_iff.1 hc).1, by omega⟩
        have ho6 : OwnB W6 w.heap.size v0 (pcs ds) := hJ.own.keep (fun b e => hk6 b (hvq b e).2.1 (hvq b e).2.2)
        have hrow6 : Row W6.heap.size W6 (.slice (some ⟨W5.heap.size, 0, none⟩) (dig prev ds).length 32) (dig prev ds) := by
          refine ⟨_, 32, rfl, by rw [dig_len]; exact Nat.le_refl _, fun _ => ⟨W5.heap.size, 0, rfl, by omega, fun j u hj => ?_⟩⟩
          simp only [World.cell?, hx6, Nat.zero_add]
          have hj' := (List.getElem?_eq_some_iff.1 hj).1
          rw [byteVals_len] at hj'
          rw [Dg.E8_get _ _ (by rw [nats_len]; exact hj')]
          rw [← hj]
          simp [byteVals, Dg.Sha.nth, nats, hj']
        obtain ⟨v', W7, hr, ho7, hg7⟩ := app_bytes ho6 (by omega) hrow6 (by rw [dig_len, hpc]; omega)
        rw [dig_len] at hr
        have hd6 : W6.heap[W2.heap.size]? = some (.deferred (some [])) := by rw [hk6 _ (by omega) (by omega)]; exact hdf
        have hd7 : W7.heap[W2.heap.size]? = some (.deferred (some [])) := by
          rw [hg7.block _ (by omega) (fun e => (hk _ e.symm).1 rfl)]; exact hd6
        have hbx6 : W6.heap[bx]? = some (.cells #[v0] 39 (0, 0)) := by rw [hk6 bx hbs2 (by have := hJ.hbx; omega)]; exact hJ.box
        refine ⟨v', W7, by rw [← hW6]; exact hr, by rw [← hW6]; exact cellP hbx6, hd7, ?_, ?_, ⟨?_, ?_, ?_, ?_, fun k h1 h2 => ?_⟩⟩
        · have h8 : OwnB (W7.putObj W2.heap.size (.deferred none)) w.heap.size v' (pcs ds ++ dig prev ds) := ho7.keep (fun b e => World.putObj_heap_other (fun e2 => by
            obtain ⟨_, cur, hc⟩ := ho7.tag b e
            rw [e2, hd7] at hc
            cases hc))
          exact h8.rec
        · rw [World.putObj_heap_other (by omega), hg7.block q (by omega) (fun e => (hvq q e.symm).2.2 rfl), hb6 q (by omega)]; exact h5
        · show W7.os = w.os
          rw [hg7.os, hW6]; exact hs5.os.trans hJ.bel.os
        · show W7.tape = w.tape
          rw [hg7.tape, hW6]; exact hs5.tape.trans hJ.bel.tape
        · show W7.output = w.output
          rw [hg7.output, hW6]; exact hs5.output.trans hJ.bel.output
        · have := hg7.size
          simp [World.putObj]; omega
        · rw [World.putObj_heap_other (by omega), hg7.block k (by omega) (fun e => by have := (hvq k e.symm).1; omega), hk6 k (by omega) h2]
          exact hJ.bel.block k h1
      have HW2 := hide hz2
      obtain ⟨ua, uc, ev0, _⟩ := hJ.own.shape
      subst ev0
      clear hN hT hC hZ hJ hk hx hR hO hA hl hwt hE2 hx2 hszW hqW hq hOq hAq hdf hpc
      have hEs : (Dg.E8 (nats (dig prev ds))).size = 32 := by simp [hgl]
      have hEo : Dg.ones (Dg.E8 (nats (dig prev ds))) = true := Dg.E8_all _
      generalize hDG : nats (dig prev ds) = DG at *
      generalize hE8 : Dg.E8 DG = E8 at *
      generalize (pcs ds).length = L0 at *
      gi_wp2_with fail
      refine ⟨trivial, ?_⟩
      refine (unhide HDi).mono ?_
      rintro e W5 ⟨rfl, h5, hs5⟩
      obtain ⟨v', W7, hr7, q7, d7, r7, g7, s7⟩ := unhide HF W5 ⟨h5, hs5⟩
      obtain ⟨ya, yc, ev7, _⟩ := id r7
      have hvL : (enc prev ds).length = (enc prev ds).length := rfl
      subst ev7
      have HR7 := hide (And.intro d7 (And.intro r7 (And.intro g7 s7)))
      clear HF HDi h5 hs5 r7 g7 s7 d7 hvL
      generalize hEL : (enc prev ds).length = EL at *
      gi_wp2_with fail
      apply one_way
      case go =>
        intro key
        refine Code.wpIn_mono NoPanic.imp ?_
        gi_region_with fail
        all_goals
          refine NoPanic.normal ?_
          exact unhide key
      case all =>
        gi_wp2_with fail
        obtain ⟨d7, r7, g7, s7⟩ := unhide HR7
        rw [unhide HW2] at d7 r7 g7 s7
        simp only [Act.put, List.getElem_toArray, List.getElem_cons_zero, List.getElem_cons_succ, List.setIfInBounds_toArray, List.set_cons_zero, List.set_cons_succ]
        refine ⟨by simp, .inl ⟨_, _, rfl, run_takeDeferred d7, ?_⟩⟩
        refine ⟨.slice ya EL yc, by simp [results, Tryz.results61], ?_⟩
        refine ⟨.slice ya EL yc, rfl, r7, ?_, s7⟩
        rw [hDG]
        exact g7
  have hb1 : Below w.heap.size w ((w.alloc (.cells #[.slice (some ⟨w.heap.size + 1, 0, none⟩) 0 C] 39)).alloc (.cells Z 5)).drew := (((Below.refl _ _).alloc (Nat.le_refl _) _).alloc (by simp) _).drew
  have hb2 : Below w.heap.size w ((w.alloc (.cells Z 5)).alloc (.cells #[.slice (some ⟨w.heap.size, 0, none⟩) 0 C] 39)).drew := (((Below.refl _ _).alloc (Nat.le_refl _) _).alloc (by simp) _).drew
  have hx1 : ∀ (o p : Obj), ((w.alloc o).alloc p).drew.heap[w.heap.size]? = some o := fun o p => by
    show ((w.alloc o).alloc p).heap[w.heap.size]? = some o
    rw [Below.heap_alloc _ _ _ (by simp)]; exact heap_alloc_new _ _
  have hx2 : ∀ (o p : Obj), ((w.alloc o).alloc p).drew.heap[w.heap.size + 1]? = some p := fun o p => by
    show ((w.alloc o).alloc p).heap[w.heap.size + 1]? = some p
    have := heap_alloc_new (w.alloc o) p
    rwa [World.size_alloc] at this
  have HX := hide (And.intro hb1 (And.intro hb2 (And.intro hx1 hx2)))
  clear hb1 hb2 hx1 hx2
  refine Code.wpIn_mono NoPanic.imp ?_
  gi_region_with (refine ⟨trivial, ?_⟩; (first | refine (unhide HWt _ (unhide HB).1).mono ?_ | refine (unhide HWt _ (unhide HB).2).mono ?_); rintro e W1 ⟨rfl, rfl⟩)
  all_goals refine NoPanic.normal ?_
  all_goals first
    | exact unhide key _ w.heap.size (w.heap.size + 1) (unhide HEn _ _ _ (unhide HX).1 ((unhide HX).2.2.1 _ _) (Nat.le_refl _) (by omega) ((unhide HX).2.2.2 _ _))
    | exact unhide key _ (w.heap.size + 1) w.heap.size (unhide HEn _ _ _ (unhide HX).2.1 ((unhide HX).2.2.2 _ _) (by omega) (Nat.le_refl _) ((unhide HX).2.2.1 _ _))
end Go.Proofs.YtebcmicmklpflaaGreatDoor
