/- ScanTrees: which of some paths stand in a tree: the document's TreeRefs, and the law's walk. -/
import Derived.Test.YtlbfcneboaihnaaRft
import Derived.Test.YtlbfcneboaihnaaKn
import Derived.Test.YtlbfcneboaihnaaPaths
import Derived.Test.YtlbfcneboaihnaaK4
namespace Go.Proofs.Ytlbfcneboaihnaa
open Go.RowKit Go.Great
set_option linter.unusedSimpArgs false
set_option maxRecDepth 20000 in
set_option maxHeartbeats 1000000 in
theorem treeRefsR_any (T : Tn.Tr) (lo hi : Nat) (cs : List Value) (a' : Option Addr) (m c' : Nat) (of : List Ord.S) (w : World) (hL : Tn.Lies lo hi w T cs) (hF : Tn.Fit T) (hhi : hi ≤ w.heap.size)
    (hx : StrsAt w (.slice a' m c') of) (hm : of.length = m) (hz : ∀ z ∈ of, z.length ≤ 281474976710656) (hmax : m ≤ 1000) :
    Calls Try.prog 16 #[.agg cs.toArray, .slice a' m c'] w fun e w' => ∃ u, e = .returned u ∧ StrsAt w' u (trefs T of) ∧ Below w.heap.size w w' := by
  obtain ⟨kt, xt, at0, nt, ct, bt, mt, dt, et, pt, qt, rfl⟩ := hL.form
  obtain ⟨wA, hwA⟩ : ∃ wA, wA = w.alloc (.cells #[.int .i64 kt, .bool xt, .slice at0 nt ct, .slice bt mt dt, .slice et pt qt] 34) := ⟨_, rfl⟩
  have hbA : Below w.heap.size w wA := by rw [hwA]; exact (Below.refl _ _).alloc (Nat.le_refl _) _
  have HC := hide (fun W (h : Below w.heap.size w W) => Tn.checkR_any T lo hi _ W (hL.kept h hhi) hF (by have := h.size; omega))
  have HRs := hide (fun W (h : Below w.heap.size w W) (hv : Tn.Vld T) => refsTr_any T lo hi _ a' m c' of W (hL.kept h hhi) hF hv (by have := h.size; omega) (hx.below h) hm hz hmax)
  have hxA : wA.heap[w.heap.size]? = some (.cells #[.int .i64 kt, .bool xt, .slice at0 nt ct, .slice bt mt dt, .slice et pt qt] 34) := by rw [hwA]; exact Tn.bx_new w _ _ _ _ _
  have HA := hide (And.intro hbA hxA)
  have HwA := hide hwA
  clear hwA hbA hxA hL hF hx hz hm
  go_enter Try.func16, Try.ntmps16
  go_wp2_with fail
  rw [← unhide HwA]
  refine (unhide HC wA (unhide HA).1).mono ?_
  rintro e w1 ⟨rfl, hb1⟩
  have hzA := (Array.getElem?_eq_some_iff.1 (unhide HA).2).1
  have hx1 : w1.heap[w.heap.size]? = some (.cells #[.int .i64 kt, .bool xt, .slice at0 nt ct, .slice bt mt dt, .slice et pt qt] 34) := by rw [hb1.block _ hzA]; exact (unhide HA).2
  have hbw1 : Below w.heap.size w w1 := (unhide HA).1.trans (hb1.mono (unhide HA).1.size)
  have HB1 := hide hbw1
  have HTr : Hid (trefs T of = if (Tn.chk T 1 0).1 = 0 then refsT (pcs T) of else []) := rfl
  obtain ⟨y0, y1, y2, y3, y4⟩ := box_cells hx1
  clear HC hb1 hbw1 hx1 HwA HA hzA
  by_cases hc1 : (Tn.chk T 1 0).1 = 0
  case neg =>
    rw [if_neg hc1] at HTr
    have hn1 : ¬ (((Tn.chk T 1 0).1 : Int) = 0) := by omega
    clear hc1
    generalize (Tn.chk T 1 0).1 = c1 at *
    go_wp2_with fail
    go_ret
    exact ⟨_, rfl, by rw [unhide HTr]; exact ⟨none, 0, rfl, Nat.le_refl _, fun h => by simp at h⟩, unhide HB1⟩
  rw [if_pos hc1] at HTr
  have HR1 := hide (unhide HRs w1 (unhide HB1) (Tn.chk_vld T 1 0 hc1).1)
  rw [hc1]
  clear hc1 HRs
  go_wp2_with fail
  refine (unhide HR1).mono ?_
  rintro e w2 ⟨u, rfl, hu, hb2⟩
  have HE : Hid (StrsAt w2 u (trefs T of) ∧ Below w.heap.size w w2) := ⟨by rw [unhide HTr]; exact hu.1, (unhide HB1).trans (hb2.mono (unhide HB1).size)⟩
  clear hu hb2 HR1
  go_wp2_with fail
  go_ret
  exact ⟨_, rfl, unhide HE⟩
theorem trefs_length (T : Tn.Tr) (of : List Ord.S) : (trefs T of).length ≤ of.length := by
  unfold trefs
  split
  · exact refsT_length _ _
  · simp
set_option maxRecDepth 20000 in
set_option maxHeartbeats 1000000 in
theorem trees_walk (T : Tn.Tr) (cs : List Value) (p : Option Addr) (k e : Nat) (of : List Ord.S) (w : World) (hL : Tn.Lies 0 w.heap.size w T cs) (hF : Tn.Fit T)
    (hp : StrsAt w (.slice p k e) of) (hk : of.length = k) (hkz : k ≤ 9223372036854775807) (hz : ∀ z ∈ of, z.length ≤ 140737488351232) :
    Calls Try.prog 4 #[.agg cs.toArray, .slice p k e] w fun e w' => e = .returned (.bool true) ∧ Below w.heap.size w w' := by
  obtain ⟨kt, xt, at0, nt, ct, bt, mt, dt, et, pt, qt, rfl⟩ := hL.form
  have HH := hide (fun W (h : Below w.heap.size w W) => Tn.heavy_any T 0 w.heap.size _ W (hL.kept h (Nat.le_refl _)) hF h.size)
  have HC := hide (fun W (h : Below w.heap.size w W) => Tn.cloneR_any T 0 w.heap.size _ W (hL.kept h (Nat.le_refl _)) hF h.size)
  have HL := hide (And.intro hL (And.intro hF (And.intro hp (And.intro hk hz))))
  obtain ⟨wA, hwA⟩ : ∃ wA, wA = w.alloc (.cells #[.int .i64 kt, .bool xt, .slice at0 nt ct, .slice bt mt dt, .slice et pt qt] 34) := ⟨_, rfl⟩
  have hbA : Below w.heap.size w wA := by rw [hwA]; exact (Below.refl _ _).alloc (Nat.le_refl _) _
  have hxA : wA.heap[w.heap.size]? = some (.cells #[.int .i64 kt, .bool xt, .slice at0 nt ct, .slice bt mt dt, .slice et pt qt] 34) := by rw [hwA]; exact Tn.bx_new w _ _ _ _ _
  have HA := hide (And.intro hbA hxA)
  have HwA := hide hwA
  clear hL hF hp hk hz hbA hxA hwA
  go_enter Try.func4, Try.ntmps4
  go_wp2_with fail
  rw [← unhide HwA]
  refine (unhide HH wA (unhide HA).1).mono ?_
  rintro e1 w1 ⟨hb1, hans⟩
  have hzA := (Array.getElem?_eq_some_iff.1 (unhide HA).2).1
  have hx1 : w1.heap[w.heap.size]? = some (.cells #[.int .i64 kt, .bool xt, .slice at0 nt ct, .slice bt mt dt, .slice et pt qt] 34) := by rw [hb1.block _ hzA]; exact (unhide HA).2
  have hbw1 : Below w.heap.size w w1 := (unhide HA).1.trans (hb1.mono (unhide HA).1.size)
  have HB1 := hide hbw1
  have HX1 := hide hx1
  have hz1 : w.heap.size < w1.heap.size := (Array.getElem?_eq_some_iff.1 hx1).1
  clear hb1 hbw1 HA HwA HH hzA
  rcases hans with rfl | ⟨rfl, -, -⟩
  · clear hx1
    go_wp2_with fail
    go_ret
    exact ⟨rfl, unhide HB1⟩
  by_cases hk50 : k ≤ 50
  case neg =>
    clear hx1
    have hk50' : ¬ ((k : Int) ≤ 50) := by omega
    go_wp2_with fail
    go_ret
    exact ⟨rfl, unhide HB1⟩
  obtain ⟨y0, y1, y2, y3, y4⟩ := box_cells hx1
  have HC1 := hide (unhide HC w1 (unhide HB1))
  clear hx1
  go_wp2_with fail
  refine (unhide HC1).mono ?_
  rintro e w2 ⟨cs2, rfl, hb2, hL2⟩
  obtain ⟨kt2, xt2, a2, n2, c2, a3, n3, c3, a4, n4, c4, rfl⟩ := hL2.form
  have hx2 : w2.heap[w.heap.size]? = some (.cells #[.int .i64 kt, .bool xt, .slice at0 nt ct, .slice bt mt dt, .slice et pt qt] 34) := by rw [hb2.block _ hz1]; exact unhide HX1
  have hbw2 : Below w.heap.size w w2 := (unhide HB1).trans (hb2.mono (unhide HB1).size)
  have HL2 := hide (And.intro hL2 (And.intro hx2 (And.intro hbw2 hb2)))
  have hz2 : w.heap.size < w2.heap.size := (Array.getElem?_eq_some_iff.1 hx2).1
  clear hL2 hx2 hbw2 hb2 HC1 HC y0 y1 y2 y3 y4
  obtain ⟨w3, hw3⟩ : ∃ w3, w3 = w2.alloc (.cells #[.int .i64 kt2, .bool xt2, .slice a2 n2 c2, .slice a3 n3 c3, .slice a4 n4 c4] 34) := ⟨_, rfl⟩
  have HW3 := hide hw3
  have hb3 : Below w2.heap.size w2 w3 := by rw [hw3]; exact (Below.refl _ _).alloc (Nat.le_refl _) _
  have hs3 : w3.heap.size = w2.heap.size + 1 := by rw [hw3]; simp
  have hy3 : w3.heap[w2.heap.size]? = some (.cells #[.int .i64 kt2, .bool xt2, .slice a2 n2 c2, .slice a3 n3 c3, .slice a4 n4 c4] 34) := by rw [hw3]; exact Tn.bx_new w2 _ _ _ _ _
  obtain ⟨hL2, hx2, hbw2, hb2⟩ := unhide HL2
  have hx3 : w3.heap[w.heap.size]? = some (.cells #[.int .i64 kt, .bool xt, .slice at0 nt ct, .slice bt mt dt, .slice et pt qt] 34) := by rw [hb3.block _ hz2]; exact hx2
  have hbw3 : Below w.heap.size w w3 := hbw2.trans (hb3.mono hbw2.size)
  obtain ⟨hL, hF, hp, hk, hz⟩ := unhide HL
  have hL3 := hL2.kept hb3 (Nat.le_refl _)
  have hbd : Below w3.heap.size w3 w3.drew := (Below.refl _ _).drew
  have HBox : Hid (∀ W, Below w3.heap.size w3 W → (W.cell? ⟨w.heap.size, 0, none⟩ = some (.int .i64 kt) ∧ W.cell? ⟨w.heap.size, 1, none⟩ = some (.bool xt) ∧ W.cell? ⟨w.heap.size, 2, none⟩ = some (.slice at0 nt ct) ∧ W.cell? ⟨w.heap.size, 3, none⟩ = some (.slice bt mt dt) ∧ W.cell? ⟨w.heap.size, 4, none⟩ = some (.slice et pt qt)) ∧ (W.cell? ⟨w2.heap.size, 0, none⟩ = some (.int .i64 kt2) ∧ W.cell? ⟨w2.heap.size, 1, none⟩ = some (.bool xt2) ∧ W.cell? ⟨w2.heap.size, 2, none⟩ = some (.slice a2 n2 c2) ∧ W.cell? ⟨w2.heap.size, 3, none⟩ = some (.slice a3 n3 c3) ∧ W.cell? ⟨w2.heap.size, 4, none⟩ = some (.slice a4 n4 c4))) := fun W hW =>
    ⟨box_cells (by rw [hW.block _ (by omega)]; exact hx3), box_cells (by rw [hW.block _ (by omega)]; exact hy3)⟩
  have hz' : ∀ z ∈ of, z.length ≤ 281474976710656 := fun z hzz => by have := hz z hzz; omega
  have HT1 := hide (treeRefs_any T w1.heap.size w2.heap.size _ p k e of w3.drew (hL3.kept hbd (by omega)) hF (by show w2.heap.size ≤ w3.heap.size; omega) ((hp.below hbw3).below hbd) hk hz' (by omega))
  have HT2 : Hid (∀ W, Below w3.heap.size w3 W → Calls Try.prog 16 #[.agg #[.int .i64 kt, .bool xt, .slice at0 nt ct, .slice bt mt dt, .slice et pt qt], .slice p k e] W fun e w' => ∃ u, e = .returned u ∧ StrsAt w' u (trefs T of) ∧ Below W.heap.size W w') := fun W hW => by
    have hbW : Below w.heap.size w W := hbw3.trans (hW.mono hbw3.size)
    exact treeRefsR_any T 0 w.heap.size _ p k e of W (hL.kept hbW (Nat.le_refl _)) hF hbW.size (hp.below hbW) hk hz' (by omega)
  have HPt : Hid (∀ (W : World) (p1 p2 : Option Addr) (k1 k2 e1 e2 : Nat), StrsAt W (.slice p1 k1 e1) (trefs T of) → StrsAt W (.slice p2 k2 e2) (trefs T of) → Calls Try.prog 8 #[.slice p1 k1 e1, .slice p2 k2 e2] W fun e w' => e = .returned (.bool true) ∧ Below W.heap.size W w') := fun W p1 p2 k1 k2 e1 e2 h1 h2 => by
    have l1 : (trefs T of).length = k1 := by obtain ⟨_, _, e, _⟩ := id h1; injection e with _ e2 _; exact e2.symm
    have l2 : (trefs T of).length = k2 := by obtain ⟨_, _, e, _⟩ := id h2; injection e with _ e2 _; exact e2.symm
    have l3 := trefs_length T of
    refine (paths_any p1 p2 k1 k2 e1 e2 _ _ W h1 h2 l1 l2 (by omega) (by omega)).mono fun e w' ⟨⟨q, hq⟩, he⟩ => ⟨?_, ?_⟩
    · rw [he, decide_eq_true (rfl : trefs T of = trefs T of)]
    · rw [hq]; exact ⟨rfl, rfl, rfl, Nat.le_refl _, fun _ _ => rfl⟩
  have HEq : Hid (∀ W, Below w3.heap.size w3 W → Calls Try.prog 17 #[.agg #[.int .i64 kt2, .bool xt2, .slice a2 n2 c2, .slice a3 n3 c3, .slice a4 n4 c4], .agg #[.int .i64 kt, .bool xt, .slice at0 nt ct, .slice bt mt dt, .slice et pt qt]] W fun e w' => e = .returned (.bool true) ∧ Below W.heap.size W w') := fun W hW => by
    have hbW : Below w.heap.size w W := hbw3.trans (hW.mono hbw3.size)
    refine (Tn.equal_any T T w1.heap.size w2.heap.size 0 w.heap.size _ _ W (hL3.kept hW (by omega)) (hL.kept hbW (Nat.le_refl _)) hF hF (by have := hW.size; omega) hbW.size).mono fun e w' ⟨h1, h2⟩ => ⟨?_, h1⟩
    rcases h2 with ⟨_, h⟩ | ⟨h, _⟩
    · exact h
    · exact absurd rfl h
  have HB3 := hide hbw3
  have HD := hide hbd
  obtain ⟨⟨y0, y1, y2, y3, y4⟩, x0, x1, x2, x3, x4⟩ := unhide HBox w3 (Below.refl _ _)
  clear hw3 hb3 hs3 hy3 hL2 hx2 hbw2 hb2 hx3 hbw3 hL hF hp hk hz hL3 hbd hz' HL2 HL HX1
  go_wp2_with fail
  rw [← unhide HW3]
  go_region_law (first | (go_simp; refine (unhide HT1).mono ?_; rintro e4 w4 ⟨u4, rfl, hu4, hb4⟩; have hb4' := (unhide HD).trans (hb4.mono (unhide HD).size); obtain ⟨⟨y0', y1', y2', y3', y4'⟩, x0', x1', x2', x3', x4'⟩ := unhide HBox w4 hb4'; simp only []) | (go_simp; refine (unhide HT2 w4 hb4').mono ?_; rintro e5 w5 ⟨u5, rfl, hu5, hb5⟩; have hb5' := hb4'.trans (hb5.mono hb4'.size); have hu45 := hu4.below hb5; obtain ⟨p1, e1, rfl, _⟩ := id hu45; obtain ⟨p2, e2, rfl, _⟩ := id hu5; simp only []) | (go_simp; refine (unhide HPt w5 _ _ _ _ _ _ hu45 hu5).mono ?_; rintro e6 w6 ⟨rfl, hb6⟩; have hb6' := hb5'.trans (hb6.mono hb5'.size); obtain ⟨⟨y0'', y1'', y2'', y3'', y4''⟩, x0'', x1'', x2'', x3'', x4''⟩ := unhide HBox w6 hb6'; simp only []) | (go_simp; refine (unhide HEq w6 hb6').mono ?_; rintro e7 w7 ⟨rfl, hb7⟩; have hb7' := hb6'.trans (hb7.mono hb6'.size); simp only []) | (go_simp; refine (known_any w7).mono ?_; rintro e8 w8 ⟨rfl, hb8⟩; have hb8' := hb7'.trans (hb8.mono hb7'.size); simp only []))
  all_goals
    have HBB := hide ((unhide HB3).trans (hb8'.mono (unhide HB3).size))
    clear hb4 hb5 hb6 hb7 hb8 hb4' hb5' hb6' hb7' hb8' hu4 hu5 hu45 HT1 HT2 HPt HEq HBox
    go_wp2_with fail
    go_ret
    exact ⟨rfl, unhide HBB⟩
end Go.Proofs.Ytlbfcneboaihnaa
