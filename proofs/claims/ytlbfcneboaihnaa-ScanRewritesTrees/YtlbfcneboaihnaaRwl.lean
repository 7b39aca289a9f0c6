/- ScanRewritesTrees: one path's digits in the place of another one's, in a tree: the law's walk. -/
import Derived.Test.YtlbfcneboaihnaaRwr
import Derived.Test.YtlbfcneboaihnaaKn
import Derived.Test.YtlbfcneboaihnaaTnEq
import Derived.Test.YtlbfcneboaihnaaK4
namespace Go.Proofs.Ytlbfcneboaihnaa
open Go.RowKit Go.Great Tn
set_option linter.unusedSimpArgs false
theorem errT_zero {T : Tr} {p q : List Nat} (h : errT T p q = 0) : (chk T 1 0).1 = 0 ∧ Sha.isPth p ∧ Sha.isPth q := by
  unfold errT at h
  split at h
  · rename_i h1; exact absurd h h1
  · rename_i h1
    split at h
    · omega
    · rename_i h2
      have h3 := Classical.not_not.1 h2
      exact ⟨Classical.not_not.1 h1, h3.1, h3.2⟩
theorem errT_fit {T : Tr} {p q : List Nat} (hct : (chk T 1 0).1 = 0 → cn T ≤ 300 ∧ cb T ≤ 4000) (h : errT T p q = 0) : Fit (rwD (p.take 32) (q.take 32) T) := by
  obtain ⟨h0, h1, h2⟩ := errT_zero h
  have hvl := (chk_vld T 1 0 h0).1
  have hFl : (p.take 32).length = 32 := by rw [List.length_take]; have := h1.1; omega
  have hDl : (q.take 32).length = 32 := by rw [List.length_take]; have := h2.1; omega
  obtain ⟨C0, hS0, hE0⟩ := rwD_srt (p.take 32) (q.take 32) T hvl
  rw [hE0]
  exact (Sml.dat hFl hDl (hS0.sml hFl hDl (sml_of hvl (hct h0).1 (hct h0).2))).fit
theorem zero_lies (lo hi : Nat) (w : World) : Lies lo hi w (.mk 0 false ⟨#[]⟩ [] []) [.int .i64 0, .bool false, .slice none 0 0, .slice none 0 0, .slice none 0 0] :=
  .mk 0 false ⟨#[]⟩ [] [] _ _ _ [] rfl ⟨none, 0, rfl, Nat.le_refl _, fun h => absurd h (Nat.lt_irrefl _)⟩ ⟨none, 0, rfl, Nat.le_refl _, fun h => absurd h (Nat.lt_irrefl _)⟩ ⟨none, 0, rfl, Nat.le_refl _, fun h => absurd h (Nat.lt_irrefl _)⟩ fun i t c h => by simp at h
theorem zero_fit : Fit (.mk 0 false ⟨#[]⟩ [] []) := .mk 0 false ⟨#[]⟩ [] [] (by show 0 ≤ _; omega) (by simp) (fun s h => by simp at h) (by simp) fun t h => by simp at h
/-- What a rewriting answers, as one form. -/
noncomputable def RtV (T : Tr) (p q : List Nat) : Tr × Nat × Nat := open Classical in if errT T p q = 0 then (rwD (p.take 32) (q.take 32) T, rcA (p.take 32) T, 0) else (.mk 0 false ⟨#[]⟩ [] [], 0, errT T p q)
theorem rt_form {w w' : World} {T : Tr} {p q : List Nat} {e : Ending} (h : RtIs w T p q e w') : ∃ k x a1 n1 c1 a2 n2 c2 a3 n3 c3, e = .returned (.tuple #[.agg #[.int .i64 k, .bool x, .slice a1 n1 c1, .slice a2 n2 c2, .slice a3 n3 c3], .int .i64 ((RtV T p q).2.1 : Nat), .int .i64 ((RtV T p q).2.2 : Nat)]) ∧ Lies w.heap.size w'.heap.size w' (RtV T p q).1 [.int .i64 k, .bool x, .slice a1 n1 c1, .slice a2 n2 c2, .slice a3 n3 c3] := by
  unfold RtV
  rcases h.2 with ⟨h0, cs, he, hL⟩ | ⟨h0, he⟩
  · rw [if_pos h0]
    obtain ⟨k, x, a1, n1, c1, a2, n2, c2, a3, n3, c3, rfl⟩ := hL.form
    exact ⟨k, x, a1, n1, c1, a2, n2, c2, a3, n3, c3, he, hL⟩
  · rw [if_neg h0]
    exact ⟨0, false, none, 0, 0, none, 0, 0, none, 0, 0, he, zero_lies _ _ _⟩
theorem rt_fit {T : Tr} {p q : List Nat} (hct : (chk T 1 0).1 = 0 → cn T ≤ 300 ∧ cb T ≤ 4000) : Fit (RtV T p q).1 := by
  unfold RtV
  by_cases h0 : errT T p q = 0
  · rw [if_pos h0]; exact errT_fit hct h0
  · rw [if_neg h0]; exact zero_fit
set_option maxRecDepth 20000 in
set_option maxHeartbeats 1000000 in
theorem rewTrees_walk (T : Tr) (cs : List Value) (s1 s2 : ByteArray) (w : World) (hL : Lies 0 w.heap.size w T cs) (hF : Fit T) (hs1 : s1.size ≤ 140737488351232) (hs2 : s2.size ≤ 140737488351232) (hmx : ∃ m, w.cell? ⟨0, 0, none⟩ = some (.int .i64 m)) :
    Calls Try.prog 6 #[.agg cs.toArray, .string s1, .string s2] w fun e w' => e = .returned (.bool true) ∧ Below w.heap.size w w' := by
  obtain ⟨p, hp, rfl⟩ : ∃ p, Sha.Bytes p ∧ strOf p = s1 := ⟨bytesOf s1, bytesOf_bytes s1, strOf_bytesOf s1⟩
  obtain ⟨q, hq, rfl⟩ : ∃ q, Sha.Bytes q ∧ strOf q = s2 := ⟨bytesOf s2, bytesOf_bytes s2, strOf_bytesOf s2⟩
  rw [strOf_size] at hs1 hs2
  obtain ⟨kt, xt, at0, nt, ct, bt, mt, dt, et, pt, qt, rfl⟩ := hL.form
  have HH := hide (fun W (h : Below w.heap.size w W) => heavy_any T 0 w.heap.size _ W (hL.kept h (Nat.le_refl _)) hF h.size)
  have HC := hide (fun W (h : Below w.heap.size w W) => cloneR_any T 0 w.heap.size _ W (hL.kept h (Nat.le_refl _)) hF h.size)
  have HL := hide (And.intro hL (And.intro hF (And.intro hp (And.intro hq hmx))))
  obtain ⟨wA, hwA⟩ : ∃ wA, wA = w.alloc (.cells #[.int .i64 kt, .bool xt, .slice at0 nt ct, .slice bt mt dt, .slice et pt qt] 34) := ⟨_, rfl⟩
  have hbA : Below w.heap.size w wA := by rw [hwA]; exact (Below.refl _ _).alloc (Nat.le_refl _) _
  have hxA : wA.heap[w.heap.size]? = some (.cells #[.int .i64 kt, .bool xt, .slice at0 nt ct, .slice bt mt dt, .slice et pt qt] 34) := by rw [hwA]; exact bx_new w _ _ _ _ _
  have HA := hide (And.intro hbA hxA)
  have HwA := hide hwA
  clear hL hF hp hq hmx hbA hxA hwA
  go_enter Try.func6, Try.ntmps6
  go_wp2_with fail
  rw [← unhide HwA]
  refine (unhide HH wA (unhide HA).1).mono ?_
  rintro e1 w1 ⟨hb1, hans⟩
  have hzA := (Array.getElem?_eq_some_iff.1 (unhide HA).2).1
  have hx1 : w1.heap[w.heap.size]? = some (.cells #[.int .i64 kt, .bool xt, .slice at0 nt ct, .slice bt mt dt, .slice et pt qt] 34) := by rw [hb1.block _ hzA]; exact (unhide HA).2
  have hbw1 : Below w.heap.size w w1 := (unhide HA).1.trans (hb1.mono (unhide HA).1.size)
  have HB1 := hide hbw1
  have HX1 := hide hx1
  have hz1 : w.heap.size < w1.heap.size := (Array.getElem?_eq_some_iff.1 hx1).1
  clear hb1 hbw1 HA HwA HH hzA
  rcases hans with rfl | ⟨rfl, hn300, hb4000⟩
  · clear hx1
    go_wp2_with fail
    go_ret
    exact ⟨rfl, unhide HB1⟩
  by_cases h3 : p.length + q.length ≤ 300
  case neg =>
    clear hx1
    go_wp2_with fail
    go_ret
    exact ⟨rfl, unhide HB1⟩
  have HCt : Hid ((chk T 1 0).1 = 0 → cn T ≤ 300 ∧ cb T ≤ 4000) := fun h0 => by
    unfold countS at hn300 hb4000
    rw [if_pos h0] at hn300 hb4000
    exact ⟨hn300, hb4000⟩
  obtain ⟨y0, y1, y2, y3, y4⟩ := box_cells hx1
  have HC1 := hide (unhide HC w1 (unhide HB1))
  clear hx1 hn300 hb4000
  go_wp2_with fail
  refine (unhide HC1).mono ?_
  rintro e w2 ⟨cs2, rfl, hb2, hL2⟩
  obtain ⟨kt2, xt2, a2, n2, c2, a3, n3, c3, a4, n4, c4, rfl⟩ := hL2.form
  have hx2 : w2.heap[w.heap.size]? = some (.cells #[.int .i64 kt, .bool xt, .slice at0 nt ct, .slice bt mt dt, .slice et pt qt] 34) := by rw [hb2.block _ hz1]; exact unhide HX1
  have hbw2 : Below w.heap.size w w2 := (unhide HB1).trans (hb2.mono (unhide HB1).size)
  have hz2 : w.heap.size < w2.heap.size := (Array.getElem?_eq_some_iff.1 hx2).1
  obtain ⟨w3, hw3⟩ : ∃ w3, w3 = w2.alloc (.cells #[.int .i64 kt2, .bool xt2, .slice a2 n2 c2, .slice a3 n3 c3, .slice a4 n4 c4] 34) := ⟨_, rfl⟩
  have HW3 := hide hw3
  have hb3 : Below w2.heap.size w2 w3 := by rw [hw3]; exact (Below.refl _ _).alloc (Nat.le_refl _) _
  have hs3 : w3.heap.size = w2.heap.size + 1 := by rw [hw3]; simp
  have hy3 : w3.heap[w2.heap.size]? = some (.cells #[.int .i64 kt2, .bool xt2, .slice a2 n2 c2, .slice a3 n3 c3, .slice a4 n4 c4] 34) := by rw [hw3]; exact bx_new w2 _ _ _ _ _
  have hx3 : w3.heap[w.heap.size]? = some (.cells #[.int .i64 kt, .bool xt, .slice at0 nt ct, .slice bt mt dt, .slice et pt qt] 34) := by rw [hb3.block _ hz2]; exact hx2
  have hbw3 : Below w.heap.size w w3 := hbw2.trans (hb3.mono hbw2.size)
  obtain ⟨hL, hF, hp, hq, hmx⟩ := unhide HL
  have hL3 := hL2.kept hb3 (Nat.le_refl _)
  have hz12 := hb2.size
  have HW1 := hide (rewriteTree_any T w1.heap.size w2.heap.size _ p q w3 hL3 hF (by omega) (by omega) (unhide HCt) hp (by omega) hq (by omega) (by obtain ⟨m, hm⟩ := hmx; exact ⟨m, by rw [hbw3.cell (p := ⟨0, 0, none⟩) (cell_lt hm)]; exact hm⟩))
  have HBox : Hid (∀ W, Below w3.heap.size w3 W → (W.cell? ⟨w.heap.size, 0, none⟩ = some (.int .i64 kt) ∧ W.cell? ⟨w.heap.size, 1, none⟩ = some (.bool xt) ∧ W.cell? ⟨w.heap.size, 2, none⟩ = some (.slice at0 nt ct) ∧ W.cell? ⟨w.heap.size, 3, none⟩ = some (.slice bt mt dt) ∧ W.cell? ⟨w.heap.size, 4, none⟩ = some (.slice et pt qt)) ∧ (W.cell? ⟨w2.heap.size, 0, none⟩ = some (.int .i64 kt2) ∧ W.cell? ⟨w2.heap.size, 1, none⟩ = some (.bool xt2) ∧ W.cell? ⟨w2.heap.size, 2, none⟩ = some (.slice a2 n2 c2) ∧ W.cell? ⟨w2.heap.size, 3, none⟩ = some (.slice a3 n3 c3) ∧ W.cell? ⟨w2.heap.size, 4, none⟩ = some (.slice a4 n4 c4))) := fun W hW =>
    ⟨box_cells (by rw [hW.block _ (by omega)]; exact hx3), box_cells (by rw [hW.block _ (by omega)]; exact hy3)⟩
  have HW2 : Hid (∀ W, Below w3.heap.size w3 W → Calls Try.prog 23 #[.agg #[.int .i64 kt, .bool xt, .slice at0 nt ct, .slice bt mt dt, .slice et pt qt], .string (strOf p), .string (strOf q)] W fun e w' => RtIs W T p q e w') := fun W hW => by
    have hbW : Below w.heap.size w W := hbw3.trans (hW.mono hbw3.size)
    exact rewriteTreeR_any T 0 w.heap.size _ p q W (hL.kept hbW (Nat.le_refl _)) hF hbW.size (unhide HCt) hp (by omega) hq (by omega)
  have HEq : Hid (∀ W, Below w3.heap.size w3 W → Calls Try.prog 17 #[.agg #[.int .i64 kt2, .bool xt2, .slice a2 n2 c2, .slice a3 n3 c3, .slice a4 n4 c4], .agg #[.int .i64 kt, .bool xt, .slice at0 nt ct, .slice bt mt dt, .slice et pt qt]] W fun e w' => e = .returned (.bool true) ∧ Below W.heap.size W w') := fun W hW => by
    have hbW : Below w.heap.size w W := hbw3.trans (hW.mono hbw3.size)
    refine (equal_any T T w1.heap.size w2.heap.size 0 w.heap.size _ _ W (hL3.kept hW (by omega)) (hL.kept hbW (Nat.le_refl _)) hF hF (by have := hW.size; omega) hbW.size).mono fun e w' ⟨h1, h2⟩ => ⟨?_, h1⟩
    rcases h2 with ⟨_, h⟩ | ⟨h, _⟩
    · exact h
    · exact absurd rfl h
  have HB3 := hide hbw3
  obtain ⟨⟨y0, y1, y2, y3, y4⟩, x0, x1, x2, x3, x4⟩ := unhide HBox w3 (Below.refl _ _)
  clear hw3 hb3 hs3 hy3 hL2 hx2 hbw2 hb2 hx3 hbw3 hL hF hp hq hmx hL3 HL HX1 HC HC1 hz12
  go_wp2_with fail
  rw [← unhide HW3]
  refine (unhide HW1).mono ?_
  rintro e w4 hR4
  obtain ⟨ka, xa, f1, g1, h1, f2, g2, h2, f3, g3, h3', rfl, hLa⟩ := rt_form hR4
  have hb4 := hR4.1
  have hz4 := hb4.size
  have HLa := hide (And.intro hLa hb4)
  clear hLa hb4 hR4 HW1
  obtain ⟨U, N, Z, hV⟩ : ∃ U N Z, RtV T p q = (U, N, Z) := ⟨_, _, _, rfl⟩
  have HFU := hide (rt_fit (p := p) (q := q) (unhide HCt))
  rw [hV] at HLa HFU ⊢
  simp only [] at HLa HFU ⊢
  have HV := hide hV
  clear hV
  obtain ⟨⟨q0, q1, q2, q3, q4⟩, -⟩ := unhide HBox w4 (unhide HLa).2
  obtain ⟨w5, hw5⟩ : ∃ w5, w5 = w4.alloc (.cells #[.int .i64 ka, .bool xa, .slice f1 g1 h1, .slice f2 g2 h2, .slice f3 g3 h3'] 34) := ⟨_, rfl⟩
  have hb5 : Below w4.heap.size w4 w5 := by rw [hw5]; exact (Below.refl _ _).alloc (Nat.le_refl _) _
  have hb35 : Below w3.heap.size w3 w5 := (unhide HLa).2.trans (hb5.mono hz4)
  have hx5 : w5.heap[w4.heap.size]? = some (.cells #[.int .i64 ka, .bool xa, .slice f1 g1 h1, .slice f2 g2 h2, .slice f3 g3 h3'] 34) := by rw [hw5]; exact bx_new w4 _ _ _ _ _
  have hz5 : w5.heap.size = w4.heap.size + 1 := by rw [hw5]; simp
  have HR5 := hide (unhide HW2 w5 hb35)
  have HW5 := hide hw5
  have H5 := hide (And.intro hb5 (And.intro hb35 hx5))
  have hl4 : w.heap.size < w4.heap.size := cell_lt q0
  clear hw5 hb5 hb35 hx5 HW2
  go_wp2_with fail
  rw [← unhide HW5]
  refine (unhide HR5).mono ?_
  rintro e w6 hR6
  obtain ⟨kb, xb, i1, j1, l1, i2, j2, l2, i3, j3, l3, rfl, hLb⟩ := rt_form hR6
  have hb6 := hR6.1
  rw [unhide HV] at hLb ⊢
  simp only [] at hLb ⊢
  have hz6 := hb6.size
  obtain ⟨w7, hw7⟩ : ∃ w7, w7 = w6.alloc (.cells #[.int .i64 kb, .bool xb, .slice i1 j1 l1, .slice i2 j2 l2, .slice i3 j3 l3] 34) := ⟨_, rfl⟩
  have hb7 : Below w6.heap.size w6 w7 := by rw [hw7]; exact (Below.refl _ _).alloc (Nat.le_refl _) _
  have hz7 : w7.heap.size = w6.heap.size + 1 := by rw [hw7]; simp
  have hx7 : w7.heap[w6.heap.size]? = some (.cells #[.int .i64 kb, .bool xb, .slice i1 j1 l1, .slice i2 j2 l2, .slice i3 j3 l3] 34) := by rw [hw7]; exact bx_new w6 _ _ _ _ _
  obtain ⟨hb5, hb35, hx5⟩ := unhide H5
  have hb57 : Below w5.heap.size w5 w7 := hb6.trans (hb7.mono hz6)
  have hb37 : Below w3.heap.size w3 w7 := hb35.trans (hb57.mono hb35.size)
  have ha7 : w7.heap[w4.heap.size]? = some (.cells #[.int .i64 ka, .bool xa, .slice f1 g1 h1, .slice f2 g2 h2, .slice f3 g3 h3'] 34) := by rw [hb57.block _ (by omega)]; exact hx5
  have hLa7 := ((unhide HLa).1.kept hb5 (Nat.le_refl _)).kept hb57 (by omega)
  have hLb7 := hLb.kept hb7 (Nat.le_refl _)
  have HEab : Hid (∀ W, Below w7.heap.size w7 W → Calls Try.prog 17 #[.agg #[.int .i64 ka, .bool xa, .slice f1 g1 h1, .slice f2 g2 h2, .slice f3 g3 h3'], .agg #[.int .i64 kb, .bool xb, .slice i1 j1 l1, .slice i2 j2 l2, .slice i3 j3 l3]] W fun e w' => e = .returned (.bool true) ∧ Below W.heap.size W w') := fun W hW => by
    refine (equal_any U U w3.heap.size w4.heap.size w5.heap.size w6.heap.size _ _ W (hLa7.kept hW (by omega)) (hLb7.kept hW (by omega)) (unhide HFU) (unhide HFU) (by have := hW.size; omega) (by have := hW.size; omega)).mono fun e w' ⟨h1, h2⟩ => ⟨?_, h1⟩
    rcases h2 with ⟨_, h⟩ | ⟨h, _⟩
    · exact h
    · exact absurd rfl h
  have HB7 : Hid (∀ W, Below w7.heap.size w7 W → ((W.cell? ⟨w4.heap.size, 0, none⟩ = some (.int .i64 ka) ∧ W.cell? ⟨w4.heap.size, 1, none⟩ = some (.bool xa) ∧ W.cell? ⟨w4.heap.size, 2, none⟩ = some (.slice f1 g1 h1) ∧ W.cell? ⟨w4.heap.size, 3, none⟩ = some (.slice f2 g2 h2) ∧ W.cell? ⟨w4.heap.size, 4, none⟩ = some (.slice f3 g3 h3')) ∧ (W.cell? ⟨w6.heap.size, 0, none⟩ = some (.int .i64 kb) ∧ W.cell? ⟨w6.heap.size, 1, none⟩ = some (.bool xb) ∧ W.cell? ⟨w6.heap.size, 2, none⟩ = some (.slice i1 j1 l1) ∧ W.cell? ⟨w6.heap.size, 3, none⟩ = some (.slice i2 j2 l2) ∧ W.cell? ⟨w6.heap.size, 4, none⟩ = some (.slice i3 j3 l3))) ∧ Below w3.heap.size w3 W) := fun W hW =>
    ⟨⟨box_cells (by rw [hW.block _ (by omega)]; exact ha7), box_cells (by rw [hW.block _ (by omega)]; exact hx7)⟩, hb37.trans (hW.mono hb37.size)⟩
  have ha6 : w6.heap[w4.heap.size]? = some (.cells #[.int .i64 ka, .bool xa, .slice f1 g1 h1, .slice f2 g2 h2, .slice f3 g3 h3'] 34) := by rw [hb6.block _ (by omega)]; exact hx5
  have hl6 : w4.heap.size < w6.heap.size := by omega
  have HW7 := hide hw7
  clear hw7 hb7 hx7 hb5 hb35 hx5 hb57 hb37 ha7 hLa7 hLb7 hLb hb6 hR6 HR5 HLa HFU q0 q1 q2 q3 q4
  obtain ⟨q0, q1, q2, q3, q4⟩ := box_cells ha6
  clear ha6
  go_wp2_with fail
  rw [← unhide HW7]
  refine (unhide HEab w7 (Below.refl _ _)).mono ?_
  rintro e8 w8 ⟨rfl, hb8⟩
  have hb38 := (unhide HB7 w8 hb8).2
  obtain ⟨⟨y0', y1', y2', y3', y4'⟩, x0', x1', x2', x3', x4'⟩ := unhide HBox w8 hb38
  have HB8 := hide hb38
  clear hb8 hb38 q0 q1 q2 q3 q4 HEab HB7
  go_wp2_with fail
  refine (unhide HEq w8 (unhide HB8)).mono ?_
  rintro e9 w9 ⟨rfl, hb9⟩
  have HB9 := hide ((unhide HB3).trans (((unhide HB8).trans (hb9.mono (unhide HB8).size)).mono (unhide HB3).size))
  clear hb9 HEq HBox y0' y1' y2' y3' y4' x0' x1' x2' x3' x4'
  go_wp2_with fail
  refine (known_any w9).mono ?_
  rintro e10 w10 ⟨rfl, hb10⟩
  have HB10 := hide ((unhide HB9).trans (hb10.mono (unhide HB9).size))
  clear hb10
  go_wp2_with fail
  go_ret
  exact ⟨rfl, unhide HB10⟩
end Go.Proofs.Ytlbfcneboaihnaa
