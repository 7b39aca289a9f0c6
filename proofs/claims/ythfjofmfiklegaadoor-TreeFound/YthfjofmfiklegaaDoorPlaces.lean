/- TreePlaces, in the code. -/
import Derived.Test.YthfjofmfiklegaaDoorElse
import Derived.Test.YthfjofmfiklegaaDoorRefAt
import Derived.Test.YthfjofmfiklegaaDoorSpoilt
namespace Go.Proofs.YthfjofmfiklegaaDoor
open Go.RowKit
set_option linter.unusedSimpArgs false
theorem zero_own (lo hi : Nat) (w : World) : Own w lo hi zeroTr [.int .i64 0, .bool false, .slice none 0 0, .slice none 0 0, .slice none 0 0] := by
  have h : ∀ e size n xs, n = 0 → xs = ([] : List Value) → w.ownsRow lo e size (.slice none 0 0) n xs := fun e size n xs h1 h2 => by subst h1 h2; exact World.ownsRow_nil _ _ _ _
  exact .mk lo hi 0 false ⟨#[]⟩ [] [] _ _ _ [] (fun _ => 0) (fun _ => 0) rfl (h _ _ _ _ rfl rfl) (h _ _ _ _ rfl rfl) (h _ _ _ _ rfl rfl) (fun g hg => by simp [Value.ownBlock] at hg) (fun g hg => by simp [Value.ownBlock] at hg) (fun g hg => by simp [Value.ownBlock] at hg) (fun i t c h1 _ => by simp at h1) (fun i hi => by simp at hi) (fun i j _ hj => by simp at hj)
theorem putA_own {B : Nat} {r : Except Nat Tr} {e : Ending} {w' : World} (h : PutA B r e w') : ∃ k x a1 n1 c1 a2 n2 c2 a3 n3 c3, e = .returned (.tuple #[.agg #[.int .i64 k, .bool x, .slice a1 n1 c1, .slice a2 n2 c2, .slice a3 n3 c3], .int .i64 ((resN r : Nat) : Int)]) ∧ Own w' B w'.heap.size (resT r) [.int .i64 k, .bool x, .slice a1 n1 c1, .slice a2 n2 c2, .slice a3 n3 c3] := by
  cases r with
  | error n =>
    have he : e = .returned (.tuple #[.agg zeroT.toArray, .int .i64 (n : Int)]) := h
    exact ⟨0, false, none, 0, 0, none, 0, 0, none, 0, 0, he, zero_own _ _ _⟩
  | ok W =>
    obtain ⟨cs, he, hO⟩ : ∃ cs : List Value, e = .returned (.tuple #[.agg cs.toArray, .int .i64 0]) ∧ Own w' B w'.heap.size W cs := h
    obtain ⟨k, x, a1, n1, c1, a2, n2, c2, a3, n3, c3, rfl⟩ := hO.lies.form
    exact ⟨k, x, a1, n1, c1, a2, n2, c2, a3, n3, c3, he, hO⟩
theorem refA_res {B : Nat} {r : Except Nat Tr} {e : Ending} {w' : World} (h : RefA B r e w') : ∃ k x a1 n1 c1 a2 n2 c2 a3 n3 c3, e = .returned (.tuple #[.agg #[.int .i64 k, .bool x, .slice a1 n1 c1, .slice a2 n2 c2, .slice a3 n3 c3], .int .i64 ((resN r : Nat) : Int)]) ∧ Lies B w'.heap.size w' (resT r) [.int .i64 k, .bool x, .slice a1 n1 c1, .slice a2 n2 c2, .slice a3 n3 c3] := by
  cases r with
  | error n =>
    have he : e = .returned (.tuple #[.agg zeroT.toArray, .int .i64 (n : Int)]) := h
    exact ⟨0, false, none, 0, 0, none, 0, 0, none, 0, 0, he, zero_lies _ _ _⟩
  | ok W =>
    obtain ⟨cs, he, hL⟩ : ∃ cs : List Value, e = .returned (.tuple #[.agg cs.toArray, .int .i64 0]) ∧ Lies B w'.heap.size w' W cs := h
    obtain ⟨k, x, a1, n1, c1, a2, n2, c2, a3, n3, c3, rfl⟩ := hL.form
    exact ⟨k, x, a1, n1, c1, a2, n2, c2, a3, n3, c3, he, hL⟩
theorem heavy1 (T : Tr) (lo hi g : Nat) (t0 t1 t2 t3 t4 : Value) (w : World) (hT : Lies lo hi w T [t0, t1, t2, t3, t4]) (hhi : hi ≤ w.heap.size) (hF : Fit T) (hg : w.heap[g]? = some (.cells #[t0, t1, t2, t3, t4] 26)) :
    Calls Tryd.prog 9 #[.slice (some ⟨g, 0, none⟩) 1 1] w fun e w' => Below w.heap.size w w' ∧ (e = .returned (.bool true) ∨ (e = .returned (.bool false) ∧ wt T ≤ 3000)) := by
  have h := heavy_any [T] [[t0, t1, t2, t3, t4]] lo hi g 0 1 w rfl (Nat.le_refl _) (by simp) (Array.getElem?_eq_some_iff.1 hg).1 (fun j u hj => by rw [cell_of_row _ _ _ _ _ _ hg, Nat.zero_add, ← Array.getElem?_toList]; simpa using hj)
    (fun i t c h1 h2 => by
      match i with
      | 0 => simp at h1 h2; subst h1 h2; exact hT
      | i + 1 => simp at h1) hhi (fun t ht => by simp at ht; subst ht; exact hF)
  refine h.mono (fun e w' ⟨h1, h2⟩ => ⟨h1, ?_⟩)
  rcases h2 with h2 | ⟨h2, h3⟩
  · exact .inl h2
  · refine .inr ⟨h2, ?_⟩
    rw [wts, wts] at h3
    omega
/-- The box of the argument, still there. -/
structure Box1 (w W : World) (t0 t1 t2 t3 t4 : Value) : Prop where
  b : Below w.heap.size w W
  s : w.heap.size + 1 + 1 ≤ W.heap.size
  t : Bx W w.heap.size t0 t1 t2 t3 t4
theorem Box1.kept {w W W' : World} {t0 t1 t2 t3 t4 : Value} (h : Box1 w W t0 t1 t2 t3 t4) {B : Nat} (hb : Below B W W') (hB : w.heap.size + 1 ≤ B) : Box1 w W' t0 t1 t2 t3 t4 :=
  ⟨h.b.trans (hb.mono (by omega)), by have := h.s; have := hb.size; omega, h.t.kept hb (by omega)⟩
theorem box_new (w : World) (v0 v1 v2 v3 v4 : Value) : ∃ w', w' = w.alloc (.cells #[v0, v1, v2, v3, v4] 26) ∧ Below w.heap.size w w' ∧ w'.heap.size = w.heap.size + 1 ∧ Bx w' w.heap.size v0 v1 v2 v3 v4 :=
  ⟨_, rfl, (Below.refl _ _).alloc (Nat.le_refl _) _, by simp, bx_new _ _ _ _ _ _⟩
set_option maxRecDepth 20000 in
set_option maxHeartbeats 4000000 in
theorem places_any (T : Tr) (p : ByteArray) (lo hi : Nat) (ct : List Value) (w : World) (hT : Lies lo hi w T ct) (hhi : hi ≤ w.heap.size) (hF : Fit T) (hp : p.size ≤ 140737488351232) :
    Calls Tryd.prog 5 #[.agg ct.toArray, .string p] w fun e w' => e = .returned (.bool true) ∧ Below w.heap.size w w' := by
  obtain ⟨kt, xt, at0, nt, ct, bt, mt, dt, et, pt, qt, rfl⟩ := hT.form
  obtain ⟨wA, hwA⟩ : ∃ wA, wA = (w.alloc (.cells #[.int .i64 kt, .bool xt, .slice at0 nt ct, .slice bt mt dt, .slice et pt qt] 26)).alloc (.cells #[.int .i64 kt, .bool xt, .slice at0 nt ct, .slice bt mt dt, .slice et pt qt] 26) := ⟨_, rfl⟩
  have hbA : Below w.heap.size w wA := by rw [hwA]; exact ((Below.refl _ _).alloc (Nat.le_refl _) _).alloc (by simp) _
  have hsA : wA.heap.size = w.heap.size + 1 + 1 := by rw [hwA]; simp
  have hB : Box1 w wA (.int .i64 kt) (.bool xt) (.slice at0 nt ct) (.slice bt mt dt) (.slice et pt qt) := by
    refine ⟨hbA, by omega, ?_⟩
    rw [hwA]; exact (bx_new w _ _ _ _ _).kept ((Below.refl (w.heap.size + 1) _).alloc (by simp) _) (by omega)
  have hby : wA.heap[w.heap.size + 1]? = some (.cells #[.int .i64 kt, .bool xt, .slice at0 nt ct, .slice bt mt dt, .slice et pt qt] 26) := by
    rw [hwA]
    show ((w.heap.push _).push _)[w.heap.size + 1]? = _
    rw [Array.getElem?_push, if_pos (by simp)]
  have HH := hide (heavy1 T lo hi (w.heap.size + 1) _ _ _ _ _ wA (hT.kept hbA hhi) (by omega) hF hby)
  have HL := hide hT
  have HwA := hide hwA
  have HB := hide hB
  clear hwA hbA hby hT hF hB
  go_enter Tryd.func5, Tryd.ntmps5
  go_wp2_with fail
  rw [← unhide HwA]
  refine (unhide HH).mono ?_
  rintro e w1 ⟨hb1, hans⟩
  have hs1 := hb1.size
  have HB1 := hide ((unhide HB).kept hb1 (by omega))
  clear hb1 HH HB HwA
  rcases hans with rfl | ⟨rfl, hwt⟩
  · go_wp2_with fail
    go_ret
    exact ⟨rfl, (unhide HB1).b⟩
  by_cases hlen : 600 < p.size
  · go_wp2_with fail
    go_ret
    exact ⟨rfl, (unhide HB1).b⟩
  have HP : Hid (p.size ≤ 600) := by show _ ≤ _; omega
  have hs1' := (unhide HB1).s
  have HC := hide (cloneR_any T lo hi _ w1 ((unhide HL).kept (unhide HB1).b hhi) (by omega) (by omega))
  obtain ⟨y0, y1, y2, y3, y4⟩ := (unhide HB1).t.cells
  have hl1 : w.heap.size < w1.heap.size := by omega
  go_wp2_with fail
  clear hlen hp
  refine (unhide HC).mono ?_
  rintro e w2 ⟨cs', rfl, hb2, hL2⟩
  obtain ⟨j0, j1, f1, g1, h1, f2, g2, h2, f3, g3, h3, rfl⟩ := hL2.form
  have hs2 := hb2.size
  obtain ⟨w3, hw3, hb3, hs3, hx3⟩ := box_new w2 (.int .i64 j0) (.bool j1) (.slice f1 g1 h1) (.slice f2 g2 h2) (.slice f3 g3 h3)
  have HB3 := hide (((unhide HB1).kept hb2 (by omega)).kept hb3 (by omega))
  have HLx3 := hide (hL2.kept hb3 (Nat.le_refl _))
  have HA := hide (ats_any T p w1.heap.size w2.heap.size _ w3 (unhide HLx3) (by omega) (by omega) (by have := unhide HP; omega))
  have Hw3 := hide hw3
  have c3 := hx3.cells
  clear hw3 hb2 hb3 hL2 HC HB1 y0 y1 y2 y3 y4
  clear c3
  go_wp2_with fail
  rw [← unhide Hw3]
  refine (unhide HA).mono ?_
  rintro e w4 ⟨hb4, hans⟩
  obtain ⟨ak, ab, aa, an, ac, ba, bn, bc, da, dn, dc, rfl, hOa⟩ := putA_own hans
  have hs4 := hb4.size
  obtain ⟨w5, hw5, hb5, hs5, hx5⟩ := box_new w4 (.int .i64 ak) (.bool ab) (.slice aa an ac) (.slice ba bn bc) (.slice da dn dc)
  have HB5 := hide (((unhide HB3).kept hb4 (by omega)).kept hb5 (by omega))
  have HLx5 := hide (((unhide HLx3).kept hb4 (by omega)).kept hb5 (by omega))
  have HX5 := hide ((hx3.kept hb4 (by omega)).kept hb5 (by omega))
  have HOa := hide (hOa.same (w' := w5) (fun k _ h2 => hb5.block k h2))
  have HR := hide (refAt_any T p lo hi _ w5 ((unhide HL).kept (unhide HB5).b hhi) (by have := (unhide HB5).s; omega) (by omega) (by have := unhide HP; omega))
  have Hw5 := hide hw5
  have c4 := ((unhide HB3).kept hb4 (by omega)).t.cells
  have HRw : Hid (wt (resT (atE T p)) ≤ 100000) := atE_wt (by omega)
  clear hans hOa hw5 hb4 hb5 HA HB3 HLx3 Hw3 hx3
  generalize atE T p = res at *
  obtain ⟨y0, y1, y2, y3, y4⟩ := c4
  have hl4 : w.heap.size < w4.heap.size := by omega
  go_wp2_with fail
  rw [← unhide Hw5]
  refine (unhide HR).mono ?_
  rintro e w6 ⟨hb6, hans⟩
  obtain ⟨rk, rb, ra, rn, rc, sa, sn, sc, ua, un, uc, he, hLr⟩ := refA_res hans
  subst he
  have hs6 := hb6.size
  obtain ⟨w7, hw7, hb7, hs7, hx7⟩ := box_new w6 (.int .i64 rk) (.bool rb) (.slice ra rn rc) (.slice sa sn sc) (.slice ua un uc)
  have HB7 := hide (((unhide HB5).kept hb6 (by omega)).kept hb7 (by omega))
  have HLx7 := hide (((unhide HLx5).kept hb6 (by omega)).kept hb7 (by omega))
  have HX7 := hide (((unhide HX5).kept hb6 (by omega)).kept hb7 (by omega))
  have HA7 := hide ((hx5.kept hb6 (by omega)).kept hb7 (by omega))
  have HOa7 := hide ((unhide HOa).same (w' := w7) (fun k _ h2 => by rw [hb7.block k (by omega), hb6.block k (by omega)]))
  have HEq := hide (equal_any (resT res) (resT res) w3.heap.size w4.heap.size w5.heap.size w6.heap.size _ _ w7 (unhide HOa7).lies (hLr.kept hb7 (Nat.le_refl _)) (unhide HRw) (unhide HRw) (by omega) (by omega))
  have Hw7 := hide hw7
  have c6 := (hx5.kept hb6 (by omega)).cells
  clear hans hLr hw7 hb6 hb7 HR HB5 HLx5 HX5 HOa y0 y1 y2 y3 y4 Hw5 hx5
  generalize resN res = rn' at *
  obtain ⟨y0, y1, y2, y3, y4⟩ := c6
  have hl6 : w4.heap.size < w6.heap.size := by omega
  go_wp2_with fail
  rw [← unhide Hw7]
  refine (unhide HEq).mono ?_
  rintro e w8 ⟨hb8, hans⟩
  have hs8 := hb8.size
  obtain rfl : e = .returned (.bool true) := by
    rcases hans with ⟨_, h⟩ | ⟨h, _⟩
    · exact h
    · exact absurd rfl h
  have HB8 := hide ((unhide HB7).kept hb8 (by omega))
  have HLx8 := hide ((unhide HLx7).kept hb8 (by omega))
  have HX8 := hide ((unhide HX7).kept hb8 (by omega))
  have HA8 := hide ((unhide HA7).kept hb8 (by omega))
  have HSp := hide (spoilt_any (resT res) w3.heap.size w4.heap.size _ w8 ((unhide HOa7).same (fun k _ h2 => hb8.block k (by omega))) (by omega) (unhide HRw))
  have c8 := (unhide HA8).cells
  clear hans hb8 HEq HB7 HLx7 HX7 HA7 HOa7 y0 y1 y2 y3 y4 Hw7 hx7
  obtain ⟨y0, y1, y2, y3, y4⟩ := c8
  have hl8 : w4.heap.size < w8.heap.size := by omega
  go_wp2_with fail
  refine (unhide HSp).mono ?_
  rintro e w9 ⟨rfl, hk9⟩
  have hb9 := hk9.below (by omega)
  have hs9 := hb9.size
  have HB9 := hide ((unhide HB8).kept hb9 (by omega))
  have HX9 := hide ((unhide HX8).kept hb9 (by omega))
  have HE9 := hide (equal_any T T w1.heap.size w2.heap.size lo hi _ _ w9 ((unhide HLx8).kept hb9 (by omega)) ((unhide HL).kept (unhide HB9).b hhi) (by omega) (by omega) (by omega) (by have := (unhide HB9).s; omega))
  have c9 := (unhide HX9).cells
  have d9 := (unhide HB9).t.cells
  clear hk9 hb9 HSp HB8 HX8 HLx8 HA8 y0 y1 y2 y3 y4
  obtain ⟨y0, y1, y2, y3, y4⟩ := c9
  obtain ⟨z0, z1, z2, z3, z4⟩ := d9
  have hl9 : w2.heap.size < w9.heap.size := by omega
  have hl9' : w.heap.size < w9.heap.size := by omega
  go_wp2_with fail
  refine (unhide HE9).mono ?_
  rintro e w10 ⟨hb10, hans⟩
  have hs10 := hb10.size
  obtain rfl : e = .returned (.bool true) := by
    rcases hans with ⟨_, h⟩ | ⟨h, _⟩
    · exact h
    · exact absurd rfl h
  have HB10 := hide ((unhide HB9).b.trans (hb10.mono (by omega)))
  clear hb10 hans HE9 y0 y1 y2 y3 y4 z0 z1 z2 z3 z4
  go_wp2_with fail
  refine (known_any _).mono ?_
  rintro e wk ⟨rfl, hbk⟩
  have hsk := hbk.size
  go_wp2_with fail
  go_ret
  exact ⟨rfl, (unhide HB10).trans (hbk.mono (by omega))⟩
end Go.Proofs.YthfjofmfiklegaaDoor
