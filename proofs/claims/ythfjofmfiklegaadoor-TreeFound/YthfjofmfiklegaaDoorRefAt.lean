/- The document's At, in the code. -/
import Derived.Test.YthfjofmfiklegaaDoorFind
import Derived.Test.YthfjofmfiklegaaDoorRparts
import Derived.Test.YthfjofmfiklegaaDoorElse
namespace Go.Proofs.YthfjofmfiklegaaDoor
open Go.RowKit
set_option linter.unusedSimpArgs false
/-- What the document's At and Put answer. -/
def RefA (B : Nat) (r : Except Nat Tr) (e : Ending) (w' : World) : Prop := match r with
  | .error n => e = .returned (.tuple #[.agg zeroT.toArray, .int .i64 (n : Int)])
  | .ok W => ∃ cs : List Value, e = .returned (.tuple #[.agg cs.toArray, .int .i64 0]) ∧ Lies B w'.heap.size w' W cs
theorem Box2.below {w W : World} {t0 t1 t2 t3 t4 : Value} (h : Box2 w W t0 t1 t2 t3 t4) {u0 u1 u2 u3 u4 : Value} : Box2 w (set5 W w.heap.size u0 u1 u2 u3 u4) u0 u1 u2 u3 u4 :=
  ⟨below_set5 h.b (Nat.le_refl _) _ _ _ _ _, by rw [set5_size]; exact h.s, h.t.set5 _ _ _ _ _, h.r.of (set5_other _ _ _ _ _ _ _ _ (by omega))⟩
/-- Where the document's At stands. -/
def AtAt (T : Tr) (l : List ByteArray) (i : Nat) (Ti : Tr) : Prop := atS Ti (l.drop i) = atS T l ∧ Nice Ti ∧ wt Ti ≤ 100000
set_option maxRecDepth 20000 in
set_option maxHeartbeats 2000000 in
theorem refAt_any (T : Tr) (s : ByteArray) (lo hi : Nat) (cs : List Value) (w : World) (hL : Lies lo hi w T cs) (hhi : hi ≤ w.heap.size) (hW : wt T ≤ 100000) (hsz : s.size ≤ 1000000) :
    Calls Tryd.prog 23 #[.agg cs.toArray, .string s] w fun e w' => Below w.heap.size w w' ∧ RefA w.heap.size (atE T s) e w' := by
  obtain ⟨kt, xt, at0, nt, ct, bt, mt, dt, et, pt, qt, rfl⟩ := hL.form
  have HC1 := hide (fun W (h : Below w.heap.size w W) => checkR_any T lo hi _ W (hL.kept h hhi) hW (by have := h.size; omega))
  have HP := hide (fun W => partsR_any s W hsz)
  have HS : Hid (atE T s = if (chk T 1 0).1 ≠ 0 then .error (chk T 1 0).1 else if isPl s = false then .error 9 else
    match atS T (placeL s) with
    | none => .error 7
    | some W => .ok W) := rfl
  have HL := hide hL
  have HW := hide hW
  have hB := box2_new w (.int .i64 kt) (.bool xt) (.slice at0 nt ct) (.slice bt mt dt) (.slice et pt qt)
  obtain ⟨wA, hwA⟩ : ∃ wA, wA = ((w.alloc (.cells #[.int .i64 kt, .bool xt, .slice at0 nt ct, .slice bt mt dt, .slice et pt qt] 26)).alloc (.cells #[.int .i64 0, .bool false, .slice none 0 0, .slice none 0 0, .slice none 0 0] 26)) := ⟨_, rfl⟩
  rw [← hwA] at hB
  have HB := hide hB
  have HwA := hide hwA
  have HLen := hide (placeL_len s)
  clear hL hW hB hwA
  go_enter Tryd.func23, Tryd.ntmps23
  go_wp2_with fail
  rw [← unhide HwA]
  refine (unhide HC1 wA (unhide HB).b).mono ?_
  rintro e w1 ⟨rfl, hb1⟩
  have HB1 := hide ((unhide HB).kept hb1 (unhide HB).s)
  clear HC1 HB HwA hb1
  by_cases hc1 : (chk T 1 0).1 = 0
  case neg =>
    have hn1 := ne0 hc1
    have HSr : Hid (atE T s = .error (chk T 1 0).1) := by show _ = _; rw [unhide HS, if_pos hc1]
    obtain ⟨r0, r1, r2, r3, r4⟩ := (unhide HB1).r.cells
    have rf0 := (unhide HB1).r.fr 0
    have rf1 := (unhide HB1).r.fr 1
    have rf2 := (unhide HB1).r.fr 2
    have rf3 := (unhide HB1).r.fr 3
    have rf4 := (unhide HB1).r.fr 4
    clear hc1
    generalize (chk T 1 0).1 = c1 at *
    go_wp2_with fail
    rw [unhide HSr]
    refine bodyPost_ret (v := .tuple #[.agg zeroT.toArray, .int .i64 (c1 : Int)]) (by simp [results, Tryd.results23, go_sem, zeroT, r0, r1, r2, r3, r4]) rfl ⟨?_, rfl⟩
    exact below_set5 (unhide HB1).b (by omega) _ _ _ _ _
  case pos =>
  have HN := hide (chk_nice T hc1)
  rw [if_neg (by simp [hc1])] at HS
  rw [hc1]
  clear hc1
  go_wp2_with fail
  refine (unhide HP w1).mono ?_
  rintro e w3 ⟨hb3, hpl⟩
  have hs1 := (unhide HB1).s
  have hs3 := hb3.size
  have HB3 := hide ((unhide HB1).kept hb3 (unhide HB1).s)
  clear HP HB1 hb3
  rcases hpl with ⟨hip, a1, c1, rfl, hR⟩ | ⟨hip, rfl⟩
  case inr =>
    have HSr : Hid (atE T s = .error 9) := by show _ = _; rw [unhide HS, if_pos hip]
    obtain ⟨r0, r1, r2, r3, r4⟩ := (unhide HB3).r.cells
    have rf0 := (unhide HB3).r.fr 0
    have rf1 := (unhide HB3).r.fr 1
    have rf2 := (unhide HB3).r.fr 2
    have rf3 := (unhide HB3).r.fr 3
    have rf4 := (unhide HB3).r.fr 4
    clear hip
    go_wp2_with fail
    rw [unhide HSr]
    refine bodyPost_ret (v := .tuple #[.agg zeroT.toArray, .int .i64 9]) (by simp [results, Tryd.results23, go_sem, zeroT, r0, r1, r2, r3, r4]) rfl ⟨?_, rfl⟩
    exact below_set5 (unhide HB3).b (by omega) _ _ _ _ _
  case inl =>
  rw [if_neg (by simp [hip])] at HS
  have HR := hide hR
  generalize hl : placeL s = l at *
  clear hl hip hR
  generalize hN : l.length = N at *
  have HNl := hide hN
  clear hN
  have hNb : N ≤ 1000001 := by have := unhide HLen; omega
  go_wp2_with fail
  go_loopw [9] (fun vi wr => ∃ (i : Nat) (Ti : Tr) (k : Int) (x : Bool) (f1 f2 f3 : Option Addr) (g1 h1 g2 h2 g3 h3 : Nat), i ≤ N ∧ vi = .int .i64 (i : Int) ∧ Box2 w wr (.int .i64 k) (.bool x) (.slice f1 g1 h1) (.slice f2 g2 h2) (.slice f3 g3 h3) ∧ Lies lo hi wr Ti [.int .i64 k, .bool x, .slice f1 g1 h1, .slice f2 g2 h2, .slice f3 g3 h3] ∧ Hid (AtAt T l i Ti) ∧ Row w1.heap.size w3.heap.size wr (.slice a1 N c1) N (l.map .string) ∧ w3.heap.size ≤ wr.heap.size) (fun vi _ => N - (intOf vi).toNat)
  case atStart => exact ⟨0, T, kt, xt, at0, bt, et, nt, ct, mt, dt, pt, qt, by omega, rfl, unhide HB3, (unhide HL).kept (unhide HB3).b hhi, ⟨by rw [List.drop_zero], unhide HN, unhide HW⟩, unhide HR, Nat.le_refl _⟩
  case round =>
    clear HB3 HR
    obtain ⟨i, Ti, k, x, f1, f2, f3, g1, h1, g2, h2, g3, h3, hiN, rfl, hB, hLi, hAt, hRi, hsr⟩ := hrel
    obtain ⟨y0, y1, y2, y3, y4⟩ := hB.t.cells
    have hsB := hB.s
    by_cases hlt : i < N
    · obtain ⟨g, o, rfl, hcn⟩ := row_str hRi (unhide HNl) i hlt
      have hgl := cell_lt hcn
      have hi2 : i < l.length := by rw [unhide HNl]; exact hlt
      have HDr : Hid (l.drop i = l.getD i ⟨#[]⟩ :: l.drop (i + 1)) := by
        show _ = _
        rw [List.drop_eq_getElem_cons hi2, List.getD_eq_getElem?_getD, List.getElem?_eq_getElem hi2]; rfl
      obtain ⟨ki, xi, di, ns, ks, rfl⟩ : ∃ k x d ns ks, Ti = .mk k x d ns ks := by cases Ti; exact ⟨_, _, _, _, _, rfl⟩
      have hNi := (unhide hAt).2.1
      have hSm := small_of (unhide hAt).2.2
      obtain ⟨hri, hln, hnk⟩ : Rise ns ∧ ns.length = ks.length ∧ ∀ t ∈ ks, Nice t := by cases hNi with | mk _ _ _ _ _ h1 h2 h3 => exact ⟨h1, h2, h3⟩
      have HFi := hide (fun (W : World) (h : Lies lo hi W (.mk ki xi di ns ks) [.int .i64 k, .bool x, .slice f1 g1 h1, .slice f2 g2 h2, .slice f3 g3 h3]) (hh : hi ≤ W.heap.size) => find_any ki xi di ns ks (l.getD i ⟨#[]⟩) lo hi _ W h hh hri (by have := hSm.n; omega))
      have HT := hide (And.intro hB (And.intro hLi (And.intro hRi (And.intro hSm (And.intro hln hnk)))))
      clear hB hLi hRi hSm hln hnk hNi hri hi2
      generalize hnm : l.getD i ⟨#[]⟩ = nm at *
      clear hnm
      go_wp2_with fail
      refine wp_region_noPanic ?_
      refine wp_region_held_drew (S := fun w' => Bx w' w.heap.size (.int .i64 k) (.bool x) (.slice f1 g1 h1) (.slice f2 g2 h2) (.slice f3 g3 h3) ∧ w'.cell? ⟨g, o + i, none⟩ = some (.string nm)) (by kernel_rfl) ⟨(unhide HT).1.t, hcn⟩ (fun hHeld => ?_)
      clear y0 y1 y2 y3 y4
      refine wpAnyH_take (i := 0) (v := .agg #[.int .i64 k, .bool x, .slice f1 g1 h1, .slice f2 g2 h2, .slice f3 g3 h3]) rfl (by kernel_rfl) (by kernel_rfl) (by kernel_rfl) (fun _ _ _ h => h) (Or.inl ⟨by rfl, ?_⟩) hHeld ?_
      · intro w' hS'; obtain ⟨t0, t1, t2, t3, t4⟩ := hS'.1.cells; go_simp
      try simp only [Act.put, List.getElem_toArray, List.getElem_cons_zero, List.getElem_cons_succ, List.setIfInBounds_toArray, List.set_cons_zero, List.set_cons_succ]
      refine wpAnyH_take (i := 1) (v := .slice (some ⟨g, o, none⟩) N c1) rfl (by kernel_rfl) (by kernel_rfl) (by kernel_rfl) (fun _ _ _ h => h) (Or.inl ⟨by rfl, ?_⟩) hHeld ?_
      · intro w' hS'; go_simp
      try simp only [Act.put, List.getElem_toArray, List.getElem_cons_zero, List.getElem_cons_succ, List.setIfInBounds_toArray, List.set_cons_zero, List.set_cons_succ]
      refine wpAnyH_take (i := 2) (v := .int .i64 (i : Int)) rfl (by kernel_rfl) (by kernel_rfl) (by kernel_rfl) (fun _ _ _ h => h) (Or.inl ⟨by rfl, ?_⟩) hHeld ?_
      · intro w' hS'; go_simp
      try simp only [Act.put, List.getElem_toArray, List.getElem_cons_zero, List.getElem_cons_succ, List.setIfInBounds_toArray, List.set_cons_zero, List.set_cons_succ]
      refine wpAnyH_take (i := 3) (v := .pointer (some ⟨g, o + i, none⟩)) rfl (by kernel_rfl) (by kernel_rfl) (by kernel_rfl) (fun _ _ _ h => h) (Or.inl ⟨by rfl, ?_⟩) hHeld ?_
      · intro w' hS'; go_simp
      try simp only [Act.put, List.getElem_toArray, List.getElem_cons_zero, List.getElem_cons_succ, List.setIfInBounds_toArray, List.set_cons_zero, List.set_cons_succ]
      refine wpAnyH_take (i := 4) (v := .string nm) rfl (by kernel_rfl) (by kernel_rfl) (by kernel_rfl) (fun _ _ _ h => h) (Or.inl ⟨by rfl, ?_⟩) hHeld ?_
      · intro w' hS'; have hS2 := hS'.2; go_simp
      try simp only [Act.put, List.getElem_toArray, List.getElem_cons_zero, List.getElem_cons_succ, List.setIfInBounds_toArray, List.set_cons_zero, List.set_cons_succ]
      refine wpAnyH_ready (rs := [5]) (by kernel_rfl) (by simp) (AllReadyH.cons rfl (fun K hK => ?_) AllReadyH.nil)
      simp only [List.getElem_toArray, List.getElem_cons_zero, List.getElem_cons_succ]
      go_simp
      refine (unhide HFi _ ((unhide HT).2.1.kept (B := wr.heap.size) ((Below.refl wr.heap.size wr).drew) (by omega)) (by show hi ≤ wr.heap.size; omega)).mono ?_
      rintro e w5 ⟨hb5', rfl⟩
      have hb5 : Below wr.heap.size wr w5 := below_drew' hb5'
      have hs5 := hb5.size
      have hB5 := (unhide HT).1.kept hb5 (by omega)
      refine hK.out _ _ ⟨hB5.t, (hb5.cell (p := ⟨g, o + i, none⟩) hgl).trans hcn⟩ (fun hHeld => ?_)
      clear hK K
      try simp only [Act.put, List.getElem_toArray, List.getElem_cons_zero, List.getElem_cons_succ, List.setIfInBounds_toArray, List.set_cons_zero, List.set_cons_succ]
      refine wpAnyH_take (i := 6) (v := .int .i64 (findS ns nm)) rfl (by kernel_rfl) (by kernel_rfl) (by kernel_rfl) (fun _ _ _ h => h) (Or.inl ⟨by rfl, ?_⟩) hHeld ?_
      · intro w' hS'; go_simp
      try simp only [Act.put, List.getElem_toArray, List.getElem_cons_zero, List.getElem_cons_succ, List.setIfInBounds_toArray, List.set_cons_zero, List.set_cons_succ]
      refine wpAnyH_done (by kernel_rfl) ?_ _
      refine NoPanic.normal ?_
      clear hHeld hb5' hcn HFi
      have HAi : Hid (atS (.mk ki xi di ns ks) (nm :: l.drop (i + 1)) = atS T l) := by show _ = _; rw [← unhide HDr]; exact (unhide hAt).1
      have HWk := hide (unhide hAt).2.2
      rw [atS] at HAi
      cases hh : has ns nm
      case false =>
        have hfs : findS ns nm = -1 := by unfold findS; rw [hh]; rfl
        have HSr : Hid (atE T s = .error 7) := by
          show _ = _
          have h1 := unhide HAi
          rw [hh, if_neg (by simp)] at h1
          rw [unhide HS, ← h1]
        rw [hfs]
        have HB5 := hide hB5
        obtain ⟨r0, r1, r2, r3, r4⟩ := hB5.r.cells
        have rf0 := hB5.r.fr 0
        have rf1 := hB5.r.fr 1
        have rf2 := hB5.r.fr 2
        have rf3 := hB5.r.fr 3
        have rf4 := hB5.r.fr 4
        clear hB5 hb5 hAt HAi
        go_wp2_with fail
        rw [unhide HSr]
        refine bodyPost_ret (v := .tuple #[.agg zeroT.toArray, .int .i64 7]) (by simp [results, Tryd.results23, go_sem, zeroT, r0, r1, r2, r3, r4]) rfl ⟨?_, rfl⟩
        exact below_set5 (unhide HB5).b (by omega) _ _ _ _ _
      case true =>
        have hfs : findS ns nm = (pos ns nm : Int) := by unfold findS; rw [hh]; rfl
        rw [hfs]
        rw [hh, if_pos rfl] at HAi
        have hlt2 := has_lt hh
        have hlk : pos ns nm < ks.length := by rw [← (unhide HT).2.2.2.2.1]; exact hlt2
        have hL5 := (unhide HT).2.1.kept hb5 (by omega)
        have hR5 := (unhide HT).2.2.1.below hb5 (by omega)
        have hkk := (unhide HT).2.2.2.1.k
        cases hL5 with
        | mk _ _ _ _ _ vd vn vk Ks hl hd hn hk hK =>
        obtain ⟨_, _, ek, hck⟩ := hk.slice
        cases ek
        obtain ⟨gk, ok, eak, hg1, hg2, hcell⟩ := hk.at (show 0 < ks.length by omega)
        obtain ⟨qk, qb, p1, p2, p3, p4, p5, p6, p7, p8, p9, hLk, u0, u1, u2, u3, u4⟩ := kid_sl hl hcell hK (pos ns nm) hlk
        clear hcell
        subst eak
        obtain ⟨y0, y1, y2, y3, y4⟩ := hB5.t.cells
        have zf0 := hB5.t.fr 0
        have zf1 := hB5.t.fr 1
        have zf2 := hB5.t.fr 2
        have zf3 := hB5.t.fr 3
        have zf4 := hB5.t.fr 4
        have HB5 := hide hB5
        have HLk := hide hLk
        have HR5 := hide hR5
        have hgne : gk ≠ w.heap.size := by omega
        have HKn := hide (And.intro (unhide HT).2.2.2.2.2 (unhide HT).2.2.2.1.t)
        clear hb5 hB5 hLk hR5 hl hd hn hk hK hAt
        go_wp2_with fail
        rw [set5_eq]
        go_roundw
        case rel =>
          refine ⟨i + 1, kidAt ns ks nm, qk, qb, p1, p4, p7, p2, p3, p5, p6, p8, p9, by omega, by go_num, (unhide HB5).below, ?_, ⟨unhide HAi, kidAt_nice (unhide HKn).1, kidAt_wt (unhide HKn).2⟩, ?_, by rw [set5_size]; omega⟩
          · rw [kidAt_yes hh hlk]
            exact (unhide HLk).same (fun k h1 h2 => set5_other _ _ _ _ _ _ _ _ (by omega))
          · exact (unhide HR5).same (fun k h1 h2 => set5_other _ _ _ _ _ _ _ _ (by omega))
        case measure => simp [intOf]; try omega
    · obtain rfl : i = N := by omega
      have HAe : Hid (atS T l = some Ti) := by
        show _ = _
        rw [← (unhide hAt).1, List.drop_of_length_le (by rw [unhide HNl]; omega)]
        cases Ti; rw [atS]
      have HSr : Hid (atE T s = .ok Ti) := by show _ = _; rw [unhide HS, unhide HAe]
      have HCl := hide (cloneR_any Ti lo hi _ wr hLi (unhide hAt).2.2 (by omega))
      have HB := hide hB
      clear hAt hLi hRi hB
      go_wp2_with fail
      refine (unhide HCl).mono ?_
      rintro e w7 ⟨c7, rfl, hb7, hL7⟩
      obtain ⟨q0, q1, f4, g4, h4, f5, g5, h5, f6, g6, h6, rfl⟩ := hL7.form
      have hs7 := hb7.size
      have HB7 := hide ((unhide HB).kept hb7 (by omega))
      obtain ⟨r0, r1, r2, r3, r4⟩ := (unhide HB7).r.cells
      have rf0 := (unhide HB7).r.fr 0
      have rf1 := (unhide HB7).r.fr 1
      have rf2 := (unhide HB7).r.fr 2
      have rf3 := (unhide HB7).r.fr 3
      have rf4 := (unhide HB7).r.fr 4
      have HL7 := hide hL7
      clear hL7 hb7 HCl
      go_wp2_with fail
      rw [unhide HSr]
      refine bodyPost_ret (v := .tuple #[.agg #[.int .i64 q0, .bool q1, .slice f4 g4 h4, .slice f5 g5 h5, .slice f6 g6 h6], .int .i64 0]) (by simp [results, Tryd.results23, go_sem, r0, r1, r2, r3, r4]) rfl ⟨below_set5 (unhide HB7).b (by omega) _ _ _ _ _, ?_⟩
      refine ⟨[.int .i64 q0, .bool q1, .slice f4 g4 h4, .slice f5 g5 h5, .slice f6 g6 h6], rfl, ?_⟩
      rw [set5_eq]
      exact ((unhide HL7).same (fun k h1 h2 => set5_other _ _ _ _ _ _ _ _ (by omega))).mono (by omega) (by rw [set5_size]; omega)
end Go.Proofs.YthfjofmfiklegaaDoor
