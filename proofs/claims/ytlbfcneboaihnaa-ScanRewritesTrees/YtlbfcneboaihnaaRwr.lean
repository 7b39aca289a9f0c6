/- The document's own RewriteTree. -/
import Derived.Test.YtlbfcneboaihnaaRwd
import Derived.Test.YtlbfcneboaihnaaRwt
import Derived.Test.YtlbfcneboaihnaaK4
namespace Go.Proofs.Ytlbfcneboaihnaa
open Go.RowKit Go.Great Tn
set_option linter.unusedSimpArgs false
set_option maxRecDepth 20000 in
set_option maxHeartbeats 1000000 in
theorem rewriteTreeR_any (T : Tr) (lo hi : Nat) (cs : List Value) (p q : List Nat) (w : World) (hL : Lies lo hi w T cs) (hF : Fit T) (hhi : hi ≤ w.heap.size) (hct : (chk T 1 0).1 = 0 → cn T ≤ 300 ∧ cb T ≤ 4000)
    (hp : Sha.Bytes p) (hpm : p.length ≤ 1000000) (hq : Sha.Bytes q) (hqm : q.length ≤ 1000000) :
    Calls Try.prog 23 #[.agg cs.toArray, .string (strOf p), .string (strOf q)] w fun e w' => RtIs w T p q e w' := by
  obtain ⟨kt, xt, at0, nt, ct, bt, mt, dt, et, pt, qt, rfl⟩ := hL.form
  obtain ⟨wA, hwA⟩ : ∃ wA, wA = (w.alloc (.cells #[.int .i64 kt, .bool xt, .slice at0 nt ct, .slice bt mt dt, .slice et pt qt] 34)).alloc (.cells #[.int .i64 0, .bool false, .slice none 0 0, .slice none 0 0, .slice none 0 0] 34) := ⟨_, rfl⟩
  have hbA : Below w.heap.size w wA := by rw [hwA]; exact ((Below.refl _ _).alloc (Nat.le_refl _) _).alloc (by simp) _
  have hsA : wA.heap.size = w.heap.size + 1 + 1 := by rw [hwA]; simp
  have hx0 : wA.heap[w.heap.size]? = some (.cells #[.int .i64 kt, .bool xt, .slice at0 nt ct, .slice bt mt dt, .slice et pt qt] 34) := by
    rw [hwA]
    exact ((bx_new w _ _ _ _ _).kept ((Below.refl (w.heap.size + 1) _).alloc (by simp) _) (by omega))
  have hx1 : wA.heap[w.heap.size + 1]? = some (.cells #[.int .i64 0, .bool false, .slice none 0 0, .slice none 0 0, .slice none 0 0] 34) := by
    rw [hwA]
    have := bx_new (w.alloc (.cells #[.int .i64 kt, .bool xt, .slice at0 nt ct, .slice bt mt dt, .slice et pt qt] 34)) (.int .i64 0) (.bool false) (.slice none 0 0) (.slice none 0 0) (.slice none 0 0)
    rwa [World.size_alloc] at this
  have HC := hide (checkR_any T lo hi _ wA (hL.kept hbA hhi) hF (by omega))
  have HA := hide (And.intro hbA (And.intro hsA (And.intro hx0 hx1)))
  have HL := hide (And.intro hL (And.intro hF (And.intro hct (And.intro hp hq))))
  have HwA := hide hwA
  clear hwA hbA hx0 hx1 hL hF hct hp hq
  go_enter Try.func23, Try.ntmps23
  go_wp2_with fail
  rw [← unhide HwA]
  refine (unhide HC).mono ?_
  rintro e w1 ⟨rfl, hb1⟩
  obtain ⟨hbA, _, hx0, hx1⟩ := unhide HA
  have hs1 := hb1.size
  have hy0 : w1.heap[w.heap.size]? = some (.cells #[.int .i64 kt, .bool xt, .slice at0 nt ct, .slice bt mt dt, .slice et pt qt] 34) := by rw [hb1.block _ (by omega)]; exact hx0
  have hy1 : w1.heap[w.heap.size + 1]? = some (.cells #[.int .i64 0, .bool false, .slice none 0 0, .slice none 0 0, .slice none 0 0] 34) := by rw [hb1.block _ (by omega)]; exact hx1
  have hbw1 : Below w.heap.size w w1 := hbA.trans (hb1.mono hbA.size)
  have HB1 := hide hbw1
  have HY := hide (And.intro hy0 hy1)
  have hlz : w.heap.size + 1 < w1.heap.size := by omega
  clear hb1 hbw1 HC HwA hbA hx0 hx1 hs1
  by_cases hc1 : (chk T 1 0).1 = 0
  case neg =>
    have HE := hide (And.intro (errT_bad (p := p) (q := q) hc1) hc1)
    obtain ⟨z0, z1, z2, z3, z4⟩ := box_cells hy1
    have hfr : ∀ o, w1.frozen? ⟨w.heap.size + 1, o, none⟩ = false := fun o => Bx.fr hy1 o
    have r0 := hfr 0
    have r1 := hfr 1
    have r2 := hfr 2
    have r3 := hfr 3
    have r4 := hfr 4
    have hn1 : ¬ (((chk T 1 0).1 : Int) = 0) := by omega
    clear hc1 hfr hy0 hy1
    generalize (chk T 1 0).1 = c1 at *
    go_wp2_with fail
    refine bodyPost_ret (v := .tuple #[.agg #[.int .i64 0, .bool false, .slice none 0 0, .slice none 0 0, .slice none 0 0], .int .i64 0, .int .i64 (c1 : Int)]) (by simp [results, Try.results23, go_sem, z0, z1, z2, z3, z4]) rfl ?_
    exact rt_bad (below5 (unhide HB1) (by omega) _ _ _ _ _) (unhide HE)
  obtain ⟨hL, hF, hct, hp, hq⟩ := unhide HL
  have HP := hide (splitRef_any p w1 hp (by omega))
  have HQ := hide (fun W => splitRef_any q W hq (by omega))
  have H0 := hide hc1
  rw [hc1]
  clear hL hF hct hp hq hc1 hy0 hy1
  go_wp2_with fail
  refine (unhide HP).mono ?_
  rintro e w2 ⟨hb2, hcase1⟩
  have HB2 := hide ((unhide HB1).trans (hb2.mono (unhide HB1).size))
  have hz2 := hb2.size
  have HY2 : Hid (w2.heap[w.heap.size]? = some (.cells #[.int .i64 kt, .bool xt, .slice at0 nt ct, .slice bt mt dt, .slice et pt qt] 34) ∧ w2.heap[w.heap.size + 1]? = some (.cells #[.int .i64 0, .bool false, .slice none 0 0, .slice none 0 0, .slice none 0 0] 34)) := ⟨by rw [hb2.block _ (by omega)]; exact (unhide HY).1, by rw [hb2.block _ (by omega)]; exact (unhide HY).2⟩
  clear hb2 HP HY
  rcases hcase1 with ⟨h1, he⟩ | ⟨h1, he⟩
  · simp only [splitV, if_true] at he
    subst he
    have H1 := hide h1
    clear h1
    generalize p.drop 33 = N1 at *
    generalize hFe : p.take 32 = F at *
    go_wp2_with fail
    refine (unhide HQ _).mono ?_
    rintro e w3 ⟨hb3, hcase2⟩
    have hz3 := hb3.size
    have HB3 := hide ((unhide HB2).trans (hb3.mono (unhide HB2).size))
    have HY3 : Hid (w3.heap[w.heap.size]? = some (.cells #[.int .i64 kt, .bool xt, .slice at0 nt ct, .slice bt mt dt, .slice et pt qt] 34) ∧ w3.heap[w.heap.size + 1]? = some (.cells #[.int .i64 0, .bool false, .slice none 0 0, .slice none 0 0, .slice none 0 0] 34)) := ⟨by rw [hb3.block _ (by omega)]; exact (unhide HY2).1, by rw [hb3.block _ (by omega)]; exact (unhide HY2).2⟩
    clear hb3 HQ HY2
    rcases hcase2 with ⟨h2, he⟩ | ⟨h2, he⟩
    · simp only [splitV, if_true] at he
      subst he
      obtain ⟨hL, hF, hct, hp, hq⟩ := unhide HL
      obtain ⟨hc3, hcb⟩ := hct (unhide H0)
      have hvl := (chk_vld T 1 0 (unhide H0)).1
      have hSm := sml_of hvl hc3 hcb
      have hFb : Sha.Bytes F := by rw [← hFe]; exact hp.take 32
      have hDb : Sha.Bytes (q.take 32) := hq.take 32
      have hFl : F.length = 32 := by rw [← hFe, List.length_take]; have := (unhide H1).1; omega
      have hDl : (q.take 32).length = 32 := by rw [List.length_take]; have := h2.1; omega
      have hN1 := rcN_le hFl T hSm
      have hT1 := rcT_le hFl T hvl
      have hA1 : rcA F T ≤ 1000000 := by rw [rc_all F T hSm]; omega
      have hbw3 := unhide HB3
      have HRw := hide (rewriteR_any F (q.take 32) hFb hFl hDb hDl T lo hi _ w3 (hL.kept hbw3 hhi) hSm hA1 (by have := hbw3.size; omega))
      obtain ⟨C0, hS0, hE0⟩ := rwD_srt F (q.take 32) T hvl
      have hft : Fit (rwD F (q.take 32) T) := by rw [hE0]; exact (Sml.dat hFl hDl (hS0.sml hFl hDl hSm)).fit
      have HFt := hide hft
      have heT := errT_in (unhide H0) (unhide H1) h2
      rw [hFe] at heT
      have HET := hide heT
      clear hL hF hct hp hq hc3 hcb hvl hSm hFb hDb hFl hDl hN1 hT1 hA1 hbw3 hS0 hE0 hft heT h2
      generalize q.drop 33 = N2 at *
      generalize hDe : q.take 32 = D at *
      obtain ⟨m0, m1, m2, m3, m4⟩ := box_cells (unhide HY3).1
      go_wp2_with fail
      refine (unhide HRw).mono ?_
      rintro e w4 ⟨cs4, rfl, hL4, hb4⟩
      obtain ⟨k4, x4, b1, l1, e1, b2, l2, e2, b3, l3, e3, rfl⟩ := hL4.form
      have hz4 := hb4.size
      have HL4 := hide (And.intro hL4 ((unhide HB3).trans (hb4.mono (unhide HB3).size)))
      have HY4 : Hid (w4.heap[w.heap.size + 1]? = some (.cells #[.int .i64 0, .bool false, .slice none 0 0, .slice none 0 0, .slice none 0 0] 34)) := by
        show w4.heap[w.heap.size + 1]? = _
        rw [hb4.block _ (by omega)]; exact (unhide HY3).2
      clear hL4 hb4 HRw HY3 m0 m1 m2 m3 m4
      obtain ⟨tms, htm⟩ : ∃ tms, rcA F T = tms := ⟨_, rfl⟩
      rw [htm]
      have HTm := hide htm
      clear htm
      obtain ⟨w5, hw5⟩ : ∃ w5, w5 = w4.alloc (.cells #[.int .i64 k4, .bool x4, .slice b1 l1 e1, .slice b2 l2 e2, .slice b3 l3 e3] 34) := ⟨_, rfl⟩
      have hb5 : Below w4.heap.size w4 w5 := by rw [hw5]; exact (Below.refl _ _).alloc (Nat.le_refl _) _
      have hx5 : w5.heap[w4.heap.size]? = some (.cells #[.int .i64 k4, .bool x4, .slice b1 l1 e1, .slice b2 l2 e2, .slice b3 l3 e3] 34) := by rw [hw5]; exact bx_new w4 _ _ _ _ _
      have hz5 : w5.heap.size = w4.heap.size + 1 := by rw [hw5]; simp
      have HCk := hide (checkR_any (rwD F D T) w3.heap.size w4.heap.size _ w5 ((unhide HL4).1.kept hb5 (Nat.le_refl _)) (unhide HFt) (by omega))
      have HW5 := hide hw5
      have H5 := hide (And.intro hb5 hx5)
      clear hw5 hb5 hx5
      go_wp2_with fail
      rw [← unhide HW5]
      refine (unhide HCk).mono ?_
      rintro e w6 ⟨rfl, hb6⟩
      obtain ⟨hb5, hx5⟩ := unhide H5
      obtain ⟨hL4, hbw4⟩ := unhide HL4
      have hz6 := hb6.size
      have hbw6 : Below w.heap.size w w6 := (hbw4.trans (hb5.mono hbw4.size)).trans (hb6.mono (by have := hbw4.size; omega))
      have hy6 : w6.heap[w.heap.size + 1]? = some (.cells #[.int .i64 0, .bool false, .slice none 0 0, .slice none 0 0, .slice none 0 0] 34) := by rw [hb6.block _ (by omega), hb5.block _ (by omega)]; exact unhide HY4
      have hx6 : w6.heap[w4.heap.size]? = some (.cells #[.int .i64 k4, .bool x4, .slice b1 l1 e1, .slice b2 l2 e2, .slice b3 l3 e3] 34) := by rw [hb6.block _ (by omega)]; exact hx5
      have hL6 : Lies w3.heap.size w4.heap.size w6 (rwD F D T) [.int .i64 k4, .bool x4, .slice b1 l1 e1, .slice b2 l2 e2, .slice b3 l3 e3] := (hL4.kept hb5 (Nat.le_refl _)).kept hb6 (by omega)
      obtain ⟨z0, z1, z2, z3, z4⟩ := box_cells hy6
      have hfr : ∀ o, w6.frozen? ⟨w.heap.size + 1, o, none⟩ = false := fun o => Bx.fr hy6 o
      have r0 := hfr 0
      have r1 := hfr 1
      have r2 := hfr 2
      have r3 := hfr 3
      have r4 := hfr 4
      obtain ⟨o0, o1, o2, o3, o4⟩ := box_cells hx6
      have hgl : w.heap.size + 1 < w4.heap.size := by omega
      by_cases hc5 : (chk (rwD F D T) 1 0).1 = 0
      · have HE : Hid (errT T p q = 0 ∧ Below w.heap.size w w6 ∧ Lies w3.heap.size w4.heap.size w6 (rwD F D T) [.int .i64 k4, .bool x4, .slice b1 l1 e1, .slice b2 l2 e2, .slice b3 l3 e3]) := ⟨by rw [unhide HET, hc5], hbw6, hL6⟩
        rw [hc5]
        clear hfr hb5 hx5 hL4 hbw4 hbw6 hy6 hx6 hL6 hb6 hc5 HCk
        go_wp2_with fail
        refine bodyPost_ret (v := .tuple #[.agg #[.int .i64 k4, .bool x4, .slice b1 l1 e1, .slice b2 l2 e2, .slice b3 l3 e3], .int .i64 (tms : Int), .int .i64 0]) (by simp [results, Try.results23, go_sem, z0, z1, z2, z3, z4]) rfl ?_
        obtain ⟨he, hbw, hLs⟩ := unhide HE
        refine ⟨below5 hbw (by omega) _ _ _ _ _, .inl ⟨he, [.int .i64 k4, .bool x4, .slice b1 l1 e1, .slice b2 l2 e2, .slice b3 l3 e3], ?_, ?_⟩⟩
        · rw [hFe, unhide HTm]
        · rw [hFe, hDe]
          have h5 := hLs.same (fun k h1 _ => set5_other w6 (w.heap.size + 1) k (by omega) (.int .i64 k4) (.bool x4) (.slice b1 l1 e1) (.slice b2 l2 e2) (.slice b3 l3 e3))
          exact h5.mono (by omega) (by simp; omega)
      · have HE : Hid (errT T p q = (chk (rwD F D T) 1 0).1 ∧ ¬ (chk (rwD F D T) 1 0).1 = 0) := ⟨unhide HET, hc5⟩
        have HB6 := hide hbw6
        have hn1 : ¬ (((chk (rwD F D T) 1 0).1 : Int) = 0) := by omega
        clear hfr hb5 hx5 hL4 hbw4 hbw6 hy6 hx6 hL6 hb6 hc5 HCk
        generalize (chk (rwD F D T) 1 0).1 = c5 at *
        go_wp2_with fail
        refine bodyPost_ret (v := .tuple #[.agg #[.int .i64 0, .bool false, .slice none 0 0, .slice none 0 0, .slice none 0 0], .int .i64 0, .int .i64 (c5 : Int)]) (by simp [results, Try.results23, go_sem, z0, z1, z2, z3, z4]) rfl ?_
        exact rt_bad (below5 (unhide HB6) (by omega) _ _ _ _ _) (unhide HE)
    · simp only [splitV] at he
      subst he
      have HE : Hid (errT T p q = 3 ∧ ¬ 3 = 0) := ⟨errT_form (unhide H0) fun h => h2 h.2, by omega⟩
      obtain ⟨z0, z1, z2, z3, z4⟩ := box_cells (unhide HY3).2
      have hfr : ∀ o, w3.frozen? ⟨w.heap.size + 1, o, none⟩ = false := fun o => Bx.fr (unhide HY3).2 o
      have r0 := hfr 0
      have r1 := hfr 1
      have r2 := hfr 2
      have r3 := hfr 3
      have r4 := hfr 4
      clear hfr h2
      go_wp2_with fail
      refine bodyPost_ret (v := .tuple #[.agg #[.int .i64 0, .bool false, .slice none 0 0, .slice none 0 0, .slice none 0 0], .int .i64 0, .int .i64 3]) (by simp [results, Try.results23, go_sem, z0, z1, z2, z3, z4]) rfl ?_
      exact rt_bad (c := 3) (below5 (unhide HB3) (by omega) _ _ _ _ _) (unhide HE)
  · simp only [splitV] at he
    subst he
    have HE : Hid (errT T p q = 3 ∧ ¬ 3 = 0) := ⟨errT_form (unhide H0) fun h => h1 h.1, by omega⟩
    clear h1
    go_wp2_with fail
    refine (unhide HQ _).mono ?_
    rintro e w3 ⟨hb3, hcase2⟩
    have hz3 := hb3.size
    have HB3 := hide ((unhide HB2).trans (hb3.mono (unhide HB2).size))
    have HY3 : Hid (w3.heap[w.heap.size + 1]? = some (.cells #[.int .i64 0, .bool false, .slice none 0 0, .slice none 0 0, .slice none 0 0] 34)) := by
      show w3.heap[w.heap.size + 1]? = _
      rw [hb3.block _ (by omega)]; exact (unhide HY2).2
    clear hb3 HQ HY2
    obtain ⟨z0, z1, z2, z3, z4⟩ := box_cells (unhide HY3)
    have hfr : ∀ o, w3.frozen? ⟨w.heap.size + 1, o, none⟩ = false := fun o => Bx.fr (unhide HY3) o
    have r0 := hfr 0
    have r1 := hfr 1
    have r2 := hfr 2
    have r3 := hfr 3
    have r4 := hfr 4
    clear hfr
    rcases hcase2 with ⟨h2, he⟩ | ⟨h2, he⟩
    all_goals
      simp only [splitV, if_true] at he
      subst he
      clear h2
      go_wp2_with fail
      refine bodyPost_ret (v := .tuple #[.agg #[.int .i64 0, .bool false, .slice none 0 0, .slice none 0 0, .slice none 0 0], .int .i64 0, .int .i64 3]) (by simp [results, Try.results23, go_sem, z0, z1, z2, z3, z4]) rfl ?_
      exact rt_bad (c := 3) (below5 (unhide HB3) (by omega) _ _ _ _ _) (unhide HE)
end Go.Proofs.Ytlbfcneboaihnaa
