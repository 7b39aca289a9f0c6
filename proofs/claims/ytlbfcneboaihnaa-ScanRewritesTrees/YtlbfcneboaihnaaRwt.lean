/- RewriteTree, in the code. -/
import Derived.Test.YtlbfcneboaihnaaIns
import Derived.Test.YtlbfcneboaihnaaInd
import Derived.Test.YtlbfcneboaihnaaSwp
namespace Go.Proofs.Ytlbfcneboaihnaa
open Go.RowKit Go.Great Tn
set_option linter.unusedSimpArgs false
open Classical in
/-- The fault of a rewriting. -/
noncomputable def errT (T : Tr) (p q : List Nat) : Nat := if (chk T 1 0).1 ≠ 0 then (chk T 1 0).1 else if ¬ (Sha.isPth p ∧ Sha.isPth q) then 3 else (chk (rwD (p.take 32) (q.take 32) T) 1 0).1
/-- What a rewriting answers. -/
def RtIs (w : World) (T : Tr) (p q : List Nat) (e : Ending) (w' : World) : Prop := Below w.heap.size w w' ∧
  ((errT T p q = 0 ∧ ∃ cs, e = .returned (.tuple #[.agg cs.toArray, .int .i64 (rcA (p.take 32) T : Nat), .int .i64 0]) ∧ Lies w.heap.size w'.heap.size w' (rwD (p.take 32) (q.take 32) T) cs) ∨
   (errT T p q ≠ 0 ∧ e = .returned (.tuple #[.agg #[.int .i64 0, .bool false, .slice none 0 0, .slice none 0 0, .slice none 0 0], .int .i64 0, .int .i64 (errT T p q : Nat)])))
theorem errT_bad {T : Tr} {p q : List Nat} (h : (chk T 1 0).1 ≠ 0) : errT T p q = (chk T 1 0).1 := by unfold errT; rw [if_pos h]
theorem errT_form {T : Tr} {p q : List Nat} (h : (chk T 1 0).1 = 0) (hn : ¬ (Sha.isPth p ∧ Sha.isPth q)) : errT T p q = 3 := by unfold errT; rw [if_neg (fun h' => h' h), if_pos hn]
theorem errT_in {T : Tr} {p q : List Nat} (h : (chk T 1 0).1 = 0) (h1 : Sha.isPth p) (h2 : Sha.isPth q) : errT T p q = (chk (rwD (p.take 32) (q.take 32) T) 1 0).1 := by unfold errT; rw [if_neg (fun h' => h' h), if_neg (fun h' => h' ⟨h1, h2⟩)]
theorem below5 {B : Nat} {w W : World} (h : Below B w W) {b : Nat} (hb : B ≤ b) (v0 v1 v2 v3 v4 : Value) : Below B w (((((W.setCell ⟨b, 0, none⟩ v0).setCell ⟨b, 1, none⟩ v1).setCell ⟨b, 2, none⟩ v2).setCell ⟨b, 3, none⟩ v3).setCell ⟨b, 4, none⟩ v4) :=
  ((((h.setCell hb _).setCell hb _).setCell hb _).setCell hb _).setCell hb _
theorem set5_other (W : World) (b k : Nat) (hk : k ≠ b) (v0 v1 v2 v3 v4 : Value) : (((((W.setCell ⟨b, 0, none⟩ v0).setCell ⟨b, 1, none⟩ v1).setCell ⟨b, 2, none⟩ v2).setCell ⟨b, 3, none⟩ v3).setCell ⟨b, 4, none⟩ v4).heap[k]? = W.heap[k]? := by
  rw [set_other _ _ _ _ _ hk, set_other _ _ _ _ _ hk, set_other _ _ _ _ _ hk, set_other _ _ _ _ _ hk, set_other _ _ _ _ _ hk]
theorem lies_drew {lo hi : Nat} {w : World} {T : Tr} {cs : List Value} (h : Lies lo hi w T cs) : Lies lo hi w.drew T cs := h.same fun _ _ _ => rfl
theorem rt_bad {w W : World} {T : Tr} {p q : List Nat} {c : Nat} (hb : Below w.heap.size w W) (he : errT T p q = c ∧ ¬ c = 0) : RtIs w T p q (.returned (.tuple #[.agg #[.int .i64 0, .bool false, .slice none 0 0, .slice none 0 0, .slice none 0 0], .int .i64 0, .int .i64 (c : Int)])) W :=
  ⟨hb, .inr ⟨by rw [he.1]; exact he.2, by rw [he.1]⟩⟩
set_option maxRecDepth 20000 in
set_option maxHeartbeats 1000000 in
theorem rewriteTree_any (T : Tr) (lo hi : Nat) (cs : List Value) (p q : List Nat) (w : World) (hL : Lies lo hi w T cs) (hF : Fit T) (hhi : hi ≤ w.heap.size) (h1 : 1 ≤ w.heap.size) (hct : (chk T 1 0).1 = 0 → cn T ≤ 300 ∧ cb T ≤ 4000)
    (hp : Sha.Bytes p) (hpm : p.length ≤ 1000000) (hq : Sha.Bytes q) (hqm : q.length ≤ 1000000) (hmx : ∃ m, w.cell? ⟨0, 0, none⟩ = some (.int .i64 m)) :
    Calls Try.prog 22 #[.agg cs.toArray, .string (strOf p), .string (strOf q)] w fun e w' => RtIs w T p q e w' := by
  obtain ⟨kt, xt, at0, nt, ct, bt, mt, dt, et, pt, qt, rfl⟩ := hL.form
  obtain ⟨wA, hwA⟩ : ∃ wA, wA = (w.alloc (.cells #[.int .i64 kt, .bool xt, .slice at0 nt ct, .slice bt mt dt, .slice et pt qt] 34)).alloc (.cells #[.int .i64 0, .bool false, .slice none 0 0, .slice none 0 0, .slice none 0 0] 34) := ⟨_, rfl⟩
  have hbA : Below w.heap.size w wA := by rw [hwA]; exact ((Below.refl _ _).alloc (Nat.le_refl _) _).alloc (by simp) _
  have hsA : wA.heap.size = w.heap.size + 1 + 1 := by rw [hwA]; simp
  have hx0 : wA.heap[w.heap.size]? = some (.cells #[.int .i64 kt, .bool xt, .slice at0 nt ct, .slice bt mt dt, .slice et pt qt] 34) := by
    rw [hwA]
    exact ((bx_new w _ _ _ _ _).kept ((Below.refl (w.heap.size + 1) _).alloc (by simp) _) (by omega))
  have hx1 : wA.heap[w.heap.size + 1]? = some (.cells #[.int .i64 0, .bool false, .slice none 0 0, .slice none 0 0, .slice none 0 0] 34) := by
    rw [hwA]
    have := bx_new (w.alloc (.cells #[.int .i64 kt, .bool xt, .slice at0 nt ct, .slice bt mt dt, .slice et pt qt] 34)) (.int .i64 0) (.bool false) (.slice none 0 0) (.slice none 0 0) (.slice none 0 0)
    rwa [World.size_alloc] at this
  have HC := hide (check_any T lo hi _ wA (hL.kept hbA hhi) hF (by omega))
  have HA := hide (And.intro hbA (And.intro hsA (And.intro hx0 hx1)))
  have HL := hide (And.intro hL (And.intro hF (And.intro hct (And.intro hp (And.intro hq hmx)))))
  have HwA := hide hwA
  clear hwA hbA hx0 hx1 hL hF hct hp hq hmx
  go_enter Try.func22, Try.ntmps22
  go_wp2_with fail
  rw [← unhide HwA]
  refine (unhide HC).mono ?_
  rintro e w1 ⟨rfl, hb1⟩
  obtain ⟨hbA, _, hx0, hx1⟩ := unhide HA
  have hs1 := hb1.size
  have hy0 : w1.heap[w.heap.size]? = some (.cells #[.int .i64 kt, .bool xt, .slice at0 nt ct, .slice bt mt dt, .slice et pt qt] 34) := by rw [hb1.block _ (by omega)]; exact hx0
  have hy1 : w1.heap[w.heap.size + 1]? = some (.cells #[.int .i64 0, .bool false, .slice none 0 0, .slice none 0 0, .slice none 0 0] 34) := by rw [hb1.block _ (by omega)]; exact hx1
  have hbw1 : Below w.heap.size w w1 := hbA.trans (hb1.mono hbA.size)
  have HB1 := hide hbw1
  have HY := hide (And.intro hy0 hy1)
  have hlz : w.heap.size + 1 < w1.heap.size := by omega
  clear hb1 hbw1 HC HwA hbA hx0 hx1 hs1
  by_cases hc1 : (chk T 1 0).1 = 0
  case neg =>
    have HE := hide (And.intro (errT_bad (p := p) (q := q) hc1) hc1)
    obtain ⟨z0, z1, z2, z3, z4⟩ := box_cells hy1
    have hfr : ∀ o, w1.frozen? ⟨w.heap.size + 1, o, none⟩ = false := fun o => Bx.fr hy1 o
    have r0 := hfr 0
    have r1 := hfr 1
    have r2 := hfr 2
    have r3 := hfr 3
    have r4 := hfr 4
    have hn1 : ¬ (((chk T 1 0).1 : Int) = 0) := by omega
    clear hc1 hfr hy0 hy1
    generalize (chk T 1 0).1 = c1 at *
    go_wp2_with fail
    refine bodyPost_ret (v := .tuple #[.agg #[.int .i64 0, .bool false, .slice none 0 0, .slice none 0 0, .slice none 0 0], .int .i64 0, .int .i64 (c1 : Int)]) (by simp [results, Try.results22, go_sem, z0, z1, z2, z3, z4]) rfl ?_
    exact rt_bad (below5 (unhide HB1) (by omega) _ _ _ _ _) (unhide HE)
  have hbw1 := unhide HB1
  obtain ⟨hL, hF, hct, hp, hq, hmx⟩ := unhide HL
  have HSw := hide (swapOf_any p q w1 hp (by omega) hq (by omega))
  have H0 := hide hc1
  rw [hc1]
  clear hbw1 hL hF hct hp hq hmx hc1 hy0 hy1
  obtain ⟨y0, y1, y2, y3, y4⟩ := box_cells (unhide HY).1
  go_wp2_with fail
  refine (unhide HSw).mono ?_
  rintro e w2 ⟨hb2, ⟨hp1, hq1, gs, hgs, rfl, hst⟩ | ⟨hno, rfl⟩⟩
  case inr =>
    have hy1 : w2.heap[w.heap.size + 1]? = some (.cells #[.int .i64 0, .bool false, .slice none 0 0, .slice none 0 0, .slice none 0 0] 34) := by rw [hb2.block _ hlz]; exact (unhide HY).2
    have HE : Hid (errT T p q = 3 ∧ ¬ 3 = 0) := ⟨errT_form (unhide H0) hno, by omega⟩
    have HB2 := hide ((unhide HB1).trans (hb2.mono (unhide HB1).size))
    obtain ⟨z0, z1, z2, z3, z4⟩ := box_cells hy1
    have hfr : ∀ o, w2.frozen? ⟨w.heap.size + 1, o, none⟩ = false := fun o => Bx.fr hy1 o
    have r0 := hfr 0
    have r1 := hfr 1
    have r2 := hfr 2
    have r3 := hfr 3
    have r4 := hfr 4
    clear hfr hy1 hb2 hno
    go_wp2_with fail
    refine bodyPost_ret (v := .tuple #[.agg #[.int .i64 0, .bool false, .slice none 0 0, .slice none 0 0, .slice none 0 0], .int .i64 0, .int .i64 3]) (by simp [results, Try.results22, go_sem, z0, z1, z2, z3, z4]) rfl ?_
    exact rt_bad (c := 3) (below5 (unhide HB2) (by omega) _ _ _ _ _) (unhide HE)
  have hz2 := hb2.size
  have hgz : gs < w2.heap.size := (Array.getElem?_eq_some_iff.1 hst).1
  have hbw2 : Below w.heap.size w w2 := (unhide HB1).trans (hb2.mono (unhide HB1).size)
  have hy0 : w2.heap[w.heap.size]? = some (.cells #[.int .i64 kt, .bool xt, .slice at0 nt ct, .slice bt mt dt, .slice et pt qt] 34) := by rw [hb2.block _ (by omega)]; exact (unhide HY).1
  have hy1 : w2.heap[w.heap.size + 1]? = some (.cells #[.int .i64 0, .bool false, .slice none 0 0, .slice none 0 0, .slice none 0 0] 34) := by rw [hb2.block _ hlz]; exact (unhide HY).2
  obtain ⟨hL, hF, hct, hp, hq, hmx⟩ := unhide HL
  obtain ⟨hc3, hcb⟩ := hct (unhide H0)
  have hvl := (chk_vld T 1 0 (unhide H0)).1
  have hSm := sml_of hvl hc3 hcb
  have hFb : Sha.Bytes (p.take 32) := hp.take 32
  have hDb : Sha.Bytes (q.take 32) := hq.take 32
  have hFl : (p.take 32).length = 32 := by rw [List.length_take]; have := hp1.1; omega
  have hDl : (q.take 32).length = 32 := by rw [List.length_take]; have := hq1.1; omega
  have hN1 := rcN_le hFl T hSm
  have hT1 := rcT_le hFl T hvl
  have hmx2 : ∃ m, w2.cell? ⟨0, 0, none⟩ = some (.int .i64 m) := by
    obtain ⟨m, hm⟩ := hmx
    exact ⟨m, by rw [hbw2.cell (p := ⟨0, 0, none⟩) (by show 0 < w.heap.size; omega)]; exact hm⟩
  have HIn := hide (inNames_any (p.take 32) (q.take 32) hFb hFl hDb hDl T lo w.heap.size gs 0 _ w2 ((hL.mono (Nat.le_refl _) hhi).kept hbw2 (Nat.le_refl _)) hSm (by omega) (by omega) hst (by omega) hmx2)
  have HK := hide (And.intro hSm (And.intro hFb (And.intro hDb (And.intro hFl (And.intro hDl (And.intro hmx2 (And.intro hvl (And.intro hbw2 (And.intro hy0 (And.intro hy1 (And.intro hp1 hq1)))))))))))
  have hTT : rcN (p.take 32) T + rcT (p.take 32) T ≤ 1000000 := by omega
  obtain ⟨m0, m1, m2, m3, m4⟩ := box_cells hy0
  clear hL hF hct hp hq hmx hc3 hcb hvl hSm hFb hDb hFl hDl hN1 hT1 hmx2 hbw2 hy0 hy1 hb2 hst HSw hp1 hq1 y0 y1 y2 y3 y4
  generalize hFe : p.take 32 = F at *
  generalize hDe : q.take 32 = D at *
  go_wp2_with fail
  refine (unhide HIn).mono ?_
  rintro e w3 ⟨C, cs3, rfl, hSr, hMi, hso, hsw⟩
  obtain ⟨k3, x3, b1, l1, e1, b2, l2, e2, b3, l3, e3, rfl⟩ := hMi.form
  rw [Nat.zero_add] at hsw
  obtain ⟨w4, hw4⟩ : ∃ w4, w4 = w3.alloc (.cells #[.int .i64 k3, .bool x3, .slice b1 l1 e1, .slice b2 l2 e2, .slice b3 l3 e3] 34) := ⟨_, rfl⟩
  have hb4 : Below w3.heap.size w3 w4 := by rw [hw4]; exact (Below.refl _ _).alloc (Nat.le_refl _) _
  have hs4 : w4.heap.size = w3.heap.size + 1 := by rw [hw4]; simp
  have hx4 : w4.heap[w3.heap.size]? = some (.cells #[.int .i64 k3, .bool x3, .slice b1 l1 e1, .slice b2 l2 e2, .slice b3 l3 e3] 34) := by rw [hw4]; exact bx_new w3 _ _ _ _ _
  obtain ⟨hSm, hFb, hDb, hFl, hDl, hmx2, hvl, hbw2, hy0, hy1, hp1, hq1⟩ := unhide HK
  have hz3 := hso.size
  have hzw := hbw2.size
  have hSmC := hSr.sml hFl hDl hSm
  have hLC := hMi.lies (B := w3.heap.size) (by omega) (Nat.le_refl _)
  have HCk := hide (check_any C 0 w3.heap.size _ w4 (hLC.kept hb4 (Nat.le_refl _)) hSmC.fit (by omega))
  have HW4 := hide hw4
  have H4 := hide (And.intro hb4 (And.intro hs4 (And.intro hx4 (And.intro hSr (And.intro hMi (And.intro hso (And.intro hsw hSmC)))))))
  clear hw4 hb4 hx4 hSm hFb hDb hFl hDl hmx2 hvl hbw2 hy0 hy1 hp1 hq1 hSmC hLC hSr hMi hso hsw HIn m0 m1 m2 m3 m4
  go_wp2_with fail
  rw [← unhide HW4]
  refine (unhide HCk).mono ?_
  rintro e w5 ⟨rfl, hb5⟩
  obtain ⟨hb4, _, hx4, hSr, hMi, hso, hsw, hSmC⟩ := unhide H4
  obtain ⟨hSm, hFb, hDb, hFl, hDl, hmx2, hvl, hbw2, hy0, hy1, hp1, hq1⟩ := unhide HK
  obtain ⟨C0, hS0, hE0⟩ := rwD_srt F D T hvl
  obtain ⟨hcc, hone⟩ := srt_fin hSr hS0 (unhide H0)
  have hcc0 : (chk (rwD F D T) 1 0).1 = (chk C 1 0).1 := by rw [hE0, chk_dat hFl hDl, hcc]
  have heT : errT T p q = (chk C 1 0).1 := by rw [errT_in (unhide H0) hp1 hq1, hFe, hDe, hcc0]
  have hs5 := hb5.size
  have hlow : ∀ k, k < w2.heap.size → k ≠ gs → w5.heap[k]? = w2.heap[k]? := fun k h1 h2 => by rw [hb5.block k (by omega), hb4.block k (by omega), hso.block k h1 h2]
  have hmid : ∀ k, k < w3.heap.size → w5.heap[k]? = w3.heap[k]? := fun k h1 => by rw [hb5.block k (by omega), hb4.block k (by omega)]
  have hbw5 : Below w.heap.size w w5 := ⟨by rw [hb5.os, hb4.os, hso.os, hbw2.os], by rw [hb5.tape, hb4.tape, hso.tape, hbw2.tape], by rw [hb5.output, hb4.output, hso.output, hbw2.output], by omega, fun k hk => by rw [hlow k (by omega) (by omega), hbw2.block k hk]⟩
  have hy5 : w5.heap[w.heap.size + 1]? = some (.cells #[.int .i64 0, .bool false, .slice none 0 0, .slice none 0 0, .slice none 0 0] 34) := by rw [hlow _ (by omega) (by omega)]; exact hy1
  by_cases hc5 : (chk C 1 0).1 = 0
  case neg =>
    have HE : Hid (errT T p q = (chk C 1 0).1 ∧ ¬ (chk C 1 0).1 = 0) := ⟨heT, hc5⟩
    have HB5 := hide hbw5
    have hn1 : ¬ (((chk C 1 0).1 : Int) = 0) := by omega
    obtain ⟨z0, z1, z2, z3, z4⟩ := box_cells hy5
    have hfr : ∀ o, w5.frozen? ⟨w.heap.size + 1, o, none⟩ = false := fun o => Bx.fr hy5 o
    have r0 := hfr 0
    have r1 := hfr 1
    have r2 := hfr 2
    have r3 := hfr 3
    have r4 := hfr 4
    clear hfr hb4 hx4 hSr hMi hso hsw hSmC hSm hFb hDb hFl hDl hmx2 hvl hbw2 hy0 hy1 hp1 hq1 hS0 hE0 hcc hone hcc0 heT hlow hmid hbw5 hy5 hc5 hb5
    generalize (chk C 1 0).1 = c5 at *
    go_wp2_with fail
    refine bodyPost_ret (v := .tuple #[.agg #[.int .i64 0, .bool false, .slice none 0 0, .slice none 0 0, .slice none 0 0], .int .i64 0, .int .i64 (c5 : Int)]) (by simp [results, Try.results22, go_sem, z0, z1, z2, z3, z4]) rfl ?_
    exact rt_bad (below5 (unhide HB5) (by omega) _ _ _ _ _) (unhide HE)
  have hx5 : w5.heap[w3.heap.size]? = some (.cells #[.int .i64 k3, .bool x3, .slice b1 l1 e1, .slice b2 l2 e2, .slice b3 l3 e3] 34) := by rw [hb5.block _ (by omega)]; exact hx4
  have hM5 : Mine lo w.heap.size w5 w2.heap.size w3.heap.size C [.int .i64 k3, .bool x3, .slice b1 l1 e1, .slice b2 l2 e2, .slice b3 l3 e3] := hMi.same (fun k _ h => hmid k (by omega)) (fun k _ h => hmid k h)
  have hcells : ∀ j v, [Value.int .i64 k3, .bool x3, .slice b1 l1 e1, .slice b2 l2 e2, .slice b3 l3 e3][j]? = some v → w5.cell? ⟨w3.heap.size, 0 + j, none⟩ = some v := fun j v hj => by
    rw [cell_of_row w5 w3.heap.size (0 + j) _ _ _ hx5, Nat.zero_add]
    simpa using hj
  have hmx5 : ∃ m, w5.cell? ⟨0, 0, none⟩ = some (.int .i64 m) := by
    obtain ⟨m, hm⟩ := hmx2
    exact ⟨m, by rw [World.cell?_of_block (w := w2) (a := ⟨0, 0, none⟩) (hlow 0 (by omega) (by omega))]; exact hm⟩
  have hgs5 : w5.heap[gs]? = some (SwBox F D (rcN F T)) := by rw [hmid gs (by omega)]; exact hsw
  have HID := hide (inData_any F D hFb hFl hDb hDl C lo w.heap.size w2.heap.size w3.heap.size w3.heap.size 0 gs (rcN F T) _ w5 hM5 hSmC hcells ⟨_, _, hx5⟩ hgs5 (by rw [hSr.times]; exact hTT) h1 (by omega) hgz (Nat.le_refl _) hmx5)
  have HX5 := hide hx5
  have H5 := hide (And.intro hbw5 (And.intro hy5 (And.intro hlow (And.intro (hone hc5) (And.intro hE0 (And.intro hSr (And.intro hSm (And.intro heT hc5))))))))
  rw [hc5]
  clear hb4 hx4 hSr hMi hso hsw hSmC hSm hFb hDb hFl hDl hmx2 hvl hbw2 hy0 hy1 hp1 hq1 hS0 hE0 hcc hone hcc0 heT hlow hmid hbw5 hy5 hc5 hb5 hx5 hM5 hcells hmx5 hgs5
  go_wp2_with fail
  refine (unhide HID).mono ?_
  rintro e w6 ⟨rfl, d0, d1, d2, d3, d4, v, hds, hLa⟩
  obtain ⟨rfl, rfl, rfl, rfl, rfl⟩ := same5 hds
  obtain ⟨hbw5, hy5, hlow, hCC, hE0, hSr, hSm, heT, hc5⟩ := unhide H5
  have hz6 := hLa.size
  have hLs : Lies w2.heap.size w6.heap.size w6 (dat F D C) [.int .i64 k3, .bool x3, v, .slice b2 l2 e2, .slice b3 l3 e3] := hLa.lies.lies fun k hk => by omega
  obtain ⟨av, nv, cv, rfl⟩ : ∃ a n c, v = .slice a n c := by
    obtain ⟨_, _, a, n, c, _, _, _, _, _, _, he⟩ := hLs.form
    exact ⟨a, n, c, (same5 he).2.2.1⟩
  have hx6 : w6.heap[w3.heap.size]? = some (.cells #[.int .i64 k3, .bool x3, .slice av nv cv, .slice b2 l2 e2, .slice b3 l3 e3] 34) := by
    rw [hLa.here]
    have hx5 := unhide HX5
    simp [World.setCell, Array.getElem?_modify, hx5]
  have hy6 : w6.heap[w.heap.size + 1]? = some (.cells #[.int .i64 0, .bool false, .slice none 0 0, .slice none 0 0, .slice none 0 0] 34) := by
    rw [hLa.rest _ (by omega) (by omega) (by omega) (by omega)]; exact hy5
  have hc6 : w6.cell? ⟨gs, 2, none⟩ = some (.int .i64 ((rcA F T : Nat) : Int)) := by
    have h := hLa.sw
    rw [cell_of_row w6 gs 2 _ _ _ h, rc_all F T hSm, hSr.times]
    rfl
  have hbw6 : Below w.heap.size w w6 := ⟨hLa.os.trans hbw5.os, hLa.tape.trans hbw5.tape, hLa.output.trans hbw5.output, by omega, fun k hk => by rw [hLa.rest k (by omega) (by omega) (by omega) (by omega), hbw5.block k hk]⟩
  have hEq : dat F D C = rwD F D T := by rw [hE0, hCC]
  rw [hEq] at hLs
  have HE : Hid (errT T p q = 0 ∧ Below w.heap.size w w6 ∧ Lies w2.heap.size w6.heap.size w6 (rwD F D T) [.int .i64 k3, .bool x3, .slice av nv cv, .slice b2 l2 e2, .slice b3 l3 e3]) := ⟨by rw [heT, hc5], hbw6, hLs⟩
  obtain ⟨q0, q1, q2, q3, q4⟩ := box_cells hx6
  obtain ⟨z0, z1, z2, z3, z4⟩ := box_cells hy6
  have hfr : ∀ o, w6.frozen? ⟨w.heap.size + 1, o, none⟩ = false := fun o => Bx.fr hy6 o
  have r0 := hfr 0
  have r1 := hfr 1
  have r2 := hfr 2
  have r3 := hfr 3
  have r4 := hfr 4
  have hgl : w.heap.size + 1 < gs := by omega
  have hgl2 : w.heap.size + 1 < w3.heap.size := by omega
  obtain ⟨tms, htm⟩ : ∃ tms, rcA F T = tms := ⟨_, rfl⟩
  rw [htm] at hc6
  have HTm := hide htm
  clear htm
  clear hbw5 hy5 hlow hCC hE0 hSr hSm heT hc5 hLs hx6 hy6 hbw6 hEq hfr hLa HID HX5
  go_wp2_with fail
  go_region
  all_goals
    go_wp2_with fail
    refine bodyPost_ret (v := .tuple #[.agg #[.int .i64 k3, .bool x3, .slice av nv cv, .slice b2 l2 e2, .slice b3 l3 e3], .int .i64 (tms : Int), .int .i64 0]) (by simp [results, Try.results22, go_sem, z0, z1, z2, z3, z4]) rfl ?_
    obtain ⟨he, hbw, hLs⟩ := unhide HE
    refine ⟨below5 (W := w6.drew) hbw.drew (by omega) _ _ _ _ _, .inl ⟨he, [.int .i64 k3, .bool x3, .slice av nv cv, .slice b2 l2 e2, .slice b3 l3 e3], ?_, ?_⟩⟩
    · rw [hFe, unhide HTm]
    · rw [hFe, hDe]
      have h5 := hLs.same (fun k h1 _ => set5_other w6 (w.heap.size + 1) k (by omega) (.int .i64 k3) (.bool x3) (.slice av nv cv) (.slice b2 l2 e2) (.slice b3 l3 e3))
      have h6 := h5.mono (lo' := w.heap.size) (hi' := w6.heap.size) (by omega) (Nat.le_refl _)
      have hsz : ((((((w6.setCell ⟨w.heap.size + 1, 0, none⟩ (.int .i64 k3)).setCell ⟨w.heap.size + 1, 1, none⟩ (.bool x3)).setCell ⟨w.heap.size + 1, 2, none⟩ (.slice av nv cv)).setCell ⟨w.heap.size + 1, 3, none⟩ (.slice b2 l2 e2)).setCell ⟨w.heap.size + 1, 4, none⟩ (.slice b3 l3 e3)).drew).heap.size = w6.heap.size := by simp
      rw [hsz]
      exact lies_drew h6
end Go.Proofs.Ytlbfcneboaihnaa
