/- Clone, in the document's own answer. -/
import Derived.Test.YthfjofmfiklegaaDoorKids
namespace Go.Proofs.YthfjofmfiklegaaDoor
open Go.RowKit
set_option maxRecDepth 20000 in
set_option maxHeartbeats 1000000 in
theorem cloneR_any (T : Tr) : ∀ (lo hi : Nat) (cs : List Value) (w : World), Lies lo hi w T cs → wt T ≤ 100000 → hi ≤ w.heap.size →
    Calls Tryd.prog 10 #[.agg cs.toArray] w fun e w' => ∃ cs', e = .returned (.agg cs'.toArray) ∧ Below w.heap.size w w' ∧ Lies w.heap.size w'.heap.size w' T cs' := by
  induction T using Tr.ind with
  | h k x d ns ks ih =>
  intro lo hi cs w hL hW hhi
  have hSm := small_of hW
  cases hL with
  | mk _ _ _ _ _ vd vn vk Ks hl hd hn hk hK =>
  obtain ⟨ad, cd, rfl, hcd⟩ := hd.slice
  obtain ⟨an, cn, rfl, hcn⟩ := hn.slice
  obtain ⟨ak, ck, rfl, hck⟩ := hk.slice
  have hkl := hSm.k
  have HSm := hide hSm
  have HR := hide (And.intro hd (And.intro hn (And.intro hk (And.intro hl hK))))
  have hbx0 := bx_new w (.int .i64 k) (.bool x) (.slice ad d.size cd) (.slice an ns.length cn) (.slice ak ks.length ck)
  have hbx1 : Bx ((w.alloc (.cells #[.int .i64 k, .bool x, .slice ad d.size cd, .slice an ns.length cn, .slice ak ks.length ck] 26)).alloc (.cells #[.int .i64 0, .bool false, .slice none 0 0, .slice none 0 0, .slice none 0 0] 26)) (w.heap.size + 1) (.int .i64 0) (.bool false) (.slice none 0 0) (.slice none 0 0) (.slice none 0 0) := by
    have := bx_new (w.alloc (.cells #[.int .i64 k, .bool x, .slice ad d.size cd, .slice an ns.length cn, .slice ak ks.length ck] 26)) (.int .i64 0) (.bool false) (.slice none 0 0) (.slice none 0 0) (.slice none 0 0)
    rwa [World.size_alloc] at this
  have hbw0 : Below w.heap.size w ((w.alloc (.cells #[.int .i64 k, .bool x, .slice ad d.size cd, .slice an ns.length cn, .slice ak ks.length ck] 26)).alloc (.cells #[.int .i64 0, .bool false, .slice none 0 0, .slice none 0 0, .slice none 0 0] 26)) := ((Below.refl _ _).alloc (Nat.le_refl _) _).alloc (by simp) _
  have hbx2 : Bx ((w.alloc (.cells #[.int .i64 k, .bool x, .slice ad d.size cd, .slice an ns.length cn, .slice ak ks.length ck] 26)).alloc (.cells #[.int .i64 0, .bool false, .slice none 0 0, .slice none 0 0, .slice none 0 0] 26)) w.heap.size (.int .i64 k) (.bool x) (.slice ad d.size cd) (.slice an ns.length cn) (.slice ak ks.length ck) := hbx0.kept ((Below.refl (w.heap.size + 1) _).alloc (by simp) _) (by omega)
  obtain ⟨a1, c1, w1, happ1, hb1, hr1⟩ := fresh22 _ lo hi ad d.size cd (byteVals d) (hd.below hbw0 hhi) (byteVals_length d) (one_bytes d) (by have := hSm.d; omega) (by simp; omega)
  have hs1 := hb1.size
  have hbw1 : Below w.heap.size w w1 := hbw0.trans (hb1.mono (by simp; omega))
  have hbx3 := hbx2.kept hb1 (by simp; omega)
  have hbx4 := hbx1.kept hb1 (by simp)
  simp only [World.size_alloc] at happ1 hr1 hs1
  have hl1 : w.heap.size < w1.heap.size := by omega
  obtain ⟨z0, z1, z2, z3, z4⟩ := hbx3.cells
  have f2 := hbx3.fr 2
  -- the names
  obtain ⟨wB, hwB⟩ : ∃ wB, wB = w1.setCell ⟨w.heap.size, 2, none⟩ (.slice a1 d.size c1) := ⟨_, rfl⟩
  have hsB : wB.heap.size = w1.heap.size := by rw [hwB]; simp
  have hbwB : Below w.heap.size w wB := by rw [hwB]; exact hbw1.setCell (by simp) _
  have hbxB : Bx wB w.heap.size (.int .i64 k) (.bool x) (.slice a1 d.size c1) (.slice an ns.length cn) (.slice ak ks.length ck) := by rw [hwB]; exact hbx3.set2 _
  have hbrB : Bx wB (w.heap.size + 1) (.int .i64 0) (.bool false) (.slice none 0 0) (.slice none 0 0) (.slice none 0 0) := by rw [hwB]; exact hbx4.of (set_other _ _ _ _ _ (by omega))
  have hrB : Row (w.heap.size + 1 + 1) w1.heap.size wB (.slice a1 d.size c1) d.size (byteVals d) := by rw [hwB]; exact hr1.same (fun k hk _ => set_other _ _ _ _ _ (by omega))
  obtain ⟨a2, c2, w2, happ2, hb2, hr2⟩ := fresh23 wB lo hi an ns.length cn (ns.map .string) (hn.below hbwB hhi) (by simp) (one_strs ns) (by have := hSm.n; omega) (by omega)
  have hs2 := hb2.size
  have hbw2 : Below w.heap.size w w2 := hbwB.trans (hb2.mono (by omega))
  have hbx5 := hbxB.kept hb2 (by omega)
  have hbr5 := hbrB.kept hb2 (by omega)
  have hd5 := hrB.below hb2 (by omega)
  have hl2 : w.heap.size < w2.heap.size := by omega
  obtain ⟨y0, y1, y2, y3, y4⟩ := hbx5.cells
  have f3 := hbx5.fr 3
  rw [hsB] at happ2 hr2
  rw [hwB] at happ2
  -- what stands ahead of the kids
  obtain ⟨wC, hwC⟩ : ∃ wC, wC = w2.setCell ⟨w.heap.size, 3, none⟩ (.slice a2 ns.length c2) := ⟨_, rfl⟩
  have hsC : wC.heap.size = w2.heap.size := by rw [hwC]; simp
  have hbwC : Below w.heap.size w wC := by rw [hwC]; exact hbw2.setCell (by simp) _
  have hbxC : Bx wC w.heap.size (.int .i64 k) (.bool x) (.slice a1 d.size c1) (.slice a2 ns.length c2) (.slice ak ks.length ck) := by rw [hwC]; exact hbx5.set3 _
  have hbrC : Bx wC (w.heap.size + 1) (.int .i64 0) (.bool false) (.slice none 0 0) (.slice none 0 0) (.slice none 0 0) := by rw [hwC]; exact hbr5.of (set_other _ _ _ _ _ (by omega))
  have hdC : Row (w.heap.size + 1 + 1) wC.heap.size wC (.slice a1 d.size c1) d.size (byteVals d) := by
    rw [hsC]
    refine Row.mono (lo := w.heap.size + 1 + 1) (hi := w1.heap.size) ?_ (Nat.le_refl _) (by omega)
    rw [hwC]; exact hd5.same (fun k hk _ => set_other _ _ _ _ _ (by omega))
  have hnC : Row (w.heap.size + 1 + 1) wC.heap.size wC (.slice a2 ns.length c2) ns.length (ns.map .string) := by
    rw [hsC]
    refine Row.mono (lo := w1.heap.size) (hi := w2.heap.size) ?_ (by omega) (Nat.le_refl _)
    rw [hwC]; exact hr2.same (fun k hk _ => set_other _ _ _ _ _ (by omega))
  have hlC : w.heap.size + 1 + 1 ≤ wC.heap.size := by omega
  have HC := hide (And.intro hbwC (And.intro hbxC (And.intro hbrC (And.intro hdC hnC))))
  have HwC := hide hwC
  clear hbx0 hbx1 hbx2 hbx3 hbx4 hr1 hb1 hs1 hbw1 hbw0 hd hn hk hl hK hSm hwB hsB hbwB hbxB hbrB hrB hb2 hr2 hs2 hbw2 hbx5 hbr5 hd5 hsC hbwC hbxC hbrC hdC hnC hwC
  go_enter Tryd.func10, Tryd.ntmps10
  go_wp2_with fail
  rw [← unhide HwC]
  clear happ1 happ2 z0 z1 z2 z3 z4 f2 y0 y1 y2 y3 y4 f3 HwC
  go_loopw [3, 4] (fun vk vi wr => ∃ i : Nat, i ≤ ks.length ∧ vi = .int .i64 (i : Int) ∧ (∃ a c, vk = .slice a i c) ∧ KidsAt wC.heap.size wr vk ks i ∧ Below wC.heap.size wC wr) (fun _ vi _ => ks.length - (intOf vi).toNat)
  case atStart => exact ⟨0, by omega, rfl, ⟨_, _, rfl⟩, kids_none _ _ _, Below.refl _ _⟩
  case round =>
    obtain ⟨i, hik, rfl, ⟨av, cv, rfl⟩, hKi, hbr⟩ := hrel
    have hszr := hbr.size
    obtain ⟨z0, z1, z2, z3, z4⟩ := ((unhide HC).2.1.kept hbr (by omega)).cells
    by_cases hlt : i < ks.length
    · obtain ⟨-, -, hk, hl, hK⟩ := unhide HR
      obtain ⟨g, o, rfl, hg1, hg2, hcell⟩ := hk.at (by omega)
      have hbel : Below w.heap.size w wr := (unhide HC).1.trans (hbr.mono (by omega))
      have hcell' : ∀ j u, Ks.flatten[j]? = some u → wr.cell? ⟨g, o + j, none⟩ = some u := fun j u hj => by rw [hbel.cell (p := ⟨g, o + j, none⟩) (show g < w.heap.size by omega)]; exact hcell j u hj
      obtain ⟨k', x', b1, n1, c1', b2, n2, c2', b3, n3, c3', hLi, y0, y1, y2, y3, y4⟩ := kid_sl hl hcell' (fun i t c h1 h2 => (hK i t c h1 h2).kept hbel hhi) i hlt
      have HI := hide (ih ks[i] (List.getElem_mem hlt) lo hi _ wr hLi ((unhide HSm).t _ (List.getElem_mem hlt)) (by omega))
      have HKi := hide hKi
      have HT : Hid (ks[i]? = some ks[i]) := List.getElem?_eq_getElem hlt
      clear hcell hcell' hl hK hLi hk hbel hKi
      generalize ks[i] = t at *
      go_wp2_with fail
      refine (unhide HI).mono ?_
      rintro e w3 ⟨cs3, rfl, hb3, hL3⟩
      obtain ⟨k3, x3, d1, m1, e1, d2, m2, e2, d3, m3, e3, rfl⟩ := hL3.form
      have hs3 := hb3.size
      obtain ⟨a', c', w4, happ, hK4, hb4⟩ := kids_step (unhide HKi) hb3 hL3 (unhide HT) (by omega) hszr
      have HN := hide (And.intro hK4 (hbr.trans hb4))
      clear hK4 hb4 hL3 hb3 HI HKi HT z0 z1 z2 z3 z4 y0 y1 y2 y3 y4
      go_wp2_with fail
      go_roundw
      case rel => exact ⟨i + 1, by omega, by go_num, ⟨_, _, rfl⟩, (unhide HN).1, (unhide HN).2⟩
      case measure => simp [intOf]; omega
    · obtain rfl : i = ks.length := by omega
      have f4 := ((unhide HC).2.1.kept hbr (by omega)).fr 4
      obtain ⟨x0, x1, x2, x3, x4⟩ := ((unhide HC).2.2.1.kept hbr (by omega)).cells
      have g0 := ((unhide HC).2.2.1.kept hbr (by omega)).fr 0
      have g1 := ((unhide HC).2.2.1.kept hbr (by omega)).fr 1
      have g2 := ((unhide HC).2.2.1.kept hbr (by omega)).fr 2
      have g3 := ((unhide HC).2.2.1.kept hbr (by omega)).fr 3
      have g4 := ((unhide HC).2.2.1.kept hbr (by omega)).fr 4
      have HKi := hide hKi
      clear hKi
      go_wp2_with fail
      refine bodyPost_ret (v := .agg #[.int .i64 k, .bool x, .slice a1 d.size c1, .slice a2 ns.length c2, .slice av ks.length cv]) (by simp [results, Tryd.results10, go_sem, x0, x1, x2, x3, x4]) rfl ⟨[.int .i64 k, .bool x, .slice a1 d.size c1, .slice a2 ns.length c2, .slice av ks.length cv], rfl, ?_, ?_⟩
      · exact ((((((((unhide HC).1.trans (hbr.mono (by omega))).setCell (by simp) _).setCell (by simp) _).setCell (by simp) _).setCell (by simp) _).setCell (by simp) _).setCell (by simp) _)
      · have hother : ∀ k', w.heap.size + 1 + 1 ≤ k' → ((((((wr.setCell ⟨w.heap.size, 4, none⟩ (.slice av ks.length cv)).setCell ⟨w.heap.size + 1, 0, none⟩ (.int .i64 k)).setCell ⟨w.heap.size + 1, 1, none⟩ (.bool x)).setCell ⟨w.heap.size + 1, 2, none⟩ (.slice a1 d.size c1)).setCell ⟨w.heap.size + 1, 3, none⟩ (.slice a2 ns.length c2)).setCell ⟨w.heap.size + 1, 4, none⟩ (.slice av ks.length cv)).heap[k']? = wr.heap[k']? := fun k' hk' => by
          rw [set_other _ _ _ _ _ (by omega), set_other _ _ _ _ _ (by omega), set_other _ _ _ _ _ (by omega), set_other _ _ _ _ _ (by omega), set_other _ _ _ _ _ (by omega), set_other _ _ _ _ _ (by omega)]
        obtain ⟨Ks2, hKl2, hkr, hK2⟩ := kids_end ((unhide HKi).same (w' := ((((((wr.setCell ⟨w.heap.size, 4, none⟩ (.slice av ks.length cv)).setCell ⟨w.heap.size + 1, 0, none⟩ (.int .i64 k)).setCell ⟨w.heap.size + 1, 1, none⟩ (.bool x)).setCell ⟨w.heap.size + 1, 2, none⟩ (.slice a1 d.size c1)).setCell ⟨w.heap.size + 1, 3, none⟩ (.slice a2 ns.length c2)).setCell ⟨w.heap.size + 1, 4, none⟩ (.slice av ks.length cv))) (fun k' h1 _ => hother k' (by omega)) (by simp))
        refine .mk k x d ns ks _ _ _ Ks2 hKl2 ?_ ?_ ?_ ?_
        · refine Row.mono (lo := w.heap.size + 1 + 1) (hi := wC.heap.size) ?_ (by omega) (by simp; omega)
          exact ((unhide HC).2.2.2.1.below hbr (Nat.le_refl _)).same (fun k' h1 _ => hother k' h1)
        · refine Row.mono (lo := w.heap.size + 1 + 1) (hi := wC.heap.size) ?_ (by omega) (by simp; omega)
          exact ((unhide HC).2.2.2.2.below hbr (Nat.le_refl _)).same (fun k' h1 _ => hother k' h1)
        · exact hkr.mono (by omega) (Nat.le_refl _)
        · exact fun i t c h1 h2 => (hK2 i t c h1 h2).mono (by omega) (Nat.le_refl _)
end Go.Proofs.YthfjofmfiklegaaDoor
