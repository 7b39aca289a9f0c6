/- The document's journal: Add, Commit. -/
import Derived.Test.YtebcmicmklpflaaGreatDoorUb
namespace Go.Proofs.YtebcmicmklpflaaGreatDoor
open Go.RowKit Go.Maps
set_option linter.unusedSimpArgs false
set_option maxRecDepth 20000 in
set_option maxHeartbeats 2000000 in
theorem ref_add_ok (w : World) (r : Nat) (L : List (List (List UInt8))) (D : List (List UInt8)) (V : Nat → Prop) (a : Option Addr) (c : Nat) (d : List UInt8) (h : RJ w r L D V) (hrow : Row w.heap.size w (.slice a d.length c) d) (hw : wt D + d.length ≤ 524288) (hn : D.length < 4096) :
    Calls Tryz.prog 23 #[.pointer (some ⟨r, 0, none⟩), .slice a d.length c] w fun e w' => e = .returned (.int .i64 0) ∧ ∃ V', RJ w' r L (D ++ [d]) V' ∧ FFr V V' w w' := by
  obtain ⟨VL, VD, Lv, Dv, hb, hL, hD, hdis, hnr, v1, v2, v3, v4⟩ := h
  obtain ⟨c0, c1, cz⟩ := RJ.cells hb
  have HSz := hide (size_ok VD Dv D w hD (by omega) (by omega))
  have HSz2 := hide (size_ok VD Dv D w.drew (hD.kept (fun _ o => o) (fun _ _ => rfl)) (by omega) (by omega))
  obtain ⟨da, dc, eD⟩ := hD.shape
  obtain ⟨WD, hWD⟩ : ∃ WD : Int, WD = (wt D : Int) := ⟨_, rfl⟩
  rw [← hWD] at HSz HSz2
  obtain ⟨N, hN⟩ : ∃ N, N = D.length := ⟨_, rfl⟩
  obtain ⟨M, hM⟩ : ∃ M, M = d.length := ⟨_, rfl⟩
  subst eD
  rw [← hN] at HSz HSz2 c1
  rw [← hM]
  have hwr : IntKind.i64.wrap (WD + (M : Int)) = WD + (M : Int) := IntWalk.i64_in _ (by omega)
  have hB1 : decide (524288 < WD + (M : Int)) = false := decide_eq_false (by omega)
  have hB2 : decide (4096 ≤ (N : Int)) = false := decide_eq_false (by omega)
  have c1d : w.drew.cell? ⟨r, 1, none⟩ = some (.slice da N dc) := c1
  have z1 := cz 1
  have HG : Hid (∀ W : World, W.heap = w.heap → W.os = w.os → W.tape = w.tape → W.output = w.output → ∃ xa xc W1 la lc W3, (∀ ty, (app22 ty #[.slice (some ⟨W.heap.size, 0, none⟩) 0 0, .slice a M c]).run Tryz.prog (W.alloc (.cells #[] 5)) = .ok (.slice xa M xc) W1) ∧ W1.cell? ⟨r, 1, none⟩ = some (.slice da N dc) ∧ (W.alloc (.cells #[] 5)).cell? ⟨r, 1, none⟩ = some (.slice da N dc) ∧ (W1.alloc (.cells #[.slice xa M xc] 39)).cell? ⟨r, 1, none⟩ = some (.slice da N dc) ∧ (∀ ty, (appL ty #[.slice da N dc, .slice (some ⟨W1.heap.size, 0, none⟩) 1 1]).run Tryz.prog (W1.alloc (.cells #[.slice xa M xc] 39)) = .ok (.slice la (N + 1) lc) W3) ∧ W3.cell? ⟨r, 1, none⟩ = some (.slice da N dc) ∧ W3.frozen? ⟨r, 1, none⟩ = false ∧ Hid (∃ V', RJ (W3.setCell ⟨r, 1, none⟩ (.slice la (N + 1) lc)) r L (D ++ [d]) V' ∧ FFr V V' w (W3.setCell ⟨r, 1, none⟩ (.slice la (N + 1) lc)))) := by
    intro W hh ho ht hp
    have hbW : Below w.heap.size w W := ⟨ho, ht, hp, by rw [hh]; exact Nat.le_refl _, fun b _ => by rw [hh]⟩
    have hb0 : Below w.heap.size w (W.alloc (.cells #[] 5)) := hbW.alloc (by rw [hh]; exact Nat.le_refl _) _
    have ho0 : OwnB (W.alloc (.cells #[] 5)) W.heap.size (.slice (some ⟨W.heap.size, 0, none⟩) 0 0) [] := owns_new W 5 1
    have hr0 : Row (W.alloc (.cells #[] 5)).heap.size (W.alloc (.cells #[] 5)) (.slice a d.length c) d := by
      obtain ⟨a1, c1, f1, f2, f3⟩ := hrow.below hb0
      exact ⟨a1, c1, f1, f2, fun h0 => by obtain ⟨g, o, g1, g2, g3⟩ := f3 h0; exact ⟨g, o, g1, Nat.lt_of_lt_of_le g2 hb0.size, g3⟩⟩
    obtain ⟨x, W1, happ1, ho1, hg1⟩ := app_bytes ho0 (by simp) hr0 (by simp; omega)
    rw [List.nil_append] at ho1
    have hWs : W.heap.size = w.heap.size := by rw [hh]
    have hb1 : Below w.heap.size w W1 := hb0.trans ((grown_below hg1 ho0 (by simp)).mono (by rw [hWs]; exact Nat.le_refl _))
    obtain ⟨xa, xc, ex, hxc⟩ := ho1.shape
    subst ex
    have hz1 := hb1.size
    have hx : Rec W1 (fun b => w.heap.size ≤ b ∧ b < W1.heap.size) (.slice xa d.length xc) d := by
      obtain ⟨a1, c1', e1, p1, p2, p3⟩ := ho1.rec
      refine ⟨a1, c1', e1, p1, p2, fun h0 => ?_⟩
      obtain ⟨g, cur, ea, hg, hgh, hp⟩ := p3 h0
      exact ⟨g, cur, ea, ⟨by rw [← hWs]; exact hg, (Array.getElem?_eq_some_iff.1 hgh).1⟩, hgh, hp⟩
    obtain ⟨vals, h1, h2, h3⟩ := id hD
    have h1' : W1.ownsRow 0 39 1 (.slice da D.length dc) D.length vals := ownsRow_kept h1 (fun q e => hb1.block q (v4 q (v2 q (h2 q e))))
    obtain ⟨lv', W3, hr, hg⟩ := rec_grow h1' (by omega) (.slice xa d.length xc) rfl
    obtain ⟨la, lc, elv⟩ := hg.shp
    subst elv
    have hrl : r < w.heap.size := v4 r v3
    have hz3 := hg.gr.size
    have hold : ∀ b, b < w.heap.size → ¬ VD b → W3.heap[b]? = w.heap[b]? := fun b h4 h5 => by
      rw [hg.gr.block b (by omega) (fun e => h5 (h2 b e.symm)), hb1.block b h4]
    have hr3 : W3.heap[r]? = some (rjBlk Lv (.slice da D.length dc)) := by rw [hold r hrl hnr]; exact hb
    obtain ⟨_, d1, dz⟩ := RJ.cells hr3
    have hrec := Recs.grown h1 h2 h3 (fun q o => v4 q (v2 q o)) hb1 hx hg
    have hset : ∀ b, b ≠ r → (W3.setCell ⟨r, 1, none⟩ (.slice la (D.length + 1) lc)).heap[b]? = W3.heap[b]? := fun b hb => set_other _ _ _ _ _ hb
    have hcc : ∀ W', Below w.heap.size w W' → W'.cell? ⟨r, 1, none⟩ = some (.slice da N dc) := fun W' hB => by rw [hB.cell (p := ⟨r, 1, none⟩) hrl]; exact c1
    rw [hM, hN]
    rw [hN] at hcc
    refine ⟨xa, xc, W1, la, lc, W3, happ1, hcc W1 hb1, hcc _ hb0, hcc _ (hb1.alloc hz1 _), hr, d1, dz 1, fun q => V q ∨ (w.heap.size ≤ q ∧ q < W3.heap.size), ?_, ?_⟩
    · refine ⟨VL, more VD w W3, Lv, .slice la (D.length + 1) lc, rj_set1 hr3 _, ?_, ?_, ?_, ?_, fun q o => .inl (v1 q o), fun q o => o.imp (v2 q) id, .inl v3, ?_⟩
      · exact hL.kept (fun _ o => o) (fun q o => by rw [hset q (hdis q o).2, hold q (v4 q (v1 q o)) (hdis q o).1])
      · exact hrec.kept (fun _ o => o) (fun q o => hset q (fun e => by
          rcases o with o | o
          · exact hnr (e ▸ o)
          · omega))
      · intro q o
        refine ⟨?_, (hdis q o).2⟩
        rintro (o2 | o2)
        · exact (hdis q o).1 o2
        · have := v4 q (v1 q o); omega
      · rintro (o | o)
        · exact hnr o
        · omega
      · simp only [size_set]
        rintro q (o | o)
        · have := v4 q o; omega
        · exact o.2
    · refine ⟨hg.gr.os.trans hb1.os, hg.gr.tape.trans hb1.tape, hg.gr.output.trans hb1.output, by simp only [size_set]; omega, fun q p1 p2 => ?_, fun q o => o.imp id (fun o => o.1)⟩
      have hj : q ≠ r := fun e => p2 (e ▸ v3)
      rw [hset q hj, hold q p1 (fun o => p2 (v2 q o))]
  clear hb hL hD hdis hnr v1 v2 v3 v4 hrow cz c0 hw hn hWD hN hM
  go_enter Tryz.func23, Tryz.ntmps23
  go_wp2_with fail
  refine (unhide HSz).mono ?_
  rintro e w' ⟨rfl, rfl⟩
  go_wp2_with fail
  obtain ⟨xa, xc, W1, la, lc, W3, k1, k2, k3, k4, k5, k6, k7, HE⟩ := unhide HG w' rfl rfl rfl rfl
  obtain ⟨xa', xc', W1', la', lc', W3', k1', k2', k3', k4', k5', k6', k7', HE'⟩ := unhide HG w'.drew rfl rfl rfl rfl
  change ∀ ty, (app22 ty #[.slice (some ⟨w'.heap.size, 0, none⟩) 0 0, .slice a M c]).run Tryz.prog (w'.alloc (.cells #[] 5)).drew = .ok (.slice xa' M xc') W1' at k1'
  clear HG HSz HSz2
  refine wp_region_noPanic ?_
  go_region_law (go_simp)
  all_goals
    refine NoPanic.normal ?_
    clear k1 k2 k3 k4 k5 k6 k7 k1' k2' k3' k4' k5' k6' k7' HE
    go_wp2_with fail
    go_ret
    exact ⟨rfl, unhide HE'⟩
theorem wts_take_succ (G : List (List (List UInt8))) (k : Nat) (h : k < G.length) : wts (G.take (k + 1)) = wts (G.take k) + wt G[k] := by
  rw [List.take_succ_eq_append_getElem h, wts_append]
  simp [wts]
theorem wts_take_le (G : List (List (List UInt8))) (k : Nat) : wts (G.take k) ≤ wts G := by
  conv => rhs; rw [← List.take_append_drop k G, wts_append]
  omega
theorem wts_mem {G : List (List (List UInt8))} {g : List (List UInt8)} (h : g ∈ G) : wt g ≤ wts G := by
  induction G with
  | nil => cases h
  | cons a l ih =>
    rcases List.mem_cons.1 h with rfl | h
    · simp only [wts]; omega
    · have := ih h; simp only [wts]; omega
set_option maxRecDepth 20000 in
set_option maxHeartbeats 2000000 in
theorem ref_commit_ok (w : World) (r : Nat) (L : List (List (List UInt8))) (D : List (List UInt8)) (V : Nat → Prop) (h : RJ w r L D V) (hne : D ≠ []) (hw : wts L < 524288) (hn : L.length ≤ 10000) (hg : ∀ g ∈ L, g.length ≤ 100000) :
    Calls Tryz.prog 25 #[.pointer (some ⟨r, 0, none⟩)] w fun e w' => e = .returned (.int .i64 0) ∧ ∃ V', RJ w' r (L ++ [D]) [] V' ∧ FFr V V' w w' := by
  obtain ⟨VL, VD, Lv, Dv, hb, hL, hD, hdis, hnr, v1, v2, v3, v4⟩ := h
  obtain ⟨c0, c1, cz⟩ := RJ.cells hb
  obtain ⟨da, dc, eD⟩ := hD.shape
  obtain ⟨la, lc, eL⟩ := hL.shape
  subst eD eL
  have HC : Hid (∀ i (hi : i < L.length), ∃ g x, la = some ⟨g, 0, none⟩ ∧ w.cell? ⟨g, i, none⟩ = some x ∧ Calls Tryz.prog 58 #[x] w fun e w' => e = .returned (.int .i64 (wt L[i] : Int)) ∧ w' = w) := fun i hi => by
    obtain ⟨g, c', x, e, hx, hR⟩ := hL.cell i hi
    injection e with e1 _ _
    exact ⟨g, x, e1, hx, size_ok VL x L[i] w hR (hg _ (List.getElem_mem hi)) (by have := wts_mem (List.getElem_mem hi); omega)⟩
  have HG : Hid (∀ W : World, W.heap = w.heap → W.os = w.os → W.tape = w.tape → W.output = w.output → ∃ ga gc W3, (∀ ty, (appGL ty #[.slice la L.length lc, .slice (some ⟨w.heap.size, 0, none⟩) 1 1]).run Tryz.prog (W.alloc (.cells #[.slice da D.length dc] 34)) = .ok (.slice ga (L.length + 1) gc) W3) ∧ W3.cell? ⟨r, 0, none⟩ = some (.slice la L.length lc) ∧ (∀ i, W3.frozen? ⟨r, i, none⟩ = false) ∧ (W3.setCell ⟨r, 0, none⟩ (.slice ga (L.length + 1) gc)).cell? ⟨r, 1, none⟩ = some (.slice da D.length dc) ∧ Hid (∃ V', RJ ((W3.setCell ⟨r, 0, none⟩ (.slice ga (L.length + 1) gc)).setCell ⟨r, 1, none⟩ (.slice none 0 0)) r (L ++ [D]) [] V' ∧ FFr V V' w ((W3.setCell ⟨r, 0, none⟩ (.slice ga (L.length + 1) gc)).setCell ⟨r, 1, none⟩ (.slice none 0 0)))) := by
    intro W hh ho ht hp
    obtain ⟨vals, h1, h2, h3⟩ := id hL
    have hWk : ∀ q : Nat, W.heap[q]? = w.heap[q]? := fun q => by rw [hh]
    have h1' : W.ownsRow 0 34 1 (.slice la L.length lc) L.length vals := ownsRow_kept h1 (fun q _ => hWk q)
    obtain ⟨lv', W3, hr, hg⟩ := grp_grow h1' (by omega) (.slice da D.length dc) rfl
    rw [show W.heap.size = w.heap.size by rw [hh]] at hr
    obtain ⟨ga, gc, elv⟩ := hg.shp
    subst elv
    have hWs : W.heap.size = w.heap.size := by rw [hh]
    have hrl : r < w.heap.size := v4 r v3
    have hz3 := hg.gr.size
    have hnrL : ¬ VL r := fun o => (hdis r o).2 rfl
    have hold : ∀ b, b < w.heap.size → ¬ VL b → W3.heap[b]? = w.heap[b]? := fun b h4 h5 => by
      rw [hg.gr.block b (by omega) (fun e => h5 (h2 b e.symm)), hWk b]
    have hr3 : W3.heap[r]? = some (rjBlk (.slice la L.length lc) (.slice da D.length dc)) := by rw [hold r hrl hnrL]; exact hb
    obtain ⟨d0, d1, dz⟩ := RJ.cells hr3
    have hgl := GL.grown (w := W) (w3 := W3) (O := VL) (OD := VD) h1' h2 (fun j x ds e1 e2 => (h3 j x ds e1 e2).kept (fun _ o => o) (fun q _ => hWk q)) (fun q o => by rw [hWs]; exact v4 q (v1 q o)) (fun q o => by rw [hWs]; exact v4 q (v2 q o)) (hD.kept (fun _ o => o) (fun q _ => hWk q)) hg
    have hset : ∀ b, b ≠ r → ((W3.setCell ⟨r, 0, none⟩ (.slice ga (L.length + 1) gc)).setCell ⟨r, 1, none⟩ (.slice none 0 0)).heap[b]? = W3.heap[b]? := fun b hb => by rw [set_other _ _ _ _ _ hb, set_other _ _ _ _ _ hb]
    have hnew : ∀ q, ((VL q ∨ VD q) ∨ (W.heap.size ≤ q ∧ q < W3.heap.size)) → q ≠ r := fun q o e => by
      rcases o with (o | o) | o
      · exact hnrL (e ▸ o)
      · exact hnr (e ▸ o)
      · omega
    refine ⟨ga, gc, W3, hr, d0, dz, ?_, fun q => V q ∨ (w.heap.size ≤ q ∧ q < W3.heap.size), ?_, ?_⟩
    · exact (RJ.cells (rj_set0 hr3 _)).2.1
    · refine ⟨fun q => (VL q ∨ VD q) ∨ (W.heap.size ≤ q ∧ q < W3.heap.size), fun _ => False, .slice ga (L.length + 1) gc, .slice none 0 0, rj_set1 (rj_set0 hr3 _) _, ?_, Recs.nil _ _, fun q o => ⟨id, hnew q o⟩, id, ?_, fun _ o => o.elim, .inl v3, ?_⟩
      · exact hgl.kept (fun _ o => o) (fun q o => hset q (hnew q o))
      · rintro q ((o | o) | o)
        · exact .inl (v1 q o)
        · exact .inl (v2 q o)
        · exact .inr ⟨by omega, o.2⟩
      · simp only [size_set]
        rintro q (o | o)
        · have := v4 q o; omega
        · exact o.2
    · refine ⟨hg.gr.os.trans ho, hg.gr.tape.trans ht, hg.gr.output.trans hp, by simp only [size_set]; omega, fun q p1 p2 => ?_, fun q o => o.imp id (fun o => o.1)⟩
      have hj : q ≠ r := fun e => p2 (e ▸ v3)
      rw [hset q hj, hold q p1 (fun o => p2 (v1 q o))]
  have hD0 : ¬ ((D.length : Int) = 0) := by have := List.length_pos_iff.2 hne; omega
  have HW := hide hw
  clear hb hL hD hdis hnr v1 v2 v3 v4 hw hg hne
  obtain ⟨N, hN⟩ : ∃ N, N = L.length := ⟨_, rfl⟩
  obtain ⟨M, hM⟩ : ∃ M, M = D.length := ⟨_, rfl⟩
  have HN := hide hN
  rw [← hN] at c0 hn HG
  rw [← hM] at c1 hD0 HG
  clear hN hM
  have z0 := cz 0
  have z1 := cz 1
  have e0 : w.drew.cell? ⟨r, 0, none⟩ = some (.slice la N lc) := c0
  have e1 : w.drew.cell? ⟨r, 1, none⟩ = some (.slice da M dc) := c1
  have hn2 : (N : Int) ≤ 10000 := by omega
  have hMb : ((M : Int) == 0) = false := by rw [beq_eq_false_iff_ne]; exact hD0
  go_enter Tryz.func25, Tryz.ntmps25
  go_wp2_with fail
  go_loop [4, 3] (fun i s => ∃ k : Nat, k ≤ N ∧ i = .int .i64 k ∧ s = .int .i64 ((wts (L.take k) : Nat) : Int)) (fun i _ => N - (intOf i).toNat)
  case atStart => exact ⟨0, Nat.zero_le _, rfl, rfl⟩
  case round =>
    obtain ⟨k, hk, rfl, rfl⟩ := hrel
    by_cases hlt : k < N
    · have hk' : k < L.length := by rw [← unhide HN]; exact hlt
      obtain ⟨g, x, rfl, hcell, hcal⟩ := unhide HC k hk'
      have hle := wts_take_le L (k + 1)
      have hs := wts_take_succ L k hk'
      have hW := unhide HW
      have HCal := hide hcal
      clear hcal
      obtain ⟨A, hA⟩ : ∃ A, A = wts (L.take k) := ⟨_, rfl⟩
      obtain ⟨B, hB⟩ : ∃ B, B = wt L[k] := ⟨_, rfl⟩
      rw [← hA] at hs
      rw [← hB] at HCal hs
      rw [← hA]
      have HS := hide hs
      have hAB : (A : Int) + B ≤ 524288 := by omega
      clear hs hA hB hle hW
      go_wp2_with fail
      refine (unhide HCal).mono ?_
      rintro e w' ⟨rfl, hw'⟩
      rw [hw']
      clear hw' w'
      go_wp2_with fail
      go_round
      case rel => exact ⟨k + 1, by omega, by go_num, by rw [unhide HS]; go_num⟩
      case measure => simp [intOf]; omega
    · obtain rfl : k = N := by omega
      have hW : ((wts (L.take k) : Nat) : Int) < 524288 := by have := wts_take_le L k; have := unhide HW; omega
      obtain ⟨A, hA⟩ : ∃ A : Int, A = ((wts (L.take k) : Nat) : Int) := ⟨_, rfl⟩
      rw [← hA] at hW ⊢
      clear hA
      go_wp2_with fail
      obtain ⟨ga, gc, W3, k1, k2, k3, k4, HE⟩ := unhide HG w.drew rfl rfl rfl rfl
      change ∀ ty, (appGL ty #[.slice la k lc, .slice (some ⟨w.heap.size, 0, none⟩) 1 1]).run Tryz.prog (w.alloc (.cells #[.slice da M dc] 34)).drew = .ok (.slice ga (k + 1) gc) W3 at k1
      have k30 := k3 0
      have c0a : (w.alloc (.cells #[.slice da M dc] 34)).cell? ⟨r, 0, none⟩ = some (.slice la k lc) := by
        have hb : Below w.heap.size w (w.alloc (.cells #[.slice da M dc] 34)) := (Below.refl _ _).alloc (Nat.le_refl _) _
        rw [hb.cell (p := ⟨r, 0, none⟩) (cellLt c0)]; exact c0
      have k31 : (W3.setCell ⟨r, 0, none⟩ (.slice ga (k + 1) gc)).frozen? ⟨r, 1, none⟩ = false := by rw [World.frozen?_setCell]; exact k3 1
      clear HG HC HN HW k3
      refine wp_region_noPanic ?_
      go_region_law (go_simp)
      all_goals
        refine NoPanic.normal ?_
        clear k1 k2 k30
        go_wp2_with fail
        go_ret
        exact ⟨rfl, unhide HE⟩
end Go.Proofs.YtebcmicmklpflaaGreatDoor
