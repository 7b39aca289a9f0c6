/- The document's journal: size, Add, Commit. -/
import Derived.Test.YtebcmicmklpflaaGreatDoorUa
namespace Go.Proofs.YtebcmicmklpflaaGreatDoor
open Go.RowKit Go.Maps
set_option linter.unusedSimpArgs false
set_option maxRecDepth 20000 in
theorem size_ok (O : Nat → Prop) (rv : Value) (ds : List (List UInt8)) (w : World) (h : Recs w O rv ds) (hl : ds.length ≤ 100000) (hw : wt ds ≤ 100000000) :
    Calls Tryz.prog 58 #[rv] w fun e w' => e = .returned (.int .i64 (wt ds : Int)) ∧ w' = w := by
  obtain ⟨a, c, rfl⟩ := h.shape
  have HC : Hid (∀ i (hi : i < ds.length), ∃ g x y, a = some ⟨g, 0, none⟩ ∧ w.cell? ⟨g, i, none⟩ = some (.slice x ds[i].length y) ∧ ds[i].length ≤ 100000000) := fun i hi => by
    obtain ⟨g, x, y, h1, _, h2, _⟩ := h.cell i hi
    exact ⟨g, x, y, h1, h2, Nat.le_trans (wt_mem (List.getElem_mem hi)) hw⟩
  have HW := hide hw
  clear h hw
  obtain ⟨N, hN⟩ : ∃ N, N = ds.length := ⟨_, rfl⟩
  have HN := hide hN
  rw [← hN] at hl ⊢
  clear hN
  have hl2 : (N : Int) ≤ 100000 := by omega
  go_enter Tryz.func58, Tryz.ntmps58
  go_wp2_with fail
  go_loop [4, 3] (fun i s => ∃ k : Nat, k ≤ N ∧ i = .int .i64 k ∧ s = .int .i64 ((wt (ds.take k) : Nat) : Int)) (fun i _ => N - (intOf i).toNat)
  case atStart => exact ⟨0, Nat.zero_le _, rfl, rfl⟩
  case round =>
    obtain ⟨k, hk, rfl, rfl⟩ := hrel
    by_cases hlt : k < N
    · have hk' : k < ds.length := by rw [← unhide HN]; exact hlt
      obtain ⟨g, x, y, rfl, hcell, hb⟩ := unhide HC k hk'
      have hle := wt_take_le ds k
      have hs := wt_take_succ ds k hk'
      have hW := unhide HW
      obtain ⟨A, hA⟩ : ∃ A, A = wt (ds.take k) := ⟨_, rfl⟩
      obtain ⟨B, hB⟩ : ∃ B, B = ds[k].length := ⟨_, rfl⟩
      rw [← hA] at hle hs
      rw [← hB] at hcell hb hs
      rw [← hA]
      have HS := hide hs
      have hAB : (A : Int) + B ≤ 200000000 := by omega
      clear hs hA hB hle hW
      go_wp2_with fail
      go_round
      case rel => exact ⟨k + 1, by omega, by go_num, by rw [unhide HS]; go_num⟩
      case measure => simp [intOf]; omega
    · obtain rfl : k = N := by omega
      go_wp2_with fail
      go_ret
      refine ⟨?_, rfl⟩
      rw [unhide HN, List.take_length]
      rfl
/-- Groups in rows of rows. -/
def GL (w : World) (O : Nat → Prop) (v : Value) (G : List (List (List UInt8))) : Prop :=
  ∃ vals : List Value, w.ownsRow 0 34 1 v G.length vals ∧ (∀ q, v.ownBlock = some q → O q) ∧ ∀ (j : Nat) (x : Value) (ds : List (List UInt8)), vals[j]? = some x → G[j]? = some ds → Recs w O x ds
theorem GL.nil (w : World) (O : Nat → Prop) : GL w O (.slice none 0 0) [] := ⟨[], ⟨rfl, .inl ⟨rfl, rfl⟩⟩, fun _ e => (by simp [Value.ownBlock] at e), fun j x d _ e => by simp at e⟩
theorem GL.kept {w w' : World} {O O' : Nat → Prop} {v : Value} {G : List (List (List UInt8))} (h : GL w O v G) (hO : ∀ q, O q → O' q) (hw : ∀ q, O q → w'.heap[q]? = w.heap[q]?) : GL w' O' v G := by
  obtain ⟨vals, h1, h2, h3⟩ := h
  exact ⟨vals, ownsRow_kept h1 (fun q e => hw q (h2 q e)), fun q e => hO q (h2 q e), fun j x ds e1 e2 => (h3 j x ds e1 e2).kept hO hw⟩
theorem GL.shape {w : World} {O : Nat → Prop} {v : Value} {G : List (List (List UInt8))} (h : GL w O v G) : ∃ a c, v = .slice a G.length c := row_shape h.choose_spec.1
theorem GL.cell {w : World} {O : Nat → Prop} {v : Value} {G : List (List (List UInt8))} (h : GL w O v G) (i : Nat) (hi : i < G.length) : ∃ g c x, v = .slice (some ⟨g, 0, none⟩) G.length c ∧ w.cell? ⟨g, i, none⟩ = some x ∧ Recs w O x G[i] := by
  obtain ⟨vals, h1, h2, h3⟩ := h
  rcases h1.2 with ⟨_, e⟩ | ⟨g, cap, cur, rfl, _, hg, hl, hm, hs, ht⟩
  · omega
  · have hvl : vals.length = G.length := by rw [h1.1, Nat.mul_one]
    have hc : cur.toList[i]? = some vals[i] := by
      have : (cur.toList.take (G.length * 1))[i]? = some vals[i] := by rw [ht, List.getElem?_eq_getElem (by omega)]
      rwa [List.getElem?_take_of_lt (by omega)] at this
    refine ⟨g, cap, vals[i], rfl, ?_, h3 i _ _ (List.getElem?_eq_getElem (by omega)) (List.getElem?_eq_getElem hi)⟩
    simp only [World.cell?, hg]
    rw [← Array.getElem?_toList]; exact hc
theorem GL.rr {w : World} {O : Nat → Prop} {v : Value} {G : List (List (List UInt8))} (h : GL w O v G) : RR w v G := by
  obtain ⟨a, c, rfl⟩ := h.shape
  refine ⟨a, c, rfl, fun i ds hi => ?_⟩
  have hi' := (List.getElem?_eq_some_iff.1 hi).1
  obtain ⟨g, c', x, e, hx, hR⟩ := h.cell i hi'
  injection e with e1 _ _
  have hds : G[i] = ds := by rw [List.getElem?_eq_getElem hi'] at hi; exact Option.some.inj hi
  rw [hds] at hR
  obtain ⟨a', c2, rfl⟩ := hR.shape
  refine ⟨g, a', c2, e1, hx, fun k d hd => ?_⟩
  have hk := (List.getElem?_eq_some_iff.1 hd).1
  obtain ⟨g1, x1, y1, e2, _, hc1, hr1⟩ := hR.cell k hk
  have hdk : ds[k] = d := by rw [List.getElem?_eq_getElem hk] at hd; exact Option.some.inj hd
  rw [hdk] at hc1 hr1
  exact ⟨g1, x1, y1, e2, hc1, hr1.row⟩
def appGL (ty : TypeId) (args : Array Value) : Sem Value := Builtin.append_ #[33, 33] ty args
@[go_sem ↓] theorem append_appGL (ty : TypeId) (args : Array Value) : Builtin.append_ #[33, 33] ty args = appGL ty args := rfl
theorem grp_grow {w : World} {gv : Value} {n : Nat} {xs : List Value} (h : w.ownsRow 0 34 1 gv n xs) (hn : n ≤ 100000) (x : Value) (hx : x.oneCell' = true) :
    ∃ gv' w3, (∀ ty, (appGL ty #[gv, .slice (some ⟨w.heap.size, 0, none⟩) 1 1]).run Tryz.prog (w.alloc (.cells #[x] 34)) = .ok gv' w3) ∧ Grew w 34 gv n xs x gv' w3 := by
  obtain ⟨i, z, hi, hz, hsz, hby, hzs⟩ := info34
  obtain ⟨gv', w3, hr, hown, hgr, hnil, hloc⟩ := run_append_own_at (P := Tryz.prog) (w.alloc (.cells #[x] 34)) 0 33 33 34 i z 1 24 Tryz.underlying33 hi hz hsz hby hzs (by omega) gv n xs (h.alloc _) ⟨w.heap.size, 0, none⟩ 1 1 [x] rfl (cell_one_new w x 34) (fun u hu => by simp at hu; subst hu; exact hx) (by simp only [maxLen]; omega) (by omega) (Nat.zero_le _)
  exact ⟨gv', w3, fun _ => hr, Grew.of hown ((World.grownBy_alloc w _ _).trans hgr) (by rwa [World.size_alloc] at hloc)⟩
/-- A group joins. -/
theorem GL.grown {w w3 : World} {O OD : Nat → Prop} {lv lv' x : Value} {G : List (List (List UInt8))} {vals : List Value} {ds : List (List UInt8)} (h1 : w.ownsRow 0 34 1 lv G.length vals) (h2 : ∀ q, lv.ownBlock = some q → O q) (h3 : ∀ (j : Nat) (x : Value) (ds : List (List UInt8)), vals[j]? = some x → G[j]? = some ds → Recs w O x ds) (hl : ∀ q, O q → q < w.heap.size) (hlD : ∀ q, OD q → q < w.heap.size) (hx : Recs w OD x ds) (hg : Grew w 34 lv G.length vals x lv' w3) : GL w3 (fun q => (O q ∨ OD q) ∨ (w.heap.size ≤ q ∧ q < w3.heap.size)) lv' (G ++ [ds]) := by
  have hz3 := hg.gr.size
  have hT : ∀ P : Nat → Prop, (∀ q, P q → q < w.heap.size) → Tg P w w3 := fun P hP q c t o hc ht => hg.gr.block q (hP q o) (fun e => by
    obtain ⟨cur, hcur⟩ := row_tag h1 q e.symm
    rw [hcur] at hc
    injection hc with hc
    injection hc with _ hc
    subst hc
    rcases ht with h | h | h <;> exact absurd h (by decide))
  refine ⟨vals ++ [x], ?_, fun q e => ?_, fun j y e2 hj hd => ?_⟩
  · rw [List.length_append, List.length_singleton]; exact hg.row
  · rcases hg.loc with e3 | ⟨b', e3, h4⟩
    · rw [e3] at e; exact .inl (.inl (h2 q e))
    · rw [e3] at e; injection e with e
      subst e
      obtain ⟨cur, hc⟩ := row_tag hg.row b' e3
      exact .inr ⟨h4, (Array.getElem?_eq_some_iff.1 hc).1⟩
  · have hvl : vals.length = G.length := by rw [h1.1, Nat.mul_one]
    by_cases hlt : j < vals.length
    · rw [List.getElem?_append_left hlt] at hj
      rw [List.getElem?_append_left (by omega)] at hd
      exact (h3 j y e2 hj hd).keptT (fun q o => .inl (.inl o)) (hT O hl)
    · have ej : j = vals.length := by
        have := (List.getElem?_eq_some_iff.1 hj).1
        simp at this; omega
      subst ej
      rw [List.getElem?_append_right (Nat.le_refl _)] at hj
      rw [hvl, List.getElem?_append_right (Nat.le_refl _)] at hd
      simp at hj hd
      subst hj hd
      exact hx.keptT (fun q o => .inl (.inr o)) (hT OD hlD)
/-- The document's journal in memory. -/
def rjBlk (Lv Dv : Value) : Obj := .cells #[Lv, Dv] 36 (0, 0)
def RJ (w : World) (r : Nat) (L : List (List (List UInt8))) (D : List (List UInt8)) (V : Nat → Prop) : Prop :=
  ∃ VL VD Lv Dv, w.heap[r]? = some (rjBlk Lv Dv) ∧ GL w VL Lv L ∧ Recs w VD Dv D ∧ (∀ q, VL q → ¬ VD q ∧ q ≠ r) ∧ ¬ VD r ∧ (∀ q, VL q → V q) ∧ (∀ q, VD q → V q) ∧ V r ∧ ∀ q, V q → q < w.heap.size
theorem RJ.kept {w w' : World} {r : Nat} {L : List (List (List UInt8))} {D : List (List UInt8)} {V : Nat → Prop} (h : RJ w r L D V) (hz : w.heap.size ≤ w'.heap.size) (hw : ∀ q, V q → w'.heap[q]? = w.heap[q]?) : RJ w' r L D V := by
  obtain ⟨VL, VD, Lv, Dv, h1, h2, h3, h4, h5, h6, h7, h8, h9⟩ := h
  exact ⟨VL, VD, Lv, Dv, (hw r h8).trans h1, h2.kept (fun _ o => o) (fun q o => hw q (h6 q o)), h3.kept (fun _ o => o) (fun q o => hw q (h7 q o)), h4, h5, h6, h7, h8, fun q o => Nat.lt_of_lt_of_le (h9 q o) hz⟩
theorem RJ.cells {w : World} {r : Nat} {Lv Dv : Value} (h : w.heap[r]? = some (rjBlk Lv Dv)) : w.cell? ⟨r, 0, none⟩ = some Lv ∧ w.cell? ⟨r, 1, none⟩ = some Dv ∧ (∀ i, w.frozen? ⟨r, i, none⟩ = false) := by
  unfold rjBlk at h
  refine ⟨by simp [World.cell?, h], by simp [World.cell?, h], fun i => by simp [World.frozen?, h]⟩
theorem rj_set0 {w : World} {r : Nat} {Lv Dv : Value} (h : w.heap[r]? = some (rjBlk Lv Dv)) (x : Value) : (w.setCell ⟨r, 0, none⟩ x).heap[r]? = some (rjBlk x Dv) := by
  unfold rjBlk at *
  simp [World.setCell, Array.getElem?_modify, h]
theorem rj_set1 {w : World} {r : Nat} {Lv Dv : Value} (h : w.heap[r]? = some (rjBlk Lv Dv)) (x : Value) : (w.setCell ⟨r, 1, none⟩ x).heap[r]? = some (rjBlk Lv x) := by
  unfold rjBlk at *
  simp [World.setCell, Array.getElem?_modify, h]
end Go.Proofs.YtebcmicmklpflaaGreatDoor
