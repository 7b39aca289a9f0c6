/- The rows of a group that may be there. -/
import Derived.Test.YtebcmicmklpflaaGreatDoorUc
namespace Go.Proofs.YtebcmicmklpflaaGreatDoor
open Go.RowKit Go.Maps
set_option linter.unusedSimpArgs false
theorem owns_zero {w : World} {base : Nat} {e : TypeId} {k : Nat} {v : Value} {n : Nat} {xs : List Value} (h : w.ownsRow base e k v n xs) : w.ownsRow 0 e k v n xs :=
  ⟨h.1, h.2.imp id (fun ⟨g, cap, cur, e, _, r⟩ => ⟨g, cap, cur, e, Nat.zero_le _, r⟩)⟩
theorem owns_tag {w : World} {base : Nat} {e : TypeId} {v : Value} {n : Nat} {xs : List Value} (h : w.ownsRow base e 1 v n xs) : ∀ q, v.ownBlock = some q → base ≤ q ∧ q < w.heap.size := fun q eq => by
  rcases h.2 with ⟨rfl, _⟩ | ⟨g, cap, cur, rfl, hb, hg, _⟩
  · simp [Value.ownBlock] at eq
  · simp [Value.ownBlock] at eq; subst eq; exact ⟨hb, (Array.getElem?_eq_some_iff.1 hg).1⟩
theorem nothing34 (w : World) (a a' : Option Addr) (n cap c : Nat) (h : n ≤ cap) : ∀ ty, (appGL ty #[.slice a n cap, .slice a' 0 c]).run Tryz.prog w = .ok (.slice a n cap) w := by
  intro ty
  obtain ⟨i, z, hi, hz, hsz, hby, hzs⟩ := info34
  unfold appGL
  refine run_append_nothing w 33 33 ty 34 i Tryz.underlying33 hi a n cap h _ ?_
  cases a' with
  | none => exact Src.ofNil w Tryz.underlying33 c
  | some x => exact Src.ofSlice w Tryz.underlying33 x 0 c [] (by simp) (fun j u hj => by simp at hj) (fun u hu => by simp at hu)
/-- All rows of a list, and one more. -/
theorem may_rows {W : World} {VL VD : Nat → Prop} {Lv Dv : Value} {L : List (List (List UInt8))} {D : List (List UInt8)} (hL : GL W VL Lv L) (hD : Recs W VD Dv D) (hVL : ∀ q, VL q → q < W.heap.size) (hVD : ∀ q, VD q → q < W.heap.size) (hl : L.length ≤ 1000) :
    ∀ W0 : World, W0.heap = W.heap → W0.os = W.os → W0.tape = W.tape → W0.output = W.output → ∃ va ca W1 vb cb W3, (∀ ty, (appGL ty #[.slice (some ⟨W.heap.size, 0, none⟩) 0 0, Lv]).run Tryz.prog (W0.alloc (.cells #[] 34)) = .ok (.slice va L.length ca) W1) ∧ Below W.heap.size W W1 ∧ (∀ ty, (appGL ty #[.slice va L.length ca, .slice (some ⟨W1.heap.size, 0, none⟩) 1 1]).run Tryz.prog (W1.alloc (.cells #[Dv] 34)) = .ok (.slice vb (L.length + 1) cb) W3) ∧ Below W.heap.size W W3 ∧ GL W3 (fun q => (VL q ∨ VD q) ∨ (W.heap.size ≤ q ∧ q < W3.heap.size)) (.slice vb (L.length + 1) cb) (L ++ [D]) := by
  intro W0 hh ho ht hp
  have hWs : W0.heap.size = W.heap.size := by rw [hh]
  have hb0 : Below W.heap.size W (W0.alloc (.cells #[] 34)) := (show Below W.heap.size W W0 from ⟨ho, ht, hp, by rw [hh]; exact Nat.le_refl _, fun b _ => by rw [hh]⟩).alloc (by rw [hh]; exact Nat.le_refl _) _
  have hz0 : (W0.alloc (.cells #[] 34)).heap.size = W.heap.size + 1 := by simp [hWs]
  have ho0 : (W0.alloc (.cells #[] 34)).ownsRow W.heap.size 34 1 (.slice (some ⟨W.heap.size, 0, none⟩) 0 0) 0 [] := by have := owns_new W0 34 1; rw [hWs] at this; exact this
  obtain ⟨vals, h1, h2, h3⟩ := hL
  obtain ⟨i, z, hi, hz, hsz, hby, hzs⟩ := info34
  have hvl : vals.length = L.length := by rw [h1.1, Nat.mul_one]
  obtain ⟨va, ca, W1, hr1, hown1, hb1⟩ : ∃ va ca W1, (∀ ty, (appGL ty #[.slice (some ⟨W.heap.size, 0, none⟩) 0 0, Lv]).run Tryz.prog (W0.alloc (.cells #[] 34)) = .ok (.slice va L.length ca) W1) ∧ W1.ownsRow W.heap.size 34 1 (.slice va L.length ca) L.length vals ∧ Below W.heap.size W W1 := by
    rcases h1.2 with ⟨rfl, e0⟩ | ⟨g, cap, cur, rfl, _, hg, hle, hm, hs, htk⟩
    · have hv0 : vals = [] := List.eq_nil_of_length_eq_zero (by omega)
      refine ⟨_, 0, _, by rw [e0]; exact nothing34 _ _ none 0 0 0 (Nat.le_refl _), ?_, hb0⟩
      rw [e0, hv0]; exact ho0
    · by_cases hL0 : L.length = 0
      · have hv0 : vals = [] := List.eq_nil_of_length_eq_zero (by omega)
        refine ⟨_, 0, _, by rw [hL0]; exact nothing34 _ _ _ 0 0 _ (Nat.le_refl _), ?_, hb0⟩
        rw [hL0, hv0]; exact ho0
      · have hgl : g < W.heap.size := hVL g (h2 g rfl)
        have hone : ∀ u ∈ vals, u.oneCell' = true := fun u hu => by
          obtain ⟨k, hk, e⟩ := List.getElem_of_mem hu
          have hR := h3 k u L[k] (by rw [List.getElem?_eq_getElem hk, e]) (List.getElem?_eq_getElem (by omega))
          obtain ⟨x, y, e2⟩ := hR.shape
          rw [e2]; rfl
        obtain ⟨v', W', hr, hown, hgr, _, _⟩ := run_append_own_at (P := Tryz.prog) (W0.alloc (.cells #[] 34)) W.heap.size 33 33 34 i z 1 24 Tryz.underlying33 hi hz hsz hby hzs (by omega) (.slice (some ⟨W.heap.size, 0, none⟩) 0 0) 0 [] ho0 ⟨g, 0, none⟩ L.length cap vals (by omega)
          (fun k u hk => by
            rw [show (⟨g, 0, none⟩ : Addr).add k = ⟨g, 0 + k, none⟩ from by unfold Addr.add; split <;> simp_all, hb0.cell (p := ⟨g, 0 + k, none⟩) hgl]
            have hk' := (List.getElem?_eq_some_iff.1 hk).1
            simp only [World.cell?, hg, Nat.zero_add]
            rw [← Array.getElem?_toList]
            have : (cur.toList.take (L.length * 1))[k]? = some u := by rw [htk]; exact hk
            rwa [List.getElem?_take_of_lt (by omega)] at this) hone (by simp only [maxLen]; omega) (by omega) (by omega)
        rw [Nat.zero_add, List.nil_append] at hown
        obtain ⟨va, ca, e⟩ := row_shape (owns_zero hown)
        subst e
        refine ⟨va, ca, W', fun _ => hr, hown, hb0.trans ?_⟩
        exact ⟨hgr.os, hgr.tape, hgr.output, hgr.size, fun b hb => hgr.block b (by omega) (fun e => by simp [Value.ownBlock] at e; omega)⟩
  have hz1 := hb1.size
  obtain ⟨xa, xc, eD⟩ := hD.shape
  obtain ⟨lv', W3, hr3, hg3⟩ := grp_grow (owns_zero hown1) (by omega) Dv (by rw [eD]; rfl)
  obtain ⟨vb, cb, e⟩ := hg3.shp
  subst e
  have hb3 : Below W.heap.size W W3 := hb1.trans ⟨hg3.gr.os, hg3.gr.tape, hg3.gr.output, hg3.gr.size, fun b hb => hg3.gr.block b (by omega) (fun e => by have := (owns_tag hown1 b e.symm).1; omega)⟩
  refine ⟨va, ca, W1, vb, cb, W3, hr1, hb1, hr3, hb3, vals ++ [Dv], ?_, fun q e => ?_, fun k y e2 hk hd => ?_⟩
  · rw [List.length_append, List.length_singleton]; exact hg3.row
  · have hlt : q < W3.heap.size := by
      obtain ⟨cur, hc⟩ := row_tag hg3.row q e
      exact (Array.getElem?_eq_some_iff.1 hc).1
    rcases hg3.loc with e3 | ⟨b', e3, h4⟩
    · rw [e3] at e; exact .inr ⟨(owns_tag hown1 q e).1, hlt⟩
    · rw [e3] at e; injection e with e
      subst e
      exact .inr ⟨by omega, hlt⟩
  · by_cases hlt : k < vals.length
    · rw [List.getElem?_append_left hlt] at hk
      rw [List.getElem?_append_left (by omega)] at hd
      exact (h3 k y e2 hk hd).kept (fun q o => .inl (.inl o)) (fun q o => hb3.block q (hVL q o))
    · have ek : k = vals.length := by
        have := (List.getElem?_eq_some_iff.1 hk).1
        simp at this; omega
      subst ek
      rw [List.getElem?_append_right (Nat.le_refl _)] at hk
      rw [hvl, List.getElem?_append_right (Nat.le_refl _)] at hd
      simp at hk hd
      subst hk hd
      exact hD.kept (fun q o => .inl (.inr o)) (fun q o => hb3.block q (hVD q o))
end Go.Proofs.YtebcmicmklpflaaGreatDoor
