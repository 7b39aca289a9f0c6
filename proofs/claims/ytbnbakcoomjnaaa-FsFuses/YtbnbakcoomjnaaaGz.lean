/- Link, where it is done. -/
import Derived.Test.YtbnbakcoomjnaaaGq
import Derived.Test.YtbnbakcoomjnaaaGx
namespace Go.Proofs.Ytbnbakcoomjnaaa
open Go.RowKit Go.Maps
set_option linter.unusedSimpArgs false
theorem ready_link {w1 w2 : World} {f : Nat} {S : Fs} {O : Nat → Prop} {K : Nat → Option (List UInt8)} {n l : Lie} {pv : Value} {ps : List Value} {k : Nat} (h : FsM w1 f 1 S S.pend O K n l pv ps) (he : ∀ i, ¬ n.e i) (hk : n.k ≤ k) (hk2 : k ≤ 16000) {s old : ByteArray} {i : Nat} {pn po : Nat} (hs : s.size ≤ 300) (hso : old.size ≤ 300) (hN : S.now.N old = some i)
    (hI : Inv (fun _ => False) w1 w2 ((pn, .cells #[.string s] 9 (0, 0)) :: (po, .cells #[.string old] 9 (0, 0)) :: [])) :
    Ready f S O (S.now.lay s i) (.lay s old) k w1 w2 61 (.pointer (some ⟨pn, 0, none⟩)) (.pointer (some ⟨po, 0, none⟩)) := by
  have hM := h.grew hI.size (fun q hq => hI.blk q hq id)
  have m1 : (pn, Obj.cells #[.string s] 9 (0, 0)) ∈ ((pn, Obj.cells #[.string s] 9 (0, 0)) :: (po, Obj.cells #[.string old] 9 (0, 0)) :: []) := List.mem_cons_self ..
  have m2 : (po, Obj.cells #[.string old] 9 (0, 0)) ∈ ((pn, Obj.cells #[.string s] 9 (0, 0)) :: (po, Obj.cells #[.string old] 9 (0, 0)) :: []) := List.mem_cons_of_mem _ (List.mem_cons_self ..)
  have b1 := hI.held _ m1
  have b2 := hI.held _ m2
  have l1 := hI.lt m1
  have l2 := hI.lt m2
  have g1 := hI.new _ m1
  have g2 := hI.new _ m2
  simp only at b1 b2 l1 l2 g1 g2
  have hT : ThIs w2 K (grow O w1 w2) (.func (.func 61) #[] #[.pointer (some ⟨pn, 0, none⟩), .pointer (some ⟨po, 0, none⟩)]) (.lay s old) := ⟨pn, po, rfl, .inr ⟨g1, l1⟩, .inr ⟨g2, l2⟩, b1, b2, hs, hso⟩
  refine ⟨enters61, grow O w1 w2, K, n, l, pv, ps, hM, hk, FFr.of_inv hI, hT, ?_⟩
  obtain ⟨_, _, h3, h4, _, _, _, _, _, hz⟩ := hM.cells
  have hnk := hM.now.nk
  refine (do_lay_any f 3 pn po K n.m n.n n.k S.now n.F n.b n.h s old i w2 h3 h4 hz hM.now.tab hM.now.ok (by omega) (by simp only [maxLen]; omega) (by simp only [maxLen]; omega) (by simp only [maxLen]; omega) (hM.bne hM.now) hN (hI.bx m1).1 (hI.bx m2).1).mono ?_
  rintro e w3 ⟨rfl, mb, hTb, hDn⟩
  exact ⟨rfl, _, by show n.k + 3 ≤ k + 3; omega, fun _ => id, hM.linked hN hTb hDn he, FFr.of_tfr hM hDn.fr, hT.tagged hM hDn.fr (fun _ o => .inl o)⟩
set_option maxRecDepth 20000 in
set_option maxHeartbeats 2000000 in
theorem link_ok (f : Nat) (S : Fs) (O : Nat → Prop) (k : Nat) (old s : ByteArray) (i : Nat) (w : World) (h : FsIs w f 0 S O k) (hk : k ≤ 16000) (hf : S.fuse ≠ some 0) (hp : S.pend.length < 16383) (hs : 1 ≤ s.size ∧ s.size ≤ 300) (hso : 1 ≤ old.size ∧ old.size ≤ 300) (hN : S.now.N old = some i) (hNs : S.now.N s = none) :
    Calls Try.prog 21 #[.pointer (some ⟨f, 0, none⟩), .string old, .string s] w fun e w' => e = .returned (.int .i64 0) ∧ ∃ O', FsIs w' f 0 (S.done (S.now.lay s i) (.lay s old)) O' (k + 3) ∧ FFr O O' w w' := by
  obtain ⟨K, n, l, pv, ps, hM, hnk, hex⟩ := h
  obtain ⟨w0, hw0⟩ : ∃ w0, w0 = (((w.alloc (.cells #[.pointer (some ⟨f, 0, none⟩)] 26)).alloc (.cells #[.string old] 9)).alloc (.cells #[.string s] 9)).alloc (.cells #[.string old, .string s] 9) := ⟨_, rfl⟩
  have hI0 : Inv (fun _ => False) w w0 ((w.heap.size + 3, .cells #[.string old, .string s] 9 (0, 0)) :: (w.heap.size + 2, .cells #[.string s] 9 (0, 0)) :: (w.heap.size + 1, .cells #[.string old] 9 (0, 0)) :: (w.heap.size, .cells #[.pointer (some ⟨f, 0, none⟩)] 26 (0, 0)) :: []) := by
    have h1 := (((((Inv.refl (fun _ => False) w).alloc (.cells #[.pointer (some ⟨f, 0, none⟩)] 26)).alloc (.cells #[.string old] 9)).alloc (.cells #[.string s] 9)).alloc (.cells #[.string old, .string s] 9))
    simp only [World.size_alloc] at h1
    rw [hw0]
    exact h1
  have hM0 : FsM w0 f 0 S S.pend O K n l pv ps := hM.kept hI0.size (fun q o => hI0.blk q (hM.lt q o) id)
  have hfl : f < w.heap.size := hM.lt f hM.of
  obtain ⟨w1, hw1⟩ : ∃ w1, w1 = w0.setCell ⟨f, 0, none⟩ (.int .i32 1) := ⟨_, rfl⟩
  have hM1 : FsM w1 f 1 S S.pend O K n l pv ps := by rw [hw1]; exact hM0.lock 1
  obtain ⟨_, c2, c3, c4, _⟩ := hM1.cells
  have hother : ∀ b v, b ≠ f → w0.cell? ⟨b, 0, none⟩ = some v → w1.cell? ⟨b, 0, none⟩ = some v := fun b v hb hc => by rw [hw1, World.cell?_setCell_other _ ⟨f, 0, none⟩ ⟨b, 0, none⟩ _ (by simp [Ne.symm hb])]; exact hc
  have hnn := hM.now.nk
  have HP := plan_link_ok f w.heap.size (w.heap.size + 1) (w.heap.size + 2) K n.m n.n S.now n.F n.b n.h old s i w1 c3 hM1.now.tab hs.2 hso.2 (by omega) hN hNs
    (hother _ _ (by omega) (hI0.bx (List.mem_cons_of_mem _ (List.mem_cons_of_mem _ (List.mem_cons_of_mem _ (List.mem_cons_self ..))))).1) (hother _ _ (by omega) (hI0.bx (List.mem_cons_of_mem _ (List.mem_cons_of_mem _ (List.mem_cons_self ..)))).1) (hother _ _ (by omega) (hI0.bx (List.mem_cons_of_mem _ (List.mem_cons_self ..))).1)
  rw [hw1] at HP hM1
  have hrow3 := hI0.held _ (List.mem_cons_self ..)
  simp only at hrow3
  have HC := change_ok f S O K n l pv ps w0 hM0 hf hp 60 (.pointer (some ⟨w.heap.size, 0, none⟩)) (.pointer (some ⟨w.heap.size + 1, 0, none⟩)) (.pointer (some ⟨w.heap.size + 2, 0, none⟩)) (w.heap.size + 3) [old, s] 2 (fun x hx => by
      simp at hx
      rcases hx with rfl | rfl
      · exact hso
      · exact hs) (by simp) (fun j x hj => by
      match j with
      | 0 => simp at hj; subst hj; simp [World.cell?, hrow3]
      | 1 => simp at hj; subst hj; simp [World.cell?, hrow3]
      | j + 2 => simp at hj) (by omega) (S.now.lay s i) (.lay s old) k enters60 (HP.mono fun e w2 ⟨pn, po, e1, hI⟩ => ⟨61, _, _, e1, ready_link hM1 hex hnk hk hs.2 hso.2 hN hI⟩)
  have HC := hide (HC.mono fun e w' ⟨e1, O', h1, h2⟩ => (⟨e1, O', h1, (FFr.below ⟨hI0.os, hI0.tape, hI0.output, hI0.size, fun q hq => hI0.blk q hq id⟩).trans h2⟩ : e = Ending.returned (.int .i64 0) ∧ ∃ O', FsIs w' f 0 (S.done (S.now.lay s i) (.lay s old)) O' (k + 3) ∧ FFr O O' w w'))
  rw [hw0] at HC
  clear hI0 hM0 hM1 hM hother HP hw0 hw1 c2 c3 c4 hnn hrow3
  simp only [List.length_cons, List.length_nil] at HC
  go_enter Try.func21, Try.ntmps21
  go_wp2_with fail
  refine (unhide HC).mono ?_
  rintro e w9 ⟨rfl, hE⟩
  have HE := hide hE
  clear hE
  go_wp2_with fail
  go_ret
  exact ⟨rfl, unhide HE⟩
end Go.Proofs.Ytbnbakcoomjnaaa
