/- Write, where it is done. -/
import Derived.Test.YtbnbakcoomjnaaaGp
import Derived.Test.YtbnbakcoomjnaaaGc
import Derived.Test.YtbnbakcoomjnaaaFrd
namespace Go.Proofs.Ytbnbakcoomjnaaa
open Go.RowKit Go.Maps
set_option linter.unusedSimpArgs false
theorem FFr.of_tfr {w w' : World} {f : Nat} {lk : Int} {S : Fs} {X : List Th} {O : Nat → Prop} {K : Nat → Option (List UInt8)} {n l : Lie} {pv : Value} {ps : List Value} (h : FsM w f lk S X O K n l pv ps) (hF : TFr f n.m n.F n.b w w') : FFr O (grow O w w') w w' :=
  ⟨hF.os, hF.tape, hF.output, hF.size, fun q h1 h2 => hF.rest q h1 (fun e => h2 (by rw [e]; exact h.of)) (fun e => h2 (h.now.om q e)) (fun i hi e => h2 (by rw [e]; exact h.now.ob i hi)), fun _ o => o.imp id (fun o => o.1)⟩
theorem FFr.of_inv {w w' : World} {O : Nat → Prop} {L : List (Nat × Obj)} (h : Inv (fun _ => False) w w' L) : FFr O (grow O w w') w w' :=
  ⟨h.os, h.tape, h.output, h.size, fun q h1 _ => h.blk q h1 id, fun _ o => o.imp id (fun o => o.1)⟩
theorem FFr.below {w w' : World} {O : Nat → Prop} (h : Below w.heap.size w w') : FFr O O w w' :=
  ⟨h.os, h.tape, h.output, h.size, fun q h1 _ => h.block q h1, fun _ o => .inl o⟩
theorem ThIs.tagged {w w' : World} {f : Nat} {lk : Int} {S : Fs} {X : List Th} {O O' : Nat → Prop} {K : Nat → Option (List UInt8)} {n l : Lie} {pv : Value} {ps : List Value} (h : FsM w f lk S X O K n l pv ps) (hF : TFr f n.m n.F n.b w w') {v : Value} {t : Th} (ht : ThIs w K O v t) (hO : ∀ q, O q → O' q) : ThIs w' K O' v t :=
  ht.mono (Kle.refl _) hO (fun q x ty _ hq ht => h.tagged hF hq (by rcases ht with rfl | rfl <;> decide) (by rcases ht with rfl | rfl <;> decide))
theorem ready_write {w1 w2 : World} {f : Nat} {S : Fs} {O : Nat → Prop} {K : Nat → Option (List UInt8)} {n l : Lie} {pv : Value} {ps : List Value} {k : Nat} (h : FsM w1 f 1 S S.pend O K n l pv ps) (he : ∀ i, ¬ n.e i) (hk : n.k ≤ k) (hk2 : k ≤ 16000) {s : ByteArray} {d : List UInt8} {v : Value} {L : List (Nat × Obj)} {pn pd : Nat} (hs : s.size ≤ 300) (hd : d.length ≤ 1048576)
    (hN : NewData w1.heap.size L v d) (hI : Inv (fun _ => False) w1 w2 ((pd, .cells #[v] 22 (0, 0)) :: (pn, .cells #[.string s] 9 (0, 0)) :: L)) :
    Ready f S O (S.now.write s d n.z) (.write s d n.z) k w1 w2 34 (.pointer (some ⟨pn, 0, none⟩)) (.pointer (some ⟨pd, 0, none⟩)) := by
  obtain ⟨K', hM, hD, hR, hA⟩ := h.ext hI hN (fun z hz => List.mem_cons_of_mem _ (List.mem_cons_of_mem _ hz))
  have m1 : (pn, Obj.cells #[.string s] 9 (0, 0)) ∈ ((pd, Obj.cells #[v] 22 (0, 0)) :: (pn, Obj.cells #[.string s] 9 (0, 0)) :: L) := List.mem_cons_of_mem _ (List.mem_cons_self ..)
  have m2 : (pd, Obj.cells #[v] 22 (0, 0)) ∈ ((pd, Obj.cells #[v] 22 (0, 0)) :: (pn, Obj.cells #[.string s] 9 (0, 0)) :: L) := List.mem_cons_self ..
  have b1 := hI.held _ m1
  have b2 := hI.held _ m2
  have l1 := hI.lt m1
  have l2 := hI.lt m2
  have g1 := hI.new _ m1
  have g2 := hI.new _ m2
  simp only at b1 b2 l1 l2 g1 g2
  have hT : ThIs w2 K' (grow O w1 w2) (.func (.func 34) #[] #[.pointer (some ⟨pn, 0, none⟩), .pointer (some ⟨pd, 0, none⟩)]) (.write s d n.z) := ⟨pn, pd, v, rfl, .inr ⟨g1, l1⟩, .inr ⟨g2, l2⟩, b1, b2, hD, hs, hd⟩
  refine ⟨enters34, grow O w1 w2, K', n, l, pv, ps, hM, hk, FFr.of_inv hI, hT, ?_⟩
  obtain ⟨_, _, h3, h4, _, _, _, _, _, hz⟩ := hM.cells
  have hnk := hM.now.nk
  refine (do_write_any f 3 pn pd K' n.m n.n n.k S.now n.F n.b n.h s d v n.z w2 h3 h4 hz hM.now.tab hM.now.ok (by omega) (by simp only [maxLen]; omega) (by simp only [maxLen]; omega) (hM.bne hM.now) (fun e => Nat.lt_irrefl _ (hM.now.st _ e)) hD hd (hI.bx m1).1 (hI.bx m2).1).mono ?_
  rintro e w3 ⟨rfl, mb, hTb, hDn⟩
  exact ⟨rfl, _, by show n.k + 3 ≤ k + 3; omega, fun _ => id, hM.wrote hd hTb hDn hR hA he, FFr.of_tfr hM hDn.fr, hT.tagged hM hDn.fr (fun _ o => .inl o)⟩
set_option maxRecDepth 20000 in
set_option maxHeartbeats 2000000 in
theorem write_ok (f : Nat) (S : Fs) (O : Nat → Prop) (k : Nat) (s : ByteArray) (a : Option Addr) (c : Nat) (d : List UInt8) (hi : Nat) (w : World) (h : FsIs w f 0 S O k) (hk : k ≤ 16000) (hf : S.fuse ≠ some 0) (hp : S.pend.length < 16383) (hs : 1 ≤ s.size ∧ s.size ≤ 300) (hd : d.length ≤ 1048576) (hfit : S.now.u - (S.now.alone s : Int) + (d.length : Int) ≤ (S.room : Int)) (hrow : Row hi w (.slice a d.length c) d) (hhi : hi ≤ w.heap.size) :
    Calls Try.prog 10 #[.pointer (some ⟨f, 0, none⟩), .string s, .slice a d.length c] w fun e w' => e = .returned (.int .i64 0) ∧ ∃ z O', (∀ s' i, S.now.N s' = some i → i < z) ∧ FsIs w' f 0 (S.done (S.now.write s d z) (.write s d z)) O' (k + 3) ∧ FFr O O' w w' := by
  obtain ⟨K, n, l, pv, ps, hM, hnk, hex⟩ := h
  obtain ⟨w0, hw0⟩ : ∃ w0, w0 = (((w.alloc (.cells #[.pointer (some ⟨f, 0, none⟩)] 26)).alloc (.cells #[.string s] 9)).alloc (.cells #[.slice a d.length c] 22)).alloc (.cells #[.string s] 9) := ⟨_, rfl⟩
  have hI0 : Inv (fun _ => False) w w0 ((w.heap.size + 3, .cells #[.string s] 9 (0, 0)) :: (w.heap.size + 2, .cells #[.slice a d.length c] 22 (0, 0)) :: (w.heap.size + 1, .cells #[.string s] 9 (0, 0)) :: (w.heap.size, .cells #[.pointer (some ⟨f, 0, none⟩)] 26 (0, 0)) :: []) := by
    have h1 := (((((Inv.refl (fun _ => False) w).alloc (.cells #[.pointer (some ⟨f, 0, none⟩)] 26)).alloc (.cells #[.string s] 9)).alloc (.cells #[.slice a d.length c] 22)).alloc (.cells #[.string s] 9))
    simp only [World.size_alloc] at h1
    rw [hw0]
    exact h1
  have hM0 : FsM w0 f 0 S S.pend O K n l pv ps := hM.kept hI0.size (fun q o => hI0.blk q (hM.lt q o) id)
  have hfl : f < w.heap.size := hM.lt f hM.of
  obtain ⟨w1, hw1⟩ : ∃ w1, w1 = w0.setCell ⟨f, 0, none⟩ (.int .i32 1) := ⟨_, rfl⟩
  have hM1 : FsM w1 f 1 S S.pend O K n l pv ps := by rw [hw1]; exact hM0.lock 1
  obtain ⟨_, c2, c3, c4, _⟩ := hM1.cells
  have h00 := hM0.cells.1
  have hother : ∀ b v, b ≠ f → w0.cell? ⟨b, 0, none⟩ = some v → w1.cell? ⟨b, 0, none⟩ = some v := fun b v hb hc => by rw [hw1, World.cell?_setCell_other _ ⟨f, 0, none⟩ ⟨b, 0, none⟩ _ (by simp [Ne.symm hb])]; exact hc
  have hrow1 : Row hi w1 (.slice a d.length c) d := by rw [hw1]; exact Row.set (hrow.inv hI0 (fun _ _ => id)) h00 (fun z => by simp) _
  have hnn := hM.now.nk
  have hs1 : w1.heap.size = w0.heap.size := by rw [hw1, size_set]
  have hz0 := hI0.size
  have HP := plan_write_ok f (w.heap.size + 2) w.heap.size (w.heap.size + 1) K n.m n.n n.k S.now n.F n.b n.h s a c d hi S.room w1 c2 c3 c4 hM1.now.tab hM1.now.ok (by omega) hs.2 (by omega) hfit hM.room hd hrow1 (by omega)
    (hother _ _ (by omega) (hI0.bx (List.mem_cons_of_mem _ (List.mem_cons_self ..))).1) (hother _ _ (by omega) (hI0.bx (List.mem_cons_of_mem _ (List.mem_cons_of_mem _ (List.mem_cons_of_mem _ (List.mem_cons_self ..))))).1) (hother _ _ (by omega) (hI0.bx (List.mem_cons_of_mem _ (List.mem_cons_of_mem _ (List.mem_cons_self ..)))).1)
  rw [hw1] at HP hM1
  have HC := change_ok f S O K n l pv ps w0 hM0 hf hp 28 (.pointer (some ⟨w.heap.size + 2, 0, none⟩)) (.pointer (some ⟨w.heap.size, 0, none⟩)) (.pointer (some ⟨w.heap.size + 1, 0, none⟩)) (w.heap.size + 3) [s] 1 (fun x hx => by simp at hx; subst hx; exact hs) (by simp) (fun j x hj => by
      cases j with
      | zero => simp at hj; subst hj; exact (hI0.bx (List.mem_cons_self ..)).1
      | succ j => simp at hj) (by omega) (S.now.write s d n.z) (.write s d n.z) k enters28 (HP.mono fun e w2 ⟨pn, pd, a', c', L, e1, hN, hI⟩ => ⟨34, _, _, e1, ready_write hM1 hex hnk hk hs.2 hd hN hI⟩)
  have HC := hide (HC.mono fun e w' ⟨e1, O', h1, h2⟩ => (⟨e1, n.z, O', fun s' i hN => hM.now.st i (hM.now.tab.live s' i hN), h1, (FFr.below ⟨hI0.os, hI0.tape, hI0.output, hI0.size, fun q hq => hI0.blk q hq id⟩).trans h2⟩ : e = Ending.returned (.int .i64 0) ∧ ∃ z O', (∀ s' i, S.now.N s' = some i → i < z) ∧ FsIs w' f 0 (S.done (S.now.write s d z) (.write s d z)) O' (k + 3) ∧ FFr O O' w w'))
  rw [hw0] at HC
  clear hI0 hM0 hM1 hM hrow hrow1 hother HP hw0 hw1 hz0 hs1 c2 c3 c4 h00 hnn
  simp only [List.length_singleton] at HC
  generalize d.length = N at *
  go_enter Try.func10, Try.ntmps10
  go_wp2_with fail
  refine (unhide HC).mono ?_
  rintro e w9 ⟨rfl, hE⟩
  have HE := hide hE
  clear hE
  go_wp2_with fail
  go_ret
  exact ⟨rfl, unhide HE⟩
end Go.Proofs.Ytbnbakcoomjnaaa
