/- settle, of a part: a thing done to lasting, with what it does. -/
import Derived.Test.YtebcmicmklpflaaGreatDoorK7
namespace Go.Proofs.YtebcmicmklpflaaGreatDoor
open Go.RowKit Go.Maps
set_option linter.unusedSimpArgs false
/-- A thing is done to lasting. -/
def LasT (f : Nat) (lk : Int) (S : Fs) (t : Th) (z : Nat) (X : List Th) (O : Nat → Prop) (K : Nat → Option (List UInt8)) (n : Lie) (pv : Value) (ps : List Value) (w w' : World) : Prop := ∃ T' l', t.ap (S.las, z) = some (T', l'.z) ∧ FsM w' f lk { S with las := T' } X (grow O w w') K n l' pv ps ∧ FFr O (grow O w w') w w'

theorem do_lasT {w : World} {f : Nat} {lk : Int} {S : Fs} {X : List Th} {O : Nat → Prop} {K : Nat → Option (List UInt8)} {n l : Lie} {pv : Value} {ps : List Value} {t : Th} (h : FsM w f lk S (t :: X) O K n l pv ps) (hk : n.k ≤ 16000) {v : Value} (hv : ThIs w K O v t) :
    (∃ fn a b, v = .func (.func fn) #[] #[a, b] ∧ Enters fn ∧ Calls Tryz.prog fn #[.pointer (some ⟨f, 5, none⟩), a, b] w fun e w' => e = .returned (.tuple #[]) ∧ LasT f lk S t l.z X O K n pv ps w w') ∨
    (∃ fn a, v = .func (.func fn) #[] #[a] ∧ Enters fn ∧ Calls Tryz.prog fn #[.pointer (some ⟨f, 5, none⟩), a] w fun e w' => e = .returned (.tuple #[]) ∧ LasT f lk S t l.z X O K n pv ps w w') := by
  have hc := h.cells
  obtain ⟨_, _, _, _, h5, h6, _, _, _, hz⟩ := hc
  have hkb := h.kb
  simp only [List.length_cons] at hkb
  have hnk := h.las.nk
  have hrun := h.run
  have hbox : ∀ {p : Nat} {x : Value} {ty : TypeId}, w.heap[p]? = some (.cells #[x] ty (0, 0)) → w.cell? ⟨p, 0, none⟩ = some x := fun e => by simp [World.cell?, e]
  cases t with
  | write s d i =>
    obtain ⟨pn, pd, hv', e, _, _, b1, b2, hD, hs, hd⟩ := hv
    by_cases hzi : l.z ≤ i
    case neg =>
      simp only [runs, Th.ap, if_neg hzi] at hrun
      cases hrun
    case pos =>
    refine .inl ⟨70, _, _, e, enters34, ?_⟩
    refine (do_write_any f 5 pn pd K l.m l.n l.k S.las l.F l.b l.h s d hv' i w h5 h6 hz h.las.tab h.las.ok (by omega) (by simp only [maxLen]; omega) (by simp only [maxLen]; omega) (h.bne h.las) (fun e => by have := h.las.st _ e; omega) hD hd (hbox b1) (hbox b2)).mono ?_
    rintro e w3 ⟨rfl, mb, hTb, hDn⟩
    have hmb : mb < w3.heap.size := by
      obtain ⟨es, cl, hb⟩ := hTb.tab.block
      exact (Array.getElem?_eq_some_iff.1 hb).1
    have hnew : w.heap.size < w3.heap.size := by
      have := hTb.file i (.inl rfl)
      rw [updN_same] at this
      exact (Array.getElem?_eq_some_iff.1 this).1
    refine ⟨rfl, S.las.write s d i, ⟨some mb, l.n + 1, addF l.F i, updN l.b i w.heap.size, updN l.h i hv', l.k + 3, i + 1, fun _ => False⟩, by simp [Th.ap, hzi], h.didL hDn.fr ⟨hTb, h.las.ok.write s d i hd, by show l.n + 1 ≤ l.k + 3; omega, fun q e => ?_, fun j hj => ?_, fun j hj => ?_⟩ (blkL_done h.blk hDn.blk) (fun j hj => ?_) (fun q e => ?_) (by simp [Th.ap, hzi]) (Nat.le_refl _) (Nat.le_refl _), FFr.of_tfrL h hDn.fr⟩
    · cases e
      rcases hDn.new with e | ⟨_, e⟩
      · exact .inl (h.las.om _ e)
      · exact .inr ⟨e, hmb⟩
    · show grow O w w3 (updN l.b i w.heap.size j)
      by_cases e : j = i
      · rw [e, updN_same]; exact .inr ⟨Nat.le_refl _, hnew⟩
      · rw [updN_ne _ _ e]; exact .inl (h.las.ob j (hj.resolve_left e))
    · show j < i + 1
      rcases hj with e | hj
      · omega
      · have := h.las.st j hj; omega
    · show (l.F j ∧ updN l.b i w.heap.size j = l.b j) ∨ w.heap.size ≤ updN l.b i w.heap.size j
      by_cases e : j = i
      · rw [e, updN_same]; exact .inr (Nat.le_refl _)
      · rw [updN_ne _ _ e]; exact .inl ⟨hj.resolve_left e, rfl⟩
    · cases e
      rcases hDn.new with e | ⟨_, e⟩
      · exact .inl e
      · exact .inr e
  | fill s d =>
    obtain ⟨pn, pd, hv', e, _, _, b1, b2, hD, hs, hd⟩ := hv
    cases hN : S.las.N s with
    | none =>
      simp only [runs, Th.ap, hN] at hrun
      cases hrun
    | some i =>
    refine .inl ⟨193, _, _, e, enters58, ?_⟩
    refine (do_fill_any f 5 pn pd K l.m l.n l.k S.las l.F l.b l.h s d hv' i w h5 h6 hz h.las.tab h.las.ok (by omega) (by simp only [maxLen]; omega) (h.bne h.las) hN hD hd (hbox b1) (hbox b2)).mono ?_
    rintro e w3 ⟨rfl, hTb, hDn⟩
    exact ⟨rfl, S.las.put i d, ⟨l.m, l.n, l.F, l.b, updN l.h i hv', l.k + 3, l.z, fun _ => False⟩, by simp [Th.ap, hN], h.didL hDn.fr ⟨hTb, (h.las.ok.put i d hd).mono (by show l.k + 1 ≤ l.k + 3; omega), by show l.n ≤ l.k + 3; omega, fun q e => .inl (h.las.om q e), fun j hj => .inl (h.las.ob j hj), h.las.st⟩ (blkL_kept h.blk hDn.blk) (fun j hj => .inl ⟨hj, rfl⟩) (fun q e => .inl e) (by simp [Th.ap, hN]) (Nat.le_refl _) (Nat.le_succ _), FFr.of_tfrL h hDn.fr⟩
  | lay s old => exact hv.elim
  | move old s =>
    obtain ⟨pn, po, e, _, _, b1, b2, hs, hso⟩ := hv
    cases hN : S.las.N old with
    | none =>
      simp only [runs, Th.ap, hN] at hrun
      cases hrun
    | some i =>
    refine .inl ⟨207, _, _, e, enters64, ?_⟩
    refine (do_move_any f 5 po pn K l.m l.n l.k S.las l.F l.b l.h old s i w h5 h6 hz h.las.tab h.las.ok (by omega) (by simp only [maxLen]; omega) (by simp only [maxLen]; omega) (by simp only [maxLen]; omega) (h.bne h.las) hN (hbox b2) (hbox b1)).mono ?_
    rintro e w3 ⟨rfl, m', hTb, hDn⟩
    refine ⟨rfl, S.las.move old s, ⟨m', l.n + 1, l.F, l.b, l.h, l.k + 3, l.z, fun _ => False⟩, by simp [Th.ap, hN], h.didL hDn.fr ⟨hTb, h.las.ok.move old s, by show l.n + 1 ≤ l.k + 3; omega, fun q e => ?_, fun j hj => .inl (h.las.ob j hj), h.las.st⟩ (blkL_done h.blk hDn.blk) (fun j hj => .inl ⟨hj, rfl⟩) (fun q e => ?_) (by simp [Th.ap, hN]) (Nat.le_refl _) (Nat.le_refl _), FFr.of_tfrL h hDn.fr⟩
    · have e' : m' = some q := e
      rcases hDn.new with e2 | ⟨mb, e2, hw⟩
      · exact .inl (h.las.om q (e2 ▸ e'))
      · rw [e2] at e'
        injection e' with e'
        subst e'
        have := hTb.tab
        rw [e2] at this
        obtain ⟨es, cl, hb⟩ := this.block
        exact .inr ⟨hw, (Array.getElem?_eq_some_iff.1 hb).1⟩
    · have e' : m' = some q := e
      rcases hDn.new with e2 | ⟨mb, e2, hw⟩
      · exact .inl (e2 ▸ e')
      · rw [e2] at e'
        injection e' with e'
        subst e'
        exact .inr hw
  | drop s =>
    obtain ⟨pn, e, _, b1, hs⟩ := hv
    refine .inr ⟨196, _, e, enters67, ?_⟩
    refine (do_drop_any f 5 pn K l.m l.n l.k S.las l.F l.b l.h s w h5 h6 hz h.las.tab h.las.ok (by omega) (by simp only [maxLen]; omega) (h.bne h.las) (hbox b1)).mono ?_
    rintro e w3 ⟨rfl, hTb, hDn⟩
    exact ⟨rfl, S.las.drop s, ⟨l.m, l.n, l.F, l.b, l.h, l.k + 3, l.z, fun _ => False⟩, by simp [Th.ap], h.didL hDn.fr ⟨hTb, (h.las.ok.drop s).mono (by show l.k + 1 ≤ l.k + 3; omega), by show l.n ≤ l.k + 3; omega, fun q e => .inl (h.las.om q e), fun j hj => .inl (h.las.ob j hj), h.las.st⟩ (blkL_kept h.blk hDn.blk) (fun j hj => .inl ⟨hj, rfl⟩) (fun q e => .inl e) (by simp [Th.ap]) (Nat.le_refl _) (Nat.le_succ _), FFr.of_tfrL h hDn.fr⟩
end Go.Proofs.YtebcmicmklpflaaGreatDoor
