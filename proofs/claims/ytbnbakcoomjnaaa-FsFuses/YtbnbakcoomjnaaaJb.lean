/- A thing that lasts: it is done to lasting. -/
import Derived.Test.YtbnbakcoomjnaaaJa
import Derived.Test.YtbnbakcoomjnaaaGx
namespace Go.Proofs.Ytbnbakcoomjnaaa
open Go.RowKit Go.Maps
set_option linter.unusedSimpArgs false
theorem FsM.taggedL {w w' : World} {f : Nat} {lk : Int} {S : Fs} {X : List Th} {O : Nat → Prop} {K : Nat → Option (List UInt8)} {n l : Lie} {pv : Value} {ps : List Value} (h : FsM w f lk S X O K n l pv ps) (hF : TFr f l.m l.F l.b w w') {q : Nat} {x : Array Value} {t : TypeId} {z : Nat × Nat} (hq : w.heap[q]? = some (.cells x t z)) (h1 : t ≠ 67) (h2 : t ≠ 94) : w'.heap[q]? = w.heap[q]? :=
  hF.rest q (Array.getElem?_eq_some_iff.1 hq).1 (tag_ne hq h.blk h1) (fun e => by
    have := h.las.tab.tab
    rw [e] at this
    exact map_ne this hq rfl) (fun i hi => tag_ne hq (h.las.tab.file i hi) h2)
/-- A thing is done to lasting. -/
theorem FsM.didL {w w' : World} {f : Nat} {lk : Int} {S : Fs} {X : List Th} {O : Nat → Prop} {K : Nat → Option (List UInt8)} {n l : Lie} {pv : Value} {ps : List Value} {t : Th} (h : FsM w f lk S (t :: X) O K n l pv ps) {T' : Tb} {l' : Lie} (hF : TFr f l.m l.F l.b w w') (hT : TabL w' K (grow O w w') T' l')
    (hb : w'.heap[f]? = some (fsBlk lk { S with las := T' } n.m l'.m pv)) (hd : ∀ i, l'.F i → (l.F i ∧ l'.b i = l.b i) ∨ w.heap.size ≤ l'.b i) (hm : ∀ q, l'.m = some q → l.m = some q ∨ w.heap.size ≤ q)
    (hrun : t.ap (S.las, l.z) = some (T', l'.z)) (hk : l'.k ≤ l.k + 3) (hn : l'.n ≤ l.n + 1) : FsM w' f lk { S with las := T' } X (grow O w w') K n l' pv ps := by
  have hK : ∀ g x, K g = some x → w'.heap[g]? = w.heap[g]? := fun g x hg => by
    obtain ⟨cur, hc, _⟩ := h.kok g x hg
    exact h.taggedL hF hc (by decide) (by decide)
  have hl1 : ∀ q, n.m = some q → w'.heap[q]? = w.heap[q]? := fun q e => by
    refine hF.rest q (h.lt q (h.now.om q e)) (h.mne h.now q e) (h.mdis q e) (fun i hi e2 => ?_)
    have := h.now.tab.tab
    rw [e] at this
    exact map_ne this (h.las.tab.file i hi) e2
  have hl2 : ∀ j, n.F j → w'.heap[n.b j]? = w.heap[n.b j]? := fun j hj => by
    refine hF.rest _ (h.lt _ (h.now.ob j hj)) (h.bne h.now j hj) (fun e2 => ?_) (fun i hi e2 => h.dis j i hj hi e2)
    have := h.las.tab.tab
    rw [e2] at this
    exact map_ne this (h.now.tab.file j hj) rfl
  have hsz := hF.size
  have hrow : w'.ownsRow 0 70 1 pv S.pend.length ps := by
    refine ⟨h.row.1, h.row.2.imp id ?_⟩
    rintro ⟨g, cap, cur, e, h1, h2, h3⟩
    exact ⟨g, cap, cur, e, h1, by rw [h.taggedL hF h2 (by decide) (by decide)]; exact h2, h3⟩
  refine ⟨hb, ⟨h.now.tab.kept hl1 hl2, h.now.ok, h.now.nk, fun q e => .inl (h.now.om q e), fun i hi => .inl (h.now.ob i hi), h.now.st⟩, hT, fun i j hi hj e => ?_, fun q e e2 => ?_, fun g x hg => ?_, fun i hi hx => (h.rm i hi hx).kept hK, h.ap, hrow, fun j v t e1 e2 => (h.ths j v t e1 e2).mono (Kle.refl _) (fun _ o => .inl o) (fun q x ty _ hq ht => h.taggedL hF hq (by rcases ht with rfl | rfl <;> decide) (by rcases ht with rfl | rfl <;> decide)), ?_, ?_, ?_, h.pl, h.room, h.fz, .inl h.of, fun g x hg => .inl (h.oK g x hg), fun q e => .inl (h.op q e), fun q o => ?_⟩
  · rcases hd j hj with ⟨hj', e'⟩ | e'
    · exact h.dis i j hi hj' (e.trans e')
    · have := h.lt _ (h.now.ob i hi)
      omega
  · rcases hm q e2 with e' | e'
    · exact h.mdis q e e'
    · have := h.lt _ (h.now.om q e)
      omega
  · obtain ⟨cur, hc, hp⟩ := h.kok g x hg
    exact ⟨cur, by rw [hK g x hg]; exact hc, hp⟩
  · have := h.run
    simp only [runs, hrun, Option.bind_some] at this
    exact this
  · have := h.kb
    simp only [List.length_cons] at this
    omega
  · have := h.nb
    simp only [List.length_cons] at this
    omega
  · rcases o with o | o
    · have := h.lt q o; omega
    · exact o.2
theorem FFr.of_tfrL {w w' : World} {f : Nat} {lk : Int} {S : Fs} {X : List Th} {O : Nat → Prop} {K : Nat → Option (List UInt8)} {n l : Lie} {pv : Value} {ps : List Value} (h : FsM w f lk S X O K n l pv ps) (hF : TFr f l.m l.F l.b w w') : FFr O (grow O w w') w w' :=
  ⟨hF.os, hF.tape, hF.output, hF.size, fun q h1 h2 => hF.rest q h1 (fun e => h2 (by rw [e]; exact h.of)) (fun e => h2 (h.las.om q e)) (fun i hi e => h2 (by rw [e]; exact h.las.ob i hi)), fun _ o => o.imp id (fun o => o.1)⟩
theorem blkL_done {w w' : World} {f : Nat} {lk : Int} {S : Fs} {mn ml m' : Option Nat} {pv : Value} {T' : Tb} (hb : w.heap[f]? = some (fsBlk lk S mn ml pv)) (h : w'.heap[f]? = ((w.setCell ⟨f, 5 + 1, none⟩ (.int .i64 T'.u)).setCell ⟨f, 5, none⟩ (.map m')).heap[f]?) : w'.heap[f]? = some (fsBlk lk { S with las := T' } mn m' pv) := by
  rw [h]
  simp [World.setCell, Array.getElem?_modify, hb, fsBlk]
theorem blkL_kept {w w' : World} {f : Nat} {lk : Int} {S : Fs} {mn ml : Option Nat} {pv : Value} {T' : Tb} (hb : w.heap[f]? = some (fsBlk lk S mn ml pv)) (h : w'.heap[f]? = (w.setCell ⟨f, 5 + 1, none⟩ (.int .i64 T'.u)).heap[f]?) : w'.heap[f]? = some (fsBlk lk { S with las := T' } mn ml pv) := by
  rw [h]
  simp [World.setCell, Array.getElem?_modify, hb, fsBlk]
/-- What is left where a thing was done to lasting. -/
def LasDone (f : Nat) (lk : Int) (S : Fs) (X : List Th) (O : Nat → Prop) (K : Nat → Option (List UInt8)) (n : Lie) (pv : Value) (ps : List Value) (w w' : World) : Prop := ∃ T' l', FsM w' f lk { S with las := T' } X (grow O w w') K n l' pv ps ∧ FFr O (grow O w w') w w'
set_option maxRecDepth 20000 in
theorem enters64 : Enters 64 := enters_of Try.func64 (by kernel_rfl) (by kernel_rfl)
set_option maxRecDepth 20000 in
theorem enters67 : Enters 67 := enters_of Try.func67 (by kernel_rfl) (by kernel_rfl)
/-- The four things of two boxes, and the one of one box. -/
theorem do_las {w : World} {f : Nat} {lk : Int} {S : Fs} {X : List Th} {O : Nat → Prop} {K : Nat → Option (List UInt8)} {n l : Lie} {pv : Value} {ps : List Value} {t : Th} (h : FsM w f lk S (t :: X) O K n l pv ps) (hk : n.k ≤ 16000) {v : Value} (hv : ThIs w K O v t) :
    (∃ fn a b, v = .func (.func fn) #[] #[a, b] ∧ Enters fn ∧ Calls Try.prog fn #[.pointer (some ⟨f, 5, none⟩), a, b] w fun e w' => e = .returned (.tuple #[]) ∧ LasDone f lk S X O K n pv ps w w') ∨
    (∃ fn a, v = .func (.func fn) #[] #[a] ∧ Enters fn ∧ Calls Try.prog fn #[.pointer (some ⟨f, 5, none⟩), a] w fun e w' => e = .returned (.tuple #[]) ∧ LasDone f lk S X O K n pv ps w w') := by
  have hc := h.cells
  obtain ⟨_, _, _, _, h5, h6, _, _, _, hz⟩ := hc
  have hkb := h.kb
  simp only [List.length_cons] at hkb
  have hnk := h.las.nk
  have hrun := h.run
  have hbox : ∀ {p : Nat} {x : Value} {ty : TypeId}, w.heap[p]? = some (.cells #[x] ty (0, 0)) → w.cell? ⟨p, 0, none⟩ = some x := fun e => by simp [World.cell?, e]
  cases t with
  | write s d i =>
    obtain ⟨pn, pd, hv', e, _, _, b1, b2, hD, hs, hd⟩ := hv
    by_cases hzi : l.z ≤ i
    case neg =>
      simp only [runs, Th.ap, if_neg hzi] at hrun
      cases hrun
    case pos =>
    refine .inl ⟨34, _, _, e, enters34, ?_⟩
    refine (do_write_any f 5 pn pd K l.m l.n l.k S.las l.F l.b l.h s d hv' i w h5 h6 hz h.las.tab h.las.ok (by omega) (by simp only [maxLen]; omega) (by simp only [maxLen]; omega) (h.bne h.las) (fun e => by have := h.las.st _ e; omega) hD hd (hbox b1) (hbox b2)).mono ?_
    rintro e w3 ⟨rfl, mb, hTb, hDn⟩
    have hmb : mb < w3.heap.size := by
      obtain ⟨es, cl, hb⟩ := hTb.tab.block
      exact (Array.getElem?_eq_some_iff.1 hb).1
    have hnew : w.heap.size < w3.heap.size := by
      have := hTb.file i (.inl rfl)
      rw [updN_same] at this
      exact (Array.getElem?_eq_some_iff.1 this).1
    refine ⟨rfl, S.las.write s d i, ⟨some mb, l.n + 1, addF l.F i, updN l.b i w.heap.size, updN l.h i hv', l.k + 3, i + 1, fun _ => False⟩, h.didL hDn.fr ⟨hTb, h.las.ok.write s d i hd, by show l.n + 1 ≤ l.k + 3; omega, fun q e => ?_, fun j hj => ?_, fun j hj => ?_⟩ (blkL_done h.blk hDn.blk) (fun j hj => ?_) (fun q e => ?_) (by simp [Th.ap, hzi]) (Nat.le_refl _) (Nat.le_refl _), FFr.of_tfrL h hDn.fr⟩
    · cases e
      rcases hDn.new with e | ⟨_, e⟩
      · exact .inl (h.las.om _ e)
      · exact .inr ⟨e, hmb⟩
    · show grow O w w3 (updN l.b i w.heap.size j)
      by_cases e : j = i
      · rw [e, updN_same]; exact .inr ⟨Nat.le_refl _, hnew⟩
      · rw [updN_ne _ _ e]; exact .inl (h.las.ob j (hj.resolve_left e))
    · show j < i + 1
      rcases hj with e | hj
      · omega
      · have := h.las.st j hj; omega
    · show (l.F j ∧ updN l.b i w.heap.size j = l.b j) ∨ w.heap.size ≤ updN l.b i w.heap.size j
      by_cases e : j = i
      · rw [e, updN_same]; exact .inr (Nat.le_refl _)
      · rw [updN_ne _ _ e]; exact .inl ⟨hj.resolve_left e, rfl⟩
    · cases e
      rcases hDn.new with e | ⟨_, e⟩
      · exact .inl e
      · exact .inr e
  | fill s d =>
    obtain ⟨pn, pd, hv', e, _, _, b1, b2, hD, hs, hd⟩ := hv
    cases hN : S.las.N s with
    | none =>
      simp only [runs, Th.ap, hN] at hrun
      cases hrun
    | some i =>
    refine .inl ⟨58, _, _, e, enters58, ?_⟩
    refine (do_fill_any f 5 pn pd K l.m l.n l.k S.las l.F l.b l.h s d hv' i w h5 h6 hz h.las.tab h.las.ok (by omega) (by simp only [maxLen]; omega) (h.bne h.las) hN hD hd (hbox b1) (hbox b2)).mono ?_
    rintro e w3 ⟨rfl, hTb, hDn⟩
    exact ⟨rfl, S.las.put i d, ⟨l.m, l.n, l.F, l.b, updN l.h i hv', l.k + 3, l.z, fun _ => False⟩, h.didL hDn.fr ⟨hTb, (h.las.ok.put i d hd).mono (by show l.k + 1 ≤ l.k + 3; omega), by show l.n ≤ l.k + 3; omega, fun q e => .inl (h.las.om q e), fun j hj => .inl (h.las.ob j hj), h.las.st⟩ (blkL_kept h.blk hDn.blk) (fun j hj => .inl ⟨hj, rfl⟩) (fun q e => .inl e) (by simp [Th.ap, hN]) (Nat.le_refl _) (Nat.le_succ _), FFr.of_tfrL h hDn.fr⟩
  | lay s old =>
    obtain ⟨pn, po, e, _, _, b1, b2, hs, hso⟩ := hv
    cases hN : S.las.N old with
    | none =>
      simp only [runs, Th.ap, hN] at hrun
      cases hrun
    | some i =>
    refine .inl ⟨61, _, _, e, enters61, ?_⟩
    refine (do_lay_any f 5 pn po K l.m l.n l.k S.las l.F l.b l.h s old i w h5 h6 hz h.las.tab h.las.ok (by omega) (by simp only [maxLen]; omega) (by simp only [maxLen]; omega) (by simp only [maxLen]; omega) (h.bne h.las) hN (hbox b1) (hbox b2)).mono ?_
    rintro e w3 ⟨rfl, mb, hTb, hDn⟩
    have hmb : mb < w3.heap.size := by
      obtain ⟨es, cl, hb⟩ := hTb.tab.block
      exact (Array.getElem?_eq_some_iff.1 hb).1
    refine ⟨rfl, S.las.lay s i, ⟨some mb, l.n + 1, l.F, l.b, l.h, l.k + 3, l.z, fun _ => False⟩, h.didL hDn.fr ⟨hTb, (h.las.ok.lay s i).mono (by show l.k + 2 ≤ l.k + 3; omega), by show l.n + 1 ≤ l.k + 3; omega, fun q e => ?_, fun j hj => .inl (h.las.ob j hj), h.las.st⟩ (blkL_done h.blk hDn.blk) (fun j hj => .inl ⟨hj, rfl⟩) (fun q e => ?_) (by simp [Th.ap, hN]) (Nat.le_refl _) (Nat.le_refl _), FFr.of_tfrL h hDn.fr⟩
    · cases e
      rcases hDn.new with e | ⟨_, e⟩
      · exact .inl (h.las.om _ e)
      · exact .inr ⟨e, hmb⟩
    · cases e
      rcases hDn.new with e | ⟨_, e⟩
      · exact .inl e
      · exact .inr e
  | move old s =>
    obtain ⟨pn, po, e, _, _, b1, b2, hs, hso⟩ := hv
    cases hN : S.las.N old with
    | none =>
      simp only [runs, Th.ap, hN] at hrun
      cases hrun
    | some i =>
    refine .inl ⟨64, _, _, e, enters64, ?_⟩
    refine (do_move_any f 5 po pn K l.m l.n l.k S.las l.F l.b l.h old s i w h5 h6 hz h.las.tab h.las.ok (by omega) (by simp only [maxLen]; omega) (by simp only [maxLen]; omega) (by simp only [maxLen]; omega) (h.bne h.las) hN (hbox b2) (hbox b1)).mono ?_
    rintro e w3 ⟨rfl, m', hTb, hDn⟩
    refine ⟨rfl, S.las.move old s, ⟨m', l.n + 1, l.F, l.b, l.h, l.k + 3, l.z, fun _ => False⟩, h.didL hDn.fr ⟨hTb, h.las.ok.move old s, by show l.n + 1 ≤ l.k + 3; omega, fun q e => ?_, fun j hj => .inl (h.las.ob j hj), h.las.st⟩ (blkL_done h.blk hDn.blk) (fun j hj => .inl ⟨hj, rfl⟩) (fun q e => ?_) (by simp [Th.ap, hN]) (Nat.le_refl _) (Nat.le_refl _), FFr.of_tfrL h hDn.fr⟩
    · have e' : m' = some q := e
      rcases hDn.new with e2 | ⟨mb, e2, hw⟩
      · exact .inl (h.las.om q (e2 ▸ e'))
      · rw [e2] at e'
        injection e' with e'
        subst e'
        have := hTb.tab
        rw [e2] at this
        obtain ⟨es, cl, hb⟩ := this.block
        exact .inr ⟨hw, (Array.getElem?_eq_some_iff.1 hb).1⟩
    · have e' : m' = some q := e
      rcases hDn.new with e2 | ⟨mb, e2, hw⟩
      · exact .inl (e2 ▸ e')
      · rw [e2] at e'
        injection e' with e'
        subst e'
        exact .inr hw
  | drop s =>
    obtain ⟨pn, e, _, b1, hs⟩ := hv
    refine .inr ⟨67, _, e, enters67, ?_⟩
    refine (do_drop_any f 5 pn K l.m l.n l.k S.las l.F l.b l.h s w h5 h6 hz h.las.tab h.las.ok (by omega) (by simp only [maxLen]; omega) (h.bne h.las) (hbox b1)).mono ?_
    rintro e w3 ⟨rfl, hTb, hDn⟩
    exact ⟨rfl, S.las.drop s, ⟨l.m, l.n, l.F, l.b, l.h, l.k + 3, l.z, fun _ => False⟩, h.didL hDn.fr ⟨hTb, (h.las.ok.drop s).mono (by show l.k + 1 ≤ l.k + 3; omega), by show l.n ≤ l.k + 3; omega, fun q e => .inl (h.las.om q e), fun j hj => .inl (h.las.ob j hj), h.las.st⟩ (blkL_kept h.blk hDn.blk) (fun j hj => .inl ⟨hj, rfl⟩) (fun q e => .inl e) (by simp [Th.ap]) (Nat.le_refl _) (Nat.le_succ _), FFr.of_tfrL h hDn.fr⟩
end Go.Proofs.Ytbnbakcoomjnaaa
