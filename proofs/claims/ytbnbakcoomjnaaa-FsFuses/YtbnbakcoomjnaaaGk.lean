/- What is learnt of new blocks; what is pending grows; the fuse. -/
import Derived.Test.YtbnbakcoomjnaaaGh
import Derived.Maps.AppendAt
namespace Go.Proofs.Ytbnbakcoomjnaaa
open Go.RowKit Go.Maps
set_option linter.unusedSimpArgs false
theorem FsM.wider {w : World} {f : Nat} {lk : Int} {S : Fs} {X : List Th} {O O' : Nat → Prop} {K : Nat → Option (List UInt8)} {n l : Lie} {pv : Value} {ps : List Value} (h : FsM w f lk S X O K n l pv ps) (hO : ∀ q, O q → O' q) (hl : ∀ q, O' q → q < w.heap.size) : FsM w f lk S X O' K n l pv ps :=
  ⟨h.blk, ⟨h.now.tab, h.now.ok, h.now.nk, fun q e => hO q (h.now.om q e), fun i hi => hO _ (h.now.ob i hi), h.now.st⟩, ⟨h.las.tab, h.las.ok, h.las.nk, fun q e => hO q (h.las.om q e), fun i hi => hO _ (h.las.ob i hi), h.las.st⟩, h.dis, h.mdis, h.kok, h.rm, h.ap, h.row, fun j v t e1 e2 => (h.ths j v t e1 e2).mono (Kle.refl _) hO (fun _ _ _ _ _ _ => rfl), h.run, h.kb, h.nb, h.pl, h.room, h.fz, hO f h.of, fun g x e => hO g (h.oK g x e), fun q e => hO q (h.op q e), hl⟩
theorem FsM.grew {w w1 : World} {f : Nat} {lk : Int} {S : Fs} {X : List Th} {O : Nat → Prop} {K : Nat → Option (List UInt8)} {n l : Lie} {pv : Value} {ps : List Value} (h : FsM w f lk S X O K n l pv ps) (hs : w.heap.size ≤ w1.heap.size) (hw : ∀ q, q < w.heap.size → w1.heap[q]? = w.heap[q]?) : FsM w1 f lk S X (grow O w w1) K n l pv ps :=
  (h.kept hs (fun q o => hw q (h.lt q o))).wider (fun _ o => .inl o) (fun q o => by
    rcases o with o | o
    · have := h.lt q o; omega
    · exact o.2)
/-- A block's bytes are learnt. -/
def learn (K : Nat → Option (List UInt8)) (g : Nat) (d : List UInt8) : Nat → Option (List UInt8) := fun q => if q = g then some d else K q
theorem learn_ne {K : Nat → Option (List UInt8)} {g q : Nat} {d : List UInt8} (h : q ≠ g) : learn K g d q = K q := by simp [learn, h]
theorem learn_same {K : Nat → Option (List UInt8)} {g : Nat} {d : List UInt8} : learn K g d g = some d := by simp [learn]
theorem Kle.learn {K : Nat → Option (List UInt8)} {g : Nat} {d : List UInt8} (h : ∀ l, K g = some l → l <+: d) : Kle K (learn K g d) := fun q l hq => by
  by_cases e : q = g
  · subst e; exact ⟨d, learn_same, h l hq⟩
  · exact ⟨l, by rw [learn_ne e]; exact hq, List.prefix_refl l⟩
theorem TabM.learnt {w : World} {K K' : Nat → Option (List UInt8)} {m : Option Nat} {n : Nat} {T : Tb} {F : Nat → Prop} {b : Nat → Nat} {h : Nat → Value} (hT : TabM w K m n T F b h) (hK : Kle K K') : TabM w K' m n T F b h :=
  ⟨hT.tab, hT.nil, hT.live, hT.file, hT.inj, fun i hi => (hT.data i hi).mono hK⟩
theorem FsM.learnt {w : World} {f : Nat} {lk : Int} {S : Fs} {X : List Th} {O : Nat → Prop} {K K' : Nat → Option (List UInt8)} {n l : Lie} {pv : Value} {ps : List Value} (h : FsM w f lk S X O K n l pv ps) (hK : Kle K K') (hk : KOK w K') (hO : ∀ g x, K' g = some x → O g) (hr : ∀ i, n.F i → ¬ n.e i → Rm w K' (n.h i)) : FsM w f lk S X O K' n l pv ps :=
  ⟨h.blk, ⟨h.now.tab.learnt hK, h.now.ok, h.now.nk, h.now.om, h.now.ob, h.now.st⟩, ⟨h.las.tab.learnt hK, h.las.ok, h.las.nk, h.las.om, h.las.ob, h.las.st⟩, h.dis, h.mdis, hk, hr, h.ap, h.row, fun j v t e1 e2 => (h.ths j v t e1 e2).mono hK (fun _ o => o) (fun _ _ _ _ _ _ => rfl), h.run, h.kb, h.nb, h.pl, h.room, h.fz, h.of, hO, h.op, h.lt⟩
theorem prefix_of_take {d : List UInt8} {cur : Array Value} (h : cur.toList.take d.length = byteVals d) : byteVals d <+: cur.toList := by
  rw [← h]; exact List.take_prefix _ _
/-- New bytes are learnt. -/
theorem FsM.ext {w w1 : World} {f : Nat} {lk : Int} {S : Fs} {X : List Th} {O : Nat → Prop} {K : Nat → Option (List UInt8)} {n l : Lie} {pv : Value} {ps : List Value} (h : FsM w f lk S X O K n l pv ps) {L L' : List (Nat × Obj)} {v : Value} {d : List UInt8} (hI : Inv (fun _ => False) w w1 L') (hN : NewData w.heap.size L v d) (hL : ∀ z ∈ L, z ∈ L') :
    ∃ K', FsM w1 f lk S X (grow O w w1) K' n l pv ps ∧ DataIs K' v d ∧ Rm w1 K' v ∧ ∀ i, n.F i → Apart v (n.h i) ∧ Apart (n.h i) v := by
  have h1 := h.grew hI.size (fun q hq => hI.blk q hq id)
  rcases hN with ⟨rfl, rfl, rfl⟩ | ⟨g, cap, cur, rfl, rfl, hlo, hc, hm, hsz, ht⟩
  · exact ⟨K, h1, ⟨none, 0, rfl, Nat.le_refl _, by simp [maxLen], .inl ⟨rfl, rfl⟩⟩, fun g n c e => (by cases e), fun i _ => ⟨fun g n c n' c' e => (by cases e), fun g n c n' c' _ e => (by cases e)⟩⟩
  · have hin := hL _ (List.mem_singleton.2 rfl)
    have hg := hI.held _ hin
    have hlt := hI.lt hin
    simp only at hg hlt
    have hKg : ∀ x, K g ≠ some x := fun x e => by have := h.lt g (h.oK g x e); omega
    have hle : Kle K (learn K g d) := Kle.learn fun l e => absurd e (hKg l)
    have hblk : ∀ i, n.F i → ∀ m c, n.h i ≠ .slice (some ⟨g, 0, none⟩) m c := fun i hi m c e => by
      obtain ⟨a, c', e2, _, _, h3⟩ := h.now.tab.data i hi
      rw [e] at e2
      injection e2 with e2
      rcases h3 with ⟨ea, _⟩ | ⟨g', l', ea, hk, _⟩
      · rw [ea] at e2; cases e2
      · rw [ea] at e2
        injection e2 with e2
        injection e2 with e2
        subst e2
        exact hKg l' hk
    refine ⟨learn K g d, h1.learnt hle (fun q x e => ?_) (fun q x e => ?_) (fun i hi hx q m c e hlt' => ?_), ⟨some ⟨g, 0, none⟩, cap, rfl, hc, hm, .inr ⟨g, d, rfl, learn_same, List.prefix_refl _⟩⟩, fun q m c e _ => ?_, fun i hi => ⟨fun q m c m' c' e e' => ?_, fun q m c m' c' e e' => ?_⟩⟩
    · by_cases eq : q = g
      · subst eq
        rw [learn_same] at e
        injection e with e
        subst e
        exact ⟨cur, hg, prefix_of_take ht⟩
      · rw [learn_ne eq] at e
        exact h1.kok q x e
    · by_cases eq : q = g
      · subst eq; exact .inr ⟨hlo, hlt⟩
      · rw [learn_ne eq] at e; exact h1.oK q x e
    · obtain ⟨l', cur', k1, k2, k3, k4⟩ := h1.rm i hi hx q m c e hlt'
      have hne : q ≠ g := fun eq => hKg l' (by rw [← eq]; exact k1)
      exact ⟨l', cur', by rw [learn_ne hne]; exact k1, k2, k3, k4⟩
    · injection e with e1 e2 e3
      injection e1 with e1
      injection e1 with e1
      subst e1 e2 e3
      exact ⟨d, cur, learn_same, rfl, hg, hsz⟩
    · injection e with e1
      injection e1 with e1
      injection e1 with e1
      subst e1
      exact absurd e' (hblk i hi m' c')
    · injection e' with e1
      injection e1 with e1
      injection e1 with e1
      subst e1
      exact absurd e (hblk i hi m c)
/-- One more thing is pending. -/
theorem FsM.pended {w w3 : World} {f : Nat} {lk : Int} {S : Fs} {X : List Th} {O : Nat → Prop} {K : Nat → Option (List UInt8)} {n l : Lie} {pv pv' : Value} {ps : List Value} {t : Th} {v : Value} (h : FsM w f lk S X O K n l pv ps) (hv : ThIs w K O v t) (hp : S.pend.length < 16383)
    (hown : w3.ownsRow 0 70 1 pv' (S.pend.length + 1) (ps ++ [v])) (hgr : w.grownBy w3 pv.ownBlock) (hloc : pv'.ownBlock = pv.ownBlock ∨ ∃ q, pv'.ownBlock = some q ∧ w.heap.size ≤ q ∧ q < w3.heap.size) :
    FsM (w3.setCell ⟨f, 7, none⟩ pv') f lk { S with pend := S.pend ++ [t] } X (grow O w w3) K n l pv' (ps ++ [v]) := by
  have hps : ps.length = S.pend.length := by have := h.row.1; omega
  have hrowb : ∀ q, pv.ownBlock = some q → ∃ cur, w.heap[q]? = some (.cells cur 70 (0, 0)) := fun q e => by
    rcases h.row.2 with ⟨rfl, _⟩ | ⟨g, cap, cur, rfl, _, hh, _⟩
    · simp [Value.ownBlock] at e
    · simp [Value.ownBlock] at e
      subst e
      exact ⟨cur, hh⟩
  have keep : ∀ (q : Nat) (x : Array Value) (ty : TypeId) (z : Nat × Nat), w.heap[q]? = some (Obj.cells x ty z) → ty ≠ 70 → ty ≠ 67 → (w3.setCell ⟨f, 7, none⟩ pv').heap[q]? = w.heap[q]? := fun q x ty z hq h1 h2 => by
    rw [set_other _ _ _ _ _ (tag_ne hq h.blk h2), hgr.block q (Array.getElem?_eq_some_iff.1 hq).1 (fun e => ?_)]
    obtain ⟨cur, hc⟩ := hrowb q e.symm
    exact tag_ne hq hc h1 rfl
  have keepm : ∀ {T : Tb} {a : Lie}, TabL w K O T a → ∀ q, a.m = some q → (w3.setCell ⟨f, 7, none⟩ pv').heap[q]? = w.heap[q]? := fun hT q e => by
    have hq : q < w.heap.size := h.lt q (hT.om q e)
    rw [set_other _ _ _ _ _ (h.mne hT q e), hgr.block q hq (fun e2 => ?_)]
    obtain ⟨cur, hc⟩ := hrowb q e2.symm
    have := hT.tab.tab
    rw [e] at this
    exact map_ne this hc rfl
  have hfb : w3.heap[f]? = w.heap[f]? := hgr.block f (h.lt f h.of) (fun e => by
    obtain ⟨cur, hc⟩ := hrowb f e.symm
    exact tag_ne hc h.blk (by decide) rfl)
  have hsz := hgr.size
  have hTL : ∀ {T : Tb} {a : Lie}, TabL w K O T a → TabL (w3.setCell ⟨f, 7, none⟩ pv') K (grow O w w3) T a := fun hT => ⟨hT.tab.kept (keepm hT) (fun i hi => keep _ _ _ _ (hT.tab.file i hi) (by decide) (by decide)), hT.ok, hT.nk, fun q e => .inl (hT.om q e), fun i hi => .inl (hT.ob i hi), hT.st⟩
  have hrow : (w3.setCell ⟨f, 7, none⟩ pv').ownsRow 0 70 1 pv' (S.pend.length + 1) (ps ++ [v]) := by
    refine ⟨hown.1, hown.2.imp id ?_⟩
    rintro ⟨g, cap, cur, e, h1, h2, h3⟩
    exact ⟨g, cap, cur, e, h1, by rw [set_other _ _ _ _ _ (tag_ne h2 (hfb.trans h.blk) (by decide))]; exact h2, h3⟩
  refine ⟨?_, hTL h.now, hTL h.las, h.dis, h.mdis, fun g x hg => ?_, fun i hi hx => (h.rm i hi hx).kept (fun g x hg => ?_), h.ap, by simpa using hrow, fun j u t' e1 e2 => ?_, h.run, h.kb, h.nb, by simp only [List.length_append, List.length_singleton]; omega, h.room, h.fz, .inl h.of, fun g x hg => .inl (h.oK g x hg), fun q e => ?_, fun q o => ?_⟩
  · have := h.blk
    simp [World.setCell, Array.getElem?_modify, hfb, this, fsBlk]
  · obtain ⟨cur, hc, hp⟩ := h.kok g x hg
    exact ⟨cur, by rw [keep _ _ _ _ hc (by decide) (by decide)]; exact hc, hp⟩
  · obtain ⟨cur, hc, hp⟩ := h.kok g x hg
    exact keep _ _ _ _ hc (by decide) (by decide)
  · have hm : ∀ {u : Value} {t : Th}, ThIs w K O u t → ThIs (w3.setCell ⟨f, 7, none⟩ pv') K (grow O w w3) u t := fun ht => ht.mono (Kle.refl _) (fun _ o => .inl o) (fun q x ty _ hq ht => keep q _ _ _ hq (by rcases ht with rfl | rfl <;> decide) (by rcases ht with rfl | rfl <;> decide))
    by_cases hj : j < S.pend.length
    · rw [List.getElem?_append_left (by omega)] at e1
      have e2' : (S.pend ++ [t])[j]? = some t' := e2
      rw [List.getElem?_append_left hj] at e2'
      exact hm (h.ths j u t' e1 e2')
    · have e2' : (S.pend ++ [t])[j]? = some t' := e2
      have hj2 := (List.getElem?_eq_some_iff.1 e2').1
      simp only [List.length_append, List.length_singleton] at hj2
      have hj3 : j = S.pend.length := by omega
      subst hj3
      rw [List.getElem?_append_right (by omega), hps] at e1
      rw [List.getElem?_append_right (Nat.le_refl _)] at e2'
      simp at e1 e2'
      subst e1 e2'
      exact hm hv
  · rcases hloc with e' | ⟨q', e', h1, h2⟩
    · exact .inl (h.op q (e' ▸ e))
    · rw [e'] at e
      injection e with e
      subst e
      exact .inr ⟨h1, h2⟩
  · rw [size_set]
    rcases o with o | o
    · have := h.lt q o; omega
    · exact o.2
end Go.Proofs.Ytbnbakcoomjnaaa
