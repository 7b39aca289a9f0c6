/- Append, where it is done. -/
import Derived.Test.YtbnbakcoomjnaaaGu
import Derived.Test.YtbnbakcoomjnaaaGz
namespace Go.Proofs.Ytbnbakcoomjnaaa
open Go.RowKit Go.Maps
set_option linter.unusedSimpArgs false
/-- A data block is another one, all else stands. -/
theorem FsM.redata {w w' : World} {f : Nat} {lk : Int} {S : Fs} {X : List Th} {O : Nat → Prop} {K K' : Nat → Option (List UInt8)} {n l : Lie} {pv : Value} {ps : List Value} (h : FsM w f lk S X O K n l pv ps) {g : Nat} {cur : Array Value} (hs : w'.heap.size = w.heap.size) (hw : ∀ q, q ≠ g → w'.heap[q]? = w.heap[q]?) (hgw : w.heap[g]? = some (.cells cur 5 (0, 0)))
    (hK : Kle K K') (hk : KOK w' K') (hO : ∀ g x, K' g = some x → O g) (e' : Nat → Prop) (hr : ∀ i, n.F i → ¬ e' i → Rm w' K' (n.h i)) (hx : ∀ i, n.e i → e' i) : FsM w' f lk S X O K' { n with e := e' } l pv ps := by
  have keep : ∀ (q : Nat) (x : Array Value) (ty : TypeId) (z : Nat × Nat), w.heap[q]? = some (Obj.cells x ty z) → ty ≠ 5 → w'.heap[q]? = w.heap[q]? := fun q x ty z hq h1 => hw q (tag_ne hq hgw h1)
  have keepm : ∀ {T : Tb} {a : Lie}, TabL w K O T a → ∀ q, a.m = some q → w'.heap[q]? = w.heap[q]? := fun hT q e => hw q (by
    have := hT.tab.tab
    rw [e] at this
    exact map_ne this hgw)
  have hTL : ∀ {T : Tb} {a : Lie}, TabL w K O T a → TabL w' K' O T a := fun hT => ⟨(hT.tab.kept (keepm hT) (fun i hi => keep _ _ _ _ (hT.tab.file i hi) (by decide))).learnt hK, hT.ok, hT.nk, hT.om, hT.ob, hT.st⟩
  have hrow : w'.ownsRow 0 70 1 pv S.pend.length ps := by
    refine ⟨h.row.1, h.row.2.imp id ?_⟩
    rintro ⟨g', cap, cur', e, h1, h2, h3⟩
    exact ⟨g', cap, cur', e, h1, by rw [keep _ _ _ _ h2 (by decide)]; exact h2, h3⟩
  have hn := hTL h.now
  exact ⟨(keep _ _ _ _ h.blk (by decide)).trans h.blk, ⟨hn.tab, hn.ok, hn.nk, hn.om, hn.ob, hn.st⟩, hTL h.las, h.dis, h.mdis, hk, hr, fun i j hi hj h1 h2 => h.ap i j hi hj (fun e => h1 (hx i e)) (fun e => h2 (hx j e)), hrow, fun j v t e1 e2 => (h.ths j v t e1 e2).mono hK (fun _ o => o) (fun q x ty _ hq ht => keep q _ _ _ hq (by rcases ht with rfl | rfl <;> decide)), h.run, h.kb, h.nb, h.pl, h.room, h.fz, h.of, hO, h.op, fun q o => by rw [hs]; exact h.lt q o⟩
theorem prefix_eq {a b : List UInt8} (h : a <+: b) (hl : a.length = b.length) : a = b := h.eq_of_length hl
theorem byteVals_append (a b : List UInt8) : byteVals (a ++ b) = byteVals a ++ byteVals b := by simp [byteVals]
theorem byteVals_len (a : List UInt8) : (byteVals a).length = a.length := by simp [byteVals]
/-- The room behind a file's bytes is filled. -/
theorem FsM.inplace {w : World} {f : Nat} {lk : Int} {S : Fs} {X : List Th} {O : Nat → Prop} {K : Nat → Option (List UInt8)} {n l : Lie} {pv : Value} {ps : List Value} (h : FsM w f lk S X O K n l pv ps) (he : ∀ i, ¬ n.e i) {i g D0 c0 : Nat} (hi : n.F i) (hh : n.h i = .slice (some ⟨g, 0, none⟩) D0 c0) (d : List UInt8) (hd : 0 < d.length) (hfit : D0 + d.length ≤ c0) :
    ∃ cur, w.heap[g]? = some (.cells cur 5 (0, 0)) ∧ cur.size = c0 ∧ (S.now.D i).length = D0 ∧
      FsM (w.setRow g (cur.toList.take D0 ++ byteVals d ++ cur.toList.drop (D0 + d.length)).toArray) f lk S X O (learn K g (S.now.D i ++ d)) { n with e := fun j => j = i } l pv ps ∧
      DataIs (learn K g (S.now.D i ++ d)) (.slice (some ⟨g, 0, none⟩) (D0 + d.length) c0) (S.now.D i ++ d) ∧
      Rm (w.setRow g (cur.toList.take D0 ++ byteVals d ++ cur.toList.drop (D0 + d.length)).toArray) (learn K g (S.now.D i ++ d)) (.slice (some ⟨g, 0, none⟩) (D0 + d.length) c0) ∧
      ∀ j, n.F j → j ≠ i → Apart (.slice (some ⟨g, 0, none⟩) (D0 + d.length) c0) (n.h j) ∧ Apart (n.h j) (.slice (some ⟨g, 0, none⟩) (D0 + d.length) c0) := by
  obtain ⟨l0, cur, hK, hl, hg, hsz⟩ := h.rm i hi (he i) g D0 c0 hh (by omega)
  have hdat := h.now.tab.data i hi
  have hlen : (S.now.D i).length = D0 := by
    obtain ⟨a, c, e, _⟩ := hdat
    rw [hh] at e
    injection e with _ e
    exact e.symm
  have hcm : c0 ≤ maxLen := by
    obtain ⟨a, c, e, _, hm, _⟩ := hdat
    rw [hh] at e
    injection e with _ _ e
    rw [e]; exact hm
  have hpre : S.now.D i <+: l0 := by
    obtain ⟨a, c, e, _, _, h3⟩ := hdat
    rw [hh] at e
    injection e with e
    rcases h3 with ⟨ea, _⟩ | ⟨g', l', ea, hk, hp⟩
    · rw [ea] at e; cases e
    · rw [ea] at e
      injection e with e
      injection e with e
      subst e
      rw [hK] at hk
      injection hk with hk
      subst hk
      exact hp
  have hEq : S.now.D i = l0 := prefix_eq hpre (by omega)
  obtain ⟨cur2, hg2, hp2⟩ := h.kok g l0 hK
  have hcur : cur2 = cur := by
    rw [hg] at hg2
    injection hg2 with hg2
    injection hg2 with hg2
    exact hg2.symm
  subst hcur
  have htake : cur2.toList.take D0 = byteVals (S.now.D i) := by
    have := List.prefix_iff_eq_take.1 hp2
    rw [byteVals_len, hl] at this
    rw [hEq]; exact this.symm
  have hnew := setRow_heap w g cur2 (cur2.toList.take D0 ++ byteVals d ++ cur2.toList.drop (D0 + d.length)).toArray 5 (0, 0) hg
  have hother : ∀ q, q ≠ g → (w.setRow g (cur2.toList.take D0 ++ byteVals d ++ cur2.toList.drop (D0 + d.length)).toArray).heap[q]? = w.heap[q]? := fun q hq => setRow_other w g q _ hq
  have hle : Kle K (learn K g (S.now.D i ++ d)) := Kle.learn fun x e => by
    rw [hK] at e
    injection e with e
    subst e
    rw [hEq]
    exact List.prefix_append _ _
  have hap : ∀ j, n.F j → j ≠ i → ∀ m c, n.h j = .slice (some ⟨g, 0, none⟩) m c → m < c → False := fun j hj hne m c e hlt => h.ap i j hi hj (he i) (he j) (Ne.symm hne) g D0 c0 m c hh e (by omega) hlt
  have hns : (cur2.toList.take D0 ++ byteVals d ++ cur2.toList.drop (D0 + d.length)).toArray.size = c0 := by
    simp [byteVals_len]
    omega
  refine ⟨cur2, hg, hsz, hlen, h.redata (g := g) (by simp [World.setRow]) hother hg hle ?_ ?_ _ ?_ (fun j e => absurd e (he j)), ⟨some ⟨g, 0, none⟩, c0, ?_, ?_, hcm, .inr ⟨g, _, rfl, learn_same, List.prefix_refl _⟩⟩, ?_, fun j hj hne => ⟨?_, ?_⟩⟩
  · intro q x e
    by_cases eq : q = g
    · subst eq
      rw [learn_same] at e
      injection e with e
      subst e
      refine ⟨_, hnew, ?_⟩
      rw [byteVals_append, htake]
      simp
    · rw [learn_ne eq] at e
      rw [hother q eq]
      exact h.kok q x e
  · intro q x e
    by_cases eq : q = g
    · subst eq; exact h.oK q l0 hK
    · rw [learn_ne eq] at e; exact h.oK q x e
  · intro j hj hne q m c e hlt
    have hq : q ≠ g := fun eq => by subst eq; exact hap j hj hne m c e hlt
    obtain ⟨l', cur', k1, k2, k3, k4⟩ := h.rm j hj (he j) q m c e hlt
    exact ⟨l', cur', by rw [learn_ne hq]; exact k1, k2, by rw [hother q hq]; exact k3, k4⟩
  · rw [List.length_append, hlen]
  · rw [List.length_append, hlen]; exact hfit
  · intro q m c e _
    injection e with e1 e2 e3
    injection e1 with e1
    injection e1 with e1
    subst e1 e2 e3
    exact ⟨_, _, learn_same, by rw [List.length_append, hlen], hnew, hns⟩
  · intro q m c m' c' e e' _ hlt
    injection e with e1
    injection e1 with e1
    injection e1 with e1
    subst e1
    exact hap j hj hne m' c' e' hlt
  · intro q m c m' c' e e' hlt _
    injection e' with e1
    injection e1 with e1
    injection e1 with e1
    subst e1
    exact hap j hj hne m c e hlt
/-- What Append does behind its plan, whatever the plan was. -/
theorem ready_fill {w1 B w2 : World} {f : Nat} {S : Fs} {O : Nat → Prop} {n l : Lie} {pv : Value} {ps : List Value} {k : Nat} (hk : n.k ≤ k) (hk2 : k ≤ 16000) {s : ByteArray} {d : List UInt8} {v : Value} {i : Nat} {L : List (Nat × Obj)} {pn pd : Nat} (he : ∀ j, j ≠ i → ¬ n.e j) (hs : s.size ≤ 300) (hd : d.length ≤ 1048576) (hN : S.now.N s = some i)
    (hF : FFr O O w1 B) (hI : Inv (fun _ => False) B w2 ((pd, .cells #[v] 22 (0, 0)) :: (pn, .cells #[.string s] 9 (0, 0)) :: L))
    (hX : ∃ K', FsM w2 f 1 S S.pend (grow O B w2) K' n l pv ps ∧ DataIs K' v d ∧ Rm w2 K' v ∧ ∀ j, n.F j → j ≠ i → Apart v (n.h j) ∧ Apart (n.h j) v) :
    Ready f S O (S.now.put i d) (.fill s d) k w1 w2 58 (.pointer (some ⟨pn, 0, none⟩)) (.pointer (some ⟨pd, 0, none⟩)) := by
  obtain ⟨K', hM, hD, hR, hA⟩ := hX
  have m1 : (pn, Obj.cells #[.string s] 9 (0, 0)) ∈ ((pd, Obj.cells #[v] 22 (0, 0)) :: (pn, Obj.cells #[.string s] 9 (0, 0)) :: L) := List.mem_cons_of_mem _ (List.mem_cons_self ..)
  have m2 : (pd, Obj.cells #[v] 22 (0, 0)) ∈ ((pd, Obj.cells #[v] 22 (0, 0)) :: (pn, Obj.cells #[.string s] 9 (0, 0)) :: L) := List.mem_cons_self ..
  have b1 := hI.held _ m1
  have b2 := hI.held _ m2
  have l1 := hI.lt m1
  have l2 := hI.lt m2
  have g1 := hI.new _ m1
  have g2 := hI.new _ m2
  simp only at b1 b2 l1 l2 g1 g2
  have hT : ThIs w2 K' (grow O B w2) (.func (.func 58) #[] #[.pointer (some ⟨pn, 0, none⟩), .pointer (some ⟨pd, 0, none⟩)]) (.fill s d) := ⟨pn, pd, v, rfl, .inr ⟨g1, l1⟩, .inr ⟨g2, l2⟩, b1, b2, hD, hs, hd⟩
  refine ⟨enters58, grow O B w2, K', n, l, pv, ps, hM, hk, hF.trans (FFr.of_inv hI), hT, ?_⟩
  obtain ⟨_, _, h3, h4, _, _, _, _, _, hz⟩ := hM.cells
  have hnk := hM.now.nk
  refine (do_fill_any f 3 pn pd K' n.m n.n n.k S.now n.F n.b n.h s d v i w2 h3 h4 hz hM.now.tab hM.now.ok (by omega) (by simp only [maxLen]; omega) (hM.bne hM.now) hN hD hd (hI.bx m1).1 (hI.bx m2).1).mono ?_
  rintro e w3 ⟨rfl, hTb, hDn⟩
  exact ⟨rfl, _, by show n.k + 3 ≤ k + 3; omega, fun _ => id, hM.filled hN hd hTb hDn hR hA he, FFr.of_tfr hM hDn.fr, hT.tagged hM hDn.fr (fun _ o => .inl o)⟩
/-- Nothing is laid behind a slice. -/
theorem run_append_none (a0 a : Option Addr) (D0 c0 c : Nat) (h : D0 ≤ c0) (ty : TypeId) (W : World) : (Builtin.append_ #[22, 22] ty #[.slice a0 D0 c0, .slice a 0 c]).run Try.prog W = .ok (.slice a0 (D0 + 0) c0) W := by
  obtain ⟨i, hi', hz, hsz, hby⟩ := info5
  have hn : D0 + 0 ≤ c0 := h
  cases a0 <;> cases a <;> simp [Builtin.append_, run_underlying Try.underlying22, sizeOf, typeInfo, hi', Builtin.lenOf, Builtin.firstCells, loadCells, loadCellsFrom, storeCells, h]
end Go.Proofs.Ytbnbakcoomjnaaa
