/- A script's states: the FS, the journal and the document's journal together. -/
import Derived.Test.YtebcmicmklpflaaGreatDoorUc
import Derived.Test.YtebcmicmklpflaaGreatDoorUe
namespace Go.Proofs.YtebcmicmklpflaaGreatDoor
open Go.RowKit Go.Maps
set_option linter.unusedSimpArgs false
set_option maxRecDepth 20000 in
theorem commit_none (w : World) (f j : Nat) (nm : ByteArray) (S : Fs) (J : Jn) (U : Nat → Prop) (k : Nat) (h : JS w f j nm S J U k) (hal : J.dead = false) (hD : J.D = []) :
    Calls Tryz.prog 24 #[.pointer (some ⟨j, 0, none⟩)] w fun e w' => e = .returned (.int .i64 0) ∧ w' = w := by
  obtain ⟨Of, O, OL, gv, lv, qs, hF, hJ, _⟩ := h
  obtain ⟨_, _, _, _, _, c8, _, c10, _⟩ := jn_cells hJ.gm.blk
  rw [hal] at c10
  have HR := hide (refusal_ok j w c10)
  obtain ⟨la, lc, el⟩ := hJ.laid.shape
  rw [hD] at el
  simp only [List.length_nil] at el
  subst el
  clear hF hJ c10
  go_enter Tryz.func24, Tryz.ntmps24
  go_wp2_with fail
  refine (unhide HR).mono ?_
  rintro e w' ⟨rfl, rfl⟩
  go_wp2_with fail
  go_ret
  exact ⟨rfl, rfl⟩
set_option maxRecDepth 20000 in
theorem ref_commit_none (w : World) (r : Nat) (L : List (List (List UInt8))) (V : Nat → Prop) (h : RJ w r L [] V) :
    Calls Tryz.prog 25 #[.pointer (some ⟨r, 0, none⟩)] w fun e w' => e = .returned (.int .i64 0) ∧ w' = w := by
  obtain ⟨VL, VD, Lv, Dv, hb, hL, hD, _⟩ := h
  obtain ⟨c0, c1, cz⟩ := RJ.cells hb
  obtain ⟨da, dc, eD⟩ := hD.shape
  simp only [List.length_nil] at eD
  subst eD
  clear hb hL hD
  go_enter Tryz.func25, Tryz.ntmps25
  go_wp2_with fail
  go_ret
  exact ⟨rfl, rfl⟩
def cnt : List (List (List UInt8)) → Nat
  | [] => 0
  | g :: l => g.length + cnt l
theorem cnt_append (a b : List (List (List UInt8))) : cnt (a ++ b) = cnt a + cnt b := by
  induction a with
  | nil => simp [cnt]
  | cons p l ih => simp only [List.cons_append, cnt, ih]; omega
theorem cnt_mem {G : List (List (List UInt8))} {g : List (List UInt8)} (h : g ∈ G) : g.length ≤ cnt G := by
  induction G with
  | nil => cases h
  | cons a l ih =>
    rcases List.mem_cons.1 h with rfl | h
    · simp only [cnt]; omega
    · have := ih h; simp only [cnt]; omega
theorem encs_len (G : List (List (List UInt8))) : ∀ p, (encs p G).length = 35 * G.length + 3 * cnt G + wts G := by
  induction G with
  | nil => intro p; simp [encs, cnt, wts]
  | cons g G ih => intro p; simp only [encs, List.length_append, enc_len, ih, List.length_cons, cnt, wts]; omega
/-- What the FS and the journal are behind i steps, of n bytes. -/
structure Fit (S : Fs) (J : Jn) (k i n : Nat) : Prop where
  pend : S.pend = []
  fuse : S.fuse = none
  room : S.room = 4194304
  only : ∀ s, s ≠ nmL → S.now.N s = none
  has : HasF S.now nmL J.parts (encs z32 J.G)
  us : S.now.u = ((encs z32 J.G).length : Int)
  alive : J.dead = false
  hk : k ≤ 6 * i
  hw : wt J.D + wts J.G ≤ n
  hc : J.D.length + cnt J.G ≤ i
  hg : J.G.length ≤ i
theorem only_log {T : Tb} (h : ∀ s, s ≠ nmL → T.N s = none) : NoPart T nmL ∧ T.N (part1 nmL) = none ∧ ∀ s i, T.N s = some i → s.size ≤ 300 := by
  have hone : ∀ s i, T.N s = some i → s = nmL := fun s i hi => Classical.byContradiction fun hs => by rw [h s hs] at hi; cases hi
  refine ⟨fun s hs => ?_, h _ (fun e => absurd (congrArg ByteArray.size e) (by decide)), fun s i hi => ?_⟩
  · cases hN : T.N s with
    | none => rw [hN] at hs; cases hs
    | some i => rw [hone s i hN]; decide
  · rw [hone s i hi]; decide
theorem Fit.add {S : Fs} {J : Jn} {k i n : Nat} (h : Fit S J k i n) (d : List UInt8) : Fit S (J.add d) k (i + 1) (n + d.length) :=
  ⟨h.pend, h.fuse, h.room, h.only, h.has, h.us, h.alive, by have := h.hk; omega, by have := h.hw; simp only [Jn.add, wt_append, wt]; omega, by have := h.hc; simp only [Jn.add, List.length_append, List.length_singleton]; omega, by have := h.hg; simp only [Jn.add]; omega⟩
theorem Fit.next {S : Fs} {J : Jn} {k i n : Nat} (h : Fit S J k i n) (m : Nat) : Fit S J k (i + 1) (n + m) :=
  ⟨h.pend, h.fuse, h.room, h.only, h.has, h.us, h.alive, by have := h.hk; omega, by have := h.hw; omega, by have := h.hc; omega, by have := h.hg; omega⟩
theorem Fit.drop {S : Fs} {J : Jn} {k i n : Nat} (h : Fit S J k i n) (m : Nat) : Fit S { J with D := [] } k (i + 1) (n + m) :=
  ⟨h.pend, h.fuse, h.room, h.only, h.has, h.us, h.alive, by have := h.hk; omega, by have := h.hw; simp only [wt]; omega, by have := h.hc; simp only [List.length_nil]; omega, by have := h.hg; show J.G.length ≤ _; omega⟩
theorem Fit.opened {S : Fs} {J : Jn} {k i n : Nat} (h : Fit S J k i n) (m : Nat) : Fit S ⟨J.G, [], J.parts, false⟩ k (i + 1) (n + m) :=
  ⟨h.pend, h.fuse, h.room, h.only, h.has, h.us, rfl, by have := h.hk; omega, by have := h.hw; simp only [wt]; omega, by have := h.hc; simp only [List.length_nil]; omega, by have := h.hg; show J.G.length ≤ _; omega⟩
theorem Fit.crash {S : Fs} {J : Jn} {k i n : Nat} (h : Fit S J k i n) : Fit (S.lasts none) J k i n :=
  ⟨rfl, rfl, h.room, h.only, h.has, h.us, h.alive, h.hk, h.hw, h.hc, h.hg⟩
theorem Fit.reset {S S' : Fs} {J : Jn} {k i n : Nat} (h : Fit S J k i n) (m : Nat) (e : Emp S S' nmL J.parts ((encs z32 J.G).length : Int)) : Fit S' { J with G := [] } (k + 3) (i + 1) (n + m) :=
  ⟨e.pend, e.fuse.1 h.fuse, e.room.trans h.room, fun s hs => ((e.oth s hs).1).trans (h.only s hs), e.has, by rw [e.us, h.us]; simp [encs], h.alive, by have := h.hk; omega, by have := h.hw; simp only [wts]; omega, by have := h.hc; simp only [cnt]; omega, by simp⟩
theorem Fit.commit {S S' : Fs} {J : Jn} {k i n : Nat} (h : Fit S J k i n) (m : Nat) (e : Was S S' nmL (encs z32 (J.G ++ [J.D])) ((enc (digs z32 J.G) J.D).length : Int)) : Fit S' J.commit (k + 6) (i + 1) (n + m) :=
  ⟨e.pend, e.fuse.1 h.fuse, e.room.trans h.room, fun s hs => ((e.oth s hs).1).trans (h.only s hs), .inr ⟨rfl, e.al⟩, by rw [e.us, h.us]; simp only [Jn.commit, encs_snoc, List.length_append]; omega, h.alive, by have := h.hk; omega, by have := h.hw; simp only [Jn.commit, wt, wts_append, wts]; omega, by have := h.hc; simp only [Jn.commit, List.length_nil, cnt_append, cnt]; omega, by have := h.hg; simp only [Jn.commit, List.length_append, List.length_singleton]; omega⟩
theorem Fit.elen {S : Fs} {J : Jn} {k i n : Nat} (h : Fit S J k i n) (hi : i ≤ 100) (hn : n ≤ 12000) : (encs z32 J.G).length ≤ 20000 := by
  rw [encs_len]
  have := h.hg; have := h.hc; have := h.hw
  omega
theorem Fit.can {S : Fs} {J : Jn} {k i n : Nat} (h : Fit S J k i n) (hi : i ≤ 100) (hn : n ≤ 12000) (hne : J.D ≠ []) : CanCommit S nmL J k := by
  have h1 := h.hg
  have h2 := h.hc
  have h3 := h.hw
  have h4 := h.hk
  have h5 := h.elen hi hn
  have h6 := enc_len (digs z32 J.G) J.D
  refine ⟨by omega, Bears.none h.fuse, by rw [h.pend]; decide, by decide, h.has, by rw [h6]; omega, by rw [h6, h.us, h.room]; omega, by omega, by omega, by omega, by omega, h.alive, hne⟩
/-- The FS with the journal, and the document's journal, in blocks of their own. -/
structure PI0 (w W : World) (f r j : Nat) (S : Fs) (J : Jn) (L : List (List (List UInt8))) (D : List (List UInt8)) (U V : Nat → Prop) (k : Nat) : Prop where
  js : JS W f j nmL S J U k
  rj : RJ W r L D V
  dis : ∀ q, U q → ¬ V q
  bel : Below w.heap.size w W
  un : ∀ q, U q → w.heap.size ≤ q
  vn : ∀ q, V q → w.heap.size ≤ q
theorem JS.ult {w : World} {f j : Nat} {nm : ByteArray} {S : Fs} {J : Jn} {U : Nat → Prop} {k : Nat} (h : JS w f j nm S J U k) : ∀ q, U q → q < w.heap.size := by
  obtain ⟨Of, O, OL, gv, lv, qs, hF, hJ, hdis, u1, u2, u3, u4, u5⟩ := h
  exact u5
theorem RJ.vlt {w : World} {r : Nat} {L : List (List (List UInt8))} {D : List (List UInt8)} {V : Nat → Prop} (h : RJ w r L D V) : ∀ q, V q → q < w.heap.size := by
  obtain ⟨VL, VD, Lv, Dv, h1, h2, h3, h4, h5, h6, h7, h8, h9⟩ := h
  exact h9
theorem JS.keep {w w' : World} {f j : Nat} {nm : ByteArray} {S : Fs} {J : Jn} {U : Nat → Prop} {k : Nat} (h : JS w f j nm S J U k) (hz : w.heap.size ≤ w'.heap.size) (hw : ∀ q, U q → w'.heap[q]? = w.heap[q]?) : JS w' f j nm S J U k := by
  obtain ⟨Of, O, OL, gv, lv, qs, hF, hJ, hdis, u1, u2, u3, u4, u5⟩ := h
  exact ⟨Of, O, OL, gv, lv, qs, hF.kept hz (fun q o => hw q (u1 q o)), ⟨hJ.gm.re hz ((hw j u4).trans hJ.gm.blk) rfl (fun q o => hw q (u2 q o)), hJ.laid.kept (fun _ o => o) (fun q o => hw q (u3 q o)), hJ.dis, hJ.nl, fun q o => Nat.lt_of_lt_of_le (hJ.ltl q o) hz⟩, hdis, u1, u2, u3, u4, fun q o => Nat.lt_of_lt_of_le (u5 q o) hz⟩
theorem PI0.below {w W W' : World} {f r j : Nat} {S : Fs} {J : Jn} {L : List (List (List UInt8))} {D : List (List UInt8)} {U V : Nat → Prop} {k : Nat} (h : PI0 w W f r j S J L D U V k) (hb : Below W.heap.size W W') : PI0 w W' f r j S J L D U V k :=
  ⟨h.js.below hb, h.rj.kept hb.size (fun q o => hb.block q (h.rj.vlt q o)), h.dis, h.bel.trans (hb.mono h.bel.size), h.un, h.vn⟩
/-- What the journal does leaves the document's journal alone. -/
theorem PI0.stepJ {w W W' : World} {f r j j' : Nat} {S S' : Fs} {J J' : Jn} {L : List (List (List UInt8))} {D : List (List UInt8)} {U U' V : Nat → Prop} {k k' : Nat} (h : PI0 w W f r j S J L D U V k) (h' : JS W' f j' nmL S' J' U' k') (hE : FFr U U' W W') : PI0 w W' f r j' S' J' L D U' V k' := by
  refine ⟨h', h.rj.kept hE.size (fun q o => hE.rest q (h.rj.vlt q o) (fun o2 => h.dis q o2 o)), fun q o o2 => ?_, (Away.step ⟨h.bel, h.un⟩ hE).bel, (Away.step ⟨h.bel, h.un⟩ hE).new, h.vn⟩
  rcases hE.new q o with o3 | o3
  · exact h.dis q o3 o2
  · have := h.rj.vlt q o2; omega
/-- What the document's journal does leaves the journal alone. -/
theorem PI0.stepR {w W W' : World} {f r j : Nat} {S : Fs} {J : Jn} {L L' : List (List (List UInt8))} {D D' : List (List UInt8)} {U V V' : Nat → Prop} {k : Nat} (h : PI0 w W f r j S J L D U V k) (h' : RJ W' r L' D' V') (hE : FFr V V' W W') : PI0 w W' f r j S J L' D' U V' k := by
  refine ⟨h.js.keep hE.size (fun q o => hE.rest q (h.js.ult q o) (fun o2 => h.dis q o o2)), h', fun q o o2 => ?_, (Away.step ⟨h.bel, h.vn⟩ hE).bel, h.un, (Away.step ⟨h.bel, h.vn⟩ hE).new⟩
  rcases hE.new q o2 with o3 | o3
  · exact h.dis q o o3
  · have := h.js.ult q o; omega
theorem PI0.keep {w W W' : World} {f r j : Nat} {S : Fs} {J : Jn} {L : List (List (List UInt8))} {D : List (List UInt8)} {U V : Nat → Prop} {k : Nat} (h : PI0 w W f r j S J L D U V k) (hb : Below w.heap.size w W') (hz : W.heap.size ≤ W'.heap.size) (hw : ∀ q, U q ∨ V q → W'.heap[q]? = W.heap[q]?) : PI0 w W' f r j S J L D U V k :=
  ⟨h.js.keep hz (fun q o => hw q (.inl o)), h.rj.kept hz (fun q o => hw q (.inr o)), h.dis, hb, h.un, h.vn⟩
/-- The document's journal is given another row. -/
theorem rj_down {w : World} {r : Nat} {L : List (List (List UInt8))} {D : List (List UInt8)} {V : Nat → Prop} (h : RJ w r L D V) : (∃ x, w.cell? ⟨r, 1, none⟩ = some x) ∧ w.frozen? ⟨r, 1, none⟩ = false ∧ RJ (w.setCell ⟨r, 1, none⟩ (.slice none 0 0)) r L [] V ∧ FFr V V w (w.setCell ⟨r, 1, none⟩ (.slice none 0 0)) := by
  obtain ⟨VL, VD, Lv, Dv, h1, h2, h3, h4, h5, h6, h7, h8, h9⟩ := h
  obtain ⟨_, c1, cz⟩ := RJ.cells h1
  refine ⟨⟨_, c1⟩, cz 1, ⟨VL, fun _ => False, Lv, .slice none 0 0, rj_set1 h1 _, h2.kept (fun _ o => o) (fun q o => set_other _ _ _ _ _ (h4 q o).2), Recs.nil _ _, fun q o => ⟨id, (h4 q o).2⟩, id, h6, fun _ o => o.elim, h8, fun q o => by rw [size_set]; exact h9 q o⟩, FFr.cell h8 _ _⟩
theorem rj_last {w : World} {r : Nat} {L : List (List (List UInt8))} {D : List (List UInt8)} {V : Nat → Prop} (h : RJ w r L D V) : (∃ x, w.cell? ⟨r, 0, none⟩ = some x) ∧ w.frozen? ⟨r, 0, none⟩ = false ∧ RJ (w.setCell ⟨r, 0, none⟩ (.slice none 0 0)) r [] D V ∧ FFr V V w (w.setCell ⟨r, 0, none⟩ (.slice none 0 0)) := by
  obtain ⟨VL, VD, Lv, Dv, h1, h2, h3, h4, h5, h6, h7, h8, h9⟩ := h
  obtain ⟨c0, _, cz⟩ := RJ.cells h1
  refine ⟨⟨_, c0⟩, cz 0, ⟨fun _ => False, VD, .slice none 0 0, Dv, rj_set0 h1 _, GL.nil _ _, h3.kept (fun _ o => o) (fun q o => set_other _ _ _ _ _ (fun e => h5 (e ▸ o))), fun _ o => o.elim, h5, fun _ o => o.elim, h7, h8, fun q o => by rw [size_set]; exact h9 q o⟩, FFr.cell h8 _ _⟩
end Go.Proofs.YtebcmicmklpflaaGreatDoor
