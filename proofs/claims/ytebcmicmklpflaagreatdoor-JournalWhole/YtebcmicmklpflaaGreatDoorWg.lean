/- Wherever the fuse burns: the states of the law JournalWhole. -/
import Derived.Test.YtebcmicmklpflaaGreatDoorWf
import Derived.Test.YtebcmicmklpflaaGreatDoorWc
import Derived.Test.YtebcmicmklpflaaGreatDoorWe
import Derived.Test.YtebcmicmklpflaaGreatDoorVd
import Derived.Test.YtebcmicmklpflaaGreatDoorUh
namespace Go.Proofs.YtebcmicmklpflaaGreatDoor
open Go.RowKit Go.Maps
set_option linter.unusedSimpArgs false
/-- What the FS, whose fuse burns, and the journal are behind i steps, of n bytes. -/
structure FitW (S : Fs) (J : Jn) (k i n : Nat) : Prop where
  pend : S.pend = []
  las : S.las = S.now
  fuse : ∃ N, S.fuse = some N
  room : S.room = 4194304
  only : ∀ s, s ≠ nmL → S.now.N s = none
  has : HasF S.now nmL J.parts (encs z32 J.G)
  us : S.now.u = ((encs z32 J.G).length : Int)
  alive : J.dead = false
  hk : k ≤ 6 * i
  hw : wt J.D + wts J.G ≤ n
  hc : J.D.length + cnt J.G ≤ i
  hg : J.G.length ≤ i
theorem FitW.add {S : Fs} {J : Jn} {k i n : Nat} (h : FitW S J k i n) (d : List UInt8) : FitW S (J.add d) k (i + 1) (n + d.length) :=
  ⟨h.pend, h.las, h.fuse, h.room, h.only, h.has, h.us, h.alive, by have := h.hk; omega, by have := h.hw; simp only [Jn.add, wt_append, wt]; omega, by have := h.hc; simp only [Jn.add, List.length_append, List.length_singleton]; omega, by have := h.hg; simp only [Jn.add]; omega⟩
theorem FitW.next {S : Fs} {J : Jn} {k i n : Nat} (h : FitW S J k i n) (m : Nat) : FitW S J k (i + 1) (n + m) :=
  ⟨h.pend, h.las, h.fuse, h.room, h.only, h.has, h.us, h.alive, by have := h.hk; omega, by have := h.hw; omega, by have := h.hc; omega, by have := h.hg; omega⟩
theorem FitW.reset {S S' : Fs} {J : Jn} {k i n : Nat} (h : FitW S J k i n) (m : Nat) (e : Emp S S' nmL J.parts ((encs z32 J.G).length : Int)) : FitW S' { J with G := [] } (k + 3) (i + 1) (n + m) :=
  ⟨e.pend, e.las, by obtain ⟨N, hN⟩ := h.fuse; exact e.fuse.2 N hN, e.room.trans h.room, fun s hs => ((e.oth s hs).1).trans (h.only s hs), e.has, by rw [e.us, h.us]; simp [encs], h.alive, by have := h.hk; omega, by have := h.hw; simp only [wts]; omega, by have := h.hc; simp only [cnt]; omega, by simp⟩
theorem FitW.commit {S S' : Fs} {J : Jn} {k i n : Nat} (h : FitW S J k i n) (m : Nat) (e : Was S S' nmL (encs z32 (J.G ++ [J.D])) ((enc (digs z32 J.G) J.D).length : Int)) : FitW S' J.commit (k + 6) (i + 1) (n + m) :=
  ⟨e.pend, e.las, by obtain ⟨N, hN⟩ := h.fuse; exact e.fuse.2 N hN, e.room.trans h.room, fun s hs => ((e.oth s hs).1).trans (h.only s hs), .inr ⟨rfl, e.al⟩, by rw [e.us, h.us]; simp only [Jn.commit, encs_snoc, List.length_append]; omega, h.alive, by have := h.hk; omega, by have := h.hw; simp only [Jn.commit, wt, wts_append, wts]; omega, by have := h.hc; simp only [Jn.commit, List.length_nil, cnt_append, cnt]; omega, by have := h.hg; simp only [Jn.commit, List.length_append, List.length_singleton]; omega⟩
theorem FitW.elen {S : Fs} {J : Jn} {k i n : Nat} (h : FitW S J k i n) (hi : i ≤ 100) (hn : n ≤ 12000) : (encs z32 J.G).length ≤ 20000 := by
  rw [encs_len]
  have := h.hg; have := h.hc; have := h.hw
  omega
theorem FitW.can {S : Fs} {J : Jn} {k i n : Nat} (h : FitW S J k i n) (hi : i ≤ 100) (hn : n ≤ 12000) (hne : J.D ≠ []) (hb : Bears S.fuse (3 - J.parts)) : CanCommit S nmL J k := by
  have h1 := h.hg
  have h2 := h.hc
  have h3 := h.hw
  have h4 := h.hk
  have h5 := h.elen hi hn
  have h6 := enc_len (digs z32 J.G) J.D
  refine ⟨by omega, hb, by rw [h.pend]; decide, by decide, h.has, by rw [h6]; omega, by rw [h6, h.us, h.room]; omega, by omega, by omega, by omega, by omega, h.alive, hne⟩
theorem HasF.parts {T : Tb} {nm : ByteArray} {p : Nat} {d : List UInt8} (h : HasF T nm p d) : p = 0 ∨ p = 1 := h.imp (fun h => h.1) (fun h => h.1)
def PIW (w W : World) (f r j i n : Nat) : Prop := ∃ S J U V k, PI0 w W f r j S J J.G J.D U V k ∧ FitW S J k i n
/-- Groups that are few. -/
def Few (G : List (List (List UInt8))) : Prop := G.length ≤ 1000 ∧ cnt G ≤ 100000 ∧ wts G ≤ 1000000
/-- What may be there behind a crash: the document's groups, or those of mv. -/
def BRW (w W : World) (f r : Nat) (mv : Value) (bk : Prop) : Prop :=
  ∃ S O V VM k L D G2, FsIs W f 0 S O k ∧ k ≤ 16000 ∧ Brk S nmL (encs z32 L) (encs z32 G2) ∧ RJ W r L D V ∧ GL W VM mv G2 ∧ (∀ q, O q → ¬ V q ∧ ¬ VM q) ∧ (∀ q, VM q → q < W.heap.size) ∧ Below w.heap.size w W ∧ (∀ q, O q → w.heap.size ≤ q) ∧ Few L ∧ Few G2 ∧ (G2.length = L.length → G2 = L) ∧ (G2 = L ∨ bk)
theorem PIW.box {w W : World} {f r j i n : Nat} (h : PIW w W f r j i n) (o : Obj) : PIW w (W.alloc o) f r j i n := by
  obtain ⟨S, J, U, V, k, hP, hF⟩ := h
  exact ⟨S, J, U, V, k, hP.below ((Below.refl _ _).alloc (Nat.le_refl _) _), hF⟩
theorem PIW.br {w W : World} {f r j i n : Nat} (h : PIW w W f r j i n) (hi : i ≤ 100) (hn : n ≤ 12000) : ∃ mv, BRW w W f r mv False := by
  obtain ⟨S, J, U, V, k, hP, hF⟩ := h
  obtain ⟨Of, hFs, hOU, _, _⟩ := hP.js.fs
  obtain ⟨VL, VD, Lv, Dv, h1, h2, h3, h4, h5, h6, h7, h8, h9⟩ := id hP.rj
  have f1 := hF.hk
  have f2 := hF.hw
  have f3 := hF.hc
  have f4 := hF.hg
  have hfew : Few J.G := ⟨by omega, by omega, by omega⟩
  exact ⟨Lv, S, Of, V, VL, k, J.G, J.D, J.G, hFs, by omega, brk_same hF.pend (by rw [hF.las]; exact hF.only) (by rw [hF.las]; exact hF.has), hP.rj, h2, fun q o => ⟨hP.dis q (hOU q o), fun o2 => hP.dis q (hOU q o) (h6 q o2)⟩, fun q o => h9 q (h6 q o), hP.bel, fun q o => hP.un q (hOU q o), hfew, hfew, fun _ => rfl, .inl rfl⟩
theorem addW_chain (w W : World) (f r j i n : Nat) (K N : Int) (a : Option Addr) (c : Nat) (B : List UInt8) (h : PIW w W f r j i n) (hrow : Row w.heap.size w (.slice a B.length c) B) (hi : i < 100) (hn : n + B.length ≤ 12000) :
    Calls Tryz.prog 22 #[.pointer (some ⟨j, 0, none⟩), .slice a B.length c] (W.alloc (sBox K N (.slice a B.length c))) fun e W1 => e = .returned (.int .i64 0) ∧ W1.cell? ⟨W.heap.size, 2, none⟩ = some (.slice a B.length c) ∧ Hid (Calls Tryz.prog 23 #[.pointer (some ⟨r, 0, none⟩), .slice a B.length c] W1 fun e W2 => e = .returned (.int .i64 0) ∧ Hid (PIW w W2 f r j (i + 1) (n + B.length))) := by
  obtain ⟨S, J, U, V, k, hP, hF⟩ := h
  have f1 := hF.hw
  have f2 := hF.hc
  obtain ⟨W0, hW0⟩ : ∃ W0, W0 = W.alloc (sBox K N (.slice a B.length c)) := ⟨_, rfl⟩
  have hb0 : Below W.heap.size W W0 := by rw [hW0]; exact (Below.refl _ _).alloc (Nat.le_refl _) _
  have hz0 : W0.heap.size = W.heap.size + 1 := by rw [hW0]; simp
  have hx0 : W0.heap[W.heap.size]? = some (sBox K N (.slice a B.length c)) := by rw [hW0]; exact heap_alloc_new _ _
  rw [← hW0]
  have hP0 := hP.below hb0
  refine (add_rec W0 f j nmL S J U k a c B hP0.js hF.alive (row_below hrow hP0.bel) (by omega) (by omega)).mono fun e W1 ⟨e1, U1, hJ1, hE1⟩ => ⟨e1, ?_⟩
  have hx1 : W1.heap[W.heap.size]? = some (sBox K N (.slice a B.length c)) := (hE1.rest _ (by omega) (fun o => by have := hP.js.ult _ o; omega)).trans hx0
  refine ⟨(sBox_cells hx1).2.2, ?_⟩
  have hP1 := hP0.stepJ hJ1 hE1
  refine (ref_add_ok W1 r J.G J.D V a c B hP1.rj (row_below hrow hP1.bel) (by omega) (by omega)).mono fun e W2 ⟨e2, V2, hR2, hE2⟩ => ⟨e2, ?_⟩
  exact ⟨S, J.add B, U1, V2, k, hP1.stepR hR2 hE2, hF.add B⟩
/-- What stands behind a Commit that erred: the rows that may be there are made. -/
def MayP (w : World) (f r : Nat) (Dv : Value) (W1 : World) : Prop :=
  ∃ la L lc, W1.cell? ⟨r, 0, none⟩ = some (.slice la L lc) ∧ ∀ W0 : World, W0.heap = W1.heap → W0.os = W1.os → W0.tape = W1.tape → W0.output = W1.output → ∃ va ca Wa vb cb W3, (∀ ty, (appGL ty #[.slice (some ⟨W1.heap.size, 0, none⟩) 0 0, .slice la L lc]).run Tryz.prog (W0.alloc (.cells #[] 34)) = .ok (.slice va L ca) Wa) ∧ (W0.alloc (.cells #[] 34)).cell? ⟨r, 0, none⟩ = some (.slice la L lc) ∧ Wa.cell? ⟨r, 0, none⟩ = some (.slice la L lc) ∧ (∀ ty, (appGL ty #[.slice va L ca, .slice (some ⟨Wa.heap.size, 0, none⟩) 1 1]).run Tryz.prog (Wa.alloc (.cells #[Dv] 34)) = .ok (.slice vb (L + 1) cb) W3) ∧ Hid (BRW w W3 f r (.slice vb (L + 1) cb) True)
theorem commitW_chain (w W : World) (f r j i n m : Nat) (h : PIW w W f r j i n) (hi : i < 100) (hn : n ≤ 12000) :
    ∃ da N dc, W.cell? ⟨r, 1, none⟩ = some (.slice da N dc) ∧ Calls Tryz.prog 24 #[.pointer (some ⟨j, 0, none⟩)] W fun e W1 => (e = .returned (.int .i64 0) ∧ Hid (Calls Tryz.prog 25 #[.pointer (some ⟨r, 0, none⟩)] W1 fun e W2 => e = .returned (.int .i64 0) ∧ Hid (PIW w W2 f r j (i + 1) (n + m)))) ∨ (e = .returned (.int .i64 26) ∧ MayP w f r (.slice da N dc) W1) := by
  obtain ⟨S, J, U, V, k, hP, hF⟩ := h
  have f1 := hF.hw
  have f2 := hF.hc
  have f3 := hF.hg
  have f4 := hF.hk
  obtain ⟨VL, VD, Lv, Dv, h1, h2, h3, h4, h5, h6, h7, h8, h9⟩ := id hP.rj
  obtain ⟨da, dc, eD⟩ := h3.shape
  subst eD
  refine ⟨da, J.D.length, dc, (RJ.cells h1).2.1, ?_⟩
  by_cases hD : J.D = []
  · refine (commit_none W f j nmL S J U k hP.js hF.alive hD).mono fun e W1 ⟨e1, hW1⟩ => .inl ⟨e1, ?_⟩
    subst hW1
    have hR := hP.rj
    rw [hD] at hR
    refine (ref_commit_none W1 r J.G V hR).mono fun e W2 ⟨e2, hW2⟩ => ⟨e2, ?_⟩
    subst hW2
    exact ⟨S, J, U, V, k, hP, hF.next m⟩
  · obtain ⟨N, hN⟩ := hF.fuse
    have hparts := hF.has.parts
    by_cases hb : 3 - J.parts ≤ N
    · refine (commit_ok W f j nmL S J U k hP.js (hF.can (by omega) hn hD (fun m e => by rw [hN] at e; injection e with e; omega))).mono fun e W1 ⟨e1, S1, U1, hJ1, hW1, hE1⟩ => .inl ⟨e1, ?_⟩
      have hP1 := hP.stepJ hJ1 hE1
      refine (ref_commit_ok W1 r J.G J.D V hP1.rj hD (by omega) (by omega) (fun g hg => by have := cnt_mem hg; omega)).mono fun e W2 ⟨e2, V2, hR2, hE2⟩ => ⟨e2, ?_⟩
      exact ⟨S1, J.commit, U1, V2, k + 6, hP1.stepR hR2 hE2, hF.commit m hW1⟩
    · have g1 := hF.elen (by omega) hn
      have g2 := enc_len (digs z32 J.G) J.D
      refine (commit_breaks W f j nmL S J U k hP.js (fun Of gv lv v W' OB q1 q2 q3 q4 q5 => ?_) hF.alive hD (by omega) (by omega) (by omega) (by omega)).mono fun e W1 ⟨e1, S1, O1, hF1, hBr, hE1⟩ => .inr ⟨e1, ?_⟩
      · have := lay_breaks j f nmL S Of k N J gv lv v (enc (digs z32 J.G) J.D) (encs z32 J.G) OB W' q1 q2 q3 (by omega) hN ⟨by omega, fun e => by omega⟩ hF.pend hF.las hF.only (by decide) hF.has (by rw [g2]; omega) (by rw [g2, hF.us, hF.room]; omega) q4 q5
        rw [← encs_snoc] at this
        exact this
      · have hVk : ∀ q, V q → W1.heap[q]? = W.heap[q]? := fun q o => hE1.rest q (h9 q o) (fun o2 => hP.dis q o2 o)
        have hz := hE1.size
        have h2' : GL W1 VL Lv J.G := h2.kept (fun _ o => o) (fun q o => hVk q (h6 q o))
        have h3' : Recs W1 VD (.slice da J.D.length dc) J.D := h3.kept (fun _ o => o) (fun q o => hVk q (h7 q o))
        have hR1 : RJ W1 r J.G J.D V := hP.rj.kept hz hVk
        obtain ⟨la, lc, eL⟩ := h2.shape
        subst eL
        have c0 : W1.cell? ⟨r, 0, none⟩ = some (.slice la J.G.length lc) := (RJ.cells ((hVk r h8).trans h1)).1
        refine ⟨la, J.G.length, lc, c0, fun W0 e1 e2 e3 e4 => ?_⟩
        obtain ⟨va, ca, Wa, vb, cb, W3, r1, r2, r3, r4, r5⟩ := may_rows h2' h3' (fun q o => by have := h9 q (h6 q o); omega) (fun q o => by have := h9 q (h7 q o); omega) (by omega) W0 e1 e2 e3 e4
        have hrl : r < W1.heap.size := by have := h9 r h8; omega
        have hO1 : ∀ q, O1 q → ¬ V q ∧ w.heap.size ≤ q ∧ q < W1.heap.size := fun q o => by
          have hl := hF1.lt q o
          rcases hE1.new q (.inr o) with o2 | o2
          · exact ⟨hP.dis q o2, hP.un q o2, hl⟩
          · have := hP.bel.size
            exact ⟨fun o3 => by have := h9 q o3; omega, by omega, hl⟩
        have hbW1 : Below w.heap.size w W1 := (Away.step ⟨hP.bel, hP.un⟩ (⟨hE1.os, hE1.tape, hE1.output, hE1.size, hE1.rest, fun q o => .inl o⟩ : FFr U U W W1)).bel
        have hbn : Below W1.heap.size W1 (W0.alloc (.cells #[] 34)) := (show Below W1.heap.size W1 W0 from ⟨e2, e3, e4, by rw [e1]; exact Nat.le_refl _, fun b _ => by rw [e1]⟩).alloc (by rw [e1]; exact Nat.le_refl _) _
        refine ⟨va, ca, Wa, vb, cb, W3, r1, by rw [hbn.cell (p := ⟨r, 0, none⟩) hrl]; exact c0, by rw [r2.cell (p := ⟨r, 0, none⟩) hrl]; exact c0, r3, ?_⟩
        have hz3 := r4.size
        refine ⟨S1, O1, V, _, k + 6, J.G, J.D, J.G ++ [J.D], hF1.kept hz3 (fun q o => r4.block q (hF1.lt q o)), by omega, hBr, hR1.kept hz3 (fun q o => r4.block q (by have := h9 q o; omega)), by rw [← show (J.G ++ [J.D]).length = J.G.length + 1 by simp] at r5 ⊢; exact r5, fun q o => ⟨(hO1 q o).1, ?_⟩, fun q o => ?_, hbW1.trans (r4.mono hbW1.size), fun q o => (hO1 q o).2.1, ⟨by omega, by omega, by omega⟩, ⟨by simp; omega, by simp only [cnt_append, cnt]; omega, by simp only [wts_append, wts]; omega⟩, fun e => by simp at e, .inr trivial⟩
        · rintro ((o2 | o2) | o2)
          · exact (hO1 q o).1 (h6 q o2)
          · exact (hO1 q o).1 (h7 q o2)
          · have := (hO1 q o).2.2; omega
        · rcases o with (o | o) | o
          · have := h9 q (h6 q o); omega
          · have := h9 q (h7 q o); omega
          · exact o.2
theorem resetW_chain (w W : World) (f r j i n m : Nat) (h : PIW w W f r j i n) (hi : i < 100) (hn : n ≤ 12000) :
    Calls Tryz.prog 26 #[.pointer (some ⟨j, 0, none⟩)] W fun e W1 => (e = .returned (.int .i64 0) ∧ (∃ x, W1.cell? ⟨r, 0, none⟩ = some x) ∧ W1.frozen? ⟨r, 0, none⟩ = false ∧ Hid (PIW w (W1.setCell ⟨r, 0, none⟩ (.slice none 0 0)) f r j (i + 1) (n + m))) ∨ (e = .returned (.int .i64 26) ∧ Hid (BRW w W1 f r (.slice none 0 0) True)) := by
  obtain ⟨S, J, U, V, k, hP, hF⟩ := h
  have f1 := hF.hk
  have f2 := hF.elen (by omega) hn
  have f3 := hF.hw
  have f4 := hF.hc
  have f5 := hF.hg
  obtain ⟨N, hN⟩ := hF.fuse
  have hparts := hF.has.parts
  by_cases hb : 1 + J.parts ≤ N
  · refine (reset_ok W f j nmL S J U k hP.js (by omega) (fun m e => by rw [hN] at e; injection e with e; omega) (by rw [hF.pend]; decide) (by decide) hF.has (by rw [hF.us, hF.room]; omega) hF.alive).mono fun e W1 ⟨e1, S1, U1, hJ1, hEm, hE1⟩ => .inl ⟨e1, ?_⟩
    have hP1 := hP.stepJ hJ1 hE1
    obtain ⟨hx, hz, hR, hE⟩ := rj_last hP1.rj
    exact ⟨hx, hz, S1, { J with G := [] }, U1, V, k + 3, hP1.stepR hR hE, hF.reset m hEm⟩
  · refine (reset_breaks W f j nmL S J U k N hP.js (by omega) hN ⟨by omega, fun e => by omega⟩ hF.pend hF.las hF.only (by decide) hF.has (by rw [hF.us, hF.room]; omega) hF.alive).mono fun e W1 ⟨e1, S1, O1, hF1, hBr, hE1⟩ => .inr ⟨e1, ?_⟩
    have hlt := hP.rj.vlt
    have hVk : ∀ q, V q → W1.heap[q]? = W.heap[q]? := fun q o => hE1.rest q (hlt q o) (fun o2 => hP.dis q o2 o)
    have hz := hE1.size
    have hbW1 : Below w.heap.size w W1 := (Away.step ⟨hP.bel, hP.un⟩ (⟨hE1.os, hE1.tape, hE1.output, hE1.size, hE1.rest, fun q o => .inl o⟩ : FFr U U W W1)).bel
    refine ⟨S1, O1, V, fun _ => False, k + 3, J.G, J.D, [], hF1, by omega, hBr, hP.rj.kept hz hVk, GL.nil _ _, fun q o => ⟨?_, id⟩, fun _ o => o.elim, hbW1, fun q o => ?_, ⟨by omega, by omega, by omega⟩, ⟨by simp, by simp [cnt], by simp [wts]⟩, fun e => ?_, .inr trivial⟩
    · rcases hE1.new q (.inr o) with o2 | o2
      · exact hP.dis q o2
      · exact fun o3 => by have := hlt q o3; omega
    · rcases hE1.new q (.inr o) with o2 | o2
      · exact hP.un q o2
      · have := hP.bel.size; omega
    · exact (List.eq_nil_of_length_eq_zero e.symm).symm
end Go.Proofs.YtebcmicmklpflaaGreatDoor
