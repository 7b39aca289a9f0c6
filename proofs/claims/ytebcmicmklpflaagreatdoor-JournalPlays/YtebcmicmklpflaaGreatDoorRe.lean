/- Commit, where it is done. -/
import Derived.Test.YtebcmicmklpflaaGreatDoorRd
namespace Go.Proofs.YtebcmicmklpflaaGreatDoor
open Go.RowKit Go.Maps
set_option linter.unusedSimpArgs false
/-- A journal in memory: groups in O, what is laid down in OL. -/
structure JnM (w : World) (j f : Nat) (nm : ByteArray) (J : Jn) (O OL : Nat → Prop) (gv lv : Value) (qs : List Nat) : Prop where
  gm : GM w j f nm J O gv lv qs
  laid : Recs w OL lv J.D
  dis : ∀ q, O q → ¬ OL q
  nl : ¬ OL j
  ltl : ∀ q, OL q → q < w.heap.size
/-- A FS and a journal on it. -/
def JS (w : World) (f j : Nat) (nm : ByteArray) (S : Fs) (J : Jn) (U : Nat → Prop) (k : Nat) : Prop :=
  ∃ Of O OL gv lv qs, FsIs w f 0 S Of k ∧ JnM w j f nm J O OL gv lv qs ∧ (∀ q, Of q → ¬ O q ∧ ¬ OL q ∧ q ≠ j) ∧ (∀ q, Of q → U q) ∧ (∀ q, O q → U q) ∧ (∀ q, OL q → U q) ∧ U j ∧ ∀ q, U q → q < w.heap.size
theorem FsIs.lt {w : World} {f : Nat} {lk : Int} {S : Fs} {O : Nat → Prop} {k : Nat} (h : FsIs w f lk S O k) : ∀ q, O q → q < w.heap.size := by
  obtain ⟨K, n, l, pv, ps, hM, _⟩ := h
  exact hM.lt
theorem chain_last {w : World} {O : Nat → Prop} {qs : List Nat} {gs : List (List (List UInt8))} (h : Chain w O none z32 qs gs) : AhIs w (lastq qs) (digs z32 gs) := by
  refine ⟨digs_len (by simp [z32]) gs, ?_⟩
  cases hq : lastq qs with
  | none =>
    have : qs = [] := List.getLast?_eq_none_iff.1 hq
    subst this
    cases gs with
    | nil => simp only [digs]
    | cons => exact h.elim
  | some q =>
    obtain ⟨rv, ah', h1, _⟩ := h.last q hq
    exact ⟨ah', rv, h1⟩
theorem chain_last_own {w : World} {O : Nat → Prop} {qs : List Nat} {gs : List (List (List UInt8))} (h : Chain w O none z32 qs gs) : ∀ q, lastq qs = some q → O q := fun q e => by
  obtain ⟨_, _, _, h1⟩ := h.last q e
  exact h1
set_option maxRecDepth 20000 in
theorem last_ok (gv : Value) (qs : List Nat) (w : World) (h : w.ownsRow 0 104 1 gv qs.length (qs.map ptrV)) (hn : qs.length ≤ 100000) : Calls Tryz.prog 59 #[gv] w fun e w' => e = .returned (.pointer ((lastq qs).map fun q => ⟨q, 0, none⟩)) ∧ w' = w := by
  by_cases hq : qs = []
  · subst hq
    obtain ⟨a, c, rfl⟩ := row_shape h
    exact last_nil a c w
  · have hne : 0 < qs.length := List.length_pos_iff.2 hq
    rcases h.2 with ⟨_, e⟩ | ⟨g, cap, cur, e, _, hg, hl, hm, hs, ht⟩
    · omega
    · rw [e]
      obtain ⟨n, hnn⟩ : ∃ n, qs.length = n + 1 := ⟨qs.length - 1, by omega⟩
      have hlast : lastq qs = some (qs[n]) := by
        unfold lastq
        rw [List.getLast?_eq_getElem?, show qs.length - 1 = n by omega, List.getElem?_eq_getElem (by omega)]
      rw [hnn, hlast]
      refine last_some g n cap _ w (by omega) ?_
      have hc : cur.toList[n]? = some (ptrV qs[n]) := by
        have : (cur.toList.take (qs.length * 1))[n]? = some (ptrV qs[n]) := by
          rw [ht, List.getElem?_map, List.getElem?_eq_getElem (by omega)]; rfl
        rwa [List.getElem?_take_of_lt (by omega)] at this
      simp only [World.cell?, hg]
      rw [← Array.getElem?_toList]
      exact hc
/-- What a Commit wants of the file system and the journal. -/
structure CanCommit (S : Fs) (nm : ByteArray) (J : Jn) (k : Nat) : Prop where
  hk : k ≤ 15000
  fuse : S.fuse = none
  pend : S.pend.length < 16000
  hnm : 1 ≤ nm.size ∧ nm.size ≤ 300
  has : HasF S.now nm J.parts (encs z32 J.G)
  len : (encs z32 J.G).length + (enc (digs z32 J.G) J.D).length ≤ 1048576
  fit : S.now.u + ((enc (digs z32 J.G) J.D).length : Int) ≤ (S.room : Int)
  g : J.G.length ≤ 10000
  d : J.D.length ≤ 100000
  wd : wt J.D ≤ 10000000
  wg : wts J.G < 524288
  alive : J.dead = false
  ne : J.D ≠ []
def Jn.commit (J : Jn) : Jn := ⟨J.G ++ [J.D], [], 1, J.dead⟩
/-- What stands behind lay: the group is told, its bytes last. -/
def ComP (w W : World) (f j : Nat) (nm : ByteArray) (S : Fs) (J : Jn) (O OL Of : Nat → Prop) (gv lv : Value) (qs : List Nat) (k : Nat) : Prop :=
  ∃ S' O', FsIs W f 0 S' O' (k + 6) ∧ Was S S' nm (encs z32 (J.G ++ [J.D])) ((enc (digs z32 J.G) J.D).length : Int) ∧ GM W j f nm { J with parts := 1 } O gv lv qs ∧ Grp W (fun b => b = w.heap.size ∨ OL b) w.heap.size (lastq qs) J.D (digs z32 J.G) ∧ (∀ q, O' q → Of q ∨ w.heap.size < q) ∧ ¬ O' j ∧ w.heap.size < W.heap.size ∧ (∀ b, b < w.heap.size → ¬ Of b → b ≠ j → W.heap[b]? = w.heap[b]?) ∧ (W.os = w.os ∧ W.tape = w.tape ∧ W.output = w.output) ∧ ∀ q, O' q → q < W.heap.size
theorem jn_drop {w : World} {j f : Nat} {nm : ByteArray} {J : Jn} {gv lv : Value} (h : w.heap[j]? = some (jnBlk f nm J gv lv)) : ((w.setCell ⟨j, 8, none⟩ (.slice none 0 0)).setCell ⟨j, 9, none⟩ (.int .i64 0)).heap[j]? = some (jnBlk f nm { J with D := [] } gv (.slice none 0 0)) := by
  unfold jnBlk at *
  simp [World.setCell, Array.getElem?_modify, h, wt]
theorem com_fin {w : World} {f j : Nat} {nm : ByteArray} {S : Fs} {J : Jn} {O OL Of U : Nat → Prop} {gv lv : Value} {qs : List Nat} {k : Nat} (hJ : JnM w j f nm J O OL gv lv qs) (hdis : ∀ q, Of q → ¬ O q ∧ ¬ OL q ∧ q ≠ j) (u1 : ∀ q, Of q → U q) (u2 : ∀ q, O q → U q) (u3 : ∀ q, OL q → U q) (u4 : U j) (u5 : ∀ q, U q → q < w.heap.size) (hC : CanCommit S nm J k) :
    ∀ W3, ComP w W3 f j nm S J O OL Of gv lv qs k → Calls Tryz.prog 50 #[.pointer (some ⟨j, 0, none⟩), .pointer (some ⟨w.heap.size, 0, none⟩)] W3 fun e W4 => e = .returned (.tuple #[]) ∧ (∃ x, W4.cell? ⟨j, 8, none⟩ = some x) ∧ (∃ y, W4.cell? ⟨j, 9, none⟩ = some y) ∧ (∀ i, W4.frozen? ⟨j, i, none⟩ = false) ∧ ∃ S' U', JS ((W4.setCell ⟨j, 8, none⟩ (.slice none 0 0)).setCell ⟨j, 9, none⟩ (.int .i64 0)) f j nm S' J.commit U' (k + 6) ∧ Was S S' nm (encs z32 (J.G ++ [J.D])) ((enc (digs z32 J.G) J.D).length : Int) ∧ FFr U U' w ((W4.setCell ⟨j, 8, none⟩ (.slice none 0 0)).setCell ⟨j, 9, none⟩ (.int .i64 0)) := by
  rintro W3 ⟨S', O', h1, h2, h3, h4, h5, h6, h7, h8, ⟨h9, h10, h11⟩, h12⟩
  have hjl := hJ.gm.jlt
  refine (take_ok j f nm { J with parts := 1 } O (fun b => b = w.heap.size ∨ OL b) gv lv qs w.heap.size J.D W3 h3 h4 ?_ ?_ ?_ hC.g hC.d hC.wd (by have := hC.wg; show wts J.G ≤ _; omega)).mono ?_
  · rintro (e | o)
    · omega
    · exact hJ.nl o
  · rintro b (rfl | o) o2
    · have := hJ.gm.lt _ o2; omega
    · exact hJ.dis b o2 o
  · rintro b (rfl | o)
    · exact h7
    · have := hJ.ltl b o; omega
  rintro e W4 ⟨e1, gv', hG, hz, hold, t1, t2, t3⟩
  obtain ⟨_, _, _, _, _, d8, d9, _, dz⟩ := jn_cells hG.blk
  refine ⟨e1, ⟨_, d8⟩, ⟨_, d9⟩, dz, S', fun q => U q ∨ (w.heap.size ≤ q ∧ q < W4.heap.size), ?_, h2, ?_⟩
  · have hset : ∀ b, b ≠ j → ((W4.setCell ⟨j, 8, none⟩ (.slice none 0 0)).setCell ⟨j, 9, none⟩ (.int .i64 0)).heap[b]? = W4.heap[b]? := fun b hb => by rw [set_other _ _ _ _ _ hb, set_other _ _ _ _ _ hb]
    have hOO : ∀ q, O' q → ¬ O q ∧ ¬ (q = w.heap.size ∨ OL q) ∧ q ≠ j ∧ q < W3.heap.size := fun q o => by
      rcases h5 q o with o2 | o2
      · have hl := u5 q (u1 q o2)
        exact ⟨(hdis q o2).1, fun e => e.elim (fun e => by omega) (hdis q o2).2.1, (hdis q o2).2.2, h12 q o⟩
      · exact ⟨fun o3 => by have := hJ.gm.lt q o3; omega, fun e => e.elim (fun e => by omega) (fun o3 => by have := hJ.ltl q o3; omega), by omega, h12 q o⟩
    refine ⟨O', more (fun b => O b ∨ (b = w.heap.size ∨ OL b)) W3 W4, fun _ => False, gv', .slice none 0 0, qs ++ [w.heap.size], ?_, ⟨?_, Recs.nil _ _, fun _ _ h => h, fun h => h, fun _ h => h.elim⟩, ?_, ?_, ?_, fun _ h => h.elim, .inl u4, ?_⟩
    · exact h1.kept (by simp only [size_set]; exact hz) (fun q o => by
        obtain ⟨p1, p2, p3, p4⟩ := hOO q o
        rw [hset q p3, hold q p4 p1 p3])
    · refine (hG.re (J' := J.commit) (lv' := .slice none 0 0) (by simp only [size_set]; exact Nat.le_refl _) (jn_drop hG.blk) rfl (fun q o => hset q (fun e => hG.nj (e ▸ o))))
    · intro q o
      obtain ⟨p1, p2, p3, p4⟩ := hOO q o
      refine ⟨?_, id, p3⟩
      rintro ((o2 | o2) | o2)
      · exact p1 o2
      · exact p2 o2
      · omega
    · intro q o
      rcases h5 q o with o2 | o2
      · exact .inl (u1 q o2)
      · exact .inr ⟨by omega, by have := h12 q o; omega⟩
    · rintro q ((o | rfl | o) | o)
      · exact .inl (u2 q o)
      · exact .inr ⟨Nat.le_refl _, by omega⟩
      · exact .inl (u3 q o)
      · exact .inr ⟨by omega, o.2⟩
    · simp only [size_set]
      rintro q (o | o)
      · have := u5 q o; omega
      · exact o.2
  · refine ⟨t1.trans h9, t2.trans h10, t3.trans h11, by simp only [size_set]; omega, fun q p1 p2 => ?_, fun q o => o.imp id (fun o => o.1)⟩
    have hj : q ≠ j := fun e => p2 (e ▸ u4)
    rw [set_other _ _ _ _ _ hj, set_other _ _ _ _ _ hj, hold q (by omega) (fun o => p2 (u2 q o)) hj]
    exact h8 q p1 (fun o => p2 (u1 q o)) hj
set_option maxRecDepth 20000 in
set_option maxHeartbeats 2000000 in
theorem commit_ok (w : World) (f j : Nat) (nm : ByteArray) (S : Fs) (J : Jn) (U : Nat → Prop) (k : Nat) (h : JS w f j nm S J U k) (hC : CanCommit S nm J k) :
    Calls Tryz.prog 24 #[.pointer (some ⟨j, 0, none⟩)] w fun e w' => e = .returned (.int .i64 0) ∧ ∃ S' U', JS w' f j nm S' J.commit U' (k + 6) ∧ Was S S' nm (encs z32 (J.G ++ [J.D])) ((enc (digs z32 J.G) J.D).length : Int) ∧ FFr U U' w w' := by
  obtain ⟨Of, O, OL, gv, lv, qs, hF, hJ, hdis, u1, u2, u3, u4, u5⟩ := h
  obtain ⟨c0, c1, c2, c6, c7, c8, c9, c10, cz⟩ := jn_cells hJ.gm.blk
  rw [hC.alive] at c10
  have HR := hide (refusal_ok j w c10)
  have hql := hJ.gm.ch.len
  have HL := hide (last_ok gv qs w.drew (by rw [hql]; exact hJ.gm.row) (by rw [hql]; have := hC.g; omega))
  obtain ⟨la, lc, el⟩ := hJ.laid.shape
  obtain ⟨ga, gc, eg⟩ := hJ.gm.shapes
  have hD0 : ¬ ((J.D.length : Int) = 0) := by have := List.length_pos_iff.2 hC.ne; omega
  obtain ⟨WG, hWG⟩ : ∃ WG : Int, WG = (wts J.G : Int) := ⟨_, rfl⟩
  have hW : WG < 524288 := by have := hC.wg; omega
  rw [← hWG] at c7
  have HWG := hide hWG
  clear hWG
  go_enter Tryz.func24, Tryz.ntmps24
  go_wp2_with fail
  refine (unhide HR).mono ?_
  rintro e w' ⟨rfl, rfl⟩
  subst el eg
  obtain ⟨ND, hND⟩ : ∃ ND, ND = J.D.length := ⟨_, rfl⟩
  obtain ⟨NG, hNG⟩ : ∃ NG, NG = J.G.length := ⟨_, rfl⟩
  rw [← hND] at c8 hD0
  rw [← hNG] at c6 HL
  have HJ := hide (And.intro hJ (And.intro hF (And.intro hdis (And.intro hC (And.intro hND hNG)))))
  clear hJ hF hC hql hND hNG hdis c0 c1 c2 c9
  have e8 : w'.drew.cell? ⟨j, 8, none⟩ = some (.slice la ND lc) := c8
  have e6 : w'.drew.cell? ⟨j, 6, none⟩ = some (.slice ga NG gc) := c6
  go_wp2_with fail
  apply one_way
  case go =>
    intro key
    refine wp_region_noPanic ?_
    go_region_with ((go_at_call 59; refine Calls.mono (unhide HL) ?_; rintro e w5 ⟨rfl, rfl⟩))
    all_goals
      refine NoPanic.normal ?_
      exact unhide key
  case all =>
    change Exit.then _ _ _ _ (w'.alloc (grpBlk (lastq qs) (.slice la ND lc) 0 0 (Dg.zs 32))).drew
    obtain ⟨W1, hW1⟩ : ∃ W1, W1 = (w'.alloc (grpBlk (lastq qs) (.slice la ND lc) 0 0 (Dg.zs 32))).drew := ⟨_, rfl⟩
    rw [← hW1]
    have hb1 : Below w'.heap.size w' W1 := by rw [hW1]; exact ((Below.refl _ _).alloc (Nat.le_refl _) _).drew
    have hq1 : W1.heap[w'.heap.size]? = some (grpBlk (lastq qs) (.slice la ND lc) 0 0 (Dg.zs 32)) := by rw [hW1]; exact heap_alloc_new _ _
    have hz1 : W1.heap.size = w'.heap.size + 1 := by rw [hW1]; show (w'.alloc _).heap.size = _; simp
    obtain ⟨hJ, hF, hdis, hC, hND, hNG⟩ := unhide HJ
    rw [hND] at hq1
    have hjl := hJ.gm.jlt
    have hOl := hJ.gm.lt
    have hJ1 : GM W1 j f nm J O (.slice ga J.G.length gc) (.slice la J.D.length lc) qs := hJ.gm.below hb1
    have hL1 : Recs W1 OL (.slice la J.D.length lc) J.D := hJ.laid.kept (fun _ o => o) (fun q o => hb1.block q (hJ.ltl q o))
    have hA1 := chain_last hJ1.ch
    have HEn := hide (encoded_ok w'.heap.size (lastq qs) (.slice la J.D.length lc) (Dg.zs 32) OL J.D (digs z32 J.G) W1.drew hq1 (by simp) hL1 (fun b o => by have := hJ.ltl b o; show b < W1.heap.size; omega) (fun o => by have := hJ.ltl _ o; omega) hA1 (fun e => by have := hOl _ (chain_last_own hJ1.ch _ e); omega) hC.d hC.wd)
    have hF1 : FsIs W1 f 0 S Of k := hF.kept hb1.size (fun q o => hb1.block q (hF.lt q o))
    obtain ⟨Q0, hQ0⟩ : ∃ Q0, Q0 = w'.heap.size := ⟨_, rfl⟩
    have HLay : Hid (∀ v W2, Rec W2 (fun b => W1.drew.heap.size ≤ b) v (enc (digs z32 J.G) J.D) → W2.heap[w'.heap.size]? = some (grpBlk (lastq qs) (.slice la J.D.length lc) 1 0 (nats (dig (digs z32 J.G) J.D))) → Dg.Sole w'.heap.size W1.drew W2 → Calls Tryz.prog 60 #[.pointer (some ⟨j, 0, none⟩), v] W2 fun e W3 => e = .returned (.int .i64 0) ∧ ComP w' W3 f j nm S J O OL Of (.slice ga J.G.length gc) (.slice la J.D.length lc) qs k) := fun v W2 hv hq2 hs2 => by
      have hs2z : W1.heap.size ≤ W2.heap.size := hs2.size
      have hb2 : ∀ b, b < W1.heap.size → b ≠ w'.heap.size → W2.heap[b]? = W1.heap[b]? := fun b h1 h2 => hs2.block b h1 h2
      have hF2 : FsIs W2 f 0 S Of k := hF1.kept hs2z (fun q o => hb2 q (hF1.lt q o) (by have := hF.lt q o; omega))
      have hj2 : W2.heap[j]? = some (jnBlk f nm J (.slice ga J.G.length gc) (.slice la J.D.length lc)) := by rw [hb2 j (by omega) (by omega)]; exact hJ1.blk
      have hOfj : ¬ Of j := fun o => (hdis j o).2.2 rfl
      refine (lay_ok j f nm S Of k J _ _ v (enc (digs z32 J.G) J.D) (encs z32 J.G) _ W2 hF2 hj2 hOfj hC.hk hC.fuse hC.pend hC.hnm hC.has hC.len hC.fit hv (fun q o o2 => by have h1 : W1.heap.size ≤ q := o; have := hF.lt q o2; omega)).mono fun e W3 ⟨e1, S', O', h1, h2, h3, h4, h5⟩ => ⟨e1, ?_⟩
      have hold : ∀ b, b < W1.heap.size → ¬ Of b → b ≠ j → W3.heap[b]? = W2.heap[b]? := fun b hb h6 h7 => h4.rest b (by omega) (fun e => e.elim h6 h7)
      have hGk : ∀ P : Nat → Prop, (∀ b, P b → b < w'.heap.size ∧ ¬ Of b ∧ b ≠ j) → ∀ b, P b → W3.heap[b]? = W1.heap[b]? := fun P hP b hb => by
        obtain ⟨p1, p2, p3⟩ := hP b hb
        rw [hold b (by omega) p2 p3, hb2 b (by omega) (by omega)]
      have hq3 : W3.heap[w'.heap.size]? = some (grpBlk (lastq qs) (.slice la J.D.length lc) 1 0 (nats (dig (digs z32 J.G) J.D))) := by
        rw [hold _ (by omega) (fun o => by have := hF.lt _ o; omega) (by omega)]; exact hq2
      have hz3 := h4.size
      refine ⟨S', O', h1, ?_, ?_, ⟨.inl rfl, _, hq3, ?_⟩, ?_, ?_, ?_, ?_, ?_, ?_⟩
      · rw [encs_snoc]; exact h2
      · exact hJ1.re (by omega) h3 rfl (hGk O (fun b o => ⟨hOl b o, fun o2 => (hdis b o2).1 o, fun e => hJ.gm.nj (e ▸ o)⟩))
      · exact hL1.kept (fun _ o => .inr o) (hGk OL (fun b o => ⟨hJ.ltl b o, fun o2 => (hdis b o2).2.1 o, fun e => hJ.nl (e ▸ o)⟩))
      · intro q o
        rcases h4.new q (.inl o) with (h6 | h6) | h6
        · exact .inl h6
        · exact absurd (h6 ▸ o) h5
        · exact .inr (by omega)
      · exact h5
      · show w'.heap.size < W3.heap.size
        omega
      · intro b p1 p2 p3
        rw [hold b (by omega) p2 p3, hb2 b (by omega) (by omega), hb1.block b p1]
      · exact ⟨h4.os.trans (hs2.os.trans hb1.os), h4.tape.trans (hs2.tape.trans hb1.tape), h4.output.trans (hs2.output.trans hb1.output)⟩
      · exact h1.lt
    have HFin := hide (com_fin hJ hdis u1 u2 u3 u4 u5 hC)
    clear hJ hF hC hND hNG hJ1 hL1 hA1 hF1 hq1 hb1 hW1 hdis HL e6 e8 c6 c7 c8 c10 cz hQ0 hOl u1 u2 u3 u4 u5
    simp only [Act.put, List.getElem_toArray, List.getElem_cons_zero, List.getElem_cons_succ, List.setIfInBounds_toArray, List.set_cons_zero, List.set_cons_succ]
    go_wp2_with fail
    apply one_way
    case go =>
      intro key
      refine wp_region_noPanic ?_
      go_region_with (first | (go_at_call 61; refine Calls.mono (unhide HEn) ?_; rintro e W2 ⟨v, rfl, hv, hq2, hs2⟩) | (go_at_call 60; refine Calls.mono (unhide HLay v W2 hv hq2 hs2) ?_; rintro e W3 ⟨rfl, hP⟩))
      all_goals
        refine NoPanic.normal ?_
        revert W3
        revert W2 v
        exact unhide key
    case all =>
      intro W2 v _ _ _ W3 hP
      have HT := hide (unhide HFin W3 hP)
      clear hP HFin HLay HEn
      simp only [Act.put, List.getElem_toArray, List.getElem_cons_zero, List.getElem_cons_succ, List.setIfInBounds_toArray, List.set_cons_zero, List.set_cons_succ]
      go_wp2_with fail
      refine (unhide HT).mono ?_
      rintro e W4 ⟨rfl, ⟨x, d8⟩, ⟨y, d9⟩, dz, hE⟩
      have HDr := hide (drop_cell j x y W4 d8 d9 dz)
      have HE := hide hE
      clear hE HT
      go_wp2_with fail
      refine (unhide HDr).mono ?_
      rintro e W5 ⟨rfl, rfl⟩
      go_wp2_with fail
      go_ret
      exact ⟨rfl, unhide HE⟩
end Go.Proofs.YtebcmicmklpflaaGreatDoor
