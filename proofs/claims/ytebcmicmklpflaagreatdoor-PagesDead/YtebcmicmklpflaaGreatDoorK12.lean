import Derived.Test.YtebcmicmklpflaaGreatDoorK11
import Derived.Test.YtebcmicmklpflaaGreatDoorK5
import Derived.Test.YtebcmicmklpflaaGreatDoorK10
import Derived.Lib.SlBytesConst
/- Open, where there is no journal yet. -/
namespace Go.Proofs.YtebcmicmklpflaaGreatDoor
open Go.RowKit Go.Maps
set_option linter.unusedSimpArgs false
/-- Open up to the groups that are loaded. -/
theorem open_upto (f : Nat) (S : Fs) (O : Nat → Prop) (k : Nat) (nm : ByteArray) (w : World) (h : FsIs w f 0 S O k) (hp : S.pend = []) (hn2 : nm.size ≤ 100) :
    Calls Tryz.prog 47 #[.pointer (some ⟨f, 0, none⟩)] w fun e w1 => e = .returned (.int .i64 0) ∧ Hid (Calls Tryz.prog 48 #[.string nm] w1 fun e w2 => e = .returned (.string nm) ∧ Hid (FsIs (w2.alloc (jBlk0 f nm 0)) f 0 S O k ∧ (w2.alloc (jBlk0 f nm 0)).heap[w2.heap.size]? = some (jBlk0 f nm 0) ∧ ¬ O w2.heap.size ∧ w.heap.size ≤ w2.heap.size ∧ Below w.heap.size w (w2.alloc (jBlk0 f nm 0)))) := by
  refine (pending_ok f S O k w h).mono fun e w1 ⟨e1, hF1, hb1⟩ => ⟨by rw [e1, hp]; rfl, ?_⟩
  refine (clone_any nm w1 (by omega)).mono fun e w2 ⟨e2, hb2⟩ => ⟨e2, ?_⟩
  have hF2 : FsIs w2 f 0 S O k := hF1.kept hb2.size (fun q o => hb2.block q (hF1.lt q o))
  have hb : Below w.heap.size w w2 := hb1.trans (hb2.mono hb1.size)
  have hba : Below w2.heap.size w2 (w2.alloc (jBlk0 f nm 0)) := (Below.refl _ _).alloc (Nat.le_refl _) _
  refine ⟨hF2.kept hba.size (fun q o => hba.block q (hF2.lt q o)), heap_alloc_new _ _, fun o => absurd (hF2.lt _ o) (Nat.lt_irrefl _), hb.size, hb.trans (hba.mono hb.size)⟩
/-- A journal without a group, and a FS. -/
theorem js_new {w' : World} {j f : Nat} {nm : ByteArray} {S : Fs} {O : Nat → Prop} {k : Nat} (h : FsIs w' f 0 S O k) (hj : w'.heap[j]? = some (jBlk0 f nm 0)) (hO : ¬ O j) : JS w' f j nm S ⟨[], [], 0, false⟩ (fun q => O q ∨ q = j) k := by
  have hjl : j < w'.heap.size := (Array.getElem?_eq_some_iff.1 hj).1
  refine ⟨O, fun _ => False, fun _ => False, .slice none 0 0, .slice none 0 0, [], h, ⟨⟨hj, id, World.ownsRow_nil _ _ _ _, fun q e => by simp [Value.ownBlock] at e, trivial, fun _ o => o.elim⟩, Recs.nil _ _, fun _ o => o.elim, id, fun _ o => o.elim⟩, fun q o => ⟨id, id, fun e => hO (e ▸ o)⟩, fun _ o => .inl o, fun _ o => o.elim, fun _ o => o.elim, .inr rfl, ?_⟩
  rintro q (o | rfl)
  · exact h.lt q o
  · exact hjl
set_option maxRecDepth 20000 in
set_option maxHeartbeats 1000000 in
theorem open_none (f : Nat) (S : Fs) (O : Nat → Prop) (k : Nat) (nm : ByteArray) (w : World) (h : FsIs w f 0 S O k) (hp : S.pend = []) (hk : k ≤ 16000) (hn : 1 ≤ nm.size) (hn2 : nm.size ≤ 100) (hNs : ∀ s i, S.now.N s = some i → s.size ≤ 300) (hP : NoPart S.now nm) (hN : S.now.N nm = none) :
    Calls Tryz.prog 16 #[.pointer (some ⟨f, 0, none⟩), .string nm] w fun e w' => ∃ j, e = .returned (.tuple #[.pointer (some ⟨j, 0, none⟩), .int .i64 0]) ∧ w.heap.size ≤ j ∧ JS w' f j nm S ⟨[], [], 0, false⟩ (fun q => O q ∨ q = j) k ∧ Below w.heap.size w w' := by
  have HP := hide (open_upto f S O k nm w h hp hn2)
  have HL : Hid (∀ w2 : World, FsIs (w2.alloc (jBlk0 f nm 0)) f 0 S O k → (w2.alloc (jBlk0 f nm 0)).heap[w2.heap.size]? = some (jBlk0 f nm 0) → ¬ O w2.heap.size → w.heap.size ≤ w2.heap.size → Below w.heap.size w (w2.alloc (jBlk0 f nm 0)) → Calls Tryz.prog 49 #[.pointer (some ⟨w2.heap.size, 0, none⟩)] (w2.alloc (jBlk0 f nm 0)) fun e w' => e = .returned (.slice none 0 0) ∧ Hid (w.heap.size ≤ w2.heap.size ∧ JS w' f w2.heap.size nm S ⟨[], [], 0, false⟩ (fun q => O q ∨ q = w2.heap.size) k ∧ Below w.heap.size w w')) := fun w2 h1 h2 h3 h4 h5 => by
    refine (load_none w2.heap.size f S O k nm _ h1 h2 hk hn2 hNs hP hN).mono fun e w' ⟨e1, hF, hb⟩ => ⟨e1, h4, js_new hF (by rw [hb.block _ (Array.getElem?_eq_some_iff.1 h2).1]; exact h2) h3, h5.trans (hb.mono h5.size)⟩
  have h1 : (1 : Int) ≤ (nm.size : Int) := by omega
  have h2 : (nm.size : Int) ≤ 100 := by omega
  clear h hp hk hn hn2 hNs hP hN
  go_enter Tryz.func16, Tryz.ntmps16
  go_wp2_with fail
  refine (unhide HP).mono ?_
  rintro e w1 ⟨rfl, HC⟩
  go_wp2_with fail
  refine (unhide HC).mono ?_
  rintro e w2 ⟨rfl, HQ⟩
  have HL2 := hide (unhide HL w2 (unhide HQ).1 (unhide HQ).2.1 (unhide HQ).2.2.1 (unhide HQ).2.2.2.1 (unhide HQ).2.2.2.2)
  clear HL HP HQ HC
  go_wp2_with fail
  refine (unhide HL2).mono ?_
  rintro e w3 ⟨rfl, HF⟩
  go_wp2_with fail
  go_loop [41] (fun i => i = .int .i64 0) (fun _ => 0)
  case atStart => rfl
  case round =>
    subst hrel
    go_wp2_with fail
    exact bodyPost_ret (by simp [results, Tryz.results16]) rfl ⟨_, rfl, unhide HF⟩
end Go.Proofs.YtebcmicmklpflaaGreatDoor
/- Open, where there are groups. -/
namespace Go.Proofs.YtebcmicmklpflaaGreatDoor
open Go.RowKit Go.Maps
set_option linter.unusedSimpArgs false
/-- One of a chain. -/
theorem Chain.nth {w : World} {O : Nat → Prop} : ∀ {qs : List Nat} {gs : List (List (List UInt8))} {ah : Option Nat} {prev : List UInt8}, Chain w O ah prev qs gs → ∀ (m q : Nat) (g : List (List UInt8)), qs[m]? = some q → gs[m]? = some g → Grp w O q (if m = 0 then ah else lastq (qs.take m)) g (digs prev (gs.take m)) := by
  intro qs
  induction qs with
  | nil => intro gs ah prev h m q g e; simp at e
  | cons p qs ih => intro gs ah prev h m q g e1 e2; cases gs with
    | nil => exact h.elim
    | cons g' gs =>
      cases m with
      | zero =>
        simp only [List.getElem?_cons_zero, Option.some.injEq] at e1 e2
        subst e1 e2
        simp only [List.take_zero, digs, if_true]
        exact h.1
      | succ m =>
        simp only [List.getElem?_cons_succ] at e1 e2
        have := ih h.2 m q g e1 e2
        simp only [List.take_succ_cons, digs]
        rw [if_neg (by omega)]
        generalize digs (dig prev g') (gs.take m) = dd at *
        by_cases hm : m = 0
        · subst hm
          simpa [lastq] using this
        · rw [if_neg hm] at this
          have hl : lastq (p :: qs.take m) = lastq (qs.take m) := by
            unfold lastq
            rw [List.getLast?_cons]
            cases hq : (qs.take m).getLast? with
            | none =>
              have h0 := List.getLast?_eq_none_iff.1 hq
              have h1 := (List.getElem?_eq_some_iff.1 e1).1
              have h2 : (qs.take m).length = 0 := by rw [h0]; rfl
              rw [List.length_take] at h2
              omega
            | some x => rfl
          rw [hl]; exact this
theorem Chain.nth0 {w : World} {O : Nat → Prop} {qs : List Nat} {gs : List (List (List UInt8))} {prev : List UInt8} (h : Chain w O none prev qs gs) (m q : Nat) (g : List (List UInt8)) (e1 : qs[m]? = some q) (e2 : gs[m]? = some g) : Grp w O q (lastq (qs.take m)) g (digs prev (gs.take m)) := by
  have := h.nth m q g e1 e2
  by_cases hm : m = 0
  · subst hm
    simpa [lastq] using this
  · rwa [if_neg hm] at this
theorem wts_take (G : List (List (List UInt8))) (m : Nat) : wts (G.take m) ≤ wts G := by
  conv => rhs; rw [← List.take_append_drop m G]
  rw [wts_append]; omega
theorem GM.widen {w : World} {j f : Nat} {nm : ByteArray} {J : Jn} {O O' : Nat → Prop} {gv lv : Value} {qs : List Nat} (h : GM w j f nm J O gv lv qs) (hO : ∀ q, O q → O' q) (hj : ¬ O' j) (hl : ∀ q, O' q → q < w.heap.size) : GM w j f nm J O' gv lv qs :=
  ⟨h.blk, hj, h.row, fun q e => hO q (h.rown q e), h.ch.kept hO (fun _ _ => rfl), hl⟩
/-- Groups that are taken one by one; B: where all of them lie behind, M: where what was loaded ends. -/
structure OpL (W0 W : World) (j f : Nat) (nm : ByteArray) (S : Fs) (O : Nat → Prop) (k B M : Nat) (gv : Value) (qs : List Nat) (G : List (List (List UInt8))) (m : Nat) : Prop where
  fs : FsIs W f 0 S O k
  gm : ∃ gj, GM W j f nm ⟨G.take m, [], 1, false⟩ (fun b => B ≤ b ∧ b < W.heap.size) gj (.slice none 0 0) (qs.take m) ∧ ∀ b, gj.ownBlock = some b → M ≤ b
  row : W.ownsRow 0 104 1 gv qs.length (qs.map ptrV)
  rown : ∀ b, gv.ownBlock = some b → B ≤ b ∧ b < M
  ch : Chain W (fun b => B ≤ b ∧ b < W.heap.size) none z32 qs G
  big : M ≤ W.heap.size
  os : W.os = W0.os
  tape : W.tape = W0.tape
  output : W.output = W0.output
  rest : ∀ b, b < B → b ≠ j → W.heap[b]? = W0.heap[b]?
theorem OpL.step {W0 W : World} {j f : Nat} {nm : ByteArray} {S : Fs} {O : Nat → Prop} {k B M : Nat} {gv : Value} {qs : List Nat} {G : List (List (List UInt8))} {m : Nat} (h : OpL W0 W j f nm S O k B M gv qs G m) (hj : j < B) (hBM : B ≤ M) (hO : ∀ q, O q → q < B ∧ q ≠ j) (hm : m < G.length) (hl : G.length ≤ 10000) (hds : ∀ d ∈ G, d.length ≤ 100000 ∧ wt d ≤ 10000000) (hw : wts G ≤ 10000000) :
    ∃ q, qs[m]? = some q ∧ Calls Tryz.prog 50 #[.pointer (some ⟨j, 0, none⟩), .pointer (some ⟨q, 0, none⟩)] W fun e W' => e = .returned (.tuple #[]) ∧ OpL W0 W' j f nm S O k B M gv qs G (m + 1) := by
  obtain ⟨gj, hg, hM⟩ := h.gm
  have hql : qs.length = G.length := h.ch.len
  have e1 : qs[m]? = some qs[m] := List.getElem?_eq_getElem (by omega)
  have e2 : G[m]? = some G[m] := List.getElem?_eq_getElem hm
  have hd := hds G[m] (List.getElem_mem hm)
  refine ⟨qs[m], e1, (take_any j f nm ⟨G.take m, [], 1, false⟩ _ (fun b => B ≤ b ∧ b < W.heap.size) gj _ (qs.take m) qs[m] G[m] W hg (h.ch.nth0 m _ _ e1 e2) (fun o => by have := o.1; omega) (fun b o => o.2) (by show (G.take m).length ≤ _; rw [List.length_take]; omega) hd.1 hd.2 (Nat.le_trans (wts_take G m) hw)).mono fun e W' ⟨e3, gj', hg', hz, ⟨hr, hloc⟩, o1, o2, o3⟩ => ⟨e3, ?_⟩⟩
  have hbig := h.big
  have hTg : Tg (fun b => B ≤ b ∧ b < W.heap.size) W W' := fun b x t hb hx ht => by
    refine hr b hb.2 (fun e => ?_) (fun e => by have := hb.1; omega)
    obtain ⟨cur, hc⟩ := row_tag hg.row b e
    rw [hx] at hc
    injection hc with hc
    injection hc with _ hc
    rcases ht with rfl | rfl | rfl <;> exact absurd hc (by decide)
  have hlow : ∀ b, b < M → b ≠ j → W'.heap[b]? = W.heap[b]? := fun b h1 h2 => hr b (by omega) (fun e => by have := hM b e; omega) h2
  refine ⟨?_, ⟨gj', ?_, ?_⟩, ownsRow_kept h.row (fun q e => hlow q (h.rown q e).2 (fun e2 => by have := (h.rown q e).1; omega)), h.rown, h.ch.keptT (fun q o => ⟨o.1, by have := o.2; omega⟩) hTg, by omega, o1.trans h.os, o2.trans h.tape, o3.trans h.output, fun b h1 h2 => (hlow b (by omega) h2).trans (h.rest b h1 h2)⟩
  · exact h.fs.kept hz (fun q o => hlow q (by have := (hO q o).1; omega) (hO q o).2)
  · rw [List.take_succ_eq_append_getElem hm, List.take_succ_eq_append_getElem (show m < qs.length by omega)]
    refine hg'.widen (fun q o => ?_) (fun o => by have := o.1; omega) (fun q o => o.2)
    rcases o with (o | o) | o
    · exact ⟨o.1, by have := o.2; omega⟩
    · exact ⟨o.1, by have := o.2; omega⟩
    · exact ⟨by have := o.1; omega, o.2⟩
  · intro b e
    rcases hloc with e4 | ⟨b', e4, h4⟩
    · rw [e4] at e; exact hM b e
    · rw [e4] at e; injection e with e; omega
theorem OpL.first {W0 W : World} {j f : Nat} {nm : ByteArray} {S : Fs} {O : Nat → Prop} {k : Nat} {gv : Value} {G : List (List (List UInt8))} (hj : j < W0.heap.size) (h : Mid W0 W j f nm S O k gv G) : ∃ qs, OpL W0 W j f nm S O k W0.heap.size W.heap.size gv qs G 0 := by
  obtain ⟨hF, hjb, qs, hL⟩ := h
  refine ⟨qs, hF, ⟨.slice none 0 0, ⟨hjb, fun o => by have := o.1; omega, World.ownsRow_nil _ _ _ _, fun q e => by simp [Value.ownBlock] at e, trivial, fun _ o => o.2⟩, fun q e => by simp [Value.ownBlock] at e⟩, hL.row, hL.rown, hL.ch, Nat.le_refl _, hL.os, hL.tape, hL.output, hL.rest⟩
theorem OpL.last {w W0 W : World} {j f : Nat} {nm : ByteArray} {S : Fs} {O : Nat → Prop} {k B M : Nat} {gv : Value} {qs : List Nat} {G : List (List (List UInt8))} (h : OpL W0 W j f nm S O k B M gv qs G G.length) (hj : j < B) (hBM : B ≤ M) (hO : ∀ q, O q → q < B ∧ q ≠ j) (hw : w.heap.size ≤ j) (hb : Below w.heap.size w W0) : JS W f j nm S ⟨G, [], 1, false⟩ (fun q => O q ∨ q = j ∨ (B ≤ q ∧ q < W.heap.size)) k ∧ Below w.heap.size w W := by
  obtain ⟨gj, hg, hM⟩ := h.gm
  rw [List.take_length] at hg
  have hbig := h.big
  refine ⟨⟨O, fun b => B ≤ b ∧ b < W.heap.size, fun _ => False, gj, .slice none 0 0, _, h.fs, ⟨hg, Recs.nil _ _, fun _ _ o => o, id, fun _ o => o.elim⟩, fun q o => ⟨fun o2 => by have := (hO q o).1; have := o2.1; omega, id, (hO q o).2⟩, fun _ o => .inl o, fun _ o => .inr (.inr o), fun _ o => o.elim, .inr (.inl rfl), ?_⟩, h.os.trans hb.os, h.tape.trans hb.tape, h.output.trans hb.output, by omega, fun b h1 => (h.rest b (by omega) (by omega)).trans (hb.block b h1)⟩
  rintro q (o | rfl | o)
  · exact h.fs.lt q o
  · omega
  · exact o.2
theorem row_cell {w : World} {gv : Value} {qs : List Nat} (h : w.ownsRow 0 104 1 gv qs.length (qs.map ptrV)) (h0 : 0 < qs.length) : ∃ g c, gv = .slice (some ⟨g, 0, none⟩) qs.length c := by
  rcases h.2 with ⟨_, e⟩ | ⟨g, cap, cur, e, _⟩
  · omega
  · exact ⟨g, cap, e⟩
theorem row_at {w : World} {g n c : Nat} {qs : List Nat} (h : w.ownsRow 0 104 1 (.slice (some ⟨g, 0, none⟩) n c) qs.length (qs.map ptrV)) (m q : Nat) (hq : qs[m]? = some q) : w.cell? ⟨g, m, none⟩ = some (.pointer (some ⟨q, 0, none⟩)) := by
  have hm := (List.getElem?_eq_some_iff.1 hq).1
  rcases h.2 with ⟨e, _⟩ | ⟨g', cap, cur, e, _, hg, hl, _, hs, ht⟩
  · simp at e
  · injection e with e1 e2 e3
    injection e1 with e1
    injection e1 with e1
    subst e1
    have hc : cur.toList[m]? = some (ptrV q) := by
      have : (cur.toList.take (qs.length * 1))[m]? = some (ptrV q) := by
        rw [ht, List.getElem?_map, hq]; rfl
      rwa [List.getElem?_take_of_lt (by omega)] at this
    simp only [World.cell?, hg]
    rw [← Array.getElem?_toList]
    exact hc
set_option maxRecDepth 20000 in
set_option maxHeartbeats 1000000 in
theorem open_some (f : Nat) (S : Fs) (O : Nat → Prop) (k i : Nat) (nm : ByteArray) (G : List (List (List UInt8))) (w : World) (h : FsIs w f 0 S O k) (hp : S.pend = []) (hk : k ≤ 16000) (hn : 1 ≤ nm.size) (hn2 : nm.size ≤ 100) (hNs : ∀ s i, S.now.N s = some i → s.size ≤ 300) (hP : NoPart S.now nm) (hP1 : S.now.N (part1 nm) = none) (hN : S.now.N nm = some i) (hD : S.now.D i = encs z32 G) (hG : G ≠ []) (hl : G.length ≤ 10000) (hds : ∀ d ∈ G, d.length ≤ 100000 ∧ wt d ≤ 10000000) (hw : wts G ≤ 10000000) :
    Calls Tryz.prog 16 #[.pointer (some ⟨f, 0, none⟩), .string nm] w fun e w' => ∃ j U, e = .returned (.tuple #[.pointer (some ⟨j, 0, none⟩), .int .i64 0]) ∧ w.heap.size ≤ j ∧ JS w' f j nm S ⟨G, [], 1, false⟩ U k ∧ Below w.heap.size w w' ∧ ∀ q, U q → O q ∨ w.heap.size ≤ q := by
  have HP := hide (open_upto f S O k nm w h hp hn2)
  have hG0 : 0 < G.length := List.length_pos_iff.2 hG
  have HL : Hid (∀ w2 : World, FsIs (w2.alloc (jBlk0 f nm 0)) f 0 S O k → (w2.alloc (jBlk0 f nm 0)).heap[w2.heap.size]? = some (jBlk0 f nm 0) → ¬ O w2.heap.size → w.heap.size ≤ w2.heap.size → Below w.heap.size w (w2.alloc (jBlk0 f nm 0)) → Calls Tryz.prog 49 #[.pointer (some ⟨w2.heap.size, 0, none⟩)] (w2.alloc (jBlk0 f nm 0)) fun e w3 => ∃ g c, e = .returned (.slice (some ⟨g, 0, none⟩) G.length c) ∧ Hid (∃ (T : World → Nat → Prop), T w3 0 ∧ (∀ W m, T W m → m < G.length → ∃ q, W.cell? ⟨g, m, none⟩ = some (.pointer (some ⟨q, 0, none⟩)) ∧ Calls Tryz.prog 50 #[.pointer (some ⟨w2.heap.size, 0, none⟩), .pointer (some ⟨q, 0, none⟩)] W fun e W' => e = .returned (.tuple #[]) ∧ T W' (m + 1)) ∧ ∀ W, T W G.length → ∃ U, w.heap.size ≤ w2.heap.size ∧ JS W f w2.heap.size nm S ⟨G, [], 1, false⟩ U k ∧ Below w.heap.size w W ∧ ∀ q, U q → O q ∨ w.heap.size ≤ q)) := fun w2 h1 h2 h3 h4 h5 => by
    refine (load_some w2.heap.size f S O k i nm G _ h1 h2 h3 hk hn2 hNs hP hP1 hN hD hG hl hds).mono fun e w3 ⟨gv, e1, hM⟩ => ?_
    have hj : w2.heap.size < (w2.alloc (jBlk0 f nm 0)).heap.size := by simp
    have hO : ∀ q, O q → q < (w2.alloc (jBlk0 f nm 0)).heap.size ∧ q ≠ w2.heap.size := fun q o => ⟨h1.lt q o, fun e => h3 (e ▸ o)⟩
    obtain ⟨qs, hop⟩ := OpL.first hj hM
    have hql : qs.length = G.length := hop.ch.len
    obtain ⟨g, c, eg⟩ := row_cell hop.row (by omega)
    have hBM : (w2.alloc (jBlk0 f nm 0)).heap.size ≤ w3.heap.size := by
      obtain ⟨_, _, _, hLG⟩ := hM
      exact hLG.size
    rw [hql] at eg
    subst eg
    generalize hB : (w2.alloc (jBlk0 f nm 0)).heap.size = B at *
    refine ⟨g, c, e1, fun W m => OpL (w2.alloc (jBlk0 f nm 0)) W w2.heap.size f nm S O k B w3.heap.size (.slice (some ⟨g, 0, none⟩) G.length c) qs G m, hop, fun W m hT hm => ?_, fun W hT => ?_⟩
    · obtain ⟨q, hq, hc⟩ := hT.step hj hBM hO hm hl hds hw
      exact ⟨q, row_at hT.row m q hq, hc⟩
    · obtain ⟨u1, u2⟩ := hT.last hj hBM hO h4 h5
      refine ⟨_, h4, u1, u2, fun q o => ?_⟩
      rcases o with o | o | o
      · exact .inl o
      · exact .inr (by omega)
      · exact .inr (by have := o.1; omega)
  have h1 : (1 : Int) ≤ (nm.size : Int) := by omega
  have h2 : (nm.size : Int) ≤ 100 := by omega
  obtain ⟨N, hNG⟩ : ∃ N, N = G.length := ⟨_, rfl⟩
  have hNb : N ≤ 10000 := by omega
  rw [← hNG] at HL
  clear h hp hk hn hn2 hNs hP hN hP1 hD hG hl hds hw hG0
  go_enter Tryz.func16, Tryz.ntmps16
  go_wp2_with fail
  refine (unhide HP).mono ?_
  rintro e w1 ⟨rfl, HC⟩
  go_wp2_with fail
  refine (unhide HC).mono ?_
  rintro e w2 ⟨rfl, HQ⟩
  have HL2 := hide (unhide HL w2 (unhide HQ).1 (unhide HQ).2.1 (unhide HQ).2.2.1 (unhide HQ).2.2.2.1 (unhide HQ).2.2.2.2)
  clear HL HP HQ HC
  go_wp2_with fail
  refine (unhide HL2).mono ?_
  rintro e w3 ⟨g, c, rfl, HF⟩
  obtain ⟨T, hT0, hTs, hTe⟩ := unhide HF
  have HS := hide hTs
  have HE := hide hTe
  have HNb := hide hNb
  clear hTs hTe HF HL2 hNb
  go_wp2_with fail
  go_loopw [41] (fun i wr => ∃ m : Nat, m ≤ N ∧ i = .int .i64 m ∧ T wr m) (fun i _ => N - (intOf i).toNat)
  case atStart => exact ⟨0, Nat.zero_le _, rfl, hT0⟩
  case round =>
    obtain ⟨m, hm, rfl, hT⟩ := hrel
    by_cases hlt : m < N
    · obtain ⟨q, hcell, htake⟩ := unhide HS _ m hT hlt
      have HTk := hide htake
      have hlt2 : (m : Int) < (N : Int) := by omega
      clear htake HS HE hT0 hT hm
      go_wp2_with fail
      refine (unhide HTk).mono ?_
      rintro e w5 ⟨rfl, hT5⟩
      go_wp2_with fail
      have hNb := unhide HNb
      have e1 : Go.RowKit.wrap64 ((m : Int) + 1) = ((m + 1 : Nat) : Int) := by unfold Go.RowKit.wrap64; omega
      rw [e1]
      exact ⟨⟨m + 1, by omega, rfl, hT5⟩, by simp only [intOf, Int.toNat_natCast]; omega⟩
    · obtain rfl : m = N := by omega
      have HE2 := hide (unhide HE _ hT)
      clear HS HE hT0 hT hm
      go_wp2_with fail
      obtain ⟨U, u1, u2, u3, u4⟩ := unhide HE2
      exact bodyPost_ret (by simp [results, Tryz.results16]) rfl ⟨_, U, rfl, u1, u2, u3, u4⟩
end Go.Proofs.YtebcmicmklpflaaGreatDoor
/- A group's records are copied. -/
namespace Go.Proofs.YtebcmicmklpflaaGreatDoor
open Go.RowKit Go.Maps
set_option linter.unusedSimpArgs false
/-- Bytes of one's own that may be written over: nil, or a whole block. -/
def Spl (w : World) (O : Nat → Prop) (v : Value) (d : List UInt8) : Prop :=
  (v = .slice none 0 0 ∧ d = []) ∨ ∃ g cur, v = .slice (some ⟨g, 0, none⟩) d.length cur.size ∧ O g ∧ w.heap[g]? = some (.cells cur 5 (0, 0)) ∧ d.length ≤ cur.size ∧ cur.size ≤ maxLen ∧ byteVals d <+: cur.toList
theorem Spl.kept {w w' : World} {O O' : Nat → Prop} {v : Value} {d : List UInt8} (h : Spl w O v d) (hO : ∀ q, O q → O' q) (hw : ∀ q, O q → w'.heap[q]? = w.heap[q]?) : Spl w' O' v d := by
  rcases h with h | ⟨g, cur, e, ho, hg, h1⟩
  · exact .inl h
  · exact .inr ⟨g, cur, e, hO g ho, (hw g ho).trans hg, h1⟩
theorem Spl.toRec {w : World} {O : Nat → Prop} {v : Value} {d : List UInt8} (h : Spl w O v d) : Rec w O v d := by
  rcases h with ⟨rfl, rfl⟩ | ⟨g, cur, e, ho, hg, h1, h2, h3⟩
  · exact ⟨none, 0, rfl, Nat.le_refl _, by simp [maxLen], fun h => absurd h (Nat.lt_irrefl _)⟩
  · exact ⟨_, _, e, h1, h2, fun _ => ⟨g, cur, rfl, ho, hg, h3⟩⟩
theorem Spl.row {w : World} {O : Nat → Prop} {v : Value} {d : List UInt8} (h : Spl w O v d) : Row w.heap.size w v d := h.toRec.row
theorem Spl.new {w : World} {O : Nat → Prop} {v : Value} {d : List UInt8} {lo : Nat} {L : List (Nat × Obj)} (h : NewData lo L v d) (hL : ∀ p ∈ L, w.heap[p.1]? = some p.2) (hO : ∀ p ∈ L, O p.1) : Spl w O v d := by
  rcases h with ⟨_, rfl, rfl⟩ | ⟨g, cap, cur, rfl, rfl, _, h1, h2, h3, h4⟩
  · exact .inl ⟨rfl, rfl⟩
  · exact .inr ⟨g, cur, by rw [h3], hO _ (List.mem_singleton.2 rfl), hL _ (List.mem_singleton.2 rfl), by omega, by omega, prefix_of_take h4⟩
/-- Copies of records in a new row; all in new blocks. -/
structure CpR (w W : World) (ds : List (List UInt8)) (k : Nat) : Prop where
  bel : Below w.heap.size w W
  row : ∃ cur : Array Value, W.heap[w.heap.size]? = some (.cells cur 39 (0, 0)) ∧ cur.size = ds.length ∧ ∀ i d, i < k → ds[i]? = some d → ∃ x, cur[i]? = some x ∧ Spl W (fun q => w.heap.size < q ∧ q < W.heap.size) x d
theorem CpR.first (w : World) (ds : List (List UInt8)) (cur : Array Value) (h : cur.size = ds.length) : CpR w (w.alloc (.cells cur 39)) ds 0 :=
  ⟨(Below.refl _ _).alloc (Nat.le_refl _) _, cur, heap_alloc_new w _, h, fun _ _ h => absurd h (Nat.not_lt_zero _)⟩
theorem CpR.step {w W : World} {ds : List (List UInt8)} {k : Nat} (h : CpR w W ds k) (hk : k < ds.length) {W1 : World} {L : List (Nat × Obj)} {x : Value} (hnd : NewData W.heap.size L x ds[k]) (hb : Below W.heap.size W W1) (hL : ∀ p ∈ L, W1.heap[p.1]? = some p.2) :
    (∃ u, W1.cell? ⟨w.heap.size, k, none⟩ = some u) ∧ W1.frozen? ⟨w.heap.size, k, none⟩ = false ∧ CpR w (W1.setCell ⟨w.heap.size, k, none⟩ x) ds (k + 1) := by
  obtain ⟨cur, hc, hs, hr⟩ := h.row
  have hbl : w.heap.size < W.heap.size := (Array.getElem?_eq_some_iff.1 hc).1
  have hc1 : W1.heap[w.heap.size]? = some (.cells cur 39 (0, 0)) := by rw [hb.block _ hbl]; exact hc
  have hz := hb.size
  have hks : k < cur.size := by omega
  have hset : ∀ b, b ≠ w.heap.size → (W1.setCell ⟨w.heap.size, k, none⟩ x).heap[b]? = W1.heap[b]? := fun b hb => set_other _ _ _ _ _ hb
  refine ⟨⟨cur[k], by simp [World.cell?, hc1, hks]⟩, by simp [World.frozen?, hc1], ⟨h.bel.os ▸ hb.os, h.bel.tape ▸ hb.tape, h.bel.output ▸ hb.output, by rw [size_set]; exact Nat.le_trans h.bel.size hz, fun b hb' => ?_⟩, cur.set k x hks, ?_, by simp [hs], fun i d hi hd => ?_⟩
  · rw [hset b (by omega), hb.block b (by omega)]; exact h.bel.block b hb'
  · simp [World.setCell, Array.getElem?_modify, hc1, Array.setIfInBounds, hks]
  · by_cases hik : i = k
    · subst hik
      refine ⟨x, by simp, ?_⟩
      have hd' : ds[i] = d := by rw [List.getElem?_eq_getElem hk] at hd; exact Option.some.inj hd
      rw [hd'] at hnd
      refine (Spl.new (O := fun q => w.heap.size < q ∧ q < W1.heap.size) hnd hL (fun p hp => ?_)).kept (fun q o => by rw [size_set]; exact o) (fun q o => hset q (by have := o.1; omega))
      have h4 := hL p hp
      rcases hnd with ⟨rfl, _⟩ | ⟨g, cap, cur2, rfl, _, hlo, _⟩
      · cases hp
      · have := List.mem_singleton.1 hp
        subst this
        exact ⟨by show w.heap.size < g; omega, (Array.getElem?_eq_some_iff.1 h4).1⟩
    · obtain ⟨y, hy, hR⟩ := hr i d (by omega) hd
      refine ⟨y, by rw [Array.getElem?_set_ne _ (by omega)]; exact hy, hR.kept (fun q o => ⟨o.1, by rw [size_set]; have := o.2; omega⟩) (fun q o => (hset q (by have := o.1; omega)).trans (hb.block q o.2))⟩
set_option maxRecDepth 20000 in
set_option maxHeartbeats 1000000 in
theorem copied_ok (q : Nat) (O : Nat → Prop) (rv : Value) (ds : List (List UInt8)) (w : World) (hq : w.cell? ⟨q, 1, none⟩ = some rv) (hR : Recs w O rv ds) (hO : ∀ b, O b → b < w.heap.size) (hl : ds.length ≤ 100000) (hwt : wt ds ≤ 10000000) :
    Calls Tryz.prog 53 #[.pointer (some ⟨q, 0, none⟩)] w fun e w' => e = .returned (.slice (some ⟨w.heap.size, 0, none⟩) ds.length ds.length) ∧ CpR w w' ds ds.length := by
  obtain ⟨ra, rc, erv⟩ := hR.shape
  obtain ⟨N, hN⟩ : ∃ N, N = ds.length := ⟨_, rfl⟩
  have hNb : N ≤ 100000 := by omega
  obtain ⟨i39, z39, hi, hz, hsz, hby, hzs⟩ := info39
  have hmk : (Instr.makeSlice 34 (.int .i64 (N : Int)) (.int .i64 (N : Int))).run Tryz.prog w = .ok (.slice (some ⟨w.heap.size, 0, none⟩) N N) (w.alloc (.cells (madeCells z39.cells (N * 1)) 39)) := by
    have := run_make (P := Tryz.prog) w 34 39 i39 z39 Tryz.underlying34 hi hz .i64 .i64 (N : Int) (N : Int) (by omega) (by omega) (by rw [hby]; omega) (by omega)
    rw [hsz] at this
    simpa using this
  obtain ⟨WA, hWA⟩ : ∃ WA, WA = w.alloc (.cells (madeCells z39.cells (N * 1)) 39) := ⟨_, rfl⟩
  rw [← hWA] at hmk
  have hq1 : WA.cell? ⟨q, 1, none⟩ = some rv := by
    have hb : Below w.heap.size w WA := by rw [hWA]; exact (Below.refl _ _).alloc (Nat.le_refl _) _
    rw [hb.cell (p := ⟨q, 1, none⟩) (cellLt hq)]; exact hq
  obtain ⟨T, hT0, hTs, hTe⟩ : ∃ T : World → Nat → Prop, T WA 0 ∧ (∀ W k, T W k → k < N → ∃ (g B : Nat) (x : Option Addr) (y : Nat), ra = some ⟨g, 0, none⟩ ∧ W.cell? ⟨g, k, none⟩ = some (.slice x B y) ∧ Calls Tryz.prog 57 #[.slice x B y] W fun e W1 => ∃ a' c' u, e = .returned (.slice a' B c') ∧ W1.cell? ⟨w.heap.size, k, none⟩ = some u ∧ W1.frozen? ⟨w.heap.size, k, none⟩ = false ∧ T (W1.setCell ⟨w.heap.size, k, none⟩ (.slice a' B c')) (k + 1)) ∧ ∀ W, T W N → CpR w W ds ds.length := by
    refine ⟨fun W k => CpR w W ds k, ?_, fun W k hT hk => ?_, fun W hT => by rw [← hN]; exact hT⟩
    · rw [hWA]
      exact CpR.first w ds _ (by rw [size_madeCells]; omega)
    · subst erv
      have hk' : k < ds.length := by omega
      obtain ⟨g, x, y, ea, hOg, hc, hRc⟩ := hR.cell k hk'
      have hgl := hO g hOg
      have hRW : Rec W O (.slice x ds[k].length y) ds[k] := hRc.kept (fun _ o => o) (fun b o => hT.bel.block b (hO b o))
      have hB := wt_mem (List.getElem_mem hk')
      refine ⟨g, ds[k].length, x, y, ea, by rw [hT.bel.cell (p := ⟨g, k, none⟩) hgl]; exact hc, ?_⟩
      refine (bclone_new W.heap.size x ds[k].length y ds[k] W hRW.row rfl (Nat.le_refl _) (by omega)).mono fun e W1 ⟨a', c', L, e1, h1, h2, h3⟩ => ?_
      obtain ⟨⟨u, hu⟩, hf, hst⟩ := hT.step hk' h1 h2 h3
      exact ⟨a', c', u, e1, hu, hf, hst⟩
  have HS := hide hTs
  have HE := hide hTe
  have HNb := hide hNb
  have HWA := hide hWA
  subst erv
  rw [← hN] at hq hq1 ⊢
  rw [← hN] at HE
  clear hR hO hl hwt hi hz hsz hby hzs hTs hTe hNb hWA hN
  go_enter Tryz.func53, Tryz.ntmps53
  go_wp2_with fail

  go_loopw [17] (fun i wr => ∃ k : Nat, k ≤ N ∧ i = .int .i64 k ∧ T wr k) (fun i _ => N - (intOf i).toNat)
  case atStart => exact ⟨0, Nat.zero_le _, rfl, hT0⟩
  case round =>
    obtain ⟨k, hk, rfl, hT⟩ := hrel
    by_cases hlt : k < N
    · obtain ⟨g, B, x, y, rfl, hcell, hcl⟩ := unhide HS _ k hT hlt
      have HCl := hide hcl
      have hlt2 : (k : Int) < (N : Int) := by omega
      clear hcl HS HE hT0 hT hk
      go_wp2_with fail
      refine (unhide HCl).mono ?_
      rintro e w5 ⟨a', c', u, rfl, hu, hf, hT5⟩
      go_wp2_with fail
      have hNb := unhide HNb
      have e1 : Go.RowKit.wrap64 ((k : Int) + 1) = ((k + 1 : Nat) : Int) := by unfold Go.RowKit.wrap64; omega
      rw [e1]
      exact ⟨⟨k + 1, by omega, rfl, hT5⟩, by simp only [intOf, Int.toNat_natCast]; omega⟩
    · obtain rfl : k = N := by omega
      have HE2 := hide (unhide HE _ hT)
      clear HS HE hT0 hT hk
      go_wp2_with fail
      go_ret
      exact ⟨rfl, unhide HE2⟩
end Go.Proofs.YtebcmicmklpflaaGreatDoor
/- Groups: all groups are copied. -/
namespace Go.Proofs.YtebcmicmklpflaaGreatDoor
open Go.RowKit Go.Maps
set_option linter.unusedSimpArgs false
/-- A row of records of its own, behind lo. -/
def CpB (lo : Nat) (W : World) (b : Nat) (ds : List (List UInt8)) : Prop := ∃ cur : Array Value, W.heap[b]? = some (.cells cur 39 (0, 0)) ∧ cur.size = ds.length ∧ ∀ (i : Nat) (d : List UInt8), ds[i]? = some d → ∃ x, cur[i]? = some x ∧ Spl W (fun q => lo < q ∧ q < W.heap.size) x d
theorem CpB.kept {lo : Nat} {W W' : World} {b : Nat} {ds : List (List UInt8)} (h : CpB lo W b ds) (hz : W.heap.size ≤ W'.heap.size) (hb : lo < b) (hw : ∀ q, lo < q → q < W.heap.size → W'.heap[q]? = W.heap[q]?) : CpB lo W' b ds := by
  obtain ⟨cur, h1, h2, h3⟩ := h
  refine ⟨cur, (hw b hb (Array.getElem?_eq_some_iff.1 h1).1).trans h1, h2, fun i d hd => ?_⟩
  obtain ⟨x, hx, hR⟩ := h3 i d hd
  exact ⟨x, hx, hR.kept (fun q o => ⟨o.1, by have := o.2; omega⟩) (fun q o => hw q o.1 o.2)⟩
theorem CpR.cpb {w W : World} {ds : List (List UInt8)} {lo : Nat} (h : CpR w W ds ds.length) (hlo : lo < w.heap.size) : CpB lo W w.heap.size ds := by
  obtain ⟨cur, h1, h2, h3⟩ := h.row
  refine ⟨cur, h1, h2, fun i d hd => ?_⟩
  obtain ⟨x, hx, hR⟩ := h3 i d (List.getElem?_eq_some_iff.1 hd).1 hd
  exact ⟨x, hx, hR.kept (fun q o => ⟨by have := o.1; omega, o.2⟩) (fun _ _ => rfl)⟩
/-- Copies of groups in a new row; all in new blocks. -/
structure CpG (w W : World) (G : List (List (List UInt8))) (k : Nat) : Prop where
  bel : Below w.heap.size w W
  row : ∃ cur : Array Value, W.heap[w.heap.size]? = some (.cells cur 34 (0, 0)) ∧ cur.size = G.length ∧ ∀ i ds, i < k → G[i]? = some ds → ∃ b, cur[i]? = some (.slice (some ⟨b, 0, none⟩) ds.length ds.length) ∧ w.heap.size < b ∧ CpB w.heap.size W b ds
theorem CpG.first (w : World) (G : List (List (List UInt8))) (cur : Array Value) (h : cur.size = G.length) : CpG w (w.alloc (.cells cur 34)) G 0 :=
  ⟨(Below.refl _ _).alloc (Nat.le_refl _) _, cur, heap_alloc_new w _, h, fun _ _ h => absurd h (Nat.not_lt_zero _)⟩
theorem CpG.step {w W : World} {G : List (List (List UInt8))} {k : Nat} (h : CpG w W G k) (hk : k < G.length) {W1 : World} (hc : CpR W W1 G[k] G[k].length) :
    (∃ u, W1.cell? ⟨w.heap.size, k, none⟩ = some u) ∧ W1.frozen? ⟨w.heap.size, k, none⟩ = false ∧ CpG w (W1.setCell ⟨w.heap.size, k, none⟩ (.slice (some ⟨W.heap.size, 0, none⟩) G[k].length G[k].length)) G (k + 1) := by
  obtain ⟨cur, hcu, hs, hr⟩ := h.row
  have hb := hc.bel
  have hbl : w.heap.size < W.heap.size := (Array.getElem?_eq_some_iff.1 hcu).1
  have hc1 : W1.heap[w.heap.size]? = some (.cells cur 34 (0, 0)) := by rw [hb.block _ hbl]; exact hcu
  have hz := hb.size
  have hks : k < cur.size := by omega
  have hset : ∀ b, b ≠ w.heap.size → (W1.setCell ⟨w.heap.size, k, none⟩ (.slice (some ⟨W.heap.size, 0, none⟩) G[k].length G[k].length)).heap[b]? = W1.heap[b]? := fun b hb => set_other _ _ _ _ _ hb
  refine ⟨⟨cur[k], by simp [World.cell?, hc1, hks]⟩, by simp [World.frozen?, hc1], ⟨h.bel.os ▸ hb.os, h.bel.tape ▸ hb.tape, h.bel.output ▸ hb.output, by rw [size_set]; exact Nat.le_trans h.bel.size hz, fun b hb' => ?_⟩, cur.set k (.slice (some ⟨W.heap.size, 0, none⟩) G[k].length G[k].length) hks, ?_, by simp [hs], fun i d hi hd => ?_⟩
  · rw [hset b (by omega), hb.block b (by omega)]; exact h.bel.block b hb'
  · simp [World.setCell, Array.getElem?_modify, hc1, Array.setIfInBounds, hks]
  · by_cases hik : i = k
    · subst hik
      have hd' : G[i] = d := by rw [List.getElem?_eq_getElem hk] at hd; exact Option.some.inj hd
      rw [hd'] at hc hset ⊢
      exact ⟨W.heap.size, by simp, hbl, (hc.cpb hbl).kept (by rw [size_set]; exact Nat.le_refl _) hbl (fun q o _ => hset q (by omega))⟩
    · obtain ⟨b, hy, hb2, hR⟩ := hr i d (by omega) hd
      exact ⟨b, by rw [Array.getElem?_set_ne _ (by omega)]; exact hy, hb2, hR.kept (by rw [size_set]; exact hz) hb2 (fun q o o2 => (hset q (by omega)).trans (hb.block q o2))⟩
set_option maxRecDepth 20000 in
theorem info34 : ∃ i z, Tryz.prog.info? 34 = some i ∧ i.zero = some z ∧ i.size = 1 ∧ i.bytes = 24 ∧ z.cells.size = 1 := by
  have h : (Tryz.prog.info? 34).map (fun i => (i.zero.map (fun z => z.cells.size), i.size, i.bytes)) = some (some 1, 1, 24) := by kernel_rfl
  cases hq : Tryz.prog.info? 34 with
  | none => simp [hq] at h
  | some i =>
    simp [hq] at h
    obtain ⟨⟨z, hz, h1⟩, h2, h3⟩ := h
    exact ⟨i, z, rfl, hz, h2, h3, h1⟩
set_option maxRecDepth 20000 in
set_option maxHeartbeats 1000000 in
theorem groups_ok (j f : Nat) (nm : ByteArray) (J : Jn) (O : Nat → Prop) (gv lv : Value) (qs : List Nat) (w : World) (h : GM w j f nm J O gv lv qs) (hl : J.G.length ≤ 100000) (hds : ∀ d ∈ J.G, d.length ≤ 100000 ∧ wt d ≤ 10000000) :
    Calls Tryz.prog 18 #[.pointer (some ⟨j, 0, none⟩)] w fun e w' => e = .returned (.slice (some ⟨w.heap.size, 0, none⟩) J.G.length J.G.length) ∧ CpG w w' J.G J.G.length := by
  obtain ⟨ga, gc, egv⟩ := h.shapes
  have hq := (jn_cells h.blk).2.2.2.1
  have hqn : qs.length = J.G.length := h.ch.len
  obtain ⟨N, hN⟩ : ∃ N, N = J.G.length := ⟨_, rfl⟩
  have hNb : N ≤ 100000 := by omega
  obtain ⟨i34, z34, hi, hz, hsz, hby, hzs⟩ := info34
  have hmk : (Instr.makeSlice 33 (.int .i64 (N : Int)) (.int .i64 (N : Int))).run Tryz.prog w = .ok (.slice (some ⟨w.heap.size, 0, none⟩) N N) (w.alloc (.cells (madeCells z34.cells (N * 1)) 34)) := by
    have := run_make (P := Tryz.prog) w 33 34 i34 z34 Tryz.underlying33 hi hz .i64 .i64 (N : Int) (N : Int) (by omega) (by omega) (by rw [hby]; omega) (by omega)
    rw [hsz] at this
    simpa using this
  obtain ⟨WA, hWA⟩ : ∃ WA, WA = w.alloc (.cells (madeCells z34.cells (N * 1)) 34) := ⟨_, rfl⟩
  rw [← hWA] at hmk
  have hq1 : WA.cell? ⟨j, 6, none⟩ = some gv := by
    have hb : Below w.heap.size w WA := by rw [hWA]; exact (Below.refl _ _).alloc (Nat.le_refl _) _
    rw [hb.cell (p := ⟨j, 6, none⟩) (cellLt hq)]; exact hq
  obtain ⟨T, hT0, hTs, hTe⟩ : ∃ T : World → Nat → Prop, T WA 0 ∧ (∀ W k, T W k → k < N → ∃ (g q B b : Nat), ga = some ⟨g, 0, none⟩ ∧ W.cell? ⟨g, k, none⟩ = some (.pointer (some ⟨q, 0, none⟩)) ∧ Calls Tryz.prog 53 #[.pointer (some ⟨q, 0, none⟩)] W fun e W1 => ∃ u, e = .returned (.slice (some ⟨b, 0, none⟩) B B) ∧ W1.cell? ⟨w.heap.size, k, none⟩ = some u ∧ W1.frozen? ⟨w.heap.size, k, none⟩ = false ∧ T (W1.setCell ⟨w.heap.size, k, none⟩ (.slice (some ⟨b, 0, none⟩) B B)) (k + 1)) ∧ ∀ W, T W N → CpG w W J.G J.G.length := by
    refine ⟨fun W k => CpG w W J.G k, ?_, fun W k hT hk => ?_, fun W hT => by rw [← hN]; exact hT⟩
    · rw [hWA]
      exact CpG.first w J.G _ (by rw [size_madeCells]; omega)
    · subst egv
      have hk' : k < J.G.length := by omega
      have hrow := h.row
      rw [← hqn] at hrow
      obtain ⟨g, c, eg⟩ := row_cell hrow (by omega)
      injection eg with eg1 _ _
      have e1 : qs[k]? = some qs[k] := List.getElem?_eq_getElem (by omega)
      have e2 : J.G[k]? = some J.G[k] := List.getElem?_eq_getElem hk'
      have hd := hds _ (List.getElem_mem hk')
      rw [eg1] at hrow
      have hc := row_at hrow k _ e1
      obtain ⟨_, rv, hqb, hRv⟩ := h.ch.nth0 k _ _ e1 e2
      have hql : qs[k] < w.heap.size := (Array.getElem?_eq_some_iff.1 hqb).1
      have hRW : Recs W O rv J.G[k] := hRv.kept (fun _ o => o) (fun b o => hT.bel.block b (h.lt b o))
      have hqW : W.heap[qs[k]]? = some (grpBlk (lastq (qs.take k)) rv 1 0 (nats (dig (digs z32 (J.G.take k)) J.G[k]))) := by rw [hT.bel.block _ hql]; exact hqb
      refine ⟨g, qs[k], J.G[k].length, W.heap.size, eg1, by rw [hT.bel.cell (p := ⟨g, k, none⟩) (cellLt hc)]; exact hc, ?_⟩
      refine (copied_ok qs[k] O rv J.G[k] W (grp_cells hqW).2.1 hRW (fun b o => Nat.lt_of_lt_of_le (h.lt b o) hT.bel.size) hd.1 hd.2).mono fun e W1 ⟨e1, hc1⟩ => ?_
      obtain ⟨⟨u, hu⟩, hf, hst⟩ := hT.step hk' hc1
      exact ⟨u, e1, hu, hf, hst⟩
  have HS := hide hTs
  have HE := hide hTe
  have HNb := hide hNb
  subst egv
  rw [← hN] at hq hq1 ⊢
  rw [← hN] at HE
  clear h hl hds hi hz hsz hby hzs hTs hTe hNb hWA hN hqn
  go_enter Tryz.func18, Tryz.ntmps18
  go_wp2_with fail
  go_loopw [19] (fun i wr => ∃ k : Nat, k ≤ N ∧ i = .int .i64 k ∧ T wr k) (fun i _ => N - (intOf i).toNat)
  case atStart => exact ⟨0, Nat.zero_le _, rfl, hT0⟩
  case round =>
    obtain ⟨k, hk, rfl, hT⟩ := hrel
    by_cases hlt : k < N
    · obtain ⟨g, q, B, b, rfl, hcell, hcl⟩ := unhide HS _ k hT hlt
      have HCl := hide hcl
      have hlt2 : (k : Int) < (N : Int) := by omega
      clear hcl HS HE hT0 hT hk
      go_wp2_with fail
      refine (unhide HCl).mono ?_
      rintro e w5 ⟨u, rfl, hu, hf, hT5⟩
      go_wp2_with fail
      have hNb := unhide HNb
      have e1 : Go.RowKit.wrap64 ((k : Int) + 1) = ((k + 1 : Nat) : Int) := by unfold Go.RowKit.wrap64; omega
      rw [e1]
      exact ⟨⟨k + 1, by omega, rfl, hT5⟩, by simp only [intOf, Int.toNat_natCast]; omega⟩
    · obtain rfl : k = N := by omega
      have HE2 := hide (unhide HE _ hT)
      clear HS HE hT0 hT hk
      go_wp2_with fail
      go_ret
      exact ⟨rfl, unhide HE2⟩
end Go.Proofs.YtebcmicmklpflaaGreatDoor
/- same: two rows of bytes. -/
namespace Go.Proofs.YtebcmicmklpflaaGreatDoor
open Go.RowKit Go.Maps
set_option linter.unusedSimpArgs false
theorem Row.at {hi : Nat} {w : World} {a : Option Addr} {n c : Nat} {d : List UInt8} (h : Row hi w (.slice a n c) d) (hn : d.length = n) (i : Nat) (hi' : i < n) : ∃ g o, a = some ⟨g, o, none⟩ ∧ w.cell? ⟨g, o + i, none⟩ = some (.int .u8 (((d.getD i 0).toNat : Nat) : Int)) := by
  obtain ⟨a', c', e, _, hx⟩ := h
  injection e with e1
  obtain ⟨g, o, ea, _, hcell⟩ := hx (by omega)
  refine ⟨g, o, e1.trans ea, hcell i _ ?_⟩
  unfold byteVals
  rw [List.getElem?_map, List.getElem?_eq_getElem (by omega), List.getD_eq_getElem?_getD, List.getElem?_eq_getElem (by omega)]
  rfl
theorem u8_inj {a b : UInt8} (h : a.toNat = b.toNat) : a = b := UInt8.toNat_inj.1 h
theorem bytes_eq_of {xs ys : List UInt8} (hl : xs.length = ys.length) (h : ∀ j, j < xs.length → (xs.getD j 0).toNat = (ys.getD j 0).toNat) : xs = ys := by
  apply List.ext_getElem hl
  intro i h1 h2
  have := h i h1
  rw [List.getD_eq_getElem?_getD, List.getD_eq_getElem?_getD, List.getElem?_eq_getElem h1, List.getElem?_eq_getElem h2] at this
  exact u8_inj this
set_option maxRecDepth 20000 in
set_option maxHeartbeats 1000000 in
theorem same_any (hi hj : Nat) (a b : Option Addr) (n m c d : Nat) (xs ys : List UInt8) (w : World) (hx : Row hi w (.slice a n c) xs) (hy : Row hj w (.slice b m d) ys) (hn : xs.length = n) (hm : ys.length = m) (hmax : n ≤ 100000000) (hmax2 : m ≤ 100000000) :
    Calls Tryz.prog 31 #[.slice a n c, .slice b m d] w fun e w' => (∃ q, w' = w.drewN q) ∧ e = .returned (.bool (decide (xs = ys))) := by
  by_cases hnm : n = m
  case neg =>
    have hD : decide (xs = ys) = false := decide_eq_false (fun e => hnm (by rw [← hn, ← hm, e]))
    have e1 : ((n : Int) == (m : Int)) = false := by rw [beq_eq_false_iff_ne]; omega
    rw [hD]
    clear hx hy hnm hn hm
    go_enter Tryz.func31, Tryz.ntmps31
    go_wp2_with fail
    go_ret
    exact ⟨⟨0, rfl⟩, rfl⟩
  case pos =>
  subst hnm
  have HX : Hid (∀ i, i < n → ∃ g o, a = some ⟨g, o, none⟩ ∧ w.cell? ⟨g, o + i, none⟩ = some (.int .u8 (((xs.getD i 0).toNat : Nat) : Int))) := fun i hi => hx.at hn i hi
  have HY : Hid (∀ i, i < n → ∃ g o, b = some ⟨g, o, none⟩ ∧ w.cell? ⟨g, o + i, none⟩ = some (.int .u8 (((ys.getD i 0).toNat : Nat) : Int))) := fun i hi => hy.at hm i hi
  have HN := hide (And.intro hn hm)
  clear hx hy hn hm
  go_enter Tryz.func31, Tryz.ntmps31
  go_wp2_with fail
  go_loopw [5] (fun vi wr => ∃ i : Nat, i ≤ n ∧ vi = .int .i64 (i : Int) ∧ (∃ q, wr = w.drewN q) ∧ Hid (∀ j, j < i → (xs.getD j 0).toNat = (ys.getD j 0).toNat)) (fun vi _ => n - (intOf vi).toNat)
  case atStart => exact ⟨0, by omega, rfl, ⟨0, rfl⟩, fun j h => by omega⟩
  case round =>
    obtain ⟨i, hin, rfl, ⟨q, rfl⟩, hlo⟩ := hrel
    by_cases hlt : i < n
    · obtain ⟨g, o, rfl, hcx⟩ := unhide HX i hlt
      obtain ⟨g', o', rfl, hcy⟩ := unhide HY i hlt
      by_cases he : (xs.getD i 0).toNat = (ys.getD i 0).toNat
      · rw [← he] at hcy
        have hlo' : Hid (∀ j, j < i + 1 → (xs.getD j 0).toNat = (ys.getD j 0).toNat) := fun j hj => by
          rcases Nat.lt_or_ge j i with h | h
          · exact unhide hlo j h
          · obtain rfl : j = i := by omega
            exact he
        clear he hlo
        generalize (xs.getD i 0).toNat = z at hcx hcy
        go_wp2_with fail
        go_quiet (fail)
        go_wp2_with fail
        go_roundw
        case rel => exact ⟨i + 1, by omega, by go_num, ⟨_, rfl⟩, hlo'⟩
        case measure => simp [intOf]; try omega
      · have hne : ((((xs.getD i 0).toNat : Nat) : Int) == (((ys.getD i 0).toNat : Nat) : Int)) = false := by
          rw [beq_eq_false_iff_ne]; omega
        have hD : decide (xs = ys) = false := decide_eq_false (fun e => he (by rw [e]))
        have HD := hide hD
        clear he hlo hD
        generalize (xs.getD i 0).toNat = z at hcx hne
        generalize (ys.getD i 0).toNat = z' at hcy hne
        go_wp2_with fail
        go_quiet (fail)
        go_wp2_with fail
        go_ret
        exact ⟨⟨_, World.drewN_drewN _ _ _⟩, by rw [unhide HD]; rfl⟩
    · obtain rfl : i = n := by omega
      have hD : decide (xs = ys) = true := decide_eq_true (bytes_eq_of ((unhide HN).1.trans (unhide HN).2.symm) (fun j hj => unhide hlo j (by have := (unhide HN).1; omega)))
      have HD := hide hD
      clear hD
      go_wp2_with fail
      go_ret
      exact ⟨⟨_, rfl⟩, by rw [unhide HD]; rfl⟩
end Go.Proofs.YtebcmicmklpflaaGreatDoor
/- Two lists of groups that are the same. -/
namespace Go.Proofs.YtebcmicmklpflaaGreatDoor
open Go.RowKit Go.Maps
set_option linter.unusedSimpArgs false
/-- Rows of records in memory, to be read. -/
def RR (w : World) (v : Value) (G : List (List (List UInt8))) : Prop := ∃ a c, v = .slice a G.length c ∧ ∀ (i : Nat) (ds : List (List UInt8)), G[i]? = some ds → ∃ b0 a' c', a = some ⟨b0, 0, none⟩ ∧ w.cell? ⟨b0, i, none⟩ = some (.slice a' ds.length c') ∧ ∀ (k : Nat) (d : List UInt8), ds[k]? = some d → ∃ b1 x y, a' = some ⟨b1, 0, none⟩ ∧ w.cell? ⟨b1, k, none⟩ = some (.slice x d.length y) ∧ Row w.heap.size w (.slice x d.length y) d
theorem CpG.rr {w W : World} {G : List (List (List UInt8))} (h : CpG w W G G.length) : RR W (.slice (some ⟨w.heap.size, 0, none⟩) G.length G.length) G := by
  obtain ⟨cur, h1, h2, h3⟩ := h.row
  refine ⟨_, _, rfl, fun i ds hi => ?_⟩
  obtain ⟨b, hb, hlo, cur2, k1, k2, k3⟩ := h3 i ds (List.getElem?_eq_some_iff.1 hi).1 hi
  refine ⟨w.heap.size, some ⟨b, 0, none⟩, ds.length, rfl, by simp only [World.cell?, h1]; exact hb, fun k d hd => ?_⟩
  obtain ⟨x, hx, hR⟩ := k3 k d hd
  have hrow := hR.row
  obtain ⟨x', y', e, _⟩ := id hR.toRec
  subst e
  refine ⟨b, x', y', rfl, by simp only [World.cell?, k1]; exact hx, ?_⟩
  obtain ⟨a1, c1, e1, e2, e3⟩ := hrow
  exact ⟨a1, c1, e1, e2, fun h0 => by obtain ⟨g, o, g1, g2, g3⟩ := e3 h0; exact ⟨g, o, g1, g2, g3⟩⟩
/-- What the walk asks for. -/
theorem rr_two {w : World} {a b : Option Addr} {n m c d : Nat} {G : List (List (List UInt8))} (ha : RR w (.slice a n c) G) (hb : RR w (.slice b m d) G) (hG : ∀ ds ∈ G, ds.length ≤ 100000 ∧ ∀ x ∈ ds, x.length ≤ 100000000) : ∀ i, i < G.length → ∃ (b0 b1 L c0 c1 : Nat) (a0 a1 : Option Addr), a = some ⟨b0, 0, none⟩ ∧ b = some ⟨b1, 0, none⟩ ∧ L ≤ 100000 ∧ w.cell? ⟨b0, i, none⟩ = some (.slice a0 L c0) ∧ w.cell? ⟨b1, i, none⟩ = some (.slice a1 L c1) ∧ ∀ k, k < L → ∃ (e0 e1 M y0 y1 : Nat) (x0 x1 : Option Addr), a0 = some ⟨e0, 0, none⟩ ∧ a1 = some ⟨e1, 0, none⟩ ∧ w.cell? ⟨e0, k, none⟩ = some (.slice x0 M y0) ∧ w.cell? ⟨e1, k, none⟩ = some (.slice x1 M y1) ∧ ∀ p, Calls Tryz.prog 31 #[.slice x0 M y0, .slice x1 M y1] (w.drewN p) fun e w' => (∃ q, w' = (w.drewN p).drewN q) ∧ e = .returned (.bool true) := fun i hi => by
  obtain ⟨a', c', ea, h1⟩ := ha
  obtain ⟨b', d', eb, h2⟩ := hb
  injection ea with ea _ _
  injection eb with eb _ _
  subst ea eb
  have e2 : G[i]? = some G[i] := List.getElem?_eq_getElem hi
  obtain ⟨b0, a0, c0, f1, f2, f3⟩ := h1 i _ e2
  obtain ⟨b1, a1, c1, g1, g2, g3⟩ := h2 i _ e2
  have hd := hG _ (List.getElem_mem hi)
  refine ⟨b0, b1, G[i].length, c0, c1, a0, a1, f1, g1, hd.1, f2, g2, fun k hk => ?_⟩
  have e3 : G[i][k]? = some G[i][k] := List.getElem?_eq_getElem hk
  obtain ⟨e0, x0, y0, f4, f5, f6⟩ := f3 k _ e3
  obtain ⟨e1, x1, y1, g4, g5, g6⟩ := g3 k _ e3
  have hm := hd.2 _ (List.getElem_mem hk)
  refine ⟨e0, e1, G[i][k].length, y0, y1, x0, x1, f4, g4, f5, g5, fun p => ?_⟩
  refine (same_any w.heap.size w.heap.size x0 x1 _ _ y0 y1 G[i][k] G[i][k] (w.drewN p) f6 g6 rfl rfl hm hm).mono fun e w' ⟨h5, h6⟩ => ⟨h5, by rw [h6]; simp⟩
set_option maxRecDepth 20000 in
set_option maxHeartbeats 2000000 in
theorem groups_true (a b : Option Addr) (c d : Nat) (G : List (List (List UInt8))) (w : World) (ha : RR w (.slice a G.length c) G) (hb : RR w (.slice b G.length d) G) (hl : G.length ≤ 100000) (hG : ∀ ds ∈ G, ds.length ≤ 100000 ∧ ∀ x ∈ ds, x.length ≤ 100000000) :
    Calls Tryz.prog 19 #[.slice a G.length c, .slice b G.length d] w fun e w' => e = .returned (.bool true) ∧ ∃ q, w' = w.drewN q := by
  have HT := hide (rr_two ha hb hG)
  obtain ⟨N, hN⟩ : ∃ N, N = G.length := ⟨_, rfl⟩
  have HNb := hide (show N ≤ 100000 by omega)
  rw [← hN] at HT ⊢
  clear ha hb hl hG hN
  go_enter Tryz.func19, Tryz.ntmps19
  go_wp2_with fail
  go_loopw [5] (fun i wr => ∃ k p : Nat, k ≤ N ∧ i = .int .i64 k ∧ wr = w.drewN p) (fun i _ => N - (intOf i).toNat)
  case atStart => exact ⟨0, 0, Nat.zero_le _, rfl, rfl⟩
  case round =>
    obtain ⟨k, p, hk, rfl, rfl⟩ := hrel
    by_cases hlt : k < N
    · obtain ⟨b0, b1, L, c0, c1, a0, a1, rfl, rfl, hL, hc0, hc1, hin⟩ := unhide HT k hlt
      have HIn := hide hin
      have HL := hide hL
      have hlt2 : (k : Int) < (N : Int) := by omega
      clear hin HT hk hL
      go_wp2_with fail
      refine wp_region_noPanic ?_
      go_region_with fail
      all_goals
        refine NoPanic.normal ?_
        go_wp2_with fail
        go_loopw [6] (fun i wr => ∃ m q : Nat, m ≤ L ∧ i = .int .i64 m ∧ wr = w.drewN q) (fun i _ => L - (intOf i).toNat)
        case atStart => exact ⟨0, _, Nat.zero_le _, rfl, rfl⟩
        case round =>
          obtain ⟨m, q, hm, rfl, rfl⟩ := hrel
          by_cases hml : m < L
          · obtain ⟨e0, e1, M, y0, y1, x0, x1, rfl, rfl, hd0, hd1, hsame⟩ := unhide HIn m hml
            have HSm := hide (hsame (q + 1))
            have hml2 : (m : Int) < (L : Int) := by omega
            clear hsame HIn hm
            go_wp2_with fail
            refine wp_region_noPanic ?_
            go_region_law (go_simp; refine (unhide HSm).mono ?_; rintro e w5 ⟨⟨q2, rfl⟩, rfl⟩; simp only [])
            all_goals
              refine NoPanic.normal ?_
              go_wp2_with fail
              have hLb := unhide HL
              have e1 : Go.RowKit.wrap64 ((m : Int) + 1) = ((m + 1 : Nat) : Int) := by unfold Go.RowKit.wrap64; omega
              rw [e1]
              exact ⟨⟨m + 1, _, by omega, rfl, rfl⟩, by simp only [intOf, Int.toNat_natCast]; omega⟩
          · obtain rfl : m = L := by omega
            clear HIn hm
            go_wp2_with fail
            have hNb := unhide HNb
            have e1 : Go.RowKit.wrap64 ((k : Int) + 1) = ((k + 1 : Nat) : Int) := by unfold Go.RowKit.wrap64; omega
            rw [e1]
            exact ⟨⟨k + 1, _, by omega, rfl, rfl⟩, by simp only [intOf, Int.toNat_natCast]; omega⟩
    · obtain rfl : k = N := by omega
      clear HT hk
      go_wp2_with fail
      go_ret
      exact ⟨rfl, p, rfl⟩
end Go.Proofs.YtebcmicmklpflaaGreatDoor
/- A Crash that keeps all that is pending. -/
namespace Go.Proofs.YtebcmicmklpflaaGreatDoor
open Go.RowKit Go.Maps
set_option linter.unusedSimpArgs false
set_option maxRecDepth 20000 in
set_option maxHeartbeats 2000000 in
theorem crash_any (X : Int) (f : Nat) (S : Fs) (O : Nat → Prop) (k : Nat) (w : World) (h : FsIs w f 0 S O k) (hk : k ≤ 16000) (hX : (S.pend.length : Int) ≤ max X 0) :
    Calls Tryz.prog 27 #[.pointer (some ⟨f, 0, none⟩), .int .i64 X] w fun e w' => e = .returned (.tuple #[]) ∧ ∃ O', FsIs w' f 0 (S.lasts none) O' k ∧ FFr O O' w w' := by
  obtain ⟨K, n, l, pv, ps, hM, hnk, hex⟩ := h
  obtain ⟨h0, _, _, _, _, _, _, _, _, hz⟩ := hM.cells
  obtain ⟨W1, hW1⟩ : ∃ W1, W1 = w.setCell ⟨f, 0, none⟩ (.int .i32 1) := ⟨_, rfl⟩
  have hM1 : FsM W1 f 1 S S.pend O K n l pv ps := by rw [hW1]; exact hM.lock 1
  have HF1 : Hid (FFr O O w W1) := by rw [hW1]; exact FFr.cell hM.of _ _
  have HL0 := hide (lock_free ⟨f, 0, none⟩ w h0 (hz 0))
  rw [← hW1] at HL0
  have HS := hide (settle_all hM1 (by omega))
  obtain ⟨_, _, _, _, _, _, c7, _, _, _⟩ := hM1.cells
  have hpv : ∃ a c, pv = .slice a S.pend.length c := by
    rcases hM1.row.2 with ⟨e, e2⟩ | ⟨g, cap, cur, e, _⟩
    · exact ⟨none, 0, by rw [e, e2]⟩
    · exact ⟨_, _, e⟩
  obtain ⟨pa, pc, rfl⟩ := hpv
  have hpl := hM.pl
  clear hM hM1 hz hW1
  generalize hPL : S.pend.length = PL at *
  clear hPL
  have hp1 : (PL : Int) ≤ 16383 := by omega
  have HMin : Hid (min (max X 0) (PL : Int) = (PL : Int)) := by show min (max X 0) (PL : Int) = (PL : Int); omega
  clear hX
  go_enter_defers Tryz.func27, Tryz.ntmps27
  go_wp2_with fail
  refine (unhide HL0).mono ?_
  rintro e w' ⟨rfl, rfl⟩
  go_wp2_with fail
  rw [unhide HMin]
  refine (unhide HS).mono ?_
  rintro e w2 ⟨rfl, O2, l2, hM2, hF2⟩
  have hM3 := hM2.fuse none (by simp)
  simp only [Option.isSome_none, Option.getD_none] at hM3
  obtain ⟨g0, _, _, _, _, _, _, _, _, gz⟩ := hM3.cells
  have gz0 := gz 0
  obtain ⟨_, _, _, _, _, _, _, d8, d9, dz⟩ := hM2.cells
  have z8 := dz 8
  have z9 := dz 9
  have HE : Hid (∃ O', FsIs (((w2.setCell ⟨f, 8, none⟩ (.bool false)).setCell ⟨f, 9, none⟩ (.int .i64 ((0 : Nat) : Int))).setCell ⟨f, 0, none⟩ (.int .i32 0)) f 0 (S.lasts none) O' k ∧ FFr O O' w (((w2.setCell ⟨f, 8, none⟩ (.bool false)).setCell ⟨f, 9, none⟩ (.int .i64 ((0 : Nat) : Int))).setCell ⟨f, 0, none⟩ (.int .i32 0))) :=
    ⟨O2, ⟨K, n, l2, _, _, hM3.lock 0, hnk, hex⟩, (unhide HF1).trans (hF2.trans ((FFr.cell hM2.of _ _).trans ((FFr.cell hM2.of _ _).trans (FFr.cell hM2.of _ _))))⟩
  clear hM2 hF2 hM3 gz dz
  go_wp2_with fail
  refine leaves_cons (f := 55) (args := #[.pointer (some ⟨f, 0, none⟩)]) (by simp) (by simp [go_sem]) ?_
  refine (unlock_deferred ⟨f, 0, none⟩ .returning _ g0 gz0).mono ?_
  rintro e u' w3 ⟨rfl, rfl, rfl⟩
  exact ⟨_, results_none rfl _ _ _, rfl, unhide HE⟩
end Go.Proofs.YtebcmicmklpflaaGreatDoor
/- Two records that last together: the pieces of the law's known. -/
namespace Go.Proofs.YtebcmicmklpflaaGreatDoor
open Go.RowKit Go.Maps
set_option linter.unusedSimpArgs false
theorem JS.below {w w' : World} {f j : Nat} {nm : ByteArray} {S : Fs} {J : Jn} {U : Nat → Prop} {k : Nat} (h : JS w f j nm S J U k) (hb : Below w.heap.size w w') : JS w' f j nm S J U k := by
  obtain ⟨Of, O, OL, gv, lv, qs, hF, hJ, hdis, u1, u2, u3, u4, u5⟩ := h
  exact ⟨Of, O, OL, gv, lv, qs, hF.kept hb.size (fun q o => hb.block q (hF.lt q o)), ⟨hJ.gm.below hb, hJ.laid.kept (fun _ o => o) (fun q o => hb.block q (hJ.ltl q o)), hJ.dis, hJ.nl, fun q o => Nat.lt_of_lt_of_le (hJ.ltl q o) hb.size⟩, hdis, u1, u2, u3, u4, fun q o => Nat.lt_of_lt_of_le (u5 q o) hb.size⟩
/-- A byte in a row of its own. -/
def byteBlk (b : UInt8) : Obj := .cells #[.int .u8 (b.toNat : Int)] 5 (1, 2)
theorem row_byte (w : World) (b : UInt8) : Row (w.alloc (byteBlk b)).heap.size (w.alloc (byteBlk b)) (.slice (some ⟨w.heap.size, 0, none⟩) [b].length 1) [b] := by
  refine ⟨_, 1, rfl, Nat.le_refl _, fun _ => ⟨w.heap.size, 0, rfl, by simp, fun j u hj => ?_⟩⟩
  have hnew : (w.alloc (byteBlk b)).heap[w.heap.size]? = some (byteBlk b) := heap_alloc_new _ _
  unfold byteBlk at hnew ⊢
  simp only [World.cell?, hnew, Nat.zero_add]
  simpa [byteVals] using hj
/-- A byte is laid down. -/
theorem add_byte {w : World} {f j : Nat} {nm : ByteArray} {S : Fs} {J : Jn} {U : Nat → Prop} {k : Nat} (b : UInt8) (h : JS w f j nm S J U k) (hal : J.dead = false) (hw : wt J.D + 1 ≤ 524288) (hn : J.D.length < 4096) :
    Calls Tryz.prog 22 #[.pointer (some ⟨j, 0, none⟩), .slice (some ⟨w.heap.size, 0, none⟩) 1 1] (w.alloc (byteBlk b)) fun e w' => e = .returned (.int .i64 0) ∧ ∃ U', JS w' f j nm S (J.add [b]) U' k :=
  (add_rec (w.alloc (byteBlk b)) f j nm S J U k (some ⟨w.heap.size, 0, none⟩) 1 [b] (h.below ((Below.refl _ _).alloc (Nat.le_refl _) _)) hal (row_byte w b) hw hn).mono fun _ _ ⟨e1, U', h1, _⟩ => ⟨e1, U', h1⟩
theorem RR.below {w w' : World} {v : Value} {G : List (List (List UInt8))} (h : RR w v G) (hb : Below w.heap.size w w') : RR w' v G := by
  obtain ⟨a, c, e, h1⟩ := h
  refine ⟨a, c, e, fun i ds hi => ?_⟩
  obtain ⟨b0, a', c', e1, h2, h3⟩ := h1 i ds hi
  refine ⟨b0, a', c', e1, by rw [hb.cell (p := ⟨b0, i, none⟩) (cellLt h2)]; exact h2, fun k d hd => ?_⟩
  obtain ⟨b1, x, y, e2, h4, h5⟩ := h3 k d hd
  refine ⟨b1, x, y, e2, by rw [hb.cell (p := ⟨b1, k, none⟩) (cellLt h4)]; exact h4, ?_⟩
  obtain ⟨a1, c1, f1, f2, f3⟩ := h5.below hb
  exact ⟨a1, c1, f1, f2, fun h0 => by obtain ⟨g, o, g1, g2, g3⟩ := f3 h0; exact ⟨g, o, g1, Nat.lt_of_lt_of_le g2 hb.size, g3⟩⟩
/-- The name of known's journal. -/
def nmJ : ByteArray := ⟨#[106]⟩
def GJ : List (List (List UInt8)) := [[[97], [98]]]
/-- A FS whose only name is one. -/
theorem only_nopart {T : Tb} (h : ∀ s, s ≠ nmJ → T.N s = none) : NoPart T nmJ ∧ T.N (part1 nmJ) = none ∧ ∀ s i, T.N s = some i → s.size ≤ 300 := by
  have hone : ∀ s i, T.N s = some i → s = nmJ := fun s i hi => Classical.byContradiction fun hs => by rw [h s hs] at hi; cases hi
  refine ⟨fun s hs => ?_, h _ (fun e => absurd (congrArg ByteArray.size e) (by decide)), fun s i hi => ?_⟩
  · cases hN : T.N s with
    | none => rw [hN] at hs; cases hs
    | some i => rw [hone s i hN]; decide
  · rw [hone s i hi]; decide
end Go.Proofs.YtebcmicmklpflaaGreatDoor
/- The law's known. -/
namespace Go.Proofs.YtebcmicmklpflaaGreatDoor
open Go.RowKit Go.Maps
set_option linter.unusedSimpArgs false
/-- What was there stands; all of U is new. -/
structure Away (w W : World) (U : Nat → Prop) : Prop where
  bel : Below w.heap.size w W
  new : ∀ q, U q → w.heap.size ≤ q
theorem Away.step {w W W' : World} {U U' : Nat → Prop} (h : Away w W U) (k : FFr U U' W W') : Away w W' U' :=
  ⟨⟨k.os.trans h.bel.os, k.tape.trans h.bel.tape, k.output.trans h.bel.output, Nat.le_trans h.bel.size k.size, fun b hb => (k.rest b (Nat.lt_of_lt_of_le hb h.bel.size) (fun o => by have := h.new b o; omega)).trans (h.bel.block b hb)⟩, fun q o => (k.new q o).elim (h.new q) (fun h1 => Nat.le_trans h.bel.size h1)⟩
theorem Away.alloc {w W : World} {U : Nat → Prop} (h : Away w W U) (o : Obj) : Away w (W.alloc o) U := ⟨h.bel.trans (((Below.refl _ _).alloc (Nat.le_refl _) _).mono h.bel.size), h.new⟩
theorem add_byte' {w0 w : World} {f j : Nat} {nm : ByteArray} {S : Fs} {J : Jn} {U : Nat → Prop} {k : Nat} (b : UInt8) (ha : Away w0 w U) (h : JS w f j nm S J U k) (hal : J.dead = false) (hw : wt J.D + 1 ≤ 524288) (hn : J.D.length < 4096) :
    Calls Tryz.prog 22 #[.pointer (some ⟨j, 0, none⟩), .slice (some ⟨w.heap.size, 0, none⟩) 1 1] (w.alloc (byteBlk b)) fun e w' => e = .returned (.int .i64 0) ∧ ∃ U', JS w' f j nm S (J.add [b]) U' k ∧ Away w0 w' U' :=
  (add_rec (w.alloc (byteBlk b)) f j nm S J U k (some ⟨w.heap.size, 0, none⟩) 1 [b] (h.below ((Below.refl _ _).alloc (Nat.le_refl _) _)) hal (row_byte w b) hw hn).mono fun _ _ ⟨e1, U', h1, h2⟩ => ⟨e1, U', h1, (ha.alloc _).step h2⟩
/-- The literal that known holds against. -/
def rowBlk (p q : Nat) : Obj := .cells #[.slice (some ⟨p, 0, none⟩) 1 1, .slice (some ⟨q, 0, none⟩) 1 1] 39
def outBlk (p : Nat) : Obj := .cells #[.slice (some ⟨p, 0, none⟩) 2 2] 34
def litW (w : World) : World := (((w.alloc (byteBlk 97)).alloc (byteBlk 98)).alloc (rowBlk w.heap.size (w.heap.size + 1))).alloc (outBlk (w.heap.size + 1 + 1))
theorem lit_below (w : World) : Below w.heap.size w (litW w) := by
  unfold litW
  exact ((((Below.refl _ _).alloc (Nat.le_refl _) _).alloc (by simp) _).alloc (by simp; omega) _).alloc (by simp; omega) _
theorem lit_rr (w : World) : RR (litW w) (.slice (some ⟨w.heap.size + 1 + 1 + 1, 0, none⟩) 1 1) GJ := by
  have s0 : (w.alloc (byteBlk 97)).heap.size = w.heap.size + 1 := by simp
  have s1 : ((w.alloc (byteBlk 97)).alloc (byteBlk 98)).heap.size = w.heap.size + 1 + 1 := by simp
  have s2 : (((w.alloc (byteBlk 97)).alloc (byteBlk 98)).alloc (rowBlk w.heap.size (w.heap.size + 1))).heap.size = w.heap.size + 1 + 1 + 1 := by simp
  have b3 : (litW w).heap[w.heap.size + 1 + 1 + 1]? = some (outBlk (w.heap.size + 1 + 1)) := by
    have := heap_alloc_new (((w.alloc (byteBlk 97)).alloc (byteBlk 98)).alloc (rowBlk w.heap.size (w.heap.size + 1))) (outBlk (w.heap.size + 1 + 1))
    rw [s2] at this; exact this
  have b2 : (litW w).heap[w.heap.size + 1 + 1]? = some (rowBlk w.heap.size (w.heap.size + 1)) := by
    have := heap_alloc_new ((w.alloc (byteBlk 97)).alloc (byteBlk 98)) (rowBlk w.heap.size (w.heap.size + 1))
    rw [s1] at this
    unfold litW
    rw [Below.heap_alloc _ _ _ (by omega)]; exact this
  have r0 := (row_byte w 97).below (hi := (w.alloc (byteBlk 97)).heap.size) (w' := litW w) (by
    unfold litW
    exact (((Below.refl _ _).alloc (Nat.le_refl _) _).alloc (by simp) _).alloc (by simp) _)
  have r1 := (row_byte (w.alloc (byteBlk 97)) 98).below (hi := ((w.alloc (byteBlk 97)).alloc (byteBlk 98)).heap.size) (w' := litW w) (by
    unfold litW
    exact ((Below.refl _ _).alloc (Nat.le_refl _) _).alloc (by simp) _)
  rw [s0] at r0 r1
  have up : ∀ {hi : Nat} {v : Value} {d : List UInt8}, Row hi (litW w) v d → hi ≤ (litW w).heap.size → Row (litW w).heap.size (litW w) v d := fun h hle => by
    obtain ⟨a1, c1, f1, f2, f3⟩ := h
    exact ⟨a1, c1, f1, f2, fun h0 => by obtain ⟨g, o, g1, g2, g3⟩ := f3 h0; exact ⟨g, o, g1, Nat.lt_of_lt_of_le g2 hle, g3⟩⟩
  have sL : (litW w).heap.size = w.heap.size + 1 + 1 + 1 + 1 := by unfold litW; simp
  refine ⟨_, _, rfl, fun i ds hi => ?_⟩
  match i, hi with
  | 0, hi =>
    simp [GJ] at hi
    subst hi
    refine ⟨w.heap.size + 1 + 1 + 1, some ⟨w.heap.size + 1 + 1, 0, none⟩, 2, rfl, by simp [World.cell?, b3, outBlk], fun k d hd => ?_⟩
    match k, hd with
    | 0, hd =>
      simp at hd
      subst hd
      exact ⟨w.heap.size + 1 + 1, some ⟨w.heap.size, 0, none⟩, 1, rfl, by simp [World.cell?, b2, rowBlk], up r0 (by omega)⟩
    | 1, hd =>
      simp at hd
      subst hd
      exact ⟨w.heap.size + 1 + 1, some ⟨w.heap.size + 1, 0, none⟩, 1, rfl, by simp [World.cell?, b2, rowBlk], up r1 (by rw [s1]; omega)⟩
    | k + 2, hd => simp at hd
  | i + 1, hi => simp [GJ] at hi
/-- What known does, one call behind the other. -/
theorem known_pre (w : World) : Calls Tryz.prog 15 #[.int .i64 10000] w fun e w1 => ∃ f, e = .returned (.tuple #[.pointer (some ⟨f, 0, none⟩), .int .i64 0]) ∧ Hid (Calls Tryz.prog 16 #[.pointer (some ⟨f, 0, none⟩), .string nmJ] w1 fun e w2 => ∃ j, e = .returned (.tuple #[.pointer (some ⟨j, 0, none⟩), .int .i64 0]) ∧ Hid (Calls Tryz.prog 22 #[.pointer (some ⟨j, 0, none⟩), .slice (some ⟨w2.heap.size, 0, none⟩) 1 1] (w2.alloc (byteBlk 97)) fun e w3 => e = .returned (.int .i64 0) ∧ Hid (Calls Tryz.prog 22 #[.pointer (some ⟨j, 0, none⟩), .slice (some ⟨w3.heap.size, 0, none⟩) 1 1] (w3.alloc (byteBlk 98)) fun e w4 => e = .returned (.int .i64 0) ∧ Hid (Calls Tryz.prog 24 #[.pointer (some ⟨j, 0, none⟩)] w4 fun e w5 => e = .returned (.int .i64 0) ∧ Hid (Calls Tryz.prog 22 #[.pointer (some ⟨j, 0, none⟩), .slice (some ⟨w5.heap.size, 0, none⟩) 1 1] (w5.alloc (byteBlk 99)) fun e w6 => e = .returned (.int .i64 0) ∧ Hid (Calls Tryz.prog 27 #[.pointer (some ⟨f, 0, none⟩), .int .i64 0] w6 fun e w7 => e = .returned (.tuple #[]) ∧ Hid (Calls Tryz.prog 16 #[.pointer (some ⟨f, 0, none⟩), .string nmJ] w7 fun e w8 => ∃ j2, e = .returned (.tuple #[.pointer (some ⟨j2, 0, none⟩), .int .i64 0]) ∧ Hid (Calls Tryz.prog 18 #[.pointer (some ⟨j2, 0, none⟩)] w8 fun e w9 => ∃ b, e = .returned (.slice (some ⟨b, 0, none⟩) 1 1) ∧ Hid (Calls Tryz.prog 19 #[.slice (some ⟨b, 0, none⟩) 1 1, .slice (some ⟨w9.heap.size + 1 + 1 + 1, 0, none⟩) 1 1] (litW w9) fun e w10 => e = .returned (.bool true) ∧ Below w.heap.size w w10))))))))) := by
  have hno0 : ∀ s, s ≠ nmJ → (Fs.new 10000).now.N s = none := fun _ _ => rfl
  obtain ⟨n1, n2, n3⟩ := only_nopart hno0
  refine (new_ok 10000 w (by omega)).mono fun e w1 ⟨e1, hF1, hb1⟩ => ⟨w.heap.size, e1, ?_⟩
  refine (open_none w.heap.size (Fs.new 10000) (fun q => q = w.heap.size) 0 nmJ w1 hF1 rfl (by omega) (by decide) (by decide) n3 n1 rfl).mono fun e w2 ⟨j, e2, hj, hJ2, hb2⟩ => ⟨j, e2, ?_⟩
  have hA2 : Away w w2 (fun q => q = w.heap.size ∨ q = j) := ⟨hb1.trans (hb2.mono hb1.size), fun q o => by
    have := hb1.size
    rcases o with rfl | rfl <;> omega⟩
  refine (add_byte' 97 hA2 hJ2 rfl (by decide) (by decide)).mono fun e w3 ⟨e3, U3, hJ3, hA3⟩ => ⟨e3, ?_⟩
  refine (add_byte' 98 hA3 hJ3 rfl (by decide) (by decide)).mono fun e w4 ⟨e4, U4, hJ4, hA4⟩ => ⟨e4, ?_⟩
  have hC : CanCommit (Fs.new 10000) nmJ (((⟨[], [], 0, false⟩ : Jn).add [97]).add [98]) 0 := by
    have hel := enc_len (digs z32 []) [[97], [98]]
    exact ⟨by omega, Bears.none rfl, by decide, by decide, .inl ⟨rfl, rfl, rfl⟩, by show (encs z32 []).length + (enc (digs z32 []) [[97], [98]]).length ≤ _; rw [hel]; decide, by show (0 : Int) + ((enc (digs z32 []) [[97], [98]]).length : Int) ≤ _; rw [hel]; decide, by decide, by decide, by decide, by decide, rfl, by decide⟩
  refine (commit_ok w4 w.heap.size j nmJ (Fs.new 10000) _ U4 0 hJ4 hC).mono fun e w5 ⟨e5, S5, U5, hJ5, hW, hE5⟩ => ⟨e5, ?_⟩
  have hA5 := hA4.step hE5
  refine (add_byte' 99 hA5 hJ5 rfl (by decide) (by decide)).mono fun e w6 ⟨e6, U6, hJ6, hA6⟩ => ⟨e6, ?_⟩
  obtain ⟨Of, O6, OL, gv, lv, qs, hF6, _, _, u1, _⟩ := hJ6
  refine (crash_any 0 w.heap.size S5 Of 6 w6 hF6 (by omega) (by rw [hW.pend]; decide)).mono fun e w7 ⟨e7, O7, hF7, hE7⟩ => ⟨e7, ?_⟩
  have hA7 : Away w w7 O7 := Away.step ⟨hA6.bel, fun q o => hA6.new q (u1 q o)⟩ hE7
  obtain ⟨i, hAl⟩ := hW.al
  have hno7 : ∀ s, s ≠ nmJ → (S5.lasts none).now.N s = none := fun s hs => ((hW.oth s hs).1).trans (hno0 s hs)
  obtain ⟨m1, m2, m3⟩ := only_nopart hno7
  refine (open_some w.heap.size (S5.lasts none) O7 6 i nmJ GJ w7 hF7 rfl (by omega) (by decide) (by decide) m3 m1 m2 hAl.N hAl.D (by decide) (by decide) (by decide) (by decide)).mono fun e w8 ⟨j2, U8, e8, hj8, hJ8, hb8, _⟩ => ⟨j2, e8, ?_⟩
  have hB8 : Below w.heap.size w w8 := hA7.bel.trans (hb8.mono hA7.bel.size)
  obtain ⟨Of8, O8, OL8, gv8, lv8, qs8, hF8, hJn8, _⟩ := hJ8
  refine (groups_ok j2 w.heap.size nmJ ⟨GJ, [], 1, false⟩ O8 gv8 lv8 qs8 w8 hJn8.gm (by decide) (by decide)).mono fun e w9 ⟨e9, hCp⟩ => ⟨w8.heap.size, e9, ?_⟩
  have hB9 : Below w.heap.size w w9 := hB8.trans (hCp.bel.mono hB8.size)
  have hB10 : Below w.heap.size w (litW w9) := hB9.trans ((lit_below w9).mono hB9.size)
  refine (groups_true (some ⟨w8.heap.size, 0, none⟩) (some ⟨w9.heap.size + 1 + 1 + 1, 0, none⟩) 1 1 GJ (litW w9) (hCp.rr.below (lit_below w9)) (lit_rr w9) (by decide) (by decide)).mono fun e w10 ⟨e10, q, hq⟩ => ⟨e10, ?_⟩
  rw [hq]
  exact ⟨hB10.os, hB10.tape, hB10.output, hB10.size, hB10.block⟩
end Go.Proofs.YtebcmicmklpflaaGreatDoor
/- The law's known: true. -/
namespace Go.Proofs.YtebcmicmklpflaaGreatDoor
open Go.RowKit Go.Maps
set_option linter.unusedSimpArgs false
@[go_sem] theorem conv39 (w : World) (C : Array Value) (n l c : Nat) (hn : n = w.heap.size) :
    (convert 39 39 (.slice (some ⟨n, 0, none⟩) l c)).run Tryz.prog (w.alloc (.cells C 5)) = .ok (.slice (some ⟨n, 0, none⟩) l c) (w.alloc (.cells C 5 (C.size, C.size + 1))) := by
  subst hn; exact Lib.run_convert_bytes_const w 39 5 C l c Tryz.underlying39 Tryz.underlying5
set_option maxRecDepth 20000 in
set_option maxHeartbeats 1000000 in
theorem known_ok (w : World) : Calls Tryz.prog 14 #[] w fun e w' => e = .returned (.bool true) ∧ Below w.heap.size w w' := by
  have H0 := hide (known_pre w)
  go_enter Tryz.func14, Tryz.ntmps14
  go_wp2_with fail
  refine (unhide H0).mono ?_
  rintro e w1 ⟨f, rfl, H1⟩
  clear H0
  go_wp2_with fail
  refine (unhide H1).mono ?_
  rintro e w2 ⟨j, rfl, H2⟩
  clear H1
  go_wp2_with fail
  refine (unhide H2).mono ?_
  rintro e w3 ⟨rfl, H3⟩
  clear H2
  go_wp2_with fail
  refine (unhide H3).mono ?_
  rintro e w4 ⟨rfl, H4⟩
  clear H3
  go_wp2_with fail
  refine (unhide H4).mono ?_
  rintro e w5 ⟨rfl, H5⟩
  clear H4
  go_wp2_with fail
  refine (unhide H5).mono ?_
  rintro e w6 ⟨rfl, H6⟩
  clear H5
  go_wp2_with fail
  refine (unhide H6).mono ?_
  rintro e w7 ⟨rfl, H7⟩
  clear H6
  go_wp2_with fail
  refine (unhide H7).mono ?_
  rintro e w8 ⟨j2, rfl, H8⟩
  clear H7
  go_wp2_with fail
  refine (unhide H8).mono ?_
  rintro e w9 ⟨b, rfl, H9⟩
  clear H8
  go_wp2_with fail
  refine (unhide H9).mono ?_
  rintro e w10 ⟨rfl, H10⟩
  clear H9
  have HF := hide H10
  clear H10
  go_wp2_with fail
  go_ret
  exact ⟨rfl, unhide HF⟩
end Go.Proofs.YtebcmicmklpflaaGreatDoor
/- Of nothing. -/
namespace Go.Proofs.YtebcmicmklpflaaGreatDoor
open Go.RowKit Go.Maps
set_option linter.unusedSimpArgs false
set_option maxRecDepth 20000 in
theorem add_of_nil (a : Option Addr) (n c : Nat) (w : World) : Calls Tryz.prog 22 #[.pointer none, .slice a n c] w fun e w' => e = .returned (.int .i64 1) ∧ w' = w := by
  have HR := hide (refusal_nil w)
  go_enter Tryz.func22, Tryz.ntmps22
  go_wp2_with fail
  refine (unhide HR).mono ?_
  rintro e w' ⟨rfl, rfl⟩
  go_wp2_with fail
  go_ret
  exact ⟨rfl, rfl⟩
set_option maxRecDepth 20000 in
theorem commit_of_nil (w : World) : Calls Tryz.prog 24 #[.pointer none] w fun e w' => e = .returned (.int .i64 1) ∧ w' = w := by
  have HR := hide (refusal_nil w)
  go_enter Tryz.func24, Tryz.ntmps24
  go_wp2_with fail
  refine (unhide HR).mono ?_
  rintro e w' ⟨rfl, rfl⟩
  go_wp2_with fail
  go_ret
  exact ⟨rfl, rfl⟩
set_option maxRecDepth 20000 in
theorem reset_of_nil (w : World) : Calls Tryz.prog 26 #[.pointer none] w fun e w' => e = .returned (.int .i64 1) ∧ w' = w := by
  have HR := hide (refusal_nil w)
  go_enter Tryz.func26, Tryz.ntmps26
  go_wp2_with fail
  refine (unhide HR).mono ?_
  rintro e w' ⟨rfl, rfl⟩
  go_wp2_with fail
  go_ret
  exact ⟨rfl, rfl⟩
set_option maxRecDepth 20000 in
theorem groups_of_nil (w : World) : Calls Tryz.prog 18 #[.pointer none] w fun e w' => e = .returned (.slice none 0 0) ∧ w' = w := by
  go_enter Tryz.func18, Tryz.ntmps18
  go_wp2_with fail
  go_ret
  exact ⟨rfl, rfl⟩
set_option maxRecDepth 20000 in
theorem open_of_nil (s : ByteArray) (w : World) : Calls Tryz.prog 16 #[.pointer none, .string s] w fun e w' => e = .returned (.tuple #[.pointer none, .int .i64 1]) ∧ w' = w := by
  go_enter Tryz.func16, Tryz.ntmps16
  go_wp2_with fail
  exact bodyPost_ret (by simp [results, Tryz.results16]) rfl ⟨rfl, rfl⟩
set_option maxRecDepth 20000 in
theorem open_of_empty (f : Nat) (w : World) : Calls Tryz.prog 16 #[.pointer (some ⟨f, 0, none⟩), .string ⟨#[]⟩] w fun e w' => e = .returned (.tuple #[.pointer none, .int .i64 1]) ∧ w' = w := by
  go_enter Tryz.func16, Tryz.ntmps16
  go_wp2_with fail
  exact bodyPost_ret (by simp [results, Tryz.results16]) rfl ⟨rfl, rfl⟩
set_option maxRecDepth 20000 in
set_option maxHeartbeats 1000000 in
theorem nothing_ok (a : Option Addr) (n c : Nat) (w : World) : Calls Tryz.prog 7 #[.slice a n c] w fun e w' => e = .returned (.bool true) ∧ Below w.heap.size w w' := by
  have HD := hide drop_nil
  have HA := hide (add_of_nil a n c)
  have HC := hide commit_of_nil
  have HRs := hide reset_of_nil
  have HG := hide groups_of_nil
  have HO := hide open_of_nil
  have HO2 := hide open_of_empty
  have HN : Hid (Calls Tryz.prog 15 #[.int .i64 100] w fun e w' => e = .returned (.tuple #[.pointer (some ⟨w.heap.size, 0, none⟩), .int .i64 0]) ∧ Hid (Below w.heap.size w w')) := (new_ok 100 w (by omega)).mono fun e w' ⟨e1, _, hb⟩ => ⟨e1, hb⟩
  have HK : Hid (∀ w1, Below w.heap.size w w1 → Calls Tryz.prog 14 #[] w1 fun e w' => e = .returned (.bool true) ∧ Hid (Below w.heap.size w w')) := fun w1 hb => (known_ok w1).mono fun e w' ⟨e1, hb2⟩ => ⟨e1, hb.trans (hb2.mono hb.size)⟩
  have HB := hide (Below.refl w.heap.size w)
  by_cases hn : (n : Int) ≤ 12000
  · go_enter Tryz.func7, Tryz.ntmps7
    go_wp2_with fail
    refine (unhide HD _).mono ?_
    rintro e w' ⟨rfl, rfl⟩
    go_wp2_with fail
    refine (unhide HO _ _).mono ?_
    rintro e w' ⟨rfl, rfl⟩
    go_wp2_with fail
    refine (unhide HN).mono ?_
    rintro e w1 ⟨rfl, HB1⟩
    go_wp2_with fail
    refine (unhide HO2 _ _).mono ?_
    rintro e w' ⟨rfl, rfl⟩
    go_wp2_with fail
    refine (unhide HA _).mono ?_
    rintro e w' ⟨rfl, rfl⟩
    go_wp2_with fail
    refine (unhide HC _).mono ?_
    rintro e w' ⟨rfl, rfl⟩
    go_wp2_with fail
    refine (unhide HRs _).mono ?_
    rintro e w' ⟨rfl, rfl⟩
    go_wp2_with fail
    refine (unhide HG _).mono ?_
    rintro e w' ⟨rfl, rfl⟩
    go_wp2_with fail
    refine (unhide HK _ (unhide HB1)).mono ?_
    rintro e w5 ⟨rfl, HB5⟩
    go_wp2_with fail
    go_ret
    exact ⟨rfl, unhide HB5⟩
  · go_enter Tryz.func7, Tryz.ntmps7
    go_wp2_with fail
    go_ret
    exact ⟨rfl, unhide HB⟩
end Go.Proofs.YtebcmicmklpflaaGreatDoor
