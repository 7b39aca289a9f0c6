/- Open, where there are groups. -/
import Derived.Test.YtebcmicmklpflaaGreatDoorRn
namespace Go.Proofs.YtebcmicmklpflaaGreatDoor
open Go.RowKit Go.Maps
set_option linter.unusedSimpArgs false
/-- One of a chain. -/
theorem Chain.nth {w : World} {O : Nat → Prop} : ∀ {qs : List Nat} {gs : List (List (List UInt8))} {ah : Option Nat} {prev : List UInt8}, Chain w O ah prev qs gs → ∀ (m q : Nat) (g : List (List UInt8)), qs[m]? = some q → gs[m]? = some g → Grp w O q (if m = 0 then ah else lastq (qs.take m)) g (digs prev (gs.take m)) := by
  intro qs
  induction qs with
  | nil => intro gs ah prev h m q g e; simp at e
  | cons p qs ih => intro gs ah prev h m q g e1 e2; cases gs with
    | nil => exact h.elim
    | cons g' gs =>
      cases m with
      | zero =>
        simp only [List.getElem?_cons_zero, Option.some.injEq] at e1 e2
        subst e1 e2
        simp only [List.take_zero, digs, if_true]
        exact h.1
      | succ m =>
        simp only [List.getElem?_cons_succ] at e1 e2
        have := ih h.2 m q g e1 e2
        simp only [List.take_succ_cons, digs]
        rw [if_neg (by omega)]
        generalize digs (dig prev g') (gs.take m) = dd at *
        by_cases hm : m = 0
        · subst hm
          simpa [lastq] using this
        · rw [if_neg hm] at this
          have hl : lastq (p :: qs.take m) = lastq (qs.take m) := by
            unfold lastq
            rw [List.getLast?_cons]
            cases hq : (qs.take m).getLast? with
            | none =>
              have h0 := List.getLast?_eq_none_iff.1 hq
              have h1 := (List.getElem?_eq_some_iff.1 e1).1
              have h2 : (qs.take m).length = 0 := by rw [h0]; rfl
              rw [List.length_take] at h2
              omega
            | some x => rfl
          rw [hl]; exact this
theorem Chain.nth0 {w : World} {O : Nat → Prop} {qs : List Nat} {gs : List (List (List UInt8))} {prev : List UInt8} (h : Chain w O none prev qs gs) (m q : Nat) (g : List (List UInt8)) (e1 : qs[m]? = some q) (e2 : gs[m]? = some g) : Grp w O q (lastq (qs.take m)) g (digs prev (gs.take m)) := by
  have := h.nth m q g e1 e2
  by_cases hm : m = 0
  · subst hm
    simpa [lastq] using this
  · rwa [if_neg hm] at this
theorem wts_take (G : List (List (List UInt8))) (m : Nat) : wts (G.take m) ≤ wts G := by
  conv => rhs; rw [← List.take_append_drop m G]
  rw [wts_append]; omega
theorem GM.widen {w : World} {j f : Nat} {nm : ByteArray} {J : Jn} {O O' : Nat → Prop} {gv lv : Value} {qs : List Nat} (h : GM w j f nm J O gv lv qs) (hO : ∀ q, O q → O' q) (hj : ¬ O' j) (hl : ∀ q, O' q → q < w.heap.size) : GM w j f nm J O' gv lv qs :=
  ⟨h.blk, hj, h.row, fun q e => hO q (h.rown q e), h.ch.kept hO (fun _ _ => rfl), hl⟩
/-- Groups that are taken one by one; B: where all of them lie behind, M: where what was loaded ends. -/
structure OpL (W0 W : World) (j f : Nat) (nm : ByteArray) (S : Fs) (O : Nat → Prop) (k B M : Nat) (gv : Value) (qs : List Nat) (G : List (List (List UInt8))) (m : Nat) : Prop where
  fs : FsIs W f 0 S O k
  gm : ∃ gj, GM W j f nm ⟨G.take m, [], 1, false⟩ (fun b => B ≤ b ∧ b < W.heap.size) gj (.slice none 0 0) (qs.take m) ∧ ∀ b, gj.ownBlock = some b → M ≤ b
  row : W.ownsRow 0 104 1 gv qs.length (qs.map ptrV)
  rown : ∀ b, gv.ownBlock = some b → B ≤ b ∧ b < M
  ch : Chain W (fun b => B ≤ b ∧ b < W.heap.size) none z32 qs G
  big : M ≤ W.heap.size
  os : W.os = W0.os
  tape : W.tape = W0.tape
  output : W.output = W0.output
  rest : ∀ b, b < B → b ≠ j → W.heap[b]? = W0.heap[b]?
theorem OpL.step {W0 W : World} {j f : Nat} {nm : ByteArray} {S : Fs} {O : Nat → Prop} {k B M : Nat} {gv : Value} {qs : List Nat} {G : List (List (List UInt8))} {m : Nat} (h : OpL W0 W j f nm S O k B M gv qs G m) (hj : j < B) (hBM : B ≤ M) (hO : ∀ q, O q → q < B ∧ q ≠ j) (hm : m < G.length) (hl : G.length ≤ 10000) (hds : ∀ d ∈ G, d.length ≤ 100000 ∧ wt d ≤ 10000000) (hw : wts G ≤ 10000000) :
    ∃ q, qs[m]? = some q ∧ Calls Tryz.prog 50 #[.pointer (some ⟨j, 0, none⟩), .pointer (some ⟨q, 0, none⟩)] W fun e W' => e = .returned (.tuple #[]) ∧ OpL W0 W' j f nm S O k B M gv qs G (m + 1) := by
  obtain ⟨gj, hg, hM⟩ := h.gm
  have hql : qs.length = G.length := h.ch.len
  have e1 : qs[m]? = some qs[m] := List.getElem?_eq_getElem (by omega)
  have e2 : G[m]? = some G[m] := List.getElem?_eq_getElem hm
  have hd := hds G[m] (List.getElem_mem hm)
  refine ⟨qs[m], e1, (take_any j f nm ⟨G.take m, [], 1, false⟩ _ (fun b => B ≤ b ∧ b < W.heap.size) gj _ (qs.take m) qs[m] G[m] W hg (h.ch.nth0 m _ _ e1 e2) (fun o => by have := o.1; omega) (fun b o => o.2) (by show (G.take m).length ≤ _; rw [List.length_take]; omega) hd.1 hd.2 (Nat.le_trans (wts_take G m) hw)).mono fun e W' ⟨e3, gj', hg', hz, ⟨hr, hloc⟩, o1, o2, o3⟩ => ⟨e3, ?_⟩⟩
  have hbig := h.big
  have hTg : Tg (fun b => B ≤ b ∧ b < W.heap.size) W W' := fun b x t hb hx ht => by
    refine hr b hb.2 (fun e => ?_) (fun e => by have := hb.1; omega)
    obtain ⟨cur, hc⟩ := row_tag hg.row b e
    rw [hx] at hc
    injection hc with hc
    injection hc with _ hc
    rcases ht with rfl | rfl | rfl <;> exact absurd hc (by decide)
  have hlow : ∀ b, b < M → b ≠ j → W'.heap[b]? = W.heap[b]? := fun b h1 h2 => hr b (by omega) (fun e => by have := hM b e; omega) h2
  refine ⟨?_, ⟨gj', ?_, ?_⟩, ownsRow_kept h.row (fun q e => hlow q (h.rown q e).2 (fun e2 => by have := (h.rown q e).1; omega)), h.rown, h.ch.keptT (fun q o => ⟨o.1, by have := o.2; omega⟩) hTg, by omega, o1.trans h.os, o2.trans h.tape, o3.trans h.output, fun b h1 h2 => (hlow b (by omega) h2).trans (h.rest b h1 h2)⟩
  · exact h.fs.kept hz (fun q o => hlow q (by have := (hO q o).1; omega) (hO q o).2)
  · rw [List.take_succ_eq_append_getElem hm, List.take_succ_eq_append_getElem (show m < qs.length by omega)]
    refine hg'.widen (fun q o => ?_) (fun o => by have := o.1; omega) (fun q o => o.2)
    rcases o with (o | o) | o
    · exact ⟨o.1, by have := o.2; omega⟩
    · exact ⟨o.1, by have := o.2; omega⟩
    · exact ⟨by have := o.1; omega, o.2⟩
  · intro b e
    rcases hloc with e4 | ⟨b', e4, h4⟩
    · rw [e4] at e; exact hM b e
    · rw [e4] at e; injection e with e; omega
theorem OpL.first {W0 W : World} {j f : Nat} {nm : ByteArray} {S : Fs} {O : Nat → Prop} {k : Nat} {gv : Value} {G : List (List (List UInt8))} (hj : j < W0.heap.size) (h : Mid W0 W j f nm S O k gv G) : ∃ qs, OpL W0 W j f nm S O k W0.heap.size W.heap.size gv qs G 0 := by
  obtain ⟨hF, hjb, qs, hL⟩ := h
  refine ⟨qs, hF, ⟨.slice none 0 0, ⟨hjb, fun o => by have := o.1; omega, World.ownsRow_nil _ _ _ _, fun q e => by simp [Value.ownBlock] at e, trivial, fun _ o => o.2⟩, fun q e => by simp [Value.ownBlock] at e⟩, hL.row, hL.rown, hL.ch, Nat.le_refl _, hL.os, hL.tape, hL.output, hL.rest⟩
theorem OpL.last {w W0 W : World} {j f : Nat} {nm : ByteArray} {S : Fs} {O : Nat → Prop} {k B M : Nat} {gv : Value} {qs : List Nat} {G : List (List (List UInt8))} (h : OpL W0 W j f nm S O k B M gv qs G G.length) (hj : j < B) (hBM : B ≤ M) (hO : ∀ q, O q → q < B ∧ q ≠ j) (hw : w.heap.size ≤ j) (hb : Below w.heap.size w W0) : JS W f j nm S ⟨G, [], 1, false⟩ (fun q => O q ∨ q = j ∨ (B ≤ q ∧ q < W.heap.size)) k ∧ Below w.heap.size w W := by
  obtain ⟨gj, hg, hM⟩ := h.gm
  rw [List.take_length] at hg
  have hbig := h.big
  refine ⟨⟨O, fun b => B ≤ b ∧ b < W.heap.size, fun _ => False, gj, .slice none 0 0, _, h.fs, ⟨hg, Recs.nil _ _, fun _ _ o => o, id, fun _ o => o.elim⟩, fun q o => ⟨fun o2 => by have := (hO q o).1; have := o2.1; omega, id, (hO q o).2⟩, fun _ o => .inl o, fun _ o => .inr (.inr o), fun _ o => o.elim, .inr (.inl rfl), ?_⟩, h.os.trans hb.os, h.tape.trans hb.tape, h.output.trans hb.output, by omega, fun b h1 => (h.rest b (by omega) (by omega)).trans (hb.block b h1)⟩
  rintro q (o | rfl | o)
  · exact h.fs.lt q o
  · omega
  · exact o.2
theorem row_cell {w : World} {gv : Value} {qs : List Nat} (h : w.ownsRow 0 104 1 gv qs.length (qs.map ptrV)) (h0 : 0 < qs.length) : ∃ g c, gv = .slice (some ⟨g, 0, none⟩) qs.length c := by
  rcases h.2 with ⟨_, e⟩ | ⟨g, cap, cur, e, _⟩
  · omega
  · exact ⟨g, cap, e⟩
theorem row_at {w : World} {g n c : Nat} {qs : List Nat} (h : w.ownsRow 0 104 1 (.slice (some ⟨g, 0, none⟩) n c) qs.length (qs.map ptrV)) (m q : Nat) (hq : qs[m]? = some q) : w.cell? ⟨g, m, none⟩ = some (.pointer (some ⟨q, 0, none⟩)) := by
  have hm := (List.getElem?_eq_some_iff.1 hq).1
  rcases h.2 with ⟨e, _⟩ | ⟨g', cap, cur, e, _, hg, hl, _, hs, ht⟩
  · simp at e
  · injection e with e1 e2 e3
    injection e1 with e1
    injection e1 with e1
    subst e1
    have hc : cur.toList[m]? = some (ptrV q) := by
      have : (cur.toList.take (qs.length * 1))[m]? = some (ptrV q) := by
        rw [ht, List.getElem?_map, hq]; rfl
      rwa [List.getElem?_take_of_lt (by omega)] at this
    simp only [World.cell?, hg]
    rw [← Array.getElem?_toList]
    exact hc
set_option maxRecDepth 20000 in
set_option maxHeartbeats 1000000 in
theorem open_some (f : Nat) (S : Fs) (O : Nat → Prop) (k i : Nat) (nm : ByteArray) (G : List (List (List UInt8))) (w : World) (h : FsIs w f 0 S O k) (hp : S.pend = []) (hk : k ≤ 16000) (hn : 1 ≤ nm.size) (hn2 : nm.size ≤ 100) (hNs : ∀ s i, S.now.N s = some i → s.size ≤ 300) (hP : NoPart S.now nm) (hP1 : S.now.N (part1 nm) = none) (hN : S.now.N nm = some i) (hD : S.now.D i = encs z32 G) (hG : G ≠ []) (hl : G.length ≤ 10000) (hds : ∀ d ∈ G, d.length ≤ 100000 ∧ wt d ≤ 10000000) (hw : wts G ≤ 10000000) :
    Calls Tryz.prog 16 #[.pointer (some ⟨f, 0, none⟩), .string nm] w fun e w' => ∃ j U, e = .returned (.tuple #[.pointer (some ⟨j, 0, none⟩), .int .i64 0]) ∧ w.heap.size ≤ j ∧ JS w' f j nm S ⟨G, [], 1, false⟩ U k ∧ Below w.heap.size w w' ∧ ∀ q, U q → O q ∨ w.heap.size ≤ q := by
  have HP := hide (open_upto f S O k nm w h hp hn2)
  have hG0 : 0 < G.length := List.length_pos_iff.2 hG
  have HL : Hid (∀ w2 : World, FsIs (w2.alloc (jBlk0 f nm 0)) f 0 S O k → (w2.alloc (jBlk0 f nm 0)).heap[w2.heap.size]? = some (jBlk0 f nm 0) → ¬ O w2.heap.size → w.heap.size ≤ w2.heap.size → Below w.heap.size w (w2.alloc (jBlk0 f nm 0)) → Calls Tryz.prog 49 #[.pointer (some ⟨w2.heap.size, 0, none⟩)] (w2.alloc (jBlk0 f nm 0)) fun e w3 => ∃ g c, e = .returned (.slice (some ⟨g, 0, none⟩) G.length c) ∧ Hid (∃ (T : World → Nat → Prop), T w3 0 ∧ (∀ W m, T W m → m < G.length → ∃ q, W.cell? ⟨g, m, none⟩ = some (.pointer (some ⟨q, 0, none⟩)) ∧ Calls Tryz.prog 50 #[.pointer (some ⟨w2.heap.size, 0, none⟩), .pointer (some ⟨q, 0, none⟩)] W fun e W' => e = .returned (.tuple #[]) ∧ T W' (m + 1)) ∧ ∀ W, T W G.length → ∃ U, w.heap.size ≤ w2.heap.size ∧ JS W f w2.heap.size nm S ⟨G, [], 1, false⟩ U k ∧ Below w.heap.size w W ∧ ∀ q, U q → O q ∨ w.heap.size ≤ q)) := fun w2 h1 h2 h3 h4 h5 => by
    refine (load_some w2.heap.size f S O k i nm G _ h1 h2 h3 hk hn2 hNs hP hP1 hN hD hG hl hds).mono fun e w3 ⟨gv, e1, hM⟩ => ?_
    have hj : w2.heap.size < (w2.alloc (jBlk0 f nm 0)).heap.size := by simp
    have hO : ∀ q, O q → q < (w2.alloc (jBlk0 f nm 0)).heap.size ∧ q ≠ w2.heap.size := fun q o => ⟨h1.lt q o, fun e => h3 (e ▸ o)⟩
    obtain ⟨qs, hop⟩ := OpL.first hj hM
    have hql : qs.length = G.length := hop.ch.len
    obtain ⟨g, c, eg⟩ := row_cell hop.row (by omega)
    have hBM : (w2.alloc (jBlk0 f nm 0)).heap.size ≤ w3.heap.size := by
      obtain ⟨_, _, _, hLG⟩ := hM
      exact hLG.size
    rw [hql] at eg
    subst eg
    generalize hB : (w2.alloc (jBlk0 f nm 0)).heap.size = B at *
    refine ⟨g, c, e1, fun W m => OpL (w2.alloc (jBlk0 f nm 0)) W w2.heap.size f nm S O k B w3.heap.size (.slice (some ⟨g, 0, none⟩) G.length c) qs G m, hop, fun W m hT hm => ?_, fun W hT => ?_⟩
    · obtain ⟨q, hq, hc⟩ := hT.step hj hBM hO hm hl hds hw
      exact ⟨q, row_at hT.row m q hq, hc⟩
    · obtain ⟨u1, u2⟩ := hT.last hj hBM hO h4 h5
      refine ⟨_, h4, u1, u2, fun q o => ?_⟩
      rcases o with o | o | o
      · exact .inl o
      · exact .inr (by omega)
      · exact .inr (by have := o.1; omega)
  have h1 : (1 : Int) ≤ (nm.size : Int) := by omega
  have h2 : (nm.size : Int) ≤ 100 := by omega
  obtain ⟨N, hNG⟩ : ∃ N, N = G.length := ⟨_, rfl⟩
  have hNb : N ≤ 10000 := by omega
  rw [← hNG] at HL
  clear h hp hk hn hn2 hNs hP hN hP1 hD hG hl hds hw hG0
  go_enter Tryz.func16, Tryz.ntmps16
  go_wp2_with fail
  refine (unhide HP).mono ?_
  rintro e w1 ⟨rfl, HC⟩
  go_wp2_with fail
  refine (unhide HC).mono ?_
  rintro e w2 ⟨rfl, HQ⟩
  have HL2 := hide (unhide HL w2 (unhide HQ).1 (unhide HQ).2.1 (unhide HQ).2.2.1 (unhide HQ).2.2.2.1 (unhide HQ).2.2.2.2)
  clear HL HP HQ HC
  go_wp2_with fail
  refine (unhide HL2).mono ?_
  rintro e w3 ⟨g, c, rfl, HF⟩
  obtain ⟨T, hT0, hTs, hTe⟩ := unhide HF
  have HS := hide hTs
  have HE := hide hTe
  have HNb := hide hNb
  clear hTs hTe HF HL2 hNb
  go_wp2_with fail
  go_loopw [41] (fun i wr => ∃ m : Nat, m ≤ N ∧ i = .int .i64 m ∧ T wr m) (fun i _ => N - (intOf i).toNat)
  case atStart => exact ⟨0, Nat.zero_le _, rfl, hT0⟩
  case round =>
    obtain ⟨m, hm, rfl, hT⟩ := hrel
    by_cases hlt : m < N
    · obtain ⟨q, hcell, htake⟩ := unhide HS _ m hT hlt
      have HTk := hide htake
      have hlt2 : (m : Int) < (N : Int) := by omega
      clear htake HS HE hT0 hT hm
      go_wp2_with fail
      refine (unhide HTk).mono ?_
      rintro e w5 ⟨rfl, hT5⟩
      go_wp2_with fail
      have hNb := unhide HNb
      have e1 : Go.RowKit.wrap64 ((m : Int) + 1) = ((m + 1 : Nat) : Int) := by unfold Go.RowKit.wrap64; omega
      rw [e1]
      exact ⟨⟨m + 1, by omega, rfl, hT5⟩, by simp only [intOf, Int.toNat_natCast]; omega⟩
    · obtain rfl : m = N := by omega
      have HE2 := hide (unhide HE _ hT)
      clear HS HE hT0 hT hm
      go_wp2_with fail
      obtain ⟨U, u1, u2, u3, u4⟩ := unhide HE2
      exact bodyPost_ret (by simp [results, Tryz.results16]) rfl ⟨_, U, rfl, u1, u2, u3, u4⟩
end Go.Proofs.YtebcmicmklpflaaGreatDoor
