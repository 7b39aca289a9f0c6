/- Open, where the file is there and has no group. -/
import Derived.Test.YtebcmicmklpflaaGreatDoorTb
namespace Go.Proofs.YtebcmicmklpflaaGreatDoor
open Go.RowKit Go.Maps
set_option linter.unusedSimpArgs false
set_option maxRecDepth 20000 in
set_option maxHeartbeats 1000000 in
theorem read_groups_none (v : Value) (c : Nat) (w : World) (hv : v = .slice none 0 0 ∨ ∃ g, v = .slice (some ⟨g, 0, none⟩) 0 c) :
    Calls Tryz.prog 98 #[.slice none 0 0, v] w fun e w' => e = .returned (.tuple #[.slice none 0 0, .int .i64 0]) ∧ w' = w.drew := by
  have HR : Hid (∀ a c', Calls Tryz.prog 131 #[.pointer none, .slice a 0 c'] w.drew fun e w' => e = .returned (.tuple #[.pointer none, .int .i64 0]) ∧ w' = w.drew) := fun a c' => read_nothing none a 0 c' (by omega) _
  have HL : Hid (Calls Tryz.prog 59 #[.slice none 0 0] w.drew fun e w' => e = .returned (.pointer none) ∧ w' = w.drew) := last_nil none 0 w.drew
  rcases hv with rfl | ⟨g, rfl⟩
  · go_enter Tryz.func98, Tryz.ntmps98
    go_wp2_with fail
    go_loopw [0, 6] (fun gv i wr => gv = .slice none 0 0 ∧ i = .int .i64 0 ∧ wr = w) (fun _ _ _ => 0)
    case atStart => exact ⟨rfl, rfl, rfl⟩
    case round =>
      obtain ⟨rfl, rfl, rfl⟩ := hrel
      go_wp2_with fail
      refine wp_region_noPanic ?_
      go_region_law (go_simp; first | (refine (unhide HL).mono ?_; rintro e w5 ⟨rfl, rfl⟩; simp only []) | (refine (unhide HR _ _).mono ?_; rintro e w5 ⟨rfl, rfl⟩; simp only []))
      all_goals
        refine NoPanic.normal ?_
        go_wp2_with fail
        exact bodyPost_ret (by simp [results, Tryz.results98]) rfl ⟨rfl, rfl⟩
  · by_cases hc : c = 0
    all_goals
      go_enter Tryz.func98, Tryz.ntmps98
      go_wp2_with fail
      go_loopw [0, 6] (fun gv i wr => gv = .slice none 0 0 ∧ i = .int .i64 0 ∧ wr = w) (fun _ _ _ => 0)
      case atStart => exact ⟨rfl, rfl, rfl⟩
      case round =>
        obtain ⟨rfl, rfl, rfl⟩ := hrel
        go_wp2_with fail
        refine wp_region_noPanic ?_
        go_region_law (go_simp; first | (refine (unhide HL).mono ?_; rintro e w5 ⟨rfl, rfl⟩; simp only []) | (refine (unhide HR _ _).mono ?_; rintro e w5 ⟨rfl, rfl⟩; simp only []))
        all_goals
          refine NoPanic.normal ?_
          go_wp2_with fail
          exact bodyPost_ret (by simp [results, Tryz.results98]) rfl ⟨rfl, rfl⟩
theorem load_first0 (j f : Nat) (S : Fs) (O : Nat → Prop) (k i : Nat) (nm : ByteArray) (w : World) (h : FsIs w f 0 S O k) (hj : w.heap[j]? = some (jBlk0 f nm 0)) (hOj : ¬ O j) (hn : nm.size ≤ 100) (hN : S.now.N nm = some i) (hD : S.now.D i = []) :
    Calls Tryz.prog 30 #[.pointer (some ⟨f, 0, none⟩), .string nm] w.drew fun e w2 => ∃ a c, e = .returned (.tuple #[.slice a 0 c, .int .i64 0]) ∧ Hid (Calls Tryz.prog 98 #[.slice none 0 0, .slice a 0 c] w2 fun e w4 => e = .returned (.tuple #[.slice none 0 0, .int .i64 0]) ∧ w4.cell? ⟨j, 2, none⟩ = some (.int .i64 0) ∧ w4.frozen? ⟨j, 2, none⟩ = false ∧ Hid (Mid w (w4.setCell ⟨j, 2, none⟩ (.int .i64 1)) j f nm S O k (.slice none 0 0) [])) := by
  have hjl : j < w.heap.size := (Array.getElem?_eq_some_iff.1 hj).1
  refine (read_ok f S O k nm i w.drew h.drew (by simp only [maxLen]; omega) hN).mono fun e w2 ⟨a, c, L, e1, hnd, hL, hF, hb⟩ => ?_
  rw [hD] at e1 hnd
  refine ⟨a, c, e1, ?_⟩
  have hv : Value.slice a 0 c = .slice none 0 0 ∨ ∃ g, Value.slice a 0 c = .slice (some ⟨g, 0, none⟩) 0 c := by
    rcases hnd with ⟨_, e, _⟩ | ⟨g, cap, cur, _, ev, _⟩
    · exact .inl e
    · injection ev with e1 e2 e3
      subst e1 e3
      exact .inr ⟨g, rfl⟩
  refine (read_groups_none _ c w2 hv).mono fun e w4 ⟨e4, hw4⟩ => ?_
  have hb' : Below w.heap.size w w2 := ⟨hb.os, hb.tape, hb.output, hb.size, hb.block⟩
  have hb4 : Below w.heap.size w w4 := by rw [hw4]; exact hb'.drew
  have hj4 : w4.heap[j]? = some (jBlk0 f nm 0) := by rw [hb4.block j hjl]; exact hj
  obtain ⟨_, _, c2, _, _, cz⟩ := jn0_cells hj4
  have hset : ∀ b, b ≠ j → (w4.setCell ⟨j, 2, none⟩ (.int .i64 1)).heap[b]? = w4.heap[b]? := fun b hb => set_other _ _ _ _ _ hb
  refine ⟨e4, c2, cz 2, ?_, jn0_parts (p' := 1) hj4, [], ?_⟩
  · have hF4 : FsIs w4 f 0 S O k := by rw [hw4]; exact hF.drew
    exact hF4.kept (by rw [size_set]; exact Nat.le_refl _) (fun q o => hset q (fun e => hOj (e ▸ o)))
  · exact ⟨hb4.os, hb4.tape, hb4.output, by rw [size_set]; exact hb4.size, fun b h1 h2 => (hset b h2).trans (hb4.block b h1), World.ownsRow_nil _ _ _ _, fun q e => by simp [Value.ownBlock] at e, trivial⟩
set_option maxRecDepth 20000 in
set_option maxHeartbeats 1000000 in
theorem load_zero (j f : Nat) (S : Fs) (O : Nat → Prop) (k i : Nat) (nm : ByteArray) (w : World) (h : FsIs w f 0 S O k) (hj : w.heap[j]? = some (jBlk0 f nm 0)) (hOj : ¬ O j) (hk : k ≤ 16000) (hn : nm.size ≤ 100) (hNs : ∀ s i, S.now.N s = some i → s.size ≤ 300) (hP : NoPart S.now nm) (hP1 : S.now.N (part1 nm) = none) (hN : S.now.N nm = some i) (hD : S.now.D i = []) :
    Calls Tryz.prog 49 #[.pointer (some ⟨j, 0, none⟩)] w fun e w' => ∃ gv, e = .returned gv ∧ gv = .slice none 0 0 ∧ Mid w w' j f nm S O k gv [] := by
  have HR := hide (load_first0 j f S O k i nm w h hj hOj hn hN hD)
  have HP := hide (part_zero j nm w.drew (jn0_cells hj).2.1)
  have HMid : Hid (∀ gv W, Mid w W j f nm S O k gv [] → W.cell? ⟨j, 0, none⟩ = some (.pointer (some ⟨f, 0, none⟩)) ∧ W.cell? ⟨j, 2, none⟩ = some (.int .i64 1) ∧ W.cell? ⟨j, 4, none⟩ = some (.bool false) ∧ ∃ s, Hid (Calls Tryz.prog 97 #[.pointer (some ⟨j, 0, none⟩), .int .i64 1] W.drew fun e w1 => e = .returned (.string s) ∧ w1.cell? ⟨j, 0, none⟩ = some (.pointer (some ⟨f, 0, none⟩)) ∧ Hid (Calls Tryz.prog 30 #[.pointer (some ⟨f, 0, none⟩), .string s] w1 fun e w2 => e = .returned (.tuple #[.slice none 0 0, .int .i64 7]) ∧ w2.cell? ⟨j, 2, none⟩ = some (.int .i64 1) ∧ Hid (Calls Tryz.prog 99 #[.pointer (some ⟨j, 0, none⟩), .int .i64 1] w2 fun e w3 => e = .returned (.slice none 0 0) ∧ w3.cell? ⟨j, 3, none⟩ = some (.slice none 0 0) ∧ w3.frozen? ⟨j, 3, none⟩ = false ∧ w3.setCell ⟨j, 3, none⟩ (.slice none 0 0) = w3 ∧ Hid (Mid w w3 j f nm S O k gv []))))) := fun gv W ⟨hF, hjW, qs, hLG⟩ => by
    obtain ⟨c0, _, c2, _, c4, _⟩ := jn0_cells hjW
    obtain ⟨s, hE⟩ := load_end j f S O k nm 1 W hF hjW hk hn hNs hP (.inr ⟨rfl, hP1⟩)
    have hjl : j < W.heap.size := (Array.getElem?_eq_some_iff.1 hjW).1
    refine ⟨c0, c2, c4, s, hE.mono fun e w1 ⟨e1, h1, h2⟩ => ⟨e1, h1, (unhide h2).mono fun e w2 ⟨e2, h3, h4⟩ => ⟨e2, h3, (unhide h4).mono fun e w3 ⟨e3, h5, h6, h7, h8⟩ => ⟨e3, h5, h6, h7, h8.1, ?_, qs, hLG.below h8.2⟩⟩⟩⟩
    rw [h8.2.block j hjl]; exact hjW
  obtain ⟨c0, c1, c2, c3, c4, cz⟩ := jn0_cells hj
  have c0d : w.drew.cell? ⟨j, 0, none⟩ = some (.pointer (some ⟨f, 0, none⟩)) := c0
  have c2d : w.drew.cell? ⟨j, 2, none⟩ = some (.int .i64 ((0 : Nat) : Int)) := c2
  clear h hj hOj hk hn hNs hP hP1 hN hD c0 c1 c3 cz
  simp only [Int.natCast_zero] at c2 c2d
  go_enter Tryz.func49, Tryz.ntmps49
  go_wp2_with fail
  go_loopw [3] (fun gv wr => gv = .slice none 0 0 ∧ (wr = w ∨ Mid w wr j f nm S O k gv [])) (fun _ wr => 2 - (intOf ((wr.cell? ⟨j, 2, none⟩).getD (.int .i64 0))).toNat)
  case atStart => exact ⟨rfl, .inl rfl⟩
  case round =>
    obtain ⟨rfl, rfl | hM⟩ := hrel
    · clear HMid
      go_wp2_with fail
      refine wp_region_noPanic ?_
      go_region_law (go_simp; first | (refine (unhide HP).mono ?_; rintro e w1 ⟨rfl, rfl⟩; simp only []) | (refine (unhide HR).mono ?_; rintro e w2 ⟨g, c, rfl, HQ⟩; simp only []))
      all_goals
        refine NoPanic.normal ?_
        go_wp2_with fail
        refine (unhide HQ).mono ?_
        rintro e w4 ⟨rfl, d2, dz, HF⟩
        go_wp2_with fail
        refine ⟨⟨rfl, .inr (unhide HF)⟩, ?_⟩
        have e1 : (w4.setCell ⟨j, 2, none⟩ (.int .i64 1)).cell? ⟨j, 2, none⟩ = some (.int .i64 1) := (jn0_cells (unhide HF).2.1).2.2.1
        rw [e1, c2]
        simp [intOf]
    · obtain ⟨m0, m2, m4, s, HE⟩ := unhide HMid _ _ hM
      clear HMid HR HP c2 c2d c0d c4
      have m0d : wr.drew.cell? ⟨j, 0, none⟩ = some (.pointer (some ⟨f, 0, none⟩)) := m0
      have m2d : wr.drew.cell? ⟨j, 2, none⟩ = some (.int .i64 1) := m2
      go_wp2_with fail
      refine wp_region_noPanic ?_
      go_region_law (go_simp; first | (refine (unhide HE).mono ?_; rintro e w1 ⟨rfl, d0, HR⟩; simp only []) | (refine (unhide HR).mono ?_; rintro e w2 ⟨rfl, d2, HQ⟩; simp only []))
      all_goals
        refine NoPanic.normal ?_
        go_wp2_with fail
        refine (unhide HQ).mono ?_
        rintro e w3 ⟨rfl, d3, dz, did, HF⟩
        go_wp2_with fail
        go_ret
        exact ⟨_, rfl, rfl, unhide HF⟩
/-- A journal without a group whose file is there, and a FS. -/
theorem js_zero {w' : World} {j f : Nat} {nm : ByteArray} {S : Fs} {O : Nat → Prop} {k : Nat} (h : FsIs w' f 0 S O k) (hj : w'.heap[j]? = some (jBlk0 f nm 1)) (hO : ¬ O j) : JS w' f j nm S ⟨[], [], 1, false⟩ (fun q => O q ∨ q = j) k := by
  have hjl : j < w'.heap.size := (Array.getElem?_eq_some_iff.1 hj).1
  refine ⟨O, fun _ => False, fun _ => False, .slice none 0 0, .slice none 0 0, [], h, ⟨⟨hj, id, World.ownsRow_nil _ _ _ _, fun q e => by simp [Value.ownBlock] at e, trivial, fun _ o => o.elim⟩, Recs.nil _ _, fun _ o => o.elim, id, fun _ o => o.elim⟩, fun q o => ⟨id, id, fun e => hO (e ▸ o)⟩, fun _ o => .inl o, fun _ o => o.elim, fun _ o => o.elim, .inr rfl, ?_⟩
  rintro q (o | rfl)
  · exact h.lt q o
  · exact hjl
set_option maxRecDepth 20000 in
set_option maxHeartbeats 1000000 in
theorem open_zero (f : Nat) (S : Fs) (O : Nat → Prop) (k i : Nat) (nm : ByteArray) (w : World) (h : FsIs w f 0 S O k) (hp : S.pend = []) (hk : k ≤ 16000) (hn : 1 ≤ nm.size) (hn2 : nm.size ≤ 100) (hNs : ∀ s i, S.now.N s = some i → s.size ≤ 300) (hP : NoPart S.now nm) (hP1 : S.now.N (part1 nm) = none) (hN : S.now.N nm = some i) (hD : S.now.D i = []) :
    Calls Tryz.prog 16 #[.pointer (some ⟨f, 0, none⟩), .string nm] w fun e w' => ∃ j, e = .returned (.tuple #[.pointer (some ⟨j, 0, none⟩), .int .i64 0]) ∧ w.heap.size ≤ j ∧ JS w' f j nm S ⟨[], [], 1, false⟩ (fun q => O q ∨ q = j) k ∧ Below w.heap.size w w' := by
  have HP := hide (open_upto f S O k nm w h hp hn2)
  have HL : Hid (∀ w2 : World, FsIs (w2.alloc (jBlk0 f nm 0)) f 0 S O k → (w2.alloc (jBlk0 f nm 0)).heap[w2.heap.size]? = some (jBlk0 f nm 0) → ¬ O w2.heap.size → w.heap.size ≤ w2.heap.size → Below w.heap.size w (w2.alloc (jBlk0 f nm 0)) → Calls Tryz.prog 49 #[.pointer (some ⟨w2.heap.size, 0, none⟩)] (w2.alloc (jBlk0 f nm 0)) fun e w' => e = .returned (.slice none 0 0) ∧ Hid (w.heap.size ≤ w2.heap.size ∧ JS w' f w2.heap.size nm S ⟨[], [], 1, false⟩ (fun q => O q ∨ q = w2.heap.size) k ∧ Below w.heap.size w w')) := fun w2 h1 h2 h3 h4 h5 => by
    refine (load_zero w2.heap.size f S O k i nm _ h1 h2 h3 hk hn2 hNs hP hP1 hN hD).mono fun e w' ⟨gv, e1, e2, hF, hj, qs, hLG⟩ => ⟨by rw [e1, e2], h4, js_zero hF hj h3, ?_⟩
    exact ⟨hLG.os.trans h5.os, hLG.tape.trans h5.tape, hLG.output.trans h5.output, Nat.le_trans h5.size hLG.size, fun b hb => (hLG.rest b (Nat.lt_of_lt_of_le hb h5.size) (by omega)).trans (h5.block b hb)⟩
  have h1 : (1 : Int) ≤ (nm.size : Int) := by omega
  have h2 : (nm.size : Int) ≤ 100 := by omega
  clear h hp hk hn hn2 hNs hP hN hP1 hD
  go_enter Tryz.func16, Tryz.ntmps16
  go_wp2_with fail
  refine (unhide HP).mono ?_
  rintro e w1 ⟨rfl, HC⟩
  go_wp2_with fail
  refine (unhide HC).mono ?_
  rintro e w2 ⟨rfl, HQ⟩
  have HL2 := hide (unhide HL w2 (unhide HQ).1 (unhide HQ).2.1 (unhide HQ).2.2.1 (unhide HQ).2.2.2.1 (unhide HQ).2.2.2.2)
  clear HL HP HQ HC
  go_wp2_with fail
  refine (unhide HL2).mono ?_
  rintro e w3 ⟨rfl, HF⟩
  go_wp2_with fail
  go_loop [41] (fun i => i = .int .i64 0) (fun _ => 0)
  case atStart => rfl
  case round =>
    subst hrel
    go_wp2_with fail
    exact bodyPost_ret (by simp [results, Tryz.results16]) rfl ⟨_, rfl, unhide HF⟩
/-- Open, of a FS that has the journal's file alone. -/
theorem open_any (f : Nat) (S : Fs) (O : Nat → Prop) (k p : Nat) (nm : ByteArray) (G : List (List (List UInt8))) (w : World) (h : FsIs w f 0 S O k) (hp : S.pend = []) (hk : k ≤ 16000) (hn : 1 ≤ nm.size) (hn2 : nm.size ≤ 100) (hNs : ∀ s i, S.now.N s = some i → s.size ≤ 300) (hP : NoPart S.now nm) (hP1 : S.now.N (part1 nm) = none) (hH : HasF S.now nm p (encs z32 G)) (hl : G.length ≤ 10000) (hds : ∀ d ∈ G, d.length ≤ 100000 ∧ wt d ≤ 10000000) (hw : wts G ≤ 10000000) :
    Calls Tryz.prog 16 #[.pointer (some ⟨f, 0, none⟩), .string nm] w fun e w' => ∃ j U, e = .returned (.tuple #[.pointer (some ⟨j, 0, none⟩), .int .i64 0]) ∧ w.heap.size ≤ j ∧ JS w' f j nm S ⟨G, [], p, false⟩ U k ∧ Below w.heap.size w w' ∧ ∀ q, U q → O q ∨ w.heap.size ≤ q := by
  rcases hH with ⟨rfl, hN, hE⟩ | ⟨rfl, i, hA⟩
  · have hG : G = [] := by
      cases G with
      | nil => rfl
      | cons g G =>
        have := congrArg List.length hE
        simp only [encs, List.length_append, enc_len, List.length_nil] at this
        omega
    subst hG
    refine (open_none f S O k nm w h hp hk hn hn2 hNs hP hN).mono fun e w' ⟨j, e1, hj, hJ, hb⟩ => ⟨j, _, e1, hj, hJ, hb, ?_⟩
    rintro q (o | rfl)
    · exact .inl o
    · exact .inr hj
  · by_cases hG : G = []
    · subst hG
      refine (open_zero f S O k i nm w h hp hk hn hn2 hNs hP hP1 hA.N hA.D).mono fun e w' ⟨j, e1, hj, hJ, hb⟩ => ⟨j, _, e1, hj, hJ, hb, ?_⟩
      rintro q (o | rfl)
      · exact .inl o
      · exact .inr hj
    · exact open_some f S O k i nm G w h hp hk hn hn2 hNs hP hP1 hA.N hA.D hG hl hds hw
end Go.Proofs.YtebcmicmklpflaaGreatDoor
