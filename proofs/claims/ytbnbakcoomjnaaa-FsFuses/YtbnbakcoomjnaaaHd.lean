/- New, Used, Read and Node of a FS. -/
import Derived.Test.YtbnbakcoomjnaaaHc
import Derived.Test.YtbnbakcoomjnaaaGx
import Derived.Deep.RegionHeld3
namespace Go.Proofs.Ytbnbakcoomjnaaa
open Go.RowKit Go.Maps
set_option linter.unusedSimpArgs false
/-- A table of nothing. -/
def Tb.none : Tb := ⟨fun _ => Option.none, fun _ => [], fun _ => 0, 0⟩
def Fs.new (r : Nat) : Fs := ⟨r, Tb.none, Tb.none, [], Option.none⟩
theorem Tb.none_ok : Tb.none.Ok 0 := ⟨fun _ => by simp [Tb.none], by simp [Tb.none], fun _ => by simp [Tb.none]⟩
theorem new_ok (r : Nat) (w : World) (hr : r ≤ 1073741824) : Calls Try.prog 9 #[.int .i64 (r : Int)] w fun e w' => e = .returned (.tuple #[.pointer (some ⟨w.heap.size, 0, none⟩), .int .i64 0]) ∧ FsIs w' w.heap.size 0 (Fs.new r) (fun q => q = w.heap.size) 0 ∧ Below w.heap.size w w' := by
  refine (new_any r w hr).mono ?_
  rintro e w' ⟨rfl, rfl⟩
  refine ⟨rfl, ?_, (Below.refl _ _).alloc (Nat.le_refl _) _⟩
  have hnew : (w.alloc (.cells #[.int .i32 0, .int .u32 0, .int .i64 (r : Int), .map Option.none, .int .i64 0, .map Option.none, .int .i64 0, .slice Option.none 0 0, .bool false, .int .i64 0] 67)).heap[w.heap.size]? = some (.cells #[.int .i32 0, .int .u32 0, .int .i64 (r : Int), .map Option.none, .int .i64 0, .map Option.none, .int .i64 0, .slice Option.none 0 0, .bool false, .int .i64 0] 67 (0, 0)) := heap_alloc_new w _
  generalize (w.alloc (.cells #[.int .i32 0, .int .u32 0, .int .i64 (r : Int), .map Option.none, .int .i64 0, .map Option.none, .int .i64 0, .slice Option.none 0 0, .bool false, .int .i64 0] 67)) = W at *
  have hT : TabL W (fun _ => Option.none) (fun q => q = w.heap.size) Tb.none ⟨Option.none, 0, fun _ => False, id, fun _ => .slice Option.none 0 0, 0, 0, fun _ => False⟩ := ⟨⟨fun _ => rfl, fun _ => rfl, fun _ _ h => (by cases h), fun _ h => h.elim, fun _ _ h => h.elim, fun _ h => h.elim⟩, Tb.none_ok, Nat.le_refl _, fun _ h => (by cases h), fun _ h => h.elim, fun _ h => h.elim⟩
  exact ⟨fun _ => Option.none, ⟨Option.none, 0, fun _ => False, id, fun _ => .slice Option.none 0 0, 0, 0, fun _ => False⟩, ⟨Option.none, 0, fun _ => False, id, fun _ => .slice Option.none 0 0, 0, 0, fun _ => False⟩, .slice Option.none 0 0, [], ⟨hnew, hT, hT, fun _ _ h => h.elim, fun _ h => (by cases h), fun _ _ h => (by cases h), fun _ h => h.elim, fun _ _ h => h.elim, World.ownsRow_nil _ _ _ _, fun j v t h => (by simp at h), rfl, Nat.le_refl _, Nat.le_refl _, Nat.zero_le _, hr, Nat.zero_le _, rfl, fun _ _ h => (by cases h), fun _ h => (by simp [Value.ownBlock] at h), fun q e => by rw [e]; exact (Array.getElem?_eq_some_iff.1 hnew).1⟩, Nat.le_refl _, fun _ => id⟩
/-- Behind what only lays new blocks, the lock let go. -/
theorem FsM.back {w W : World} {f : Nat} {S : Fs} {O : Nat → Prop} {K : Nat → Option (List UInt8)} {n l : Lie} {pv : Value} {ps : List Value} {L : List (Nat × Obj)} (h : FsM w f 0 S S.pend O K n l pv ps) (hI : Inv (fun _ => False) (w.setCell ⟨f, 0, none⟩ (.int .i32 1)) W L) :
    FsM (W.setCell ⟨f, 0, none⟩ (.int .i32 0)) f 0 S S.pend O K n l pv ps ∧ Below w.heap.size w (W.setCell ⟨f, 0, none⟩ (.int .i32 0)) ∧ W.cell? ⟨f, 0, none⟩ = some (.int .i32 1) ∧ W.frozen? ⟨f, 0, none⟩ = false := by
  have hM1 := h.lock 1
  have hMW : FsM W f 1 S S.pend O K n l pv ps := hM1.kept hI.size (fun q o => hI.blk q (hM1.lt q o) id)
  refine ⟨hMW.lock 0, below_two h.cells.1 ⟨hI.os, hI.tape, hI.output, hI.size, fun q hq => hI.blk q (by rw [size_set]; exact hq) id⟩, hMW.cells.1, hMW.cells.2.2.2.2.2.2.2.2.2 0⟩
set_option maxRecDepth 20000 in
theorem used_ok (f : Nat) (S : Fs) (O : Nat → Prop) (k : Nat) (w : World) (h : FsIs w f 0 S O k) : Calls Try.prog 25 #[.pointer (some ⟨f, 0, none⟩)] w fun e w' => e = .returned (.int .i64 S.now.u) ∧ FsIs w' f 0 S O k ∧ Below w.heap.size w w' := by
  obtain ⟨K, n, l, pv, ps, hM, hnk⟩ := h
  obtain ⟨h0, _, _, h4, _, _, _, _, _, hz⟩ := hM.cells
  refine (used_any f S.now.u w h0 (hz 0) h4).mono ?_
  rintro e w' ⟨rfl, rfl⟩
  obtain ⟨h1, h2, _⟩ := hM.back (Inv.refl _ _)
  exact ⟨rfl, ⟨K, n, l, pv, ps, h1, hnk⟩, h2⟩
set_option maxRecDepth 20000 in
set_option maxHeartbeats 1000000 in
theorem read_ok (f : Nat) (S : Fs) (O : Nat → Prop) (k : Nat) (s : ByteArray) (i : Nat) (w : World) (h : FsIs w f 0 S O k) (hs : s.size ≤ maxLen) (hN : S.now.N s = some i) :
    Calls Try.prog 15 #[.pointer (some ⟨f, 0, none⟩), .string s] w fun e w' => ∃ a c L, e = .returned (.tuple #[.slice a (S.now.D i).length c, .int .i64 0]) ∧ NewData w.heap.size L (.slice a (S.now.D i).length c) (S.now.D i) ∧ (∀ p ∈ L, w'.heap[p.1]? = some p.2) ∧ FsIs w' f 0 S O k ∧ Below w.heap.size w w' := by
  obtain ⟨K, n, l, pv, ps, hM, hnk⟩ := h
  obtain ⟨h0, _, _, _, _, _, _, _, _, hz⟩ := hM.cells
  have hfl : f < w.heap.size := hM.lt f hM.of
  obtain ⟨W1, hW1⟩ : ∃ W1, W1 = w.setCell ⟨f, 0, none⟩ (.int .i32 1) := ⟨_, rfl⟩
  have hs1 : W1.heap.size = w.heap.size := by rw [hW1, size_set]
  have hM1 : FsM W1 f 1 S S.pend O K n l pv ps := by rw [hW1]; exact hM.lock 1
  obtain ⟨_, _, t3, _⟩ := hM1.cells
  have hFi := hM1.now.tab.live s i hN
  have hfi := hM1.now.tab.file i hFi
  have hdat := hM1.now.tab.data i hFi
  obtain ⟨a0, c0, hh⟩ := hdat.len
  have tg : W1.cell? ⟨n.b i, 0, none⟩ = some (.slice a0 (S.now.D i).length c0) := by simp [World.cell?, hfi, hh]
  have HH := hide (has_tab f 3 K n.m n.n S.now n.F n.b n.h s W1 t3 hM1.now.tab hs)
  rw [hN] at HH
  have hlk := tab_look hM1.now.tab.tab hs
  simp only [hN, Option.map_some] at hlk
  unfold ptr at hlk
  have HL0 := hide (lock_free ⟨f, 0, none⟩ w h0 (hz 0))
  rw [← hW1] at HL0
  have hrow : Row W1.heap.size W1 (.slice a0 (S.now.D i).length c0) (S.now.D i) := by
    obtain ⟨a', c', e, hle, _, h3⟩ := hdat
    rw [hh] at e
    injection e with e1 _ e3
    refine ⟨a0, c0, rfl, by omega, fun hpos => ?_⟩
    rcases h3 with ⟨_, e⟩ | ⟨g, x, e, hk, hp⟩
    · omega
    · obtain ⟨cur, hc, hpc⟩ := hM1.kok g x hk
      refine ⟨g, 0, e1.trans e, (Array.getElem?_eq_some_iff.1 hc).1, fun j u hj => ?_⟩
      have hp2 : byteVals (S.now.D i) <+: cur.toList := by
        obtain ⟨t, ht⟩ := hp
        have : byteVals (S.now.D i) <+: byteVals x := by rw [← ht]; unfold byteVals; rw [List.map_append]; exact List.prefix_append _ _
        exact this.trans hpc
      obtain ⟨t, ht⟩ := hp2
      have hj2 := (List.getElem?_eq_some_iff.1 hj).1
      simp only [World.cell?, hc, Nat.zero_add]
      rw [← Array.getElem?_toList, ← ht, List.getElem?_append_left hj2]
      simpa using hj
  have hdl := hM1.now.ok.dl i
  have HB := hide (bclone_new W1.heap.size a0 (S.now.D i).length c0 (S.now.D i) W1 hrow rfl (Nat.le_refl _) (by omega))
  have HE : Hid (∀ (W : World) (L : List (Nat × Obj)), Below W1.heap.size W1 W → (∀ p ∈ L, W.heap[p.1]? = some p.2) → (∀ p ∈ L, w.heap.size ≤ p.1) → (∀ p ∈ L, (W.setCell ⟨f, 0, none⟩ (.int .i32 0)).heap[p.1]? = some p.2) ∧ FsIs (W.setCell ⟨f, 0, none⟩ (.int .i32 0)) f 0 S O k ∧ Below w.heap.size w (W.setCell ⟨f, 0, none⟩ (.int .i32 0)) ∧ W.cell? ⟨f, 0, none⟩ = some (.int .i32 1) ∧ W.frozen? ⟨f, 0, none⟩ = false) := fun W L hb hL hn => by
    have hI : Inv (fun _ => False) (w.setCell ⟨f, 0, none⟩ (.int .i32 1)) W [] := by
      rw [← hW1]
      exact ⟨hb.os, hb.tape, hb.output, hb.size, fun q h1 _ => hb.block q h1, fun _ h => (by cases h), fun _ h => (by cases h)⟩
    obtain ⟨b1, b2, b3, b4⟩ := hM.back hI
    exact ⟨fun p hp => by rw [set_other _ _ _ _ _ (by have := hn p hp; omega)]; exact hL p hp, ⟨K, n, l, pv, ps, b1, hnk⟩, b2, b3, b4⟩
  rw [hs1] at HB
  clear hM hM1 hrow hdat hh hfi hFi hW1 hN hdl hz
  generalize (S.now.D i) = dd at *
  generalize hNN : dd.length = N at *
  clear hNN
  go_enter_defers Try.func15, Try.ntmps15
  go_wp2_with fail
  refine (unhide HL0).mono ?_
  rintro e w' ⟨rfl, rfl⟩
  go_wp2_with fail
  refine (unhide HH).mono ?_
  rintro e w'' ⟨rfl, rfl⟩
  go_wp2_with fail
  refine (unhide HB).mono ?_
  rintro e w2 ⟨a', c', L, rfl, hND, hb2, hL⟩
  have hnw : ∀ p ∈ L, w.heap.size ≤ p.1 := by
    rcases hND with ⟨rfl, _⟩ | ⟨g, cap, cur, rfl, _, hlo, _⟩
    · intro p hp; cases hp
    · intro p hp
      simp only [List.mem_singleton] at hp
      rw [hp]; exact hlo
  obtain ⟨q1, q2, q3, c2, z2⟩ := unhide HE w2 L (by rw [hs1]; exact hb2) hL hnw
  have HR := hide (And.intro hND (And.intro q1 (And.intro q2 q3)))
  clear hND q1 q2 q3 hb2 hL hnw
  go_wp2_with fail
  refine leaves_cons (f := 37) (args := #[.pointer (some ⟨f, 0, none⟩)]) (by simp) (by simp [go_sem]) ?_
  refine (unlock_deferred ⟨f, 0, none⟩ .returning _ c2 z2).mono ?_
  rintro e u' w3 ⟨rfl, rfl, rfl⟩
  exact ⟨_, results_tmp2 rfl _ _ _, a', c', L, rfl, (unhide HR).1, (unhide HR).2.1, (unhide HR).2.2.1, (unhide HR).2.2.2⟩
set_option maxRecDepth 20000 in
set_option maxHeartbeats 2000000 in
theorem node_ok (f : Nat) (S : Fs) (O : Nat → Prop) (k : Nat) (s : ByteArray) (i : Nat) (w : World) (h : FsIs w f 0 S O k) (hk : k ≤ 100000) (hs3 : s.size ≤ 300) (hnm : ∀ s', S.now.N s' = some i → s'.size ≤ 300) (hN : S.now.N s = some i) :
    Calls Try.prog 19 #[.pointer (some ⟨f, 0, none⟩), .string s] w fun e w' => ∃ r : ByteArray, e = .returned (.tuple #[.string r, .int .i64 (S.now.c i)]) ∧ ((S.now.c i = 1 ∧ r = s) ∨ Least S.now i (fun _ => false) r) ∧ r.size ≤ 300 ∧ FsIs w' f 0 S O k ∧ Below w.heap.size w w' := by
  have hs : s.size ≤ maxLen := by simp only [maxLen]; omega
  obtain ⟨K, n, l, pv, ps, hM, hnk⟩ := h
  obtain ⟨h0, _, _, _, _, _, _, _, _, hz⟩ := hM.cells
  obtain ⟨W1, hW1⟩ : ∃ W1, W1 = w.setCell ⟨f, 0, none⟩ (.int .i32 1) := ⟨_, rfl⟩
  have hM1 : FsM W1 f 1 S S.pend O K n l pv ps := by rw [hW1]; exact hM.lock 1
  obtain ⟨_, _, t3, _⟩ := hM1.cells
  have hFi := hM1.now.tab.live s i hN
  have hMW : ∀ (W : World) (L : List (Nat × Obj)), Inv (fun _ => False) W1 W L → FsM W f 1 S S.pend O K n l pv ps := fun W L hI => hM1.kept hI.size (fun q o => hI.blk q (hM1.lt q o) id)
  have HH := hide (has_tab f 3 K n.m n.n S.now n.F n.b n.h s W1 t3 hM1.now.tab hs)
  rw [hN] at HH
  have HK : Hid (∀ (W : World) (L : List (Nat × Obj)), Inv (fun _ => False) W1 W L → W.cell? ⟨f, 3, none⟩ = some (.map n.m) ∧ (Instr.lookup 62 (.map n.m) (.string s) false).run Try.prog W = .ok (.pointer (some ⟨n.b i, 0, none⟩)) W) := fun W L hI => by
    have hMx := hMW W L hI
    refine ⟨hMx.cells.2.2.1, ?_⟩
    have := tab_look hMx.now.tab.tab hs
    simp only [hN, Option.map_some] at this
    exact this
  have H55 : Hid (∀ (W : World) (L : List (Nat × Obj)), Inv (fun _ => False) W1 W L → Calls Try.prog 55 #[.pointer (some ⟨f, 3, none⟩), .string s] W fun e w' => ∃ r : ByteArray, e = .returned (.string r) ∧ Hid (r.size ≤ 300 ∧ ((S.now.c i = 1 ∧ r = s) ∨ Least S.now i (fun _ => false) r)) ∧ Inv (fun _ => False) W1 w' L) := fun W L hI => by
    have hMx := hMW W L hI
    refine (first_any f 3 K n.m n.n S.now n.F n.b n.h s i W hMx.cells.2.2.1 hMx.now.tab hs hN).mono ?_
    rintro e w' ⟨r, rfl, h1, h2, h3⟩
    refine ⟨r, rfl, ⟨?_, h3⟩, hI.below h2⟩
    rcases h3 with ⟨_, e⟩ | h3
    · rw [e]; exact hs3
    · exact hnm r h3.1
  have H32 : Hid (∀ (r : ByteArray), Hid (r.size ≤ 300 ∧ ((S.now.c i = 1 ∧ r = s) ∨ Least S.now i (fun _ => false) r)) → ∀ (W : World) (L : List (Nat × Obj)), Inv (fun _ => False) W1 W L → Calls Try.prog 32 #[.string r] W fun e w' => e = .returned (.string r) ∧ Inv (fun _ => False) W1 w' L) := fun r hr W L hI => clone_inv r W (by have := (unhide hr).1; omega) hI
  have H56 : Hid (∀ (W : World) (L : List (Nat × Obj)), Inv (fun _ => False) W1 W L → Calls Try.prog 56 #[.pointer (some ⟨n.b i, 1, none⟩)] W fun e w' => e = .returned (.int .i32 (S.now.c i)) ∧ w' = W) := fun W L hI => by
    have hMx := hMW W L hI
    have hf := hMx.now.tab.file i hFi
    exact load32 ⟨n.b i, 1, none⟩ (S.now.c i) W (by simp [World.cell?, hf])
  have HL0 := hide (lock_free ⟨f, 0, none⟩ w h0 (hz 0))
  rw [← hW1] at HL0
  have hcb := hM.now.ok.cnt i
  have hc1 : -100000 ≤ S.now.c i := by have := hnk.1; omega
  have hc2 : S.now.c i ≤ 100000 := by have := hnk.1; omega
  have HE : Hid (∀ (W : World) (L : List (Nat × Obj)), Inv (fun _ => False) W1 W L → FsIs (W.setCell ⟨f, 0, none⟩ (.int .i32 0)) f 0 S O k ∧ Below w.heap.size w (W.setCell ⟨f, 0, none⟩ (.int .i32 0)) ∧ W.cell? ⟨f, 0, none⟩ = some (.int .i32 1) ∧ W.frozen? ⟨f, 0, none⟩ = false) := fun W L hI => by
    rw [hW1] at hI
    obtain ⟨b1, b2, b3, b4⟩ := hM.back hI
    exact ⟨⟨K, n, l, pv, ps, b1, hnk⟩, b2, b3, b4⟩
  have hst : Inv (fun _ => False) W1 W1 [] := Inv.refl _ _
  clear hM hM1 hFi hW1 hN hz hMW hcb hnk hk
  generalize hcc : S.now.c i = ci at *
  clear hcc
  have hwc : IntKind.i64.wrap ci = ci := wrap64 (by omega)
  go_enter_defers Try.func19, Try.ntmps19
  go_wp2_with fail
  refine (unhide HL0).mono ?_
  rintro e w' ⟨rfl, rfl⟩
  go_wp2_with fail
  refine (unhide HH).mono ?_
  rintro e w'' ⟨rfl, rfl⟩
  go_wp2_with fail
  go_region_held3 (fun W' => W'.cell? ⟨f, 3, none⟩ = some (.map n.m) ∧ (Instr.lookup 62 (.map n.m) (.string s) false).run Try.prog W' = .ok (.pointer (some ⟨n.b i, 0, none⟩)) W') (first | exact unhide HK _ _ hst | exact unhide HK _ _ hst.drew) (first | (go_at_call 55; refine Calls.mono (unhide H55 _ ?_ ?_) ?_; rotate_left; (first | exact hst | exact hst.drew); rintro e w2 ⟨r, rfl, hrr, hst⟩) | (go_at_call 32; refine Calls.mono (unhide H32 _ hrr _ ?_ ?_) ?_; rotate_left; (first | exact hst | exact hst.drew); rintro e w3 ⟨rfl, hst⟩) | (go_at_call 56; refine Calls.mono (unhide H56 _ ?_ ?_) ?_; rotate_left; (first | exact hst | exact hst.drew); rintro e w4 ⟨rfl, rfl⟩))
  all_goals
    obtain ⟨q1, q2, c2, z2⟩ := unhide HE _ _ hst
    have HR := hide (And.intro q1 q2)
    clear q1 q2 hst
    go_wp2_with fail
    refine leaves_cons (f := 37) (args := #[.pointer (some ⟨f, 0, none⟩)]) (by simp) (by simp [go_sem]) ?_
    refine (unlock_deferred ⟨f, 0, none⟩ .returning _ c2 z2).mono ?_
    rintro e u' w9 ⟨rfl, rfl, rfl⟩
    exact ⟨_, results_tmp2 rfl _ _ _, r, rfl, (unhide hrr).2, (unhide hrr).1, (unhide HR).1, (unhide HR).2⟩
end Go.Proofs.Ytbnbakcoomjnaaa
