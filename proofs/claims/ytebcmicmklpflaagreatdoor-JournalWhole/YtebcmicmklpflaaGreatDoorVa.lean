/- A table with at most one name is cloned. -/
import Derived.Test.YtebcmicmklpflaaGreatDoorRn
namespace Go.Proofs.YtebcmicmklpflaaGreatDoor
open Go.RowKit Go.Maps
set_option linter.unusedSimpArgs false
@[go_sem] theorem mk87 (k : Int) (W : World) : (Instr.makeMap 87 (some (.int .i64 k))).run Tryz.prog W = .ok (.map (some W.heap.size)) (W.alloc (.map #[] 0)) := by
  simp [Instr.makeMap, run_underlying Tryz.underlying87, asInt, asIntOf]
@[go_sem] theorem mk218 (k : Int) (W : World) : (Instr.makeMap 218 (some (.int .i64 k))).run Tryz.prog W = .ok (.map (some W.heap.size)) (W.alloc (.map #[] 0)) := by
  simp [Instr.makeMap, run_underlying Tryz.underlying218, asInt, asIntOf]
theorem look218 {W : World} {tb cl : Nat} (hb : W.heap[tb]? = some (.map #[] cl)) (k : Option Addr) : (Instr.lookup 218 (.map (some tb)) (.pointer k) false).run Tryz.prog W = .ok (.pointer none) W := by
  have hc : (Instr.checkKey true 10000 130 (.pointer k)).run Tryz.prog W = .ok () W := by
    unfold Instr.checkKey
    simp [run_underlying Tryz.underlying130, Result.andThen]
  have hf : (Instr.findKey 130 (.pointer k) ([] : List MapEntry)).run Tryz.prog W = .ok none W := by
    simp [Instr.findKey, run_underlying Tryz.underlying130, Result.andThen, Instr.findNow]
  have hz : (zeroValue 130).run Tryz.prog W = .ok (.pointer none) W := by
    have h : (Tryz.prog.info? 130).map (fun i => i.zero) = some (some (.pointer none)) := by kernel_rfl
    cases hq : Tryz.prog.info? 130 with
    | none => simp [hq] at h
    | some i =>
      simp [hq] at h
      simp [zeroValue, typeInfo, hq, h]
  simp [Instr.lookup, run_underlying Tryz.underlying218, MapKept.run_getObj_map hb, hc, hf, hz, Result.andThen]
theorem put218 {W : World} {tb cl : Nat} (hb : W.heap[tb]? = some (.map #[] cl)) (k : Option Addr) (v : Value) : (Instr.mapUpdate 218 (.map (some tb)) (.pointer k) v).run Tryz.prog W = .ok () (W.putObj tb (.map #[{ key := .pointer k, val := v, born := cl }] (cl + 1))) := by
  have hc : (Instr.checkKey false 10000 130 (.pointer k)).run Tryz.prog W = .ok () W := by
    unfold Instr.checkKey
    simp [run_underlying Tryz.underlying130, Result.andThen]
  have hf : (Instr.findKey 130 (.pointer k) ([] : List MapEntry)).run Tryz.prog W = .ok none W := by
    simp [Instr.findKey, run_underlying Tryz.underlying130, Result.andThen, Instr.findNow]
  simp [Instr.mapUpdate, run_underlying Tryz.underlying218, MapKept.run_getObj_map hb, hc, hf, MapKept.run_setObj_map _ hb, Result.andThen, World.putObj]
set_option maxRecDepth 20000 in
theorem clip_any (a : Option Addr) (n c : Nat) (w : World) (h : n ≤ c) (hc : c ≤ 9223372036854775807) : Calls Tryz.prog 156 #[.slice a n c] w fun e w' => e = .returned (.slice a n n) ∧ w' = w := by
  have h2 : (n : Int) ≤ (c : Int) := by omega
  have h3 : (n : Int) ≤ 9223372036854775807 := by omega
  go_enter Tryz.func156, Tryz.ntmps156
  go_wp2_with fail
  go_ret
  exact ⟨rfl, rfl⟩
def zT : Obj := .cells #[.map none, .int .i64 0] 89
def zM : Obj := .map #[] 0
/-- Behind the making of the new table. -/
structure Made (W W1 : World) (u : Int) (p q : Nat) : Prop where
  bel : Below W.heap.size W W1
  map : W1.heap[p]? = some (.map #[] 0)
  box : W1.heap[q]? = some (.cells #[.map (some p), .int .i64 u] 89 (0, 0))
  res : W1.heap[W.heap.size]? = some (.cells #[.map none, .int .i64 0] 89 (0, 0))
  pq : p ≠ q
  lp : W.heap.size < p
  lq : W.heap.size < q
theorem tab_empty {W : World} {p : Nat} (h : W.heap[p]? = some (.map #[] 0)) : TabIs W (some p) 0 (fun _ => none) := by
  obtain ⟨D, ⟨es, cl, hb, r1, r2, r3⟩, hD⟩ := tab_new W
  have hn := heap_alloc_new W (.map #[] 0)
  rw [hn] at hb
  injection hb with hb
  injection hb with e1 e2
  subst e1 e2
  exact ⟨D, ⟨#[], 0, h, r1, r2, r3⟩, hD⟩
theorem made_a (W : World) (u : Int) : Made W (((W.alloc (.cells #[.map none, .int .i64 0] 89)).alloc (.map #[] 0)).alloc (.cells #[.map (some (W.heap.size + 1)), .int .i64 u] 89)).drew u (W.heap.size + 1) (W.heap.size + 1 + 1) := by
  have s1 : (W.alloc (.cells #[.map none, .int .i64 0] 89)).heap.size = W.heap.size + 1 := by simp
  have s2 : ((W.alloc (.cells #[.map none, .int .i64 0] 89)).alloc (.map #[] 0)).heap.size = W.heap.size + 1 + 1 := by simp
  have h0 := heap_alloc_new W (.cells #[.map none, .int .i64 0] 89)
  have h1 := heap_alloc_new (W.alloc (.cells #[.map none, .int .i64 0] 89)) (.map #[] 0)
  rw [s1] at h1
  have h2 := heap_alloc_new ((W.alloc (.cells #[.map none, .int .i64 0] 89)).alloc (.map #[] 0)) (.cells #[.map (some (W.heap.size + 1)), .int .i64 u] 89)
  rw [s2] at h2
  refine ⟨((((Below.refl _ _).alloc (Nat.le_refl _) _).alloc (by simp) _).alloc (by simp; omega) _).drew, ?_, h2, ?_, by omega, by omega, by omega⟩
  · exact (Below.heap_alloc _ _ _ (by omega)).trans h1
  · exact (Below.heap_alloc _ _ _ (by omega)).trans ((Below.heap_alloc _ _ _ (by omega)).trans h0)
theorem made_b (W : World) (u : Int) : Made W (((W.alloc (.cells #[.map none, .int .i64 0] 89)).alloc (.cells #[.map (some (W.heap.size + 1 + 1)), .int .i64 u] 89)).alloc (.map #[] 0)).drew u (W.heap.size + 1 + 1) (W.heap.size + 1) := by
  have s1 : (W.alloc (.cells #[.map none, .int .i64 0] 89)).heap.size = W.heap.size + 1 := by simp
  have s2 : ((W.alloc (.cells #[.map none, .int .i64 0] 89)).alloc (.cells #[.map (some (W.heap.size + 1 + 1)), .int .i64 u] 89)).heap.size = W.heap.size + 1 + 1 := by simp
  have h0 := heap_alloc_new W (.cells #[.map none, .int .i64 0] 89)
  have h1 := heap_alloc_new (W.alloc (.cells #[.map none, .int .i64 0] 89)) (.cells #[.map (some (W.heap.size + 1 + 1)), .int .i64 u] 89)
  rw [s1] at h1
  have h2 := heap_alloc_new ((W.alloc (.cells #[.map none, .int .i64 0] 89)).alloc (.cells #[.map (some (W.heap.size + 1 + 1)), .int .i64 u] 89)) (.map #[] 0)
  rw [s2] at h2
  refine ⟨((((Below.refl _ _).alloc (Nat.le_refl _) _).alloc (by simp) _).alloc (by simp; omega) _).drew, h2, ?_, ?_, by omega, by omega, by omega⟩
  · exact (Below.heap_alloc _ _ _ (by omega)).trans h1
  · exact (Below.heap_alloc _ _ _ (by omega)).trans ((Below.heap_alloc _ _ _ (by omega)).trans h0)
theorem ranges_same {w w' : World} {mb it n : Nat} {D : DataW Unit} {left : Lit → Bool} {cnt : Nat} (h : w.ranges Tryz.prog 9 fileElem mb it n D left cnt) (h1 : w'.heap[mb]? = w.heap[mb]?) (h2 : w'.heap[it]? = w.heap[it]?) : w'.ranges Tryz.prog 9 fileElem mb it n D left cnt := by
  obtain ⟨es, clock, since, seen, c0, a1, a2, a3, a4, a5, a6⟩ := h
  exact ⟨es, clock, since, seen, c0, h1.trans a1, a2, a3, a4, h2.trans a5, a6⟩
/-- What clone leaves. -/
def Cloned (W w' : World) (nm : ByteArray) (o : Option Nat) (a : Option Addr) (d : Nat) (u : Int) (e : Ending) : Prop :=
  ∃ p n' g', e = .returned (.agg #[.map (some p), .int .i64 u]) ∧ Below W.heap.size W w' ∧ W.heap.size < p ∧ p < w'.heap.size ∧ n' ≤ 1 ∧ TabIs w' (some p) n' (fun s => if s = nm then o.map (fun _ => g') else none) ∧ (o.isSome = true → W.heap.size < g' ∧ g' ≠ p ∧ w'.heap[g']? = some (.cells #[.slice a d d, .int .i32 1] 129 (0, 0)))
theorem Cloned.set {W w' : World} {nm : ByteArray} {o : Option Nat} {a : Option Addr} {d : Nat} {u : Int} {e : Ending} (h : Cloned W w' nm o a d u e) (k : Nat) (v : Value) : Cloned W (w'.setCell ⟨W.heap.size, k, none⟩ v) nm o a d u e := by
  obtain ⟨p, n', g', h1, h2, h3, h4, h5, h6, h7⟩ := h
  refine ⟨p, n', g', h1, ⟨h2.os, h2.tape, h2.output, by rw [size_set]; exact h2.size, fun b hb => by rw [set_other _ _ _ _ _ (by omega)]; exact h2.block b hb⟩, h3, by rw [size_set]; exact h4, h5, h6.same (fun m e => by injection e with e; subst e; exact set_other _ _ _ _ _ (by omega)), fun ho => ?_⟩
  obtain ⟨a1, a2, a3⟩ := h7 ho
  exact ⟨a1, a2, by rw [set_other _ _ _ _ _ (by omega)]; exact a3⟩
/-- Between the rounds of clone. -/
def CR (W : World) (mb n : Nat) (D : DataW Unit) (L : ByteArray → Option Nat) (nm : ByteArray) (o : Option Nat) (a : Option Addr) (d : Nat) (u : Int) (p q tb it : Nat) (wr : World) : Prop :=
  ∃ left cnt, wr.ranges Tryz.prog 9 fileElem mb it n D left cnt ∧ Below W.heap.size W wr ∧ wr.heap[q]? = some (.cells #[.map (some p), .int .i64 u] 89 (0, 0)) ∧ wr.heap[W.heap.size]? = some (.cells #[.map none, .int .i64 0] 89 (0, 0)) ∧ p < wr.heap.size ∧
    ((wr.heap[p]? = some (.map #[] 0) ∧ wr.heap[tb]? = some (.map #[] 0) ∧ ∀ s : ByteArray, s.size ≤ maxLen → (L s).isSome = true → left (.string s.data.toList) = true) ∨
     (o.isSome = true ∧ (∀ s : ByteArray, s.size ≤ maxLen → (L s).isSome = true → left (.string s.data.toList) = false) ∧ ∃ g', TabIs wr (some p) 1 (fun s => if s = nm then o.map (fun _ => g') else none) ∧ W.heap.size < g' ∧ g' ≠ p ∧ wr.heap[g']? = some (.cells #[.slice a d d, .int .i32 1] 129 (0, 0))))
set_option maxRecDepth 20000 in
set_option maxHeartbeats 4000000 in
theorem clone_some (f mb n : Nat) (L : ByteArray → Option Nat) (nm : ByteArray) (o : Option Nat) (a : Option Addr) (d c : Nat) (x0 : Value) (u : Int) (W : World) (ht : TabIs W (some mb) n L) (hnm : nm.size ≤ 300) (hL : ∀ s, s ≠ nm → L s = none) (hLo : L nm = o) (hfile : ∀ g, o = some g → W.heap[g]? = some (.cells #[.slice a d c, x0] 129 (0, 0))) (hdc : d ≤ c ∧ c ≤ 9223372036854775807 ∧ (a = none → d = 0 ∧ c = 0)) (c5 : W.cell? ⟨f, 5, none⟩ = some (.map (some mb))) (c6 : W.cell? ⟨f, 6, none⟩ = some (.int .i64 u)) :
    Calls Tryz.prog 110 #[.pointer (some ⟨f, 5, none⟩)] W fun e w' => Cloned W w' nm o a d u e := by
  obtain ⟨kl, hkl, _⟩ := tab_len ht 3
  have hmbl : mb < W.heap.size := by
    obtain ⟨D, ⟨es, cl, hb, _⟩, _⟩ := ht
    exact (Array.getElem?_eq_some_iff.1 hb).1
  have hfl : f < W.heap.size := cellLt c5
  have htk : ∀ W', Below W.heap.size W W' → TabIs W' (some mb) n L := fun W' hb => ht.same (fun m e => by injection e with e; subst e; exact hb.block _ hmbl)
  have hlen0 : ∀ W', Below W.heap.size W W' → (Builtin.len_ #[87] 3 #[.map (some mb)]).run Tryz.prog W' = .ok (.int .i64 (kl : Int)) W' := fun W' hb => by
    obtain ⟨D, ⟨es, cl, hb2, r1, r2, r3⟩, h2⟩ := id ht
    have o1 : W.ownsMap Tryz.prog 9 fileElem mb n D := ⟨es, cl, hb2, r1, r2, r3⟩
    have o2 : W'.ownsMap Tryz.prog 9 fileElem mb n D := ⟨es, cl, (hb.block mb hmbl).trans hb2, r1, r2, r3⟩
    have e1 := o1.len Tryz.underlying87 3
    have e2 := o2.len Tryz.underlying87 3
    rw [hkl] at e1
    injection e1 with e1
    rw [e2, ← e1]
  have fact : ∀ W', Below W.heap.size W W' → W'.cell? ⟨f, 5, none⟩ = some (.map (some mb)) ∧ W'.cell? ⟨f, 6, none⟩ = some (.int .i64 u) ∧ (Builtin.len_ #[87] 3 #[.map (some mb)]).run Tryz.prog W' = .ok (.int .i64 (kl : Int)) W' := fun W' hb => ⟨by rw [hb.cell (p := ⟨f, 5, none⟩) hfl]; exact c5, by rw [hb.cell (p := ⟨f, 6, none⟩) hfl]; exact c6, hlen0 W' hb⟩
  have b1 : Below W.heap.size W (W.alloc zT) := (Below.refl _ _).alloc (Nat.le_refl _) _
  have b1d := b1.drew
  have b2 : Below W.heap.size W ((W.alloc zT).alloc zT) := b1.alloc (by simp) _
  have b2d := b2.drew
  have b3 : Below W.heap.size W ((W.alloc zT).alloc zM) := b1.alloc (by simp) _
  have b3d := b3.drew
  have b4 : Below W.heap.size W (((W.alloc zT).alloc zM).alloc zT) := b3.alloc (by simp; omega) _
  have b4d := b4.drew
  have b5 : Below W.heap.size W (((W.alloc zT).alloc zT).alloc zM) := b2.alloc (by simp; omega) _
  have b5d := b5.drew
  obtain ⟨x1, y1, l1⟩ := fact _ b1d
  obtain ⟨x2, y2, l2⟩ := fact _ b2d
  obtain ⟨x3, y3, l3⟩ := fact _ b3d
  obtain ⟨x4, y4, l4⟩ := fact _ b4d
  obtain ⟨x5, y5, l5⟩ := fact _ b5d
  have HF := hide fact
  have HT := hide (And.intro ht (And.intro hnm (And.intro hL (And.intro hLo (And.intro hfile hdc)))))
  clear fact b1 b2 b3 b4 b5 b1d b2d b3d b4d b5d ht hkl htk hlen0 hnm hL hLo hfile hdc
  unfold zT zM at *
  go_enter Tryz.func110, Tryz.ntmps110
  go_wp2_with fail
  apply one_way
  case go =>
    intro key
    refine wp_region_noPanic ?_
    go_region_law (go_simp)
    all_goals
      refine NoPanic.normal ?_
      first
        | (have hR : Made W (((W.alloc (.cells #[.map none, .int .i64 0] 89)).alloc (.map #[] 0)).alloc (.cells #[.map (some (W.heap.size + 1)), .int .i64 u] 89)).drew u (W.heap.size + 1) (W.heap.size + 1 + 1) := made_a W u
           generalize (((W.alloc (.cells #[.map none, .int .i64 0] 89)).alloc (.map #[] 0)).alloc (.cells #[.map (some (W.heap.size + 1)), .int .i64 u] 89)).drew = W1 at hR ⊢
           generalize W.heap.size + 1 + 1 = q at hR ⊢
           generalize W.heap.size + 1 = p at hR ⊢
           revert hR
           revert W1
           revert p
           revert q
           exact unhide key)
        | (have hR : Made W (((W.alloc (.cells #[.map none, .int .i64 0] 89)).alloc (.cells #[.map (some (W.heap.size + 1 + 1)), .int .i64 u] 89)).alloc (.map #[] 0)).drew u (W.heap.size + 1 + 1) (W.heap.size + 1) := made_b W u
           generalize (((W.alloc (.cells #[.map none, .int .i64 0] 89)).alloc (.cells #[.map (some (W.heap.size + 1 + 1)), .int .i64 u] 89)).alloc (.map #[] 0)).drew = W1 at hR ⊢
           generalize W.heap.size + 1 + 1 = p at hR ⊢
           generalize W.heap.size + 1 = q at hR ⊢
           revert hR
           revert W1
           revert p
           revert q
           exact unhide key)
        | trace_state
  case all =>
    intro q p W1 hR
    clear x1 y1 l1 x2 y2 l2 x3 y3 l3 x4 y4 l4 x5 y5 l5
    obtain ⟨z5, z6, lz⟩ := unhide HF W1 hR.bel
    have HR := hide hR
    clear hR
    obtain ⟨D, ho, hD⟩ := (unhide HT).1
    have HD := hide hD
    have hba : Below W.heap.size W (W1.alloc (.map #[] 0)) := (unhide HR).bel.alloc (unhide HR).bel.size _
    obtain ⟨za5, _, _⟩ := unhide HF _ hba
    have ho1 : (W1.alloc (.map #[] 0)).ownsMap Tryz.prog 9 fileElem mb n D := by
      obtain ⟨es, cl, hb2, r1, r2, r3⟩ := ho
      exact ⟨es, cl, (hba.block mb hmbl).trans hb2, r1, r2, r3⟩
    have HO := hide ho1
    have HBa := hide hba
    clear hD ho ho1 hba
    obtain ⟨B, hB⟩ : ∃ B, B = (W1.alloc (.map #[] 0)).heap.size := ⟨_, rfl⟩
    have HB := hide hB
    clear hB
    go_wp2_with (first | (at_range; refine wpList_range_own _ rfl _ 87 rfl 9 130 strK Tryz.underlying87 _ mb n _ rfl (unhide HO) ?_; rw [← unhide HB]; intro w0 hrg0 hg0 hs0) | go_in)
    go_frame
    go_loopw [7] (fun _ wr => CR W mb n D L nm o a d u p q W1.heap.size B wr) (fun _ wr => wr.rangeLeft mb B)
    case atStart =>
      obtain ⟨r1, r2, r3, r4, r5, r6, r7⟩ := unhide HR
      have hsz : B = W1.heap.size + 1 := by rw [unhide HB]; simp
      have hk : ∀ b, b < W1.heap.size → w0.heap[b]? = W1.heap[b]? := fun b hb => (hg0.block b (by simp; omega) (by simp)).trans (Below.heap_alloc _ _ _ hb)
      have hlp : p < W1.heap.size := (Array.getElem?_eq_some_iff.1 r2).1
      have hlq : q < W1.heap.size := (Array.getElem?_eq_some_iff.1 r3).1
      refine ⟨_, _, hrg0, ⟨hg0.os.trans r1.os, hg0.tape.trans r1.tape, hg0.output.trans r1.output, by have := r1.size; omega, fun b hb => (hk b (by have := r1.size; omega)).trans (r1.block b hb)⟩, (hk q hlq).trans r3, (hk _ (by omega)).trans r4, by omega, .inl ⟨(hk p hlp).trans r2, (hg0.block _ (by simp) (by simp)).trans (heap_alloc_new _ _), fun s hs hLs => ?_⟩⟩
      exact (has_iff (L := L) (unhide HO) (unhide HD s hs)).2 hLs
    case round =>
      obtain ⟨left, cnt, hrg, hbw, hbox, hres, hpl, hst⟩ := hrel
      have hq0 : wr.cell? ⟨q, 0, none⟩ = some (.map (some p)) := by simp [World.cell?, hbox]
      have hq1 : wr.cell? ⟨q, 1, none⟩ = some (.int .i64 u) := by simp [World.cell?, hbox]
      go_wp2_with (first | (at_next; refine wpList_next_ranges _ rfl _ rfl 9 strK fileElem encStr ptr (fun key kl hk => by obtain ⟨x, hx, _⟩ := Maps.keyOf_str Tryz.underlying9 hk; exact ⟨x, hx⟩) fileElem_shape mb B n _ _ _ rfl hrg ?_ ?_) | go_in)
      · intro hc0 hl0
        obtain ⟨_, hnm, _, hLo, _⟩ := unhide HT
        have HE : Hid (Cloned W wr nm o a d u (.returned (.agg #[.map (some p), .int .i64 u]))) := by
          rcases hst with ⟨h1, h2, h3⟩ | ⟨h1, h2, g', h3, h4, h5, h6⟩
          · have ho : o = none := by
              cases ho : o with
              | none => rfl
              | some g =>
                have := h3 nm (by simp only [maxLen]; omega) (by rw [hLo, ho]; rfl)
                rw [hl0] at this; cases this
            refine ⟨p, 0, 0, rfl, hbw, (unhide HR).lp, hpl, by omega, ?_, fun h => by rw [ho] at h; cases h⟩
            rw [ho]
            have := tab_empty h1
            simpa using this
          · exact ⟨p, 1, g', rfl, hbw, (unhide HR).lp, hpl, Nat.le_refl _, h3, fun _ => ⟨h4, h5, h6⟩⟩
        have hr0 : wr.cell? ⟨W.heap.size, 0, none⟩ = some (.map none) := by simp [World.cell?, hres]
        have hf0 : wr.frozen? ⟨W.heap.size, 0, none⟩ = false := by simp [World.frozen?, hres]
        have hr1 : (wr.setCell ⟨W.heap.size, 0, none⟩ (.map (some p))).cell? ⟨W.heap.size, 1, none⟩ = some (.int .i64 0) := by simp [World.setCell, World.cell?, Array.getElem?_modify, hres]
        have hf1 : (wr.setCell ⟨W.heap.size, 0, none⟩ (.map (some p))).frozen? ⟨W.heap.size, 1, none⟩ = false := by simp [World.setCell, World.frozen?, Array.getElem?_modify, hres]
        have z0 : ((wr.setCell ⟨W.heap.size, 0, none⟩ (.map (some p))).setCell ⟨W.heap.size, 1, none⟩ (.int .i64 u)).cell? ⟨W.heap.size, 0, none⟩ = some (.map (some p)) := by simp [World.setCell, World.cell?, Array.getElem?_modify, hres]
        have z1 : ((wr.setCell ⟨W.heap.size, 0, none⟩ (.map (some p))).setCell ⟨W.heap.size, 1, none⟩ (.int .i64 u)).cell? ⟨W.heap.size, 1, none⟩ = some (.int .i64 u) := by simp [World.setCell, World.cell?, Array.getElem?_modify, hres]
        have HE2 : Hid (Cloned W ((wr.setCell ⟨W.heap.size, 0, none⟩ (.map (some p))).setCell ⟨W.heap.size, 1, none⟩ (.int .i64 u)) nm o a d u (.returned (.agg #[.map (some p), .int .i64 u]))) := ((unhide HE).set 0 _).set 1 _
        clear hst hrg hbw
        go_wp2_with fail
        exact bodyPost_ret (by simp [results, Tryz.results110, go_sem, z0, z1]) rfl (unhide HE2)
      · intro x cc kl yd yp w2 cnt2 hkey hlk hv hat hrg2 hlt hg2 hs2 hen
        obtain ⟨x', ex, rfl, hxl⟩ := Maps.keyOf_str Tryz.underlying9 hkey
        obtain rfl : x = x' := encStr_inj ex
        obtain ⟨s, hs⟩ : ∃ s : ByteArray, s = ⟨x.toArray⟩ := ⟨_, rfl⟩
        have hse : encStr x = .string s := congrArg Value.string hs.symm
        rw [hse] at hen ⊢
        have hss : s.size ≤ maxLen := by rw [hs]; exact hxl
        have hsx : s.data.toList = x := congrArg (fun t : ByteArray => t.data.toList) hs
        have hhas : Maps.has D (.string s.data.toList) = true := by rw [hsx]; exact has_true_of_atKey hat
        have hlq : left (.string s.data.toList) = true := by rw [hsx]; exact hlk
        have hLs := (has_iff (L := L) (unhide HO) (unhide HD s hss)).1 hhas
        obtain ⟨_, hnm, hL, hLo, hfile, hdc⟩ := unhide HT
        have hsn : s = nm := Classical.byContradiction fun e => by rw [hL s e] at hLs; cases hLs
        subst hsn
        obtain ⟨g, hog⟩ : ∃ g, o = some g := by rw [hLo] at hLs; cases ho : o with | none => rw [ho] at hLs; cases hLs | some g => exact ⟨g, rfl⟩
        have hc : cc = some g := by
          have h1 := hat .nil
          rw [← hsx, unhide HD s hss .nil, hLo, hog] at h1
          have h2 := fileElem_ptr cc
          rw [hv] at h2
          injection h2 with h2
          injection h2 with h2
          rw [h2, atD_nil] at h1
          exact (ptrD_inj h1).symm
        subst hc
        rcases hst with ⟨h1, h2, h3⟩ | ⟨_, h2, _⟩
        · have hBs : B = W1.heap.size + 1 := by rw [unhide HB]; simp
          have hW1 := (unhide HR).bel.size
          have hk2 : ∀ b, b < wr.heap.size → b ≠ B → w2.heap[b]? = wr.heap[b]? := fun b hb hne => hg2.block b hb (fun e => hne (by injection e))
          obtain ⟨r1, r2, r3, r4, r5, r6, r7⟩ := unhide HR
          have hlp : p < W1.heap.size := (Array.getElem?_eq_some_iff.1 r2).1
          have hlq' : q < W1.heap.size := (Array.getElem?_eq_some_iff.1 r3).1
          have hwB : B < wr.heap.size := by obtain ⟨_, _, _, _, _, _, _, _, _, a5, _⟩ := hrg; exact (Array.getElem?_eq_some_iff.1 a5).1
          have hg := hfile g hog
          have hgl : g < W.heap.size := (Array.getElem?_eq_some_iff.1 hg).1
          have hgw : w2.heap[g]? = some (.cells #[.slice a d c, x0] 129 (0, 0)) := (hk2 g (by have := hbw.size; omega) (by omega)).trans ((hbw.block g hgl).trans hg)
          have htw : w2.heap[W1.heap.size]? = some (.map #[] 0) := (hk2 _ (by omega) (by omega)).trans h2
          have hpw : w2.heap[p]? = some (.map #[] 0) := (hk2 p (by omega) (by omega)).trans h1
          have hqw : w2.heap[q]? = some (.cells #[.map (some p), .int .i64 u] 89 (0, 0)) := (hk2 q (by omega) (by omega)).trans hbox
          have hrw : w2.heap[W.heap.size]? = some (.cells #[.map none, .int .i64 0] 89 (0, 0)) := (hk2 _ (by omega) (by omega)).trans hres
          have hmw : ∀ b, b < W.heap.size → w2.heap[b]? = W.heap[b]? := fun b hb => (hk2 b (by have := hbw.size; omega) (by omega)).trans (hbw.block b hb)
          have hlook := look218 htw (some ⟨g, 0, none⟩)
          have g0 : w2.cell? ⟨g, 0, none⟩ = some (.slice a d c) := by simp [World.cell?, hgw]
          have g0d : w2.drew.cell? ⟨g, 0, none⟩ = some (.slice a d c) := g0
          have HCl := hide (fun w => clip_any a d c w hdc.1 hdc.2.1)
          -- behind the new file
          have HN : Hid (∀ W3 : World, W3.heap = (w2.alloc (.cells #[.slice a d d, .int .i32 0] 129)).heap → W3.os = w2.os → W3.tape = w2.tape → W3.output = w2.output → (Instr.mapUpdate 218 (.map (some W1.heap.size)) (.pointer (some ⟨g, 0, none⟩)) (.pointer (some ⟨w2.heap.size, 0, none⟩))).run Tryz.prog W3 = .ok () (W3.putObj W1.heap.size (.map #[{ key := .pointer (some ⟨g, 0, none⟩), val := .pointer (some ⟨w2.heap.size, 0, none⟩), born := 0 }] 1)) ∧ Calls Tryz.prog 157 #[.pointer (some ⟨w2.heap.size, 1, none⟩), .int .i32 1] (W3.putObj W1.heap.size (.map #[{ key := .pointer (some ⟨g, 0, none⟩), val := .pointer (some ⟨w2.heap.size, 0, none⟩), born := 0 }] 1)) fun e w5 => e = .returned (.int .i32 1) ∧ w5.cell? ⟨q, 0, none⟩ = some (.map (some p)) ∧ ∃ w6, (Instr.mapUpdate 87 (.map (some p)) (.string s) (.pointer (some ⟨w2.heap.size, 0, none⟩))).run Tryz.prog w5 = .ok () w6 ∧ Hid (CR W mb n D L s o a d u p q W1.heap.size B w6 ∧ w6.rangeLeft mb B < wr.rangeLeft mb B)) := fun W3 e1 e2 e3 e4 => by
            have hz3 : W3.heap.size = w2.heap.size + 1 := by rw [e1]; simp
            have hk3 : ∀ b, b < w2.heap.size → W3.heap[b]? = w2.heap[b]? := fun b hb => by rw [e1]; exact Below.heap_alloc _ _ _ hb
            have hw2z : wr.heap.size = w2.heap.size := hs2.symm
            have ht3 : W3.heap[W1.heap.size]? = some (.map #[] 0) := (hk3 _ (by omega)).trans htw
            have hG3 : W3.heap[w2.heap.size]? = some (.cells #[.slice a d d, .int .i32 0] 129 (0, 0)) := by rw [e1]; exact heap_alloc_new _ _
            obtain ⟨W4, hW4⟩ : ∃ W4, W4 = W3.putObj W1.heap.size (.map #[{ key := .pointer (some ⟨g, 0, none⟩), val := .pointer (some ⟨w2.heap.size, 0, none⟩), born := 0 }] 1) := ⟨_, rfl⟩
            have hk4 : ∀ b, b ≠ W1.heap.size → W4.heap[b]? = W3.heap[b]? := fun b hb => by rw [hW4]; exact World.putObj_heap_other hb
            have hz4 : W4.heap.size = W3.heap.size := by rw [hW4]; simp [World.putObj]
            refine ⟨put218 ht3 _ _, ?_⟩
            rw [← hW4]
            have hG4 : W4.heap[w2.heap.size]? = some (.cells #[.slice a d d, .int .i32 0] 129 (0, 0)) := (hk4 _ (by omega)).trans hG3
            refine (add32 ⟨w2.heap.size, 1, none⟩ 0 1 1 W4 (by simp [World.cell?, hG4]) (by simp [World.frozen?, hG4]) (by simp [Op.intArith]; rfl)).mono fun e w5 ⟨p1, p2⟩ => ⟨p1, ?_⟩
            have hk5 : ∀ b, b ≠ w2.heap.size → w5.heap[b]? = W4.heap[b]? := fun b hb => by rw [p2]; exact set_other _ _ _ _ _ hb
            have hz5 : w5.heap.size = W4.heap.size := by rw [p2, size_set]
            have hall : ∀ b, b < w2.heap.size → b ≠ W1.heap.size → w5.heap[b]? = w2.heap[b]? := fun b h1 h2 => (hk5 b (by omega)).trans ((hk4 b h2).trans (hk3 b h1))
            have hG5 : w5.heap[w2.heap.size]? = some (.cells #[.slice a d d, .int .i32 1] 129 (0, 0)) := by rw [p2]; simp [World.setCell, Array.getElem?_modify, hG4]
            have hp5 : w5.heap[p]? = some (.map #[] 0) := (hall p (by omega) (by omega)).trans hpw
            have hq5 : w5.heap[q]? = some (.cells #[.map (some p), .int .i64 u] 89 (0, 0)) := (hall q (by omega) (by omega)).trans hqw
            refine ⟨by simp [World.cell?, hq5], ?_⟩
            obtain ⟨w6, hr6, hT6, hm6⟩ := tab_store (tab_empty hp5) (s := s) hss (by simp [maxLen]) w2.heap.size
            obtain ⟨es, ck, es', ck', _, hw6⟩ := hm6
            have hk6 : ∀ b, b ≠ p → w6.heap[b]? = w5.heap[b]? := fun b hb => by rw [hw6]; exact (MapKept.heap_set (o' := .map es' ck') hp5).2 b hb
            have hz6 : w6.heap.size = w5.heap.size := by rw [hw6]; simp [Go.ChangeMaps.setBlock]
            have ho6 : w6.os = w5.os ∧ w6.tape = w5.tape ∧ w6.output = w5.output := by rw [hw6]; exact ⟨rfl, rfl, rfl⟩
            have ho5 : w5.os = w2.os ∧ w5.tape = w2.tape ∧ w5.output = w2.output := by rw [p2, hW4]; exact ⟨e2, e3, e4⟩
            have hfin : ∀ b, b < w2.heap.size → b ≠ W1.heap.size → b ≠ p → w6.heap[b]? = w2.heap[b]? := fun b h1 h2 h3 => (hk6 b h3).trans (hall b h1 h2)
            have hrg6 := ranges_same hrg2 (w' := w6) (hfin mb (by omega) (by omega) (by omega)) (hfin B (by omega) (by omega) (by omega))
            refine ⟨w6, hr6, ⟨_, cnt2, hrg6, ⟨?_, ?_, ?_, by have := hbw.size; omega, fun b hb => (hfin b (by have := hbw.size; omega) (by omega) (by omega)).trans (hmw b hb)⟩, (hfin q (by omega) (by omega) r5.symm).trans hqw, (hfin _ (by omega) (by omega) (by omega)).trans hrw, by omega, .inr ⟨by rw [hog]; rfl, fun s' hs' hLs' => ?_, w2.heap.size, ?_, by have := hbw.size; omega, by omega, (hk6 _ (by omega)).trans hG5⟩⟩, ?_⟩
            · rw [ho6.1, ho5.1, hg2.os]; exact hbw.os
            · rw [ho6.2.1, ho5.2.1, hg2.tape]; exact hbw.tape
            · rw [ho6.2.2, ho5.2.2, hg2.output]; exact hbw.output
            · have e : s' = s := Classical.byContradiction fun e => by rw [hL s' e] at hLs'; cases hLs'
              rw [e, hsx, WideAt.sameKey_self (strK.key hkey)]
              simp
            · have he : (fun s' => if s' = s then o.map (fun _ => w2.heap.size) else none) = upd (fun _ => none) s (some w2.heap.size) := by
                funext s'
                unfold upd
                rw [hog]; rfl
              rw [he]; exact hT6
            · rw [hrg6.left_eq, hrg.left_eq]; exact hlt
          clear hBs hW1 hlp hlq' hwB hgl hk2 hmw hrw hqw hpw htw hgw hg hfile hdc hL hLo hnm hat hv hkey hhas hlk hlq hLs hrg hrg2 hbw hbox hres h1 h2 h3 hg2 hs2 r1 r2 r3 r4 r5 r6 r7
          unfold ptr at hen ⊢
          simp only at hen ⊢
          go_wp2_with fail
          refine (unhide HCl w2).mono ?_
          rintro e w' ⟨rfl, hw'⟩
          rw [hw']
          clear hw' w'
          obtain ⟨hput, hadd⟩ := unhide HN (w2.alloc (.cells #[.slice a d d, .int .i32 0] 129)) rfl rfl rfl rfl
          have HAdd := hide hadd
          clear hadd HN
          go_wp2_with fail
          refine (unhide HAdd).mono ?_
          rintro e w5 ⟨rfl, c5q, w6, hr6, HX⟩
          clear HAdd
          go_wp2_with fail
          go_roundw
          case rel => exact (unhide HX).1
          case measure => exact (unhide HX).2
        · rw [h2 s hss hLs] at hlq; cases hlq
end Go.Proofs.YtebcmicmklpflaaGreatDoor
