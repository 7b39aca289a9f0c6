/- Pages: how many bytes pages of a sheet take. -/
import Derived.Test.YtebcmicmklpflaaGreatDoorPu
import Derived.Test.YtebcmicmklpflaaGreatDoorPt
namespace Go.Proofs.YtebcmicmklpflaaGreatDoor
open Go.RowKit Go.Shelf Go.Great Go.Maps
attribute [local go_sem] Oper.semAt_some
set_option linter.unusedSimpArgs false
/-- The bytes of a page. -/
def dat (ps : List Pge) (n : Nat) : List UInt8 := (ps[n]?.getD none).getD []
/-- How many bytes some pages take. -/
def wsum (ps : List Pge) : List Nat → Nat
  | [] => 1
  | x :: xs => 3 + (dat ps x).length + wsum ps xs
theorem wsum_snoc (ps : List Pge) (x : Nat) : ∀ xs, wsum ps (xs ++ [x]) = wsum ps xs + (3 + (dat ps x).length)
  | [] => by simp [wsum]; omega
  | y :: ys => by simp only [List.cons_append, wsum, wsum_snoc ps x ys]; omega
theorem wsum_le (ps : List Pge) (h : ∀ n, (dat ps n).length ≤ 512) : ∀ xs, wsum ps xs ≤ 1 + 515 * xs.length
  | [] => by simp [wsum]
  | x :: xs => by
    have := wsum_le ps h xs
    have := h x
    simp only [wsum, List.length_cons]
    omega
theorem lst_len (s : Nat → Bool) : ∀ (n a : Nat), (lst s a n).length ≤ n
  | 0, a => by simp [lst]
  | n + 1, a => by
    have := lst_len s n (a + 1)
    simp only [lst]
    split <;> simp <;> omega
set_option maxRecDepth 20000 in
set_option maxHeartbeats 4000000 in
/-- Pages that are all there. -/
theorem weight_ok' (s : Nat → Bool) (k : Nat) (v : Value) (ps : List Pge) (O : Nat → Prop) (w : World) (hR : PgR w O v ps) (hlt : ∀ q, O q → q < w.heap.size) (hT : Tab w) (hk : k < 256) (hall : ∀ n ∈ lst s (64 * k) 64, n < ps.length) (hsz : ∀ n, (dat ps n).length ≤ 512) (hn : ps.length ≤ 16384) :
    Calls Tryz.prog 166 #[v, .int .i64 (k : Int), .int .u64 ((word s k : Nat) : Int)] w fun e w' => e = .returned (.int .i64 ((wsum ps (lst s (64 * k) 64) : Nat) : Int)) ∧ Below w.heap.size w w' := by
  refine (callsIn_wide (n := 3)).1 ?_
  refine callsIn_of_wp_marks Tryz.func166 rfl trivial ?_ rfl
  obtain ⟨a0, c, rfl, _, _⟩ := hR.shape
  simp only [Tryz.ntmps166, List.size_toArray, List.length_cons, List.length_nil, Nat.reduceAdd, Nat.reduceSub, Array.replicate_succ, Array.replicate_zero, List.push_toArray, List.append_toArray, List.nil_append, List.cons_append]
  obtain ⟨N, hN⟩ : ∃ N, N = ps.length := ⟨_, rfl⟩
  have HNe := hide hN
  have HR := hide hR
  have HA := hide (And.intro hall (And.intro hsz (And.intro hlt hn)))
  have HT := hide hT
  rw [← hN]
  obtain ⟨W2, hW2⟩ : ∃ W2, W2 = (w.alloc (.cells #[.slice a0 N c] 134)).alloc (.cells #[.int .i64 1] 3) := ⟨_, rfl⟩
  have HMk := hide (marked_ok k (word s k) W2)
  have HW2 := hide hW2
  clear hR hall hsz hlt hn hT hN
  gi_wp2_with fail
  refine ⟨trivial, ?_⟩
  rw [← unhide HW2]
  refine (callsIn_wide.2 (unhide HMk)).mono ?_
  rintro e W5 ⟨D, K, rfl, hD, hK, hDK, hs5, hb5, hbD, hbK⟩
  have hs2 : W2.heap.size = w.heap.size + 1 + 1 := by rw [unhide HW2]; simp
  have hp2 : W2.heap[w.heap.size]? = some (.cells #[.slice a0 N c] 134) := by rw [unhide HW2]; exact heap_alloc_old2 w _ _
  have hq2 : W2.heap[w.heap.size + 1]? = some (.cells #[.int .i64 1] 3) := by rw [unhide HW2]; exact heap_alloc_new2 w _ _
  have hbw : Below w.heap.size w W2 := by rw [unhide HW2]; exact ((Below.refl _ _).alloc (Nat.le_refl _) _).alloc (by simp) _
  have hbw5 : Below w.heap.size w W5 := hbw.trans (hb5.mono hbw.size)
  have hp5 : W5.heap[w.heap.size]? = some (.cells #[.slice a0 N c] 134) := by rw [hb5.block _ (by omega)]; exact hp2
  have hq5 : W5.heap[w.heap.size + 1]? = some (.cells #[.int .i64 1] 3) := by rw [hb5.block _ (by omega)]; exact hq2
  have HG : Hid (w.heap.size + 1 + 1 ≤ D ∧ w.heap.size + 1 + 1 ≤ K ∧ D ≠ K ∧ W5.heap.size = w.heap.size + 1 + 1 + 1 + 1 ∧ Below w.heap.size w W5 ∧ W5.heap[w.heap.size]? = some (.cells #[.slice a0 N c] 134) ∧ W5.heap[w.heap.size + 1]? = some (.cells #[.int .i64 1] 3) ∧ W5.heap[K]? = some (.cells #[.int .i64 (k : Int)] 3) ∧ D < W5.heap.size ∧ K < W5.heap.size) := ⟨by omega, by omega, hDK, by omega, hbw5, hp5, hq5, hbK, (Array.getElem?_eq_some_iff.1 hbD).1, (Array.getElem?_eq_some_iff.1 hbK).1⟩
  have HGo := hide (marked_iter s k D K W5 hk hbD)
  clear hD hK hDK hs5 hb5 hbD hbK hs2 hp2 hq2 hbw hbw5 hp5 hq5 HMk hW2
  gi_wp2_with fail
  refine range_iter (N := 3) (unhide HGo) enters171 Leave.ret (fun x => { tmps := #[.slice a0 N c, .int .i64 (k : Int), .int .u64 ((word s k : Nat) : Int), .pointer (some ⟨w.heap.size, 0, none⟩), undef, undef, .int .i64 0, .pointer (some ⟨w.heap.size + 1, 0, none⟩), .int .i64 (x : Int), .int .i64 (k : Int), .int .u64 ((word s k : Nat) : Int), .func (.func 171) #[] #[.pointer (some ⟨D, 0, none⟩), .pointer (some ⟨K, 0, none⟩)], .int .i64 (x : Int), undef, undef, undef, undef, undef, undef, undef, undef, undef, undef, undef, undef, undef, undef], defers := [] })
    (fun i X => X.heap[w.heap.size + 1]? = some (.cells #[.int .i64 ((wsum ps ((lst s (64 * k) 64).take i) : Nat) : Int)] 3) ∧ Its W5.heap.size (fun q => q = w.heap.size + 1 ∨ q = D) W5 X) (fun _ => False) rfl ?_ ?_ ?_ ?_ ?_ ?_ ?_ ?_ ?_
  · rintro q rfl
    exact (unhide HG).2.2.2.2.2.2.2.2.1
  · rintro i X ⟨_, hX⟩
    obtain ⟨g1, g2, g3, g4, g5, g6, g7, g8, g9, g10⟩ := unhide HG
    have h0 := (unhide HT).lt
    refine ⟨by rw [hX.block _ g10 g10 (fun h => by rcases h with h | h; omega; exact g3 h.symm)]; exact g8, (unhide HT).kept ?_⟩
    rw [hX.block 0 (by omega) (by omega) (fun h => by rcases h with h | h <;> omega), g5.block 0 h0]
  · obtain ⟨g1, g2, g3, g4, g5, g6, g7, g8, g9, g10⟩ := unhide HG
    exact ⟨g7, Its.refl _ _ _⟩
  · rintro i X X' ⟨h1, h2⟩ hX
    obtain ⟨g1, g2, g3, g4, g5, g6, g7, g8, g9, g10⟩ := unhide HG
    refine ⟨?_, h2.trans (hX.mono (Nat.le_refl _) (fun q _ h => .inr h))⟩
    rw [hX.block _ (by omega) (Array.getElem?_eq_some_iff.1 h1).1 (fun (h : w.heap.size + 1 = D) => by omega)]; exact h1
  · intro V V' h; exact h.elim
  · intro l' x X K' hK'
    gi_wp2_with fail
    exact hK'
  · rintro l' i X R hi ⟨h1, h2⟩ hlt hR
    obtain ⟨g1, g2, g3, g4, g5, g6, g7, g8, g9, g10⟩ := unhide HG
    obtain ⟨hall, hsz, hlo, hn⟩ := unhide HA
    obtain ⟨y, hy⟩ : ∃ y, y = (lst s (64 * k) 64)[i] := ⟨_, rfl⟩
    have hyl : y < ps.length := by rw [hy]; exact hall _ (List.getElem_mem hi)
    obtain ⟨g, c1, sv, e1, hOg, _, d0, d1, hrec, _, _, _, _⟩ := (unhide HR).at hyl
    have hN := unhide HNe
    injection e1 with e1 e1n e1c
    subst e1
    clear e1n e1c
    have hgl := hlo g hOg
    have hkeep : ∀ q, q < w.heap.size + 1 → X.heap[q]? = W5.heap[q]? := fun q hq => h2.block q (by omega) (by omega) (fun h => by rcases h with h | h <;> omega)
    have cP : X.cell? ⟨w.heap.size, 0, none⟩ = some (.slice (some ⟨g, 0, none⟩) N c) := bk_cell (t := 134) (by rw [hkeep _ (by omega)]; exact g6)
    have d1' : X.cell? ⟨g, y * 2 + 1, none⟩ = some sv := by
      rw [World.cell?_of_block (w := w) (a := ⟨g, y * 2 + 1, none⟩) (by show X.heap[g]? = w.heap[g]?; rw [hkeep g (by omega), g5.block g hgl])]; exact d1
    have hdat : ps[y].getD [] = dat ps y := by simp [dat, hyl]
    rw [hdat] at hrec
    obtain ⟨va, vc, hsv, _⟩ := hrec
    have hvl := hsz y
    have cS := bk_cell h1
    have fS := bk_frozen h1
    have htk : (lst s (64 * k) 64).take (i + 1) = (lst s (64 * k) 64).take i ++ [y] := by rw [hy]; exact List.take_succ_eq_append_getElem hi
    have hA := wsum_le ps hsz ((lst s (64 * k) 64).take i)
    have hAl : ((lst s (64 * k) 64).take i).length ≤ 64 := Nat.le_trans (List.length_take_le' _ _) (lst_len s 64 _)
    obtain ⟨A, hA0⟩ : ∃ A, A = wsum ps ((lst s (64 * k) 64).take i) := ⟨_, rfl⟩
    obtain ⟨B, hB0⟩ : ∃ B, B = wsum ps ((lst s (64 * k) 64).take (i + 1)) := ⟨_, rfl⟩
    obtain ⟨vl, hvl0⟩ : ∃ vl, vl = (dat ps y).length := ⟨_, rfl⟩
    have hBA : B = A + (3 + vl) := by rw [hB0, htk, wsum_snoc, hA0, hvl0]
    rw [← hA0] at cS hA
    rw [← hvl0] at hsv hvl
    subst hsv
    have hwr : IntKind.i64.wrap ((A : Int) + (3 + (vl : Int))) = (B : Int) := by rw [IntKind.wrap_i64]; omega
    have hwr2 : IntKind.i64.wrap (3 + (vl : Int)) = 3 + (vl : Int) := by rw [IntKind.wrap_i64]; omega
    have d1 := d1'
    have hyi : (y : Int) < (N : Int) := by omega
    have hyb : decide ((N : Int) ≤ (y : Int)) = false := by simp; omega
    have HK : Hid (∀ a1', R .normal a1' (X.drew.setCell ⟨w.heap.size + 1, 0, none⟩ (.int .i64 (B : Int)))) := fun a1' => by
      have hset := bk_set (W := X.drew) (.int .i64 (B : Int)) h1
      refine hR _ _ _ (by simp) (fun q h6 h7 => ?_) (fun q h6 => ?_) (.inl ⟨rfl, by rw [← hB0]; exact hset, ?_⟩)
      · rw [Below.heap_setCell _ _ _ _ (by show q ≠ w.heap.size + 1; omega)]; rfl
      · have h6 : q = D := h6
        rw [Below.heap_setCell _ _ _ _ (by show q ≠ w.heap.size + 1; omega)]; rfl
      · exact (h2.trans (Its.drew _ _ _)).trans (Its.set X.drew _ _ (.inr (.inl rfl)))
    have q0 : (X.drew.setCell ⟨w.heap.size + 1, 0, none⟩ (.int .i64 (B : Int))).cell? ⟨w.heap.size, 0, none⟩ = some (.slice (some ⟨g, 0, none⟩) N c) := by rw [World.cell?_setCell_other _ _ _ _ (fun e => by injection e with e _ _; omega)]; exact cP
    have q1 : (X.drew.setCell ⟨w.heap.size + 1, 0, none⟩ (.int .i64 (B : Int))).cell? ⟨g, y * 2 + 1, none⟩ = some (.slice va vl vc) := by rw [World.cell?_setCell_other _ _ _ _ (fun e => by injection e with e _ _; omega)]; exact d1
    rw [← hy]
    clear h1 h2 hlt hR g1 g2 g3 g4 g5 g6 g7 g8 g9 g10 hall hsz hlo hn hy hkeep d1' hdat htk hA hAl hA0 hB0 hvl0 hBA hvl hN d0
    clear HR HA HT HGo HG HNe HW2
    gi_wp2_with fail
    refine region_round (S := fun W' => W'.cell? ⟨w.heap.size, 0, none⟩ = some (.slice (some ⟨g, 0, none⟩) N c) ∧ W'.cell? ⟨g, y * 2 + 1, none⟩ = some (.slice va vl vc)) (by kernel_rfl) (by kernel_rfl) ⟨cP, d1⟩ (fun hH => ?_)
    refine wpAnyH_take (i := 1) (v := .slice (some ⟨g, 0, none⟩) N c) rfl (by kernel_rfl) (by kernel_rfl) (by kernel_rfl) (fun _ _ _ h => h) (Or.inl ⟨by rfl, ?_⟩) hH ?_
    · intro w hSw; go_simp
    try simp only [Act.put, List.getElem_toArray, List.getElem_cons_zero, List.getElem_cons_succ, List.setIfInBounds_toArray, List.set_cons_zero, List.set_cons_succ]
    refine wpAnyH_take (i := 2) (v := .int .i64 (y : Int)) rfl (by kernel_rfl) (by kernel_rfl) (by kernel_rfl) (fun _ _ _ h => h) (Or.inl ⟨by rfl, ?_⟩) hH ?_
    · intro w hSw; go_simp
    try simp only [Act.put, List.getElem_toArray, List.getElem_cons_zero, List.getElem_cons_succ, List.setIfInBounds_toArray, List.set_cons_zero, List.set_cons_succ]
    refine wpAnyH_take (i := 3) (v := .pointer (some ⟨g, y * 2, none⟩)) rfl (by kernel_rfl) (by kernel_rfl) (by kernel_rfl) (fun _ _ _ h => h) (Or.inl ⟨by rfl, ?_⟩) hH ?_
    · intro w hSw; go_simp
    try simp only [Act.put, List.getElem_toArray, List.getElem_cons_zero, List.getElem_cons_succ, List.setIfInBounds_toArray, List.set_cons_zero, List.set_cons_succ]
    refine wpAnyH_take (i := 4) (v := .pointer (some ⟨g, y * 2 + 1, none⟩)) rfl (by kernel_rfl) (by kernel_rfl) (by kernel_rfl) (fun _ _ _ h => h) (Or.inl ⟨by rfl, ?_⟩) hH ?_
    · intro w hSw; go_simp
    try simp only [Act.put, List.getElem_toArray, List.getElem_cons_zero, List.getElem_cons_succ, List.setIfInBounds_toArray, List.set_cons_zero, List.set_cons_succ]
    refine wpAnyH_take (i := 5) (v := .slice va vl vc) rfl (by kernel_rfl) (by kernel_rfl) (by kernel_rfl) (fun _ _ _ h => h) (Or.inl ⟨by rfl, ?_⟩) hH ?_
    · intro w hSw; go_simp
    try simp only [Act.put, List.getElem_toArray, List.getElem_cons_zero, List.getElem_cons_succ, List.setIfInBounds_toArray, List.set_cons_zero, List.set_cons_succ]
    refine wpAnyH_take (i := 6) (v := .int .i64 (vl : Int)) rfl (by kernel_rfl) (by kernel_rfl) (by kernel_rfl) (fun _ _ _ h => h) (Or.inl ⟨by rfl, ?_⟩) hH ?_
    · intro w hSw; go_simp
    try simp only [Act.put, List.getElem_toArray, List.getElem_cons_zero, List.getElem_cons_succ, List.setIfInBounds_toArray, List.set_cons_zero, List.set_cons_succ]
    refine wpAnyH_take (i := 7) (v := .int .i64 (3 + (vl : Int))) rfl (by kernel_rfl) (by kernel_rfl) (by kernel_rfl) (fun _ _ _ h => h) (Or.inl ⟨by rfl, ?_⟩) hH ?_
    · intro w hSw; go_simp
    try simp only [Act.put, List.getElem_toArray, List.getElem_cons_zero, List.getElem_cons_succ, List.setIfInBounds_toArray, List.set_cons_zero, List.set_cons_succ]
    refine wpAnyH_ready (rs := [0]) (by kernel_rfl) (by simp) (AllReadyH.cons rfl (fun K hK => ?_) AllReadyH.nil)
    simp only [List.getElem_toArray, List.getElem_cons_zero, List.getElem_cons_succ]
    go_simp
    refine hK.out _ _ ⟨cP, d1⟩ (fun hH2 => ?_)
    clear hK K
    try simp only [Act.put, List.getElem_toArray, List.getElem_cons_zero, List.getElem_cons_succ, List.setIfInBounds_toArray, List.set_cons_zero, List.set_cons_succ]
    refine wpAnyH_take (i := 8) (v := .int .i64 (B : Int)) rfl (by kernel_rfl) (by kernel_rfl) (by kernel_rfl) (fun _ _ _ h => h) (Or.inl ⟨by rfl, ?_⟩) hH2 ?_
    · intro w hSw; go_simp
    try simp only [Act.put, List.getElem_toArray, List.getElem_cons_zero, List.getElem_cons_succ, List.setIfInBounds_toArray, List.set_cons_zero, List.set_cons_succ]
    refine wpAnyH_ready (rs := [9]) (by kernel_rfl) (by simp) (AllReadyH.cons rfl (fun K hK => ?_) AllReadyH.nil)
    simp only [List.getElem_toArray, List.getElem_cons_zero, List.getElem_cons_succ]
    go_simp
    refine hK.out _ _ ⟨q0, q1⟩ (fun hH3 => ?_)
    clear hK K
    try simp only [Act.put, List.getElem_toArray, List.getElem_cons_zero, List.getElem_cons_succ, List.setIfInBounds_toArray, List.set_cons_zero, List.set_cons_succ]
    refine wpAnyH_done (by kernel_rfl) ?_ _
    exact unhide HK _
  · rintro X ⟨h1, h2⟩ hd hlt
    have cS := bk_cell h1
    have HX := hide (And.intro h2 (And.intro hd hlt))
    rw [List.take_length] at cS
    clear h1 h2 hd hlt
    gi_wp2_with fail
    obtain ⟨h2, hd, hlt⟩ := unhide HX
    obtain ⟨g1, g2, g3, g4, g5, g6, g7, g8, g9, g10⟩ := unhide HG
    refine Marks.leave (base := W5.heap.size) (hi := W5.heap.size + 1) _ _ ⟨W5.heap.size, rfl, Nat.le_refl _, by omega, hd, trivial⟩ (fun V' hV => ⟨_, by simp [results, Tryz.results166], rfl, ?_⟩)
    exact ⟨hV.os.trans (h2.os.trans g5.os), hV.tape.trans (h2.tape.trans g5.tape), hV.output.trans (h2.output.trans g5.output), by have := hV.size; have := h2.size; omega, fun q hq => by rw [hV.block q (by omega) (by have := h2.size; omega) (fun h => h), h2.block q (by omega) (by omega) (fun h => by rcases h with h | h <;> omega), g5.block q hq]⟩
  · intro X h; exact h.elim
end Go.Proofs.YtebcmicmklpflaaGreatDoor
