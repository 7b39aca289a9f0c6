/- Pages: keep, where nothing lasted. -/
import Derived.Test.YtebcmicmklpflaaGreatDoorPm
import Derived.Deep.RegionHeld3
import Derived.Test.YtebcmicmklpflaaGreatDoorPt
namespace Go.Proofs.YtebcmicmklpflaaGreatDoor
open Go.RowKit Go.Shelf Go.Great Go.Maps
attribute [local go_sem] Oper.semAt_some
set_option linter.unusedSimpArgs false
/-- A new row of the pages that a row has. -/
theorem pg_copy {w : World} {O : Nat → Prop} {g c : Nat} {ps : List Pge} (h : PgR w O (.slice (some ⟨g, 0, none⟩) ps.length c) ps) (hn : 0 < ps.length) (hn2 : ps.length ≤ 16384) :
    ∃ lv' w3, (∀ ty, (appP ty #[.slice none 0 0, .slice (some ⟨g, 0, none⟩) ps.length c]).run Tryz.prog w = .ok lv' w3) ∧ PgR w3 (fun q => O q ∨ q = w.heap.size) lv' ps ∧ lv'.ownBlock = some w.heap.size ∧ Below w.heap.size w w3 ∧ (∃ a' c', lv' = .slice a' ps.length c') := by
  obtain ⟨i, z, hi, hz, hsz, hby, hzs⟩ := info145
  obtain ⟨vals, ⟨h1, h2⟩, h3, h4⟩ := h
  rcases h2 with ⟨e, _⟩ | ⟨g', cap, cur, e, _, hg, h6, h7, h8, h9⟩
  · cases e
  · injection e with e1 _ e2
    injection e1 with e1
    injection e1 with e1 _ _
    subst e1
    subst e2
    have hcell : ∀ j u, vals[j]? = some u → w.cell? ((⟨g, 0, none⟩ : Addr).add j) = some u := fun j u hj => by
      rw [← h9, List.getElem?_take] at hj
      split at hj
      · rw [Array.getElem?_toList] at hj
        by_cases hj0 : j = 0
        · subst hj0
          simp only [World.cell?, Addr.add, if_true, hg]
          exact hj
        · simp only [World.cell?, Addr.add, hj0, if_false, Nat.zero_add, hg]
          exact hj
      · cases hj
    have hone : ∀ u ∈ vals, u.oneCell' = true := fun u hu => by
      obtain ⟨j, hj, rfl⟩ := List.getElem_of_mem hu
      have hjl : j / 2 < ps.length := by omega
      obtain ⟨f1, sv, f2, f3⟩ := h4 (j / 2) _ (List.getElem?_eq_getElem hjl)
      obtain ⟨_, _, _, e⟩ := f3.slice
      rcases (show j = j / 2 * 2 ∨ j = j / 2 * 2 + 1 by omega) with e1 | e1
      · rw [← e1, List.getElem?_eq_getElem hj] at f1
        rw [Option.some.inj f1]; rfl
      · rw [← e1, List.getElem?_eq_getElem hj] at f2
        rw [Option.some.inj f2, e]; rfl
    obtain ⟨gv', w3, hr, hown, hgr, hnil, hloc⟩ := run_append_own_at (P := Tryz.prog) w 0 134 134 145 i z 2 32 Tryz.underlying134 hi hz hsz hby hzs (by omega) (.slice none 0 0) 0 [] ⟨rfl, .inl ⟨rfl, rfl⟩⟩ ⟨g, 0, none⟩ ps.length c vals h1 hcell hone (by simp only [maxLen]; omega) (by omega) (Nat.zero_le _)
    have hblk : gv'.ownBlock = some w.heap.size := by
      rcases hloc with h | h
      · rcases hown.2 with ⟨_, h0⟩ | ⟨g2, c2, cu2, e2, _⟩
        · omega
        · rw [e2] at h; simp [Value.ownBlock] at h
      · exact h
    have hbel : Below w.heap.size w w3 := ⟨hgr.os, hgr.tape, hgr.output, hgr.size, fun q hq => hgr.block q hq (by simp [Value.ownBlock])⟩
    refine ⟨gv', w3, fun _ => hr, ⟨vals, by simpa using hown, fun q e => .inr (by rw [hblk] at e; exact (Option.some.inj e).symm), fun j d e => ?_⟩, hblk, hbel, ?_⟩
    · obtain ⟨f1, sv, f2, f3⟩ := h4 j d e
      refine ⟨f1, sv, f2, f3.kept5 (fun _ o => .inl o) (fun q cu _ hq => hbel.block q (Array.getElem?_eq_some_iff.1 hq).1)⟩
    · rcases hown.2 with ⟨_, h0⟩ | ⟨g2, c2, cu2, e2, _⟩
      · omega
      · exact ⟨some ⟨g2, 0, none⟩, c2, by rw [e2, Nat.zero_add]⟩
set_option maxRecDepth 20000 in
set_option maxHeartbeats 4000000 in
theorem pkeep_first {w : World} {p : Nat} {F : Fl} {S : Pgr} {O : Nat → Prop} {nv : Value} (h : PgM w p F S O (.slice none 0 0) nv) (hT : Tab w) (hp0 : p ≠ 0) (hO0 : ¬ O 0) (hok : S.Ok) (hn : 0 < S.now.length) :
    Calls Tryz.prog 78 #[.pointer (some ⟨p, 0, none⟩)] w fun e w' => e = .returned (.tuple #[]) ∧ ∃ O' lv', PgM w' p F S.keep O' lv' nv ∧ FFr (Pown p O) (Pown p O') w w' := by
  refine (callsIn_wide (n := 3)).1 ?_
  refine callsIn_of_wp_marks Tryz.func78 rfl trivial ?_ rfl
  simp only [Tryz.ntmps78, List.size_toArray, List.length_cons, List.length_nil, Nat.reduceAdd, Nat.reduceSub, Array.replicate_succ, Array.replicate_zero, List.push_toArray, List.append_toArray, List.nil_append, List.cons_append]
  obtain ⟨g, c, rfl⟩ : ∃ g c, nv = .slice (some ⟨g, 0, none⟩) S.now.length c := by
    obtain ⟨g, c, sv, e, _⟩ := h.rn.at hn
    exact ⟨g, c, e⟩
  have hlen := h.len
  have c262 := h.last_at
  have c263 := h.now_at
  have hpl := h.pb.lt
  obtain ⟨W1, hW1⟩ : ∃ W1, W1 = (w.alloc (.cells #[.pointer (some ⟨p, 0, none⟩)] 58)).drew := ⟨_, rfl⟩
  have hb1 : Below w.heap.size w W1 := by rw [hW1]; exact ((Below.refl _ _).alloc (Nat.le_refl _) _).drew
  have hM1 := h.below hb1
  obtain ⟨lv', w3, hr, hR3, hblk, hb3, a', c', rfl⟩ := pg_copy hM1.rn hn hlen
  have hz262 : w3.frozen? ⟨p, 262, none⟩ = false := (hM1.pb.kept (hb3.block p hM1.pb.lt)).frozen _
  have hc262 : w3.cell? ⟨p, 262, none⟩ = some (.slice none 0 0) := (hM1.below hb3).last_at
  rw [hW1] at hr
  have hNi : (0 : Int) ≤ (S.now.length : Int) := by omega
  have HM := hide (And.intro h (And.intro hM1 (And.intro hR3 (And.intro hb1 hb3))))
  have HT := hide hT
  have HOk := hide hok
  clear h hM1 hR3 hb1 hb3 hT hok
  have hbx : W1.heap[w.heap.size]? = some (.cells #[.pointer (some ⟨p, 0, none⟩)] 58) := by rw [hW1]; exact World.alloc_heap_new w _
  have l0 : (w.alloc (.cells #[.pointer (some ⟨p, 0, none⟩)] 58)).drew.cell? ⟨w.heap.size, 0, none⟩ = some (.pointer (some ⟨p, 0, none⟩)) := by rw [← hW1]; exact bk_cell hbx
  have l1 : (w.alloc (.cells #[.pointer (some ⟨p, 0, none⟩)] 58)).drew.cell? ⟨p, 262, none⟩ = some (.slice none 0 0) := by rw [← hW1]; exact (unhide HM).2.1.last_at
  have l2 : (w.alloc (.cells #[.pointer (some ⟨p, 0, none⟩)] 58)).drew.cell? ⟨p, 263, none⟩ = some (.slice (some ⟨g, 0, none⟩) S.now.length c) := by rw [← hW1]; exact (unhide HM).2.1.now_at
  have m0 : w3.cell? ⟨w.heap.size, 0, none⟩ = some (.pointer (some ⟨p, 0, none⟩)) := bk_cell (t := 58) (by rw [(unhide HM).2.2.2.2.block _ (Array.getElem?_eq_some_iff.1 hbx).1]; exact hbx)
  have m2 : w3.cell? ⟨p, 263, none⟩ = some (.slice (some ⟨g, 0, none⟩) S.now.length c) := ((unhide HM).2.1.below (unhide HM).2.2.2.2).now_at
  have HBX := hide hbx
  clear hbx
  have HN := hide (And.intro hn (And.intro hlen hblk))
  clear hn hlen hblk hW1
  obtain ⟨N, hN⟩ : ∃ N, N = S.now.length := ⟨_, rfl⟩
  have HNe := hide hN
  rw [← hN] at c263 l2 m2 hr hNi
  rw [← hN]
  clear hN
  gi_wp2_with fail
  refine wpIn_wide.2 ?_
  have n0 : (w3.setCell ⟨p, 262, none⟩ (.slice a' N c')).cell? ⟨w.heap.size, 0, none⟩ = some (.pointer (some ⟨p, 0, none⟩)) := by rw [World.cell?_setCell_other _ _ _ _ (fun e => by injection e with e _ _; omega)]; exact m0
  have n2 : (w3.setCell ⟨p, 262, none⟩ (.slice a' N c')).cell? ⟨p, 263, none⟩ = some (.slice (some ⟨g, 0, none⟩) N c) := by rw [World.cell?_setCell_other _ _ _ _ (fun e => by injection e with _ e _; omega)]; exact m2
  apply one_way
  rotate_left
  intro key
  refine wp_region_noPanic ?_
  refine wp_region_held_drew (S := fun W' => W'.cell? ⟨w.heap.size, 0, none⟩ = some (.pointer (some ⟨p, 0, none⟩)) ∧ W'.cell? ⟨p, 263, none⟩ = some (.slice (some ⟨g, 0, none⟩) N c)) (by kernel_rfl) ⟨l0, l2⟩ (fun hH => ?_)
  refine wpAnyH_take (i := 0) (v := .pointer (some ⟨p, 0, none⟩)) rfl (by kernel_rfl) (by kernel_rfl) (by kernel_rfl) (fun _ _ _ h => h) (Or.inl ⟨by rfl, ?_⟩) hH ?_
  · intro w hSw; go_simp
  try simp only [Act.put, List.getElem_toArray, List.getElem_cons_zero, List.getElem_cons_succ, List.setIfInBounds_toArray, List.set_cons_zero, List.set_cons_succ]
  refine wpAnyH_take (i := 1) (v := .pointer (some ⟨p, 0, none⟩)) rfl (by kernel_rfl) (by kernel_rfl) (by kernel_rfl) (fun _ _ _ h => h) (Or.inl ⟨by rfl, ?_⟩) hH ?_
  · intro w hSw; go_simp
  try simp only [Act.put, List.getElem_toArray, List.getElem_cons_zero, List.getElem_cons_succ, List.setIfInBounds_toArray, List.set_cons_zero, List.set_cons_succ]
  refine wpAnyH_take (i := 2) (v := .pointer (some ⟨p, 0, none⟩)) rfl (by kernel_rfl) (by kernel_rfl) (by kernel_rfl) (fun _ _ _ h => h) (Or.inl ⟨by rfl, ?_⟩) hH ?_
  · intro w hSw; go_simp
  try simp only [Act.put, List.getElem_toArray, List.getElem_cons_zero, List.getElem_cons_succ, List.setIfInBounds_toArray, List.set_cons_zero, List.set_cons_succ]
  refine wpAnyH_take (i := 3) (v := .pointer (some ⟨p, 262, none⟩)) rfl (by kernel_rfl) (by kernel_rfl) (by kernel_rfl) (fun _ _ _ h => h) (Or.inl ⟨by rfl, ?_⟩) hH ?_
  · intro w hSw; go_simp
  try simp only [Act.put, List.getElem_toArray, List.getElem_cons_zero, List.getElem_cons_succ, List.setIfInBounds_toArray, List.set_cons_zero, List.set_cons_succ]
  refine wpAnyH_take (i := 5) (v := .pointer (some ⟨p, 0, none⟩)) rfl (by kernel_rfl) (by kernel_rfl) (by kernel_rfl) (fun _ _ _ h => h) (Or.inl ⟨by rfl, ?_⟩) hH ?_
  · intro w hSw; go_simp
  try simp only [Act.put, List.getElem_toArray, List.getElem_cons_zero, List.getElem_cons_succ, List.setIfInBounds_toArray, List.set_cons_zero, List.set_cons_succ]
  refine wpAnyH_take (i := 6) (v := .pointer (some ⟨p, 0, none⟩)) rfl (by kernel_rfl) (by kernel_rfl) (by kernel_rfl) (fun _ _ _ h => h) (Or.inl ⟨by rfl, ?_⟩) hH ?_
  · intro w hSw; go_simp
  try simp only [Act.put, List.getElem_toArray, List.getElem_cons_zero, List.getElem_cons_succ, List.setIfInBounds_toArray, List.set_cons_zero, List.set_cons_succ]
  refine wpAnyH_take (i := 7) (v := .pointer (some ⟨p, 263, none⟩)) rfl (by kernel_rfl) (by kernel_rfl) (by kernel_rfl) (fun _ _ _ h => h) (Or.inl ⟨by rfl, ?_⟩) hH ?_
  · intro w hSw; go_simp
  try simp only [Act.put, List.getElem_toArray, List.getElem_cons_zero, List.getElem_cons_succ, List.setIfInBounds_toArray, List.set_cons_zero, List.set_cons_succ]
  refine wpAnyH_take (i := 8) (v := .slice (some ⟨g, 0, none⟩) N c) rfl (by kernel_rfl) (by kernel_rfl) (by kernel_rfl) (fun _ _ _ h => h) (Or.inl ⟨by rfl, ?_⟩) hH ?_
  · intro w hSw; go_simp
  try simp only [Act.put, List.getElem_toArray, List.getElem_cons_zero, List.getElem_cons_succ, List.setIfInBounds_toArray, List.set_cons_zero, List.set_cons_succ]
  refine wpAnyH_take (i := 9) (v := .pointer (some ⟨p, 0, none⟩)) rfl (by kernel_rfl) (by kernel_rfl) (by kernel_rfl) (fun _ _ _ h => h) (Or.inl ⟨by rfl, ?_⟩) hH ?_
  · intro w hSw; go_simp
  try simp only [Act.put, List.getElem_toArray, List.getElem_cons_zero, List.getElem_cons_succ, List.setIfInBounds_toArray, List.set_cons_zero, List.set_cons_succ]
  refine wpAnyH_take (i := 10) (v := .pointer (some ⟨p, 0, none⟩)) rfl (by kernel_rfl) (by kernel_rfl) (by kernel_rfl) (fun _ _ _ h => h) (Or.inl ⟨by rfl, ?_⟩) hH ?_
  · intro w hSw; go_simp
  try simp only [Act.put, List.getElem_toArray, List.getElem_cons_zero, List.getElem_cons_succ, List.setIfInBounds_toArray, List.set_cons_zero, List.set_cons_succ]
  refine wpAnyH_take (i := 11) (v := .pointer (some ⟨p, 262, none⟩)) rfl (by kernel_rfl) (by kernel_rfl) (by kernel_rfl) (fun _ _ _ h => h) (Or.inl ⟨by rfl, ?_⟩) hH ?_
  · intro w hSw; go_simp
  try simp only [Act.put, List.getElem_toArray, List.getElem_cons_zero, List.getElem_cons_succ, List.setIfInBounds_toArray, List.set_cons_zero, List.set_cons_succ]
  refine wpAnyH_ready (rs := [4, 12]) (by kernel_rfl) (by simp) (AllReadyH.cons rfl (fun K hK => ?_) (AllReadyH.cons rfl (fun K hK => ?_) AllReadyH.nil))
  · simp only [List.getElem_toArray, List.getElem_cons_zero, List.getElem_cons_succ]
    go_simp
    refine hK.out _ _ ⟨l0, l2⟩ (fun hH2 => ?_)
    clear hK K
    try simp only [Act.put, List.getElem_toArray, List.getElem_cons_zero, List.getElem_cons_succ, List.setIfInBounds_toArray, List.set_cons_zero, List.set_cons_succ]
    refine wpAnyH_ready (rs := [12]) (by kernel_rfl) (by simp) (AllReadyH.cons rfl (fun K hK => ?_) AllReadyH.nil)
    simp only [List.getElem_toArray, List.getElem_cons_zero, List.getElem_cons_succ]
    go_simp
    refine hK.out _ _ ⟨l0, l2⟩ (fun hH2 => ?_)
    clear hK K
    try simp only [Act.put, List.getElem_toArray, List.getElem_cons_zero, List.getElem_cons_succ, List.setIfInBounds_toArray, List.set_cons_zero, List.set_cons_succ]
    refine wpAnyH_take (i := 13) (v := .int .i64 0) rfl (by kernel_rfl) (by kernel_rfl) (by kernel_rfl) (fun _ _ _ h => h) (Or.inl ⟨by rfl, ?_⟩) hH2 ?_
    · intro w hSw; go_simp
    try simp only [Act.put, List.getElem_toArray, List.getElem_cons_zero, List.getElem_cons_succ, List.setIfInBounds_toArray, List.set_cons_zero, List.set_cons_succ]
    refine wpAnyH_take (i := 14) (v := .slice (some ⟨g, 0, none⟩) N c) rfl (by kernel_rfl) (by kernel_rfl) (by kernel_rfl) (fun _ _ _ h => h) (Or.inl ⟨by rfl, ?_⟩) hH2 ?_
    · intro w hSw; go_simp
    try simp only [Act.put, List.getElem_toArray, List.getElem_cons_zero, List.getElem_cons_succ, List.setIfInBounds_toArray, List.set_cons_zero, List.set_cons_succ]
    refine wpAnyH_ready (rs := [15]) (by kernel_rfl) (by simp) (AllReadyH.cons rfl (fun K hK => ?_) AllReadyH.nil)
    simp only [List.getElem_toArray, List.getElem_cons_zero, List.getElem_cons_succ]
    go_simp
    refine hK.out _ _ ⟨m0, m2⟩ (fun hH3 => ?_)
    clear hK K
    try simp only [Act.put, List.getElem_toArray, List.getElem_cons_zero, List.getElem_cons_succ, List.setIfInBounds_toArray, List.set_cons_zero, List.set_cons_succ]
    refine wpAnyH_take (i := 16) (v := .pointer (some ⟨p, 0, none⟩)) rfl (by kernel_rfl) (by kernel_rfl) (by kernel_rfl) (fun _ _ _ h => h) (Or.inl ⟨by rfl, ?_⟩) hH3 ?_
    · intro w hSw; go_simp
    try simp only [Act.put, List.getElem_toArray, List.getElem_cons_zero, List.getElem_cons_succ, List.setIfInBounds_toArray, List.set_cons_zero, List.set_cons_succ]
    refine wpAnyH_take (i := 17) (v := .pointer (some ⟨p, 262, none⟩)) rfl (by kernel_rfl) (by kernel_rfl) (by kernel_rfl) (fun _ _ _ h => h) (Or.inl ⟨by rfl, ?_⟩) hH3 ?_
    · intro w hSw; go_simp
    try simp only [Act.put, List.getElem_toArray, List.getElem_cons_zero, List.getElem_cons_succ, List.setIfInBounds_toArray, List.set_cons_zero, List.set_cons_succ]
    refine wpAnyH_ready (rs := [18]) (by kernel_rfl) (by simp) (AllReadyH.cons rfl (fun K hK => ?_) AllReadyH.nil)
    simp only [List.getElem_toArray, List.getElem_cons_zero, List.getElem_cons_succ]
    go_simp
    refine hK.out _ _ ⟨n0, n2⟩ (fun hH4 => ?_)
    clear hK K
    try simp only [Act.put, List.getElem_toArray, List.getElem_cons_zero, List.getElem_cons_succ, List.setIfInBounds_toArray, List.set_cons_zero, List.set_cons_succ]
    refine wpAnyH_done (by kernel_rfl) ?_ _
    exact NoPanic.normal (unhide key)
  · simp only [List.getElem_toArray, List.getElem_cons_zero, List.getElem_cons_succ]
    go_simp
    refine hK.out _ _ ⟨l0, l2⟩ (fun hH2 => ?_)
    clear hK K
    try simp only [Act.put, List.getElem_toArray, List.getElem_cons_zero, List.getElem_cons_succ, List.setIfInBounds_toArray, List.set_cons_zero, List.set_cons_succ]
    refine wpAnyH_take (i := 13) (v := .int .i64 0) rfl (by kernel_rfl) (by kernel_rfl) (by kernel_rfl) (fun _ _ _ h => h) (Or.inl ⟨by rfl, ?_⟩) hH2 ?_
    · intro w hSw; go_simp
    try simp only [Act.put, List.getElem_toArray, List.getElem_cons_zero, List.getElem_cons_succ, List.setIfInBounds_toArray, List.set_cons_zero, List.set_cons_succ]
    refine wpAnyH_take (i := 14) (v := .slice (some ⟨g, 0, none⟩) N c) rfl (by kernel_rfl) (by kernel_rfl) (by kernel_rfl) (fun _ _ _ h => h) (Or.inl ⟨by rfl, ?_⟩) hH2 ?_
    · intro w hSw; go_simp
    try simp only [Act.put, List.getElem_toArray, List.getElem_cons_zero, List.getElem_cons_succ, List.setIfInBounds_toArray, List.set_cons_zero, List.set_cons_succ]
    refine wpAnyH_ready (rs := [4]) (by kernel_rfl) (by simp) (AllReadyH.cons rfl (fun K hK => ?_) AllReadyH.nil)
    simp only [List.getElem_toArray, List.getElem_cons_zero, List.getElem_cons_succ]
    go_simp
    refine hK.out _ _ ⟨l0, l2⟩ (fun hH2 => ?_)
    clear hK K
    try simp only [Act.put, List.getElem_toArray, List.getElem_cons_zero, List.getElem_cons_succ, List.setIfInBounds_toArray, List.set_cons_zero, List.set_cons_succ]
    refine wpAnyH_ready (rs := [15]) (by kernel_rfl) (by simp) (AllReadyH.cons rfl (fun K hK => ?_) AllReadyH.nil)
    simp only [List.getElem_toArray, List.getElem_cons_zero, List.getElem_cons_succ]
    go_simp
    refine hK.out _ _ ⟨m0, m2⟩ (fun hH3 => ?_)
    clear hK K
    try simp only [Act.put, List.getElem_toArray, List.getElem_cons_zero, List.getElem_cons_succ, List.setIfInBounds_toArray, List.set_cons_zero, List.set_cons_succ]
    refine wpAnyH_take (i := 16) (v := .pointer (some ⟨p, 0, none⟩)) rfl (by kernel_rfl) (by kernel_rfl) (by kernel_rfl) (fun _ _ _ h => h) (Or.inl ⟨by rfl, ?_⟩) hH3 ?_
    · intro w hSw; go_simp
    try simp only [Act.put, List.getElem_toArray, List.getElem_cons_zero, List.getElem_cons_succ, List.setIfInBounds_toArray, List.set_cons_zero, List.set_cons_succ]
    refine wpAnyH_take (i := 17) (v := .pointer (some ⟨p, 262, none⟩)) rfl (by kernel_rfl) (by kernel_rfl) (by kernel_rfl) (fun _ _ _ h => h) (Or.inl ⟨by rfl, ?_⟩) hH3 ?_
    · intro w hSw; go_simp
    try simp only [Act.put, List.getElem_toArray, List.getElem_cons_zero, List.getElem_cons_succ, List.setIfInBounds_toArray, List.set_cons_zero, List.set_cons_succ]
    refine wpAnyH_ready (rs := [18]) (by kernel_rfl) (by simp) (AllReadyH.cons rfl (fun K hK => ?_) AllReadyH.nil)
    simp only [List.getElem_toArray, List.getElem_cons_zero, List.getElem_cons_succ]
    go_simp
    refine hK.out _ _ ⟨n0, n2⟩ (fun hH4 => ?_)
    clear hK K
    try simp only [Act.put, List.getElem_toArray, List.getElem_cons_zero, List.getElem_cons_succ, List.setIfInBounds_toArray, List.set_cons_zero, List.set_cons_succ]
    refine wpAnyH_done (by kernel_rfl) ?_ _
    exact NoPanic.normal (unhide key)
  obtain ⟨W4, hW4⟩ : ∃ W4, W4 = w3.setCell ⟨p, 262, none⟩ (.slice a' N c') := ⟨_, rfl⟩
  obtain ⟨S4, hS4⟩ : ∃ S4 : Pgr, S4 = { S with last := S.now } := ⟨_, rfl⟩
  obtain ⟨O4, hO4⟩ : ∃ O4 : Nat → Prop, O4 = fun q => O q ∨ q = W1.heap.size := ⟨_, rfl⟩
  have hM4 : PgM W4 p F S4 O4 (.slice a' N c') (.slice (some ⟨g, 0, none⟩) N c) ∧ FFr (Pown p O) (Pown p O4) w W4 ∧ Tab W4 ∧ ¬ O4 0 ∧ W4.heap[w.heap.size]? = some (.cells #[.pointer (some ⟨p, 0, none⟩)] 58) ∧ ¬ O4 w.heap.size ∧ w.heap.size < W4.heap.size := by
    obtain ⟨h, hM1, hR3, hb1, hb3⟩ := unhide HM
    obtain ⟨hn, hlen, hblk⟩ := unhide HN
    have hbx := unhide HBX
    have hNe := unhide HNe
    subst hNe
    have hpl1 := hM1.pb.lt
    have h1 := hb1.size
    have h3 := hb3.size
    have hbxl := (Array.getElem?_eq_some_iff.1 hbx).1
    have hk : ∀ q, q ≠ p → W4.heap[q]? = w3.heap[q]? := fun q hq => by rw [hW4]; exact Below.heap_setCell _ _ _ _ hq
    obtain ⟨_, _, on, _⟩ := hM1.rn
    obtain ⟨_, hown3, ol3, _⟩ := hR3
    have hgl := hM1.lt g (on g rfl)
    have h3l : W1.heap.size < w3.heap.size := by
      rcases hown3.2 with ⟨e, h0⟩ | ⟨g2, c2, cu2, e2, _, hg2, _⟩
      · omega
      · rw [e2] at hblk
        have : g2 = W1.heap.size := by simpa [Value.ownBlock] using hblk
        rw [← this]
        exact (Array.getElem?_eq_some_iff.1 hg2).1
    have hsz4 : W4.heap.size = w3.heap.size := by rw [hW4]; simp
    refine ⟨⟨?_, ?_, ?_, ?_, ?_, ?_, by rw [hS4]; exact hM1.len⟩, ⟨?_, ?_, ?_, ?_, ?_, ?_⟩, ?_, ?_, ?_, ?_, by omega⟩
    · rw [hW4, hS4]; exact (hM1.pb.kept (hb3.block p hpl1)).setLast _
    · rw [hS4, hO4]
      obtain ⟨vals, hv1, hv2, hv3⟩ := (unhide HM).2.2.1
      refine PgR.kept (w := w3) (O := fun q => O q ∨ q = W1.heap.size) ⟨vals, hv1, hv2, hv3⟩ (fun _ o => o) (fun q e => hk q ?_) (fun q cu o _ => hk q ?_)
      · rw [hblk] at e; injection e with e; omega
      · rcases o with o | o
        · exact fun e => hM1.np (e ▸ o)
        · omega
    · rw [hS4, hO4]
      refine (hM1.below hb3).rn.kept (fun _ o => .inl o) (fun q e => hk q ?_) (fun q cu o _ => hk q (fun e => hM1.np (e ▸ o)))
      have : g = q := by simpa [Value.ownBlock] using e
      subst this
      exact fun e => hM1.np (e ▸ on g rfl)
    · intro q e1 e2
      rw [hblk] at e2
      have : g = q := by simpa [Value.ownBlock] using e1
      injection e2 with e2
      omega
    · rw [hO4]; rintro (o | o)
      · exact hM1.np o
      · omega
    · rw [hO4]; rintro q (o | o)
      · have := hM1.lt q o; omega
      · omega
    · rw [hW4]; exact hb3.os.trans hb1.os
    · rw [hW4]; exact hb3.tape.trans hb1.tape
    · rw [hW4]; exact hb3.output.trans hb1.output
    · omega
    · intro q h5 h6
      rw [hk q (fun e => h6 (.inl e)), hb3.block q (by omega), hb1.block q h5]
    · rw [hO4]; rintro q (rfl | o | o)
      · exact .inl (.inl rfl)
      · exact .inl (.inr o)
      · exact .inr (by omega)
    · have h0 := (unhide HT).lt
      exact (unhide HT).kept (by rw [hk 0 (Ne.symm hp0), hb3.block 0 (by omega), hb1.block 0 h0])
    · have h0 := (unhide HT).lt
      rw [hO4]; rintro (o | o)
      · exact hO0 o
      · omega
    · rw [hk _ (by omega), hb3.block _ hbxl]; exact hbx
    · rw [hO4]; rintro (o | o)
      · have := h.lt _ o; omega
      · omega
  rw [← hW4]
  have HM4 := hide hM4
  have HS4 := hide hS4
  have HAll := hide (all_ok p 520)
  have cb : W4.cell? ⟨w.heap.size, 0, none⟩ = some (.pointer (some ⟨p, 0, none⟩)) := bk_cell hM4.2.2.2.2.1
  clear hM4 hS4 hW4 hO4 n0 n2 m0 m2 l0 l1 l2 hr c262 c263 hc262 hz262 HM HN HBX
  gi_wp2_with fail
  refine ⟨trivial, ?_⟩
  refine (callsIn_wide.2 (unhide HAll _)).mono ?_
  rintro e W5 ⟨rfl, hW5⟩
  have HW5 := hide hW5
  clear hW5
  gi_wp2_with fail
  have HNW : Hid (W5 = W4.alloc (.cells #[.pointer (some ⟨p, 520, none⟩)] 154)) := HW5
  have hb5 : Below W4.heap.size W4 W5 := by rw [unhide HNW]; exact (Below.refl _ _).alloc (Nat.le_refl _) _
  have hB5 : W5.heap[W4.heap.size]? = some (.cells #[.pointer (some ⟨p, 520, none⟩)] 154) := by rw [unhide HNW]; exact World.alloc_heap_new W4 _
  have hs5 : W5.heap.size = W4.heap.size + 1 := by rw [unhide HNW]; simp
  have HG5 := hide (And.intro hb5 (And.intro hB5 hs5))
  clear hb5 hB5 hs5
  have HGo := hide (all_iter S.dirty p 520 W4.heap.size W5)
  have hNi2 : (N : Int) = (S.now.length : Int) := by rw [unhide HNe]
  have HNi2 := hide hNi2
  clear hNi2
  refine range_iter (N := 3) (unhide HGo) enters123 Leave.ret (fun x => { tmps := #[.pointer (some ⟨p, 0, none⟩), .pointer (some ⟨w.heap.size, 0, none⟩), .int .i64 (x : Int), .pointer (some ⟨p, 0, none⟩), .pointer (some ⟨p, 0, none⟩), .pointer (some ⟨p, 0, none⟩), .pointer (some ⟨p, 262, none⟩), .slice none 0 0, .pointer (some ⟨p, 0, none⟩), .pointer (some ⟨p, 0, none⟩), .pointer (some ⟨p, 263, none⟩), .slice (some ⟨g, 0, none⟩) N c, .pointer (some ⟨p, 0, none⟩), .pointer (some ⟨p, 0, none⟩), .pointer (some ⟨p, 262, none⟩), .slice none 0 0, .int .i64 0, .slice (some ⟨g, 0, none⟩) N c, .slice a' N c', .pointer (some ⟨p, 0, none⟩), .pointer (some ⟨p, 262, none⟩), .pointer (some ⟨p, 0, none⟩), .pointer (some ⟨p, 0, none⟩), .pointer (some ⟨p, 520, none⟩), .func (.func 123) #[] #[.pointer (some ⟨W4.heap.size, 0, none⟩)], .int .i64 (x : Int), undef, undef, undef, undef, undef, undef, undef, undef, undef, undef, undef, undef, undef, undef, undef, undef, undef], defers := [] })
    (fun _ X => PgM X p F S4 O4 (.slice a' N c') (.slice (some ⟨g, 0, none⟩) N c) ∧ FFr (Pown p O4) (Pown p O4) W5 X)
    (fun _ => False) rfl ?_ ?_ ?_ ?_ ?_ ?_ ?_ ?_ ?_
  · intro q h; exact h.elim
  · rintro i X ⟨hX, hE⟩
    obtain ⟨hM4, hE4, hT4, h04, hbx4, hnb4, hlt4⟩ := unhide HM4
    obtain ⟨hb5, hB5, hs5⟩ := unhide HG5
    have hno : ∀ q, q < W5.heap.size → ¬ Pown p O4 q → X.heap[q]? = W5.heap[q]? := fun q h1 h2 => hE.rest q h1 h2
    refine ⟨bk_cell (t := 154) ?_, ?_, ?_⟩
    · rw [hno _ (by omega) (fun o => by rcases o with o | o; (have := hM4.pb.lt; omega); (have := hM4.lt _ o; omega))]; exact hB5
    · have := hT4.lt
      exact hT4.kept (by rw [hno 0 (by omega) (fun o => o.elim (fun e => hp0 e.symm) h04), hb5.block 0 this])
    · have := hX.pb.words_dirty
      rw [unhide HS4] at this
      exact this
  · obtain ⟨hM4, hE4, hT4, h04, hbx4, hnb4, hlt4⟩ := unhide HM4
    exact ⟨hM4.below (unhide HG5).1, FFr.refl _ _⟩
  · rintro i X X' ⟨hX, hE⟩ hI
    obtain ⟨hM4, hE4, hT4, h04, hbx4, hnb4, hlt4⟩ := unhide HM4
    obtain ⟨hb5, hB5, hs5⟩ := unhide HG5
    refine ⟨hX.kept hI.size (fun q o => ?_), ⟨hI.os.trans hE.os, hI.tape.trans hE.tape, hI.output.trans hE.output, Nat.le_trans hE.size hI.size, fun q h1 h2 => ?_, fun q o => .inl o⟩⟩
    · have hq : q < W5.heap.size := by
        rcases o with o | o
        · have := hM4.pb.lt; omega
        · have := hM4.lt q o; omega
      exact hI.block q hq (by have := hE.size; omega) (fun h => h)
    · rw [hI.block q h1 (by have := hE.size; omega) (fun h => h)]; exact hE.rest q h1 h2
  · intro V V' h; exact h.elim
  · intro l' x X K' hK'
    gi_wp2_with fail
    exact hK'
  · rintro l' i X R hi ⟨hX, hE⟩ hlt hR
    have HX := hide (And.intro hX hE)
    have HRR := hide hR
    obtain ⟨hM4, hE4, hT4, h04, hbx4, hnb4, hlt4⟩ := unhide HM4
    obtain ⟨hb5, hB5, hs5⟩ := unhide HG5
    have hxm := (lst_mem (s := S.dirty) 16384 0).1 (List.getElem_mem hi)
    have hxlt := (unhide HOk).dlt _ hxm.2.2
    obtain ⟨y, hy⟩ : ∃ y, y = (lst S.dirty 0 16384)[i] := ⟨_, rfl⟩
    rw [← hy] at hxlt ⊢
    have hbxX : X.heap[w.heap.size]? = some (.cells #[.pointer (some ⟨p, 0, none⟩)] 58) := by
      rw [hE.rest _ (by omega) (fun o => by rcases o with o | o; (have := hM4.pb.lt; omega); exact hnb4 o), hb5.block _ hlt4]; exact hbx4
    have hS4n : S4.now = S.now := by rw [unhide HS4]
    have hS4l : S4.last = S.now := by rw [unhide HS4]
    have hyn : y < S4.now.length := by rw [hS4n]; exact hxlt
    have hyl : y < S4.last.length := by rw [hS4l]; exact hxlt
    obtain ⟨g1, c1, sv, e1, hO1, hb1', d0, d1, hrec, hz1, hcur1, _, _⟩ := hX.rn.at hyn
    obtain ⟨g2, c2, sv2, e2, hO2, hb2', f0, f1, hrec2, hz2, hcur2, _, _⟩ := hX.rl.at hyl
    injection e1 with e1 e1n e1c
    clear e1n e1c
    injection e1 with e1
    injection e1 with e1 _ _
    subst e1
    injection e2 with e2 e2n e2c
    clear e2n e2c
    subst e2
    have cbx := bk_cell hbxX
    have x262 : X.cell? ⟨p, 262, none⟩ = some (.slice (some ⟨g2, 0, none⟩) N c') := hX.last_at
    have x263 := hX.now_at
    have hyi : (y : Int) < (N : Int) := by have := unhide HNi2; omega
    have hz20 := hz2 (y * 2)
    have hz21 := hz2 (y * 2 + 1)
    obtain ⟨va, vl, vc, hsv⟩ := hrec.slice
    have hfinal : PgM ((X.drew.setCell ⟨g2, y * 2, none⟩ (.bool (S4.now[y]).isSome)).setCell ⟨g2, y * 2 + 1, none⟩ sv) p F S4 O4 (.slice (some ⟨g2, 0, none⟩) N c') (.slice (some ⟨g, 0, none⟩) N c) ∧ FFr (Pown p O4) (Pown p O4) X ((X.drew.setCell ⟨g2, y * 2, none⟩ (.bool (S4.now[y]).isSome)).setCell ⟨g2, y * 2 + 1, none⟩ sv) := by
      have hXd : PgM X.drew p F S4 O4 (.slice (some ⟨g2, 0, none⟩) N c') (.slice (some ⟨g, 0, none⟩) N c) := hX.kept (Nat.le_refl _) (fun _ _ => rfl)
      obtain ⟨r1, r2⟩ := hXd.putLast (d := S4.now[y]) (sv := sv) hyl rfl (hrec.kept (fun _ o => o) (fun _ _ => rfl)) hcur2
      have hset : S4.last.set y S4.now[y] = S4.last := by
        have : S4.now[y] = S4.last[y] := by simp [hS4n, hS4l]
        rw [this]; exact List.set_getElem_self hyl
      rw [hset] at r1
      exact ⟨r1, ⟨r2.os, r2.tape, r2.output, r2.size, fun q h1 h2 => r2.rest q h1 h2, fun q o => .inl o⟩⟩
    have HFin := hide hfinal
    subst hsv
    obtain ⟨bt, hbt⟩ : ∃ bt, bt = (S4.now[y]).isSome := ⟨_, rfl⟩
    rw [← hbt] at d0 HFin
    obtain ⟨x0, f0'⟩ : ∃ x0, X.cell? ⟨g2, y * 2, none⟩ = some x0 := ⟨_, f0⟩
    have hxpl := hX.pb.lt
    have hg2l := cellLt f1
    have HBL : Hid (O4 g2 ∧ g2 ≠ p) := ⟨hO2, fun e => hX.np (e ▸ hO2)⟩
    clear f0 hrec2
    clear hfinal hX hE hR hM4 hE4 hT4 h04 hbx4 hnb4 hlt4 hb5 hB5 hs5 hxm hxlt hy hbxX hrec hz1 hz2 hcur1 hcur2 hb1' hb2' hO1 hO2 hbt
    clear hyn hyl hS4n hS4l
    have hneb : w.heap.size ≠ g2 := fun e => (unhide HM4).2.2.2.2.2.1 (e ▸ (unhide HBL).1)
    have hnep : p ≠ g2 := fun e => (unhide HBL).2 e.symm
    have hneg : g ≠ g2 := fun e => (unhide HX).1.sep g rfl (by rw [e]; rfl)
    have HK : Hid (∀ a1', R .normal a1' ((X.drew.setCell ⟨g2, y * 2, none⟩ (.bool bt)).setCell ⟨g2, y * 2 + 1, none⟩ (.slice va vl vc))) := fun a1' => by
      obtain ⟨hX, hE⟩ := unhide HX
      obtain ⟨r1, r2⟩ := unhide HFin
      obtain ⟨hO2, hgp⟩ := unhide HBL
      obtain ⟨hM4, hE4, hT4, h04, hbx4, hnb4, hlt4⟩ := unhide HM4
      obtain ⟨hb5, hB5, hs5⟩ := unhide HG5
      have hg5 := hM4.lt g2 hO2
      refine unhide HRR _ _ _ r2.size (fun q h6 h7 => ?_) (fun q h => h.elim) (.inl ⟨rfl, r1, hE.trans r2⟩)
      rw [Below.heap_setCell _ _ _ _ (by show q ≠ g2; omega), Below.heap_setCell _ _ _ _ (by show q ≠ g2; omega)]
      rfl
    clear HX HRR HFin HBL HM4 HG5 HGo HOk HT HS4 HNi2 HNe HNW HW5 HAll hlt
    dsimp only
    have q0 : ((X.drew.setCell ⟨g2, y * 2, none⟩ (.bool bt)).setCell ⟨g2, y * 2 + 1, none⟩ (.slice va vl vc)).cell? ⟨w.heap.size, 0, none⟩ = some (.pointer (some ⟨p, 0, none⟩)) := by rw [World.cell?_setCell_other _ _ _ _ (fun e => by injection e with e _ _; exact hneb e.symm), World.cell?_setCell_other _ _ _ _ (fun e => by injection e with e _ _; exact hneb e.symm)]; exact cbx
    have q1 : ((X.drew.setCell ⟨g2, y * 2, none⟩ (.bool bt)).setCell ⟨g2, y * 2 + 1, none⟩ (.slice va vl vc)).cell? ⟨p, 262, none⟩ = some (.slice (some ⟨g2, 0, none⟩) N c') := by rw [World.cell?_setCell_other _ _ _ _ (fun e => by injection e with e _ _; exact hnep e.symm), World.cell?_setCell_other _ _ _ _ (fun e => by injection e with e _ _; exact hnep e.symm)]; exact x262
    have q2 : ((X.drew.setCell ⟨g2, y * 2, none⟩ (.bool bt)).setCell ⟨g2, y * 2 + 1, none⟩ (.slice va vl vc)).cell? ⟨p, 263, none⟩ = some (.slice (some ⟨g, 0, none⟩) N c) := by rw [World.cell?_setCell_other _ _ _ _ (fun e => by injection e with e _ _; exact hnep e.symm), World.cell?_setCell_other _ _ _ _ (fun e => by injection e with e _ _; exact hnep e.symm)]; exact x263
    have q3 : ((X.drew.setCell ⟨g2, y * 2, none⟩ (.bool bt)).setCell ⟨g2, y * 2 + 1, none⟩ (.slice va vl vc)).cell? ⟨g, y * 2, none⟩ = some (.bool bt) := by rw [World.cell?_setCell_other _ _ _ _ (fun e => by injection e with e _ _; exact hneg e.symm), World.cell?_setCell_other _ _ _ _ (fun e => by injection e with e _ _; exact hneg e.symm)]; exact d0
    have q4 : ((X.drew.setCell ⟨g2, y * 2, none⟩ (.bool bt)).setCell ⟨g2, y * 2 + 1, none⟩ (.slice va vl vc)).cell? ⟨g, y * 2 + 1, none⟩ = some (.slice va vl vc) := by rw [World.cell?_setCell_other _ _ _ _ (fun e => by injection e with e _ _; exact hneg e.symm), World.cell?_setCell_other _ _ _ _ (fun e => by injection e with e _ _; exact hneg e.symm)]; exact d1
    gi_wp2_with fail
    refine region_round (S := fun W' => W'.cell? ⟨w.heap.size, 0, none⟩ = some (.pointer (some ⟨p, 0, none⟩)) ∧ W'.cell? ⟨p, 262, none⟩ = some (.slice (some ⟨g2, 0, none⟩) N c') ∧ W'.cell? ⟨p, 263, none⟩ = some (.slice (some ⟨g, 0, none⟩) N c) ∧ W'.cell? ⟨g, y * 2, none⟩ = some (.bool bt) ∧ W'.cell? ⟨g, y * 2 + 1, none⟩ = some (.slice va vl vc)) (by kernel_rfl) (by kernel_rfl) ⟨cbx, x262, x263, d0, d1⟩ (fun hH => ?_)
    refine wpAnyH_take (i := 0) (v := .pointer (some ⟨p, 0, none⟩)) rfl (by kernel_rfl) (by kernel_rfl) (by kernel_rfl) (fun _ _ _ h => h) (Or.inl ⟨by rfl, ?_⟩) hH ?_
    · intro w hSw; go_simp
    try simp only [Act.put, List.getElem_toArray, List.getElem_cons_zero, List.getElem_cons_succ, List.setIfInBounds_toArray, List.set_cons_zero, List.set_cons_succ]
    refine wpAnyH_take (i := 1) (v := .pointer (some ⟨p, 0, none⟩)) rfl (by kernel_rfl) (by kernel_rfl) (by kernel_rfl) (fun _ _ _ h => h) (Or.inl ⟨by rfl, ?_⟩) hH ?_
    · intro w hSw; go_simp
    try simp only [Act.put, List.getElem_toArray, List.getElem_cons_zero, List.getElem_cons_succ, List.setIfInBounds_toArray, List.set_cons_zero, List.set_cons_succ]
    refine wpAnyH_take (i := 2) (v := .pointer (some ⟨p, 262, none⟩)) rfl (by kernel_rfl) (by kernel_rfl) (by kernel_rfl) (fun _ _ _ h => h) (Or.inl ⟨by rfl, ?_⟩) hH ?_
    · intro w hSw; go_simp
    try simp only [Act.put, List.getElem_toArray, List.getElem_cons_zero, List.getElem_cons_succ, List.setIfInBounds_toArray, List.set_cons_zero, List.set_cons_succ]
    refine wpAnyH_take (i := 3) (v := (.slice (some ⟨g2, 0, none⟩) N c')) rfl (by kernel_rfl) (by kernel_rfl) (by kernel_rfl) (fun _ _ _ h => h) (Or.inl ⟨by rfl, ?_⟩) hH ?_
    · intro w hSw; go_simp
    try simp only [Act.put, List.getElem_toArray, List.getElem_cons_zero, List.getElem_cons_succ, List.setIfInBounds_toArray, List.set_cons_zero, List.set_cons_succ]
    refine wpAnyH_take (i := 4) (v := .int .i64 (y : Int)) rfl (by kernel_rfl) (by kernel_rfl) (by kernel_rfl) (fun _ _ _ h => h) (Or.inl ⟨by rfl, ?_⟩) hH ?_
    · intro w hSw; go_simp
    try simp only [Act.put, List.getElem_toArray, List.getElem_cons_zero, List.getElem_cons_succ, List.setIfInBounds_toArray, List.set_cons_zero, List.set_cons_succ]
    refine wpAnyH_take (i := 5) (v := .pointer (some ⟨p, 0, none⟩)) rfl (by kernel_rfl) (by kernel_rfl) (by kernel_rfl) (fun _ _ _ h => h) (Or.inl ⟨by rfl, ?_⟩) hH ?_
    · intro w hSw; go_simp
    try simp only [Act.put, List.getElem_toArray, List.getElem_cons_zero, List.getElem_cons_succ, List.setIfInBounds_toArray, List.set_cons_zero, List.set_cons_succ]
    refine wpAnyH_take (i := 6) (v := .pointer (some ⟨p, 0, none⟩)) rfl (by kernel_rfl) (by kernel_rfl) (by kernel_rfl) (fun _ _ _ h => h) (Or.inl ⟨by rfl, ?_⟩) hH ?_
    · intro w hSw; go_simp
    try simp only [Act.put, List.getElem_toArray, List.getElem_cons_zero, List.getElem_cons_succ, List.setIfInBounds_toArray, List.set_cons_zero, List.set_cons_succ]
    refine wpAnyH_take (i := 7) (v := .pointer (some ⟨p, 263, none⟩)) rfl (by kernel_rfl) (by kernel_rfl) (by kernel_rfl) (fun _ _ _ h => h) (Or.inl ⟨by rfl, ?_⟩) hH ?_
    · intro w hSw; go_simp
    try simp only [Act.put, List.getElem_toArray, List.getElem_cons_zero, List.getElem_cons_succ, List.setIfInBounds_toArray, List.set_cons_zero, List.set_cons_succ]
    refine wpAnyH_take (i := 8) (v := .slice (some ⟨g, 0, none⟩) N c) rfl (by kernel_rfl) (by kernel_rfl) (by kernel_rfl) (fun _ _ _ h => h) (Or.inl ⟨by rfl, ?_⟩) hH ?_
    · intro w hSw; go_simp
    try simp only [Act.put, List.getElem_toArray, List.getElem_cons_zero, List.getElem_cons_succ, List.setIfInBounds_toArray, List.set_cons_zero, List.set_cons_succ]
    refine wpAnyH_take (i := 9) (v := .int .i64 (y : Int)) rfl (by kernel_rfl) (by kernel_rfl) (by kernel_rfl) (fun _ _ _ h => h) (Or.inl ⟨by rfl, ?_⟩) hH ?_
    · intro w hSw; go_simp
    try simp only [Act.put, List.getElem_toArray, List.getElem_cons_zero, List.getElem_cons_succ, List.setIfInBounds_toArray, List.set_cons_zero, List.set_cons_succ]
    refine wpAnyH_take (i := 10) (v := .pointer (some ⟨g, y * 2, none⟩)) rfl (by kernel_rfl) (by kernel_rfl) (by kernel_rfl) (fun _ _ _ h => h) (Or.inl ⟨by rfl, ?_⟩) hH ?_
    · intro w hSw; go_simp
    try simp only [Act.put, List.getElem_toArray, List.getElem_cons_zero, List.getElem_cons_succ, List.setIfInBounds_toArray, List.set_cons_zero, List.set_cons_succ]
    refine wpAnyH_take (i := 11) (v := .agg #[.bool bt, .slice va vl vc]) rfl (by kernel_rfl) (by kernel_rfl) (by kernel_rfl) (fun _ _ _ h => h) (Or.inl ⟨by rfl, ?_⟩) hH ?_
    · intro w hSw; go_simp
    try simp only [Act.put, List.getElem_toArray, List.getElem_cons_zero, List.getElem_cons_succ, List.setIfInBounds_toArray, List.set_cons_zero, List.set_cons_succ]
    refine wpAnyH_take (i := 12) (v := .pointer (some ⟨g2, y * 2, none⟩)) rfl (by kernel_rfl) (by kernel_rfl) (by kernel_rfl) (fun _ _ _ h => h) (Or.inl ⟨by rfl, ?_⟩) hH ?_
    · intro w hSw; go_simp
    try simp only [Act.put, List.getElem_toArray, List.getElem_cons_zero, List.getElem_cons_succ, List.setIfInBounds_toArray, List.set_cons_zero, List.set_cons_succ]
    refine wpAnyH_ready (rs := [13]) (by kernel_rfl) (by simp) (AllReadyH.cons rfl (fun K hK => ?_) AllReadyH.nil)
    simp only [List.getElem_toArray, List.getElem_cons_zero, List.getElem_cons_succ]
    go_simp
    refine hK.out _ _ ⟨q0, q1, q2, q3, q4⟩ (fun hH2 => ?_)
    clear hK K
    try simp only [Act.put, List.getElem_toArray, List.getElem_cons_zero, List.getElem_cons_succ, List.setIfInBounds_toArray, List.set_cons_zero, List.set_cons_succ]
    refine wpAnyH_done (by kernel_rfl) ?_ _
    exact unhide HK _
  · rintro X ⟨hX, hE⟩ hd hlt
    have HX := hide (And.intro hX (And.intro hE (And.intro hd hlt)))
    have HCl := hide (pclear_ok hX)
    have cbx : X.cell? ⟨w.heap.size, 0, none⟩ = some (.pointer (some ⟨p, 0, none⟩)) := by
      obtain ⟨hM4, hE4, hT4, h04, hbx4, hnb4, hlt4⟩ := unhide HM4
      obtain ⟨hb5, hB5, hs5⟩ := unhide HG5
      exact bk_cell (t := 58) (by rw [hE.rest _ (by omega) (fun o => by rcases o with o | o; (have := hM4.pb.lt; omega); exact hnb4 o), hb5.block _ hlt4]; exact hbx4)
    clear hX hE hd hlt
    gi_wp2_with fail
    refine ⟨trivial, ?_⟩
    refine (callsIn_wide.2 (unhide HCl)).mono ?_
    rintro e X2 ⟨rfl, hM6, hE6⟩
    have H6 := hide (And.intro hM6 hE6)
    clear hM6 hE6
    gi_wp2_with fail
    obtain ⟨hX, hE, hd, hlt⟩ := unhide HX
    obtain ⟨hM6, hE6⟩ := unhide H6
    obtain ⟨hM4, hE4, hT4, h04, hbx4, hnb4, hlt4⟩ := unhide HM4
    obtain ⟨hb5, hB5, hs5⟩ := unhide HG5
    have hlo : ∀ q, Pown p O4 q → q < W4.heap.size := fun q o => o.elim (fun e => e ▸ hM4.pb.lt) (hM4.lt q)
    have a1 := hE.size
    have a2 := hE6.size
    refine Marks.leave (base := W5.heap.size) (hi := W5.heap.size + 1) _ _ ⟨W5.heap.size, rfl, Nat.le_refl _, by omega, ?_, trivial⟩ (fun V' hV => ⟨.tuple #[], by simp [results, Tryz.results78], rfl, O4, .slice a' N c', ?_, ?_⟩)
    · rw [hE6.rest _ (by omega) (fun o => by have := hlo _ o; omega)]; exact hd
    · have hSk : ({ S4 with dirty := fun _ => false } : Pgr) = S.keep := by rw [unhide HS4]; rfl
      rw [hSk] at hM6
      exact hM6.kept hV.size (fun q o => hV.block q (by have := hlo q o; omega) (by have := hlo q o; omega) (fun h => h))
    · have hE45 : FFr (Pown p O4) (Pown p O4) W4 W5 := ⟨hb5.os, hb5.tape, hb5.output, hb5.size, fun q h1 _ => hb5.block q h1, fun q o => .inl o⟩
      have hE1 := hE4.trans (hE45.trans (hE.trans hE6))
      have a4 := hE4.size
      exact ⟨hV.os.trans hE1.os, hV.tape.trans hE1.tape, hV.output.trans hE1.output, Nat.le_trans hE1.size hV.size, fun q h1 h2 => (hV.block q (by omega) (by omega) (fun h => h)).trans (hE1.rest q h1 h2), hE1.new⟩
  · intro X h; exact h.elim
end Go.Proofs.YtebcmicmklpflaaGreatDoor
