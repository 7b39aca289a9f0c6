/- Pages: Drop, where as many pages last as there are. -/
import Derived.Test.YtebcmicmklpflaaGreatDoorAa
import Derived.Test.YtebcmicmklpflaaGreatDoorPm
import Derived.Test.YtebcmicmklpflaaGreatDoorPt
namespace Go.Proofs.YtebcmicmklpflaaGreatDoor
open Go.RowKit Go.Shelf Go.Great Go.Maps
attribute [local go_sem] Oper.semAt_some
set_option linter.unusedSimpArgs false
/-- Some pages are what they were. -/
def dropL (S : Pgr) : List Nat → Pgr
  | [] => S
  | x :: xs => dropL (S.chg x (S.last[x]?.getD none)) xs
theorem dropL_last : ∀ (xs : List Nat) (S : Pgr), (dropL S xs).last = S.last
  | [], _ => rfl
  | x :: xs, S => dropL_last xs (S.chg x (S.last[x]?.getD none))
theorem dropL_dead : ∀ (xs : List Nat) (S : Pgr), (dropL S xs).dead = S.dead
  | [], _ => rfl
  | x :: xs, S => dropL_dead xs (S.chg x (S.last[x]?.getD none))
theorem dropL_snoc (x : Nat) : ∀ (xs : List Nat) (S : Pgr), dropL S (xs ++ [x]) = (dropL S xs).chg x (S.last[x]?.getD none)
  | [], _ => rfl
  | y :: ys, S => dropL_snoc x ys (S.chg y (S.last[y]?.getD none))
theorem dropL_now : ∀ (xs : List Nat) (S : Pgr), (dropL S xs).now = over S.last xs S.now
  | [], _ => rfl
  | x :: xs, S => dropL_now xs (S.chg x (S.last[x]?.getD none))
theorem mset_same {s : Nat → Bool} {n : Nat} (h : s n = true) : mset s n true = s := by
  funext i
  unfold mset
  split
  · rename_i e; rw [e, h]
  · rfl
theorem dropL_dirty : ∀ (xs : List Nat) (S : Pgr), (∀ x ∈ xs, S.dirty x = true) → (dropL S xs).dirty = S.dirty
  | [], _, _ => rfl
  | x :: xs, S, h => by
    have h1 : (S.chg x (S.last[x]?.getD none)).dirty = S.dirty := mset_same (h x (by simp))
    rw [dropL, dropL_dirty xs _ (fun y hy => by rw [h1]; exact h y (by simp [hy])), h1]
theorem dropL_len (xs : List Nat) (S : Pgr) : (dropL S xs).now.length = S.now.length := by rw [dropL_now, over_len]
theorem pchange_ok2 {w : World} {p : Nat} {F : Fl} {S : Pgr} {O : Nat → Prop} {lv nv : Value} (h : PgM w p F S O lv nv) (n : Nat) (hn : n < S.now.length) (d : Pge) (sv : Value) (hs : Rec w O sv (d.getD [])) :
    Calls Tryz.prog 76 #[.pointer (some ⟨p, 0, none⟩), .int .i64 (n : Int), .agg #[.bool d.isSome, sv]] w fun e w' => e = .returned (.tuple #[]) ∧ (PgM w' p F (S.chg n d) O lv nv ∧ FFr (Pown p O) (Pown p O) w w') ∧ ∀ q, q < w.heap.size → q ≠ p → nv.ownBlock ≠ some q → w'.heap[q]? = w.heap[q]? := by
  obtain ⟨g, c, x1, rfl, hOg, hvb, c0, c1, _, hz, ⟨cur, hcur⟩, _, _⟩ := h.rn.at hn
  have hgp : g ≠ p := fun e => h.np (e ▸ hOg)
  have hlen := h.len
  refine (change_raw p g n S.now.length c d.isSome sv _ _ w F lv S.free S.dirty S.dead h.pb hgp hn hlen c0 c1 hz hs.slice).mono ?_
  rintro e w' ⟨rfl, rfl⟩
  have hnp : ∀ q, O q → q ≠ p := fun q ho e => h.np (e ▸ ho)
  have hdat : ∀ q cur, O q → w.heap[q]? = some (.cells cur 5 (0, 0)) → (chgW w p g n d.isSome sv S.free S.dirty).heap[q]? = w.heap[q]? := fun q cu ho hq => by
    have hqg : q ≠ g := by
      rintro rfl
      rw [hcur] at hq
      injection hq with hq
      injection hq with _ hq _
      cases hq
    rw [chg_heap (h.lt q ho) (hnp q ho), Below.heap_setCell _ _ _ _ hqg, Below.heap_setCell _ _ _ _ hqg]
  refine ⟨rfl, ⟨⟨?_, ?_, ?_, h.sep, h.np, ?_, by simpa [Pgr.chg] using h.len⟩, ?_⟩, fun q h1 h2 h3 => ?_⟩
  · have hP1 := chg1_pb (n := n) (t := d.isSome) (sv := sv) h.pb hgp
    have hP1d := hP1.kept (w' := (chgW1 w g n d.isSome sv).drew) rfl
    exact (hP1d.setFree n (by omega) (!d.isSome)).setDirty n (by omega) true
  · refine h.rl.kept (fun _ o => o) (fun q e => ?_) hdat
    obtain ⟨vals, _, ho, _⟩ := h.rl
    have hqg : q ≠ g := fun e1 => h.sep g rfl (e1 ▸ e)
    rw [chg_heap (h.lt q (ho q e)) (hnp q (ho q e)), Below.heap_setCell _ _ _ _ hqg, Below.heap_setCell _ _ _ _ hqg]
  · exact h.rn.put hn hvb (fun _ o => o) (chg_heap (h.lt g hOg) hgp) hdat (hs.kept5 (fun _ o => o) hdat)
  · intro q ho
    have := h.lt q ho
    simp [chgW, chgW2, chgW1]
    omega
  · refine ⟨rfl, rfl, rfl, by simp [chgW, chgW2, chgW1], fun q h1 h2 => ?_, fun q hq => .inl hq⟩
    have hqp : q ≠ p := fun e => h2 (.inl e)
    have hqg : q ≠ g := fun e => h2 (.inr (e ▸ hOg))
    rw [chg_heap h1 hqp, Below.heap_setCell _ _ _ _ hqg, Below.heap_setCell _ _ _ _ hqg]
  · have hqg : q ≠ g := fun e => h3 (by rw [hvb, e])
    rw [chg_heap h1 h2, Below.heap_setCell _ _ _ _ hqg, Below.heap_setCell _ _ _ _ hqg]
theorem clear_empty (a : Option Addr) (c : Nat) (ty : TypeId) (w : World) : (Builtin.clear_ #[134] ty #[.slice a 0 c]).run Tryz.prog w = .ok (.tuple #[]) w := by
  cases a <;> simp [Builtin.clear_, run_underlying Tryz.underlying134, go_sem]
attribute [local go_sem] clear_empty
set_option maxRecDepth 20000 in
set_option maxHeartbeats 4000000 in
theorem pdrop_same {w : World} {p : Nat} {F : Fl} {S : Pgr} {O : Nat → Prop} {lv nv : Value} (h : PgM w p F S O lv nv) (hT : Tab w) (hp0 : p ≠ 0) (hO0 : ¬ O 0) (hok : S.Ok) (hl : S.last.length = S.now.length) (hpos : 0 < S.now.length) :
    Calls Tryz.prog 44 #[.pointer (some ⟨p, 0, none⟩)] w fun e w' => e = .returned (.tuple #[]) ∧ PgM w' p F { dropL S (lst S.dirty 0 16384) with dirty := fun _ => false } O lv nv ∧ FFr (Pown p O) (Pown p O) w w' := by
  refine (callsIn_wide (n := 3)).1 ?_
  refine callsIn_of_wp_marks Tryz.func44 rfl trivial ?_ rfl
  simp only [Tryz.ntmps44, List.size_toArray, List.length_cons, List.length_nil, Nat.reduceAdd, Nat.reduceSub, Array.replicate_succ, Array.replicate_zero, List.push_toArray, List.append_toArray, List.nil_append, List.cons_append]
  obtain ⟨la, lc, rfl, _, _⟩ := h.rl.shape
  obtain ⟨ng, nc, rfl, hncl⟩ : ∃ g c, nv = .slice (some ⟨g, 0, none⟩) S.now.length c ∧ S.now.length ≤ c := by
    obtain ⟨g, c, sv, e, _, _, _, _, _, _, _, h8, _⟩ := h.rn.at hpos
    exact ⟨g, c, e, h8⟩
  have c262 := h.last_at
  have c263 := h.now_at
  have hpl := h.pb.lt
  have HM := hide h
  have HT := hide (And.intro hT (And.intro hp0 (And.intro hO0 (And.intro hok hl))))
  have HAll := hide (all_ok p 520)
  clear h hT hp0 hO0 hok
  obtain ⟨N, hN⟩ : ∃ N, N = S.now.length := ⟨_, rfl⟩
  rw [hl] at c262
  rw [← hN] at c262 c263 hncl
  clear hpos
  have HNe := hide hN
  clear hN hl
  obtain ⟨W4, hW4⟩ : ∃ W4, W4 = (w.alloc (.cells #[.pointer (some ⟨p, 0, none⟩)] 58)).alloc (.cells #[.int .i64 (N : Int)] 3) := ⟨_, rfl⟩
  obtain ⟨W5, hW5⟩ : ∃ W5, W5 = W4.alloc (.cells #[.pointer (some ⟨p, 520, none⟩)] 154) := ⟨_, rfl⟩
  have HG : Hid (Below w.heap.size w W5 ∧ W5.heap[w.heap.size]? = some (.cells #[.pointer (some ⟨p, 0, none⟩)] 58) ∧ W5.heap[w.heap.size + 1]? = some (.cells #[.int .i64 (N : Int)] 3) ∧ W5.heap[w.heap.size + 1 + 1]? = some (.cells #[.pointer (some ⟨p, 520, none⟩)] 154) ∧ W5.heap.size = w.heap.size + 1 + 1 + 1) := by
    have h4 : Below w.heap.size w W4 := by rw [hW4]; exact ((Below.refl _ _).alloc (Nat.le_refl _) _).alloc (by simp) _
    have s4 : W4.heap.size = w.heap.size + 1 + 1 := by rw [hW4]; simp
    have h5 : Below W4.heap.size W4 W5 := by rw [hW5]; exact (Below.refl _ _).alloc (Nat.le_refl _) _
    refine ⟨h4.trans (h5.mono h4.size), ?_, ?_, ?_, by rw [hW5]; simp [s4]⟩
    · rw [h5.block _ (by omega), hW4]; exact heap_alloc_old2 w _ _
    · rw [h5.block _ (by omega), hW4]; exact heap_alloc_new2 w _ _
    · rw [hW5, ← s4]; exact World.alloc_heap_new W4 _
  have s4 : W4.heap.size = w.heap.size + 1 + 1 := by rw [hW4]; simp
  have HA5 : Hid (Calls Tryz.prog 92 #[.pointer (some ⟨p, 520, none⟩)] W4 fun e w' => e = .returned (.func (.func 123) #[] #[.pointer (some ⟨w.heap.size + 1 + 1, 0, none⟩)]) ∧ w' = W5) := by
    rw [hW5, ← s4]; exact unhide HAll W4
  rw [hW4] at HA5
  clear HAll s4 hW5 hW4
  gi_wp2_with fail
  refine ⟨trivial, ?_⟩
  refine (callsIn_wide.2 (unhide HA5)).mono ?_
  rintro e W5' ⟨rfl, hW5⟩
  subst hW5
  clear HA5
  gi_wp2_with fail
  have HGo := hide (all_iter S.dirty p 520 (w.heap.size + 1 + 1) W5')
  refine range_iter (N := 3) (unhide HGo) enters123 Leave.ret (fun x => { tmps := #[.pointer (some ⟨p, 0, none⟩), .pointer (some ⟨w.heap.size, 0, none⟩), .pointer (some ⟨w.heap.size + 1, 0, none⟩), .int .i64 (x : Int), .pointer (some ⟨p, 0, none⟩), .bool false, .pointer (some ⟨p, 0, none⟩), .pointer (some ⟨p, 0, none⟩), .pointer (some ⟨p, 262, none⟩), .slice la N lc, .int .i64 (N : Int), .pointer (some ⟨p, 0, none⟩), .pointer (some ⟨p, 0, none⟩), .pointer (some ⟨p, 520, none⟩), .func (.func 123) #[] #[.pointer (some ⟨w.heap.size + 1 + 1, 0, none⟩)], .int .i64 (x : Int), undef, undef, undef, undef, undef, undef, undef, undef, undef, undef, undef, undef, undef, undef, undef, undef, undef, undef, undef, undef, undef, undef, undef, undef, undef, undef, undef, undef, undef, undef, undef, undef, undef, undef, undef, undef, undef], defers := [] })
    (fun i X => PgM X p F (dropL S ((lst S.dirty 0 16384).take i)) O (.slice la N lc) (.slice (some ⟨ng, 0, none⟩) N nc) ∧ FFr (Pown p O) (Pown p O) W5' X)
    (fun _ => False) rfl ?_ ?_ ?_ ?_ ?_ ?_ ?_ ?_ ?_
  · intro q h; exact h.elim
  · rintro i X ⟨hX, hE⟩
    obtain ⟨hb5, x1, x2, x3, hs5⟩ := unhide HG
    obtain ⟨hT, hp0, hO0, hok, hl⟩ := unhide HT
    have hM := unhide HM
    refine ⟨bk_cell (t := 154) ?_, ?_, ?_⟩
    · rw [hE.rest _ (by omega) (fun o => by rcases o with o | o; (have := hM.pb.lt; omega); (have := hM.lt _ o; omega))]; exact x3
    · have := hT.lt
      exact hT.kept (by rw [hE.rest 0 (by omega) (fun o => o.elim (fun e => hp0 e.symm) hO0), hb5.block 0 this])
    · have h9 := hX.pb.words_dirty
      rw [dropL_dirty _ _ (fun x hx => ((lst_mem 16384 0).1 (List.mem_of_mem_take hx)).2.2)] at h9
      exact h9
  · obtain ⟨hb5, x1, x2, x3, hs5⟩ := unhide HG
    have hM := unhide HM
    have hNe := unhide HNe
    obtain ⟨hT, hp0, hO0, hok, hl⟩ := unhide HT
    rw [hl, ← hNe] at hM
    exact ⟨hM.below hb5, FFr.refl _ _⟩
  · rintro i X X' ⟨hX, hE⟩ hI
    obtain ⟨hb5, x1, x2, x3, hs5⟩ := unhide HG
    have hM := unhide HM
    have hE' := hE.size
    refine ⟨hX.kept hI.size (fun q o => ?_), ⟨hI.os.trans hE.os, hI.tape.trans hE.tape, hI.output.trans hE.output, Nat.le_trans hE.size hI.size, fun q h1 h2 => ?_, fun q o => .inl o⟩⟩
    · have hq : q < W5'.heap.size := by
        rcases o with o | o
        · have := hM.pb.lt; omega
        · have := hM.lt q o; omega
      exact hI.block q hq (by omega) (fun h => h)
    · rw [hI.block q h1 (by omega) (fun h => h)]; exact hE.rest q h1 h2
  · intro V V' h; exact h.elim
  · intro l' x X K' hK'
    gi_wp2_with fail
    exact hK'
  · rintro l' i X R hi ⟨hX, hE⟩ hlt hR
    obtain ⟨hb5, x1, x2, x3, hs5⟩ := unhide HG
    obtain ⟨hT, hp0, hO0, hok, hl⟩ := unhide HT
    have hM := unhide HM
    have hNe := unhide HNe
    have hE' := hE.size
    have hxm := (lst_mem (s := S.dirty) 16384 0).1 (List.getElem_mem hi)
    have hxlt := hok.dlt _ hxm.2.2
    obtain ⟨y, hy⟩ : ∃ y, y = (lst S.dirty 0 16384)[i] := ⟨_, rfl⟩
    obtain ⟨Di, hDi⟩ : ∃ Di, Di = dropL S ((lst S.dirty 0 16384).take i) := ⟨_, rfl⟩
    rw [← hy] at hxlt ⊢
    rw [← hDi] at hX
    have hDl : Di.last = S.last := by rw [hDi, dropL_last]
    have hDn : Di.now.length = S.now.length := by rw [hDi, dropL_len]
    have hyn : y < Di.now.length := by omega
    have hyl : y < Di.last.length := by rw [hDl]; omega
    have hnp : ¬ Pown p O w.heap.size ∧ ¬ Pown p O (w.heap.size + 1) := ⟨fun o => by rcases o with o | o; (have := hM.pb.lt; omega); (have := hM.lt _ o; omega), fun o => by rcases o with o | o; (have := hM.pb.lt; omega); (have := hM.lt _ o; omega)⟩
    have b1 : X.heap[w.heap.size]? = some (.cells #[.pointer (some ⟨p, 0, none⟩)] 58) := by rw [hE.rest _ (by omega) hnp.1]; exact x1
    have b2 : X.heap[w.heap.size + 1]? = some (.cells #[.int .i64 (N : Int)] 3) := by rw [hE.rest _ (by omega) hnp.2]; exact x2
    obtain ⟨g2, c2, sv, e2, hO2, hb2', f0, f1, hrec, hz2, hcur2, _, _⟩ := hX.rl.at hyl
    injection e2 with e2 e2n e2c
    clear e2n e2c
    subst e2
    have x262 : X.cell? ⟨p, 262, none⟩ = some (.slice (some ⟨g2, 0, none⟩) N lc) := hX.last_at
    obtain ⟨va, vl, vc, hsv⟩ := hrec.slice
    subst hsv
    have cb1 := bk_cell b1
    have cb2 := bk_cell b2
    have hyi : (y : Int) < (N : Int) := by omega
    have hd9 : Di.last[y] = S.last[y]?.getD none := by
      have : S.last[y]? = some Di.last[y] := by rw [← hDl]; exact List.getElem?_eq_getElem hyl
      rw [this]; rfl
    obtain ⟨dd, hdd⟩ : ∃ dd, dd = Di.last[y] := ⟨_, rfl⟩
    rw [← hdd] at f0 hrec hd9
    obtain ⟨bt, hbt⟩ : ∃ bt, bt = dd.isSome := ⟨_, rfl⟩
    have hXd : PgM X.drew p F Di O (.slice (some ⟨g2, 0, none⟩) N lc) (.slice (some ⟨ng, 0, none⟩) N nc) := hX.kept (Nat.le_refl _) (fun _ _ => rfl)
    have hgl := hX.lt g2 hO2
    have hgp : g2 ≠ p := fun e => hX.np (e ▸ hO2)
    have hgn : (Value.slice (some ⟨ng, 0, none⟩) N nc).ownBlock ≠ some g2 := fun e => hX.sep g2 e hb2'
    have hpX := hX.pb.lt
    have HC : Hid (Calls Tryz.prog 76 #[.pointer (some ⟨p, 0, none⟩), .int .i64 (y : Int), .agg #[.bool bt, .slice va vl vc]] X.drew fun e w' => e = .returned (.tuple #[]) ∧ (w'.cell? ⟨w.heap.size, 0, none⟩ = some (.pointer (some ⟨p, 0, none⟩)) ∧ w'.cell? ⟨p, 262, none⟩ = some (.slice (some ⟨g2, 0, none⟩) N lc) ∧ w'.cell? ⟨g2, y * 2, none⟩ = some (.bool bt) ∧ w'.cell? ⟨g2, y * 2 + 1, none⟩ = some (.slice va vl vc)) ∧ Hid (∀ a1', R .normal a1' w')) := by
      rw [hbt]
      refine (pchange_ok2 hXd y hyn dd (.slice va vl vc) (hrec.kept (fun _ o => o) (fun _ _ => rfl))).mono fun e w' ⟨e1, ⟨hM', hE1⟩, hk⟩ => ⟨e1, ⟨?_, hM'.last_at, ?_, ?_⟩, fun a1' => ?_⟩
      · exact bk_cell (t := 58) (by rw [hE1.rest _ (by show w.heap.size < X.heap.size; omega) hnp.1]; exact b1)
      · rw [World.cell?_of_block (w := X.drew) (a := ⟨g2, y * 2, none⟩) (hk g2 hgl hgp hgn)]; exact f0
      · rw [World.cell?_of_block (w := X.drew) (a := ⟨g2, y * 2 + 1, none⟩) (hk g2 hgl hgp hgn)]; exact f1
      · refine hR _ _ _ hE1.size (fun q h6 h7 => hE1.rest q h7 (fun o => ?_)) (fun q h => h.elim) (.inl ⟨rfl, ?_, ?_⟩)
        · rcases o with o | o
          · have := hM.pb.lt; omega
          · have := hM.lt _ o; omega
        · have ht : (lst S.dirty 0 16384).take (i + 1) = (lst S.dirty 0 16384).take i ++ [y] := by rw [hy]; exact List.take_succ_eq_append_getElem hi
          rw [ht, dropL_snoc, ← hDi, ← hd9]
          exact hM'
        · exact hE.trans ⟨hE1.os, hE1.tape, hE1.output, hE1.size, fun q h1 h2 => hE1.rest q h1 h2, fun q o => hE1.new q o⟩
    have hS1 : X.drew.cell? ⟨w.heap.size, 0, none⟩ = some (.pointer (some ⟨p, 0, none⟩)) ∧ X.drew.cell? ⟨p, 262, none⟩ = some (.slice (some ⟨g2, 0, none⟩) N lc) ∧ X.drew.cell? ⟨g2, y * 2, none⟩ = some (.bool bt) ∧ X.drew.cell? ⟨g2, y * 2 + 1, none⟩ = some (.slice va vl vc) := ⟨cb1, x262, by rw [hbt]; exact f0, f1⟩
    have hyb : decide ((y : Int) < (N : Int)) = true := by simpa using hyi
    clear hX hE hR hb5 x1 x2 x3 hs5 hT hp0 hO0 hok hl hM hNe hE' hxm hxlt hDi hDl hDn hyn hyl hnp b1 b2 hrec hz2 hcur2 hb2' hd9 hdd hXd hgl hgp hgn hpX hbt hy hlt hO2
    clear HG HT HM HNe HGo
    gi_wp2_with fail
    refine region_round (S := fun W' => W'.cell? ⟨w.heap.size, 0, none⟩ = some (.pointer (some ⟨p, 0, none⟩)) ∧ W'.cell? ⟨p, 262, none⟩ = some (.slice (some ⟨g2, 0, none⟩) N lc) ∧ W'.cell? ⟨g2, y * 2, none⟩ = some (.bool bt) ∧ W'.cell? ⟨g2, y * 2 + 1, none⟩ = some (.slice va vl vc)) (by kernel_rfl) (by kernel_rfl) hS1 (fun hH => ?_)
    refine wpAnyH_take (i := 0) (v := .pointer (some ⟨p, 0, none⟩)) rfl (by kernel_rfl) (by kernel_rfl) (by kernel_rfl) (fun _ _ _ h => h) (Or.inl ⟨by rfl, ?_⟩) hH ?_
    · intro w hSw; go_simp
    try simp only [Act.put, List.getElem_toArray, List.getElem_cons_zero, List.getElem_cons_succ, List.setIfInBounds_toArray, List.set_cons_zero, List.set_cons_succ]
    refine wpAnyH_take (i := 1) (v := .int .i64 (y : Int)) rfl (by kernel_rfl) (by kernel_rfl) (by kernel_rfl) (fun _ _ _ h => h) (Or.inl ⟨by rfl, ?_⟩) hH ?_
    · intro w hSw; go_simp
    try simp only [Act.put, List.getElem_toArray, List.getElem_cons_zero, List.getElem_cons_succ, List.setIfInBounds_toArray, List.set_cons_zero, List.set_cons_succ]
    refine wpAnyH_take (i := 2) (v := .pointer (some ⟨p, 0, none⟩)) rfl (by kernel_rfl) (by kernel_rfl) (by kernel_rfl) (fun _ _ _ h => h) (Or.inl ⟨by rfl, ?_⟩) hH ?_
    · intro w hSw; go_simp
    try simp only [Act.put, List.getElem_toArray, List.getElem_cons_zero, List.getElem_cons_succ, List.setIfInBounds_toArray, List.set_cons_zero, List.set_cons_succ]
    refine wpAnyH_take (i := 3) (v := .pointer (some ⟨p, 0, none⟩)) rfl (by kernel_rfl) (by kernel_rfl) (by kernel_rfl) (fun _ _ _ h => h) (Or.inl ⟨by rfl, ?_⟩) hH ?_
    · intro w hSw; go_simp
    try simp only [Act.put, List.getElem_toArray, List.getElem_cons_zero, List.getElem_cons_succ, List.setIfInBounds_toArray, List.set_cons_zero, List.set_cons_succ]
    refine wpAnyH_take (i := 4) (v := .pointer (some ⟨p, 262, none⟩)) rfl (by kernel_rfl) (by kernel_rfl) (by kernel_rfl) (fun _ _ _ h => h) (Or.inl ⟨by rfl, ?_⟩) hH ?_
    · intro w hSw; go_simp
    try simp only [Act.put, List.getElem_toArray, List.getElem_cons_zero, List.getElem_cons_succ, List.setIfInBounds_toArray, List.set_cons_zero, List.set_cons_succ]
    refine wpAnyH_take (i := 5) (v := .slice (some ⟨g2, 0, none⟩) N lc) rfl (by kernel_rfl) (by kernel_rfl) (by kernel_rfl) (fun _ _ _ h => h) (Or.inl ⟨by rfl, ?_⟩) hH ?_
    · intro w hSw; go_simp
    try simp only [Act.put, List.getElem_toArray, List.getElem_cons_zero, List.getElem_cons_succ, List.setIfInBounds_toArray, List.set_cons_zero, List.set_cons_succ]
    refine wpAnyH_take (i := 6) (v := .int .i64 (y : Int)) rfl (by kernel_rfl) (by kernel_rfl) (by kernel_rfl) (fun _ _ _ h => h) (Or.inl ⟨by rfl, ?_⟩) hH ?_
    · intro w hSw; go_simp
    try simp only [Act.put, List.getElem_toArray, List.getElem_cons_zero, List.getElem_cons_succ, List.setIfInBounds_toArray, List.set_cons_zero, List.set_cons_succ]
    refine wpAnyH_take (i := 7) (v := .pointer (some ⟨g2, y * 2, none⟩)) rfl (by kernel_rfl) (by kernel_rfl) (by kernel_rfl) (fun _ _ _ h => h) (Or.inl ⟨by rfl, ?_⟩) hH ?_
    · intro w hSw; go_simp
    try simp only [Act.put, List.getElem_toArray, List.getElem_cons_zero, List.getElem_cons_succ, List.setIfInBounds_toArray, List.set_cons_zero, List.set_cons_succ]
    refine wpAnyH_take (i := 8) (v := .agg #[.bool bt, .slice va vl vc]) rfl (by kernel_rfl) (by kernel_rfl) (by kernel_rfl) (fun _ _ _ h => h) (Or.inl ⟨by rfl, ?_⟩) hH ?_
    · intro w hSw; go_simp
    try simp only [Act.put, List.getElem_toArray, List.getElem_cons_zero, List.getElem_cons_succ, List.setIfInBounds_toArray, List.set_cons_zero, List.set_cons_succ]
    refine wpAnyH_ready (rs := [9]) (by kernel_rfl) (by simp) (AllReadyH.cons rfl (fun K hK => ?_) AllReadyH.nil)
    simp only [List.getElem_toArray, List.getElem_cons_zero, List.getElem_cons_succ]
    go_simp
    refine (unhide HC).mono ?_
    rintro e w' ⟨rfl, hSS, HP⟩
    refine hK.out _ _ hSS (fun hH3 => ?_)
    clear hK K
    try simp only [Act.put, List.getElem_toArray, List.getElem_cons_zero, List.getElem_cons_succ, List.setIfInBounds_toArray, List.set_cons_zero, List.set_cons_succ]
    refine wpAnyH_done (by kernel_rfl) ?_ _
    exact unhide HP _
  · rintro X ⟨hX, hE⟩ hd hlt
    obtain ⟨hb5, x1, x2, x3, hs5⟩ := unhide HG
    have hM := unhide HM
    have hE' := hE.size
    have hnp : ¬ Pown p O w.heap.size ∧ ¬ Pown p O (w.heap.size + 1) := ⟨fun o => by rcases o with o | o; (have := hM.pb.lt; omega); (have := hM.lt _ o; omega), fun o => by rcases o with o | o; (have := hM.pb.lt; omega); (have := hM.lt _ o; omega)⟩
    have b1 : X.heap[w.heap.size]? = some (.cells #[.pointer (some ⟨p, 0, none⟩)] 58) := by rw [hE.rest _ (by omega) hnp.1]; exact x1
    have b2 : X.heap[w.heap.size + 1]? = some (.cells #[.int .i64 (N : Int)] 3) := by rw [hE.rest _ (by omega) hnp.2]; exact x2
    have cb1 := bk_cell b1
    have cb2 := bk_cell b2
    rw [List.take_length] at hX
    have x263 := hX.now_at
    have z263 := hX.pb.frozen 263
    have HX := hide (And.intro hX (And.intro hE (And.intro hd hlt)))
    have hNi : (0 : Int) ≤ (N : Int) := by omega
    have hNl : (N : Int) ≤ 16384 := by have := hX.len; rw [dropL_len] at this; have := unhide HNe; omega
    clear hb5 x1 x2 x3 hs5 hM hE' hnp b1 b2 hX hE hd hlt
    dsimp only
    gi_wp2_with fail
    refine wpIn_wide.2 ?_
    have e1 : X.drew.cell? ⟨w.heap.size, 0, none⟩ = some (.pointer (some ⟨p, 0, none⟩)) := cb1
    have e2 : X.drew.cell? ⟨w.heap.size + 1, 0, none⟩ = some (.int .i64 (N : Int)) := cb2
    have e3 : X.drew.cell? ⟨p, 263, none⟩ = some (.slice (some ⟨ng, 0, none⟩) N nc) := x263
    have z3 : X.drew.frozen? ⟨p, 263, none⟩ = false := z263
    have HCl : Hid (Calls Tryz.prog 94 #[.pointer (some ⟨p, 520, none⟩)] (X.setCell ⟨p, 263, none⟩ (.slice (some ⟨ng, 0, none⟩) N nc)).drew.drew fun e w' => e = .returned (.tuple #[]) ∧ Hid (PgM w' p F { dropL S (lst S.dirty 0 16384) with dirty := fun _ => false } O (.slice la S.last.length lc) (.slice (some ⟨ng, 0, none⟩) S.now.length nc) ∧ FFr (Pown p O) (Pown p O) X w' ∧ w'.heap[W5'.heap.size]? = some (.deferred (some [])))) := by
      obtain ⟨hX, hE, hd, hlt⟩ := unhide HX
      obtain ⟨hb5, x1, x2, x3, hs5⟩ := unhide HG
      have hM := unhide HM
      obtain ⟨hT, hp0, hO0, hok, hl⟩ := unhide HT
      have hNe := unhide HNe
      rw [setCell_id x263]
      have hXd : PgM X.drew.drew p F (dropL S (lst S.dirty 0 16384)) O (.slice la N lc) (.slice (some ⟨ng, 0, none⟩) N nc) := hX.kept (Nat.le_refl _) (fun _ _ => rfl)
      refine (pclear_ok hXd).mono fun e w' ⟨e1, hM', hE1⟩ => ⟨e1, ?_, ⟨hE1.os, hE1.tape, hE1.output, hE1.size, fun q h1 h2 => hE1.rest q h1 h2, fun q o => hE1.new q o⟩, ?_⟩
      · rw [hl, ← hNe]; exact hM'
      · rw [hE1.rest _ (by show W5'.heap.size < X.heap.size; omega) (fun o => by rcases o with o | o; (have := hM.pb.lt; omega); (have := hM.lt _ o; omega))]
        exact hd
    by_cases hcN : N = nc
    · subst hcN
      apply one_way
      rotate_left
      · intro key
        refine wp_region_noPanic ?_
        go_region_law (fail)
        all_goals exact NoPanic.normal (unhide key)
      gi_wp2_with fail
      refine wpIn_wide.2 ?_
      apply one_way
      rotate_left
      · intro key
        refine wp_region_noPanic ?_
        go_region_law (fail)
        all_goals exact NoPanic.normal (unhide key)
      gi_wp2_with fail
      refine ⟨trivial, ?_⟩
      refine (callsIn_wide.2 (unhide HCl)).mono ?_
      rintro e X4 ⟨rfl, HF⟩
      gi_wp2_with fail
      obtain ⟨hM', hE4, hd4⟩ := unhide HF
      obtain ⟨hb5, x1, x2, x3, hs5⟩ := unhide HG
      obtain ⟨hX, hE, hd, hlt⟩ := unhide HX
      have hM := unhide HM
      have hs4 := hE4.size
      refine Marks.leave (base := W5'.heap.size) (hi := W5'.heap.size + 1) _ _ ⟨W5'.heap.size, rfl, Nat.le_refl _, by omega, hd4, trivial⟩ (fun V' hV => ⟨.tuple #[], by simp [results, Tryz.results44], rfl, ?_⟩)
      have hk : ∀ q, Pown p O q → V'.heap[q]? = X4.heap[q]? := fun q o => by
        have hq : q < W5'.heap.size := by
          rcases o with o | o
          · have := hM.pb.lt; omega
          · have := hM.lt q o; omega
        exact hV.block q hq (by omega) (fun h => h)
      refine ⟨hM'.kept hV.size hk, hV.os.trans (hE4.os.trans (hE.os.trans hb5.os)), hV.tape.trans (hE4.tape.trans (hE.tape.trans hb5.tape)), hV.output.trans (hE4.output.trans (hE.output.trans hb5.output)), by have := hV.size; omega, fun q h1 h2 => ?_, fun q o => .inl o⟩
      rw [hV.block q (by omega) (by omega) (fun h => h), hE4.rest q (by show q < X.heap.size; omega) h2, hE.rest q (by omega) h2, hb5.block q h1]
    · have hcN2 : N < nc := by omega
      apply one_way
      rotate_left
      · intro key
        refine wp_region_noPanic ?_
        go_region_law (fail)
        all_goals exact NoPanic.normal (unhide key)
      gi_wp2_with fail
      refine wpIn_wide.2 ?_
      apply one_way
      rotate_left
      · intro key
        refine wp_region_noPanic ?_
        go_region_law (fail)
        all_goals exact NoPanic.normal (unhide key)
      gi_wp2_with fail
      refine ⟨trivial, ?_⟩
      refine (callsIn_wide.2 (unhide HCl)).mono ?_
      rintro e X4 ⟨rfl, HF⟩
      gi_wp2_with fail
      obtain ⟨hM', hE4, hd4⟩ := unhide HF
      obtain ⟨hb5, x1, x2, x3, hs5⟩ := unhide HG
      obtain ⟨hX, hE, hd, hlt⟩ := unhide HX
      have hM := unhide HM
      have hs4 := hE4.size
      refine Marks.leave (base := W5'.heap.size) (hi := W5'.heap.size + 1) _ _ ⟨W5'.heap.size, rfl, Nat.le_refl _, by omega, hd4, trivial⟩ (fun V' hV => ⟨.tuple #[], by simp [results, Tryz.results44], rfl, ?_⟩)
      have hk : ∀ q, Pown p O q → V'.heap[q]? = X4.heap[q]? := fun q o => by
        have hq : q < W5'.heap.size := by
          rcases o with o | o
          · have := hM.pb.lt; omega
          · have := hM.lt q o; omega
        exact hV.block q hq (by omega) (fun h => h)
      refine ⟨hM'.kept hV.size hk, hV.os.trans (hE4.os.trans (hE.os.trans hb5.os)), hV.tape.trans (hE4.tape.trans (hE.tape.trans hb5.tape)), hV.output.trans (hE4.output.trans (hE.output.trans hb5.output)), by have := hV.size; omega, fun q h1 h2 => ?_, fun q o => .inl o⟩
      rw [hV.block q (by omega) (by omega) (fun h => h), hE4.rest q (by show q < X.heap.size; omega) h2, hE.rest q (by omega) h2, hb5.block q h1]
  · intro X h; exact h.elim
end Go.Proofs.YtebcmicmklpflaaGreatDoor
