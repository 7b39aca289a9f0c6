/- Pages: keep, where there is no page. -/
import Derived.Test.YtebcmicmklpflaaGreatDoorPr
import Derived.Deep.RegionHeld3
namespace Go.Proofs.YtebcmicmklpflaaGreatDoor
open Go.RowKit Go.Shelf Go.Great Go.Maps
attribute [local go_sem] Oper.semAt_some
set_option linter.unusedSimpArgs false
theorem appP_none (ty : TypeId) (w : World) : (appP ty #[.slice none 0 0, .slice none 0 0]).run Tryz.prog w = .ok (.slice none 0 0) w := by
  obtain ⟨i, z, hi, hz, hsz, hby, hzs⟩ := info145
  simp [appP, Builtin.append_, run_underlying Tryz.underlying134, sizeOf, typeInfo, hi, Builtin.lenOf, Builtin.firstCells, loadCells, loadCellsFrom, storeCells]
theorem lst_none (a : Nat) : ∀ n, lst (fun _ => false) a n = []
  | 0 => rfl
  | n + 1 => by
    simp only [lst]
    exact (lst_none (a + 1) n)
set_option maxRecDepth 20000 in
set_option maxHeartbeats 4000000 in
theorem pkeep_none {w : World} {p : Nat} {F : Fl} {S : Pgr} {O : Nat → Prop} (h : PgM w p F S O (.slice none 0 0) (.slice none 0 0)) (hT : Tab w) (hd : S.dirty = fun _ => false) :
    Calls Tryz.prog 78 #[.pointer (some ⟨p, 0, none⟩)] w fun e w' => e = .returned (.tuple #[]) ∧ PgM w' p F S O (.slice none 0 0) (.slice none 0 0) ∧ FFr (Pown p O) (Pown p O) w w' := by
  refine (callsIn_wide (n := 3)).1 ?_
  refine callsIn_of_wp_marks Tryz.func78 rfl trivial ?_ rfl
  simp only [Tryz.ntmps78, List.size_toArray, List.length_cons, List.length_nil, Nat.reduceAdd, Nat.reduceSub, Array.replicate_succ, Array.replicate_zero, List.push_toArray, List.append_toArray, List.nil_append, List.cons_append]
  obtain ⟨W1, hW1⟩ : ∃ W1, W1 = (w.alloc (.cells #[.pointer (some ⟨p, 0, none⟩)] 58)).drew := ⟨_, rfl⟩
  have hb1 : Below w.heap.size w W1 := by rw [hW1]; exact ((Below.refl _ _).alloc (Nat.le_refl _) _).drew
  have hM1 := h.below hb1
  have hbx : W1.heap[w.heap.size]? = some (.cells #[.pointer (some ⟨p, 0, none⟩)] 58) := by rw [hW1]; exact World.alloc_heap_new w _
  have hs1 : W1.heap.size = w.heap.size + 1 := by rw [hW1]; exact World.size_alloc w _
  have c262 := h.last_at
  have c263 := h.now_at
  have hpl := h.pb.lt
  have hne : ¬ w.heap.size = p := by omega
  have l0 : (w.alloc (.cells #[.pointer (some ⟨p, 0, none⟩)] 58)).drew.cell? ⟨w.heap.size, 0, none⟩ = some (.pointer (some ⟨p, 0, none⟩)) := by rw [← hW1]; exact bk_cell hbx
  have l1 : (w.alloc (.cells #[.pointer (some ⟨p, 0, none⟩)] 58)).drew.cell? ⟨p, 262, none⟩ = some (.slice none 0 0) := by rw [← hW1]; exact hM1.last_at
  have l2 : (w.alloc (.cells #[.pointer (some ⟨p, 0, none⟩)] 58)).drew.cell? ⟨p, 263, none⟩ = some (.slice none 0 0) := by rw [← hW1]; exact hM1.now_at
  have z1 : (w.alloc (.cells #[.pointer (some ⟨p, 0, none⟩)] 58)).drew.frozen? ⟨p, 262, none⟩ = false := by rw [← hW1]; exact hM1.pb.frozen _
  have i1 := setCell_id l1
  have hap := appP_none
  have HM := hide (And.intro h (And.intro hM1 (And.intro hb1 (And.intro hbx hs1))))
  have HW1 := hide hW1
  have HT := hide hT
  have HD := hide hd
  clear h hM1 hb1 hbx hT hd hW1 hs1
  gi_wp2_with fail
  refine wpIn_wide.2 ?_
  go_region_held3 (fun W' => W'.cell? ⟨w.heap.size, 0, none⟩ = some (.pointer (some ⟨p, 0, none⟩)) ∧ W'.cell? ⟨p, 262, none⟩ = some (.slice none 0 0) ∧ W'.cell? ⟨p, 263, none⟩ = some (.slice none 0 0)) (go_keep) (fail)
  rw [← unhide HW1]
  have HAll := hide (all_ok p 520)
  have cb : W1.cell? ⟨w.heap.size, 0, none⟩ = some (.pointer (some ⟨p, 0, none⟩)) := bk_cell (unhide HM).2.2.2.1
  clear l0 l1 l2 z1 i1 hap c262 c263
  gi_wp2_with fail
  refine ⟨trivial, ?_⟩
  refine (callsIn_wide.2 (unhide HAll _)).mono ?_
  rintro e W5 ⟨rfl, hW5⟩
  have hb5 : Below W1.heap.size W1 W5 := by rw [hW5]; exact (Below.refl _ _).alloc (Nat.le_refl _) _
  have hB5 : W5.heap[W1.heap.size]? = some (.cells #[.pointer (some ⟨p, 520, none⟩)] 154) := by rw [hW5]; exact World.alloc_heap_new W1 _
  have hs5 : W5.heap.size = W1.heap.size + 1 := by rw [hW5]; simp
  have HG5 := hide (And.intro hb5 (And.intro hB5 hs5))
  clear hb5 hB5 hs5 hW5
  gi_wp2_with fail
  have HGo := hide (all_iter S.dirty p 520 W1.heap.size W5)
  have hnil : (lst S.dirty 0 16384).length = 0 := by rw [unhide HD, lst_none]; rfl
  have HNil := hide hnil
  clear hnil
  refine range_iter (N := 3) (unhide HGo) enters123 Leave.ret (fun x => { tmps := #[.pointer (some ⟨p, 0, none⟩), .pointer (some ⟨w.heap.size, 0, none⟩), .int .i64 (x : Int), .pointer (some ⟨p, 0, none⟩), .pointer (some ⟨p, 0, none⟩), .pointer (some ⟨p, 0, none⟩), .pointer (some ⟨p, 262, none⟩), .slice none 0 0, .pointer (some ⟨p, 0, none⟩), .pointer (some ⟨p, 0, none⟩), .pointer (some ⟨p, 263, none⟩), .slice none 0 0, .pointer (some ⟨p, 0, none⟩), .pointer (some ⟨p, 0, none⟩), .pointer (some ⟨p, 262, none⟩), .slice none 0 0, .int .i64 0, .slice none 0 0, .slice none 0 0, .pointer (some ⟨p, 0, none⟩), .pointer (some ⟨p, 262, none⟩), .pointer (some ⟨p, 0, none⟩), .pointer (some ⟨p, 0, none⟩), .pointer (some ⟨p, 520, none⟩), .func (.func 123) #[] #[.pointer (some ⟨W1.heap.size, 0, none⟩)], .int .i64 (x : Int), undef, undef, undef, undef, undef, undef, undef, undef, undef, undef, undef, undef, undef, undef, undef, undef, undef], defers := [] })
    (fun _ X => Its W5.heap.size (fun _ => False) W5 X) (fun _ => False) rfl ?_ ?_ ?_ ?_ ?_ ?_ ?_ ?_ ?_
  · intro q h; exact h.elim
  · rintro i X hX
    obtain ⟨h, hM1, hb1, hbx, hs1⟩ := unhide HM
    obtain ⟨hb5, hB5, hs5⟩ := unhide HG5
    have h0 := (unhide HT).lt
    have hk : ∀ q, q < W5.heap.size → X.heap[q]? = W5.heap[q]? := fun q hq => hX.block q hq hq (fun h => h)
    have hM5 := hM1.below hb5
    refine ⟨bk_cell (t := 154) (by rw [hk _ (by omega)]; exact hB5), (unhide HT).kept (by rw [hk 0 (by omega), hb5.block 0 (by omega), hb1.block 0 h0]), ?_⟩
    exact hM5.pb.words_dirty.kept (hk p hM5.pb.lt)
  · exact Its.refl _ _ _
  · rintro i X X' h1 h2; exact h1.trans h2
  · intro V V' h; exact h.elim
  · intro l' x X K' hK'
    gi_wp2_with fail
    exact hK'
  · rintro l' i X R hi
    exact absurd hi (by rw [unhide HNil]; omega)
  · rintro X hX hd hlt
    obtain ⟨h, hM1, hb1, hbx, hs1⟩ := unhide HM
    obtain ⟨hb5, hB5, hs5⟩ := unhide HG5
    have hk : ∀ q, q < W5.heap.size → X.heap[q]? = W5.heap[q]? := fun q hq => hX.block q hq hq (fun h => h)
    have hMX : PgM X p F S O (.slice none 0 0) (.slice none 0 0) := (hM1.below hb5).kept hX.size (fun q o => hk q (o.elim (fun e => e ▸ (hM1.below hb5).pb.lt) ((hM1.below hb5).lt q)))
    have cbx : X.cell? ⟨w.heap.size, 0, none⟩ = some (.pointer (some ⟨p, 0, none⟩)) := bk_cell (t := 58) (by rw [hk _ (by omega), hb5.block _ (by omega)]; exact hbx)
    have HCl := hide (pclear_ok hMX)
    have HE := hide (And.intro hX (And.intro hd hlt))
    clear hX hd hlt hMX hk h hM1 hb1 hbx hs1 hb5 hB5 hs5
    gi_wp2_with fail
    refine ⟨trivial, ?_⟩
    refine (callsIn_wide.2 (unhide HCl)).mono ?_
    rintro e X2 ⟨rfl, hM6, hE6⟩
    have H6 := hide (And.intro hM6 hE6)
    clear hM6 hE6
    gi_wp2_with fail
    obtain ⟨hX, hd, hlt⟩ := unhide HE
    obtain ⟨hM6, hE6⟩ := unhide H6
    obtain ⟨h, hM1, hb1, hbx, hs1⟩ := unhide HM
    obtain ⟨hb5, hB5, hs5⟩ := unhide HG5
    have hlo : ∀ q, Pown p O q → q < W1.heap.size := fun q o => o.elim (fun e => e ▸ hM1.pb.lt) (hM1.lt q)
    refine Marks.leave (base := W5.heap.size) (hi := W5.heap.size + 1) _ _ ⟨W5.heap.size, rfl, Nat.le_refl _, by omega, ?_, trivial⟩ (fun V' hV => ⟨.tuple #[], by simp [results, Tryz.results78], rfl, ?_, ?_⟩)
    · rw [hE6.rest _ (by omega) (fun o => by have := hlo _ o; omega)]; exact hd
    · have hS : ({ S with dirty := fun _ => false } : Pgr) = S := by rw [← unhide HD]
      rw [hS] at hM6
      refine hM6.kept hV.size (fun q o => hV.block q (by have := hlo q o; omega) (by have := hlo q o; have := hX.size; have := hE6.size; omega) (fun h => h))
    · refine ⟨hV.os.trans (hE6.os.trans (hX.os.trans (hb5.os.trans hb1.os))), hV.tape.trans (hE6.tape.trans (hX.tape.trans (hb5.tape.trans hb1.tape))), hV.output.trans (hE6.output.trans (hX.output.trans (hb5.output.trans hb1.output))), ?_, fun q h1 h2 => ?_, fun q o => .inl o⟩
      · have := hV.size; have := hE6.size; have := hX.size; have := hb5.size; have := hb1.size; omega
      · have a1 := hX.size
        have a2 := hE6.size
        rw [hV.block q (by omega) (by omega) (fun h => h), hE6.rest q (by omega) h2, hX.block q (by omega) (by omega) (fun h => h), hb5.block q (by omega), hb1.block q h1]
  · intro X h; exact h.elim
end Go.Proofs.YtebcmicmklpflaaGreatDoor
