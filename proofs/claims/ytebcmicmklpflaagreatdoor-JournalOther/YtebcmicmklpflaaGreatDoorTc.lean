/- JournalOther: the law's walk. -/
import Derived.Test.YtebcmicmklpflaaGreatDoorTb
namespace Go.Proofs.YtebcmicmklpflaaGreatDoor
open Go.RowKit Go.Maps
set_option linter.unusedSimpArgs false
/-- The name of the other file. -/
def nmO : ByteArray := ⟨#[111, 116, 104, 101, 114]⟩
theorem nmO_ne : nmO ≠ nmL := fun e => absurd (congrArg ByteArray.size e) (by decide)
theorem other_nopart {T : Tb} (h : ∀ s, s ≠ nmO → T.N s = none) : NoPart T nmL ∧ T.N nmL = none ∧ ∀ s i, T.N s = some i → s.size ≤ 300 := by
  have hone : ∀ s i, T.N s = some i → s = nmO := fun s i hi => Classical.byContradiction fun hs => by rw [h s hs] at hi; cases hi
  refine ⟨fun s hs => ?_, h _ nmO_ne.symm, fun s i hi => ?_⟩
  · cases hN : T.N s with
    | none => rw [hN] at hs; cases hs
    | some i => rw [hone s i hN]; decide
  · rw [hone s i hi]; decide
theorem below_drewN {n : Nat} {w W : World} (h : Below n w W) (q : Nat) : Below n w (W.drewN q) := ⟨h.os, h.tape, h.output, h.size, h.block⟩
/-- A group of one record that lies elsewhere. -/
def litC (w : World) (x : Value) : World := (w.alloc (.cells #[x] 39)).alloc (.cells #[.slice (some ⟨w.heap.size, 0, none⟩) 1 1] 34)
theorem litC_below (w : World) (x : Value) : Below w.heap.size w (litC w x) := by
  unfold litC
  exact ((Below.refl _ _).alloc (Nat.le_refl _) _).alloc (by simp) _
theorem litC_rr (w : World) (a : Option Addr) (c : Nat) (d : List UInt8) (hrow : Row w.heap.size w (.slice a d.length c) d) : RR (litC w (.slice a d.length c)) (.slice (some ⟨w.heap.size + 1, 0, none⟩) 1 1) [[d]] := by
  have s0 : (w.alloc (.cells #[.slice a d.length c] 39)).heap.size = w.heap.size + 1 := by simp
  have b1 : (litC w (.slice a d.length c)).heap[w.heap.size + 1]? = some (.cells #[.slice (some ⟨w.heap.size, 0, none⟩) 1 1] 34 (0, 0)) := by
    have := heap_alloc_new (w.alloc (.cells #[.slice a d.length c] 39)) (.cells #[.slice (some ⟨w.heap.size, 0, none⟩) 1 1] 34)
    rw [s0] at this; exact this
  have b0 : (litC w (.slice a d.length c)).heap[w.heap.size]? = some (.cells #[.slice a d.length c] 39 (0, 0)) := by
    unfold litC
    rw [Below.heap_alloc _ _ _ (by omega)]
    exact heap_alloc_new _ _
  refine ⟨_, _, rfl, fun i ds hi => ?_⟩
  match i, hi with
  | 0, hi =>
    simp at hi
    subst hi
    refine ⟨w.heap.size + 1, some ⟨w.heap.size, 0, none⟩, 1, rfl, by simp [World.cell?, b1], fun k d' hd => ?_⟩
    match k, hd with
    | 0, hd =>
      simp at hd
      subst hd
      exact ⟨w.heap.size, a, c, rfl, by simp [World.cell?, b0], row_below hrow (litC_below _ _)⟩
    | k + 1, hd => simp at hd
  | i + 1, hi => simp at hi
theorem other_pre (a a2 : Option Addr) (c c2 : Nat) (d d2 : List UInt8) (w : World) (hrow : Row w.heap.size w (.slice a d.length c) d) (hrow2 : Row w.heap.size w (.slice a2 d2.length c2) d2) (hd : d.length + d2.length ≤ 12000) :
    Calls Tryz.prog 15 #[.int .i64 1048576] w fun e w1 => ∃ f, e = .returned (.tuple #[.pointer (some ⟨f, 0, none⟩), .int .i64 0]) ∧ Hid (Calls Tryz.prog 28 #[.pointer (some ⟨f, 0, none⟩), .string nmO, .slice a d.length c] w1 fun e w2 => e = .returned (.int .i64 0) ∧ Hid (Calls Tryz.prog 29 #[.pointer (some ⟨f, 0, none⟩)] w2 fun e w3 => e = .returned (.int .i64 0) ∧ Hid (Calls Tryz.prog 16 #[.pointer (some ⟨f, 0, none⟩), .string nmL] w3 fun e w4 => ∃ j, e = .returned (.tuple #[.pointer (some ⟨j, 0, none⟩), .int .i64 0]) ∧ Hid (Calls Tryz.prog 18 #[.pointer (some ⟨j, 0, none⟩)] w4 fun e w5 => ∃ x, e = .returned (.slice x 0 0) ∧ Hid (Calls Tryz.prog 22 #[.pointer (some ⟨j, 0, none⟩), .slice a2 d2.length c2] w5 fun e w6 => e = .returned (.int .i64 0) ∧ Hid (Calls Tryz.prog 24 #[.pointer (some ⟨j, 0, none⟩)] w6 fun e w7 => e = .returned (.int .i64 0) ∧ Hid (Calls Tryz.prog 30 #[.pointer (some ⟨f, 0, none⟩), .string nmO] w7 fun e w8 => ∃ x y, e = .returned (.tuple #[.slice x d.length y, .int .i64 0]) ∧ Hid (Calls Tryz.prog 31 #[.slice x d.length y, .slice a d.length c] w8 fun e w9 => e = .returned (.bool true) ∧ Hid (Calls Tryz.prog 18 #[.pointer (some ⟨j, 0, none⟩)] w9 fun e w10 => ∃ b, e = .returned (.slice (some ⟨b, 0, none⟩) 1 1) ∧ Hid (Calls Tryz.prog 19 #[.slice (some ⟨b, 0, none⟩) 1 1, .slice (some ⟨w10.heap.size + 1, 0, none⟩) 1 1] (litC w10 (.slice a2 d2.length c2)) fun e w11 => e = .returned (.bool true) ∧ Hid (Calls Tryz.prog 14 #[] w11 fun e w12 => e = .returned (.bool true) ∧ Below w.heap.size w w12))))))))))) := by
  refine (new_ok 1048576 w (by omega)).mono fun e w1 ⟨e1, hF1, hb1⟩ => ⟨w.heap.size, e1, ?_⟩
  have hA1 : Away w w1 (fun q => q = w.heap.size) := ⟨hb1, fun q o => by omega⟩
  refine (write_ok w.heap.size (Fs.new 1048576) _ 0 nmO a c d w1.heap.size w1 hF1 (by omega) (by simp [Fs.new]) (by simp [Fs.new]) (by decide) (by omega) (by show (0 : Int) - ((Tb.none.alone nmO : Nat) : Int) + _ ≤ ((1048576 : Nat) : Int); omega) (row_below hrow hA1.bel) (Nat.le_refl _)).mono fun e w2 ⟨e2, z, O2, hz, hF2, hE2⟩ => ⟨e2, ?_⟩
  have hA2 := hA1.step hE2
  obtain ⟨hAl, hOt, hu⟩ := Alone.new (T := Tb.none) (nm := nmO) (z := z) rfl hz d
  refine (sync_ok w.heap.size _ O2 3 w2 hF2 (by omega) (by show Option.map Nat.pred none ≠ some 0; simp)).mono fun e w3 ⟨e3, O3, hF3, hE3⟩ => ⟨e3, ?_⟩
  have hA3 := hA2.step hE3
  obtain ⟨S, hS⟩ : ∃ S : Fs, S = (((Fs.new 1048576).done ((Fs.new 1048576).now.write nmO d z) (.write nmO d z)).lasts (((Fs.new 1048576).done ((Fs.new 1048576).now.write nmO d z) (.write nmO d z)).fuse.map Nat.pred)) := ⟨_, rfl⟩
  have hSn : S.now = Tb.none.write nmO d z := by rw [hS]; rfl
  have hSp : S.pend = [] := by rw [hS]; rfl
  have hSf : S.fuse = none := by rw [hS]; rfl
  have hSr : S.room = 1048576 := by rw [hS]; rfl
  rw [← hS] at hF3
  rw [← hSn] at hAl hOt hu
  clear hS
  have hno : ∀ s, s ≠ nmO → S.now.N s = none := fun s hs => (hOt s hs).1
  obtain ⟨n1, n2, n3⟩ := other_nopart hno
  refine (open_none w.heap.size S O3 3 nmL w3 hF3 hSp (by omega) (by decide) (by decide) n3 n1 n2).mono fun e w4 ⟨j, e4, hj, hJ4, hb4⟩ => ⟨j, e4, ?_⟩
  have hA4 : Away w w4 (fun q => O3 q ∨ q = j) := ⟨hA3.bel.trans (hb4.mono hA3.bel.size), fun q o => by
    have := hA3.bel.size
    rcases o with o | rfl
    · exact hA3.new q o
    · omega⟩
  obtain ⟨Of4, O4, OL4, gv4, lv4, qs4, _, hJn4, _⟩ := id hJ4
  refine (groups_ok j w.heap.size nmL ⟨[], [], 0, false⟩ O4 gv4 lv4 qs4 w4 hJn4.gm (by decide) (fun _ h => by cases h)).mono fun e w5 ⟨e5, hCp5⟩ => ⟨_, e5, ?_⟩
  have hJ5 := hJ4.below hCp5.bel
  have hA5 : Away w w5 (fun q => O3 q ∨ q = j) := ⟨hA4.bel.trans (hCp5.bel.mono hA4.bel.size), hA4.new⟩
  refine (add_rec w5 w.heap.size j nmL S _ _ 3 a2 c2 d2 hJ5 rfl (row_below hrow2 hA5.bel) (by simp [wt]; omega) (by decide)).mono fun e w6 ⟨e6, U6, hJ6, hE6⟩ => ⟨e6, ?_⟩
  have hA6 := hA5.step hE6
  have hC : CanCommit S nmL ((⟨[], [], 0, false⟩ : Jn).add d2) 3 := by
    have hel := enc_len (digs z32 []) [d2]
    have hw2 : wt [d2] = d2.length := by simp [wt]
    rw [hw2] at hel
    have hel2 : (enc (digs z32 []) [d2]).length = 38 + d2.length := by rw [hel]; simp; omega
    refine ⟨by omega, hSf, by rw [hSp]; decide, by decide, .inl ⟨rfl, n2, rfl⟩, ?_, ?_, by simp [Jn.add], by simp [Jn.add], by show wt [d2] ≤ _; omega, by simp [Jn.add, wts], rfl, by simp [Jn.add]⟩
    · show (encs z32 []).length + (enc (digs z32 []) [d2]).length ≤ _
      rw [hel2]; simp [encs]; omega
    · show S.now.u + ((enc (digs z32 []) [d2]).length : Int) ≤ _
      rw [hel2, hu, hSr]
      show (0 : Int) + _ + _ ≤ _
      omega
  refine (commit_ok w6 w.heap.size j nmL S _ U6 3 hJ6 hC).mono fun e w7 ⟨e7, S7, U7, hJ7, hW, hE7⟩ => ⟨e7, ?_⟩
  have hA7 := hA6.step hE7
  obtain ⟨Of7, hF7, _, _, _⟩ := hJ7.fs
  have hN7 : S7.now.N nmO = some z := ((hW.oth nmO nmO_ne).1).trans hAl.N
  have hD7 : S7.now.D z = d := ((hW.oth nmO nmO_ne).2 z hAl.N).trans hAl.D
  have HR := read_ok w.heap.size S7 Of7 9 nmO z w7 hF7 (by decide) hN7
  rw [hD7] at HR
  refine HR.mono fun e w8 ⟨x, y, L, e8, hnd, hL, _, hb8⟩ => ⟨x, y, e8, ?_⟩
  have hJ8 := hJ7.below hb8
  have hA8 : Away w w8 U7 := ⟨hA7.bel.trans (hb8.mono hA7.bel.size), hA7.new⟩
  have hr8 : Row w8.heap.size w8 (.slice x d.length y) d := (Rec.new (O := fun _ => True) hnd hL (fun _ _ => trivial)).row
  refine (same_any _ _ x a d.length d.length y c d d w8 hr8 (row_below hrow hA8.bel) rfl rfl (by omega) (by omega)).mono fun e w9 ⟨⟨q, hq⟩, e9⟩ => ⟨by rw [e9]; simp, ?_⟩
  subst hq
  have hJ9 := hJ8.below (below_drewN (Below.refl _ w8) q)
  have hA9 : Away w (w8.drewN q) U7 := ⟨below_drewN hA8.bel q, hA8.new⟩
  obtain ⟨Of9, O9, OL9, gv9, lv9, qs9, _, hJn9, _⟩ := id hJ9
  refine (groups_ok j w.heap.size nmL _ O9 gv9 lv9 qs9 _ hJn9.gm (by simp [Jn.commit, Jn.add]) (fun ds h => by
    simp [Jn.commit, Jn.add] at h
    subst h
    exact ⟨by simp, by simp [wt]; omega⟩)).mono fun e w10 ⟨e10, hCp⟩ => ⟨_, e10, ?_⟩
  have hB10 : Below w.heap.size w w10 := hA9.bel.trans (hCp.bel.mono hA9.bel.size)
  have hr2 := row_below hrow2 hB10
  refine (groups_true _ (some ⟨w10.heap.size + 1, 0, none⟩) _ 1 [[d2]] (litC w10 (.slice a2 d2.length c2)) (hCp.rr.below (litC_below w10 _)) (litC_rr w10 a2 c2 d2 hr2) (by simp) (fun ds h => by
    simp at h
    subst h
    exact ⟨by simp, fun x hx => by simp at hx; subst hx; omega⟩)).mono fun e w11 ⟨e11, q2, hq2⟩ => ⟨e11, ?_⟩
  subst hq2
  have hB11 : Below w.heap.size w ((litC w10 (.slice a2 d2.length c2)).drewN q2) := below_drewN (hB10.trans ((litC_below w10 _).mono hB10.size)) q2
  exact (known_ok _).mono fun e w12 ⟨e12, hb12⟩ => ⟨e12, hB11.trans (hb12.mono hB11.size)⟩
set_option maxRecDepth 20000 in
set_option maxHeartbeats 1000000 in
theorem other_ok (a a2 : Option Addr) (c c2 : Nat) (d d2 : List UInt8) (w : World) (hrow : Row w.heap.size w (.slice a d.length c) d) (hrow2 : Row w.heap.size w (.slice a2 d2.length c2) d2) (hl : d.length ≤ 281474976710656) (hl2 : d2.length ≤ 281474976710656) : Calls Tryz.prog 6 #[.slice a d.length c, .slice a2 d2.length c2] w fun e w' => e = .returned (.bool true) ∧ Below w.heap.size w w' := by
  have hwr : IntKind.i64.wrap ((d.length : Int) + (d2.length : Int)) = (d.length : Int) + (d2.length : Int) := IntWalk.i64_in _ (by omega)
  by_cases hd : d.length + d2.length ≤ 12000
  · have H0 := hide (other_pre a a2 c c2 d d2 w hrow hrow2 hd)
    clear hrow hrow2 hl hl2
    have hn : (d.length : Int) + (d2.length : Int) ≤ 12000 := by omega
    generalize d.length = n at *
    generalize d2.length = m at *
    clear hd
    go_enter Tryz.func6, Tryz.ntmps6
    go_wp2_with fail
    refine (unhide H0).mono ?_
    rintro e w1 ⟨f, rfl, H1⟩
    clear H0
    go_wp2_with fail
    refine (unhide H1).mono ?_
    rintro e w2 ⟨rfl, H2⟩
    clear H1
    go_wp2_with fail
    refine (unhide H2).mono ?_
    rintro e w3 ⟨rfl, H3⟩
    clear H2
    go_wp2_with fail
    refine (unhide H3).mono ?_
    rintro e w4 ⟨j, rfl, H4⟩
    clear H3
    go_wp2_with fail
    refine (unhide H4).mono ?_
    rintro e w5 ⟨x, rfl, H5⟩
    clear H4
    go_wp2_with fail
    refine (unhide H5).mono ?_
    rintro e w6 ⟨rfl, H6⟩
    clear H5
    go_wp2_with fail
    refine (unhide H6).mono ?_
    rintro e w7 ⟨rfl, H7⟩
    clear H6
    go_wp2_with fail
    refine (unhide H7).mono ?_
    rintro e w8 ⟨x, y, rfl, H8⟩
    clear H7
    go_wp2_with fail
    refine (unhide H8).mono ?_
    rintro e w9 ⟨rfl, H9⟩
    clear H8
    go_wp2_with fail
    refine (unhide H9).mono ?_
    rintro e w10 ⟨b, rfl, H10⟩
    clear H9
    go_wp2_with fail
    refine (unhide H10).mono ?_
    rintro e w11 ⟨rfl, H11⟩
    clear H10
    go_wp2_with fail
    refine (unhide H11).mono ?_
    rintro e w12 ⟨rfl, hB⟩
    have HB := hide hB
    clear H11 hB
    go_wp2_with fail
    go_ret
    exact ⟨rfl, unhide HB⟩
  · have hn : ¬ ((d.length : Int) + (d2.length : Int) ≤ 12000) := by omega
    have HB := hide (Below.refl w.heap.size w)
    clear hrow hrow2 hd hl hl2
    generalize d.length = n at *
    generalize d2.length = m at *
    go_enter Tryz.func6, Tryz.ntmps6
    go_wp2_with fail
    go_ret
    exact ⟨rfl, unhide HB⟩
end Go.Proofs.YtebcmicmklpflaaGreatDoor
