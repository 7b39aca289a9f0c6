/- The law's known. -/
import Derived.Test.YtebcmicmklpflaaGreatDoorSe
namespace Go.Proofs.YtebcmicmklpflaaGreatDoor
open Go.RowKit Go.Maps
set_option linter.unusedSimpArgs false
/-- What was there stands; all of U is new. -/
structure Away (w W : World) (U : Nat → Prop) : Prop where
  bel : Below w.heap.size w W
  new : ∀ q, U q → w.heap.size ≤ q
theorem Away.step {w W W' : World} {U U' : Nat → Prop} (h : Away w W U) (k : FFr U U' W W') : Away w W' U' :=
  ⟨⟨k.os.trans h.bel.os, k.tape.trans h.bel.tape, k.output.trans h.bel.output, Nat.le_trans h.bel.size k.size, fun b hb => (k.rest b (Nat.lt_of_lt_of_le hb h.bel.size) (fun o => by have := h.new b o; omega)).trans (h.bel.block b hb)⟩, fun q o => (k.new q o).elim (h.new q) (fun h1 => Nat.le_trans h.bel.size h1)⟩
theorem Away.alloc {w W : World} {U : Nat → Prop} (h : Away w W U) (o : Obj) : Away w (W.alloc o) U := ⟨h.bel.trans (((Below.refl _ _).alloc (Nat.le_refl _) _).mono h.bel.size), h.new⟩
theorem add_byte' {w0 w : World} {f j : Nat} {nm : ByteArray} {S : Fs} {J : Jn} {U : Nat → Prop} {k : Nat} (b : UInt8) (ha : Away w0 w U) (h : JS w f j nm S J U k) (hal : J.dead = false) (hw : wt J.D + 1 ≤ 524288) (hn : J.D.length < 4096) :
    Calls Tryz.prog 22 #[.pointer (some ⟨j, 0, none⟩), .slice (some ⟨w.heap.size, 0, none⟩) 1 1] (w.alloc (byteBlk b)) fun e w' => e = .returned (.int .i64 0) ∧ ∃ U', JS w' f j nm S (J.add [b]) U' k ∧ Away w0 w' U' :=
  (add_rec (w.alloc (byteBlk b)) f j nm S J U k (some ⟨w.heap.size, 0, none⟩) 1 [b] (h.below ((Below.refl _ _).alloc (Nat.le_refl _) _)) hal (row_byte w b) hw hn).mono fun _ _ ⟨e1, U', h1, h2⟩ => ⟨e1, U', h1, (ha.alloc _).step h2⟩
/-- The literal that known holds against. -/
def rowBlk (p q : Nat) : Obj := .cells #[.slice (some ⟨p, 0, none⟩) 1 1, .slice (some ⟨q, 0, none⟩) 1 1] 39
def outBlk (p : Nat) : Obj := .cells #[.slice (some ⟨p, 0, none⟩) 2 2] 34
def litW (w : World) : World := (((w.alloc (byteBlk 97)).alloc (byteBlk 98)).alloc (rowBlk w.heap.size (w.heap.size + 1))).alloc (outBlk (w.heap.size + 1 + 1))
theorem lit_below (w : World) : Below w.heap.size w (litW w) := by
  unfold litW
  exact ((((Below.refl _ _).alloc (Nat.le_refl _) _).alloc (by simp) _).alloc (by simp; omega) _).alloc (by simp; omega) _
theorem lit_rr (w : World) : RR (litW w) (.slice (some ⟨w.heap.size + 1 + 1 + 1, 0, none⟩) 1 1) GJ := by
  have s0 : (w.alloc (byteBlk 97)).heap.size = w.heap.size + 1 := by simp
  have s1 : ((w.alloc (byteBlk 97)).alloc (byteBlk 98)).heap.size = w.heap.size + 1 + 1 := by simp
  have s2 : (((w.alloc (byteBlk 97)).alloc (byteBlk 98)).alloc (rowBlk w.heap.size (w.heap.size + 1))).heap.size = w.heap.size + 1 + 1 + 1 := by simp
  have b3 : (litW w).heap[w.heap.size + 1 + 1 + 1]? = some (outBlk (w.heap.size + 1 + 1)) := by
    have := heap_alloc_new (((w.alloc (byteBlk 97)).alloc (byteBlk 98)).alloc (rowBlk w.heap.size (w.heap.size + 1))) (outBlk (w.heap.size + 1 + 1))
    rw [s2] at this; exact this
  have b2 : (litW w).heap[w.heap.size + 1 + 1]? = some (rowBlk w.heap.size (w.heap.size + 1)) := by
    have := heap_alloc_new ((w.alloc (byteBlk 97)).alloc (byteBlk 98)) (rowBlk w.heap.size (w.heap.size + 1))
    rw [s1] at this
    unfold litW
    rw [Below.heap_alloc _ _ _ (by omega)]; exact this
  have r0 := (row_byte w 97).below (hi := (w.alloc (byteBlk 97)).heap.size) (w' := litW w) (by
    unfold litW
    exact (((Below.refl _ _).alloc (Nat.le_refl _) _).alloc (by simp) _).alloc (by simp) _)
  have r1 := (row_byte (w.alloc (byteBlk 97)) 98).below (hi := ((w.alloc (byteBlk 97)).alloc (byteBlk 98)).heap.size) (w' := litW w) (by
    unfold litW
    exact ((Below.refl _ _).alloc (Nat.le_refl _) _).alloc (by simp) _)
  rw [s0] at r0 r1
  have up : ∀ {hi : Nat} {v : Value} {d : List UInt8}, Row hi (litW w) v d → hi ≤ (litW w).heap.size → Row (litW w).heap.size (litW w) v d := fun h hle => by
    obtain ⟨a1, c1, f1, f2, f3⟩ := h
    exact ⟨a1, c1, f1, f2, fun h0 => by obtain ⟨g, o, g1, g2, g3⟩ := f3 h0; exact ⟨g, o, g1, Nat.lt_of_lt_of_le g2 hle, g3⟩⟩
  have sL : (litW w).heap.size = w.heap.size + 1 + 1 + 1 + 1 := by unfold litW; simp
  refine ⟨_, _, rfl, fun i ds hi => ?_⟩
  match i, hi with
  | 0, hi =>
    simp [GJ] at hi
    subst hi
    refine ⟨w.heap.size + 1 + 1 + 1, some ⟨w.heap.size + 1 + 1, 0, none⟩, 2, rfl, by simp [World.cell?, b3, outBlk], fun k d hd => ?_⟩
    match k, hd with
    | 0, hd =>
      simp at hd
      subst hd
      exact ⟨w.heap.size + 1 + 1, some ⟨w.heap.size, 0, none⟩, 1, rfl, by simp [World.cell?, b2, rowBlk], up r0 (by omega)⟩
    | 1, hd =>
      simp at hd
      subst hd
      exact ⟨w.heap.size + 1 + 1, some ⟨w.heap.size + 1, 0, none⟩, 1, rfl, by simp [World.cell?, b2, rowBlk], up r1 (by rw [s1]; omega)⟩
    | k + 2, hd => simp at hd
  | i + 1, hi => simp [GJ] at hi
/-- What known does, one call behind the other. -/
theorem known_pre (w : World) : Calls Tryz.prog 15 #[.int .i64 10000] w fun e w1 => ∃ f, e = .returned (.tuple #[.pointer (some ⟨f, 0, none⟩), .int .i64 0]) ∧ Hid (Calls Tryz.prog 16 #[.pointer (some ⟨f, 0, none⟩), .string nmJ] w1 fun e w2 => ∃ j, e = .returned (.tuple #[.pointer (some ⟨j, 0, none⟩), .int .i64 0]) ∧ Hid (Calls Tryz.prog 22 #[.pointer (some ⟨j, 0, none⟩), .slice (some ⟨w2.heap.size, 0, none⟩) 1 1] (w2.alloc (byteBlk 97)) fun e w3 => e = .returned (.int .i64 0) ∧ Hid (Calls Tryz.prog 22 #[.pointer (some ⟨j, 0, none⟩), .slice (some ⟨w3.heap.size, 0, none⟩) 1 1] (w3.alloc (byteBlk 98)) fun e w4 => e = .returned (.int .i64 0) ∧ Hid (Calls Tryz.prog 24 #[.pointer (some ⟨j, 0, none⟩)] w4 fun e w5 => e = .returned (.int .i64 0) ∧ Hid (Calls Tryz.prog 22 #[.pointer (some ⟨j, 0, none⟩), .slice (some ⟨w5.heap.size, 0, none⟩) 1 1] (w5.alloc (byteBlk 99)) fun e w6 => e = .returned (.int .i64 0) ∧ Hid (Calls Tryz.prog 27 #[.pointer (some ⟨f, 0, none⟩), .int .i64 0] w6 fun e w7 => e = .returned (.tuple #[]) ∧ Hid (Calls Tryz.prog 16 #[.pointer (some ⟨f, 0, none⟩), .string nmJ] w7 fun e w8 => ∃ j2, e = .returned (.tuple #[.pointer (some ⟨j2, 0, none⟩), .int .i64 0]) ∧ Hid (Calls Tryz.prog 18 #[.pointer (some ⟨j2, 0, none⟩)] w8 fun e w9 => ∃ b, e = .returned (.slice (some ⟨b, 0, none⟩) 1 1) ∧ Hid (Calls Tryz.prog 19 #[.slice (some ⟨b, 0, none⟩) 1 1, .slice (some ⟨w9.heap.size + 1 + 1 + 1, 0, none⟩) 1 1] (litW w9) fun e w10 => e = .returned (.bool true) ∧ Below w.heap.size w w10))))))))) := by
  have hno0 : ∀ s, s ≠ nmJ → (Fs.new 10000).now.N s = none := fun _ _ => rfl
  obtain ⟨n1, n2, n3⟩ := only_nopart hno0
  refine (new_ok 10000 w (by omega)).mono fun e w1 ⟨e1, hF1, hb1⟩ => ⟨w.heap.size, e1, ?_⟩
  refine (open_none w.heap.size (Fs.new 10000) (fun q => q = w.heap.size) 0 nmJ w1 hF1 rfl (by omega) (by decide) (by decide) n3 n1 rfl).mono fun e w2 ⟨j, e2, hj, hJ2, hb2⟩ => ⟨j, e2, ?_⟩
  have hA2 : Away w w2 (fun q => q = w.heap.size ∨ q = j) := ⟨hb1.trans (hb2.mono hb1.size), fun q o => by
    have := hb1.size
    rcases o with rfl | rfl <;> omega⟩
  refine (add_byte' 97 hA2 hJ2 rfl (by decide) (by decide)).mono fun e w3 ⟨e3, U3, hJ3, hA3⟩ => ⟨e3, ?_⟩
  refine (add_byte' 98 hA3 hJ3 rfl (by decide) (by decide)).mono fun e w4 ⟨e4, U4, hJ4, hA4⟩ => ⟨e4, ?_⟩
  have hC : CanCommit (Fs.new 10000) nmJ (((⟨[], [], 0, false⟩ : Jn).add [97]).add [98]) 0 := by
    have hel := enc_len (digs z32 []) [[97], [98]]
    exact ⟨by omega, Bears.none rfl, by decide, by decide, .inl ⟨rfl, rfl, rfl⟩, by show (encs z32 []).length + (enc (digs z32 []) [[97], [98]]).length ≤ _; rw [hel]; decide, by show (0 : Int) + ((enc (digs z32 []) [[97], [98]]).length : Int) ≤ _; rw [hel]; decide, by decide, by decide, by decide, by decide, rfl, by decide⟩
  refine (commit_ok w4 w.heap.size j nmJ (Fs.new 10000) _ U4 0 hJ4 hC).mono fun e w5 ⟨e5, S5, U5, hJ5, hW, hE5⟩ => ⟨e5, ?_⟩
  have hA5 := hA4.step hE5
  refine (add_byte' 99 hA5 hJ5 rfl (by decide) (by decide)).mono fun e w6 ⟨e6, U6, hJ6, hA6⟩ => ⟨e6, ?_⟩
  obtain ⟨Of, O6, OL, gv, lv, qs, hF6, _, _, u1, _⟩ := hJ6
  refine (crash_any 0 w.heap.size S5 Of 6 w6 hF6 (by omega) (by rw [hW.pend]; decide)).mono fun e w7 ⟨e7, O7, hF7, hE7⟩ => ⟨e7, ?_⟩
  have hA7 : Away w w7 O7 := Away.step ⟨hA6.bel, fun q o => hA6.new q (u1 q o)⟩ hE7
  obtain ⟨i, hAl⟩ := hW.al
  have hno7 : ∀ s, s ≠ nmJ → (S5.lasts none).now.N s = none := fun s hs => ((hW.oth s hs).1).trans (hno0 s hs)
  obtain ⟨m1, m2, m3⟩ := only_nopart hno7
  refine (open_some w.heap.size (S5.lasts none) O7 6 i nmJ GJ w7 hF7 rfl (by omega) (by decide) (by decide) m3 m1 m2 hAl.N hAl.D (by decide) (by decide) (by decide) (by decide)).mono fun e w8 ⟨j2, U8, e8, hj8, hJ8, hb8, _⟩ => ⟨j2, e8, ?_⟩
  have hB8 : Below w.heap.size w w8 := hA7.bel.trans (hb8.mono hA7.bel.size)
  obtain ⟨Of8, O8, OL8, gv8, lv8, qs8, hF8, hJn8, _⟩ := hJ8
  refine (groups_ok j2 w.heap.size nmJ ⟨GJ, [], 1, false⟩ O8 gv8 lv8 qs8 w8 hJn8.gm (by decide) (by decide)).mono fun e w9 ⟨e9, hCp⟩ => ⟨w8.heap.size, e9, ?_⟩
  have hB9 : Below w.heap.size w w9 := hB8.trans (hCp.bel.mono hB8.size)
  have hB10 : Below w.heap.size w (litW w9) := hB9.trans ((lit_below w9).mono hB9.size)
  refine (groups_true (some ⟨w8.heap.size, 0, none⟩) (some ⟨w9.heap.size + 1 + 1 + 1, 0, none⟩) 1 1 GJ (litW w9) (hCp.rr.below (lit_below w9)) (lit_rr w9) (by decide) (by decide)).mono fun e w10 ⟨e10, q, hq⟩ => ⟨e10, ?_⟩
  rw [hq]
  exact ⟨hB10.os, hB10.tape, hB10.output, hB10.size, hB10.block⟩
end Go.Proofs.YtebcmicmklpflaaGreatDoor
