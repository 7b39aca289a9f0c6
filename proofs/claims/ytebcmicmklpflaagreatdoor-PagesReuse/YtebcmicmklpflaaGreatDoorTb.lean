/- JournalDead: the law's walk. -/
import Derived.Test.YtebcmicmklpflaaGreatDoorTa
namespace Go.Proofs.YtebcmicmklpflaaGreatDoor
open Go.RowKit Go.Maps
set_option linter.unusedSimpArgs false
/-- The FS of a journal does something of its own: the journal stands. -/
theorem JS.fs {w : World} {f j : Nat} {nm : ByteArray} {S : Fs} {J : Jn} {U : Nat → Prop} {k : Nat} (h : JS w f j nm S J U k) : ∃ Of, FsIs w f 0 S Of k ∧ (∀ q, Of q → U q) ∧ ¬ Of j ∧ ∀ w' S' O' k', FsIs w' f 0 S' O' k' → FFr Of O' w w' → JS w' f j nm S' J (fun q => U q ∨ (w.heap.size ≤ q ∧ q < w'.heap.size)) k' ∧ FFr U (fun q => U q ∨ (w.heap.size ≤ q ∧ q < w'.heap.size)) w w' := by
  obtain ⟨Of, O, OL, gv, lv, qs, hF, hJ, hdis, u1, u2, u3, u4, u5⟩ := h
  have hnj : ¬ Of j := fun o => (hdis j o).2.2 rfl
  refine ⟨Of, hF, u1, hnj, fun w' S' O' k' hF' hE => ?_⟩
  have hz := hE.size
  have hO : ∀ q, O q → w'.heap[q]? = w.heap[q]? := fun q o => hE.rest q (hJ.gm.lt q o) (fun o2 => (hdis q o2).1 o)
  have hOL : ∀ q, OL q → w'.heap[q]? = w.heap[q]? := fun q o => hE.rest q (hJ.ltl q o) (fun o2 => (hdis q o2).2.1 o)
  have hjl := hJ.gm.jlt
  refine ⟨⟨O', O, OL, gv, lv, qs, hF', ⟨hJ.gm.re hz ((hE.rest j hjl hnj).trans hJ.gm.blk) rfl hO, hJ.laid.kept (fun _ o => o) hOL, hJ.dis, hJ.nl, fun q o => Nat.lt_of_lt_of_le (hJ.ltl q o) hz⟩, fun q o => ?_, fun q o => ?_, fun q o => .inl (u2 q o), fun q o => .inl (u3 q o), .inl u4, ?_⟩, hE.os, hE.tape, hE.output, hz, fun q p1 p2 => hE.rest q p1 (fun o => p2 (u1 q o)), fun q o => o.imp id (fun o => o.1)⟩
  · rcases hE.new q o with o2 | o2
    · exact hdis q o2
    · exact ⟨fun o3 => by have := hJ.gm.lt q o3; omega, fun o3 => by have := hJ.ltl q o3; omega, by omega⟩
  · rcases hE.new q o with o2 | o2
    · exact .inl (u1 q o2)
    · exact .inr ⟨o2, hF'.lt q o⟩
  · rintro q (o | o)
    · exact Nat.lt_of_lt_of_le (u5 q o) hz
    · exact o.2
/-- The name of the law's journal. -/
def nmL : ByteArray := ⟨#[108, 111, 103]⟩
theorem row_below {w w' : World} {v : Value} {d : List UInt8} (h : Row w.heap.size w v d) (hb : Below w.heap.size w w') : Row w'.heap.size w' v d := by
  obtain ⟨a1, c1, f1, f2, f3⟩ := h.below hb
  exact ⟨a1, c1, f1, f2, fun h0 => by obtain ⟨g, o, g1, g2, g3⟩ := f3 h0; exact ⟨g, o, g1, Nat.lt_of_lt_of_le g2 hb.size, g3⟩⟩
theorem dead_pre (a : Option Addr) (c : Nat) (d : List UInt8) (w : World) (hrow : Row w.heap.size w (.slice a d.length c) d) (hd : d.length ≤ 12000) :
    Calls Tryz.prog 15 #[.int .i64 1048576] w fun e w1 => ∃ f, e = .returned (.tuple #[.pointer (some ⟨f, 0, none⟩), .int .i64 0]) ∧ Hid (Calls Tryz.prog 16 #[.pointer (some ⟨f, 0, none⟩), .string nmL] w1 fun e w2 => ∃ j, e = .returned (.tuple #[.pointer (some ⟨j, 0, none⟩), .int .i64 0]) ∧ Hid (Calls Tryz.prog 22 #[.pointer (some ⟨j, 0, none⟩), .slice a d.length c] w2 fun e w3 => e = .returned (.int .i64 0) ∧ Hid (Calls Tryz.prog 21 #[.pointer (some ⟨f, 0, none⟩), .int .i64 0] w3 fun e w4 => e = .returned (.tuple #[]) ∧ Hid (Calls Tryz.prog 24 #[.pointer (some ⟨j, 0, none⟩)] w4 fun e w5 => e = .returned (.int .i64 26) ∧ Hid (Calls Tryz.prog 21 #[.pointer (some ⟨f, 0, none⟩), .int .i64 (-1)] w5 fun e w6 => e = .returned (.tuple #[]) ∧ Hid (w6.cell? ⟨j, 10, none⟩ = some (.int .u32 1) ∧ Below w.heap.size w w6)))))) := by
  refine (new_ok 1048576 w (by omega)).mono fun e w1 ⟨e1, hF1, hb1⟩ => ⟨w.heap.size, e1, ?_⟩
  refine (open_none w.heap.size (Fs.new 1048576) (fun q => q = w.heap.size) 0 nmL w1 hF1 rfl (by omega) (by decide) (by decide) (fun _ _ h => by cases h) (fun _ h => by cases h) rfl).mono fun e w2 ⟨j, e2, hj, hJ2, hb2⟩ => ⟨j, e2, ?_⟩
  have hA2 : Away w w2 (fun q => q = w.heap.size ∨ q = j) := ⟨hb1.trans (hb2.mono hb1.size), fun q o => by
    have := hb1.size
    rcases o with rfl | rfl <;> omega⟩
  refine (add_rec w2 w.heap.size j nmL _ _ _ 0 a c d hJ2 rfl (row_below hrow hA2.bel) (by simp [wt]; omega) (by decide)).mono fun e w3 ⟨e3, U3, hJ3, hE3⟩ => ⟨e3, ?_⟩
  have hA3 := hA2.step hE3
  obtain ⟨Of, hF3, hOU, _, hFS⟩ := hJ3.fs
  refine (fuse_ok w.heap.size _ Of 0 0 w3 hF3 (by omega)).mono fun e w4 ⟨e4, hF4, hE4⟩ => ⟨e4, ?_⟩
  obtain ⟨hJ4, hE4'⟩ := hFS w4 _ Of 0 hF4 hE4
  have hA4 := hA3.step hE4'
  refine (commit_dead w4 w.heap.size j nmL _ _ _ 0 hJ4 rfl rfl rfl (by simp [Jn.add]) (by simp [Jn.add]) (by simp [Jn.add]) (by simp [Jn.add, wt]; omega) (by simp [Jn.add, wts])).mono fun e w5 ⟨e5, ⟨O5, hF5, hn5, hO5⟩, hc5, hE5⟩ => ⟨e5, ?_⟩
  have hA5 := hA4.step hE5
  refine (fuse_off w.heap.size _ O5 0 w5 hF5).mono fun e w6 ⟨e6, _, hE6⟩ => ⟨e6, hE6.cell? hn5 hc5, ?_⟩
  exact (Away.step ⟨hA5.bel, fun q o => hA5.new q (hO5 q o)⟩ hE6).bel
set_option maxRecDepth 20000 in
set_option maxHeartbeats 1000000 in
theorem dead_ok (a : Option Addr) (c : Nat) (d : List UInt8) (w : World) (hrow : Row w.heap.size w (.slice a d.length c) d) : Calls Tryz.prog 5 #[.slice a d.length c] w fun e w' => e = .returned (.bool true) ∧ Below w.heap.size w w' := by
  by_cases hd : d.length ≤ 12000
  · have H0 := hide (dead_pre a c d w hrow hd)
    clear hrow
    have hn : (d.length : Int) ≤ 12000 := by omega
    generalize d.length = n at *
    clear hd
    go_enter Tryz.func5, Tryz.ntmps5
    go_wp2_with fail
    refine (unhide H0).mono ?_
    rintro e w1 ⟨f, rfl, H1⟩
    clear H0
    go_wp2_with fail
    refine (unhide H1).mono ?_
    rintro e w2 ⟨j, rfl, H2⟩
    clear H1
    go_wp2_with fail
    refine (unhide H2).mono ?_
    rintro e w3 ⟨rfl, H3⟩
    clear H2
    go_wp2_with fail
    refine (unhide H3).mono ?_
    rintro e w4 ⟨rfl, H4⟩
    clear H3
    go_wp2_with fail
    refine (unhide H4).mono ?_
    rintro e w5 ⟨rfl, H5⟩
    clear H4
    go_wp2_with fail
    refine (unhide H5).mono ?_
    rintro e w6 ⟨rfl, H6⟩
    clear H5
    have HA := hide (add_refused j a n c w6 (unhide H6).1)
    have HC := hide (commit_refused j w6 (unhide H6).1)
    have HR := hide (reset_refused j w6 (unhide H6).1)
    have HK : Hid (Calls Tryz.prog 14 #[] w6 fun e w' => e = .returned (.bool true) ∧ Hid (Below w.heap.size w w')) := (known_ok w6).mono fun e w' ⟨e1, hb2⟩ => ⟨e1, (unhide H6).2.trans (hb2.mono (unhide H6).2.size)⟩
    go_wp2_with fail
    refine (unhide HA).mono ?_
    rintro e w' ⟨rfl, rfl⟩
    go_wp2_with fail
    refine (unhide HC).mono ?_
    rintro e w' ⟨rfl, rfl⟩
    go_wp2_with fail
    refine (unhide HR).mono ?_
    rintro e w' ⟨rfl, rfl⟩
    go_wp2_with fail
    refine (unhide HK).mono ?_
    rintro e w7 ⟨rfl, HB⟩
    go_wp2_with fail
    go_ret
    exact ⟨rfl, unhide HB⟩
  · have hn : ¬ ((d.length : Int) ≤ 12000) := by omega
    have HB := hide (Below.refl w.heap.size w)
    clear hrow hd
    generalize d.length = n at *
    go_enter Tryz.func5, Tryz.ntmps5
    go_wp2_with fail
    go_ret
    exact ⟨rfl, unhide HB⟩
end Go.Proofs.YtebcmicmklpflaaGreatDoor
