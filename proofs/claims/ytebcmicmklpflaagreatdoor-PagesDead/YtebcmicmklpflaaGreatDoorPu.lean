/- Pages: Open, where nothing is there. -/
import Derived.Test.YtebcmicmklpflaaGreatDoorPs
namespace Go.Proofs.YtebcmicmklpflaaGreatDoor
open Go.RowKit Go.Maps
set_option linter.unusedSimpArgs false
/-- A Pager without a page. -/
def Pgr.zero : Pgr := ⟨[], [], fun _ => false, fun _ => false, false⟩
def Fl.new (f j : Nat) (nm : ByteArray) : Fl := ⟨f, j, nm, 0, fun _ => false, .slice none 0 0, false⟩
/-- A Pager, its journal and its FS: apart from each other. -/
structure PS (w : World) (f j p : Nat) (nm : ByteArray) (S : Fs) (J : Jn) (F : Fl) (G : Pgr) (U O : Nat → Prop) (lv nv : Value) (k : Nat) : Prop where
  js : JS w f j nm S J U k
  pm : PgM w p F G O lv nv
  ff : F.f = f ∧ F.j = j ∧ F.nm = nm
  dis : ∀ q, U q → ¬ Pown p O q
theorem JS.lt {w : World} {f j : Nat} {nm : ByteArray} {S : Fs} {J : Jn} {U : Nat → Prop} {k : Nat} (h : JS w f j nm S J U k) : ∀ q, U q → q < w.heap.size := by
  obtain ⟨_, _, _, _, _, _, _, _, _, _, _, _, _, h5⟩ := h
  exact h5
theorem JS.kept {w w' : World} {f j : Nat} {nm : ByteArray} {S : Fs} {J : Jn} {U : Nat → Prop} {k : Nat} (h : JS w f j nm S J U k) (hs : w.heap.size ≤ w'.heap.size) (hk : ∀ q, U q → w'.heap[q]? = w.heap[q]?) : JS w' f j nm S J U k := by
  obtain ⟨Of, O, OL, gv, lv, qs, hF, hJ, hdis, u1, u2, u3, u4, u5⟩ := h
  exact ⟨Of, O, OL, gv, lv, qs, hF.kept hs (fun q o => hk q (u1 q o)), ⟨hJ.gm.kept hs (hk j u4) (fun q o => hk q (u2 q o)), hJ.laid.kept (fun _ o => o) (fun q o => hk q (u3 q o)), hJ.dis, hJ.nl, fun q o => Nat.lt_of_lt_of_le (hJ.ltl q o) hs⟩, hdis, u1, u2, u3, u4, fun q o => Nat.lt_of_lt_of_le (u5 q o) hs⟩
theorem made_pgm (f j : Nat) (nm : ByteArray) (w : World) : PgM (w.alloc (.cells (mk2 f j nm).toArray 142)) w.heap.size (Fl.new f j nm) Pgr.zero (fun _ => False) (.slice none 0 0) (.slice none 0 0) :=
  ⟨made_pb f j nm w, PgR.nil _ _, PgR.nil _ _, fun q e => (by simp [Value.ownBlock] at e), fun h => h, fun q h => h.elim, by simp [Pgr.zero]⟩
set_option maxRecDepth 20000 in
set_option maxHeartbeats 2000000 in
theorem popen_none (f : Nat) (S : Fs) (Of : Nat → Prop) (k : Nat) (nm : ByteArray) (w : World) (h : FsIs w f 0 S Of k) (hp : S.pend = []) (hk : k ≤ 16000) (hn : 1 ≤ nm.size) (hn2 : nm.size ≤ 100) (hno : ∀ s, S.now.N s = none) (hT : Tab w) (hP : PowAt w) :
    Calls Tryz.prog 35 #[.pointer (some ⟨f, 0, none⟩), .string nm] w fun e w' => ∃ j p U, e = .returned (.tuple #[.pointer (some ⟨p, 0, none⟩), .int .i64 0]) ∧ PS w' f j p nm S ⟨[], [], 0, false⟩ (Fl.new f j nm) Pgr.zero U (fun _ => False) (.slice none 0 0) (.slice none 0 0) k ∧ w.heap.size ≤ p ∧ (∀ q, U q → Of q ∨ w.heap.size ≤ q) ∧ Below w.heap.size w w' := by
  have hnp : NoPart S.now nm := fun s hs => by rw [hno s] at hs; cases hs
  have HO : Hid (Calls Tryz.prog 16 #[.pointer (some ⟨f, 0, none⟩), .string nm] w fun e w1 => ∃ j, e = .returned (.tuple #[.pointer (some ⟨j, 0, none⟩), .int .i64 0]) ∧ Hid (Calls Tryz.prog 48 #[.string nm] w1 fun e w2 => e = .returned (.string nm) ∧ Hid (Calls Tryz.prog 75 #[.pointer (some ⟨w2.heap.size, 0, none⟩)] (w2.alloc (.cells (mk2 f j nm).toArray 142)) fun e w3 => e = .returned (.slice none 0 0) ∧ Hid (Calls Tryz.prog 78 #[.pointer (some ⟨w2.heap.size, 0, none⟩)] w3 fun e w4 => e = .returned (.tuple #[]) ∧ Hid (∃ U, PS w4 f j w2.heap.size nm S ⟨[], [], 0, false⟩ (Fl.new f j nm) Pgr.zero U (fun _ => False) (.slice none 0 0) (.slice none 0 0) k ∧ w.heap.size ≤ w2.heap.size ∧ (∀ q, U q → Of q ∨ w.heap.size ≤ q) ∧ Below w.heap.size w w4))))) := by
    refine (open_none f S Of k nm w h hp hk hn hn2 (fun s i hi => by rw [hno s] at hi; cases hi) hnp (hno nm)).mono fun e w1 ⟨j, e1, hj, hJ, hb1⟩ => ⟨j, e1, ?_⟩
    refine (clone_any nm w1 (by omega)).mono fun e w2 ⟨e2, hb2⟩ => ⟨e2, ?_⟩
    have hb12 : Below w.heap.size w w2 := hb1.trans (hb2.mono hb1.size)
    have hal : Below w2.heap.size w2 (w2.alloc (.cells (mk2 f j nm).toArray 142)) := (Below.refl _ _).alloc (Nat.le_refl _) _
    have hb13 := hb12.trans (hal.mono hb12.size)
    have hJ3 := (hJ.below hb2).below hal
    refine (pload_none w2.heap.size f j k nm S _ _ (made_pb f j nm w2) hJ3 hno (hP.below hb13) hn2).mono fun e w3 ⟨e3, hb3⟩ => ⟨e3, ?_⟩
    have hM3 := (made_pgm f j nm w2).below hb3
    have hb14 := hb13.trans (hb3.mono hb13.size)
    have h0 := hT.lt
    refine (pkeep_none hM3 (hT.kept (hb14.block 0 h0)) rfl).mono fun e w4 ⟨e4, hM4, hE4⟩ => ⟨e4, fun q => Of q ∨ q = j, ⟨?_, hM4, ⟨rfl, rfl, rfl⟩, ?_⟩, hb12.size, ?_, ?_⟩
    · have hJ4 := hJ3.below hb3
      exact hJ4.kept hE4.size (fun q o => hE4.rest q (hJ4.lt q o) (fun o2 => by
        rcases o2 with o2 | o2
        · have := hJ.lt q o; have := hb2.size; omega
        · exact o2))
    · rintro q o (o2 | o2)
      · have := hJ.lt q o; have := hb2.size; omega
      · exact o2
    · rintro q (o | rfl)
      · exact .inl o
      · exact .inr hj
    · refine ⟨hE4.os.trans hb14.os, hE4.tape.trans hb14.tape, hE4.output.trans hb14.output, Nat.le_trans hb14.size hE4.size, fun q hq => ?_⟩
      rw [hE4.rest q (by have := hb14.size; omega) (fun o2 => by
        rcases o2 with o2 | o2
        · have := hb12.size; omega
        · exact o2)]
      exact hb14.block q hq
  clear h hp hk hn hn2 hno hT hP hnp
  go_enter Tryz.func35, Tryz.ntmps35
  go_wp2_with fail
  refine (unhide HO).mono ?_
  rintro e w1 ⟨j, rfl, H1⟩
  clear HO
  go_wp2_with fail
  refine (unhide H1).mono ?_
  rintro e w2 ⟨rfl, H2⟩
  clear H1
  have r1 := run133 f j nm
  have r2 := run142 f j nm
  obtain ⟨A1, hA1⟩ : ∃ A1, A1 = (mk1 f j nm).toArray := ⟨_, rfl⟩
  obtain ⟨A2, hA2⟩ : ∃ A2, A2 = (mk2 f j nm).toArray := ⟨_, rfl⟩
  rw [← hA1] at r1 r2
  rw [← hA2] at r2 H2
  clear hA1 hA2
  go_wp2_with fail
  refine (unhide H2).mono ?_
  rintro e w3 ⟨rfl, H3⟩
  clear H2 r1 r2
  go_wp2_with fail
  go_loopw [32] (fun iv W => iv = .int .i64 0 ∧ W = w3) (fun _ _ => 0)
  case atStart => exact ⟨rfl, rfl⟩
  case round =>
    obtain ⟨rfl, rfl⟩ := hrel
    go_wp2_with fail
    refine (unhide H3).mono ?_
    rintro e w4 ⟨rfl, H4⟩
    clear H3
    go_wp2_with fail
    obtain ⟨U, h1, h2, h3, h4⟩ := unhide H4
    exact bodyPost_ret (by simp [results, Tryz.results35]) rfl ⟨j, w2.heap.size, U, rfl, h1, h2, h3, h4⟩
end Go.Proofs.YtebcmicmklpflaaGreatDoor
