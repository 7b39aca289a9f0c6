/- The other steps of a script. -/
import Derived.Test.YtebcmicmklpflaaGreatDoorUg
namespace Go.Proofs.YtebcmicmklpflaaGreatDoor
open Go.RowKit Go.Maps
set_option linter.unusedSimpArgs false
theorem PI.box {w W : World} {f r j i n : Nat} (h : PI w W f r j i n) (o : Obj) : PI w (W.alloc o) f r j i n := by
  obtain ⟨S, J, U, V, k, hP, hF⟩ := h
  exact ⟨S, J, U, V, k, hP.below ((Below.refl _ _).alloc (Nat.le_refl _) _), hF⟩
theorem PI.drew {w W : World} {f r j i n : Nat} (h : PI w W f r j i n) : PI w W.drew f r j i n := by
  obtain ⟨S, J, U, V, k, hP, hF⟩ := h
  exact ⟨S, J, U, V, k, hP.below (Below.refl _ _).drew, hF⟩
theorem commit_chain (w W : World) (f r j i n m : Nat) (h : PI w W f r j i n) (hi : i < 100) (hn : n ≤ 12000) :
    Calls Tryz.prog 24 #[.pointer (some ⟨j, 0, none⟩)] W fun e W1 => e = .returned (.int .i64 0) ∧ Hid (Calls Tryz.prog 25 #[.pointer (some ⟨r, 0, none⟩)] W1 fun e W2 => e = .returned (.int .i64 0) ∧ Hid (PI w W2 f r j (i + 1) (n + m))) := by
  obtain ⟨S, J, U, V, k, hP, hF⟩ := h
  have f1 := hF.hw
  have f2 := hF.hc
  have f3 := hF.hg
  by_cases hD : J.D = []
  · refine (commit_none W f j nmL S J U k hP.js hF.alive hD).mono fun e W1 ⟨e1, hW1⟩ => ⟨e1, ?_⟩
    subst hW1
    have hR := hP.rj
    rw [hD] at hR
    refine (ref_commit_none W1 r J.G V hR).mono fun e W2 ⟨e2, hW2⟩ => ⟨e2, ?_⟩
    subst hW2
    exact ⟨S, J, U, V, k, hP, hF.next m⟩
  · refine (commit_ok W f j nmL S J U k hP.js (hF.can (by omega) hn hD)).mono fun e W1 ⟨e1, S1, U1, hJ1, hW1, hE1⟩ => ⟨e1, ?_⟩
    have hP1 := hP.stepJ hJ1 hE1
    refine (ref_commit_ok W1 r J.G J.D V hP1.rj hD (by omega) (by omega) (fun g hg => by have := cnt_mem hg; omega)).mono fun e W2 ⟨e2, V2, hR2, hE2⟩ => ⟨e2, ?_⟩
    exact ⟨S1, J.commit, U1, V2, k + 6, hP1.stepR hR2 hE2, hF.commit m hW1⟩
theorem drop_chain (w W : World) (f r j i n m : Nat) (h : PI w W f r j i n) :
    Calls Tryz.prog 32 #[.pointer (some ⟨j, 0, none⟩)] W fun e W1 => e = .returned (.tuple #[]) ∧ (∃ x, W1.cell? ⟨r, 1, none⟩ = some x) ∧ W1.frozen? ⟨r, 1, none⟩ = false ∧ Hid (PI w (W1.setCell ⟨r, 1, none⟩ (.slice none 0 0)) f r j (i + 1) (n + m)) := by
  obtain ⟨S, J, U, V, k, hP, hF⟩ := h
  refine (drop_ok W f j nmL S J U k hP.js).mono fun e W1 ⟨e1, hJ1, hE1⟩ => ⟨e1, ?_⟩
  have hP1 := hP.stepJ hJ1 hE1
  obtain ⟨hx, hz, hR, hE⟩ := rj_down hP1.rj
  exact ⟨hx, hz, S, { J with D := [] }, U, V, k, hP1.stepR hR hE, hF.drop m⟩
theorem reset_chain (w W : World) (f r j i n m : Nat) (h : PI w W f r j i n) (hi : i < 100) (hn : n ≤ 12000) : (∃ x, W.cell? ⟨r, 0, none⟩ = some x) ∧ W.frozen? ⟨r, 0, none⟩ = false ∧
    Calls Tryz.prog 26 #[.pointer (some ⟨j, 0, none⟩)] (W.setCell ⟨r, 0, none⟩ (.slice none 0 0)) fun e W1 => e = .returned (.int .i64 0) ∧ Hid (PI w W1 f r j (i + 1) (n + m)) := by
  obtain ⟨S, J, U, V, k, hP, hF⟩ := h
  obtain ⟨hx, hz, hR, hE⟩ := rj_last hP.rj
  have hP1 := hP.stepR hR hE
  have f1 := hF.hk
  have f2 := hF.elen (by omega) hn
  refine ⟨hx, hz, (reset_ok _ f j nmL S J U k hP1.js (by omega) (Bears.none hF.fuse) (by rw [hF.pend]; decide) (by decide) hF.has (by rw [hF.us, hF.room]; omega) hF.alive).mono fun e W1 ⟨e1, S1, U1, hJ1, hEm, hE1⟩ => ⟨e1, ?_⟩⟩
  exact ⟨S1, { J with G := [] }, U1, V, k + 3, hP1.stepJ hJ1 hE1, hF.reset m hEm⟩
theorem open_chain (w W : World) (f r j i n m : Nat) (h : PI w W f r j i n) (hi : i < 100) (hn : n ≤ 12000) : (∃ x, W.cell? ⟨r, 1, none⟩ = some x) ∧ W.frozen? ⟨r, 1, none⟩ = false ∧
    Calls Tryz.prog 16 #[.pointer (some ⟨f, 0, none⟩), .string nmL] (W.setCell ⟨r, 1, none⟩ (.slice none 0 0)) fun e W1 => ∃ j', e = .returned (.tuple #[.pointer (some ⟨j', 0, none⟩), .int .i64 0]) ∧ Hid (PI w W1 f r j' (i + 1) (n + m)) := by
  obtain ⟨S, J, U, V, k, hP, hF⟩ := h
  obtain ⟨hx, hz, hR, hE⟩ := rj_down hP.rj
  have hP1 := hP.stepR hR hE
  have f1 := hF.hk
  have f2 := hF.hw
  have f3 := hF.hc
  have f4 := hF.hg
  obtain ⟨n1, n2, n3⟩ := only_log hF.only
  obtain ⟨Of, hFs, hOU, _, _⟩ := hP1.js.fs
  refine ⟨hx, hz, (open_any f S Of k J.parts nmL J.G _ hFs hF.pend (by omega) (by decide) (by decide) n3 n1 n2 hF.has (by omega) (fun d hd => ⟨by have := cnt_mem hd; omega, by have := wts_mem hd; omega⟩) (by omega)).mono fun e W1 ⟨j', U1, e1, _, hJ1, hb1, hnew⟩ => ⟨j', e1, ?_⟩⟩
  have hE1 : FFr U U1 (W.setCell ⟨r, 1, none⟩ (.slice none 0 0)) W1 := ⟨hb1.os, hb1.tape, hb1.output, hb1.size, fun q p1 _ => hb1.block q p1, fun q o => (hnew q o).imp (hOU q) id⟩
  exact ⟨S, ⟨J.G, [], J.parts, false⟩, U1, V, k, hP1.stepJ hJ1 hE1, hF.opened m⟩
theorem crash_chain (w W : World) (f r j i n : Nat) (X : Int) (h : PI w W f r j i n) (hi : i < 100) :
    Calls Tryz.prog 27 #[.pointer (some ⟨f, 0, none⟩), .int .i64 X] W fun e W1 => e = .returned (.tuple #[]) ∧ PI w W1 f r j i n := by
  obtain ⟨S, J, U, V, k, hP, hF⟩ := h
  have f1 := hF.hk
  obtain ⟨Of, hFs, hOU, _, hst⟩ := hP.js.fs
  refine (crash_any X f S Of k W hFs (by omega) (by rw [hF.pend]; simp; omega)).mono fun e W1 ⟨e1, O1, hF1, hE1⟩ => ⟨e1, ?_⟩
  obtain ⟨hJ1, hE⟩ := hst W1 _ O1 k hF1 hE1
  exact ⟨_, J, _, V, k, hP.stepJ hJ1 hE, hF.crash⟩
set_option maxRecDepth 20000 in
set_option maxHeartbeats 2000000 in
theorem does_commit (w W : World) (f r j i n m : Nat) (N : Int) (a : Option Addr) (l c : Nat) (h : PI w W f r j i n) (hi : i < 100) (hn : n ≤ 12000) :
    Calls Tryz.prog 17 #[.pointer (some ⟨f, 0, none⟩), .pointer (some ⟨j, 0, none⟩), .pointer (some ⟨r, 0, none⟩), .agg #[.int .i64 2, .int .i64 N, .slice a l c]] W fun e W' => ∃ j', e = .returned (.tuple #[.pointer (some ⟨j', 0, none⟩), .bool true]) ∧ PI w W' f r j' (i + 1) (n + m) := by
  have HC := hide (commit_chain w (W.alloc (.cells #[.int .i64 2, .int .i64 N, .slice a l c] 41)) f r j i n m (h.box _) hi hn)
  clear h hi hn
  go_enter Tryz.func17, Tryz.ntmps17
  go_wp2_with fail
  refine (unhide HC).mono ?_
  rintro e W1 ⟨rfl, HD⟩
  clear HC
  go_wp2_with fail
  refine (unhide HD).mono ?_
  rintro e W2 ⟨rfl, HE⟩
  clear HD
  go_wp2_with fail
  exact bodyPost_ret (by simp [results, Tryz.results17]) rfl ⟨_, rfl, unhide HE⟩
set_option maxRecDepth 20000 in
set_option maxHeartbeats 2000000 in
theorem does_drop (w W : World) (f r j i n m : Nat) (N : Int) (a : Option Addr) (l c : Nat) (h : PI w W f r j i n) :
    Calls Tryz.prog 17 #[.pointer (some ⟨f, 0, none⟩), .pointer (some ⟨j, 0, none⟩), .pointer (some ⟨r, 0, none⟩), .agg #[.int .i64 3, .int .i64 N, .slice a l c]] W fun e W' => ∃ j', e = .returned (.tuple #[.pointer (some ⟨j', 0, none⟩), .bool true]) ∧ PI w W' f r j' (i + 1) (n + m) := by
  have HC := hide (drop_chain w (W.alloc (.cells #[.int .i64 3, .int .i64 N, .slice a l c] 41)) f r j i n m (h.box _))
  clear h
  go_enter Tryz.func17, Tryz.ntmps17
  go_wp2_with fail
  refine (unhide HC).mono ?_
  rintro e W1 ⟨rfl, ⟨x, hx⟩, hz, HE⟩
  clear HC
  go_wp2_with fail
  exact bodyPost_ret (by simp [results, Tryz.results17]) rfl ⟨_, rfl, unhide HE⟩
set_option maxRecDepth 20000 in
set_option maxHeartbeats 2000000 in
theorem does_reset (w W : World) (f r j i n m : Nat) (N : Int) (a : Option Addr) (l c : Nat) (h : PI w W f r j i n) (hi : i < 100) (hn : n ≤ 12000) :
    Calls Tryz.prog 17 #[.pointer (some ⟨f, 0, none⟩), .pointer (some ⟨j, 0, none⟩), .pointer (some ⟨r, 0, none⟩), .agg #[.int .i64 4, .int .i64 N, .slice a l c]] W fun e W' => ∃ j', e = .returned (.tuple #[.pointer (some ⟨j', 0, none⟩), .bool true]) ∧ PI w W' f r j' (i + 1) (n + m) := by
  obtain ⟨⟨x, hx⟩, hz, hC⟩ := reset_chain w (W.alloc (.cells #[.int .i64 4, .int .i64 N, .slice a l c] 41)) f r j i n m (h.box _) hi hn
  have HC := hide hC
  clear h hi hn hC
  go_enter Tryz.func17, Tryz.ntmps17
  go_wp2_with fail
  refine (unhide HC).mono ?_
  rintro e W1 ⟨rfl, HE⟩
  clear HC
  go_wp2_with fail
  exact bodyPost_ret (by simp [results, Tryz.results17]) rfl ⟨_, rfl, unhide HE⟩
set_option maxRecDepth 20000 in
set_option maxHeartbeats 2000000 in
theorem does_crash (w W : World) (f r j i n m : Nat) (N : Int) (a : Option Addr) (l c : Nat) (h : PI w W f r j i n) (hi : i < 100) (hn : n ≤ 12000) :
    Calls Tryz.prog 17 #[.pointer (some ⟨f, 0, none⟩), .pointer (some ⟨j, 0, none⟩), .pointer (some ⟨r, 0, none⟩), .agg #[.int .i64 5, .int .i64 N, .slice a l c]] W fun e W' => ∃ j', e = .returned (.tuple #[.pointer (some ⟨j', 0, none⟩), .bool true]) ∧ PI w W' f r j' (i + 1) (n + m) := by
  have HC : Hid (Calls Tryz.prog 27 #[.pointer (some ⟨f, 0, none⟩), .int .i64 N] (W.alloc (.cells #[.int .i64 5, .int .i64 N, .slice a l c] 41)) fun e W1 => e = .returned (.tuple #[]) ∧ (∃ x, W1.cell? ⟨r, 1, none⟩ = some x) ∧ W1.frozen? ⟨r, 1, none⟩ = false ∧ Hid (Calls Tryz.prog 16 #[.pointer (some ⟨f, 0, none⟩), .string nmL] (W1.setCell ⟨r, 1, none⟩ (.slice none 0 0)) fun e W2 => ∃ j', e = .returned (.tuple #[.pointer (some ⟨j', 0, none⟩), .int .i64 0]) ∧ Hid (PI w W2 f r j' (i + 1) (n + m)))) :=
    (crash_chain w _ f r j i n N (h.box _) hi).mono fun e W1 ⟨e1, h1⟩ => ⟨e1, open_chain w W1 f r j i n m h1 hi hn⟩
  clear h hi hn
  go_enter Tryz.func17, Tryz.ntmps17
  go_wp2_with fail
  refine (unhide HC).mono ?_
  rintro e W1 ⟨rfl, ⟨x, hx⟩, hz, HO⟩
  clear HC
  go_wp2_with fail
  refine (unhide HO).mono ?_
  rintro e W2 ⟨j', rfl, HE⟩
  clear HO
  go_wp2_with fail
  exact bodyPost_ret (by simp [results, Tryz.results17]) rfl ⟨_, rfl, unhide HE⟩
set_option maxRecDepth 20000 in
set_option maxHeartbeats 2000000 in
theorem does_open (w W : World) (f r j i n m : Nat) (K N : Int) (a : Option Addr) (l c : Nat) (h : PI w W f r j i n) (hi : i < 100) (hn : n ≤ 12000) (h1 : ¬ K = 1) (h2 : ¬ K = 2) (h3 : ¬ K = 3) (h4 : ¬ K = 4) (h5 : ¬ K = 5) :
    Calls Tryz.prog 17 #[.pointer (some ⟨f, 0, none⟩), .pointer (some ⟨j, 0, none⟩), .pointer (some ⟨r, 0, none⟩), .agg #[.int .i64 K, .int .i64 N, .slice a l c]] W fun e W' => ∃ j', e = .returned (.tuple #[.pointer (some ⟨j', 0, none⟩), .bool true]) ∧ PI w W' f r j' (i + 1) (n + m) := by
  obtain ⟨⟨x, hx⟩, hz, hC⟩ := open_chain w (W.alloc (.cells #[.int .i64 K, .int .i64 N, .slice a l c] 41)) f r j i n m (h.box _) hi hn
  have HC := hide hC
  clear h hi hn hC
  go_enter Tryz.func17, Tryz.ntmps17
  go_wp2_with fail
  refine (unhide HC).mono ?_
  rintro e W2 ⟨j', rfl, HE⟩
  clear HC
  go_wp2_with fail
  exact bodyPost_ret (by simp [results, Tryz.results17]) rfl ⟨_, rfl, unhide HE⟩
/-- A step, whatever it is. -/
theorem does_any (w W : World) (f r j i n : Nat) (K N : Int) (a : Option Addr) (c : Nat) (B : List UInt8) (h : PI w W f r j i n) (hrow : Row w.heap.size w (.slice a B.length c) B) (hi : i < 100) (hn : n + B.length ≤ 12000) :
    Calls Tryz.prog 17 #[.pointer (some ⟨f, 0, none⟩), .pointer (some ⟨j, 0, none⟩), .pointer (some ⟨r, 0, none⟩), .agg #[.int .i64 K, .int .i64 N, .slice a B.length c]] W fun e W' => ∃ j', e = .returned (.tuple #[.pointer (some ⟨j', 0, none⟩), .bool true]) ∧ PI w W' f r j' (i + 1) (n + B.length) := by
  by_cases h1 : K = 1
  · subst h1; exact does_add w W f r j i n N a c B h hrow hi hn
  by_cases h2 : K = 2
  · subst h2; exact does_commit w W f r j i n B.length N a B.length c h hi (by omega)
  by_cases h3 : K = 3
  · subst h3; exact does_drop w W f r j i n B.length N a B.length c h
  by_cases h4 : K = 4
  · subst h4; exact does_reset w W f r j i n B.length N a B.length c h hi (by omega)
  by_cases h5 : K = 5
  · subst h5; exact does_crash w W f r j i n B.length N a B.length c h hi (by omega)
  · exact does_open w W f r j i n B.length K N a B.length c h hi (by omega) h1 h2 h3 h4 h5
end Go.Proofs.YtebcmicmklpflaaGreatDoor
