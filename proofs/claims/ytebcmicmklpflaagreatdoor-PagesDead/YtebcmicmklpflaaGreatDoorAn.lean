/- PagesDead: a Commit behind a burnt fuse, and what a dead Pager answers. -/
import Derived.Test.YtebcmicmklpflaaGreatDoorAk
import Derived.Test.YtebcmicmklpflaaGreatDoorAf
namespace Go.Proofs.YtebcmicmklpflaaGreatDoor
open Go.RowKit Go.Maps
set_option linter.unusedSimpArgs false
/-- What is left of a Pager that is dead. -/
structure DeadP (w0 w' : World) (f p : Nat) (S : Fs) (k : Nat) : Prop where
  fs : ∃ Of, FsIs w' f 0 S Of k ∧ (∀ q, Of q → w0.heap.size ≤ q) ∧ ¬ Of p
  cell : w'.cell? ⟨p, 776, none⟩ = some (.bool true)
  bel : Below w0.heap.size w0 w'
theorem commit_px_dead {w0 w : World} {f j p : Nat} {nm : ByteArray} {S : Fs} {F : Fl} {G : Pgr} {nv : Value} {k : Nat} (hT : Tab w0) (hX : PX w0 w f j p nm S ⟨[], [], 0, false⟩ F G (.slice none 0 0) nv k) (hok : G.Ok) (hsz : G.Sz) (hd : G.dead = false) (hne : cntTo G.dirty 256 ≠ 0) (hpos : 0 < G.now.length) (hq : F.Quiet) (hw : wt (recsTo G.now G.dirty 256) ≤ 524288) (hrne : recsTo G.now G.dirty 256 ≠ []) (hf : S.fuse = some 0) :
    Calls Tryz.prog 38 #[.pointer (some ⟨p, 0, none⟩)] w fun e w' => e = .returned (.int .i64 26) ∧ DeadP w0 w' f p S k := by
  refine (commit_walk hT hX hok hsz hd hne hpos rfl rfl hq hw (fun c w' => c = 26 ∧ DeadP w0 w' f p S k) (fun W h => ?_)).mono fun e w' ⟨c, e1, h0, h1⟩ => ⟨by rw [e1, h0], h1⟩
  obtain ⟨U, O, g, g1, g2, g3⟩ := h
  have hl := recsTo_len G.now G.dirty 256
  have hpU : ¬ U p := fun o => g.dis p o (.inl rfl)
  refine (commit_dead2 W f j nm S _ U k g.js hf rfl rfl hrne (by simp) (by show (recsTo G.now G.dirty 256).length ≤ _; omega) (by show wt (recsTo G.now G.dirty 256) ≤ _; omega) (by simp [wts])).mono fun e W1 ⟨e1, ⟨Of, hF, hnj, hOU⟩, ⟨gv, lv, hj⟩, hE⟩ => ⟨26, e1, by decide, by decide, fun _ => ?_, fun h => absurd h (by decide)⟩
  obtain ⟨_, _, _, _, _, c8, c9, _, cz⟩ := jn_cells hj
  refine (drop_deferred j _ _ W1 c8 c9 cz).mono fun e u' W2 ⟨eu, e2, e3⟩ => ⟨eu, e2, ?_⟩
  have hset : ∀ b, b ≠ j → W2.heap[b]? = W1.heap[b]? := fun b hb => by rw [e3, set_other _ _ _ _ _ hb, set_other _ _ _ _ _ hb]
  have hs2 : W2.heap.size = W1.heap.size := by rw [e3]; simp
  have hjU : U j := by obtain ⟨_, _, _, _, _, _, _, _, _, _, _, _, u4, _⟩ := g.js; exact u4
  have hpj : p ≠ j := fun e => hpU (e ▸ hjU)
  have hpl := g.pm.pb.lt
  have hp2 : W2.heap[p]? = W.heap[p]? := by rw [hset p hpj, hE.rest p hpl hpU]
  have hP2 := g.pm.pb.kept hp2
  refine ⟨⟨_, hP2.cell (by omega)⟩, hP2.frozen 776, rfl, ?_, ?_, ?_⟩
  · refine ⟨Of, hF.kept (by rw [size_set, hs2]; exact Nat.le_refl _) (fun q o => ?_), fun q o => g2 q (hOU q o), fun o => hpU (hOU p o)⟩
    have hqp : q ≠ p := fun e => hpU (by rw [← e]; exact hOU q o)
    rw [set_other _ _ _ _ _ hqp, hset q (fun e => hnj (e ▸ o))]
  · exact (hP2.set (i := 776) (by omega) (.bool true)).cell (i := 776) (by omega)
  · have h2 : W2.os = W1.os ∧ W2.tape = W1.tape ∧ W2.output = W1.output := by rw [e3]; exact ⟨rfl, rfl, rfl⟩
    refine ⟨h2.1.trans (hE.os.trans g1.os), h2.2.1.trans (hE.tape.trans g1.tape), h2.2.2.trans (hE.output.trans g1.output), by rw [size_set, hs2]; exact Nat.le_trans g1.size hE.size, fun q hq => ?_⟩
    have hpw := g3 p (.inl rfl)
    have hjw := g2 j hjU
    rw [set_other _ _ _ _ _ (by omega), hset q (by omega), hE.rest q (Nat.lt_of_lt_of_le hq g1.size) (fun o => by have := g2 q o; omega)]
    exact g1.block q hq
set_option maxRecDepth 20000 in
theorem prefusal_dead (p : Nat) (w : World) (c776 : w.cell? ⟨p, 776, none⟩ = some (.bool true)) : Calls Tryz.prog 87 #[.pointer (some ⟨p, 0, none⟩)] w fun e w' => e = .returned (.int .i64 26) ∧ w' = w := by
  go_enter Tryz.func87, Tryz.ntmps87
  go_wp2_with fail
  go_ret
  exact ⟨rfl, rfl⟩
set_option maxRecDepth 20000 in
theorem pnew_dead (p : Nat) (w : World) (c776 : w.cell? ⟨p, 776, none⟩ = some (.bool true)) : Calls Tryz.prog 40 #[.pointer (some ⟨p, 0, none⟩)] w fun e w' => e = .returned (.tuple #[.int .i64 0, .int .i64 26]) ∧ w' = w := by
  have HR := hide (prefusal_dead p w c776)
  go_enter Tryz.func40, Tryz.ntmps40
  go_wp2_with fail
  refine (unhide HR).mono ?_
  rintro e w' ⟨rfl, rfl⟩
  go_wp2_with fail
  exact bodyPost_ret (by simp [results, Tryz.results40]) rfl ⟨rfl, rfl⟩
set_option maxRecDepth 20000 in
theorem pput_dead (p : Nat) (n : Int) (a : Option Addr) (l c : Nat) (w : World) (c776 : w.cell? ⟨p, 776, none⟩ = some (.bool true)) : Calls Tryz.prog 41 #[.pointer (some ⟨p, 0, none⟩), .int .i64 n, .slice a l c] w fun e w' => e = .returned (.int .i64 26) ∧ w' = w := by
  have HR := hide (prefusal_dead p w c776)
  go_enter Tryz.func41, Tryz.ntmps41
  go_wp2_with fail
  refine (unhide HR).mono ?_
  rintro e w' ⟨rfl, rfl⟩
  go_wp2_with fail
  go_ret
  exact ⟨rfl, rfl⟩
set_option maxRecDepth 20000 in
theorem pfree_dead (p : Nat) (n : Int) (w : World) (c776 : w.cell? ⟨p, 776, none⟩ = some (.bool true)) : Calls Tryz.prog 42 #[.pointer (some ⟨p, 0, none⟩), .int .i64 n] w fun e w' => e = .returned (.int .i64 26) ∧ w' = w := by
  have HR := hide (prefusal_dead p w c776)
  go_enter Tryz.func42, Tryz.ntmps42
  go_wp2_with fail
  refine (unhide HR).mono ?_
  rintro e w' ⟨rfl, rfl⟩
  go_wp2_with fail
  go_ret
  exact ⟨rfl, rfl⟩
set_option maxRecDepth 20000 in
theorem pcommit_dead (p : Nat) (w : World) (c776 : w.cell? ⟨p, 776, none⟩ = some (.bool true)) : Calls Tryz.prog 38 #[.pointer (some ⟨p, 0, none⟩)] w fun e w' => e = .returned (.int .i64 26) ∧ w' = w := by
  have HR := hide (prefusal_dead p w c776)
  go_enter Tryz.func38, Tryz.ntmps38
  go_wp2_with fail
  refine (unhide HR).mono ?_
  rintro e w' ⟨rfl, rfl⟩
  go_wp2_with fail
  go_ret
  exact ⟨rfl, rfl⟩
def nmPg : ByteArray := ⟨#[112, 97, 103, 101, 115]⟩
theorem pdead_pre (a : Option Addr) (c : Nat) (d : List UInt8) (w : World) (hrow : Row w.heap.size w (.slice a d.length c) d) (hd : d.length ≤ 512) (hT : Tab w) (hP : PowAt w) :
    Calls Tryz.prog 15 #[.int .i64 1048576] w fun e w1 => ∃ f, e = .returned (.tuple #[.pointer (some ⟨f, 0, none⟩), .int .i64 0]) ∧ Hid (Calls Tryz.prog 35 #[.pointer (some ⟨f, 0, none⟩), .string nmPg] w1 fun e w2 => ∃ p, e = .returned (.tuple #[.pointer (some ⟨p, 0, none⟩), .int .i64 0]) ∧ Hid (Calls Tryz.prog 40 #[.pointer (some ⟨p, 0, none⟩)] w2 fun e w3 => e = .returned (.tuple #[.int .i64 0, .int .i64 0]) ∧ Hid (Calls Tryz.prog 41 #[.pointer (some ⟨p, 0, none⟩), .int .i64 0, .slice a d.length c] w3 fun e w4 => e = .returned (.int .i64 0) ∧ Hid (Calls Tryz.prog 21 #[.pointer (some ⟨f, 0, none⟩), .int .i64 0] w4 fun e w5 => e = .returned (.tuple #[]) ∧ Hid (Calls Tryz.prog 38 #[.pointer (some ⟨p, 0, none⟩)] w5 fun e w6 => e = .returned (.int .i64 26) ∧ Hid (Calls Tryz.prog 21 #[.pointer (some ⟨f, 0, none⟩), .int .i64 (-1)] w6 fun e w7 => e = .returned (.tuple #[]) ∧ Hid (w7.cell? ⟨p, 776, none⟩ = some (.bool true) ∧ Below w.heap.size w w7))))))) := by
  refine (new_ok 1048576 w (by omega)).mono fun e w1 ⟨e1, hF1, hb1⟩ => ⟨w.heap.size, e1, ?_⟩
  have ht := hT.lt
  refine (popen_none w.heap.size (Fs.new 1048576) (fun q => q = w.heap.size) 0 nmPg w1 hF1 rfl (by omega) (by decide) (by decide) (fun _ => rfl) (hT.kept (hb1.block 0 ht)) (hP.below hb1)).mono fun e w2 ⟨j, p, U, e2, hPS, hp, hU, hb2⟩ => ⟨p, e2, ?_⟩
  have hX2 := PX.start hb1 (fun q (o : q = w.heap.size) => by omega) hPS hp hU hb2
  obtain ⟨fr, hz, hz0⟩ := new_zero
  refine (pnew_px hT hX2 Pgr.Ok.zero rfl (by simp [Pgr.zero])).mono fun e w3 ⟨e3, nv3, hX3⟩ => ⟨by rw [e3, hz0]; rfl, ?_⟩
  have hok3 : (one0 [] [] fr).Ok := hz ▸ Pgr.Ok.zero.new (by simp [Pgr.zero])
  have hsz3 : (one0 [] [] fr).Sz := hz ▸ Pgr.Sz.zero.new
  rw [hz] at hX3
  refine (pput_px hX3 rfl 0 (one0_has _ _ _) a d.length c d (row_below hrow hX3.bel) rfl hd).mono fun e w4 ⟨e4, nv4, hX4⟩ => ⟨e4, ?_⟩
  have hok4 := hok3.chg (n := 0) (by simp [one0]) (some d)
  have hsz4 := hsz3.chg 0 (some d) (by simpa using hd)
  rw [one0_chg] at hX4 hok4 hsz4
  refine (hX4.fuse (P := fun e => e = .returned (.tuple #[])) (fun Of hF => (fuse_ok w.heap.size _ Of 0 0 w4 hF (by omega)).mono fun e w5 ⟨e5, hF5, hE5⟩ => ⟨e5, Of, hF5, hE5⟩)).mono fun e w5 ⟨e5, hX5⟩ => ⟨e5, ?_⟩
  have hne4 : cntTo (one0 [] d (mset fr 0 false)).dirty 256 ≠ 0 := by rw [one0_dirty]; exact s0_count
  have hw4 : wt (recsTo (one0 [] d (mset fr 0 false)).now (one0 [] d (mset fr 0 false)).dirty 256) ≤ 524288 := by rw [one0_dirty]; exact Nat.le_trans (s0_wt hsz4) (by omega)
  have hr4 : recsTo (one0 [] d (mset fr 0 false)).now (one0 [] d (mset fr 0 false)).dirty 256 ≠ [] := by rw [one0_dirty, s0_recs]; simp
  refine (commit_px_dead hT hX5 hok4 hsz4 rfl hne4 (by simp [one0]) (one0_quiet _ _ _) hw4 hr4 rfl).mono fun e w6 ⟨e6, hD⟩ => ⟨e6, ?_⟩
  obtain ⟨Of, hF6, hO6, hp6⟩ := hD.fs
  refine (fuse_off w.heap.size _ Of 0 w6 hF6).mono fun e w7 ⟨e7, _, hE7⟩ => ⟨e7, hE7.cell? hp6 hD.cell, ?_⟩
  exact (Away.step ⟨hD.bel, hO6⟩ hE7).bel
end Go.Proofs.YtebcmicmklpflaaGreatDoor
