/- Sync, Crash that keeps all, Fuse; and a Write behind a burnt fuse. -/
import Derived.Test.YtbnbakcoomjnaaaJc
import Derived.Test.YtbnbakcoomjnaaaHd
namespace Go.Proofs.Ytbnbakcoomjnaaa
open Go.RowKit Go.Maps
set_option linter.unusedSimpArgs false
/-- A FS whose things last. -/
def Fs.lasts (S : Fs) (fu : Option Nat) : Fs := ⟨S.room, S.now, S.now, [], fu⟩
theorem FFr.cell {O : Nat → Prop} {w : World} {f : Nat} (h : O f) (j : Nat) (v : Value) : FFr O O w (w.setCell ⟨f, j, none⟩ v) :=
  ⟨rfl, rfl, rfl, by rw [size_set]; exact Nat.le_refl _, fun q _ hq => set_other _ _ _ _ _ (fun e => hq (by rw [e]; exact h)), fun _ o => .inl o⟩
set_option maxRecDepth 20000 in
set_option maxHeartbeats 2000000 in
theorem sync_ok (f : Nat) (S : Fs) (O : Nat → Prop) (k : Nat) (w : World) (h : FsIs w f 0 S O k) (hk : k ≤ 16000) (hf : S.fuse ≠ some 0) :
    Calls Try.prog 11 #[.pointer (some ⟨f, 0, none⟩)] w fun e w' => e = .returned (.int .i64 0) ∧ ∃ O', FsIs w' f 0 (S.lasts (S.fuse.map Nat.pred)) O' k ∧ FFr O O' w w' := by
  obtain ⟨K, n, l, pv, ps, hM, hnk, hex⟩ := h
  obtain ⟨h0, _, _, _, _, _, _, _, _, hz⟩ := hM.cells
  obtain ⟨W1, hW1⟩ : ∃ W1, W1 = w.setCell ⟨f, 0, none⟩ (.int .i32 1) := ⟨_, rfl⟩
  have hM1 : FsM W1 f 1 S S.pend O K n l pv ps := by rw [hW1]; exact hM.lock 1
  have HF1 : Hid (FFr O O w W1) := by rw [hW1]; exact FFr.cell hM.of _ _
  have HL0 := hide (lock_free ⟨f, 0, none⟩ w h0 (hz 0))
  rw [← hW1] at HL0
  have HD := hide (dead_not hM1 hf)
  have HS := hide (settle_all hM1 (by omega))
  obtain ⟨_, _, _, _, _, _, c7, _, _, _⟩ := hM1.cells
  have hpv : ∃ a c, pv = .slice a S.pend.length c := by
    rcases hM1.row.2 with ⟨e, e2⟩ | ⟨g, cap, cur, e, _⟩
    · exact ⟨none, 0, by rw [e, e2]⟩
    · exact ⟨_, _, e⟩
  obtain ⟨pa, pc, rfl⟩ := hpv
  clear hM hM1 hz hW1
  generalize hPL : S.pend.length = PL at *
  clear hPL
  go_enter_defers Try.func11, Try.ntmps11
  go_wp2_with fail
  refine (unhide HL0).mono ?_
  rintro e w' ⟨rfl, rfl⟩
  go_wp2_with fail
  refine (unhide HD).mono ?_
  rintro e w'' ⟨rfl, rfl⟩
  go_wp2_with fail
  refine (unhide HS).mono ?_
  rintro e w2 ⟨rfl, O2, l2, hM2, hF2⟩
  obtain ⟨w3, hB3, hM3, hF3⟩ := hM2.burnt hf
  obtain ⟨g0, _, _, _, _, _, _, _, _, gz⟩ := hM3.cells
  have gz0 := gz 0
  have HE : Hid (∃ O', FsIs (w3.setCell ⟨f, 0, none⟩ (.int .i32 0)) f 0 (S.lasts (S.fuse.map Nat.pred)) O' k ∧ FFr O O' w (w3.setCell ⟨f, 0, none⟩ (.int .i32 0))) :=
    ⟨O2, ⟨K, n, l2, _, _, hM3.lock 0, hnk, hex⟩, (unhide HF1).trans (hF2.trans (hF3.trans (FFr.cell hM3.of _ _)))⟩
  have HB := hide hB3
  clear hM2 hF2 hB3 hM3 hF3 gz
  go_wp2_with fail
  refine (unhide HB).mono ?_
  rintro e w4 ⟨rfl, rfl⟩
  go_wp2_with fail
  refine leaves_cons (f := 37) (args := #[.pointer (some ⟨f, 0, none⟩)]) (by simp) (by simp [go_sem]) ?_
  refine (unlock_deferred ⟨f, 0, none⟩ .returning _ g0 gz0).mono ?_
  rintro e u' w7 ⟨rfl, rfl, rfl⟩
  exact ⟨_, results_tmp rfl _ _ _, rfl, unhide HE⟩
set_option maxRecDepth 20000 in
set_option maxHeartbeats 2000000 in
theorem sync_dead (f : Nat) (S : Fs) (O : Nat → Prop) (k : Nat) (w : World) (h : FsIs w f 0 S O k) (hf : S.fuse = some 0) :
    Calls Try.prog 11 #[.pointer (some ⟨f, 0, none⟩)] w fun e w' => e = .returned (.int .i64 26) ∧ FsIs w' f 0 S O k ∧ Below w.heap.size w w' := by
  obtain ⟨K, n, l, pv, ps, hM, hnk⟩ := h
  obtain ⟨h0, _, _, _, _, _, _, _, _, hz⟩ := hM.cells
  obtain ⟨W1, hW1⟩ : ∃ W1, W1 = w.setCell ⟨f, 0, none⟩ (.int .i32 1) := ⟨_, rfl⟩
  have hM1 : FsM W1 f 1 S S.pend O K n l pv ps := by rw [hW1]; exact hM.lock 1
  have HL0 := hide (lock_free ⟨f, 0, none⟩ w h0 (hz 0))
  rw [← hW1] at HL0
  have HD := hide (dead_yes hM1 hf)
  obtain ⟨b1, b2, c2, z2⟩ := hM.back (Inv.refl _ _)
  rw [← hW1] at b1 b2 c2 z2
  have HE : Hid (FsIs (W1.setCell ⟨f, 0, none⟩ (.int .i32 0)) f 0 S O k ∧ Below w.heap.size w (W1.setCell ⟨f, 0, none⟩ (.int .i32 0))) := ⟨⟨K, n, l, pv, ps, b1, hnk⟩, b2⟩
  clear hM hM1 hW1 hz b1 b2
  go_enter_defers Try.func11, Try.ntmps11
  go_wp2_with fail
  refine (unhide HL0).mono ?_
  rintro e w' ⟨rfl, rfl⟩
  go_wp2_with fail
  refine (unhide HD).mono ?_
  rintro e w'' ⟨rfl, rfl⟩
  go_wp2_with fail
  refine leaves_cons (f := 37) (args := #[.pointer (some ⟨f, 0, none⟩)]) (by simp) (by simp [go_sem]) ?_
  refine (unlock_deferred ⟨f, 0, none⟩ .returning _ c2 z2).mono ?_
  rintro e u' w3 ⟨rfl, rfl, rfl⟩
  exact ⟨_, results_tmp rfl _ _ _, rfl, (unhide HE).1, (unhide HE).2⟩
/-- The fuse is set. -/
theorem FsM.fuse {w : World} {f : Nat} {lk : Int} {S : Fs} {X : List Th} {O : Nat → Prop} {K : Nat → Option (List UInt8)} {n l : Lie} {pv : Value} {ps : List Value} (h : FsM w f lk S X O K n l pv ps) (fu : Option Nat) (hb : fu.getD 0 ≤ 9223372036854775807) : FsM ((w.setCell ⟨f, 8, none⟩ (.bool fu.isSome)).setCell ⟨f, 9, none⟩ (.int .i64 ((fu.getD 0 : Nat) : Int))) f lk { S with fuse := fu } X O K n l pv ps := by
  refine h.reset rfl rfl rfl rfl hb (by rw [size_set, size_set]; exact Nat.le_refl _) ?_ (fun q _ hne => by rw [set_other _ _ _ _ _ hne, set_other _ _ _ _ _ hne])
  have := h.blk
  simp [World.setCell, Array.getElem?_modify, this, fsBlk]
set_option maxRecDepth 20000 in
set_option maxHeartbeats 2000000 in
theorem fuse_ok (f : Nat) (S : Fs) (O : Nat → Prop) (k : Nat) (m : Nat) (w : World) (h : FsIs w f 0 S O k) (hm : m ≤ 1000000) :
    Calls Try.prog 17 #[.pointer (some ⟨f, 0, none⟩), .int .i64 (m : Int)] w fun e w' => e = .returned (.tuple #[]) ∧ FsIs w' f 0 { S with fuse := some m } O k ∧ FFr O O w w' := by
  obtain ⟨K, n, l, pv, ps, hM, hnk⟩ := h
  obtain ⟨h0, _, _, _, _, _, _, _, _, hz⟩ := hM.cells
  obtain ⟨W1, hW1⟩ : ∃ W1, W1 = w.setCell ⟨f, 0, none⟩ (.int .i32 1) := ⟨_, rfl⟩
  have hM1 : FsM W1 f 1 S S.pend O K n l pv ps := by rw [hW1]; exact hM.lock 1
  have hM2 := hM1.fuse (some m) (by simp; omega)
  simp only [Option.isSome_some, Option.getD_some] at hM2
  have HL0 := hide (lock_free ⟨f, 0, none⟩ w h0 (hz 0))
  rw [← hW1] at HL0
  have HF : Hid (FFr O O w W1) := by rw [hW1]; exact FFr.cell hM.of _ _
  obtain ⟨g0, _, _, _, _, _, _, _, _, gz⟩ := hM2.cells
  have gz0 := gz 0
  obtain ⟨_, _, _, _, _, _, _, d8, d9, dz⟩ := hM1.cells
  have z8 := dz 8
  have z9 := dz 9
  have HE : Hid (FsIs (((W1.setCell ⟨f, 8, none⟩ (.bool true)).setCell ⟨f, 9, none⟩ (.int .i64 (m : Int))).setCell ⟨f, 0, none⟩ (.int .i32 0)) f 0 { S with fuse := some m } O k ∧ FFr O O w (((W1.setCell ⟨f, 8, none⟩ (.bool true)).setCell ⟨f, 9, none⟩ (.int .i64 (m : Int))).setCell ⟨f, 0, none⟩ (.int .i32 0))) :=
    ⟨⟨K, n, l, pv, ps, hM2.lock 0, hnk⟩, (unhide HF).trans ((FFr.cell hM.of _ _).trans ((FFr.cell hM.of _ _).trans (FFr.cell hM.of _ _)))⟩
  clear hM hM1 hM2 hz gz dz hW1
  have hm0 : (0 : Int) ≤ (m : Int) := by omega
  go_enter_defers Try.func17, Try.ntmps17
  go_wp2_with fail
  refine (unhide HL0).mono ?_
  rintro e w' ⟨rfl, rfl⟩
  go_wp2_with fail
  refine leaves_cons (f := 37) (args := #[.pointer (some ⟨f, 0, none⟩)]) (by simp) (by simp [go_sem]) ?_
  refine (unlock_deferred ⟨f, 0, none⟩ .returning _ g0 gz0).mono ?_
  rintro e u' w3 ⟨rfl, rfl, rfl⟩
  exact ⟨_, results_none rfl _ _ _, rfl, (unhide HE).1, (unhide HE).2⟩
set_option maxRecDepth 20000 in
set_option maxHeartbeats 2000000 in
theorem crash_all (f : Nat) (S : Fs) (O : Nat → Prop) (k : Nat) (w : World) (h : FsIs w f 0 S O k) (hk : k ≤ 16000) :
    Calls Try.prog 14 #[.pointer (some ⟨f, 0, none⟩), .int .i64 1048576] w fun e w' => e = .returned (.tuple #[]) ∧ ∃ O', FsIs w' f 0 (S.lasts none) O' k ∧ FFr O O' w w' := by
  obtain ⟨K, n, l, pv, ps, hM, hnk, hex⟩ := h
  obtain ⟨h0, _, _, _, _, _, _, _, _, hz⟩ := hM.cells
  obtain ⟨W1, hW1⟩ : ∃ W1, W1 = w.setCell ⟨f, 0, none⟩ (.int .i32 1) := ⟨_, rfl⟩
  have hM1 : FsM W1 f 1 S S.pend O K n l pv ps := by rw [hW1]; exact hM.lock 1
  have HF1 : Hid (FFr O O w W1) := by rw [hW1]; exact FFr.cell hM.of _ _
  have HL0 := hide (lock_free ⟨f, 0, none⟩ w h0 (hz 0))
  rw [← hW1] at HL0
  have HS := hide (settle_all hM1 (by omega))
  obtain ⟨_, _, _, _, _, _, c7, _, _, _⟩ := hM1.cells
  have hpv : ∃ a c, pv = .slice a S.pend.length c := by
    rcases hM1.row.2 with ⟨e, e2⟩ | ⟨g, cap, cur, e, _⟩
    · exact ⟨none, 0, by rw [e, e2]⟩
    · exact ⟨_, _, e⟩
  obtain ⟨pa, pc, rfl⟩ := hpv
  have hpl := hM.pl
  clear hM hM1 hz hW1
  generalize hPL : S.pend.length = PL at *
  clear hPL
  have hp1 : (PL : Int) ≤ 16383 := by omega
  have HMin : Hid (min (max (1048576 : Int) 0) (PL : Int) = (PL : Int)) := by show min (max (1048576 : Int) 0) (PL : Int) = (PL : Int); omega
  go_enter_defers Try.func14, Try.ntmps14
  go_wp2_with fail
  refine (unhide HL0).mono ?_
  rintro e w' ⟨rfl, rfl⟩
  go_wp2_with fail
  rw [unhide HMin]
  refine (unhide HS).mono ?_
  rintro e w2 ⟨rfl, O2, l2, hM2, hF2⟩
  have hM3 := hM2.fuse none (by simp)
  simp only [Option.isSome_none, Option.getD_none] at hM3
  obtain ⟨g0, _, _, _, _, _, _, _, _, gz⟩ := hM3.cells
  have gz0 := gz 0
  obtain ⟨_, _, _, _, _, _, _, d8, d9, dz⟩ := hM2.cells
  have z8 := dz 8
  have z9 := dz 9
  have HE : Hid (∃ O', FsIs (((w2.setCell ⟨f, 8, none⟩ (.bool false)).setCell ⟨f, 9, none⟩ (.int .i64 ((0 : Nat) : Int))).setCell ⟨f, 0, none⟩ (.int .i32 0)) f 0 (S.lasts none) O' k ∧ FFr O O' w (((w2.setCell ⟨f, 8, none⟩ (.bool false)).setCell ⟨f, 9, none⟩ (.int .i64 ((0 : Nat) : Int))).setCell ⟨f, 0, none⟩ (.int .i32 0))) :=
    ⟨O2, ⟨K, n, l2, _, _, hM3.lock 0, hnk, hex⟩, (unhide HF1).trans (hF2.trans ((FFr.cell hM2.of _ _).trans ((FFr.cell hM2.of _ _).trans (FFr.cell hM2.of _ _))))⟩
  clear hM2 hF2 hM3 gz dz
  go_wp2_with fail
  refine leaves_cons (f := 37) (args := #[.pointer (some ⟨f, 0, none⟩)]) (by simp) (by simp [go_sem]) ?_
  refine (unlock_deferred ⟨f, 0, none⟩ .returning _ g0 gz0).mono ?_
  rintro e u' w3 ⟨rfl, rfl, rfl⟩
  exact ⟨_, results_none rfl _ _ _, rfl, unhide HE⟩
set_option maxRecDepth 20000 in
set_option maxHeartbeats 2000000 in
theorem change_dead (f : Nat) (S : Fs) (O : Nat → Prop) (k : Nat) (v u : Value) (w : World) (h : FsIs w f 0 S O k) (hf : S.fuse = some 0) :
    Calls Try.prog 27 #[.pointer (some ⟨f, 0, none⟩), v, u] w fun e w' => e = .returned (.int .i64 26) ∧ FsIs w' f 0 S O k ∧ Below w.heap.size w w' := by
  obtain ⟨K, n, l, pv, ps, hM, hnk⟩ := h
  obtain ⟨h0, _, _, _, _, _, _, _, _, hz⟩ := hM.cells
  obtain ⟨W1, hW1⟩ : ∃ W1, W1 = w.setCell ⟨f, 0, none⟩ (.int .i32 1) := ⟨_, rfl⟩
  have hM1 : FsM W1 f 1 S S.pend O K n l pv ps := by rw [hW1]; exact hM.lock 1
  have HL0 := hide (lock_free ⟨f, 0, none⟩ w h0 (hz 0))
  rw [← hW1] at HL0
  have HD := hide (dead_yes hM1 hf)
  obtain ⟨b1, b2, c2, z2⟩ := hM.back (Inv.refl _ _)
  rw [← hW1] at b1 b2 c2 z2
  have HE : Hid (FsIs (W1.setCell ⟨f, 0, none⟩ (.int .i32 0)) f 0 S O k ∧ Below w.heap.size w (W1.setCell ⟨f, 0, none⟩ (.int .i32 0))) := ⟨⟨K, n, l, pv, ps, b1, hnk⟩, b2⟩
  clear hM hM1 hW1 hz b1 b2
  go_enter_defers Try.func27, Try.ntmps27
  go_wp2_with fail
  refine (unhide HL0).mono ?_
  rintro e w' ⟨rfl, rfl⟩
  go_wp2_with fail
  refine (unhide HD).mono ?_
  rintro e w'' ⟨rfl, rfl⟩
  go_wp2_with fail
  refine leaves_cons (f := 37) (args := #[.pointer (some ⟨f, 0, none⟩)]) (by simp) (by simp [go_sem]) ?_
  refine (unlock_deferred ⟨f, 0, none⟩ .returning _ c2 z2).mono ?_
  rintro e u' w3 ⟨rfl, rfl, rfl⟩
  exact ⟨_, results_tmp rfl _ _ _, rfl, (unhide HE).1, (unhide HE).2⟩
set_option maxRecDepth 20000 in
theorem write_dead (f : Nat) (S : Fs) (O : Nat → Prop) (k : Nat) (s : ByteArray) (a : Option Addr) (n c : Nat) (w : World) (h : FsIs w f 0 S O k) (hf : S.fuse = some 0) :
    Calls Try.prog 10 #[.pointer (some ⟨f, 0, none⟩), .string s, .slice a n c] w fun e w' => e = .returned (.int .i64 26) ∧ FsIs w' f 0 S O k ∧ Below w.heap.size w w' := by
  have hb : Below w.heap.size w ((((w.alloc (.cells #[.pointer (some ⟨f, 0, none⟩)] 26)).alloc (.cells #[.string s] 9)).alloc (.cells #[.slice a n c] 22)).alloc (.cells #[.string s] 9)) := ((((Below.refl _ _).alloc (Nat.le_refl _) _).alloc (by simp) _).alloc (by simp; omega) _).alloc (by simp; omega) _
  have h1 : FsIs ((((w.alloc (.cells #[.pointer (some ⟨f, 0, none⟩)] 26)).alloc (.cells #[.string s] 9)).alloc (.cells #[.slice a n c] 22)).alloc (.cells #[.string s] 9)) f 0 S O k := by
    obtain ⟨K, n, l, pv, ps, hM, hk⟩ := h
    exact ⟨K, n, l, pv, ps, hM.below hb, hk⟩
  have HC := hide (fun v u => (change_dead f S O k v u _ h1 hf).mono fun e w' ⟨e1, h2, h3⟩ => (⟨e1, h2, hb.trans (h3.mono hb.size)⟩ : e = Ending.returned (.int .i64 26) ∧ FsIs w' f 0 S O k ∧ Below w.heap.size w w'))
  clear hb h1 h
  go_enter Try.func10, Try.ntmps10
  go_wp2_with fail
  refine (unhide HC _ _).mono ?_
  rintro e w9 ⟨rfl, hE⟩
  have HE := hide hE
  clear hE
  go_wp2_with fail
  go_ret
  exact ⟨rfl, unhide HE⟩
end Go.Proofs.Ytbnbakcoomjnaaa
