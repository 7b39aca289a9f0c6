/- A Crash that keeps all that is pending. -/
import Derived.Test.YtebcmicmklpflaaGreatDoorSc
namespace Go.Proofs.YtebcmicmklpflaaGreatDoor
open Go.RowKit Go.Maps
set_option linter.unusedSimpArgs false
set_option maxRecDepth 20000 in
set_option maxHeartbeats 2000000 in
theorem crash_any (X : Int) (f : Nat) (S : Fs) (O : Nat → Prop) (k : Nat) (w : World) (h : FsIs w f 0 S O k) (hk : k ≤ 16000) (hX : (S.pend.length : Int) ≤ max X 0) :
    Calls Tryz.prog 27 #[.pointer (some ⟨f, 0, none⟩), .int .i64 X] w fun e w' => e = .returned (.tuple #[]) ∧ ∃ O', FsIs w' f 0 (S.lasts none) O' k ∧ FFr O O' w w' := by
  obtain ⟨K, n, l, pv, ps, hM, hnk, hex⟩ := h
  obtain ⟨h0, _, _, _, _, _, _, _, _, hz⟩ := hM.cells
  obtain ⟨W1, hW1⟩ : ∃ W1, W1 = w.setCell ⟨f, 0, none⟩ (.int .i32 1) := ⟨_, rfl⟩
  have hM1 : FsM W1 f 1 S S.pend O K n l pv ps := by rw [hW1]; exact hM.lock 1
  have HF1 : Hid (FFr O O w W1) := by rw [hW1]; exact FFr.cell hM.of _ _
  have HL0 := hide (lock_free ⟨f, 0, none⟩ w h0 (hz 0))
  rw [← hW1] at HL0
  have HS := hide (settle_all hM1 (by omega))
  obtain ⟨_, _, _, _, _, _, c7, _, _, _⟩ := hM1.cells
  have hpv : ∃ a c, pv = .slice a S.pend.length c := by
    rcases hM1.row.2 with ⟨e, e2⟩ | ⟨g, cap, cur, e, _⟩
    · exact ⟨none, 0, by rw [e, e2]⟩
    · exact ⟨_, _, e⟩
  obtain ⟨pa, pc, rfl⟩ := hpv
  have hpl := hM.pl
  clear hM hM1 hz hW1
  generalize hPL : S.pend.length = PL at *
  clear hPL
  have hp1 : (PL : Int) ≤ 16383 := by omega
  have HMin : Hid (min (max X 0) (PL : Int) = (PL : Int)) := by show min (max X 0) (PL : Int) = (PL : Int); omega
  clear hX
  go_enter_defers Tryz.func27, Tryz.ntmps27
  go_wp2_with fail
  refine (unhide HL0).mono ?_
  rintro e w' ⟨rfl, rfl⟩
  go_wp2_with fail
  rw [unhide HMin]
  refine (unhide HS).mono ?_
  rintro e w2 ⟨rfl, O2, l2, hM2, hF2⟩
  have hM3 := hM2.fuse none (by simp)
  simp only [Option.isSome_none, Option.getD_none] at hM3
  obtain ⟨g0, _, _, _, _, _, _, _, _, gz⟩ := hM3.cells
  have gz0 := gz 0
  obtain ⟨_, _, _, _, _, _, _, d8, d9, dz⟩ := hM2.cells
  have z8 := dz 8
  have z9 := dz 9
  have HE : Hid (∃ O', FsIs (((w2.setCell ⟨f, 8, none⟩ (.bool false)).setCell ⟨f, 9, none⟩ (.int .i64 ((0 : Nat) : Int))).setCell ⟨f, 0, none⟩ (.int .i32 0)) f 0 (S.lasts none) O' k ∧ FFr O O' w (((w2.setCell ⟨f, 8, none⟩ (.bool false)).setCell ⟨f, 9, none⟩ (.int .i64 ((0 : Nat) : Int))).setCell ⟨f, 0, none⟩ (.int .i32 0))) :=
    ⟨O2, ⟨K, n, l2, _, _, hM3.lock 0, hnk, hex⟩, (unhide HF1).trans (hF2.trans ((FFr.cell hM2.of _ _).trans ((FFr.cell hM2.of _ _).trans (FFr.cell hM2.of _ _))))⟩
  clear hM2 hF2 hM3 gz dz
  go_wp2_with fail
  refine leaves_cons (f := 55) (args := #[.pointer (some ⟨f, 0, none⟩)]) (by simp) (by simp [go_sem]) ?_
  refine (unlock_deferred ⟨f, 0, none⟩ .returning _ g0 gz0).mono ?_
  rintro e u' w3 ⟨rfl, rfl, rfl⟩
  exact ⟨_, results_none rfl _ _ _, rfl, unhide HE⟩
end Go.Proofs.YtebcmicmklpflaaGreatDoor
