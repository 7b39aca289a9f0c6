/- Read of a name that is not there; a Write as mathematics. -/
import Derived.Test.YtebcmicmklpflaaGreatDoorIa
namespace Go.Proofs.YtebcmicmklpflaaGreatDoor
open Go.RowKit Go.Maps
set_option linter.unusedSimpArgs false
set_option maxRecDepth 20000 in
set_option maxHeartbeats 1000000 in
theorem read_none (f : Nat) (S : Fs) (O : Nat → Prop) (k : Nat) (s : ByteArray) (w : World) (h : FsIs w f 0 S O k) (hs : s.size ≤ maxLen) (hN : S.now.N s = none) :
    Calls Tryz.prog 30 #[.pointer (some ⟨f, 0, none⟩), .string s] w fun e w' => e = .returned (.tuple #[.slice none 0 0, .int .i64 7]) ∧ FsIs w' f 0 S O k ∧ Below w.heap.size w w' := by
  obtain ⟨K, n, l, pv, ps, hM, hnk⟩ := h
  obtain ⟨h0, _, _, _, _, _, _, _, _, hz⟩ := hM.cells
  obtain ⟨W1, hW1⟩ : ∃ W1, W1 = w.setCell ⟨f, 0, none⟩ (.int .i32 1) := ⟨_, rfl⟩
  have hM1 : FsM W1 f 1 S S.pend O K n l pv ps := by rw [hW1]; exact hM.lock 1
  obtain ⟨_, _, t3, _⟩ := hM1.cells
  have HH := hide (has_tab f 3 K n.m n.n S.now n.F n.b n.h s W1 t3 hM1.now.tab hs)
  rw [hN] at HH
  have HL0 := hide (lock_free ⟨f, 0, none⟩ w h0 (hz 0))
  rw [← hW1] at HL0
  obtain ⟨b1, b2, c2, z2⟩ := hM.back (Inv.refl _ _)
  rw [← hW1] at b1 b2 c2 z2
  have HE : Hid (FsIs (W1.setCell ⟨f, 0, none⟩ (.int .i32 0)) f 0 S O k ∧ Below w.heap.size w (W1.setCell ⟨f, 0, none⟩ (.int .i32 0))) := ⟨⟨K, n, l, pv, ps, b1, hnk⟩, b2⟩
  clear hM hM1 hW1 hN hz b1 b2
  go_enter_defers Tryz.func30, Tryz.ntmps30
  go_wp2_with fail
  refine (unhide HL0).mono ?_
  rintro e w' ⟨rfl, rfl⟩
  go_wp2_with fail
  refine (unhide HH).mono ?_
  rintro e w'' ⟨rfl, rfl⟩
  go_wp2_with fail
  refine leaves_cons (f := 55) (args := #[.pointer (some ⟨f, 0, none⟩)]) (by simp) (by simp [go_sem]) ?_
  refine (unlock_deferred ⟨f, 0, none⟩ .returning _ c2 z2).mono ?_
  rintro e u' w3 ⟨rfl, rfl, rfl⟩
  exact ⟨_, results_tmp2 rfl _ _ _, rfl, (unhide HE).1, (unhide HE).2⟩
/-- A Write, where what the name named has no other name. -/
theorem write_is (T : Tb) (s : ByteArray) (d : List UInt8) (z : Nat) (h : ∀ i, T.N s = some i → i ≠ z ∧ T.c i = 1) :
    (T.write s d z).N = upd T.N s (some z) ∧ (T.write s d z).D = updN T.D z d ∧ (T.write s d z).u = T.u + (d.length : Int) - (T.alone s : Int) ∧ (T.write s d z).c z = 1 ∧ ∀ i, i ≠ z → T.N s ≠ some i → (T.write s d z).c i = T.c i := by
  cases hN : T.N s with
  | none =>
    have hN' : (T.add d z).N s = none := hN
    have ha : T.alone s = 0 := by unfold Tb.alone; rw [hN]
    have e : T.write s d z = (T.add d z).set s z := by unfold Tb.write Tb.lay Tb.drop; rw [hN']
    rw [e, ha]
    refine ⟨rfl, rfl, ?_, ?_, fun i hi _ => ?_⟩
    · show T.u + (d.length : Int) = _; simp
    · show updN (updN T.c z 0) z (updN T.c z 0 z + 1) z = 1
      rw [updN_same, updN_same]; rfl
    · show updN (updN T.c z 0) z (updN T.c z 0 z + 1) i = T.c i
      rw [updN_ne _ _ hi, updN_ne _ _ hi]
  | some j =>
    obtain ⟨hj, hc⟩ := h j hN
    have hN' : (T.add d z).N s = some j := hN
    have hc' : (T.add d z).c j = 1 := by show updN T.c z 0 j = 1; rw [updN_ne _ _ hj]; exact hc
    have hd' : (T.add d z).D j = T.D j := updN_ne _ _ hj
    have ha : T.alone s = (T.D j).length := by unfold Tb.alone; rw [hN]; simp [hc]
    have e : T.write s d z = Tb.set ⟨upd T.N s none, updN T.D z d, updN (updN T.c z 0) j 0, T.u + (d.length : Int) - ((T.D j).length : Int)⟩ s z := by
      unfold Tb.write Tb.lay Tb.drop
      rw [hN']
      simp only [hc', hd']
      rfl
    rw [e, ha]
    refine ⟨?_, rfl, rfl, ?_, fun i hi hne => ?_⟩
    · show upd (upd T.N s none) s (some z) = _
      funext t
      unfold upd
      split <;> rfl
    · show updN (updN (updN T.c z 0) j 0) z (updN (updN T.c z 0) j 0 z + 1) z = 1
      rw [updN_same, updN_ne _ _ (Ne.symm hj), updN_same]; rfl
    · show updN (updN (updN T.c z 0) j 0) z (updN (updN T.c z 0) j 0 z + 1) i = T.c i
      rw [updN_ne _ _ hi, updN_ne _ _ (fun e => hne (by rw [e])), updN_ne _ _ hi]
end Go.Proofs.YtebcmicmklpflaaGreatDoor
