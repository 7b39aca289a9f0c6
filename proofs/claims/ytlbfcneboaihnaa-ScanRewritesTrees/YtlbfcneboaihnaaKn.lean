/- known: a path that is found. -/
import Derived.Test.YtlbfcneboaihnaaRefs
namespace Go.Proofs.Ytlbfcneboaihnaa
open Go.RowKit Go.Great Go.ChangeMaps Go.MapKept
set_option linter.unusedSimpArgs false
def kp : Ord.S := [48, 48, 48, 48, 48, 48, 48, 48, 48, 48, 48, 48, 48, 48, 48, 48, 48, 48, 48, 48, 48, 48, 48, 48, 48, 48, 48, 48, 48, 48, 48, 48, 45, 97]
def kq : Ord.S := [49, 48, 48, 48, 48, 48, 48, 48, 48, 48, 48, 48, 48, 48, 48, 48, 48, 48, 48, 48, 48, 48, 48, 48, 48, 48, 48, 48, 48, 48, 48, 48, 45, 98]
theorem kp_is : IsP kp := by
  refine ⟨by decide, by decide, by decide, ?_, ?_⟩
  · intro i hi
    have hi' : i < 32 := by simpa [kp, natsOf] using hi
    have : ∀ i : Fin 32, Sha.isD (Sha.nth ((natsOf kp).take 32) i.val) = true := by decide
    exact this ⟨i, hi'⟩
  · decide +kernel
theorem known_refs : refsOf (120 :: natsOf kp) [kp, kq] = [kp] := by
  refine Ord.rises_eq (refsOf_rises _ _) (by simp [Ord.Rises]) fun x => ?_
  rw [refsOf_mem, List.mem_singleton]
  constructor
  · rintro ⟨h1, h2⟩
    rcases List.mem_cons.1 h1 with h | h
    · exact h
    · rw [List.mem_singleton.1 h] at h2
      exfalso
      obtain ⟨k, h3, h4⟩ := h2.2
      have hk : k < 4 := by
        have e1 : (digsOf kq).length = 32 := by decide
        have e2 : (120 :: natsOf kp).length = 35 := by decide
        omega
      have : ∀ k : Fin 4, ((120 :: natsOf kp).drop k.val).take (digsOf kq).length ≠ digsOf kq := by decide
      exact this ⟨k, hk⟩ h4
  · rintro rfl
    exact ⟨by simp, kp_is, (stands_iff _ _).2 ⟨[120], (natsOf kp).drop 32, by decide⟩⟩
theorem twoS_at (w : World) (p q : Ord.S) : StrsAt (w.alloc (.cells #[.string ⟨p.toArray⟩, .string ⟨q.toArray⟩] 25)) (.slice (some ⟨w.heap.size, 0, none⟩) 2 2) [p, q] :=
  ⟨_, 2, rfl, Nat.le_refl _, fun _ => ⟨w.heap.size, 0, rfl, by simp, fun i hi => by
    have hi' : i = 0 ∨ i = 1 := by simp at hi; omega
    rcases hi' with rfl | rfl
    · simp [go_sem, encStr]
    · simp [go_sem, encStr]⟩⟩
set_option maxRecDepth 20000 in
set_option maxHeartbeats 1000000 in
theorem known_any (w : World) : Calls Try.prog 12 #[] w fun e w' => e = .returned (.bool true) ∧ Below w.heap.size w w' := by
  go_enter Try.func12, Try.ntmps12
  go_wp2_with fail
  have hs : ((⟨#[120]⟩ : ByteArray) ++ (⟨#[48, 48, 48, 48, 48, 48, 48, 48, 48, 48, 48, 48, 48, 48, 48, 48, 48, 48, 48, 48, 48, 48, 48, 48, 48, 48, 48, 48, 48, 48, 48, 48, 45, 97]⟩ : ByteArray)) = strOf (120 :: natsOf kp) := by rfl
  rw [hs]
  obtain ⟨cap, w1, hr1, hb1, hat1, hz1⟩ := run_cvB w (strOf (120 :: natsOf kp))
  rw [hr1]
  have hB : Sha.Bytes (120 :: natsOf kp) := by
    intro x hx
    rcases List.mem_cons.1 hx with h | h
    · omega
    · exact natsOf_bytes kp x h
  rw [bytesOf_strOf _ hB] at hat1
  have hsz : (strOf (120 :: natsOf kp)).size = 35 := by rfl
  rw [hsz] at hat1 ⊢
  have HAT := hide hat1
  have HB := hide hB
  clear hr1 hat1 hs hB
  go_wp2_with fail
  have hb2 : Below w.heap.size w (w1.alloc (.cells #[.string ⟨kp.toArray⟩, .string ⟨kq.toArray⟩] 25)) := hb1.alloc hb1.size _
  have hbx : Below w1.heap.size w1 (w1.alloc (.cells #[.string ⟨kp.toArray⟩, .string ⟨kq.toArray⟩] 25)) := (Below.refl _ _).alloc (Nat.le_refl _) _
  refine (refs_any (some ⟨w.heap.size, 0, none⟩) 35 cap (120 :: natsOf kp) (some ⟨w1.heap.size, 0, none⟩) 2 2 [kp, kq] (w1.alloc (.cells #[.string ⟨kp.toArray⟩, .string ⟨kq.toArray⟩] 25)) ((unhide HAT).below hbx) (unhide HB) rfl (by omega) (twoS_at w1 kp kq) rfl (by decide) (by omega)).mono ?_
  rintro e w3 ⟨u, rfl, hu, hb3⟩
  rw [known_refs] at hu
  obtain ⟨a4, c4, rfl⟩ : ∃ a c, u = .slice a 1 c := by obtain ⟨a, c, e, _⟩ := hu; exact ⟨a, c, e⟩
  have hbl3 : Below w.heap.size w w3 := hb2.trans (hb3.mono hb2.size)
  have hsz3 := hbl3.size
  have HU := hide hu
  have HB3 := hide hbl3
  clear hu hb1 hb2 hb3 hbx hbl3 hz1
  go_wp2_with fail
  refine (paths_any a4 (some ⟨w3.heap.size, 0, none⟩) 1 1 c4 1 [kp] [kp] (w3.alloc (.cells #[.string ⟨kp.toArray⟩] 25)) ((unhide HU).below ((Below.refl _ _).alloc (Nat.le_refl _) _)) (oneS_at w3 kp) rfl rfl (by omega) (by omega)).mono ?_
  rintro e w5 ⟨⟨q, rfl⟩, rfl⟩
  rw [decide_eq_true (rfl : [kp] = [kp])]
  have HE : Hid (Below w.heap.size w ((w3.alloc (.cells #[.string ⟨kp.toArray⟩] 25)).drewN q)) := by
    have := (unhide HB3).alloc hsz3 (.cells #[.string ⟨kp.toArray⟩] 25)
    exact ⟨this.os, this.tape, this.output, this.size, this.block⟩
  go_wp2_with fail
  go_ret
  exact ⟨rfl, unhide HE⟩
end Go.Proofs.Ytlbfcneboaihnaa
