/- Fold, in the code and in the document's own answer: the same twenty bytes. -/
import Derived.Test.YtfoghaocfkcggaaHex
namespace Go.Proofs.Ytfoghaocfkcggaa
open Go.RowKit Go.Great
attribute [local go_sem] f_8 f_1024 f_hi4 f_lo4

@[go_sem] theorem lt_two (a : Nat) : a < a + 1 + 1 := by omega
@[go_sem] theorem lt_three (a : Nat) : a < a + 1 + 1 + 1 := by omega
@[go_sem] theorem lt_four (a : Nat) : a < a + 1 + 1 + 1 + 1 := by omega
/-- The twenty bytes behind the first i of the digest. -/
def foldTo (l : List Nat) : Nat → List Nat
  | 0 => zs 20
  | i + 1 => (foldTo l i).set (i % 20) (x8 (Sha.nth (foldTo l i) (i % 20)) (Sha.nth l i))
theorem foldTo_length (l : List Nat) (i : Nat) : (foldTo l i).length = 20 := by
  induction i with
  | zero => exact zs_length 20
  | succ i ih => simp [foldTo, ih]
theorem Z49_zs : Z49 = E8 (zs 20) := rfl

set_option maxRecDepth 20000 in
set_option maxHeartbeats 1000000 in
theorem fold_any (l : List Nat) (w : World) (hl : l.length = 32) :
    Calls Try.prog 25 #[.agg (E8 l)] w fun e w' => e = .returned (.agg (E8 (foldTo l 32))) ∧ Below w.heap.size w w' := by
  obtain ⟨F, hF⟩ : ∃ F : Nat → List Nat, F = foldTo l := ⟨_, rfl⟩
  have h0 : Z49 = E8 (F 0) := by rw [hF]; rfl
  have hlen : ∀ i, (F i).length = 20 := fun i => by rw [hF]; exact foldTo_length l i
  have HS : Hid (∀ i, (F i).set (i % 20) (x8 (Sha.nth (F i) (i % 20)) (Sha.nth l i)) = F (i + 1)) := fun i => by rw [hF]; rfl
  have HE : Hid (foldTo l 32 = F 32) := by rw [hF]; exact rfl
  generalize foldTo l 32 = R at *
  have HL := hide hlen
  have H0 := hide h0
  clear hF h0 hlen
  go_enter Try.func25, Try.ntmps25
  go_wp2
  go_loopw [7] (fun c wr => ∃ i n : Nat, i ≤ 32 ∧ c = .int .i64 (i : Int) ∧ wr = (((w.alloc (.cells (E8 l) 25)).alloc (.cells Z49 49)).alloc (.cells (E8 (F i)) 49)).drewN n) (fun c _ => 32 - (intOf c).toNat)
  case atStart => exact ⟨0, 0, by omega, rfl, by rw [← unhide H0]; rfl⟩
  case round =>
    obtain ⟨i, n, hi, rfl, rfl⟩ := hrel
    have hpl := unhide HL i
    by_cases hlt : i < 32
    · have hm : i % 20 < 20 := Nat.mod_lt _ (by omega)
      go_wp2
      go_roundw
      case rel => exact ⟨i + 1, n, by omega, by go_num, by rw [← unhide HS i]⟩
      case measure => simp [intOf]; omega
    · have hi' : i = 32 := by omega
      subst hi'
      go_wp2
      refine bodyPost_ret (v := .agg (E8 (F 32))) (res49 Try.results25 rfl ?_ (by simp [hpl])) rfl ⟨by rw [unhide HE], ?_⟩
      · simp [go_sem]
      · exact below_drews ((((Below.refl _ _).alloc (Nat.le_refl _) _).alloc (by simp) _).alloc (by simp; omega) _) _

set_option maxRecDepth 20000 in
set_option maxHeartbeats 1000000 in
theorem foldRef_any (l : List Nat) (w : World) (hl : l.length = 32) :
    Calls Try.prog 29 #[.agg (E8 l)] w fun e w' => e = .returned (.agg (E8 (foldTo l 32))) ∧ Below w.heap.size w w' := by
  obtain ⟨F, hF⟩ : ∃ F : Nat → List Nat, F = foldTo l := ⟨_, rfl⟩
  have h0 : Z49 = E8 (F 0) := by rw [hF]; rfl
  have hlen : ∀ i, (F i).length = 20 := fun i => by rw [hF]; exact foldTo_length l i
  have HS : Hid (∀ i, (F i).set (i % 20) (x8 (Sha.nth (F i) (i % 20)) (Sha.nth l i)) = F (i + 1)) := fun i => by rw [hF]; rfl
  have HE : Hid (foldTo l 32 = F 32) := by rw [hF]; exact rfl
  generalize foldTo l 32 = R at *
  have HL := hide hlen
  have H0 := hide h0
  clear hF h0 hlen
  go_enter Try.func29, Try.ntmps29
  go_wp2
  go_loopw [4] (fun c wr => ∃ i n : Nat, i ≤ 32 ∧ c = .int .i64 (i : Int) ∧ wr = (((w.alloc (.cells (E8 l) 25)).alloc (.cells Z49 49)).alloc (.cells (E8 (F i)) 49)).drewN n) (fun c _ => 32 - (intOf c).toNat)
  case atStart => exact ⟨0, 0, by omega, rfl, by rw [← unhide H0]; rfl⟩
  case round =>
    obtain ⟨i, n, hi, rfl, rfl⟩ := hrel
    have hpl := unhide HL i
    by_cases hlt : i < 32
    · have hm : i % 20 < 20 := Nat.mod_lt _ (by omega)
      go_wp2
      go_region
      go_wp2
      go_roundw
      case rel => exact ⟨i + 1, n + 1, by omega, by go_num, by rw [← unhide HS i]⟩
      case measure => simp [intOf]; omega
    · have hi' : i = 32 := by omega
      subst hi'
      go_wp2
      refine bodyPost_ret (v := .agg (E8 (F 32))) (res49 Try.results29 rfl ?_ (by simp [hpl])) rfl ⟨by rw [unhide HE], ?_⟩
      · simp [go_sem]
      · exact below_drews ((((Below.refl _ _).alloc (Nat.le_refl _) _).alloc (by simp) _).alloc (by simp; omega) _) _
end Go.Proofs.Ytfoghaocfkcggaa
