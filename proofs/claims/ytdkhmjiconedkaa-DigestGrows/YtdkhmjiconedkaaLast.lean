/- The last step: the state as bytes, and the padded end of a row of bytes. -/
import Derived.Test.YtdkhmjiconedkaaAdd
namespace Go.Proofs.Ytdkhmjiconedkaa
open Go.RowKit Go.Great

/-- A row of numbers, and noughts behind it up to n. -/
def padTo (n : Nat) (l : List Nat) : List Nat := l ++ List.replicate (n - l.length) 0
theorem padTo_length (n : Nat) (l : List Nat) (h : l.length ≤ n) : (padTo n l).length = n := by simp [padTo]; omega
theorem padTo_set (n : Nat) (l : List Nat) (k x : Nat) (hk : l.length = k) (h : k < n) : (padTo n l).set k x = padTo n (l ++ [x]) := by
  subst hk
  unfold padTo
  rw [List.set_append_right _ _ (Nat.le_refl _), Nat.sub_self]
  obtain ⟨m, hm⟩ : ∃ m, n - l.length = m + 1 := ⟨n - l.length - 1, by omega⟩
  have e : n - (l ++ [x]).length = m := by simp; omega
  rw [hm, e, List.replicate_succ]
  simp
theorem padTo_full (n : Nat) (l : List Nat) (h : l.length = n) : padTo n l = l := by simp [padTo, h]
theorem padTo_nil (n : Nat) : padTo n [] = List.replicate n 0 := rfl

theorem outAt_cast (l : List Nat) (k : Nat) : ((Sha.nth l (k / 4) : Nat) : Int) / 2 ^ (24 - 8 * (k % 4)) % 256 = ((Sha.outAt l k : Nat) : Int) := by
  unfold Sha.outAt
  have e : ((Sha.nth l (k / 4) : Nat) : Int) / 2 ^ (24 - 8 * (k % 4)) = ((Sha.nth l (k / 4) / 2 ^ (24 - 8 * (k % 4)) : Nat) : Int) := by push_cast; rfl
  rw [e]; omega

set_option maxRecDepth 20000 in
set_option maxHeartbeats 1000000 in
theorem stateBytes_any (s : Sha.St) (w : World) :
    Calls Try.prog 52 #[.agg (E32 s.list)] w fun e w' => e = .returned (.agg (E8 (Sha.out s))) ∧ Below w.heap.size w w' := by
  have hs8 := list_eight s
  obtain ⟨F, hF⟩ : ∃ F : Nat → List Nat, F = fun k => padTo 32 (Sha.outTo s.list k) := ⟨_, rfl⟩
  have h0 : Z25 = E8 (F 0) := by rw [hF]; rfl
  have hlen : ∀ k, k ≤ 32 → (F k).length = 32 := fun k hk => by rw [hF]; exact padTo_length _ _ (by rw [Sha.outTo_length]; omega)
  have HS : Hid (∀ k, k < 32 → (F k).set k (Sha.outAt s.list k) = F (k + 1)) := fun k hk => by rw [hF]; exact padTo_set 32 _ _ _ (Sha.outTo_length _ _) hk
  have HE : Hid (F 32 = Sha.out s) := by rw [hF]; exact padTo_full _ _ (Sha.outTo_length _ _)
  have HZ : Hid (Z25 = E8 (F 0)) := h0
  clear h0 hF
  go_enter Try.func52, Try.ntmps52
  go_wp2
  go_loopw [5] (fun c wr => ∃ k n : Nat, k ≤ 32 ∧ c = .int .i64 (k : Int) ∧ wr = (((w.alloc (.cells (E32 s.list) 50)).alloc (.cells Z25 25)).alloc (.cells (E8 (F k)) 25)).drewN n) (fun c _ => 32 - (intOf c).toNat)
  case atStart => exact ⟨0, 0, by omega, rfl, by rw [← HZ.out]; rfl⟩
  case round =>
    obtain ⟨k, n, hk, rfl, rfl⟩ := hrel
    have hpl := hlen k hk
    by_cases hlt : k < 32
    · clear hlen
      have hq : k / 4 < 8 := by omega
      go_wp2
      go_roundw
      case rel => exact ⟨k + 1, n, by omega, by go_num, by rw [← HS.out k hlt, outAt_cast, E8_set]⟩
      case measure => simp [intOf]; omega
    · have hk' : k = 32 := by omega
      subst hk'
      clear hlen
      go_wp2
      refine bodyPost_ret (v := .agg (E8 (Sha.out s))) (res25 Try.results52 rfl ?_ (by simp [Sha.out_length])) rfl ⟨rfl, ?_⟩
      · rw [← HE.out]; simp [go_sem]
      · exact below_drews ((((Below.refl _ _).alloc (Nat.le_refl _) _).alloc (by simp) _).alloc (by simp; omega) _) _
end Go.Proofs.Ytdkhmjiconedkaa
