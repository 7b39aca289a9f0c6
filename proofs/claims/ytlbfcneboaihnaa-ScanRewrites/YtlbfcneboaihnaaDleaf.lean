/- The leaves: a digit's value in the code and in the document's own answer; a digit (of two) of bytes. -/
import Derived.Test.YtlbfcneboaihnaaHelpers
import Derived.Test.YtlbfcneboaihnaaPnum
namespace Go.Proofs.Ytlbfcneboaihnaa
open Go.RowKit Go.Great
theorem dv_ret {c : Nat} {x : Int} {ok : Bool} {w : World} (h1 : Sha.isD c = ok) (h0 : 0 ≤ x) (h2 : ok = true → x = ((Sha.vd c : Nat) : Int)) :
    (∃ v : Nat, Ending.returned (.tuple #[.int .u32 x, .bool ok]) = .returned (.tuple #[.int .u32 (v : Int), .bool (Sha.isD c)]) ∧ (Sha.isD c = true → v = Sha.vd c)) ∧ w = w := by
  subst h1
  refine ⟨⟨x.toNat, by rw [Int.toNat_of_nonneg h0], fun h => ?_⟩, rfl⟩
  have := h2 h; omega
set_option maxRecDepth 20000 in
set_option maxHeartbeats 1000000 in
theorem digitValue_any (c : Nat) (w : World) (hc : c < 256) :
    Calls Try.prog 100 #[.int .u8 (c : Int)] w fun e w' => (∃ v : Nat, e = .returned (.tuple #[.int .u32 (v : Int), .bool (Sha.isD c)]) ∧ (Sha.isD c = true → v = Sha.vd c)) ∧ w' = w := by
  go_enter Try.func100, Try.ntmps100
  go_wp2
  all_goals go_ret2
  all_goals
    refine dv_ret ?_ (by omega) ?_
    · first
        | (rw [Bool.eq_false_iff]; intro h; simp [Sha.isD] at h; omega)
        | (simp [Sha.isD]; omega)
    · intro h
      first
        | (cases h; done)
        | (unfold Sha.vd; repeat' split
           all_goals omega)
set_option maxRecDepth 20000 in
set_option maxHeartbeats 1000000 in
theorem value_any (c : Nat) (w : World) :
    Calls Try.prog 62 #[.int .u8 (c : Int)] w fun e w' => ∃ v : Int, e = .returned (.int .i64 v) ∧ ((Sha.isD c = true ∧ v = ((Sha.vd c : Nat) : Int)) ∨ (Sha.isD c = false ∧ v = -1)) ∧ w' = w := by
  go_enter Try.func62, Try.ntmps62
  go_wp2
  go_loopw [3] (fun vi wr => ∃ i : Nat, i ≤ 32 ∧ vi = .int .i64 (i : Int) ∧ wr = w ∧ ∀ j, j < i → Sha.dg j ≠ c) (fun vi _ => 32 - (intOf vi).toNat)
  case atStart => exact ⟨0, by omega, rfl, rfl, fun j hj => by omega⟩
  case round =>
    obtain ⟨i, hi, rfl, rfl, hno⟩ := hrel
    have HN := hide hno
    clear hno
    by_cases hlt : i < 32
    · by_cases he : Sha.dg i = c
      · have hd : ((Sha.dg i : Int) == (c : Int)) = true := by rw [he]; simp
        go_wp2
        go_ret
        obtain ⟨h1, h2⟩ := Sha.isD_dg i hlt
        rw [he] at h1 h2
        exact ⟨_, rfl, .inl ⟨h1, by rw [h2]⟩, rfl⟩
      · have hd : ((Sha.dg i : Int) == (c : Int)) = false := by rw [beq_eq_false_iff_ne]; omega
        go_wp2
        go_roundw
        case rel => exact ⟨i + 1, by omega, by go_num, by first | rfl | trivial, fun j hj => by
          by_cases hji : j = i
          · subst hji; exact he
          · exact unhide HN j (by omega)⟩
        case measure => simp [intOf]; omega
    · go_wp2
      go_ret
      refine ⟨_, rfl, .inr ⟨?_, rfl⟩, rfl⟩
      cases hD : Sha.isD c with
      | false => rfl
      | true => exact absurd (Sha.dg_vd hD) (unhide HN _ (by have := Sha.vd_lt hD; omega))
end Go.Proofs.Ytlbfcneboaihnaa
