/- A script that came in; is it more than is looked at? -/
import Derived.Test.YtebcmicmklpflaaGreatDoorUi
namespace Go.Proofs.YtebcmicmklpflaaGreatDoor
open Go.RowKit Go.Maps
set_option linter.unusedSimpArgs false
structure Stp where
  K : Int
  N : Int
  a : Option Addr
  c : Nat
  B : List UInt8
def Stp.v (s : Stp) : Value := .slice s.a s.B.length s.c
/-- The steps of a script in memory. -/
def StepsAt (W : World) (a : Option Addr) (len : Nat) (X : Nat → Stp) : Prop := ∀ i, i < len → ∃ g o, a = some ⟨g, o, none⟩ ∧ W.cell? ⟨g, o + i * 3, none⟩ = some (.int .i64 (X i).K) ∧ W.cell? ⟨g, o + i * 3 + 1, none⟩ = some (.int .i64 (X i).N) ∧ W.cell? ⟨g, o + i * 3 + 2, none⟩ = some (X i).v ∧ Row W.heap.size W (X i).v (X i).B ∧ (X i).B.length ≤ 281474976710656
theorem StepsAt.below {W W' : World} {a : Option Addr} {len : Nat} {X : Nat → Stp} (h : StepsAt W a len X) (hb : Below W.heap.size W W') : StepsAt W' a len X := fun i hi => by
  obtain ⟨g, o, e, h0, h1, h2, h3, h4⟩ := h i hi
  exact ⟨g, o, e, by rw [hb.cell (p := ⟨g, o + i * 3, none⟩) (cellLt h0)]; exact h0, by rw [hb.cell (p := ⟨g, o + i * 3 + 1, none⟩) (cellLt h1)]; exact h1, by rw [hb.cell (p := ⟨g, o + i * 3 + 2, none⟩) (cellLt h2)]; exact h2, row_below h3 hb, h4⟩
def tot (X : Nat → Stp) : Nat → Nat
  | 0 => 0
  | m + 1 => tot X m + (X m).B.length
theorem tot_le (X : Nat → Stp) {m n : Nat} (h : m ≤ n) : tot X m ≤ tot X n := by
  induction n with
  | zero => have : m = 0 := by omega
            subst this; exact Nat.le_refl _
  | succ n ih =>
    by_cases e : m = n + 1
    · subst e; exact Nat.le_refl _
    · have := ih (by omega); simp only [tot]; omega
set_option maxRecDepth 20000 in
set_option maxHeartbeats 1000000 in
theorem heavy_ok (a : Option Addr) (len c : Nat) (X : Nat → Stp) (W : World) (h : StepsAt W a len X) :
    Calls Tryz.prog 13 #[.slice a len c] W fun e W' => e = .returned (.bool (decide (12000 < tot X (min len 100)))) ∧ W' = W := by
  obtain ⟨M, hM⟩ : ∃ M, M = min len 100 := ⟨_, rfl⟩
  rw [← hM]
  have HS := hide h
  have HM := hide hM
  clear h hM
  go_enter Tryz.func13, Tryz.ntmps13
  go_wp2_with fail
  go_loop [4, 3] (fun i s => ∃ k : Nat, k ≤ M ∧ i = .int .i64 k ∧ s = .int .i64 ((tot X k : Nat) : Int) ∧ tot X k ≤ 12000) (fun i _ => M - (intOf i).toNat)
  case atStart => exact ⟨0, Nat.zero_le _, rfl, rfl, by simp [tot]⟩
  case round =>
    obtain ⟨k, hk, rfl, rfl, hT⟩ := hrel
    by_cases hlt : k < M
    · have hM := unhide HM
      obtain ⟨g, o, rfl, _, _, c2, _, hl⟩ := unhide HS k (by omega)
      unfold Stp.v at c2
      have hs : tot X (k + 1) = tot X k + (X k).B.length := rfl
      have HS1 := hide hs
      have hle := tot_le X (show k + 1 ≤ M by omega)
      have HLe := hide hle
      obtain ⟨A, hA⟩ : ∃ A, A = tot X k := ⟨_, rfl⟩
      obtain ⟨L, hL⟩ : ∃ L, L = (X k).B.length := ⟨_, rfl⟩
      rw [← hA] at hT HS1
      rw [← hL] at c2 hl HS1
      rw [← hA]
      have hk1 : (k : Int) < (len : Int) := by omega
      have hk2 : (k : Int) < 100 := by omega
      have hAi : (A : Int) ≤ 12000 := by omega
      have hLi : (L : Int) ≤ 281474976710656 := by omega
      clear hs hle hM hA hL HS
      by_cases hbig : A + L ≤ 12000
      · have hbi : (A : Int) + (L : Int) ≤ 12000 := by omega
        have HLt := hide hlt
        clear hlt hT hl
        go_wp2_with fail
        have hlt := unhide HLt
        refine ⟨⟨k + 1, by omega, by simp, by rw [unhide HS1]; simp, by rw [unhide HS1]; exact hbig⟩, ?_⟩
        simp [intOf]; omega
      · have hbi : ¬ ((A : Int) + (L : Int) ≤ 12000) := by omega
        clear hlt hT hl
        have hd : decide (12000 < tot X M) = true := decide_eq_true (by have := unhide HLe; have := unhide HS1; omega)
        have HD := hide hd
        clear hd
        go_wp2_with fail
        go_ret
        exact ⟨by rw [unhide HD]; rfl, rfl⟩
    · obtain rfl : k = M := by omega
      have hd : decide (12000 < tot X k) = false := decide_eq_false (by omega)
      have HD := hide hd
      clear hd
      have hM := unhide HM
      by_cases hl : k < len
      · have hk1 : (k : Int) < (len : Int) := by omega
        have hk2 : ¬ ((k : Int) < 100) := by omega
        clear HS hlt hM
        go_wp2_with fail
        go_ret
        exact ⟨by rw [unhide HD]; rfl, rfl⟩
      · have hk1 : ¬ ((k : Int) < (len : Int)) := by omega
        clear HS hlt hM
        go_wp2_with fail
        go_ret
        exact ⟨by rw [unhide HD]; rfl, rfl⟩
end Go.Proofs.YtebcmicmklpflaaGreatDoor
