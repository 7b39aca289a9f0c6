/- Numbers and records at the head of bytes. -/
import Derived.Test.YtebcmicmklpflaaGreatDoorRe
import Derived.Laws.BitsLemmas
namespace Go.Proofs.YtebcmicmklpflaaGreatDoor
open Go.RowKit Go.Maps
set_option linter.unusedSimpArgs false
set_option maxRecDepth 20000 in
theorem cut_short (a : Option Addr) (n c : Nat) (hn : n < 3) (w : World) : Calls Tryz.prog 178 #[.slice a n c] w fun e w' => e = .returned (.tuple #[.int .i64 0, .slice none 0 0, .bool false]) ∧ w' = w := by
  have h1 : (n : Int) < 3 := by omega
  go_enter Tryz.func178, Tryz.ntmps178
  go_wp2_with fail
  exact bodyPost_ret (by simp [results, Tryz.results178]) rfl ⟨rfl, rfl⟩
theorem or_up (A B : Nat) (hA : A < 65536) (hB : B < 256) : Value.int IntKind.i64 (bits BinOp.or IntKind.i64 (Go.RowKit.wrap64 ((A : Int) * 256)) (Go.RowKit.wrap64 (B : Int))) = Value.int IntKind.i64 ((A * 256 + B : Nat) : Int) := by
  have e1 : Go.RowKit.wrap64 ((A : Int) * 256) = ((A * 256 : Nat) : Int) := by unfold Go.RowKit.wrap64; omega
  have e2 : Go.RowKit.wrap64 (B : Int) = ((B : Nat) : Int) := by unfold Go.RowKit.wrap64; omega
  have h := (bits_nat .i64 62 (by decide) (fun n h0 h1 => by rw [IntKind.wrap_i64]; omega) (A * 256) B (by omega) (by omega)).2
  rw [e1, e2, h]
  have := Nat.shiftLeft_add_eq_or_of_lt (b := B) (i := 8) (by omega) A
  rw [Nat.shiftLeft_eq] at this
  rw [← this]
/-- The number that the first bytes are. -/
def V3 (n : Nat) : Nat → Nat
  | 0 => 0
  | 1 => n / 65536
  | 2 => n / 256
  | _ => n
set_option maxRecDepth 20000 in
set_option maxHeartbeats 1000000 in
theorem cut_number (g o m c : Nat) (n : Nat) (hm : 0 < m) (hc : 3 + m ≤ c) (hcm : c ≤ 9223372036854775807) (hn : n < 16777216) (w : World) (h0 : w.cell? ⟨g, o, none⟩ = some (.int .u8 ((n / 65536 : Nat) : Int))) (h1 : w.cell? ⟨g, o + 1, none⟩ = some (.int .u8 ((n / 256 % 256 : Nat) : Int))) (h2 : w.cell? ⟨g, o + 2, none⟩ = some (.int .u8 ((n % 256 : Nat) : Int))) :
    Calls Tryz.prog 178 #[.slice (some ⟨g, o, none⟩) (3 + m) c] w fun e w' => e = .returned (.tuple #[.int .i64 (n : Int), .slice (some ⟨g, o + 3, none⟩) m (c - 3), .bool true]) ∧ ∃ p, w' = w.drewN p := by
  have HV : Hid (∀ k, k < 3 → ∃ A B A' : Nat, A < 65536 ∧ B < 256 ∧ A' = A * 256 + B ∧ V3 n k = A ∧ V3 n (k + 1) = A' ∧ w.cell? ⟨g, o + k, none⟩ = some (.int .u8 (B : Int))) := fun k hk => by
    match k, hk with
    | 0, _ => exact ⟨_, _, _, by show 0 < _; omega, by omega, rfl, rfl, by show n / 65536 = _; simp [V3], h0⟩
    | 1, _ => exact ⟨_, _, _, by show n / 65536 < _; omega, Nat.mod_lt _ (by omega), rfl, rfl, by show n / 256 = _; simp only [V3]; omega, h1⟩
    | 2, _ => exact ⟨_, _, _, by show n / 256 < _; omega, Nat.mod_lt _ (by omega), rfl, rfl, by show n = _; simp only [V3]; omega, h2⟩
  obtain ⟨N, hN⟩ : ∃ N, N = 3 + m := ⟨_, rfl⟩
  have HN := hide hN
  have hN3 : ¬ ((N : Int) < 3) := by omega
  have hc3 : (3 : Int) ≤ (c : Int) := by omega
  have hNc : (N : Int) ≤ (c : Int) := by omega
  have hcc : (c : Int) ≤ 9223372036854775807 := by omega
  have hcne : ¬ (c = 3) := by omega
  rw [← hN]
  clear hN h0 h1 h2 hm hc
  go_enter Tryz.func178, Tryz.ntmps178
  go_wp2_with fail
  go_loop [13, 2] (fun i s => ∃ k : Nat, k ≤ 3 ∧ i = .int .i64 k ∧ s = .int .i64 ((V3 n k : Nat) : Int)) (fun i _ => 3 - (intOf i).toNat)
  case atStart => exact ⟨0, by omega, rfl, rfl⟩
  case round =>
    obtain ⟨k, hk, rfl, rfl⟩ := hrel
    by_cases hlt : k < 3
    · obtain ⟨A, B, A', hA, hB, hA', e1, e2, hcell⟩ := unhide HV k hlt
      rw [e1]
      obtain ⟨a, ha⟩ : ∃ a : Int, a = (A : Int) := ⟨_, rfl⟩
      obtain ⟨b, hb⟩ : ∃ b : Int, b = (B : Int) := ⟨_, rfl⟩
      rw [← hb] at hcell
      rw [← ha]
      have HAB := hide (And.intro hA (And.intro hB (And.intro hA' (And.intro e2 (And.intro ha hb)))))
      have hlt2 : (k : Int) < 3 := by omega
      clear HV hA hB hA' e1 e2 ha hb hcm hn hlt hk
      go_wp2_with fail
      obtain ⟨hA, hB, hA', e2, rfl, rfl⟩ := unhide HAB
      refine ⟨⟨k + 1, by omega, by go_num, ?_⟩, by simp [intOf]; omega⟩
      rw [e2, or_up A B hA hB, hA']
    · obtain rfl : k = 3 := by omega
      have hv : V3 n 3 = n := rfl
      rw [hv]
      have e3 : c - 3 = c - 3 := rfl
      have hN4 : N - 3 = m := by have := unhide HN; omega
      clear HV hcm hn hk hlt hv
      go_wp2_with fail
      refine wp_region_noPanic ?_
      go_region_with fail
      all_goals
        refine NoPanic.normal ?_
        go_wp2_with fail
        simp only [Act.put, List.getElem_toArray, List.getElem_cons_zero, List.getElem_cons_succ, List.setIfInBounds_toArray, List.set_cons_zero, List.set_cons_succ, hN4]
        exact bodyPost_ret (by simp [results, Tryz.results178]) rfl ⟨rfl, 1, rfl⟩
set_option maxRecDepth 20000 in
set_option maxHeartbeats 1000000 in
theorem cut_record (g o n m c : Nat) (hm : 0 < m) (hn : n < 16777216) (hc : 3 + (n + m) ≤ c) (hcm : c ≤ 9223372036854775807) (w : World) (h0 : w.cell? ⟨g, o, none⟩ = some (.int .u8 ((n / 65536 : Nat) : Int))) (h1 : w.cell? ⟨g, o + 1, none⟩ = some (.int .u8 ((n / 256 % 256 : Nat) : Int))) (h2 : w.cell? ⟨g, o + 2, none⟩ = some (.int .u8 ((n % 256 : Nat) : Int))) :
    Calls Tryz.prog 179 #[.slice (some ⟨g, o, none⟩) (3 + (n + m)) c] w fun e w' => e = .returned (.tuple #[.slice (some ⟨g, o + 3, none⟩) n (c - 3), .slice (some ⟨g, o + 3 + n, none⟩) m (c - 3 - n), .bool true]) ∧ ∃ p, w' = w.drewN p := by
  have HC := hide (cut_number g o (n + m) c n (by omega) hc hcm hn w h0 h1 h2)
  obtain ⟨C, hC⟩ : ∃ C, C = c - 3 := ⟨_, rfl⟩
  obtain ⟨M, hM⟩ : ∃ M, M = n + m := ⟨_, rfl⟩
  have hCM : (M : Int) ≤ (C : Int) := by omega
  have hnM : ¬ ((M : Int) < (n : Int)) := by omega
  have hnM2 : (n : Int) ≤ (M : Int) := by omega
  have hnC : (n : Int) ≤ (C : Int) := by omega
  have hCb : (C : Int) ≤ 9223372036854775807 := by omega
  have hCn : ¬ (C = n) := by omega
  have hMn : M - n = m := by omega
  rw [← hC] at HC ⊢
  rw [← hM] at HC ⊢
  clear hC hM h0 h1 h2 hm hc hcm hn
  go_enter Tryz.func179, Tryz.ntmps179
  go_wp2_with fail
  refine (unhide HC).mono ?_
  rintro e w' ⟨rfl, p, rfl⟩
  go_wp2_with fail
  refine wp_region_noPanic ?_
  go_region_with fail
  all_goals
    refine NoPanic.normal ?_
    go_wp2_with fail
    simp only [Act.put, List.getElem_toArray, List.getElem_cons_zero, List.getElem_cons_succ, List.setIfInBounds_toArray, List.set_cons_zero, List.set_cons_succ, hMn]
    exact bodyPost_ret (by simp [results, Tryz.results179]) rfl ⟨rfl, p + 1, rfl⟩
end Go.Proofs.YtebcmicmklpflaaGreatDoor
