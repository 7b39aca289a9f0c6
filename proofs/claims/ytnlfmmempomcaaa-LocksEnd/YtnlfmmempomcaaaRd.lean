/- Index, Delete: a row of tasks without one of them. -/
import Derived.Test.YtnlfmmempomcaaaRc
namespace Go.Proofs.Ytnlfmmempomcaaa
open Go.RowKit Go.Maps
set_option linter.unusedSimpArgs false
theorem lives85 {k : Nat} {O : Ghost} {tb : Nat} {S : St} {ex : Option Int} {F : ByteArray → Option Nat} {G : Int → Option Nat} {lm tm : Option Nat} {w : World} (hM : Mem k O w) (h : Rp O tb S ex F G lm tm) {n : Int} {a : Nat} (hG : G n = some a) : Lives w a := by
  obtain ⟨_, _, _, e1, _⟩ := h.ask n a hG
  exact ⟨_, _, hM.raw e1⟩
set_option maxRecDepth 20000 in
set_option maxHeartbeats 1000000 in
theorem index_ok (ra : Option Addr) (N rc : Nat) (Z : Nat → Nat) (a i : Nat) (w : World) (hmax : N ≤ 1000000) (hi : i < N) (hC : ∀ j, j < N → ∃ g o, ra = some ⟨g, o, none⟩ ∧ w.cell? ⟨g, o + j, none⟩ = some (.pointer (some ⟨Z j, 0, none⟩))) (hL : ∀ j, j < N → Lives w (Z j)) (hZ : Z i = a) (hne : ∀ j, j < i → Z j ≠ a) :
    Calls Try.prog 61 #[.slice ra N rc, .pointer (some ⟨a, 0, none⟩)] w fun e w' => e = .returned (.int .i64 (i : Int)) ∧ w' = w := by
  have HC := hide hC
  have HL := hide hL
  have HN := hide hne
  have HLa : Hid (Lives w a) := hZ ▸ hL i hi
  clear hC hL hne
  go_enter Try.func61, Try.ntmps61
  have hmI : (N : Int) ≤ 1000000 := by omega
  go_wp2_with fail
  go_loop [8] (fun v => ∃ m : Nat, v = .int .i64 (m : Int) ∧ m ≤ i) (fun v => i + 1 - (intOf v).toNat)
  case atStart => exact ⟨0, rfl, Nat.zero_le _⟩
  case round =>
    obtain ⟨m, rfl, hmd⟩ := hrel
    have hmN : (m : Int) < (N : Int) := by omega
    obtain ⟨g, o, rfl, h1⟩ := unhide HC m (by omega)
    have hq := eql74 w a (Z m) (unhide HLa) (unhide HL m (by omega))
    by_cases e : m = i
    · subst e
      rw [decide_eq_true hZ.symm] at hq
      rw [hZ] at h1 hq
      go_wp2_with fail
      go_ret
      exact ⟨rfl, rfl⟩
    · have hne : ¬ a = Z m := fun e2 => unhide HN m (by omega) e2.symm
      rw [decide_eq_false hne] at hq
      clear hne
      go_wp2_with fail
      go_round
      case rel => exact ⟨m + 1, by go_num, by omega⟩
      case measure => simp [intOf]; omega
def clr78 (ty : TypeId) (args : Array Value) : Sem Value := Builtin.clear_ #[78] ty args
@[go_sem ↓] theorem clear_clr78 (ty : TypeId) (args : Array Value) : Builtin.clear_ #[78] ty args = clr78 ty args := rfl
end Go.Proofs.Ytnlfmmempomcaaa
