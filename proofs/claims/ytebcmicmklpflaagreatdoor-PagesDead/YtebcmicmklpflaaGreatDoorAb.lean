/- Pages: no second file is there: tidy; nothing stale: cost. -/
import Derived.Test.YtebcmicmklpflaaGreatDoorPi
namespace Go.Proofs.YtebcmicmklpflaaGreatDoor
open Go.RowKit Go.Maps
set_option linter.unusedSimpArgs false
theorem PB.same {w : World} {p : Nat} {c : Nat → Value} (h : PB w p c) {i : Nat} (hi : i < 777) : w.setCell ⟨p, i, none⟩ (c i) = w := setCell_id (h.cell hi)
set_option maxRecDepth 20000 in
set_option maxHeartbeats 1000000 in
theorem tidy_none {w : World} {p : Nat} {F : Fl} {lv nv : Value} {fr di : Nat → Bool} {dd : Bool} (h : PB w p (pcell F lv nv fr di dd)) (hf : F.fv = .slice none 0 0) (hs : F.sl = false) :
    Calls Tryz.prog 119 #[.pointer (some ⟨p, 0, none⟩)] w fun e w' => e = .returned (.int .i64 0) ∧ w' = w := by
  have c260 : w.cell? ⟨p, 260, none⟩ = some (.slice none 0 0) := by rw [h.cell (by omega), ← hf]; rfl
  have c261 : w.cell? ⟨p, 261, none⟩ = some (.bool false) := by rw [h.cell (by omega), ← hs]; rfl
  have z260 := h.frozen 260
  have hS : w.setCell ⟨p, 260, none⟩ (.slice none 0 0) = w := setCell_id c260
  clear h hf hs
  go_enter Tryz.func119, Tryz.ntmps119
  go_wp2_with fail
  go_loopw [11] (fun iv W => iv = .int .i64 0 ∧ W = w) (fun _ _ => 0)
  case atStart => exact ⟨rfl, rfl⟩
  case round =>
    obtain ⟨rfl, rfl⟩ := hrel
    go_wp2_with fail
    go_ret
    exact ⟨rfl, rfl⟩
/-- The marks of what is stale, as one array. -/
def stA (st : Nat → Bool) : Array Value := ((List.range 256).map fun k => Value.bool (st k)).toArray
theorem stA_get (st : Nat → Bool) (i : Nat) (h : i < 256) : (stA st)[i]? = some (.bool (st i)) := by simp [stA, h]
@[go_sem, simp] theorem stA_size (st : Nat → Bool) : (stA st).size = 256 := by simp [stA]
@[go_sem, simp] theorem stA_getElem (st : Nat → Bool) (i : Nat) (h : i < (stA st).size) : (stA st)[i] = .bool (st i) := by
  have := stA_get st i (by simpa using h)
  rw [Array.getElem?_eq_getElem h] at this
  exact Option.some.inj this
attribute [go_sem] stA_get
theorem run_ix131 (st : Nat → Bool) (k : Nat) (hk : k < 256) (w : World) : (Instr.index 131 (.agg (stA st)) (.int .i64 (k : Int))).run Tryz.prog w = .ok (.bool (st k)) w := by
  have h1 : (0 : Int) ≤ (k : Int) ∧ (k : Int) < 256 := by omega
  have h2 := stA_getElem st k (by simpa using hk)
  simp [Instr.index, run_underlying Tryz.underlying131, asIntOf, h1, h2, hk, stA_get, go_sem]
def ld131 (v : Value) : Sem Value := Instr.loadAt 131 v
@[go_sem ↓] theorem loadAt131 (v : Value) : Instr.loadAt 131 v = ld131 v := rfl
set_option maxRecDepth 20000 in
theorem size131 : (Tryz.prog.info? 131).map (·.size) = some 256 := by kernel_rfl
theorem run_ld131 {w : World} {p : Nat} {F : Fl} {lv nv : Value} {fr di : Nat → Bool} {dd : Bool} (h : PB w p (pcell F lv nv fr di dd)) : (ld131 (.pointer (some ⟨p, 4, none⟩))).run Tryz.prog w = .ok (.agg (stA F.st)) w := by
  cases hq : Tryz.prog.info? 131 with
  | none => have := size131; simp [hq] at this
  | some i =>
    have hs : i.size = 256 := by have := size131; simpa [hq] using this
    have hagg : (isAgg 131).run Tryz.prog w = .ok true w := by
      unfold isAgg
      simp [go_sem, Tryz.underlying131]
    have hl : (loadCells ⟨p, 4, none⟩ ((List.range 256).map fun k => Value.bool (F.st k)).length).run Tryz.prog w = .ok (stA F.st) w := by
      refine run_loadCells_list (P := Tryz.prog) w ⟨p, 4, none⟩ _ (fun j v hv => ?_)
      have hadd : (⟨p, 4, none⟩ : Addr).add j = ⟨p, 4 + j, none⟩ := by unfold Addr.add; split <;> simp_all
      rw [List.getElem?_map] at hv
      by_cases hj : j < 256
      · rw [List.getElem?_range hj] at hv
        rw [hadd, h.cell (by omega), pcell_stale _ _ _ _ _ _ j hj]
        simpa using hv
      · rw [List.getElem?_eq_none (by simpa using hj)] at hv
        simp at hv
    unfold ld131
    simp only [Instr.loadAt, Instr.sureAddr, Sem.run_bind, Sem.run_pure, Result.andThen]
    simp only [List.length_map, List.length_range] at hl
    simp [loadVar, Sem.run_bind, hagg, sizeOf, typeInfo, hq, hs, hl]
set_option maxRecDepth 20000 in
set_option maxHeartbeats 1000000 in
theorem cost_none {w : World} {p : Nat} {F : Fl} {lv nv : Value} {fr di : Nat → Bool} {dd : Bool} (h : PB w p (pcell F lv nv fr di dd)) (hs : ∀ k, F.st k = false) (a : Option Addr) (l c : Nat) :
    Calls Tryz.prog 120 #[.pointer (some ⟨p, 0, none⟩), .slice a l c] w fun e w' => e = .returned (.int .i64 0) ∧ w' = w := by
  have hl := run_ld131 h
  clear h
  go_enter Tryz.func120, Tryz.ntmps120
  go_wp2_with fail
  go_loopw [5, 12] (fun vs vi W => ∃ k : Nat, k ≤ 256 ∧ vs = .int .i64 0 ∧ vi = .int .i64 (k : Int) ∧ W = w) (fun _ vi _ => 256 - (intOf vi).toNat)
  case atStart => exact ⟨0, Nat.zero_le _, rfl, rfl, rfl⟩
  case round =>
    obtain ⟨k, hk, rfl, rfl, rfl⟩ := hrel
    by_cases hlt : k < 256
    · have hki : (k : Int) < 256 := by omega
      have hix := run_ix131 F.st k hlt wr
      rw [hs k] at hix
      clear hs
      go_wp2_with fail
      go_roundw
      case rel => exact ⟨k + 1, by omega, rfl, by go_num, by trivial⟩
      case measure => simp [intOf]; omega
    · obtain rfl : k = 256 := by omega
      clear hs
      go_wp2_with fail
      go_ret
      exact ⟨rfl, rfl⟩
end Go.Proofs.YtebcmicmklpflaaGreatDoor
