/- slices.Grow of nothing. -/
import Derived.Test.YthfjofmfiklegaaDoorOwn
import Derived.Lib.AppendZerosOnto
namespace Go.Proofs.YthfjofmfiklegaaDoor
open Go.RowKit
def app23z (ty : TypeId) (args : Array Value) : Sem Value := Builtin.append_ #[23, 3] ty args
@[go_sem ↓] theorem append_app23z (ty : TypeId) (args : Array Value) : Builtin.append_ #[23, 3] ty args = app23z ty args := rfl
set_option maxRecDepth 20000 in
set_option maxHeartbeats 1000000 in
/-- slices.Grow of nothing: nothing, or a new row with room. -/
theorem grow23_nil (n : Nat) (w : World) (hn : n ≤ 1000000) :
    Calls Tryd.prog 55 #[.slice none 0 0, .int .i64 (n : Int)] w fun e w' => ∃ a c, e = .returned (.slice a 0 c) ∧ w'.ownsRow w.heap.size 9 1 (.slice a 0 c) 0 [] ∧ Below w.heap.size w w' ∧ n ≤ c ∧ (∀ g, (Value.slice a 0 c).ownBlock = some g → g < w'.heap.size) := by
  by_cases h0 : n = 0
  · subst h0
    go_enter Tryd.func55, Tryd.ntmps55
    go_wp2_with fail
    go_ret
    exact ⟨none, 0, rfl, ⟨by simp, .inl ⟨rfl, rfl⟩⟩, Below.refl _ _, Nat.le_refl _, fun g hg => by simp [Value.ownBlock] at hg⟩
  · obtain ⟨i, hi, hz, hsz, hby⟩ := info9
    have hz1 : (.string ⟨#[]⟩ : Value).cells.size = 1 := rfl
    have happ := fun ty => Lib.run_append_grow_zeros (P := Tryd.prog) w 23 3 ty 9 i (.string ⟨#[]⟩) .i64 .i64 Tryd.underlying23 Tryd.underlying3 hi hz none 0 0 [] (run_firstCells_none _ _ _ _ _) n (by omega) (by omega) (by omega) (by omega) (by rw [hby]; omega) (growslice_fits (by omega) (by rw [hby]; omega))
    have hge := grownCap_ge w (0 + n) 0 9
    have hle : grownCap w (0 + n) 0 9 ≤ maxLen := grownCap_le_maxLen _ _ _ _ (by simp only [maxLen]; omega)
    have happ' : ∀ ty, (app23z ty #[.slice none 0 0, .int .i64 (n : Int)]).run Tryd.prog w = _ := happ
    simp only [Nat.zero_add] at happ' hge hle
    obtain ⟨G, hG⟩ : ∃ G, G = grownCap w n 0 9 := ⟨_, rfl⟩
    rw [← hG] at happ' hge hle
    obtain ⟨C, hC⟩ : ∃ C, C = ([].toArray ++ Builtin.zeroCells (.string ⟨#[]⟩ : Value).cells n ++ Builtin.zeroCells (.string ⟨#[]⟩ : Value).cells (G - n) : Array Value) := ⟨_, rfl⟩
    rw [← hC] at happ'
    have HC : Hid (C.size = G * 1) := by
      show C.size = _
      rw [hC, Array.size_append, Array.size_append, size_zeroCells, size_zeroCells, hz1]
      simp
      omega
    clear hC hG happ hi hz hsz hby hz1
    have hn1 : ¬ ((n : Int) < 0) := by omega
    have hn2 : (0 : Int) < (n : Int) := by omega
    go_enter Tryd.func55, Tryd.ntmps55
    go_wp2_with fail
    go_ret
    refine ⟨_, _, rfl, ⟨by simp, .inr ⟨w.heap.size, G, C, rfl, Nat.le_refl _, ?_, Nat.zero_le _, hle, unhide HC, by simp⟩⟩, ?_, by omega, fun g hg => ?_⟩
    · show (w.heap.push _)[w.heap.size]? = _; rw [Array.getElem?_push, if_pos rfl]
    · exact ((Below.refl _ w).alloc (Nat.le_refl _) _).drew
    · simp [Value.ownBlock] at hg; subst hg; simp
def app24z (ty : TypeId) (args : Array Value) : Sem Value := Builtin.append_ #[24, 3] ty args
@[go_sem ↓] theorem append_app24z (ty : TypeId) (args : Array Value) : Builtin.append_ #[24, 3] ty args = app24z ty args := rfl
set_option maxRecDepth 20000 in
set_option maxHeartbeats 1000000 in
/-- slices.Grow of nothing: nothing, or a new row with room. -/
theorem grow24_nil (n : Nat) (w : World) (hn : n ≤ 1000000) :
    Calls Tryd.prog 56 #[.slice none 0 0, .int .i64 (n : Int)] w fun e w' => ∃ a c, e = .returned (.slice a 0 c) ∧ w'.ownsRow w.heap.size 26 5 (.slice a 0 c) 0 [] ∧ Below w.heap.size w w' ∧ n ≤ c ∧ (∀ g, (Value.slice a 0 c).ownBlock = some g → g < w'.heap.size) := by
  by_cases h0 : n = 0
  · subst h0
    go_enter Tryd.func56, Tryd.ntmps56
    go_wp2_with fail
    go_ret
    exact ⟨none, 0, rfl, ⟨by simp, .inl ⟨rfl, rfl⟩⟩, Below.refl _ _, Nat.le_refl _, fun g hg => by simp [Value.ownBlock] at hg⟩
  · obtain ⟨i, hi, hz, hsz, hby⟩ := info26
    have hz1 : (.agg #[.int .i64 0, .bool false, .slice none 0 0, .slice none 0 0, .slice none 0 0] : Value).cells.size = 5 := rfl
    have happ := fun ty => Lib.run_append_grow_zeros (P := Tryd.prog) w 24 3 ty 26 i (.agg #[.int .i64 0, .bool false, .slice none 0 0, .slice none 0 0, .slice none 0 0]) .i64 .i64 Tryd.underlying24 Tryd.underlying3 hi hz none 0 0 [] (run_firstCells_none _ _ _ _ _) n (by omega) (by omega) (by omega) (by omega) (by rw [hby]; omega) (growslice_fits (by omega) (by rw [hby]; omega))
    have hge := grownCap_ge w (0 + n) 0 26
    have hle : grownCap w (0 + n) 0 26 ≤ maxLen := grownCap_le_maxLen _ _ _ _ (by simp only [maxLen]; omega)
    have happ' : ∀ ty, (app24z ty #[.slice none 0 0, .int .i64 (n : Int)]).run Tryd.prog w = _ := happ
    simp only [Nat.zero_add] at happ' hge hle
    obtain ⟨G, hG⟩ : ∃ G, G = grownCap w n 0 26 := ⟨_, rfl⟩
    rw [← hG] at happ' hge hle
    obtain ⟨C, hC⟩ : ∃ C, C = ([].toArray ++ Builtin.zeroCells (.agg #[.int .i64 0, .bool false, .slice none 0 0, .slice none 0 0, .slice none 0 0] : Value).cells n ++ Builtin.zeroCells (.agg #[.int .i64 0, .bool false, .slice none 0 0, .slice none 0 0, .slice none 0 0] : Value).cells (G - n) : Array Value) := ⟨_, rfl⟩
    rw [← hC] at happ'
    have HC : Hid (C.size = G * 5) := by
      show C.size = _
      rw [hC, Array.size_append, Array.size_append, size_zeroCells, size_zeroCells, hz1]
      simp
      omega
    clear hC hG happ hi hz hsz hby hz1
    have hn1 : ¬ ((n : Int) < 0) := by omega
    have hn2 : (0 : Int) < (n : Int) := by omega
    go_enter Tryd.func56, Tryd.ntmps56
    go_wp2_with fail
    go_ret
    refine ⟨_, _, rfl, ⟨by simp, .inr ⟨w.heap.size, G, C, rfl, Nat.le_refl _, ?_, Nat.zero_le _, hle, unhide HC, by simp⟩⟩, ?_, by omega, fun g hg => ?_⟩
    · show (w.heap.push _)[w.heap.size]? = _; rw [Array.getElem?_push, if_pos rfl]
    · exact ((Below.refl _ w).alloc (Nat.le_refl _) _).drew
    · simp [Value.ownBlock] at hg; subst hg; simp
end Go.Proofs.YthfjofmfiklegaaDoor
