/- Parts of slices. -/
import Derived.Test.YthfjofmfiklegaaDoorKeep
namespace Go.Proofs.YthfjofmfiklegaaDoor
open Go.RowKit
theorem elem23 : Tryd.prog.elem 23 = 9 := by kernel_rfl
theorem elem24 : Tryd.prog.elem 24 = 26 := by kernel_rfl
theorem ht23 : Tryd.prog.underlying 23 = some (.slice (Tryd.prog.elem 23)) := by rw [elem23]; exact Tryd.underlying23
theorem ht24 : Tryd.prog.underlying 24 = some (.slice (Tryd.prog.elem 24)) := by rw [elem24]; exact Tryd.underlying24
def sl23 (v : Value) (lo hi mx : Option Value) : Sem Value := Instr.slice 23 v lo hi mx
def sl24 (v : Value) (lo hi mx : Option Value) : Sem Value := Instr.slice 24 v lo hi mx
theorem slice_sl23 (v : Value) (lo hi mx : Option Value) : Instr.slice 23 v lo hi mx = sl23 v lo hi mx := rfl
theorem slice_sl24 (v : Value) (lo hi mx : Option Value) : Instr.slice 24 v lo hi mx = sl24 v lo hi mx := rfl
theorem row_take {lo hi : Nat} {w : World} {a : Option Addr} {n c i size : Nat} {xs : List Value} (h : Row lo hi w (.slice a n c) n xs) (hi' : i ≤ n) (a1 : Option Addr) (ha : ∀ g o, a = some ⟨g, o, none⟩ → a1 = some ⟨g, o, none⟩) (hc : n ≤ c) : Row lo hi w (.slice a1 i c) i (xs.take (i * size)) := by
  refine ⟨a1, c, rfl, by omega, fun h0 => ?_⟩
  obtain ⟨g, o, rfl, h1, h2, h3⟩ := h.at (by omega)
  refine ⟨g, o, ha g o rfl, h1, h2, fun j u hj => h3 j u ?_⟩
  rw [List.getElem?_take] at hj
  split at hj
  · exact hj
  · cases hj
theorem row_drop {lo hi : Nat} {w : World} {a : Option Addr} {n c i size : Nat} {xs : List Value} (h : Row lo hi w (.slice a n c) n xs) (hi' : i ≤ n) (a1 : Option Addr) (ha : ∀ g o, i < n → a = some ⟨g, o, none⟩ → a1 = some ⟨g, o + i * size, none⟩) (hc : n ≤ c) : Row lo hi w (.slice a1 (n - i) (c - i)) (n - i) (xs.drop (i * size)) := by
  refine ⟨a1, c - i, rfl, by omega, fun h0 => ?_⟩
  obtain ⟨g, o, rfl, h1, h2, h3⟩ := h.at (by omega)
  refine ⟨g, o + i * size, ha g o (by omega) rfl, h1, h2, fun j u hj => ?_⟩
  rw [List.getElem?_drop] at hj
  rw [Nat.add_assoc]
  exact h3 _ u hj
theorem cut_hi23 (lo hi : Nat) (a : Option Addr) (n c i : Nat) (hn : n ≤ c) (hin : i ≤ n) : ∃ a1, (∀ w, (sl23 (.slice a n c) none (some (.int .i64 (i : Int))) none).run Tryd.prog w = .ok (.slice a1 i c) w) ∧ ∀ (w : World) (xs : List Value), xs.length = n → Row lo hi w (.slice a n c) n xs → Row lo hi w (.slice a1 i c) i (xs.take i) := by
  refine ⟨if c = 0 then a else a.map (·.add (0 * 1)), fun w => ?_, fun w xs hx hr => ?_⟩
  · unfold sl23
    rw [run_slice_h w 23 a n c ht23 .i64 (i : Int) (by omega) (by omega)]
    rw [elem23]
    simp [Tryd.sizeOf9, Result.andThen, sliced]
  · have := row_take (size := 1) hr hin (if c = 0 then a else a.map (·.add (0 * 1))) (fun g o e => by subst e; split <;> simp [addr_mid]) hn
    simpa using this
theorem cut_lo23 (lo hi : Nat) (a : Option Addr) (n c i : Nat) (hn : n ≤ c) (hin : i ≤ n) : ∃ a1, (∀ w, (sl23 (.slice a n c) (some (.int .i64 (i : Int))) none none).run Tryd.prog w = .ok (.slice a1 (n - i) (c - i)) w) ∧ ∀ (w : World) (xs : List Value), xs.length = n → Row lo hi w (.slice a n c) n xs → Row lo hi w (.slice a1 (n - i) (c - i)) (n - i) (xs.drop i) := by
  refine ⟨if c = i then a else a.map (·.add (i * 1)), fun w => ?_, fun w xs hx hr => ?_⟩
  · unfold sl23
    rw [run_slice_l w 23 a n c ht23 .i64 (i : Int) (by omega) (by omega)]
    rw [elem23]
    simp [Tryd.sizeOf9, Result.andThen, sliced]
  · have := row_drop (size := 1) hr hin (if c = i then a else a.map (·.add (i * 1))) (fun g o h e => by subst e; rw [if_neg (by omega)]; simp [addr_mid]) hn
    simpa using this
theorem cut_hi24 (lo hi : Nat) (a : Option Addr) (n c i : Nat) (hn : n ≤ c) (hin : i ≤ n) : ∃ a1, (∀ w, (sl24 (.slice a n c) none (some (.int .i64 (i : Int))) none).run Tryd.prog w = .ok (.slice a1 i c) w) ∧ ∀ (w : World) (xs : List Value), xs.length = n * 5 → Row lo hi w (.slice a n c) n xs → Row lo hi w (.slice a1 i c) i (xs.take (i * 5)) := by
  refine ⟨if c = 0 then a else a.map (·.add (0 * 5)), fun w => ?_, fun w xs hx hr => ?_⟩
  · unfold sl24
    rw [run_slice_h w 24 a n c ht24 .i64 (i : Int) (by omega) (by omega)]
    rw [elem24]
    simp [Tryd.sizeOf26, Result.andThen, sliced]
  · exact row_take (size := 5) hr hin (if c = 0 then a else a.map (·.add (0 * 5))) (fun g o e => by subst e; split <;> simp [addr_mid]) hn
theorem cut_lo24 (lo hi : Nat) (a : Option Addr) (n c i : Nat) (hn : n ≤ c) (hin : i ≤ n) : ∃ a1, (∀ w, (sl24 (.slice a n c) (some (.int .i64 (i : Int))) none none).run Tryd.prog w = .ok (.slice a1 (n - i) (c - i)) w) ∧ ∀ (w : World) (xs : List Value), xs.length = n * 5 → Row lo hi w (.slice a n c) n xs → Row lo hi w (.slice a1 (n - i) (c - i)) (n - i) (xs.drop (i * 5)) := by
  refine ⟨if c = i then a else a.map (·.add (i * 5)), fun w => ?_, fun w xs hx hr => ?_⟩
  · unfold sl24
    rw [run_slice_l w 24 a n c ht24 .i64 (i : Int) (by omega) (by omega)]
    rw [elem24]
    simp [Tryd.sizeOf26, Result.andThen, sliced]
  · exact row_drop (size := 5) hr hin (if c = i then a else a.map (·.add (i * 5))) (fun g o h e => by subst e; rw [if_neg (by omega)]; simp [addr_mid]) hn
end Go.Proofs.YthfjofmfiklegaaDoor
