/- The small functions of a table and of a FS: counts of names, drop, alone, dead, burn, New. -/
import Derived.Test.YtbnbakcoomjnaaaFtb
import Derived.OwnWalkIn
namespace Go.Proofs.Ytbnbakcoomjnaaa
open Go.RowKit Go.Maps
set_option linter.unusedSimpArgs false
set_option maxRecDepth 20000 in
theorem load32 (a : Addr) (v : Int) (w : World) (hc : w.cell? a = some (.int .i32 v)) : Calls Try.prog 56 #[.pointer (some a)] w fun e w' => e = .returned (.int .i32 v) ∧ w' = w := by
  have hl := run_call_load (P := Try.prog) Try.func87 (by kernel_rfl) (by kernel_rfl) (by kernel_rfl) .i32 (by kernel_rfl) hc
  go_enter Try.func56, Try.ntmps56
  go_wp2
  go_ret
  exact ⟨rfl, rfl⟩
set_option maxRecDepth 20000 in
theorem add32 (a : Addr) (v y s : Int) (w : World) (hc : w.cell? a = some (.int .i32 v)) (hz : w.frozen? a = false) (hs : (Op.intArith .add .i32 v y).run Try.prog w = .ok (.int .i32 s) w) : Calls Try.prog 88 #[.pointer (some a), .int .i32 y] w fun e w' => e = .returned (.int .i32 s) ∧ w' = w.setCell a (.int .i32 s) := by
  have hl := run_call_add (P := Try.prog) Try.func96 (by kernel_rfl) (by kernel_rfl) (by kernel_rfl) .i32 (by kernel_rfl) (y := y) (s := s) hc hz hs
  go_enter Try.func88, Try.ntmps88
  go_wp2
  go_ret
  exact ⟨rfl, rfl⟩
theorem turned_ne {w w' : World} {mb : Nat} (h : w.mapTurned w' mb) {a : Addr} {v : Value} (hc : w.cell? a = some v) : a.block ≠ mb := by
  rintro e
  obtain ⟨es, clock, _, _, hb, _⟩ := h
  rw [← e] at hb
  simp [World.cell?, hb] at hc
theorem turned_block {w w' : World} {mb : Nat} (h : w.mapTurned w' mb) {k : Nat} (hk : k < w.heap.size) (hne : k ≠ mb) : w'.heap[k]? = w.heap[k]? := h.grown.block k hk (by simp [hne])
theorem cellLt {w : World} {x : Addr} {v : Value} (h : w.cell? x = some v) : x.block < w.heap.size := by
  unfold World.cell? at h
  split at h
  · rename_i c t fr e
    exact (Array.getElem?_eq_some_iff.1 e).1
  · simp at h
theorem turned_cell {w w' : World} {mb : Nat} (h : w.mapTurned w' mb) {a : Addr} {v : Value} (hc : w.cell? a = some v) : w'.cell? a = some v := by
  rw [World.cell?_of_block (turned_block h (cellLt hc) (turned_ne h hc))]; exact hc
theorem wrap32 {k y : Int} {w : World} (h1 : -1000000 ≤ k + y) (h2 : k + y ≤ 1000000) : (Op.intArith .add .i32 k y).run Try.prog w = .ok (.int .i32 (k + y)) w := by
  have e : IntKind.i32.wrap (k + y) = k + y := by simp [IntKind.wrap, IntKind.bits, IntKind.signed]; omega
  simp [go_sem, e]
set_option maxRecDepth 20000 in
set_option maxHeartbeats 1000000 in
theorem drop_none (f o : Nat) (m : Option Nat) (n : Nat) (L : ByteArray → Option Nat) (s : ByteArray) (w : World) (hc : w.cell? ⟨f, o, none⟩ = some (.map m)) (h : TabIs w m n L) (hs : s.size ≤ maxLen) (hL : L s = none) :
    Calls Try.prog 68 #[.pointer (some ⟨f, o, none⟩), .string s] w fun e w' => e = .returned (.tuple #[]) ∧ w' = w := by
  have hl := tab_look h hs
  rw [hL] at hl
  unfold ptr at hl
  go_enter Try.func68, Try.ntmps68
  go_wp2_with fail
  refine bodyPost_ret (results_none rfl _ _ _) rfl ⟨rfl, rfl⟩
set_option maxRecDepth 20000 in
set_option maxHeartbeats 1000000 in
theorem drop_some (f o : Nat) (mb : Nat) (n : Nat) (L : ByteArray → Option Nat) (s : ByteArray) (g : Nat) (k : Int) (w : World) (hc : w.cell? ⟨f, o, none⟩ = some (.map (some mb)))
    (h : TabIs w (some mb) n L) (hs : s.size ≤ maxLen) (hL : L s = some g) (hg1 : w.cell? ⟨g, 1, none⟩ = some (.int .i32 k)) (hgz : w.frozen? ⟨g, 1, none⟩ = false) (hk : 2 ≤ k ∧ k ≤ 100000) :
    Calls Try.prog 68 #[.pointer (some ⟨f, o, none⟩), .string s] w fun e w' => e = .returned (.tuple #[]) ∧ ∃ w1, w.mapTurned w1 mb ∧ TabIs w1 (some mb) n (upd L s none) ∧ w' = w1.setCell ⟨g, 1, none⟩ (.int .i32 (k + -1)) := by
  have hl := tab_look h hs
  rw [hL] at hl
  unfold ptr at hl
  obtain ⟨w1, hr1, hT1, ht1⟩ := tab_drop h hs 0
  have hg1' := turned_cell ht1 hg1
  have hz1 : w1.frozen? ⟨g, 1, none⟩ = false := by rw [ht1.frozen]; exact hgz
  have HA := hide (add32 ⟨g, 1, none⟩ k (-1) (k + -1) w1 hg1' hz1 (wrap32 (by omega) (by omega)))
  have HT := hide (And.intro ht1 hT1)
  clear h hT1 ht1
  go_enter Try.func68, Try.ntmps68
  go_wp2_with fail
  refine (unhide HA).mono ?_
  rintro e w2 ⟨rfl, rfl⟩
  have hne : ¬ (k + -1 = 0) := by omega
  go_wp2_with fail
  go_end0
  exact ⟨rfl, w1, (unhide HT).1, (unhide HT).2, rfl⟩
set_option maxRecDepth 20000 in
theorem dead_no (f : Nat) (w : World) (hf : w.cell? ⟨f, 8, none⟩ = some (.bool false))  : Calls Try.prog 38 #[.pointer (some ⟨f, 0, none⟩)] w fun e w' => e = .returned (.bool false) ∧ w' = w := by
  go_enter Try.func38, Try.ntmps38
  go_wp2_with fail
  go_ret
  exact ⟨rfl, rfl⟩
set_option maxRecDepth 20000 in
theorem burn_no (f : Nat) (w : World) (hf : w.cell? ⟨f, 8, none⟩ = some (.bool false)) : Calls Try.prog 40 #[.pointer (some ⟨f, 0, none⟩)] w fun e w' => e = .returned (.tuple #[]) ∧ w' = w := by
  go_enter Try.func40, Try.ntmps40
  go_wp2_with fail
  go_end0
  exact ⟨rfl, rfl⟩
set_option maxRecDepth 20000 in
theorem new_any (r : Nat) (w : World) (hr : r ≤ 1073741824) : Calls Try.prog 9 #[.int .i64 (r : Int)] w fun e w' => e = .returned (.tuple #[.pointer (some ⟨w.heap.size, 0, none⟩), .int .i64 0]) ∧ w' = w.alloc (.cells #[.int .i32 0, .int .u32 0, .int .i64 (r : Int), .map none, .int .i64 0, .map none, .int .i64 0, .slice none 0 0, .bool false, .int .i64 0] 67) := by
  go_enter Try.func9, Try.ntmps9
  go_wp2_with fail
  go_ret2
  exact ⟨rfl, rfl⟩
end Go.Proofs.Ytbnbakcoomjnaaa
