/- full, alone, write, and the thing that Write plans. -/
import Derived.Test.YtbnbakcoomjnaaaFly
namespace Go.Proofs.Ytbnbakcoomjnaaa
open Go.RowKit Go.Maps
set_option linter.unusedSimpArgs false
set_option maxRecDepth 20000 in
set_option maxHeartbeats 1000000 in
theorem full_no (f o : Nat) (m : Option Nat) (n : Nat) (L : ByteArray → Option Nat) (w : World) (hc : w.cell? ⟨f, o, none⟩ = some (.map m)) (h : TabIs w m n L) (hn : n ≤ 1000) :
    Calls Try.prog 30 #[.pointer (some ⟨f, o, none⟩)] w fun e w' => e = .returned (.bool false) ∧ w' = w := by
  obtain ⟨k, hk, hkn⟩ := tab_len h 3
  have hkl : k ≤ 1000 := by omega
  clear hkn h
  go_enter Try.func30, Try.ntmps30
  go_wp2_with fail
  go_ret
  have e : decide ((16384 : Int) ≤ (k : Int)) = false := decide_eq_false (by omega)
  exact ⟨by rw [← e]; rfl, rfl⟩
set_option maxRecDepth 20000 in
set_option maxHeartbeats 1000000 in
theorem alone_none (f o : Nat) (m : Option Nat) (n : Nat) (L : ByteArray → Option Nat) (s : ByteArray) (w : World) (hc : w.cell? ⟨f, o, none⟩ = some (.map m)) (h : TabIs w m n L) (hs : s.size ≤ maxLen) (hL : L s = none) :
    Calls Try.prog 31 #[.pointer (some ⟨f, o, none⟩), .string s] w fun e w' => e = .returned (.int .i64 0) ∧ w' = w := by
  have hl := tab_look h hs
  rw [hL] at hl
  unfold ptr at hl
  go_enter Try.func31, Try.ntmps31
  go_wp2_with fail
  go_ret
  exact ⟨rfl, rfl⟩
set_option maxRecDepth 20000 in
set_option maxHeartbeats 1000000 in
theorem write_none (f o : Nat) (m : Option Nat) (n : Nat) (L : ByteArray → Option Nat) (s : ByteArray) (a : Option Addr) (d c : Nat) (u : Nat) (w : World) (hc : w.cell? ⟨f, o, none⟩ = some (.map m)) (hu : w.cell? ⟨f, o + 1, none⟩ = some (.int .i64 (u : Int))) (hfz : ∀ j, w.frozen? ⟨f, j, none⟩ = false)
    (h : TabIs w m n L) (hs : s.size ≤ maxLen) (hn : n < maxLen) (hL : L s = none) (hm : m = none → n = 0) (hb : u + d ≤ 1000000000000) :
    Calls Try.prog 35 #[.pointer (some ⟨f, o, none⟩), .string s, .slice a d c] w fun e w' => e = .returned (.tuple #[]) ∧ ∃ mb, Laid f o w.heap.size mb m 0 n L s ((w.setCell ⟨f, o + 1, none⟩ (.int .i64 ((u + d : Nat) : Int))).alloc (.cells #[.slice a d c, .int .i32 0] 94)) w' := by
  have r1 := hfz (o + 1)
  have hfl : f < w.heap.size := cellLt hc
  obtain ⟨w1, hw1⟩ : ∃ w1, w1 = (w.setCell ⟨f, o + 1, none⟩ (.int .i64 ((u + d : Nat) : Int))).alloc (.cells #[.slice a d c, .int .i32 0] 94) := ⟨_, rfl⟩
  have hs1 : w1.heap.size = w.heap.size + 1 := by rw [hw1]; simp [World.setCell]
  have hc1 : w1.cell? ⟨f, o, none⟩ = some (.map m) := by rw [hw1]; simp [go_sem, hc, hfl]
  have hz1 : w1.frozen? ⟨f, o, none⟩ = false := by have := hfz o; rw [hw1]; simp [go_sem, this, hfl]
  have hb0 : w1.heap[w.heap.size]? = some (.cells #[.slice a d c, .int .i32 0] 94) := by
    rw [hw1]
    show ((w.setCell ⟨f, o + 1, none⟩ (.int .i64 ((u + d : Nat) : Int))).heap.push _)[w.heap.size]? = _
    rw [Array.getElem?_push, if_pos (by simp [World.setCell])]
  have hg1 : w1.cell? ⟨w.heap.size, 1, none⟩ = some (.int .i32 0) := by simp [World.cell?, hb0]
  have hgz : w1.frozen? ⟨w.heap.size, 1, none⟩ = false := by simp [World.frozen?, hb0]
  have hT1 : TabIs w1 m n L := h.same fun mb e => by
    subst e
    obtain ⟨D, ho, _⟩ := id h
    have hmb := ho.lt
    have hmf : mb ≠ f := fun e2 => by
      subst e2
      obtain ⟨es, clock, hb', _⟩ := ho
      simp [World.cell?, hb'] at hc
    rw [hw1, Below.heap_alloc _ _ _ (by simp [World.setCell]; exact hmb)]
    exact set_other _ _ _ _ _ hmf
  have HL := hide (lay_none f o w.heap.size m n L s 0 w1 hc1 hz1 hT1 hs hn hL hg1 hgz (by omega) (by omega) hm)
  rw [hw1] at HL
  have ecast : ((u + d : Nat) : Int) = (u : Int) + (d : Int) := by omega
  rw [ecast] at HL ⊢
  clear h hT1 hc1 hz1 hg1 hgz hs1 hw1 hb0
  go_enter Try.func35, Try.ntmps35
  go_wp2_with fail
  refine (unhide HL).mono ?_
  rintro e w2 ⟨rfl, hE⟩
  have HE := hide hE
  clear hE
  go_wp2_with fail
  go_end0
  exact ⟨rfl, unhide HE⟩
end Go.Proofs.Ytbnbakcoomjnaaa
