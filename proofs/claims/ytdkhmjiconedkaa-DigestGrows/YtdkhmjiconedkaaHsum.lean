/- Sum: the first time, and again. -/
import Derived.Test.YtdkhmjiconedkaaHlock
namespace Go.Proofs.Ytdkhmjiconedkaa
open Go.RowKit Go.Great
set_option maxRecDepth 20000 in
set_option maxHeartbeats 1000000 in
theorem do_first (g pb : Nat) (all sum : List Nat) (w : World) (h : KeptL w g dz all sum) (hab : Sha.Bytes all) (hal : all.length ≤ 100000) (hp : w.cell? ⟨pb, 0, none⟩ = some (.pointer (some ⟨g, 0, none⟩))) (hpg : pb ≠ g) :
    Calls Try.prog 41 #[.pointer (some ⟨g, 73, none⟩), .func (.func 42) #[] #[.pointer (some ⟨pb, 0, none⟩)]] w fun e w' => e = .returned (.tuple #[]) ∧ ToldL w' g ⟨1, 0⟩ all ∧ Sole g w w' := by
  have h0 : w.cell? ⟨g, 73, none⟩ = some (.int .u32 0) := by obtain ⟨st, rest, hh, _⟩ := h; exact hh.done
  have hnot : ∀ (x : Bool) (w : World), (Op.unary .not (.bool x)).run Try.prog w = .ok (.bool (!x)) w := fun _ _ => rfl
  have HSL := hide (slow_any g pb all sum w h hab hal hp hpg)
  clear h
  go_enter Try.func41, Try.ntmps41
  go_wp2_with fail
  refine (bload_zero ⟨g, 73, none⟩ _ h0).mono ?_
  rintro e w' ⟨rfl, hw'⟩; rw [hw']; clear hw' w'
  go_wp2_with fail
  refine (unhide HSL).mono ?_
  rintro e w1 ⟨rfl, h1, hs1⟩
  have H1 := hide h1
  clear h1
  go_wp2
  go_end0
  exact ⟨rfl, unhide H1, hs1⟩
theorem KeptL.below {w w' : World} {g : Nat} {d : DL} {all sum : List Nat} (h : KeptL w g d all sum) (hb : Below w.heap.size w w') : KeptL w' g d all sum := by
  obtain ⟨st, rest, hh, h2⟩ := h
  exact ⟨st, rest, hh.below hb, h2⟩
theorem ToldL.below {w w' : World} {g : Nat} {d : DL} {all : List Nat} (h : ToldL w g d all) (hb : Below w.heap.size w w') : ToldL w' g d all := by
  obtain ⟨st, rest, hh⟩ := h
  exact ⟨st, rest, hh.below hb⟩
set_option maxRecDepth 20000 in
set_option maxHeartbeats 1000000 in
theorem hsum_first (g : Nat) (all sum : List Nat) (w : World) (h : KeptL w g dz all sum) (hab : Sha.Bytes all) (hal : all.length ≤ 100000) :
    Calls Try.prog 26 #[.pointer (some ⟨g, 0, none⟩)] w fun e w' => e = .returned (.agg (E8 (Sha.sum all))) ∧ ToldL w' g ⟨1, 0⟩ all ∧ Sole g w w' := by
  have hg : g < w.heap.size := by obtain ⟨st, rest, hh, _⟩ := h; exact hh.lt
  have hmf : ∀ (fn : Fn) (first cap : Array Value) (w : World), (Instr.makeFunc fn first cap).run Try.prog w = .ok (.func fn first cap) w := fun _ _ _ _ => rfl
  go_enter Try.func26, Try.ntmps26
  have hbA : Below w.heap.size w ((w.alloc (.cells #[.pointer (some ⟨g, 0, none⟩)] 42)).alloc (.cells Z25 25)) := ((Below.refl _ _).alloc (Nat.le_refl _) _).alloc (by simp) _
  have hpA : ((w.alloc (.cells #[.pointer (some ⟨g, 0, none⟩)] 42)).alloc (.cells Z25 25)).cell? ⟨w.heap.size, 0, none⟩ = some (.pointer (some ⟨g, 0, none⟩)) := by simp [go_sem]
  have HDO := hide (do_first g w.heap.size all sum _ (h.below hbA) hab hal hpA (by omega))
  clear h
  go_wp2_with fail
  refine (unhide HDO).mono ?_
  rintro e w1 ⟨rfl, h1, hs1⟩
  obtain ⟨st2, rest2, hh1⟩ := h1
  have hp1 : w1.cell? ⟨w.heap.size, 0, none⟩ = some (.pointer (some ⟨g, 0, none⟩)) := by
    rw [World.cell?_of_block (w := (w.alloc (.cells #[.pointer (some ⟨g, 0, none⟩)] 42)).alloc (.cells Z25 25)) (w' := w1) (a := ⟨w.heap.size, 0, none⟩) (hs1.block w.heap.size (by simp; omega) (by omega))]; exact hpA
  have hfit1 : fits w1 (w.heap.size + 1) 32 = true := by rw [fits_of (hs1.block (w.heap.size + 1) (by simp) (by omega))]; simp [go_sem]
  have hld := hh1.ld25
  have hs01 : Sole g w w1 := (Sole.of_below hbA).trans hs1
  have hl : (Sha.sum all).length = 32 := Sha.sumBehind_length _ _ _
  have HT : Hid (ToldL (w1.setRow (w.heap.size + 1) (E8 (Sha.sum all))) g ⟨1, 0⟩ all) := ⟨st2, rest2, by
    obtain ⟨a1, a2, a3, a4⟩ := hh1
    exact ⟨by rw [setRow_other w1 (w.heap.size + 1) g _ (by omega)]; exact a1, a2, a3, a4⟩⟩
  have hs2 : Sole g w (w1.setRow (w.heap.size + 1) (E8 (Sha.sum all))) := by
    refine ⟨hs01.os, hs01.tape, hs01.output, by have := hs01.size; simp; exact this, fun k hk hkg => ?_⟩
    rw [setRow_other w1 (w.heap.size + 1) k _ (by omega)]; exact hs01.block k hk hkg
  clear hh1 hs1 hs01
  generalize hSS : Sha.sum all = SS at *
  have HSS := hide hSS
  clear hSS
  go_wp2
  exact bodyPost_ret (results_at Try.results26 _ _ hfit1 rfl hl) rfl ⟨by rw [unhide HSS], unhide HT, hs2⟩
set_option maxRecDepth 20000 in
set_option maxHeartbeats 1000000 in
theorem hsum_again (g : Nat) (all : List Nat) (w : World) (h : ToldL w g ⟨1, 0⟩ all) :
    Calls Try.prog 26 #[.pointer (some ⟨g, 0, none⟩)] w fun e w' => e = .returned (.agg (E8 (Sha.sum all))) ∧ ToldL w' g ⟨1, 0⟩ all ∧ Sole g w w' := by
  have hg : g < w.heap.size := by obtain ⟨st, rest, hh⟩ := h; exact hh.lt
  have hmf : ∀ (fn : Fn) (first cap : Array Value) (w : World), (Instr.makeFunc fn first cap).run Try.prog w = .ok (.func fn first cap) w := fun _ _ _ _ => rfl
  go_enter Try.func26, Try.ntmps26
  have hbA : Below w.heap.size w ((w.alloc (.cells #[.pointer (some ⟨g, 0, none⟩)] 42)).alloc (.cells Z25 25)) := ((Below.refl _ _).alloc (Nat.le_refl _) _).alloc (by simp) _
  have hpA : ((w.alloc (.cells #[.pointer (some ⟨g, 0, none⟩)] 42)).alloc (.cells Z25 25)).cell? ⟨w.heap.size, 0, none⟩ = some (.pointer (some ⟨g, 0, none⟩)) := by simp [go_sem]
  have hA := h.below hbA
  have HDO : Hid (Calls Try.prog 41 #[.pointer (some ⟨g, 73, none⟩), .func (.func 42) #[] #[.pointer (some ⟨w.heap.size, 0, none⟩)]] ((w.alloc (.cells #[.pointer (some ⟨g, 0, none⟩)] 42)).alloc (.cells Z25 25)) fun e w' => e = .returned (.tuple #[]) ∧ ToldL w' g ⟨1, 0⟩ all ∧ Sole g ((w.alloc (.cells #[.pointer (some ⟨g, 0, none⟩)] 42)).alloc (.cells Z25 25)) w') := by
    have hd : ((w.alloc (.cells #[.pointer (some ⟨g, 0, none⟩)] 42)).alloc (.cells Z25 25)).cell? ⟨g, 73, none⟩ = some (.int .u32 1) := by obtain ⟨st, rest, hh⟩ := hA; exact hh.done
    exact (do_done g 1 (by omega) _ _ hd).mono fun e w' hw => ⟨hw.1, by rw [hw.2]; exact hA, by rw [hw.2]; exact Sole.refl _ _⟩
  clear h hA
  go_wp2_with fail
  refine (unhide HDO).mono ?_
  rintro e w1 ⟨rfl, h1, hs1⟩
  obtain ⟨st2, rest2, hh1⟩ := h1
  have hp1 : w1.cell? ⟨w.heap.size, 0, none⟩ = some (.pointer (some ⟨g, 0, none⟩)) := by
    rw [World.cell?_of_block (w := (w.alloc (.cells #[.pointer (some ⟨g, 0, none⟩)] 42)).alloc (.cells Z25 25)) (w' := w1) (a := ⟨w.heap.size, 0, none⟩) (hs1.block w.heap.size (by simp; omega) (by omega))]; exact hpA
  have hfit1 : fits w1 (w.heap.size + 1) 32 = true := by rw [fits_of (hs1.block (w.heap.size + 1) (by simp) (by omega))]; simp [go_sem]
  have hld := hh1.ld25
  have hs01 : Sole g w w1 := (Sole.of_below hbA).trans hs1
  have hl : (Sha.sum all).length = 32 := Sha.sumBehind_length _ _ _
  have HT : Hid (ToldL (w1.setRow (w.heap.size + 1) (E8 (Sha.sum all))) g ⟨1, 0⟩ all) := ⟨st2, rest2, by
    obtain ⟨a1, a2, a3, a4⟩ := hh1
    exact ⟨by rw [setRow_other w1 (w.heap.size + 1) g _ (by omega)]; exact a1, a2, a3, a4⟩⟩
  have hs2 : Sole g w (w1.setRow (w.heap.size + 1) (E8 (Sha.sum all))) := by
    refine ⟨hs01.os, hs01.tape, hs01.output, by have := hs01.size; simp; exact this, fun k hk hkg => ?_⟩
    rw [setRow_other w1 (w.heap.size + 1) k _ (by omega)]; exact hs01.block k hk hkg
  clear hh1 hs1 hs01
  generalize hSS : Sha.sum all = SS at *
  have HSS := hide hSS
  clear hSS
  go_wp2
  exact bodyPost_ret (results_at Try.results26 _ _ hfit1 rfl hl) rfl ⟨by rw [unhide HSS], unhide HT, hs2⟩
end Go.Proofs.Ytdkhmjiconedkaa
