/- The Hasher's start: the first state is laid in as long as there is no byte. -/
import Derived.Test.YtdkhmjiconedkaaHpart
namespace Go.Proofs.Ytdkhmjiconedkaa
open Go.RowKit Go.Great
/-- Of what was there only one block has changed. -/
structure Sole (g : Nat) (a b : World) : Prop where
  os : b.os = a.os
  tape : b.tape = a.tape
  output : b.output = a.output
  size : a.heap.size ≤ b.heap.size
  block : ∀ k, k < a.heap.size → k ≠ g → b.heap[k]? = a.heap[k]?
theorem Sole.refl (g : Nat) (w : World) : Sole g w w := ⟨rfl, rfl, rfl, Nat.le_refl _, fun _ _ _ => rfl⟩
theorem Sole.trans {g : Nat} {a b c : World} (h : Sole g a b) (k : Sole g b c) : Sole g a c :=
  ⟨k.os.trans h.os, k.tape.trans h.tape, k.output.trans h.output, Nat.le_trans h.size k.size, fun i hi hg => (k.block i (Nat.lt_of_lt_of_le hi h.size) hg).trans (h.block i hi hg)⟩
theorem Sole.of_below {g : Nat} {a b : World} (h : Below a.heap.size a b) : Sole g a b := ⟨h.os, h.tape, h.output, h.size, fun k hk _ => h.block k hk⟩
theorem Sole.setRow (g : Nat) (w : World) (c : Array Value) : Sole g w (w.setRow g c) := ⟨rfl, rfl, rfl, by simp, fun k _ hg => setRow_other w g k c hg⟩
theorem Sole.below {g base : Nat} {a b : World} (h : Sole g a b) (hb : base ≤ g) (hg : base ≤ a.heap.size) : Below base a b := ⟨h.os, h.tape, h.output, h.size, fun k hk => h.block k (by omega) (by omega)⟩
theorem HasH.below {w w' : World} {g : Nat} {st rest sum : List Nat} {N : Int} {done : DL} {told : Bool} (h : HasH w g st rest N done told sum) (hb : Below w.heap.size w w') : HasH w' g st rest N done told sum := by
  obtain ⟨hh, h8, h64, h32⟩ := h
  exact ⟨by rw [hb.block g (Array.getElem?_eq_some_iff.1 hh).1]; exact hh, h8, h64, h32⟩
theorem HasH.lt {w : World} {g : Nat} {st rest sum : List Nat} {N : Int} {done : DL} {told : Bool} (h : HasH w g st rest N done told sum) : g < w.heap.size := (Array.getElem?_eq_some_iff.1 h.1).1
set_option maxRecDepth 20000 in
set_option maxHeartbeats 400000 in
theorem start_any (g : Nat) (st rest sum : List Nat) (N : Nat) (done : DL) (told : Bool) (w : World) (h : HasH w g st rest (N : Int) done told sum) :
    Calls Try.prog 35 #[.pointer (some ⟨g, 0, none⟩)] w fun e w' => e = .returned (.tuple #[]) ∧ HasH w' g (if N = 0 then Sha.start.list else st) rest (N : Int) done told sum ∧ Sole g w w' := by
  have HL := hide (load_any g 72 N w h.size)
  by_cases hN : N = 0
  · subst hN
    go_enter Try.func35, Try.ntmps35
    go_wp2_with (go_at_call 40; refine (unhide HL).mono ?_; rintro e w' ⟨rfl, hw'⟩; rw [hw']; clear hw' w')
    refine (firstState_any _).mono ?_
    rintro e w1 ⟨rfl, hb1⟩
    have h1 := h.below hb1
    have hst := h1.st50 Sha.start.list rfl
    have hset := h1.setSt Sha.start.list rfl
    have hsole : Sole g w (w1.setRow g (hcells Sha.start.list rest 0 done told sum)) := (Sole.of_below hb1).trans (Sole.setRow g w1 _)
    generalize hS : Sha.start.list = S at *
    have HS := hide hS
    clear hS
    go_wp2
    go_end0
    exact ⟨rfl, by first | exact hset | (rw [unhide HS]; exact hset), hsole⟩
  · have hne : ((N : Int) == 0) = false := by rw [beq_eq_false_iff_ne]; omega
    go_enter Try.func35, Try.ntmps35
    go_wp2_with (go_at_call 40; refine (unhide HL).mono ?_; rintro e w' ⟨rfl, hw'⟩; rw [hw']; clear hw' w')
    go_end0
    refine ⟨rfl, ?_, Sole.refl _ _⟩
    assumption
end Go.Proofs.Ytdkhmjiconedkaa
