/- The law's own helper roomy: bytes in a list of their own, with room behind them, which is marked. -/
import Derived.Test.YtlbfcneboaihnaaApp
namespace Go.Proofs.Ytlbfcneboaihnaa
open Go.RowKit Go.Great

theorem app_none (w : World) (a a' : Option Addr) (n cap c : Nat) (h : n ≤ cap) : ∀ ty, (app52 ty #[.slice a n cap, .slice a' 0 c]).run Try.prog w = .ok (.slice a n cap) w := by
  intro ty
  obtain ⟨i, hi, hz, hsz, hby⟩ := info5_at
  unfold app52
  refine run_append_nothing w 22 22 ty 5 i Try.underlying22 hi a n cap h _ ?_
  cases a' with
  | none => exact Src.ofNil w Try.underlying22 c
  | some x => exact Src.ofSlice w Try.underlying22 x 0 c [] (by simp) (fun j u hj => by simp at hj) (fun u hu => by simp at hu)

theorem OwnB.alloc {w : World} {base : Nat} {v : Value} {L : List Nat} (h : OwnB w base v L) (o : Obj) : OwnB (w.alloc o) base v L := by
  obtain ⟨g, R, rfl, hg, hh⟩ := h
  exact ⟨g, R, rfl, hg, by rw [Below.heap_alloc w o g (Array.getElem?_eq_some_iff.1 hh).1]; exact hh⟩
theorem one_at (w : World) (x : Nat) : BytesAt (w.alloc (.cells #[.int .u8 (x : Int)] 5)) (.slice (some ⟨w.heap.size, 0, none⟩) [x].length 1) [x] :=
  bytesAt_row _ _ [x] [x] 1 1 (rowOf_alloc_at _ _ _ _ rfl) (by simp) (by simp) (by simp) rfl
end Go.Proofs.Ytlbfcneboaihnaa
