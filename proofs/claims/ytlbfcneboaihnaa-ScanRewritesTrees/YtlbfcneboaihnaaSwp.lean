/- swapOf, and the document's places and replace. -/
import Derived.Test.YtlbfcneboaihnaaRlw
namespace Go.Proofs.Ytlbfcneboaihnaa
open Go.RowKit Go.Great
set_option linter.unusedSimpArgs false
set_option maxRecDepth 20000 in
set_option maxHeartbeats 1000000 in
theorem swapOf_any (p q : List Nat) (w : World) (hp : Sha.Bytes p) (hpm : p.length ≤ 281474976710656) (hq : Sha.Bytes q) (hqm : q.length ≤ 281474976710656) :
    Calls Try.prog 35 #[.string (strOf p), .string (strOf q)] w fun e w' => Below w.heap.size w w' ∧
      ((Sha.isPth p ∧ Sha.isPth q ∧ ∃ gs, w.heap.size ≤ gs ∧ e = .returned (.tuple #[.pointer (some ⟨gs, 0, none⟩), .int .i64 0]) ∧ w'.heap[gs]? = some (.cells #[.string (strOf (p.take 32)), .string (strOf (q.take 32)), .int .i64 0] 68)) ∨
       (¬ (Sha.isPth p ∧ Sha.isPth q) ∧ e = .returned (.tuple #[.pointer none, .int .i64 3]))) := by
  have HP := hide (split_any p w hp hpm)
  have HQ := hide (fun w => split_any q w hq hqm)
  go_enter Try.func35, Try.ntmps35
  go_wp2_with fail
  refine (unhide HP).mono ?_
  rintro e w1 ⟨hb1, ⟨h1, he⟩ | ⟨h1, he⟩⟩
  · simp only [splitV, if_true] at he
    subst he
    have HB1 := hide hb1
    have H1 := hide h1
    have hz1 := hb1.size
    clear hb1 h1 HP
    generalize hF : p.take 32 = F at *
    have HF := hide hF
    clear hF
    generalize p.drop 33 = FN at *
    go_wp2_with fail
    refine (unhide HQ _).mono ?_
    rintro e w2 ⟨hb2, ⟨h2, he⟩ | ⟨h2, he⟩⟩
    · simp only [splitV, if_true] at he
      subst he
      have hbl2 : Below w.heap.size w w2 := (unhide HB1).trans (hb2.mono hz1)
      have HB2 := hide hbl2
      have H2 := hide h2
      have hz2 := hbl2.size
      clear hb2 hbl2 h2 HQ
      generalize hT : q.take 32 = T at *
      have HT := hide hT
      clear hT
      generalize q.drop 33 = TN at *
      go_wp2_with fail
      go_ret2
      refine ⟨(unhide HB2).alloc hz2 _, .inl ⟨unhide H1, unhide H2, w2.heap.size, hz2, rfl, ?_⟩⟩
      rw [unhide HF, unhide HT]
      exact World.alloc_heap_new w2 _
    · simp only [splitV, Bool.false_eq_true, if_false] at he
      subst he
      have hbl2 : Below w.heap.size w w2 := (unhide HB1).trans (hb2.mono hz1)
      have HB2 := hide hbl2
      have H2 := hide h2
      clear hb2 hbl2 h2 HQ
      go_wp2_with fail
      go_ret2
      exact ⟨unhide HB2, .inr ⟨fun h => unhide H2 h.2, rfl⟩⟩
  · simp only [splitV, Bool.false_eq_true, if_false] at he
    subst he
    have HB1 := hide hb1
    have H1 := hide h1
    clear hb1 h1 HP HQ
    go_wp2_with fail
    go_ret2
    exact ⟨unhide HB1, .inr ⟨fun h => unhide H1 h.1, rfl⟩⟩
end Go.Proofs.Ytlbfcneboaihnaa
