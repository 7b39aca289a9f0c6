/- The law's own helper roomy: bytes in a list of their own, with room behind them, which is marked. -/
import Derived.Test.YtdkhmjiconedkaaApp
namespace Go.Proofs.Ytdkhmjiconedkaa
open Go.RowKit Go.Great

theorem app_none (w : World) (a a' : Option Addr) (n cap c : Nat) (h : n ≤ cap) : ∀ ty, (app22 ty #[.slice a n cap, .slice a' 0 c]).run Try.prog w = .ok (.slice a n cap) w := by
  intro ty
  obtain ⟨i, hi, hz, hsz, hby⟩ := info5_at
  unfold app22
  refine run_append_nothing w 22 22 ty 5 i Try.underlying22 hi a n cap h _ ?_
  cases a' with
  | none => exact Src.ofNil w Try.underlying22 c
  | some x => exact Src.ofSlice w Try.underlying22 x 0 c [] (by simp) (fun j u hj => by simp at hj) (fun u hu => by simp at hu)

theorem OwnB.alloc {w : World} {base : Nat} {v : Value} {L : List Nat} (h : OwnB w base v L) (o : Obj) : OwnB (w.alloc o) base v L := by
  obtain ⟨g, R, rfl, hg, hh⟩ := h
  exact ⟨g, R, rfl, hg, by rw [Below.heap_alloc w o g (Array.getElem?_eq_some_iff.1 hh).1]; exact hh⟩
theorem one_at (w : World) (x : Nat) : BytesAt (w.alloc (.cells #[.int .u8 (x : Int)] 5)) (.slice (some ⟨w.heap.size, 0, none⟩) [x].length 1) [x] :=
  bytesAt_row _ _ [x] [x] 1 1 (rowOf_alloc_at _ _ _ _ rfl) (by simp) (by simp) (by simp) rfl
set_option maxRecDepth 20000 in
set_option maxHeartbeats 400000 in
theorem roomy_any (g o n cap : Nat) (b : List Nat) (w : World) (hn : b.length = n) (hv : BytesAt w (.slice (some ⟨g, o, none⟩) n cap) b) (h0 : 0 < n) (hmax : n ≤ 3000) :
    Calls Try.prog 9 #[.slice (some ⟨g, o, none⟩) n cap] w fun e w' => ∃ (q c : Nat) (R : List Nat), e = .returned (.slice (some ⟨q, 0, none⟩) (n + 1) c) ∧ w.heap.size ≤ q ∧ w'.heap[q]? = some (.cells (E8 (b ++ [171, 171] ++ R)) 5 (0, 0)) ∧ Below w.heap.size w w' := by
  subst hn
  go_enter Try.func9, Try.ntmps9
  go_wp2_with fail
  have hb0 : Below w.heap.size w (w.alloc (.cells #[] 5)) := (Below.refl _ _).alloc (Nat.le_refl _) _
  obtain ⟨v1, w1, hr1, ho1, hbl1, hz1⟩ := app_own (w.alloc (.cells #[] 5)) w.heap.size (.slice (some ⟨w.heap.size, 0, none⟩) 0 0) [] (some ⟨g, o, none⟩) b cap ⟨w.heap.size, [], rfl, Nat.le_refl _, heap_alloc_last w _⟩ (hv.below hb0) h0 (by simp; omega)
  rw [hr1]
  have hz1' : w.heap.size + 1 ≤ w1.heap.size := by simpa using hz1
  clear hr1
  go_wp2_with fail
  obtain ⟨v2, w2, hr2, ho2, hbl2, hz2⟩ := app_own (w1.alloc (.cells #[.int .u8 171] 5)) w.heap.size v1 ([] ++ b) (some ⟨w1.heap.size, 0, none⟩) [171] 1 (ho1.alloc _) (one_at w1 171) (by simp) (by simp; omega)
  first
    | rw [hr2]
    | (simp only [List.length_singleton] at hr2; rw [hr2])
  have hz2' : w1.heap.size + 1 ≤ w2.heap.size := by simpa using hz2
  clear hr2
  go_wp2_with fail
  obtain ⟨v3, w3, hr3, ho3, hbl3, hz3⟩ := app_own (w2.alloc (.cells #[.int .u8 171] 5)) w.heap.size v2 ([] ++ b ++ [171]) (some ⟨w2.heap.size, 0, none⟩) [171] 1 (ho2.alloc _) (one_at w2 171) (by simp) (by simp; omega)
  first
    | rw [hr3]
    | (simp only [List.length_singleton] at hr3; rw [hr3])
  clear hr3
  have hb3 : Below w.heap.size w w3 := (((hb0.trans hbl1).alloc (by omega) _).trans hbl2).alloc (by omega) _ |>.trans hbl3
  obtain ⟨q, R, rfl, hq, hh⟩ := ho3
  have hlen : ([] ++ b ++ [171] ++ [171]).length = b.length + 2 := by simp
  have hcap : b.length + 2 ≤ ([] ++ b ++ [171] ++ [171] ++ R).length := by simp
  rw [hlen]
  generalize ([] ++ b ++ [171] ++ [171] ++ R).length = C at *
  have hc1 : b.length + 1 ≤ C := by omega
  go_wp2
  go_ret
  exact ⟨q, C, R, rfl, hq, by simpa using hh, hb3⟩

set_option maxRecDepth 20000 in
set_option maxHeartbeats 400000 in
theorem roomy_zero (a : Option Addr) (cap : Nat) (w : World) :
    Calls Try.prog 9 #[.slice a 0 cap] w fun e w' => ∃ (q c : Nat) (R : List Nat), e = .returned (.slice (some ⟨q, 0, none⟩) (0 + 1) c) ∧ w.heap.size ≤ q ∧ w'.heap[q]? = some (.cells (E8 ([] ++ [171, 171] ++ R)) 5 (0, 0)) ∧ Below w.heap.size w w' := by
  have hb0 : Below w.heap.size w (w.alloc (.cells #[] 5)) := (Below.refl _ _).alloc (Nat.le_refl _) _
  have hr1 := app_none (w.alloc (.cells #[] 5)) (some ⟨w.heap.size, 0, none⟩) a 0 0 cap (Nat.le_refl _)
  go_enter Try.func9, Try.ntmps9
  go_wp2_with fail
  clear hr1
  have ho1 : OwnB (w.alloc (.cells #[] 5)) w.heap.size (.slice (some ⟨w.heap.size, 0, none⟩) 0 0) [] := ⟨w.heap.size, [], rfl, Nat.le_refl _, heap_alloc_last w _⟩
  have hz1' : w.heap.size + 1 ≤ (w.alloc (.cells #[] 5)).heap.size := by simp
  generalize hw1 : w.alloc (.cells #[] 5) = w1 at *
  have hsz1 : w1.heap.size = w.heap.size + 1 := by rw [← hw1]; simp
  obtain ⟨v2, w2, hr2, ho2, hbl2, hz2⟩ := app_own (w1.alloc (.cells #[.int .u8 171] 5)) w.heap.size _ [] (some ⟨w1.heap.size, 0, none⟩) [171] 1 (ho1.alloc _) (one_at w1 171) (by simp) (by simp)
  simp only [List.length_singleton, hsz1] at hr2
  rw [hr2]
  have hz2' : w1.heap.size + 1 ≤ w2.heap.size := by simpa using hz2
  clear hr2
  go_wp2_with fail
  obtain ⟨v3, w3, hr3, ho3, hbl3, hz3⟩ := app_own (w2.alloc (.cells #[.int .u8 171] 5)) w.heap.size v2 ([] ++ [171]) (some ⟨w2.heap.size, 0, none⟩) [171] 1 (ho2.alloc _) (one_at w2 171) (by simp) (by simp)
  first
    | rw [hr3]
    | (simp only [List.length_singleton] at hr3; rw [hr3])
  clear hr3
  have hb3 : Below w.heap.size w w3 := ((hb0.alloc (by omega) _).trans hbl2).alloc (by omega) _ |>.trans hbl3
  obtain ⟨q, R, rfl, hq, hh⟩ := ho3
  have hlen : ([] ++ [171] ++ [171] : List Nat).length = 2 := rfl
  have hcap : 2 ≤ ([] ++ [171] ++ [171] ++ R : List Nat).length := by simp
  rw [hlen]
  generalize ([] ++ [171] ++ [171] ++ R : List Nat).length = C at *
  have hc1 : 1 ≤ C := by omega
  go_wp2
  go_ret
  exact ⟨q, C, R, rfl, hq, by simpa using hh, hb3⟩
end Go.Proofs.Ytdkhmjiconedkaa
