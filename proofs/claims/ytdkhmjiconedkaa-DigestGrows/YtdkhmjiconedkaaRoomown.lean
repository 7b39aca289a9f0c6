/- The law's own helper roomy, its capacity said. -/
import Derived.Test.YtdkhmjiconedkaaOnce
namespace Go.Proofs.Ytdkhmjiconedkaa
open Go.RowKit Go.Great
set_option maxRecDepth 20000 in
set_option maxHeartbeats 400000 in
theorem roomy_some3 (g o n cap : Nat) (b : List Nat) (w : World) (hn : b.length = n) (hv : BytesAt w (.slice (some ⟨g, o, none⟩) n cap) b) (h0 : 0 < n) (hmax : n ≤ 3000) :
    Calls Try.prog 9 #[.slice (some ⟨g, o, none⟩) n cap] w fun e w' => ∃ (q : Nat) (R : List Nat), e = .returned (.slice (some ⟨q, 0, none⟩) (n + 1) (b ++ [171, 171] ++ R).length) ∧ w.heap.size ≤ q ∧ w'.heap[q]? = some (.cells (E8 (b ++ [171, 171] ++ R)) 5 (0, 0)) ∧ Below w.heap.size w w' := by
  subst hn
  go_enter Try.func9, Try.ntmps9
  go_wp2_with fail
  have hb0 : Below w.heap.size w (w.alloc (.cells #[] 5)) := (Below.refl _ _).alloc (Nat.le_refl _) _
  obtain ⟨v1, w1, hr1, ho1, hbl1, hz1⟩ := app_own (w.alloc (.cells #[] 5)) w.heap.size (.slice (some ⟨w.heap.size, 0, none⟩) 0 0) [] (some ⟨g, o, none⟩) b cap ⟨w.heap.size, [], rfl, Nat.le_refl _, heap_alloc_last w _⟩ (hv.below hb0) h0 (by simp; omega)
  rw [hr1]
  have hz1' : w.heap.size + 1 ≤ w1.heap.size := by simpa using hz1
  clear hr1
  go_wp2_with fail
  obtain ⟨v2, w2, hr2, ho2, hbl2, hz2⟩ := app_own (w1.alloc (.cells #[.int .u8 171] 5)) w.heap.size v1 ([] ++ b) (some ⟨w1.heap.size, 0, none⟩) [171] 1 (ho1.alloc _) (one_at w1 171) (by simp) (by simp; omega)
  first
    | rw [hr2]
    | (simp only [List.length_singleton] at hr2; rw [hr2])
  have hz2' : w1.heap.size + 1 ≤ w2.heap.size := by simpa using hz2
  clear hr2
  go_wp2_with fail
  obtain ⟨v3, w3, hr3, ho3, hbl3, hz3⟩ := app_own (w2.alloc (.cells #[.int .u8 171] 5)) w.heap.size v2 ([] ++ b ++ [171]) (some ⟨w2.heap.size, 0, none⟩) [171] 1 (ho2.alloc _) (one_at w2 171) (by simp) (by simp; omega)
  first
    | rw [hr3]
    | (simp only [List.length_singleton] at hr3; rw [hr3])
  clear hr3
  have hb3 : Below w.heap.size w w3 := (((hb0.trans hbl1).alloc (by omega) _).trans hbl2).alloc (by omega) _ |>.trans hbl3
  obtain ⟨q, R, rfl, hq, hh⟩ := ho3
  have hlen : ([] ++ b ++ [171] ++ [171]).length = b.length + 2 := by simp
  have hcap : b.length + 2 ≤ ([] ++ b ++ [171] ++ [171] ++ R).length := by simp
  rw [hlen]
  have HCC : Hid ((b ++ [171, 171] ++ R).length = ([] ++ b ++ [171] ++ [171] ++ R).length) := by show _ = _; simp
  generalize ([] ++ b ++ [171] ++ [171] ++ R).length = C at *
  have hc1 : b.length + 1 ≤ C := by omega
  go_wp2
  go_ret
  exact ⟨q, R, by rw [unhide HCC]; rfl, hq, by simpa using hh, hb3⟩

set_option maxRecDepth 20000 in
set_option maxHeartbeats 400000 in
theorem roomy_zero3 (a : Option Addr) (cap : Nat) (w : World) :
    Calls Try.prog 9 #[.slice a 0 cap] w fun e w' => ∃ (q : Nat) (R : List Nat), e = .returned (.slice (some ⟨q, 0, none⟩) (0 + 1) ([] ++ [171, 171] ++ R).length) ∧ w.heap.size ≤ q ∧ w'.heap[q]? = some (.cells (E8 ([] ++ [171, 171] ++ R)) 5 (0, 0)) ∧ Below w.heap.size w w' := by
  have hb0 : Below w.heap.size w (w.alloc (.cells #[] 5)) := (Below.refl _ _).alloc (Nat.le_refl _) _
  have hr1 := app_none (w.alloc (.cells #[] 5)) (some ⟨w.heap.size, 0, none⟩) a 0 0 cap (Nat.le_refl _)
  go_enter Try.func9, Try.ntmps9
  go_wp2_with fail
  clear hr1
  have ho1 : OwnB (w.alloc (.cells #[] 5)) w.heap.size (.slice (some ⟨w.heap.size, 0, none⟩) 0 0) [] := ⟨w.heap.size, [], rfl, Nat.le_refl _, heap_alloc_last w _⟩
  have hz1' : w.heap.size + 1 ≤ (w.alloc (.cells #[] 5)).heap.size := by simp
  generalize hw1 : w.alloc (.cells #[] 5) = w1 at *
  have hsz1 : w1.heap.size = w.heap.size + 1 := by rw [← hw1]; simp
  obtain ⟨v2, w2, hr2, ho2, hbl2, hz2⟩ := app_own (w1.alloc (.cells #[.int .u8 171] 5)) w.heap.size _ [] (some ⟨w1.heap.size, 0, none⟩) [171] 1 (ho1.alloc _) (one_at w1 171) (by simp) (by simp)
  simp only [List.length_singleton, hsz1] at hr2
  rw [hr2]
  have hz2' : w1.heap.size + 1 ≤ w2.heap.size := by simpa using hz2
  clear hr2
  go_wp2_with fail
  obtain ⟨v3, w3, hr3, ho3, hbl3, hz3⟩ := app_own (w2.alloc (.cells #[.int .u8 171] 5)) w.heap.size v2 ([] ++ [171]) (some ⟨w2.heap.size, 0, none⟩) [171] 1 (ho2.alloc _) (one_at w2 171) (by simp) (by simp)
  first
    | rw [hr3]
    | (simp only [List.length_singleton] at hr3; rw [hr3])
  clear hr3
  have hb3 : Below w.heap.size w w3 := ((hb0.alloc (by omega) _).trans hbl2).alloc (by omega) _ |>.trans hbl3
  obtain ⟨q, R, rfl, hq, hh⟩ := ho3
  have hlen : ([] ++ [171] ++ [171] : List Nat).length = 2 := rfl
  have hcap : 2 ≤ ([] ++ [171] ++ [171] ++ R : List Nat).length := by simp
  rw [hlen]
  have HCC : Hid (([] ++ [171, 171] ++ R : List Nat).length = ([] ++ [171] ++ [171] ++ R : List Nat).length) := by show _ = _; simp
  generalize ([] ++ [171] ++ [171] ++ R : List Nat).length = C at *
  have hc1 : 1 ≤ C := by omega
  go_wp2
  go_ret
  exact ⟨q, R, by rw [show R.length + 1 + 1 = C by have := unhide HCC; simpa using this]; rfl, hq, by simpa using hh, hb3⟩

/-- Bytes in a row of their own, marked behind. -/
theorem roomy_own (a : Option Addr) (n cap : Nat) (b : List Nat) (w : World) (hn : b.length = n) (hv : BytesAt w (.slice a n cap) b) (hmax : n ≤ 3000) :
    Calls Try.prog 9 #[.slice a n cap] w fun e w' => ∃ (q c : Nat), e = .returned (.slice (some ⟨q, 0, none⟩) (n + 1) c) ∧ w.heap.size ≤ q ∧ n + 1 ≤ c ∧ q < w'.heap.size ∧
      OwnB w' w.heap.size (.slice (some ⟨q, 0, none⟩) (n + 1) c) (b ++ [171]) ∧ BytesAt w' (.slice (some ⟨q, 0, none⟩) n c) b ∧ w'.cell? ⟨q, n, none⟩ = some (.int .u8 171) ∧ Below w.heap.size w w' := by
  subst hn
  have key : ∀ (q : Nat) (R : List Nat) (w' : World), w.heap.size ≤ q → w'.heap[q]? = some (.cells (E8 (b ++ [171, 171] ++ R)) 5 (0, 0)) → Below w.heap.size w w' →
      ∃ (q' c : Nat), Ending.returned (.slice (some ⟨q, 0, none⟩) (b.length + 1) (b ++ [171, 171] ++ R).length) = .returned (.slice (some ⟨q', 0, none⟩) (b.length + 1) c) ∧ w.heap.size ≤ q' ∧ b.length + 1 ≤ c ∧ q' < w'.heap.size ∧
      OwnB w' w.heap.size (.slice (some ⟨q', 0, none⟩) (b.length + 1) c) (b ++ [171]) ∧ BytesAt w' (.slice (some ⟨q', 0, none⟩) b.length c) b ∧ w'.cell? ⟨q', b.length, none⟩ = some (.int .u8 171) ∧ Below w.heap.size w w' := fun q R w' hq hh hb => by
    have hqs : q < w'.heap.size := (Array.getElem?_eq_some_iff.1 hh).1
    refine ⟨q, _, rfl, hq, by simp, hqs, ⟨q, 171 :: R, by simp, hq, by simpa using hh⟩, bytesAt_row w' q _ b _ _ (by unfold rowOf; rw [hh]) hqs (by simp) (by simp) (by rw [List.append_assoc, List.take_left' rfl]), ?_, hb⟩
    rw [cell_of_row w' q b.length _ 5 _ hh, E8_get _ _ (by simp), List.append_assoc, Sha.nth_append_right (Nat.le_refl _), Nat.sub_self]; rfl
  by_cases h0 : 0 < b.length
  · obtain ⟨g, o, rfl⟩ : ∃ g o, a = some ⟨g, o, none⟩ := by
      obtain ⟨a', c, e, hc, hx⟩ := hv
      obtain ⟨g, o, ea, hl, hcell⟩ := hx h0
      cases e; exact ⟨g, o, ea⟩
    refine (roomy_some3 g o _ cap b w rfl hv h0 hmax).mono ?_
    rintro e w' ⟨q, R, rfl, hq, hh, hb⟩
    exact key q R w' hq hh hb
  · obtain rfl : b = [] := List.eq_nil_of_length_eq_zero (by omega)
    refine (roomy_zero3 a cap w).mono ?_
    rintro e w' ⟨q, R, rfl, hq, hh, hb⟩
    exact key q R w' hq hh hb
end Go.Proofs.Ytdkhmjiconedkaa
