/- The law's own helpers: same, roomy, stands. -/
import Derived.Test.YtlbfcneboaihnaaOwnr
namespace Go.Proofs.Ytlbfcneboaihnaa
open Go.RowKit Go.Great
set_option linter.unusedSimpArgs false
theorem nats_eq_of {xs ys : List Nat} (hl : xs.length = ys.length) (h : ∀ j, j < xs.length → xs.getD j 0 = ys.getD j 0) : xs = ys := by
  apply List.ext_getElem hl
  intro i h1 h2
  have := h i h1
  rw [List.getD_eq_getElem?_getD, List.getD_eq_getElem?_getD, List.getElem?_eq_getElem h1, List.getElem?_eq_getElem h2] at this
  exact this
theorem byte_at {w : World} {a : Option Addr} {n c : Nat} {B : List Nat} (h : BytesAt w (.slice a n c) B) (hn : B.length = n) (i : Nat) (hi : i < n) : ∃ g o, a = some ⟨g, o, none⟩ ∧ w.cell? ⟨g, o + i, none⟩ = some (.int .u8 ((B.getD i 0 : Nat) : Int)) := by
  obtain ⟨g, o, e, h⟩ := bytes_at h hn i hi
  exact ⟨g, o, e, by rw [h, nth_getD]⟩
set_option maxRecDepth 20000 in
set_option maxHeartbeats 1000000 in
theorem same_any (a b : Option Addr) (n m c d : Nat) (xs ys : List Nat) (w : World) (hx : BytesAt w (.slice a n c) xs) (hy : BytesAt w (.slice b m d) ys) (hn : xs.length = n) (hm : ys.length = m) (hmax : n ≤ 100000000) (hmax2 : m ≤ 100000000) :
    Calls Try.prog 20 #[.slice a n c, .slice b m d] w fun e w' => (∃ q, w' = w.drewN q) ∧ e = .returned (.bool (decide (xs = ys))) := by
  by_cases hnm : n = m
  case neg =>
    have hD : decide (xs = ys) = false := decide_eq_false (fun e => hnm (by rw [← hn, ← hm, e]))
    have e1 : ((n : Int) == (m : Int)) = false := by rw [beq_eq_false_iff_ne]; omega
    rw [hD]
    clear hx hy hnm hn hm
    go_enter Try.func20, Try.ntmps20
    go_wp2_with fail
    go_ret
    exact ⟨⟨0, rfl⟩, rfl⟩
  case pos =>
  subst hnm
  have HX : Hid (∀ i, i < n → ∃ g o, a = some ⟨g, o, none⟩ ∧ w.cell? ⟨g, o + i, none⟩ = some (.int .u8 ((xs.getD i 0 : Nat) : Int))) := fun i hi => byte_at hx hn i hi
  have HY : Hid (∀ i, i < n → ∃ g o, b = some ⟨g, o, none⟩ ∧ w.cell? ⟨g, o + i, none⟩ = some (.int .u8 ((ys.getD i 0 : Nat) : Int))) := fun i hi => byte_at hy hm i hi
  have HN := hide (And.intro hn hm)
  clear hx hy hn hm
  go_enter Try.func20, Try.ntmps20
  go_wp2_with fail
  go_loopw [5] (fun vi wr => ∃ i : Nat, i ≤ n ∧ vi = .int .i64 (i : Int) ∧ (∃ q, wr = w.drewN q) ∧ Hid (∀ j, j < i → xs.getD j 0 = ys.getD j 0)) (fun vi _ => n - (intOf vi).toNat)
  case atStart => exact ⟨0, by omega, rfl, ⟨0, rfl⟩, fun j h => by omega⟩
  case round =>
    obtain ⟨i, hin, rfl, ⟨q, rfl⟩, hlo⟩ := hrel
    by_cases hlt : i < n
    · obtain ⟨g, o, rfl, hcx⟩ := unhide HX i hlt
      obtain ⟨g', o', rfl, hcy⟩ := unhide HY i hlt
      by_cases he : xs.getD i 0 = ys.getD i 0
      · rw [← he] at hcy
        have hlo' : Hid (∀ j, j < i + 1 → xs.getD j 0 = ys.getD j 0) := fun j hj => by
          rcases Nat.lt_or_ge j i with h | h
          · exact unhide hlo j h
          · obtain rfl : j = i := by omega
            exact he
        clear he hlo
        generalize xs.getD i 0 = z at hcx hcy
        go_wp2_with fail
        go_quiet (fail)
        go_wp2_with fail
        go_roundw
        case rel => exact ⟨i + 1, by omega, by go_num, ⟨_, rfl⟩, hlo'⟩
        case measure => simp [intOf]; try omega
      · have hne : (((xs.getD i 0 : Nat) : Int) == ((ys.getD i 0 : Nat) : Int)) = false := by
          rw [beq_eq_false_iff_ne]; omega
        have hD : decide (xs = ys) = false := decide_eq_false (fun e => he (by rw [e]))
        have HD := hide hD
        clear he hD hlo
        generalize xs.getD i 0 = z at hcx hne
        generalize ys.getD i 0 = z' at hcy hne
        go_wp2_with fail
        go_quiet (fail)
        go_wp2_with fail
        go_ret
        exact ⟨⟨_, World.drewN_drewN _ _ _⟩, by rw [unhide HD]; rfl⟩
    · obtain rfl : i = n := by omega
      have hD : decide (xs = ys) = true := decide_eq_true (nats_eq_of (by rw [(unhide HN).1, (unhide HN).2]) (fun j hj => unhide hlo j (by rw [(unhide HN).1] at hj; exact hj)))
      have HD := hide hD
      clear hD
      go_wp2_with fail
      go_ret
      exact ⟨⟨_, rfl⟩, by rw [unhide HD]; rfl⟩
set_option maxRecDepth 20000 in
set_option maxHeartbeats 400000 in
theorem roomy_any (a : Option Addr) (n cap : Nat) (b : List Nat) (w : World) (hn : b.length = n) (hv : BytesAt w (.slice a n cap) b) (hmax : n ≤ 4000) :
    Calls Try.prog 7 #[.slice a n cap] w fun e w' => ∃ (q c : Nat) (R : List Nat), e = .returned (.slice (some ⟨q, 0, none⟩) (n + 1) c) ∧ w.heap.size ≤ q ∧ n + 1 ≤ c ∧ w'.heap[q]? = some (.cells (E8 (b ++ [171, 171] ++ R)) 5 (0, 0)) ∧ Below w.heap.size w w' := by
  have hb0 : Below w.heap.size w (w.alloc (.cells #[] 5)) := (Below.refl _ _).alloc (Nat.le_refl _) _
  obtain ⟨v1, w1, hr1, ho1, hbl1, hz1⟩ := app_bytes (w.alloc (.cells #[] 5)) w.heap.size (.slice (some ⟨w.heap.size, 0, none⟩) 0 0) [] a n cap b (ownB_new w) (hv.below hb0) hn (by simp; omega)
  have hz1' : w.heap.size + 1 ≤ w1.heap.size := by simpa using hz1
  clear hv
  go_enter Try.func7, Try.ntmps7
  go_wp2_with fail
  clear hr1
  obtain ⟨v2, w2, hr2, ho2, hbl2, hz2⟩ := app_own (w1.alloc (.cells #[.int .u8 171] 5)) w.heap.size v1 ([] ++ b) (some ⟨w1.heap.size, 0, none⟩) [171] 1 (ho1.alloc _) (one_at w1 171) (by simp) (by simp; omega)
  first
    | rw [hr2]
    | (simp only [List.length_singleton] at hr2; rw [hr2])
  have hz2' : w1.heap.size + 1 ≤ w2.heap.size := by simpa using hz2
  clear hr2
  go_wp2_with fail
  obtain ⟨v3, w3, hr3, ho3, hbl3, hz3⟩ := app_own (w2.alloc (.cells #[.int .u8 171] 5)) w.heap.size v2 ([] ++ b ++ [171]) (some ⟨w2.heap.size, 0, none⟩) [171] 1 (ho2.alloc _) (one_at w2 171) (by simp) (by simp; omega)
  first
    | rw [hr3]
    | (simp only [List.length_singleton] at hr3; rw [hr3])
  clear hr3
  have hb3 : Below w.heap.size w w3 := (((hb0.trans hbl1).alloc (by omega) _).trans hbl2).alloc (by omega) _ |>.trans hbl3
  obtain ⟨q, R, rfl, hq, hh⟩ := ho3
  have hlen : ([] ++ b ++ [171] ++ [171]).length = n + 2 := by simp [hn]
  have hcap : n + 2 ≤ ([] ++ b ++ [171] ++ [171] ++ R).length := by simp [← hn]
  rw [hlen]
  generalize ([] ++ b ++ [171] ++ [171] ++ R).length = C at *
  have hc1 : n + 1 ≤ C := by omega
  clear hlen ho1 ho2 hbl1 hbl2 hbl3 hb0
  go_wp2
  go_ret
  exact ⟨q, C, R, rfl, hq, hc1, by simpa using hh, hb3⟩
/-- The bytes ahead of the mark. -/
theorem roomy_at {w : World} {q c n : Nat} {b R : List Nat} (hh : w.heap[q]? = some (.cells (E8 (b ++ [171, 171] ++ R)) 5 (0, 0))) (hn : b.length = n) (hc : n + 1 ≤ c) : BytesAt w (.slice (some ⟨q, 0, none⟩) n c) b := by
  subst hn
  refine bytesAt_row w q (b ++ [171, 171] ++ R) b b.length c (by simp [rowOf, hh]) (Array.getElem?_eq_some_iff.1 hh).1 (by simp) (by omega) (by simp)
theorem roomy_mark {w : World} {q n : Nat} {b R : List Nat} (hh : w.heap[q]? = some (.cells (E8 (b ++ [171, 171] ++ R)) 5 (0, 0))) (hn : b.length = n) : w.cell? ⟨q, n, none⟩ = some (.int .u8 171) := by
  subst hn
  rw [cell_of_row w q b.length _ 5 _ hh, E8_get _ _ (by simp)]
  simp [Sha.nth]
set_option maxRecDepth 20000 in
set_option maxHeartbeats 400000 in
theorem stands_any (q c n : Nat) (a : Option Addr) (cap : Nat) (b R : List Nat) (w : World) (hh : w.heap[q]? = some (.cells (E8 (b ++ [171, 171] ++ R)) 5 (0, 0))) (hn : b.length = n) (hc : n + 1 ≤ c) (hv : BytesAt w (.slice a n cap) b) (hmax : n ≤ 4000) :
    Calls Try.prog 11 #[.slice (some ⟨q, 0, none⟩) (n + 1) c, .slice a n cap] w fun e w' => e = .returned (.bool true) ∧ ∃ k, w' = w.drewN k := by
  have H := hide (same_any (some ⟨q, 0, none⟩) a n n c cap b b w (roomy_at hh hn hc) hv hn hn (by omega) (by omega))
  have hm := roomy_mark hh hn
  have hnc : n ≤ c := by omega
  rw [decide_eq_true (rfl : b = b)] at H
  clear hh hn hv
  go_enter Try.func11, Try.ntmps11
  go_wp2_with (go_at_call 20; refine (unhide H).mono ?_; rintro e w' ⟨⟨k, rfl⟩, rfl⟩)
  go_ret
  exact ⟨rfl, k, rfl⟩
end Go.Proofs.Ytlbfcneboaihnaa
