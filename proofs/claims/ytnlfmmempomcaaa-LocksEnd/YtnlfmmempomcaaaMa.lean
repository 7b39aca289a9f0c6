/- awaited: does anybody wait for a task? -/
import Derived.Test.YtnlfmmempomcaaaLk
namespace Go.Proofs.Ytnlfmmempomcaaa
open Go.RowKit Go.Maps
set_option linter.unusedSimpArgs false
theorem same_str (s q : ByteArray) : (Lit.string s.data.toList).sameKey (.string q.data.toList) = decide (s = q) := by
  by_cases h : s = q
  · subst h
    simp [Lit.sameKey]
  · have : s.data ≠ q.data := fun e => h (bytes_eq (congrArg Array.toList e))
    simp [Lit.sameKey, h, this]
def AwR (S : St) (n : Int) (am nn : Nat) (D : DataW Unit) (w : World) (wr : World) : Prop :=
  ∃ (left : Lit → Bool) (cnt : Nat), wr.ranges Try.prog 9 ptrElem am w.heap.size nn D left cnt ∧ Below w.heap.size w wr ∧ ∀ t, SOk t → n ∈ S.hs t → left (.string t.data.toList) = false → S.rw t = []
set_option maxRecDepth 20000 in
set_option maxHeartbeats 1000000 in
theorem awaited_ok {k : Nat} (O : Ghost) (tb : Nat) (S : St) (ex : Option Int) (F : ByteArray → Option Nat) (G : Int → Option Nat) (lm tm : Option Nat) (w : World) (hM : Mem k O w) (h : Rp O tb S ex F G lm tm) (n : Int) (a : Nat) (hG : G n = some a) (r : Bool) (hr : r = true ↔ ∃ t, n ∈ S.hs t ∧ S.rw t ≠ []) :
    Calls Try.prog 58 #[.pointer (some ⟨a, 0, none⟩)] w fun e w' => e = .returned (.bool r) ∧ Below w.heap.size w w' := by
  obtain ⟨am, z, u, h1, _, h2, h3⟩ := h.ask n a hG
  have c1 := hM.cell h1 (i := 1) rfl
  obtain ⟨nn, D, hnk, ho, hD, hDn⟩ := hM.sm h3
  have HO := hide ho
  have HD := hide hD
  have HR := hide h
  have HM := hide hM
  have Hr := hide hr
  clear hM h h1 h2 h3 hD hDn ho hnk hr
  go_enter Try.func58, Try.ntmps58
  go_wp2_with (first | (at_range; refine wpList_range_own _ rfl _ 70 rfl 9 76 strK Try.underlying70 _ am nn _ rfl (unhide HO) ?_; intro w0 hrg0 hg0 hs0) | go_in)
  go_loopw [4] (fun _ wr => AwR S n am nn D w wr) (fun _ wr => wr.rangeLeft am w.heap.size)
  case atStart =>
    refine ⟨_, _, hrg0, (Below.refl _ _).grown hg0 (Nat.le_refl _) (fun j hj => by cases hj), fun t ht hin hl => ?_⟩
    obtain ⟨⟨g, hg⟩, _⟩ := (unhide HR).liveh t n hin
    obtain ⟨E, rfl⟩ := isMap_of (unhide HO)
    have := atD_has (unhide HD t ht)
    rw [hl, if_pos hin, hg] at this
    cases this
  case round =>
    obtain ⟨left, cnt, hrg, hbw, hdone⟩ := hrel
    have HDN := hide hdone
    clear hdone
    go_wp2_with (first | (at_next; refine wpList_next_ranges _ rfl _ rfl 9 strK ptrElem Value.string ptr (fun key kl hk => by obtain ⟨x, hx, _⟩ := S_inv hk; exact ⟨x, hx⟩) ptrElem_shape am w.heap.size nn _ _ _ rfl hrg ?_ ?_) | go_in)
    · intro hc0 hl0
      have HE : Hid (r = false) := by
        cases hrr : r with
        | false => exact hide rfl
        | true =>
          obtain ⟨t, h1, h2⟩ := (unhide Hr).1 hrr
          obtain ⟨⟨g, hg⟩, _⟩ := (unhide HR).liveh t n h1
          exact absurd (unhide HDN t ((unhide HR).okF t g hg) h1 (hl0 _)) h2
      have HB := hide hbw
      clear hrg hbw
      go_wp2_with fail
      go_ret
      exact ⟨by rw [unhide HE]; rfl, unhide HB⟩
    · intro x c kl yd yp w2 cnt2 hkey hlk hv hat hrg2 hlt hg2 hs2 hen
      obtain ⟨x', ex, rfl, hxl⟩ := S_inv hkey
      obtain rfl : x = x' := by injection ex
      have hbw2 : Below w.heap.size w w2 := hbw.grown hg2 hbw.size (fun j hj => by cases hj; exact Nat.le_refl _)
      have HRL : Hid (w2.rangeLeft am w.heap.size < wr.rangeLeft am w.heap.size) := by rw [hrg2.left_eq, hrg.left_eq]; exact hlt
      have hLc : (if n ∈ S.hs x then F x else none) = c := by
        have h1 := unhide HD x hxl .nil
        rw [hat .nil, atD_nil] at h1
        rw [ptrElem_ptr] at hv
        injection hv with hv
        injection hv with hv
        exact (ptrD_inj (hv.trans h1)).symm
      have hE : ∃ E, D = .map E := isMap_of (unhide HO)
      have hcs : ∃ g, c = some g := by
        obtain ⟨E, rfl⟩ := hE
        have h1 := atD_has (unhide HD x hxl)
        rw [hLc] at h1
        cases c with
        | some g => exact ⟨g, rfl⟩
        | none =>
          have h2 : ∀ zd, (DataW.map E).atKey (Lit.string x.data.toList) zd = yd := hat
          have a1 := unhide HD x hxl .nil
          have a2 := unhide HD x hxl (.map [])
          rw [hLc] at a1 a2
          rw [h2] at a1 a2
          rw [a1] at a2
          cases a2
      obtain ⟨g, rfl⟩ := hcs
      have hin : n ∈ S.hs x := by
        by_cases h1 : n ∈ S.hs x
        · exact h1
        · rw [if_neg h1] at hLc; cases hLc
      rw [if_pos hin] at hLc
      obtain ⟨hm, z', rv, q1, q2, q3, xs, q4, q5⟩ := (unhide HR).lock x g hLc
      have d1 : w2.cell? ⟨g, 3, none⟩ = some rv := by
        rw [hbw2.cell (p := ⟨g, 3, none⟩) ((unhide HM).lt q1)]
        exact (unhide HM).cell q1 (i := 3) rfl
      have hrv : ∃ a c, rv = .slice a (S.rw x).length c := by
        have hl : xs.length = (S.rw x).length := by have := congrArg List.length q5; simpa using this
        rw [← hl]
        rcases q4 with ⟨e, e2⟩ | ⟨rb, off, c, cs, e, _⟩
        · exact ⟨none, 0, by rw [e, e2]; rfl⟩
        · exact ⟨_, _, e⟩
      obtain ⟨ra, rc, rfl⟩ := hrv
      have HB := hide hbw2
      have HS : Hid ((S.rw x).length = 0 → AwR S n am nn D w w2) := fun h0 => ⟨_, _, hrg2, hbw2, fun t ht htin htl => by
        simp only [Bool.and_eq_false_iff, Bool.not_eq_false', same_str, decide_eq_true_eq] at htl
        rcases htl with htl | htl
        · exact unhide HDN t ht htin htl
        · rw [htl]; exact List.length_eq_zero_iff.1 h0⟩
      have HT : Hid ((S.rw x).length ≠ 0 → r = true) := fun h0 => (unhide Hr).2 ⟨x, hin, fun e => h0 (by rw [e]; rfl)⟩
      clear hrg2 hbw2 hrg hbw hg2 hs2 hkey hv hat hxl q1 q2 q3 q4 q5 hLc hlk hlt hin hE
      generalize (S.rw x).length = rl at *
      unfold ptr at hen ⊢
      cases rl with
      | zero =>
        go_wp2_with fail
        go_roundw
        case rel => exact unhide HS rfl
        case measure => exact unhide HRL
      | succ m =>
        obtain rfl : r = true := unhide HT (by omega)
        obtain ⟨N, hN⟩ : ∃ N, N = m + 1 := ⟨_, rfl⟩
        have hN0 : (0 : Int) < (N : Int) := by omega
        rw [← hN] at d1
        clear HS HT hN
        go_wp2_with fail
        go_ret
        exact ⟨rfl, unhide HB⟩
end Go.Proofs.Ytnlfmmempomcaaa
