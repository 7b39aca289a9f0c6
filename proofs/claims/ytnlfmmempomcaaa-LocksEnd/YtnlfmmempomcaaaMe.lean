/- New; rows of numbers held against each other. -/
import Derived.Test.YtnlfmmempomcaaaMd
namespace Go.Proofs.Ytnlfmmempomcaaa
open Go.RowKit Go.Maps
set_option linter.unusedSimpArgs false
def St.zero : St := ⟨fun _ => [], fun _ => false, fun _ => [], fun _ => none⟩
theorem zero_inv : Inv St.zero := ⟨fun n s x => by simp [St.zero], fun s => by simp [St.zero], fun s => by simp [St.zero], fun s n x h => by simp [St.zero] at h⟩
theorem zero_emp : Emp St.zero := fun _ _ => rfl
set_option maxRecDepth 20000 in
theorem new_ok {k B : Nat} (O : Ghost) (w : World) (hM : Mem k O w) (hB : B ≤ w.heap.size) :
    Calls Try.prog 11 #[] w fun e w' => ∃ tb, e = .returned (.pointer (some ⟨tb, 0, none⟩)) ∧ Left k B tb St.zero O w w' := by
  have hM1 := hM.alloc 0 w.heap.size [.map none, .map none] 73
  have hs1 : Stp 0 B O _ w _ := Stp.alloc hM hB ⟨0, w.heap.size, .raw [.map none, .map none] 73⟩ (.cells #[.map none, .map none] 73)
  have HE : Hid (Left k B w.heap.size St.zero O w (w.alloc (.cells #[.map none, .map none] 73))) := ⟨_, ⟨fun _ => none, fun _ => none, none, none, ⟨put_same _ _ _, fun _ _ => rfl, fun _ e => (by cases e), fun _ _ _ => rfl, fun _ e => (by cases e), fun _ _ e => (by cases e), fun _ _ e => (by cases e), fun _ _ e => (by cases e), fun _ _ _ e => (by cases e), fun _ _ e => (by cases e), fun _ _ e => (by cases e)⟩, zero_inv, zero_emp, fun _ _ e => (by cases e)⟩, hM1, hs1⟩
  clear hM hM1 hs1
  go_enter Try.func11, Try.ntmps11
  go_wp2_with fail
  go_ret
  exact ⟨w.heap.size, rfl, unhide HE⟩
/-- A row of numbers that can be read. -/
def IRow (w : World) (v : Value) (xs : List Int) : Prop := ∃ ao c, v = .slice ao xs.length c ∧ (xs ≠ [] → ∃ b off, ao = some ⟨b, off, none⟩ ∧ ∀ j x, xs[j]? = some x → w.cell? ⟨b, off + j, none⟩ = some (.int .i64 x))
theorem Nums.row {base : Nat} {O : Ghost} {w : World} {v : Value} {xs : List Int} (h : Nums base O w v xs) : IRow w v xs := by
  obtain ⟨⟨h1, h2⟩, _⟩ := h
  rcases h2 with ⟨h2, h3⟩ | ⟨g, cap, cur, hv, hg, hh, hn, hc, hs, ht⟩
  · exact ⟨none, 0, by rw [h2, h3], fun e => absurd (List.length_eq_zero_iff.1 h3) e⟩
  · refine ⟨_, _, hv, fun _ => ⟨g, 0, rfl, fun j x hj => ?_⟩⟩
    have h4 : (xs.map (Value.int .i64))[j]? = some (.int .i64 x) := by rw [List.getElem?_map, hj]; rfl
    rw [← ht, List.getElem?_take] at h4
    split at h4
    · simp only [World.cell?, hh]
      simpa using h4
    · cases h4
def IntsR (xs ys : List Int) (w : World) (v : Value) (wr : World) : Prop := ∃ k : Nat, v = .int .i64 (k : Int) ∧ k ≤ xs.length ∧ (∀ j, j < k → xs[j]? = ys[j]?) ∧ Below w.heap.size w wr
set_option maxRecDepth 20000 in
set_option maxHeartbeats 1000000 in
theorem ints_ok (w : World) (va vb : Value) (xs ys : List Int) (ha : IRow w va xs) (hb : IRow w vb ys) (hx : xs.length ≤ 281474976710656) :
    Calls Try.prog 16 #[va, vb] w fun e w' => e = .returned (.bool (decide (xs = ys))) ∧ Below w.heap.size w w' := by
  obtain ⟨ao, ac, rfl, ha⟩ := ha
  obtain ⟨bo, bc, rfl, hb⟩ := hb
  obtain ⟨n, hn⟩ : ∃ n, n = xs.length := ⟨_, rfl⟩
  obtain ⟨m, hm⟩ : ∃ m, m = ys.length := ⟨_, rfl⟩
  rw [← hn, ← hm]
  by_cases hnm : n = m
  · subst hnm
    have HA := hide ha
    have HB := hide hb
    have HN : Hid (n = xs.length ∧ n = ys.length ∧ n ≤ 281474976710656) := ⟨hn, hm, by omega⟩
    have hlt : (n : Int) ≤ 281474976710656 := by omega
    have H0 : Hid (IntsR xs ys w (.int .i64 0) w) := ⟨0, rfl, Nat.zero_le _, fun j hj => (by omega), Below.refl _ _⟩
    clear ha hb hn hm hx
    go_enter Try.func16, Try.ntmps16
    go_wp2_with fail
    go_loopw [5] (fun v wr => IntsR xs ys w v wr) (fun v _ => n - (intOf v).toNat)
    case atStart => exact unhide H0
    case round =>
      obtain ⟨k, rfl, hkn, hall, hbw⟩ := hrel
      have HALL := hide hall
      have HBW := hide hbw
      have HK := hide hkn
      by_cases hk : k < n
      · obtain ⟨x, hxk⟩ : ∃ x, xs[k]? = some x := ⟨_, List.getElem?_eq_getElem (by have := unhide HN; omega)⟩
        obtain ⟨y, hyk⟩ : ∃ y, ys[k]? = some y := ⟨_, List.getElem?_eq_getElem (by have := unhide HN; omega)⟩
        obtain ⟨b1, o1, rfl, f1⟩ := unhide HA (fun e => by rw [e] at hxk; cases hxk)
        obtain ⟨b2, o2, rfl, f2⟩ := unhide HB (fun e => by rw [e] at hyk; cases hyk)
        have g1 := f1 k x hxk
        have g2 := f2 k y hyk
        have lt1 : ∀ {v : World} {a : Addr} {u : Value}, v.cell? a = some u → a.block < v.heap.size := fun {v a u} h => by
          unfold World.cell? at h; split at h
          · rename_i q; exact (Array.getElem?_eq_some_iff.1 q).1
          · simp at h
        have d1 : wr.cell? ⟨b1, o1 + k, none⟩ = some (.int .i64 x) := by rw [hbw.cell (p := ⟨b1, o1 + k, none⟩) (lt1 g1)]; exact g1
        have d2 : wr.cell? ⟨b2, o2 + k, none⟩ = some (.int .i64 y) := by rw [hbw.cell (p := ⟨b2, o2 + k, none⟩) (lt1 g2)]; exact g2
        have hkI : (k : Int) < (n : Int) := by omega
        have HX : Hid (xs[k]? = some x ∧ ys[k]? = some y) := ⟨hxk, hyk⟩
        clear hkn hall hbw f1 f2 g1 g2 hxk hyk lt1
        have HKB : Hid (n ≤ 281474976710656) := (unhide HN).2.2
        by_cases hxy : x = y
        · subst hxy
          have HR : Hid (IntsR xs ys w (.int .i64 ((k : Int) + 1)) wr.drew) := ⟨k + 1, by simp, by have := unhide HN; omega, fun j hj => by
            by_cases e : j = k
            · rw [e, (unhide HX).1, (unhide HX).2]
            · exact unhide HALL j (by omega), (unhide HBW).drew⟩
          go_wp2_with fail
          go_region
          go_wp2_with fail
          go_roundw
          case rel => exact unhide HR
          case measure => simp [intOf]; omega
        · have HD : Hid (decide (xs = ys) = false) := by
            have h : decide (xs = ys) = false := by
              simp
              intro e
              have h1 := (unhide HX).1
              have h2 := (unhide HX).2
              rw [e, h2] at h1
              injection h1 with h1
              exact hxy h1.symm
            exact h
          have HB2 : Hid (Below w.heap.size w wr.drew) := (unhide HBW).drew
          go_wp2_with fail
          go_region
          go_wp2_with fail
          go_ret
          exact ⟨by rw [unhide HD]; rfl, unhide HB2⟩
      · have hkI : ¬ ((k : Int) < (n : Int)) := by omega
        have HD : Hid (decide (xs = ys) = true) := by
          have h : decide (xs = ys) = true := by
            simp
            obtain ⟨h1, h2, _⟩ := unhide HN
            apply List.ext_getElem?
            intro j
            by_cases hj : j < k
            · exact unhide HALL j hj
            · rw [List.getElem?_eq_none (by omega), List.getElem?_eq_none (by omega)]
          exact h
        clear hkn hall hbw
        go_wp2_with fail
        go_ret
        exact ⟨by rw [unhide HD]; rfl, unhide HBW⟩
  · have hd : decide (xs = ys) = false := by simp; intro e; rw [e] at hn; omega
    have HD := hide hd
    have h1 : ¬ ((n : Int) = (m : Int)) := by omega
    clear ha hb hn hm hx hd
    go_enter Try.func16, Try.ntmps16
    go_wp2_with fail
    go_ret
    exact ⟨by rw [unhide HD]; rfl, Below.refl _ _⟩
end Go.Proofs.Ytnlfmmempomcaaa
