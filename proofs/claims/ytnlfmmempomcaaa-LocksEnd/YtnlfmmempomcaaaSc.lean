/- A script of locks: what is read of it; heavy; has. -/
import Derived.Test.YtnlfmmempomcaaaSb
namespace Go.Proofs.Ytnlfmmempomcaaa
open Go.RowKit Go.Maps
set_option linter.unusedSimpArgs false
/-- A step, as mathematics. -/
structure Sp where
  K : Int
  T : Int
  N : ByteArray
  D : Bool
/-- What is read of a script. -/
def Script (w : World) (a : Option Addr) (len : Nat) (X : Nat → Sp) : Prop := ∀ i, i < len → ∃ g o, a = some ⟨g, o, none⟩ ∧ g < w.heap.size ∧ w.cell? ⟨g, o + i * 4, none⟩ = some (.int .i64 (X i).K) ∧ w.cell? ⟨g, o + i * 4 + 1, none⟩ = some (.int .i64 (X i).T) ∧ w.cell? ⟨g, o + i * 4 + 2, none⟩ = some (.string (X i).N) ∧ w.cell? ⟨g, o + i * 4 + 3, none⟩ = some (.bool (X i).D) ∧ IOk (X i).T ∧ (X i).N.size ≤ 140737488355328
theorem Script.below {w w' : World} {a : Option Addr} {len : Nat} {X : Nat → Sp} (h : Script w a len X) (hb : Below w.heap.size w w') : Script w' a len X := fun i hi => by
  obtain ⟨g, o, e1, e2, e3, e4, e5, e6, e7⟩ := h i hi
  exact ⟨g, o, e1, Nat.lt_of_lt_of_le e2 hb.size, (hb.cell (p := ⟨g, o + i * 4, none⟩) e2).trans e3, (hb.cell (p := ⟨g, o + i * 4 + 1, none⟩) e2).trans e4, (hb.cell (p := ⟨g, o + i * 4 + 2, none⟩) e2).trans e5, (hb.cell (p := ⟨g, o + i * 4 + 3, none⟩) e2).trans e6, e7⟩
def HvR (X : Nat → Sp) (len : Nat) (v i : Value) : Prop := ∃ m j : Nat, v = .int .i64 (m : Int) ∧ i = .int .i64 (j : Int) ∧ m ≤ 4000 ∧ j ≤ len ∧ j ≤ 200 ∧ ∀ q, q < j → (X q).N.size ≤ 4000
set_option maxRecDepth 20000 in
set_option maxHeartbeats 1000000 in
theorem heavy_ok (a : Option Addr) (len cap : Nat) (X : Nat → Sp) (w : World) (ha : Script w a len X) :
    Calls Try.prog 9 #[.slice a len cap] w fun e w' => (e = .returned (.bool false) ∧ (∀ i, i < len → i < 200 → (X i).N.size ≤ 4000) ∧ Below w.heap.size w w') ∨ (e = .returned (.bool true) ∧ Below w.heap.size w w') := by
  have HA := hide ha
  have H0 : Hid (HvR X len (.int .i64 0) (.int .i64 0)) := ⟨0, 0, rfl, rfl, by omega, Nat.zero_le _, by omega, fun q hq => absurd hq (Nat.not_lt_zero _)⟩
  clear ha
  go_enter Try.func9, Try.ntmps9
  go_wp2_with fail
  go_loopw [3, 4] (fun v i wr => HvR X len v i ∧ Below w.heap.size w wr) (fun _ i _ => len - (intOf i).toNat)
  case atStart => exact ⟨unhide H0, Below.refl _ _⟩
  case round =>
    obtain ⟨⟨m, j, rfl, rfl, hm, hj, hj2, hall⟩, hbw⟩ := hrel
    have HALL := hide hall
    have HB := hide hbw
    by_cases hjl : j < len
    · by_cases hj200 : j < 200
      · obtain ⟨g, o, rfl, e2, _, _, e5, _, _, e7⟩ := unhide HA j hjl
        have d5 := (hbw.cell (p := ⟨g, o + j * 4 + 2, none⟩) e2).trans e5
        obtain ⟨z, hz⟩ : ∃ z : Nat, z = (X j).N.size := ⟨_, rfl⟩
        have hzI : (z : Int) ≤ 140737488355328 := by omega
        have hmI : (m : Int) ≤ 4000 := by omega
        have hjI : (j : Int) < (len : Int) := by omega
        have hjI2 : (j : Int) < 200 := by omega
        have HZ := hide hz
        have hzs : ((X j).N.size : Int) = (z : Int) := by omega
        clear hall hbw e2 e5 e7 hz
        generalize hN : (X j).N = Nj at *
        by_cases hh : m + z ≤ 4000
        · have hhI : ¬ (4000 < (m : Int) + (z : Int)) := by omega
          have HR : Hid (HvR X len (.int .i64 ((m : Int) + (z : Int))) (.int .i64 ((j : Int) + 1))) := ⟨m + z, j + 1, by simp, by simp, hh, by omega, by omega, fun q hq => by
            by_cases e : q = j
            · rw [e, hN]; have := unhide HZ; omega
            · exact unhide HALL q (by omega)⟩
          go_wp2_with fail
          go_roundw
          case rel => exact ⟨unhide HR, unhide HB⟩
          case measure => simp [intOf]; omega
        · have hhI : 4000 < (m : Int) + (z : Int) := by omega
          go_wp2_with fail
          go_ret
          exact .inr ⟨rfl, unhide HB⟩
      · have hjI : (j : Int) < (len : Int) := by omega
        have hjI2 : ¬ ((j : Int) < 200) := by omega
        have HE : Hid (∀ i, i < len → i < 200 → (X i).N.size ≤ 4000) := fun i _ hi2 => hall i (by omega)
        clear hall hbw
        go_wp2_with fail
        go_ret
        exact .inl ⟨rfl, unhide HE, unhide HB⟩
    · have hjI : ¬ ((j : Int) < (len : Int)) := by omega
      have HE : Hid (∀ i, i < len → i < 200 → (X i).N.size ≤ 4000) := fun i hi2 _ => hall i (by omega)
      clear hall hbw
      go_wp2_with fail
      go_ret
      exact .inl ⟨rfl, unhide HE, unhide HB⟩
def HasR (xs : List Int) (n : Int) (w : World) (v : Value) (wr : World) : Prop := ∃ j : Nat, v = .int .i64 (j : Int) ∧ j ≤ xs.length ∧ (∀ q, q < j → xs[q]? ≠ some n) ∧ wr = w
set_option maxRecDepth 20000 in
set_option maxHeartbeats 1000000 in
theorem has_ok (w : World) (v : Value) (xs : List Int) (n : Int) (h : IRow w v xs) (hl : xs.length ≤ 1000000) :
    Calls Try.prog 23 #[v, .int .i64 n] w fun e w' => e = .returned (.bool (decide (n ∈ xs))) ∧ w' = w := by
  obtain ⟨ao, c, rfl, hc⟩ := h
  obtain ⟨N, hN⟩ : ∃ N, N = xs.length := ⟨_, rfl⟩
  have HN := hide hN
  have HC := hide hc
  have hNI : (N : Int) ≤ 1000000 := by omega
  rw [← hN]
  have H0 : Hid (HasR xs n w (.int .i64 0) w) := ⟨0, rfl, Nat.zero_le _, fun q hq => absurd hq (Nat.not_lt_zero _), rfl⟩
  clear hc hN hl
  go_enter Try.func23, Try.ntmps23
  go_wp2_with fail
  go_loopw [5] (fun v wr => HasR xs n w v wr) (fun v _ => N - (intOf v).toNat)
  case atStart => exact unhide H0
  case round =>
    obtain ⟨j, rfl, hj, hall, rfl⟩ := hrel
    have HALL := hide hall
    by_cases hjn : j < N
    · obtain ⟨x, hx⟩ : ∃ x, xs[j]? = some x := ⟨_, List.getElem?_eq_getElem (by have := unhide HN; omega)⟩
      obtain ⟨b, off, rfl, hcell⟩ := unhide HC (fun e => by rw [e] at hx; cases hx)
      have d1 := hcell j x hx
      have hjI : (j : Int) < (N : Int) := by omega
      have HX := hide hx
      clear hall hcell hx
      by_cases e : x = n
      · subst e
        have HE : Hid (decide (x ∈ xs) = true) := by
          have : decide (x ∈ xs) = true := by simpa using List.mem_of_getElem? (unhide HX)
          exact this
        go_wp2_with fail
        go_ret
        exact ⟨by rw [unhide HE]; rfl, rfl⟩
      · have HR : Hid (HasR xs n wr (.int .i64 ((j : Int) + 1)) wr) := ⟨j + 1, by simp, by have := unhide HN; omega, fun q hq => by
          by_cases e2 : q = j
          · rw [e2, unhide HX]
            intro e3
            injection e3 with e3
            exact e e3
          · exact unhide HALL q (by omega), rfl⟩
        go_wp2_with fail
        go_roundw
        case rel => exact unhide HR
        case measure => simp [intOf]; omega
    · have hjI : ¬ ((j : Int) < (N : Int)) := by omega
      have HE : Hid (decide (n ∈ xs) = false) := by
        have : decide (n ∈ xs) = false := by
          simp only [decide_eq_false_iff_not]
          intro hm
          obtain ⟨q, hq⟩ := List.mem_iff_getElem?.1 hm
          exact hall q (by have := (List.getElem?_eq_some_iff.1 hq).1; have := unhide HN; omega) hq
        exact this
      clear hall
      go_wp2_with fail
      go_ret
      exact ⟨by rw [unhide HE]; rfl, rfl⟩
end Go.Proofs.Ytnlfmmempomcaaa
