/- slices.Concat of names, and of trees. -/
import Derived.Test.YthfjofmfiklegaaDoorGrow
namespace Go.Proofs.YthfjofmfiklegaaDoor
open Go.RowKit
def catN (L : Nat → Nat) : Nat → Nat | 0 => 0 | i + 1 => catN L i + L i
def catX (X : Nat → List Value) : Nat → List Value | 0 => [] | i + 1 => catX X i ++ X i
theorem catN_succ (L : Nat → Nat) (i : Nat) : catN L (i + 1) = catN L i + L i := rfl
theorem catX_succ (X : Nat → List Value) (i : Nat) : catX X (i + 1) = catX X i ++ X i := rfl
set_option maxRecDepth 20000 in
set_option maxHeartbeats 1000000 in
theorem concat23_any (g o m cap lo hi : Nat) (A : Nat → Option Addr) (L C : Nat → Nat) (X : Nat → List Value) (w : World) (hm : m ≤ 100) (hg : g < w.heap.size) (hhi : hi ≤ w.heap.size) (hcell : ∀ i, i < m → w.cell? ⟨g, o + i, none⟩ = some (.slice (A i) (L i) (C i)))
    (hrow : ∀ i, i < m → Row lo hi w (.slice (A i) (L i) (C i)) (L i) (X i)) (hX : ∀ i, i < m → (X i).length = L i * 1) (h1 : ∀ i, i < m → ∀ u ∈ X i, u.oneCell' = true) (hmax : ∀ i, i ≤ m → catN L i ≤ 1000000) :
    Calls Tryd.prog 58 #[.slice (some ⟨g, o, none⟩) m cap] w fun e w' => ∃ a c, e = .returned (.slice a (catN L m) c) ∧ w'.ownsRow w.heap.size 9 1 (.slice a (catN L m) c) (catN L m) (catX X m) ∧ Below w.heap.size w w' := by
  have HC := hide hcell
  have HR := hide hrow
  have HX := hide (And.intro hX h1)
  have HM := hide hmax
  have HS := hide (fun i => catN_succ L i)
  have HG := hide (fun w => grow23_nil (catN L m) w (hmax m (Nat.le_refl _)))
  clear hcell hrow hX h1 hmax
  go_enter Tryd.func58, Tryd.ntmps58
  go_wp2_with fail
  go_loop [3, 11] (fun vs vi => ∃ i : Nat, i ≤ m ∧ vi = .int .i64 (i : Int) ∧ vs = .int .i64 ((catN L i : Nat) : Int)) (fun _ vi => m - (intOf vi).toNat)
  case atStart => exact ⟨0, by omega, rfl, rfl⟩
  case round =>
    obtain ⟨i, him, rfl, rfl⟩ := hrel
    by_cases hlt : i < m
    · have hci := unhide HC i hlt
      have hni := unhide HM i him
      have hnj := unhide HM (i + 1) (by omega)
      have hsu := unhide HS i
      have HSi := hide hsu
      rw [hsu] at hnj
      clear hsu
      generalize hN : catN L i = N at *
      have HN := hide hN
      clear hN
      go_wp2_with fail
      go_round
      case rel => exact ⟨i + 1, by omega, by go_num, by rw [unhide HSi]; go_num⟩
      case measure => simp [intOf]; omega
    · obtain rfl : i = m := by omega
      go_wp2_with fail
      refine (unhide HG _).mono ?_
      rintro e w1 ⟨a1, c1, rfl, ho1, hb1, -, -⟩
      clear HG
      go_wp2_with fail
      go_loopw [6, 27] (fun vv vi wr => ∃ (j : Nat) (a c : _), j ≤ i ∧ vi = .int .i64 (j : Int) ∧ vv = .slice a (catN L j) c ∧ wr.ownsRow w.heap.size 9 1 (.slice a (catN L j) c) (catN L j) (catX X j) ∧ Below w.heap.size w wr) (fun _ vi _ => i - (intOf vi).toNat)
      case atStart => exact ⟨0, a1, c1, by omega, rfl, rfl, ho1, hb1⟩
      case round =>
        obtain ⟨j, a2, c2, hji, rfl, rfl, ho, hb⟩ := hrel
        clear ho1 hb1
        by_cases hlt : j < i
        · have hcj : wr.cell? ⟨g, o + j, none⟩ = some (.slice (A j) (L j) (C j)) := by rw [hb.cell (p := ⟨g, o + j, none⟩) hg]; exact unhide HC j hlt
          have hnj := unhide HM (j + 1) (by omega)
          rw [unhide HS j] at hnj
          obtain ⟨v3, w3, happ, ho3, hg3, -⟩ := app23_own wr w.heap.size lo hi _ _ _ (A j) (L j) (C j) (X j) ho ((unhide HR j hlt).below hb hhi) (by rw [(unhide HX).1 j hlt]; omega) ((unhide HX).2 j hlt) (by omega) hb.size
          obtain ⟨a3, c3, rfl, _⟩ := owns_slice ho3
          have hb3 := hb.grown hg3 hb.size (fun k hk => (owns_lt ho k hk).1)
          have HO := hide (And.intro ho3 hb3)
          clear ho3 hg3 hb3 ho
          go_wp2_with fail
          go_roundw
          case rel =>
            refine ⟨j + 1, a3, c3, by omega, by go_num, by rw [unhide HS j], ?_, (unhide HO).2⟩
            rw [unhide HS j, catX_succ]
            exact (unhide HO).1
          case measure => simp [intOf]; omega
        · obtain rfl : j = i := by omega
          go_wp2_with fail
          go_ret
          exact ⟨a2, c2, rfl, ho, hb⟩
set_option maxRecDepth 20000 in
set_option maxHeartbeats 1000000 in
theorem concat24_any (g o m cap lo hi : Nat) (A : Nat → Option Addr) (L C : Nat → Nat) (X : Nat → List Value) (w : World) (hm : m ≤ 100) (hg : g < w.heap.size) (hhi : hi ≤ w.heap.size) (hcell : ∀ i, i < m → w.cell? ⟨g, o + i, none⟩ = some (.slice (A i) (L i) (C i)))
    (hrow : ∀ i, i < m → Row lo hi w (.slice (A i) (L i) (C i)) (L i) (X i)) (hX : ∀ i, i < m → (X i).length = L i * 5) (h1 : ∀ i, i < m → ∀ u ∈ X i, u.oneCell' = true) (hmax : ∀ i, i ≤ m → catN L i ≤ 1000000) :
    Calls Tryd.prog 59 #[.slice (some ⟨g, o, none⟩) m cap] w fun e w' => ∃ a c, e = .returned (.slice a (catN L m) c) ∧ w'.ownsRow w.heap.size 26 5 (.slice a (catN L m) c) (catN L m) (catX X m) ∧ Below w.heap.size w w' := by
  have HC := hide hcell
  have HR := hide hrow
  have HX := hide (And.intro hX h1)
  have HM := hide hmax
  have HS := hide (fun i => catN_succ L i)
  have HG := hide (fun w => grow24_nil (catN L m) w (hmax m (Nat.le_refl _)))
  clear hcell hrow hX h1 hmax
  go_enter Tryd.func59, Tryd.ntmps59
  go_wp2_with fail
  go_loop [3, 11] (fun vs vi => ∃ i : Nat, i ≤ m ∧ vi = .int .i64 (i : Int) ∧ vs = .int .i64 ((catN L i : Nat) : Int)) (fun _ vi => m - (intOf vi).toNat)
  case atStart => exact ⟨0, by omega, rfl, rfl⟩
  case round =>
    obtain ⟨i, him, rfl, rfl⟩ := hrel
    by_cases hlt : i < m
    · have hci := unhide HC i hlt
      have hni := unhide HM i him
      have hnj := unhide HM (i + 1) (by omega)
      have hsu := unhide HS i
      have HSi := hide hsu
      rw [hsu] at hnj
      clear hsu
      generalize hN : catN L i = N at *
      have HN := hide hN
      clear hN
      go_wp2_with fail
      go_round
      case rel => exact ⟨i + 1, by omega, by go_num, by rw [unhide HSi]; go_num⟩
      case measure => simp [intOf]; omega
    · obtain rfl : i = m := by omega
      go_wp2_with fail
      refine (unhide HG _).mono ?_
      rintro e w1 ⟨a1, c1, rfl, ho1, hb1, -, -⟩
      clear HG
      go_wp2_with fail
      go_loopw [6, 27] (fun vv vi wr => ∃ (j : Nat) (a c : _), j ≤ i ∧ vi = .int .i64 (j : Int) ∧ vv = .slice a (catN L j) c ∧ wr.ownsRow w.heap.size 26 5 (.slice a (catN L j) c) (catN L j) (catX X j) ∧ Below w.heap.size w wr) (fun _ vi _ => i - (intOf vi).toNat)
      case atStart => exact ⟨0, a1, c1, by omega, rfl, rfl, ho1, hb1⟩
      case round =>
        obtain ⟨j, a2, c2, hji, rfl, rfl, ho, hb⟩ := hrel
        clear ho1 hb1
        by_cases hlt : j < i
        · have hcj : wr.cell? ⟨g, o + j, none⟩ = some (.slice (A j) (L j) (C j)) := by rw [hb.cell (p := ⟨g, o + j, none⟩) hg]; exact unhide HC j hlt
          have hnj := unhide HM (j + 1) (by omega)
          rw [unhide HS j] at hnj
          obtain ⟨v3, w3, happ, ho3, hg3, -⟩ := app24_own wr w.heap.size lo hi _ _ _ (A j) (L j) (C j) (X j) ho ((unhide HR j hlt).below hb hhi) (by rw [(unhide HX).1 j hlt]) ((unhide HX).2 j hlt) (by omega) hb.size
          obtain ⟨a3, c3, rfl, _⟩ := owns_slice ho3
          have hb3 := hb.grown hg3 hb.size (fun k hk => (owns_lt ho k hk).1)
          have HO := hide (And.intro ho3 hb3)
          clear ho3 hg3 hb3 ho
          go_wp2_with fail
          go_roundw
          case rel =>
            refine ⟨j + 1, a3, c3, by omega, by go_num, by rw [unhide HS j], ?_, (unhide HO).2⟩
            rw [unhide HS j, catX_succ]
            exact (unhide HO).1
          case measure => simp [intOf]; omega
        · obtain rfl : j = i := by omega
          go_wp2_with fail
          go_ret
          exact ⟨a2, c2, rfl, ho, hb⟩
end Go.Proofs.YthfjofmfiklegaaDoor
