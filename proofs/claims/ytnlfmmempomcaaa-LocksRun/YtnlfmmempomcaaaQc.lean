/- The document's Run: Pick and Add. -/
import Derived.Test.YtnlfmmempomcaaaQb
namespace Go.Proofs.Ytnlfmmempomcaaa
open Go.RowKit Go.Maps
set_option linter.unusedSimpArgs false
def pkl (E B : Nat → Bool) (n : Nat) : List Nat := (List.range n).filter fun i => !E i && !B i
theorem pkl_succ (E B : Nat → Bool) (n : Nat) : pkl E B (n + 1) = if (!E n && !B n) then pkl E B n ++ [n] else pkl E B n := by
  unfold pkl
  rw [List.range_succ, List.filter_append]
  cases h : (!E n && !B n) <;> simp [h]
theorem pkl_len (E B : Nat → Bool) (n : Nat) : (pkl E B n).length ≤ n := by
  have := List.length_filter_le (fun i => !E i && !B i) (List.range n)
  simpa [pkl] using this
def asI (xs : List Nat) : List Int := xs.map fun (i : Nat) => (i : Int)
def PkR (O : Ghost) (k c : Nat) (E B : Nat → Bool) (n : Nat) (w : World) (v i : Value) (wr : World) : Prop := ∃ m : Nat, i = .int .i64 (m : Int) ∧ m ≤ n ∧ Nums w.heap.size O wr v (asI (pkl E B m)) ∧ Mem k O wr ∧ Stp c w.heap.size O O w wr
theorem pick_mod0 (p : Int) (n : Nat) : max 0 p % (n : Int) = (pickOf p n : Int) := by rw [Int.max_comm]; exact pick_mod p n
/-- The number that a pick means. -/
def Picked (E B : Nat → Bool) (n : Nat) (p z : Int) : Prop := (pkl E B n = [] ∧ z = -1) ∨ ∃ m : Nat, (pkl E B n)[pickOf p (pkl E B n).length]? = some m ∧ z = (m : Int)
set_option maxRecDepth 20000 in
set_option maxHeartbeats 2000000 in
theorem pick_ok {k c : Nat} (O : Ghost) (wb : Nat) (D : DR) (w : World) (hM : Mem k O w) (h : DIs O wb D) (p : Int) (hp : -9223372036854775808 ≤ p ∧ p ≤ 9223372036854775807) :
    Calls Try.prog 28 #[.pointer (some ⟨wb, 0, none⟩), .int .i64 p] w fun e w' => ∃ z, e = .returned (.int .i64 z) ∧ Picked D.E D.B D.n p z ∧ Mem k O w' ∧ Stp c w.heap.size O O w w' := by
  obtain ⟨ve, vb, h1, h2, h3, h4⟩ := h
  obtain ⟨a, cp, rfl, hr⟩ := h2.reads hM
  obtain ⟨a', cp', rfl, hr'⟩ := h3.reads hM
  have HR : Hid (∀ wr, Mem k O wr → wr.cell? ⟨wb, 0, none⟩ = some (.slice a D.n cp) ∧ wr.cell? ⟨wb, 1, none⟩ = some (.slice a' D.n cp') ∧ ∀ i, i < D.n → ∃ b off b' off', a = some ⟨b, off, none⟩ ∧ a' = some ⟨b', off', none⟩ ∧ wr.cell? ⟨b, off + i, none⟩ = some (.bool (D.E i)) ∧ wr.cell? ⟨b', off' + i, none⟩ = some (.bool (D.B i))) := fun wr hMr => by
    refine ⟨hMr.cell h1 (i := 0) rfl, hMr.cell h1 (i := 1) rfl, fun i hi => ?_⟩
    obtain ⟨b, off, q, e1, e2, _⟩ := h2.cell hMr (bools_get D.E hi)
    obtain ⟨b', off', q', e1', e2', _⟩ := h3.cell hMr (bools_get D.B hi)
    injection e1 with e1
    injection e1' with e1'
    exact ⟨b, off, b', off', e1, e1', e2, e2'⟩
  have hn : (D.n : Int) ≤ 1000 := by omega
  generalize D.n = n at *
  generalize D.E = E at *
  generalize D.B = B at *
  have H0 : Hid (PkR O k c E B n w (.slice none 0 0) (.int .i64 0) w) := ⟨0, rfl, Nat.zero_le _, ⟨World.ownsRow_nil _ _ _ _, fun g e => by cases e⟩, hM, Stp.refl _ _ _ _⟩
  have hpk := pick_mod0 p
  have HPL := hide (pkl_len E B)
  clear hM h1 h2 h3 h4 hr hr'
  go_enter Try.func28, Try.ntmps28
  go_wp2_with fail
  go_loopw [5, 6] (fun v i wr => PkR O k c E B n w v i wr) (fun _ i _ => n - (intOf i).toNat)
  case atStart => exact unhide H0
  case round =>
    obtain ⟨m, rfl, hmn, hN, hMr, hS⟩ := hrel
    obtain ⟨c0, c1, hcell⟩ := unhide HR _ hMr
    by_cases hm : m < n
    · have hmI : (m : Int) < (n : Int) := by omega
      obtain ⟨b, off, b', off', rfl, rfl, d1, d2⟩ := hcell m hm
      have HS : Hid (pkl E B (m + 1) = _) := pkl_succ E B m
      cases hE : E m with
      | true =>
        rw [hE] at d1
        have HE : Hid (PkR O k c E B n w u5 (.int .i64 ((m : Int) + 1)) wr) := ⟨m + 1, by simp, by omega, by rw [unhide HS, hE]; exact hN, hMr, hS⟩
        clear hN hMr hS hcell
        go_wp2_with fail
        go_roundw
        case rel => exact unhide HE
        case measure => simp [intOf]; omega
      | false =>
        rw [hE] at d1
        cases hB : B m with
        | true =>
          rw [hB] at d2
          have HE : Hid (PkR O k c E B n w u5 (.int .i64 ((m : Int) + 1)) wr) := ⟨m + 1, by simp, by omega, by rw [unhide HS, hE, hB]; exact hN, hMr, hS⟩
          clear hN hMr hS hcell
          go_wp2_with fail
          go_roundw
          case rel => exact unhide HE
          case measure => simp [intOf]; omega
        | false =>
          rw [hB] at d2
          have hlen : (asI (pkl E B m)).length ≤ 100000 := by have := unhide HPL m; simp [asI]; omega
          obtain ⟨v', w3, g1, g2, g3, g4⟩ := hN.grow hMr hS.size hlen (m : Int)
          have HE : Hid (PkR O k c E B n w v' (.int .i64 ((m : Int) + 1)) w3) := ⟨m + 1, by simp, by omega, by rw [unhide HS, hE, hB]; simpa [asI] using g2, g4, hS.trans (Stp.grown g3 hS.size fun g eg => (hN.lt eg).2)⟩
          clear hN hMr hS hcell g2 g3 g4 hlen
          go_wp2_with fail
          go_roundw
          case rel => exact unhide HE
          case measure => simp [intOf]; omega
    · have hmI : ¬ ((m : Int) < (n : Int)) := by omega
      obtain rfl : m = n := by omega
      obtain ⟨ao, ac, e1, e2⟩ := hN.row
      have hal : (asI (pkl E B m)).length = (pkl E B m).length := by simp [asI]
      rw [hal] at e1
      subst e1
      by_cases hz : pkl E B m = []
      · have HE : Hid (Picked E B m p (-1) ∧ Mem k O wr ∧ Stp c w.heap.size O O w wr) := ⟨.inl ⟨hz, rfl⟩, hMr, hS⟩
        have hz0 : (pkl E B m).length = 0 := by rw [hz]; rfl
        rw [hz0]
        clear hN hMr hS hcell e2 hal hz hz0
        go_wp2_with fail
        go_ret
        exact ⟨-1, rfl, unhide HE⟩
      · obtain ⟨N, hNl⟩ : ∃ N, N = (pkl E B m).length := ⟨_, rfl⟩
        have hpos : 0 < (pkl E B m).length := by cases hq : pkl E B m with | nil => exact absurd hq hz | cons _ _ => simp
        have hlt : pickOf p (pkl E B m).length < (pkl E B m).length := Nat.mod_lt _ hpos
        obtain ⟨x, hx⟩ : ∃ x, (pkl E B m)[pickOf p (pkl E B m).length]? = some x := ⟨_, List.getElem?_eq_getElem hlt⟩
        obtain ⟨g, o, rfl, e4⟩ := e2 (by simp [asI]; exact hz)
        have d := e4 (pickOf p (pkl E B m).length) (x : Int) (by simp [asI, hx])
        have hle := unhide HPL m
        have HE : Hid (Picked E B m p (x : Int)) := .inr ⟨x, hx, rfl⟩
        have HM : Hid (Mem k O wr ∧ Stp c w.heap.size O O w wr) := ⟨hMr, hS⟩
        have hq := hpk (pkl E B m).length
        obtain ⟨I, hI⟩ : ∃ I, I = pickOf p (pkl E B m).length := ⟨_, rfl⟩
        rw [← hI] at d hq hlt
        rw [← hNl] at hq hlt hle ⊢
        have hy1 : ¬ ((N : Int) = 0) := by omega
        have hy2 : (N : Int) ≤ 1000 := by omega
        have hy3 : (I : Int) < (N : Int) := by omega
        have hy4 : 0 < (N : Int) := by omega
        clear hN hMr hS hcell hx hz e2 e4 hI hNl hpk hle hal hpos
        go_wp2_with fail
        go_ret
        exact ⟨(x : Int), rfl, unhide HE, unhide HM⟩
end Go.Proofs.Ytnlfmmempomcaaa
