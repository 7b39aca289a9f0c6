/- ready: the jobs that can go. -/
import Derived.Test.YtnlfmmempomcaaaNb
namespace Go.Proofs.Ytnlfmmempomcaaa
open Go.RowKit Go.Maps
set_option linter.unusedSimpArgs false
def Rn.ready (R : Rn) : List Jb := R.js.filter fun j => !j.bl
def ReR (O : Ghost) (R : Rn) (k : Nat) (w : World) (v i : Value) (wr : World) : Prop :=
  ∃ m : Nat, i = .int .i64 (m : Int) ∧ m ≤ R.js.length ∧ Ptrs w.heap.size O wr v (((R.js.take m).filter fun j => !j.bl).map Jb.at_) ∧ Mem k O wr ∧ Stp 3 w.heap.size O O w wr
theorem RowJ.cell {k : Nat} {O : Ghost} {w : World} {b : Nat} {ra : Option Addr} {n rc : Nat} {xs : List Nat} (hM : Mem k O w) (h : RowJ O b (.slice ra n rc) xs) {m g : Nat} (hm : xs[m]? = some g) : ∃ blk off, ra = some ⟨blk, off, none⟩ ∧ w.cell? ⟨blk, off + m, none⟩ = some (.pointer (some ⟨g, 0, none⟩)) := by
  rcases h with ⟨e, rfl⟩ | ⟨rb, off, c, cs, e1, e2, e3, e4, e5, e6⟩
  · cases hm
  · simp only [Value.slice.injEq] at e1
    refine ⟨rb, off, e1.1, hM.cell e2 ?_⟩
    have h7 : (xs.map fun g => ptr (some g))[m]? = some (ptr (some g)) := by rw [List.getElem?_map, hm]; rfl
    rw [← e6, List.getElem?_take] at h7
    split at h7
    · simpa [ptr] using h7
    · cases h7
set_option maxRecDepth 20000 in
set_option maxHeartbeats 1000000 in
theorem ready_ok {k : Nat} (O : Ghost) (rb : Nat) (R : Rn) (w : World) (hM : Mem k O w) (h : RnIs O rb R) :
    Calls Try.prog 53 #[.pointer (some ⟨rb, 0, none⟩)] w fun e w' => ∃ v, e = .returned v ∧ Ptrs w.heap.size O w' v (R.ready.map Jb.at_) ∧ Mem k O w' ∧ Stp 3 w.heap.size O O w w' := by
  obtain ⟨⟨rv, h1, h2⟩, hj, hs, hl, h6⟩ := h
  obtain ⟨ra, rc, rfl⟩ := h2.shape
  have c0 := hM.cell h1 (i := 0) rfl
  rw [List.length_map] at c0 h2
  obtain ⟨N, hN⟩ : ∃ N, N = R.js.length := ⟨_, rfl⟩
  rw [← hN] at c0 h2
  have HN : Hid (N = R.js.length ∧ N ≤ 256) := ⟨hN, by omega⟩
  have hN' : (N : Int) ≤ 256 := by omega
  have H0 : Hid (ReR O R k w (.slice none 0 0) (.int .i64 0) w) := ⟨0, rfl, Nat.zero_le _, ⟨World.ownsRow_nil _ _ _ _, fun g e => by cases e⟩, hM, Stp.refl _ _ _ _⟩
  have HR := hide h2
  have HJ := hide hj
  clear hM h1 h2 hj hs hl h6 hN
  go_enter Try.func53, Try.ntmps53
  go_wp2_with fail
  go_loopw [3, 11] (fun v i wr => ReR O R k w v i wr) (fun _ i _ => N - (intOf i).toNat)
  case atStart => exact unhide H0
  case round =>
    obtain ⟨m, rfl, hmN, hp, hM, hst⟩ := hrel
    by_cases hm : m < N
    · have hmI : (m : Int) < (N : Int) := by omega
      have hmI2 : (m : Int) < 256 := by omega
      obtain ⟨j, hjm⟩ : ∃ j, R.js[m]? = some j := ⟨_, List.getElem?_eq_getElem (by have := unhide HN; omega)⟩
      obtain ⟨blk, off, rfl, d1⟩ := (unhide HR).cell hM (m := m) (g := j.at_) (by rw [List.getElem?_map, hjm]; rfl)
      have d2 := hM.cell (unhide HJ j (List.mem_of_getElem? hjm)) (i := 2) rfl
      have htake : R.js.take (m + 1) = R.js.take m ++ [j] := by rw [List.take_add_one, hjm]; rfl
      have hlen : (((R.js.take m).filter fun j => !j.bl).map Jb.at_).length ≤ 100000 := by
        rw [List.length_map]
        refine Nat.le_trans (List.length_filter_le _ _) ?_
        rw [List.length_take]
        have := unhide HN
        omega
      cases hbl : j.bl with
      | true =>
        rw [hbl] at d2
        have HE : Hid (ReR O R k w u3 (.int .i64 ((m : Int) + 1)) wr) := ⟨m + 1, by simp, by have := unhide HN; omega, by rw [htake, List.filter_append]; simpa [hbl] using hp, hM, hst⟩
        clear hmN hp hM hst hjm htake hlen
        go_wp2_with fail
        go_roundw
        case rel => exact unhide HE
        case measure => simp [intOf]; omega
      | false =>
        rw [hbl] at d2
        obtain ⟨v', w3, g1, g2, g3, g4⟩ := hp.grow hM hst.size hlen j.at_
        have HE : Hid (ReR O R k w v' (.int .i64 ((m : Int) + 1)) w3) := ⟨m + 1, by simp, by have := unhide HN; omega, by rw [htake, List.filter_append, List.map_append]; simpa [hbl] using g2, g4, hst.trans (Stp.grown g3 hst.size fun g eg => (hp.lt eg).2)⟩
        clear hmN hp hM hst hjm htake hlen g2 g3 g4
        unfold ptr at g1
        go_wp2_with fail
        go_roundw
        case rel => exact unhide HE
        case measure => simp [intOf]; omega
    · have hmI : ¬ ((m : Int) < (N : Int)) := by omega
      have HE : Hid (Ptrs w.heap.size O wr u3 (R.ready.map Jb.at_) ∧ Mem k O wr ∧ Stp 3 w.heap.size O O w wr) := ⟨by
        have : R.js.take m = R.js := List.take_of_length_le (by have := unhide HN; omega)
        rw [this] at hp
        exact hp, hM, hst⟩
      clear hmN hp hM hst
      go_wp2_with fail
      go_ret
      exact ⟨u3, rfl, unhide HE⟩
end Go.Proofs.Ytnlfmmempomcaaa
