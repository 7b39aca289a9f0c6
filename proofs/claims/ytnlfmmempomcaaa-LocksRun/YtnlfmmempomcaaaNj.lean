/- Step. -/
import Derived.Test.YtnlfmmempomcaaaNi
namespace Go.Proofs.Ytnlfmmempomcaaa
open Go.RowKit Go.Maps
set_option linter.unusedSimpArgs false
theorem Ptrs.len {base : Nat} {O : Ghost} {w : World} {v : Value} {xs : List Nat} (h : Ptrs base O w v xs) : ∃ a c, v = .slice a xs.length c := by
  obtain ⟨⟨_, h2⟩, _⟩ := h
  rcases h2 with ⟨h2, h3⟩ | ⟨g', cap, cur, hv, _⟩
  · exact ⟨none, 0, by rw [h2, h3]⟩
  · exact ⟨_, _, hv⟩
theorem RnIs.busyc {k : Nat} {O : Ghost} {rb : Nat} {R : Rn} {w : World} (h : RnIs O rb R) (hM : Mem k O w) : w.cell? ⟨rb, 2, none⟩ = some (.bool R.busy) := by
  obtain ⟨⟨rv, r1, r2⟩, _⟩ := h
  exact hM.cell r1 (i := 2) rfl
set_option maxRecDepth 20000 in
theorem step_busy {k : Nat} (O : Ghost) (rb : Nat) (R : Rn) (w : World) (hM : Mem k O w) (h : RnIs O rb R) (hb : R.busy = true) (p : Int) :
    Calls Try.prog 29 #[.pointer (some ⟨rb, 0, none⟩), .int .i64 p] w fun e w' => e = .returned (.tuple #[.int .i64 (-1), .bool false]) ∧ w' = w := by
  have c2 := h.busyc hM
  rw [hb] at c2
  clear h hM hb
  go_enter Try.func29, Try.ntmps29
  go_wp2_with fail
  go_ret2
  exact ⟨rfl, rfl⟩
set_option maxRecDepth 20000 in
set_option maxHeartbeats 1000000 in
theorem step_none {k : Nat} (O : Ghost) (rb : Nat) (R : Rn) (w : World) (hM : Mem k O w) (h : RnIs O rb R) (hb : R.busy = false) (hr : R.ready = []) (p : Int) :
    Calls Try.prog 29 #[.pointer (some ⟨rb, 0, none⟩), .int .i64 p] w fun e w' => e = .returned (.tuple #[.int .i64 (-1), .bool false]) ∧ Mem k O w' ∧ Stp 3 w.heap.size O O w w' := by
  have c2 := h.busyc hM
  rw [hb] at c2
  have HC := hide (ready_ok O rb R w hM h)
  have HZ : Hid (∀ v w', Ptrs w.heap.size O w' v (R.ready.map Jb.at_) → ∃ a c, v = .slice a 0 c) := fun v w' hp => by
    obtain ⟨a, c, e⟩ := Ptrs.len hp
    rw [hr] at e
    exact ⟨a, c, e⟩
  clear h hM hb hr
  go_enter Try.func29, Try.ntmps29
  go_wp2_with (go_at_call 53; refine (unhide HC).mono ?_; rintro e w' ⟨v, rfl, hp, hM, hs⟩; obtain ⟨a, c, rfl⟩ := unhide HZ _ _ hp; clear hp)
  go_ret2
  exact ⟨rfl, hM, hs⟩
/-- Which of so many is picked. -/
def pickOf (p : Int) (n : Nat) : Nat := (max p 0).toNat % n
theorem pick_mod (p : Int) (n : Nat) : max p 0 % (n : Int) = (pickOf p n : Int) := by
  unfold pickOf
  have h : max p 0 = ((max p 0).toNat : Int) := (Int.toNat_of_nonneg (Int.le_max_right _ _)).symm
  rw [h]
  simp
set_option maxRecDepth 20000 in
set_option maxHeartbeats 2000000 in
theorem step_some {k : Nat} {Pq : Ghost → World → Bool → Rn → Prop} (O : Ghost) (rb : Nat) (R : Rn) (w : World) (hM : Mem k O w) (h : RnIs O rb R) (hbz : R.busy = false) (p : Int) (hp : -9223372036854775808 ≤ p ∧ p ≤ 9223372036854775807) (b : Jb) (hb : R.ready[pickOf p R.ready.length]? = some b) (fid : Nat) (caps : Array Value) (hfn : b.fn = .func (.func fid) #[] caps) (hent : Enters fid)
    (HS : ∀ O1 w1, RnIs O1 rb R.busyOn → Mem k O1 w1 → Stp 3 w.heap.size O O1 w w1 → Calls Try.prog fid caps w1 fun e w2 => StepPost k rb b.no b.at_ Pq O1 w1 e w2) :
    Calls Try.prog 29 #[.pointer (some ⟨rb, 0, none⟩), .int .i64 p] w fun e w' => e = .returned (.tuple #[.int .i64 (b.no : Int), .bool true]) ∧ ∃ W, w.heap.size ≤ W.heap.size ∧ Stp 3 w.heap.size O O w W ∧ Done k rb b.no b.at_ Pq O W w' := by
  have c2 := h.busyc hM
  rw [hbz] at c2
  have hbm : b ∈ R.js := (List.mem_filter.1 (List.mem_of_getElem? hb)).1
  have hlt := (List.getElem?_eq_some_iff.1 hb).1
  have HC := hide (ready_ok O rb R w hM h)
  have HZ : Hid (∀ v w', Ptrs w.heap.size O w' v (R.ready.map Jb.at_) → Mem k O w' → Stp 3 w.heap.size O O w w' → ∃ g c N I, v = .slice (some ⟨g, 0, none⟩) N c ∧ 0 < N ∧ N ≤ 256 ∧ N = R.ready.length ∧ I = pickOf p R.ready.length ∧ I < N ∧ w'.cell? ⟨g, I, none⟩ = some (.pointer (some ⟨b.at_, 0, none⟩)) ∧
      Hid (Calls Try.prog 54 #[.pointer (some ⟨rb, 0, none⟩), .pointer (some ⟨b.at_, 0, none⟩)] w' fun e w2 => e = .returned (.tuple #[]) ∧ Done k rb b.no b.at_ Pq O w' w2)) := fun v w' hp hM' hs => by
    obtain ⟨⟨h1, h2⟩, _⟩ := hp
    rcases h2 with ⟨_, e⟩ | ⟨g, cap, cur, hv, hg, hh, hn, hc, hcs, ht⟩
    · rw [List.length_map] at e
      omega
    · rw [List.length_map] at hv
      refine ⟨g, cap, R.ready.length, _, hv, by omega, ?_, rfl, rfl, hlt, ?_, ?_⟩
      · have := h.room
        have := List.length_filter_le (fun j : Jb => !j.bl) R.js
        unfold Rn.ready
        omega
      · have h4 : ((R.ready.map Jb.at_).map fun g => ptr (some g))[pickOf p R.ready.length]? = some (.pointer (some ⟨b.at_, 0, none⟩)) := by
          rw [List.map_map, List.getElem?_map, hb]; rfl
        rw [← ht, List.getElem?_take] at h4
        split at h4
        · simp only [World.cell?, hh]
          simpa using h4
        · cases h4
      · refine do_ok O rb R w' hM' h b hbm fid caps hfn hent fun O1 w1 r1 r2 r3 => HS O1 w1 r1 r2 (hs.trans (r3.mono hs.size))
  clear h hM hbz hb hbm hlt HS hfn
  have hpk := pick_mod p R.ready.length
  go_enter Try.func29, Try.ntmps29
  go_wp2_with (first | (go_at_call 53; refine (unhide HC).mono ?_; rintro e w' ⟨v, rfl, hp', hM, hs⟩; obtain ⟨g, c, N, I, rfl, y1, y2, y3, y4, y5, y6, y7⟩ := unhide HZ _ _ hp' hM hs; clear hp' hM; rw [← y3] at hpk y4; rw [← y4] at hpk; have Y3 := hide y3; have Y4 := hide y4; have hs' := hide hs; clear y3 y4 hs; have y1' : ¬ ((N : Int) = 0) := by omega) | (go_at_call 54; refine (unhide y7).mono ?_; rintro e w2 ⟨rfl, hD⟩; have hc := hD; obtain ⟨_, _, _, _, _, _, _, _, _, _, hcell⟩ := hc))
  go_ret2
  exact ⟨rfl, w', (unhide hs').size, unhide hs', hD⟩
end Go.Proofs.Ytnlfmmempomcaaa
