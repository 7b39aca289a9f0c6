/- look: the rows that stand in bytes are struck out. -/
import Derived.Test.YtlbfcneboaihnaaLook
import Derived.Deep.MidRow
import Derived.Deep.RegionHeld3
namespace Go.Proofs.Ytlbfcneboaihnaa
open Go.RowKit Go.Great Go.ChangeMaps Go.MapKept
set_option linter.unusedSimpArgs false
theorem cell_lt {w : World} {b o : Nat} {v : Value} (h : w.cell? ⟨b, o, none⟩ = some v) : b < w.heap.size := by
  rcases Nat.lt_or_ge b w.heap.size with hb | hb
  · exact hb
  · have hn : w.heap[b]? = none := Array.getElem?_eq_none hb
    simp [World.cell?, hn] at h
theorem Solo.trans {b : Nat} {w w' w'' : World} (h : Solo b w w') (k : Solo b w' w'') : Solo b w w'' :=
  ⟨k.os.trans h.os, k.tape.trans h.tape, k.output.trans h.output, Nat.le_trans h.size k.size, fun j h1 h2 => (k.block j (Nat.lt_of_lt_of_le h1 h.size) h2).trans (h.block j h1 h2)⟩
theorem solo_turned {b : Nat} {w w' : World} (h : w.drew.mapTurned w' b) : Solo b w w' := by
  obtain ⟨es, clock, es', clock', hb, rfl⟩ := h
  refine ⟨rfl, rfl, rfl, by simp [setBlock], fun k hk hne => ?_⟩
  show (Array.setIfInBounds w.heap b _)[k]? = _
  rw [Array.getElem?_setIfInBounds_ne (by omega)]
theorem not_map_cell {b o : Nat} {w w' : World} {v : Value} (h : w.cell? ⟨b, o, none⟩ = some v) (k : w.drew.mapTurned w' b) : False := by
  obtain ⟨es, clock, es', clock', hb, rfl⟩ := k
  have hb' : w.heap[b]? = some (.map es clock) := hb
  simp [World.cell?, hb'] at h
theorem bytes_solo {w w' : World} {ga oa m c mb : Nat} {B : List Nat} (h : BytesAt w (.slice (some ⟨ga, oa, none⟩) m c) B) (hs : Solo mb w w') (hne : ga ≠ mb) : BytesAt w' (.slice (some ⟨ga, oa, none⟩) m c) B := by
  obtain ⟨a', cap, e, h1, h⟩ := h
  refine ⟨a', cap, e, h1, fun h0 => ?_⟩
  obtain ⟨b, o, ea, hlt, hc⟩ := h h0
  have hbg : b = ga := by injection e with e1 _ _; rw [← e1] at ea; injection ea with ea; injection ea with ea _ _; exact ea.symm
  subst hbg
  exact ⟨b, o, ea, Nat.lt_of_lt_of_le hlt hs.size, fun i hi => by rw [World.cell?_of_block (w := w) (a := ⟨b, o + i, none⟩) (hs.block b hlt hne)]; exact hc i hi⟩
theorem range_of {w : World} {ga oa m c : Nat} {B : List Nat} (h : BytesAt w (.slice (some ⟨ga, oa, none⟩) m c) B) (hm : B.length = m) (k : Nat) (hk : k + 32 ≤ m) : w.rangeAt ga (oa + k) (E8 ((B.drop k).take 32)).toList := by
  intro j v hj
  have hl0 : ((B.drop k).take 32).length = 32 := by rw [List.length_take, List.length_drop]; omega
  have hj32 : j < 32 := by
    have := (List.getElem?_eq_some_iff.1 hj).1
    rw [Array.length_toList] at this
    simpa [hl0] using this
  obtain ⟨g, o, ea, hc⟩ := bytes_at h hm (k + j) (by omega)
  injection ea with ea; injection ea with e1 e2 _
  subst e1 e2
  rw [Nat.add_assoc, hc]
  rw [Array.getElem?_toList, Array.getElem?_eq_getElem (by simp [hl0]; omega), E8_getElem] at hj
  rw [← hj]
  simp only [Sha.nth]
  rw [List.getElem?_take, if_pos hj32, List.getElem?_drop]
theorem bytes_cap {w : World} {a : Option Addr} {m c : Nat} {B : List Nat} (h : BytesAt w (.slice a m c) B) : m ≤ c := by
  obtain ⟨a', cap, e, h1, h⟩ := h
  injection e with e1 e2 e3
  omega
set_option maxRecDepth 20000 in
set_option maxHeartbeats 2000000 in
theorem look_any (g mb n : Nat) (D : DataW Unit) (a : Option Addr) (m c : Nat) (B : List Nat) (w : World) (hp : w.cell? ⟨g, 1, none⟩ = some (.map (some mb))) (ho : w.ownsMap Try.prog 82 unitElem mb n D) (hm : B.length = m) (hv : BytesAt w (.slice a m c) B) (hb : Sha.Bytes B) (hmax : m ≤ 100000000) :
    Calls Try.prog 25 #[.pointer (some ⟨g, 0, none⟩), .slice a m c] w fun e w' => e = .returned (.tuple #[]) ∧ ∃ i r D', LookI g mb n D a m c B w w' i r D' ∧ (i = m ∨ Maps.size D' = 0) := by
  have H0 : Hid (LookI g mb n D a m c B w w 0 0 D) := ⟨Solo.refl _ _, ho, fun d hl _ _ => by simp [standsBy_zero (B := B) (d := d) (by omega)], RunAt.start _ _, hp, hv⟩
  have HM := hide (And.intro hm hb)
  clear hp ho hv hm hb
  go_enter Try.func25, Try.ntmps25
  go_wp2_with fail
  go_loopw [4, 5] (fun vr vi wr => ∃ (i r : Nat) (D' : DataW Unit), i ≤ m ∧ vi = .int .i64 (i : Int) ∧ vr = .int .i64 (r : Int) ∧ r ≤ i ∧ Hid (LookI g mb n D a m c B w wr i r D')) (fun _ vi _ => m - (intOf vi).toNat)
  case atStart => exact ⟨0, 0, D, by omega, rfl, rfl, by omega, H0⟩
  case round =>
    obtain ⟨i, r, D', him, rfl, rfl, hri, HI⟩ := hrel
    have hc := (unhide HI).cell
    have hlen := fun ty => (unhide HI).own.len (t := 75) (e := 80) Try.underlying75 ty
    by_cases hlt : i < m
    · by_cases hz : Maps.size D' = 0
      · have HZ : Hid (∃ i r D', LookI g mb n D a m c B w wr i r D' ∧ (i = m ∨ Maps.size D' = 0)) := ⟨i, r, D', unhide HI, .inr hz⟩
        rw [hz] at hlen
        clear hz
        go_wp2_with fail
        go_end0
        exact ⟨rfl, unhide HZ⟩
      · obtain ⟨ga, oa, rfl, hcell⟩ := bytes_at (unhide HI).bytes (unhide HM).1 i hlt
        have hsz : 0 < Maps.size D' := by omega
        generalize Maps.size D' = sz at *
        clear hz
        obtain ⟨x, hx⟩ : ∃ x, Sha.nth B i = x := ⟨_, rfl⟩
        rw [hx] at hcell
        have HX := hide (show B.getD i 0 = x by rw [← nth_getD]; exact hx)
        clear hx
        go_wp2_with fail
        refine (isDigit_any x wr).mono ?_
        rintro e w1 ⟨rfl, hw1⟩
        obtain rfl : wr = w1 := hw1.symm
        cases hd : digB x with
        | false =>
          have HN : Hid (LookI g mb n D (some ⟨ga, oa, none⟩) m c B w wr (i + 1) 0 D') := by
            exact (unhide HI).no (by rw [unhide HX]; exact hd) (by rw [(unhide HM).1]; exact hlt)
          go_wp2_with fail
          exact ⟨⟨i + 1, 0, D', by omega, rfl, rfl, by omega, HN⟩, by simp [intOf]; omega⟩
        | true =>
          by_cases h32 : 32 ≤ r + 1
          · have hmc : m ≤ c := bytes_cap (unhide HI).bytes
            obtain ⟨k, rfl⟩ : ∃ k, i = k + 31 := ⟨i - 31, by omega⟩
            have hl0 : ((B.drop k).take 32).length = 32 := by have := (unhide HM).1; rw [List.length_take, List.length_drop]; omega
            have hb0 : Sha.Bytes ((B.drop k).take 32) := fun x hx => (unhide HM).2 x (List.mem_of_mem_drop (List.mem_of_mem_take hx))
            have HINF : (Try.prog.info? 82).map (·.size) = some (E8 ((B.drop k).take 32)).toList.length := by
              rw [show (E8 ((B.drop k).take 32)).toList.length = 32 by rw [Array.length_toList]; simp [hl0]]; kernel_rfl
            have HINF := hide HINF
            have HL0 := hide (And.intro hl0 hb0)
            clear hl0 hb0
            go_wp2_with fail
            refine wp_region_noPanic ?_
            refine wp_region_held_drew (S := fun w' => w'.cell? ⟨g, 1, none⟩ = some (.map (some mb)) ∧ w'.rangeAt ga (oa + k) (E8 ((B.drop k).take 32)).toList) (by kernel_rfl) ⟨hc, range_of (unhide HI).bytes (unhide HM).1 k (by omega)⟩ (fun hHeld => ?_)
            refine wpAnyH_take (i := 0) (v := .pointer (some ⟨g, 0, none⟩)) rfl (by kernel_rfl) (by kernel_rfl) (by kernel_rfl) (fun _ _ _ h => h) (Or.inl ⟨by rfl, ?_⟩) hHeld ?_
            · intro w' hS'; have hq := hS'.1; go_simp
            try simp only [Act.put, List.getElem_toArray, List.getElem_cons_zero, List.getElem_cons_succ, List.setIfInBounds_toArray, List.set_cons_zero, List.set_cons_succ]
            refine wpAnyH_take (i := 1) (v := .pointer (some ⟨g, 0, none⟩)) rfl (by kernel_rfl) (by kernel_rfl) (by kernel_rfl) (fun _ _ _ h => h) (Or.inl ⟨by rfl, ?_⟩) hHeld ?_
            · intro w' hS'; have hq := hS'.1; go_simp
            try simp only [Act.put, List.getElem_toArray, List.getElem_cons_zero, List.getElem_cons_succ, List.setIfInBounds_toArray, List.set_cons_zero, List.set_cons_succ]
            refine wpAnyH_take (i := 2) (v := .pointer (some ⟨g, 1, none⟩)) rfl (by kernel_rfl) (by kernel_rfl) (by kernel_rfl) (fun _ _ _ h => h) (Or.inl ⟨by rfl, ?_⟩) hHeld ?_
            · intro w' hS'; have hq := hS'.1; go_simp
              all_goals first | (rw [IntWalk.i64_in _ (by omega)]; omega) | (exact IntWalk.i64_in _ (by omega)) | (rw [if_pos (by omega), if_pos (by omega), if_neg (by omega), show ((k : Int) + 32).toNat - k = 32 by omega]) | (simp [Instr.arrayAt, Try.underlying82, go_sem]; done) | trace_state
            try simp only [Act.put, List.getElem_toArray, List.getElem_cons_zero, List.getElem_cons_succ, List.setIfInBounds_toArray, List.set_cons_zero, List.set_cons_succ]
            refine wpAnyH_take (i := 3) (v := .map (some mb)) rfl (by kernel_rfl) (by kernel_rfl) (by kernel_rfl) (fun _ _ _ h => h) (Or.inl ⟨by rfl, ?_⟩) hHeld ?_
            · intro w' hS'; have hq := hS'.1; go_simp
              all_goals first | (rw [IntWalk.i64_in _ (by omega)]; omega) | (exact IntWalk.i64_in _ (by omega)) | (rw [if_pos (by omega), if_pos (by omega), if_neg (by omega), show ((k : Int) + 32).toNat - k = 32 by omega]) | (simp [Instr.arrayAt, Try.underlying82, go_sem]; done) | trace_state
            try simp only [Act.put, List.getElem_toArray, List.getElem_cons_zero, List.getElem_cons_succ, List.setIfInBounds_toArray, List.set_cons_zero, List.set_cons_succ]
            refine wpAnyH_take (i := 4) (v := .slice (some ⟨ga, oa, none⟩) m c) rfl (by kernel_rfl) (by kernel_rfl) (by kernel_rfl) (fun _ _ _ h => h) (Or.inl ⟨by rfl, ?_⟩) hHeld ?_
            · intro w' hS'; have hq := hS'.1; go_simp
              all_goals first | (rw [IntWalk.i64_in _ (by omega)]; omega) | (exact IntWalk.i64_in _ (by omega)) | (rw [if_pos (by omega), if_pos (by omega), if_neg (by omega), show ((k : Int) + 32).toNat - k = 32 by omega]) | (simp [Instr.arrayAt, Try.underlying82, go_sem]; done) | trace_state
            try simp only [Act.put, List.getElem_toArray, List.getElem_cons_zero, List.getElem_cons_succ, List.setIfInBounds_toArray, List.set_cons_zero, List.set_cons_succ]
            refine wpAnyH_take (i := 5) (v := .int .i64 ((k : Int) + 31)) rfl (by kernel_rfl) (by kernel_rfl) (by kernel_rfl) (fun _ _ _ h => h) (Or.inl ⟨by rfl, ?_⟩) hHeld ?_
            · intro w' hS'; have hq := hS'.1; go_simp
              all_goals first | (rw [IntWalk.i64_in _ (by omega)]; omega) | (exact IntWalk.i64_in _ (by omega)) | (rw [if_pos (by omega), if_pos (by omega), if_neg (by omega), show ((k : Int) + 32).toNat - k = 32 by omega]) | (simp [Instr.arrayAt, Try.underlying82, go_sem]; done) | trace_state
            try simp only [Act.put, List.getElem_toArray, List.getElem_cons_zero, List.getElem_cons_succ, List.setIfInBounds_toArray, List.set_cons_zero, List.set_cons_succ]
            refine wpAnyH_take (i := 6) (v := .int .i64 ((k : Int) + 32)) rfl (by kernel_rfl) (by kernel_rfl) (by kernel_rfl) (fun _ _ _ h => h) (Or.inl ⟨by rfl, ?_⟩) hHeld ?_
            · intro w' hS'; have hq := hS'.1; go_simp
              all_goals first | (rw [IntWalk.i64_in _ (by omega)]; omega) | (exact IntWalk.i64_in _ (by omega)) | (rw [if_pos (by omega), if_pos (by omega), if_neg (by omega), show ((k : Int) + 32).toNat - k = 32 by omega]) | (simp [Instr.arrayAt, Try.underlying82, go_sem]; done) | trace_state
            try simp only [Act.put, List.getElem_toArray, List.getElem_cons_zero, List.getElem_cons_succ, List.setIfInBounds_toArray, List.set_cons_zero, List.set_cons_succ]
            refine wpAnyH_take (i := 7) (v := .int .i64 (k : Int)) rfl (by kernel_rfl) (by kernel_rfl) (by kernel_rfl) (fun _ _ _ h => h) (Or.inl ⟨by rfl, ?_⟩) hHeld ?_
            · intro w' hS'; have hq := hS'.1; go_simp
              all_goals first | (rw [IntWalk.i64_in _ (by omega)]; omega) | (exact IntWalk.i64_in _ (by omega)) | (rw [if_pos (by omega), if_pos (by omega), if_neg (by omega), show ((k : Int) + 32).toNat - k = 32 by omega]) | (simp [Instr.arrayAt, Try.underlying82, go_sem]; done) | trace_state
            try simp only [Act.put, List.getElem_toArray, List.getElem_cons_zero, List.getElem_cons_succ, List.setIfInBounds_toArray, List.set_cons_zero, List.set_cons_succ]
            refine wpAnyH_take (i := 8) (v := .int .i64 ((k : Int) + 31)) rfl (by kernel_rfl) (by kernel_rfl) (by kernel_rfl) (fun _ _ _ h => h) (Or.inl ⟨by rfl, ?_⟩) hHeld ?_
            · intro w' hS'; have hq := hS'.1; go_simp
              all_goals first | (rw [IntWalk.i64_in _ (by omega)]; omega) | (exact IntWalk.i64_in _ (by omega)) | (rw [if_pos (by omega), if_pos (by omega), if_neg (by omega), show ((k : Int) + 32).toNat - k = 32 by omega]) | (simp [Instr.arrayAt, Try.underlying82, go_sem]; done) | trace_state
            try simp only [Act.put, List.getElem_toArray, List.getElem_cons_zero, List.getElem_cons_succ, List.setIfInBounds_toArray, List.set_cons_zero, List.set_cons_succ]
            refine wpAnyH_take (i := 9) (v := .int .i64 ((k : Int) + 32)) rfl (by kernel_rfl) (by kernel_rfl) (by kernel_rfl) (fun _ _ _ h => h) (Or.inl ⟨by rfl, ?_⟩) hHeld ?_
            · intro w' hS'; have hq := hS'.1; go_simp
              all_goals first | (rw [IntWalk.i64_in _ (by omega)]; omega) | (exact IntWalk.i64_in _ (by omega)) | (rw [if_pos (by omega), if_pos (by omega), if_neg (by omega), show ((k : Int) + 32).toNat - k = 32 by omega]) | (simp [Instr.arrayAt, Try.underlying82, go_sem]; done) | trace_state
            try simp only [Act.put, List.getElem_toArray, List.getElem_cons_zero, List.getElem_cons_succ, List.setIfInBounds_toArray, List.set_cons_zero, List.set_cons_succ]
            refine wpAnyH_take (i := 10) (v := .slice (some ⟨ga, oa + k, none⟩) 32 (c - k)) rfl (by kernel_rfl) (by kernel_rfl) (by kernel_rfl) (fun _ _ _ h => h) (Or.inl ⟨by rfl, ?_⟩) hHeld ?_
            · intro w' hS'; have hq := hS'.1; go_simp
              all_goals first | (rw [IntWalk.i64_in _ (by omega)]; omega) | (exact IntWalk.i64_in _ (by omega)) | (rw [if_pos (by omega), if_pos (by omega), if_neg (by omega), show ((k : Int) + 32).toNat - k = 32 by omega]) | (simp [Instr.arrayAt, Try.underlying82, go_sem]; done) | trace_state
            try simp only [Act.put, List.getElem_toArray, List.getElem_cons_zero, List.getElem_cons_succ, List.setIfInBounds_toArray, List.set_cons_zero, List.set_cons_succ]
            refine wpAnyH_take (i := 11) (v := .pointer (some ⟨ga, oa + k, none⟩)) rfl (by kernel_rfl) (by kernel_rfl) (by kernel_rfl) (fun _ _ _ h => h) (Or.inl ⟨by rfl, ?_⟩) hHeld ?_
            · intro w' hS'; have hq := hS'.1; go_simp
              all_goals first | (rw [IntWalk.i64_in _ (by omega)]; omega) | (exact IntWalk.i64_in _ (by omega)) | (rw [if_pos (by omega), if_pos (by omega), if_neg (by omega), show ((k : Int) + 32).toNat - k = 32 by omega]) | (simp [Instr.arrayAt, Try.underlying82, go_sem]; done) | trace_state
            try simp only [Act.put, List.getElem_toArray, List.getElem_cons_zero, List.getElem_cons_succ, List.setIfInBounds_toArray, List.set_cons_zero, List.set_cons_succ]
            refine wpAnyH_take (i := 12) (v := .agg (E8 ((B.drop k).take 32)).toList.toArray) rfl (by kernel_rfl) (by kernel_rfl) (by kernel_rfl) (fun _ _ _ h => h) (yieldsIf_load_mid (by rfl) 82 (.tmp 41) rfl ga (oa + k) rfl _ _ (fun w' h => h.2) Try.underlying82 rfl (unhide HINF)) hHeld ?_
            try simp only [Act.put, List.getElem_toArray, List.getElem_cons_zero, List.getElem_cons_succ, List.setIfInBounds_toArray, List.set_cons_zero, List.set_cons_succ]
            refine wpAnyH_ready (rs := [13]) (by kernel_rfl) (by simp) (AllReadyH.cons rfl (fun K hK => ?_) AllReadyH.nil)
            simp only [List.getElem_toArray, List.getElem_cons_zero, List.getElem_cons_succ]
            obtain ⟨wn, hrun, hown, hturn⟩ := (unhide HI).own.drew.drop keyed50 Try.underlying75 (rowKey_eq (unhide HL0).1 (unhide HL0).2) 0
            go_simp
            have hso := solo_turned hturn
            have hgm : g ≠ mb := fun e => not_map_cell (e ▸ hc) hturn
            have hgam : ga ≠ mb := fun e => not_map_cell (e ▸ hcell) hturn
            have hc2 : wn.cell? ⟨g, 1, none⟩ = some (.map (some mb)) := by
              rw [World.cell?_of_block (w := wr) (a := ⟨g, 1, none⟩) (hso.block g (cell_lt hc) hgm)]; exact hc
            have hb2 : BytesAt wn (.slice (some ⟨ga, oa, none⟩) m c) B := bytes_solo (unhide HI).bytes hso hgam
            have HN : Hid (LookI g mb n D (some ⟨ga, oa, none⟩) m c B w wn (k + 31 + 1) (r + 1) (D'.del (rowKey ((B.drop k).take 32)))) := by
              have := (unhide HI).drop (wr' := wn) (by rw [unhide HX]; exact hd) (by rw [(unhide HM).1]; exact hlt) h32 (unhide HM).2
              rw [show k + 31 + 1 - 32 = k by omega] at this
              exact this hown ((unhide HI).solo.trans hso) hc2 hb2
            refine hK.out _ _ ⟨hc2, range_of hb2 (unhide HM).1 k (by omega)⟩ (fun hHeld => ?_)
            clear hK K
            try simp only [Act.put, List.getElem_toArray, List.getElem_cons_zero, List.getElem_cons_succ, List.setIfInBounds_toArray, List.set_cons_zero, List.set_cons_succ]
            refine wpAnyH_done (by kernel_rfl) ?_ _
            refine NoPanic.normal ?_
            clear hHeld
            go_wp2_with fail
            exact ⟨⟨k + 31 + 1, r + 1, _, by omega, rfl, rfl, by omega, HN⟩, by simp [intOf]; omega⟩
          · have HN : Hid (LookI g mb n D (some ⟨ga, oa, none⟩) m c B w wr (i + 1) (r + 1) D') := (unhide HI).short (by rw [unhide HX]; exact hd) (by rw [(unhide HM).1]; exact hlt) (by omega)
            go_wp2_with fail
            exact ⟨⟨i + 1, r + 1, D', by omega, rfl, rfl, by omega, HN⟩, by simp [intOf]; omega⟩
    · have HZ : Hid (∃ i r D', LookI g mb n D a m c B w wr i r D' ∧ (i = m ∨ Maps.size D' = 0)) := ⟨i, r, D', unhide HI, .inl (by omega)⟩
      go_wp2_with fail
      go_end0
      exact ⟨rfl, unhide HZ⟩
end Go.Proofs.Ytlbfcneboaihnaa
