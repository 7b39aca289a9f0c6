/- Hash. -/
import Derived.Test.YtikamklgelcnhabHsnk
import Derived.Deep.RegionHeld3
namespace Go.Proofs.Ytikamklgelcnhab
open Go.RowKit Go.Great
set_option linter.unusedSimpArgs false
/-- A tree's digest, as cells. -/
noncomputable def hashE (T : Tr) : Array Value := if (chk T 1 0).1 = 0 then Dg.E8 (Dg.Sha.sum (nats (narB T))) else Dg.Z32
def HashA (T : Tr) (w : World) (e : Ending) (w' : World) : Prop := Below w.heap.size w w' ∧ e = .returned (.tuple #[.agg (hashE T), .int .i64 ((encS T).length : Nat), .int .i64 (((chk T 1 0).1 : Nat) : Int)])
/-- Three results, the first of which lies in a block. -/
theorem res35_three {fn : Func} {p q r : Tmp} (h : fn.results = #[.cell p 32, .tmp q, .tmp r]) {tmps : Array Value} {w : World} {b : Nat} (hp : tmps.getD p undef = .pointer (some ⟨b, 0, none⟩)) {cs : Array Value} {v u : Value} (hr : Dg.rowOf w b = cs) (hs : cs.size = 32) (hv : tmps.getD q undef = v) (hu : tmps.getD r undef = u) :
    (results fn tmps).run Try.prog w = .ok (.tuple #[.agg cs, v, u]) w := by
  subst hv hu
  have hp' : tmps[p]?.getD undef = .pointer (some ⟨b, 0, none⟩) := by simpa using hp
  have hl : (loadVar 32 ⟨b, 0, none⟩).run Try.prog w = .ok (.agg cs) w := by
    rw [← hr]; exact Dg.run_loadVar_rowOf w b 32 32 _ Try.underlying32 rfl (zero_of_info Dg.Z32_info).2 (by omega) (by rw [hr]; exact hs)
  simp [results, h, hp', asAddr, hl]
theorem fits35 {w : World} {b : Nat} (h : w.heap[b]? = some (.cells Dg.Z32 32)) : Dg.fits w b 32 = true := by unfold Dg.fits; rw [h]; simp
set_option maxRecDepth 20000 in
set_option maxHeartbeats 2000000 in
theorem hash_any (T : Tr) (lo hi : Nat) (cs : List Value) (w : World) (hL : Lies lo hi w T cs) (hW : wt T ≤ 3000) (hhi : hi ≤ w.heap.size) :
    Calls Try.prog 6 #[.agg cs.toArray] w (HashA T w) := by
  obtain ⟨kt, xt, at0, nt, ct, bt, mt, dt, et, pt, qt, rfl⟩ := hL.form
  have HC1 := hide (fun W (h : Below w.heap.size w W) => check_any T lo hi _ W (hL.kept h hhi) (by omega) (by have := h.size; omega))
  have HL := hide hL
  obtain ⟨wA, hwA⟩ : ∃ wA, wA = (w.alloc (.cells #[.int .i64 kt, .bool xt, .slice at0 nt ct, .slice bt mt dt, .slice et pt qt] 26)).alloc (.cells Dg.Z32 32) := ⟨_, rfl⟩
  have hbA : Below w.heap.size w wA := by rw [hwA]; exact ((Below.refl _ _).alloc (Nat.le_refl _) _).alloc (by simp) _
  have hsA : wA.heap.size = w.heap.size + 2 := by rw [hwA]; simp
  have hbx : Bx wA w.heap.size (.int .i64 kt) (.bool xt) (.slice at0 nt ct) (.slice bt mt dt) (.slice et pt qt) := by
    rw [hwA]; exact (bx_new _ _ _ _ _ _).kept ((Below.refl (w.heap.size + 1) _).alloc (by simp) _) (by omega)
  have hry : wA.heap[w.heap.size + 1]? = some (.cells Dg.Z32 32) := by
    rw [hwA]
    show (Array.push _ _)[w.heap.size + 1]? = _
    rw [Array.getElem?_push]
    simp
  have HA := hide (And.intro hbA (And.intro hsA (And.intro hbx hry)))
  have HwA := hide hwA
  have HWH := hide (And.intro hW hhi)
  clear hL hwA hbA hsA hbx hry hW hhi
  go_enter Try.func6, Try.ntmps6
  go_wp2_with fail
  rw [← unhide HwA]
  refine (unhide HC1 wA (unhide HA).1).mono ?_
  rintro e w1 ⟨rfl, hb1⟩
  have hs1 := hb1.size
  have hs0 := (unhide HA).2.1
  have HA1 := hide (And.intro ((unhide HA).1.trans (hb1.mono (by omega))) (And.intro ((unhide HA).2.2.1.kept hb1 (by omega)) (show w1.heap[w.heap.size + 1]? = some (.cells Dg.Z32 32) by rw [hb1.block _ (by omega)]; exact (unhide HA).2.2.2)))
  clear HC1 HwA hb1 HA
  by_cases hc1 : (chk T 1 0).1 = 0
  case neg =>
    have hn1 := ne0 hc1
    have hfr : Dg.fits w1 (w.heap.size + 1) 32 = true := fits35 (unhide HA1).2.2
    have hon : Dg.ones Dg.Z32 = true := by simp [Dg.Z32]
    have HZ : Hid (HashA T w (.returned (.tuple #[.agg Dg.Z32, .int .i64 0, .int .i64 (((chk T 1 0).1 : Nat) : Int)])) (w1.setRow (w.heap.size + 1) Dg.Z32)) := by
      refine ⟨Dg.below_setRow (unhide HA1).1 (by omega) _, ?_⟩
      unfold hashE encS; rw [if_neg hc1, if_neg hc1]; rfl
    clear hc1
    generalize (chk T 1 0).1 = c1 at *
    go_wp2_with fail
    exact bodyPost_ret (res35_three Try.results6 rfl (Dg.rowOf_setRow_at _ _ 32 _ hfr) (by simp) rfl rfl) rfl (unhide HZ)
  case pos =>
  have HN := hide (chk_nice T hc1)
  have HF : Hid (encS T = narB T) := by show _ = _; unfold encS; rw [if_pos hc1]
  have Hc := hide hc1
  rw [hc1]
  clear hc1
  obtain ⟨y0, y1, y2, y3, y4⟩ := (unhide HA1).2.1.cells
  have hlt1 : w.heap.size < w1.heap.size := by omega
  go_wp2_with fail
  refine (Dg.new_any _).mono ?_
  rintro e w2 ⟨rfl, hw2⟩
  have hs2 : w2.heap.size = w1.heap.size + 1 := by rw [hw2]; simp
  have hb12 : Below w1.heap.size w1 w2 := by rw [hw2]; exact (Below.refl _ _).alloc (Nat.le_refl _) _
  have hk2 : Dg.Kept w2 w1.heap.size [] (Dg.zs 32) := by
    rw [hw2]
    exact ⟨Dg.zs 8, Dg.zs 64, ⟨by show (w1.heap.push _)[w1.heap.size]? = _; rw [Array.getElem?_push, if_pos rfl]; rfl, by simp [Dg.zs], by simp [Dg.zs], by simp [Dg.zs]⟩, fun h => by simp at h, by simp⟩
  have HA2 := hide (And.intro ((unhide HA1).1.trans (hb12.mono (by omega))) (And.intro ((unhide HA1).2.1.kept hb12 hlt1) (And.intro (show w2.heap[w.heap.size + 1]? = some (.cells Dg.Z32 32) by rw [hb12.block _ (by omega)]; exact (unhide HA1).2.2) hk2)))
  clear y0 y1 y2 y3 y4 hw2 hb12 hk2 HA1
  obtain ⟨y0, y1, y2, y3, y4⟩ := (unhide HA2).2.1.cells
  have hlt2 : w.heap.size < w2.heap.size := by omega
  go_wp2_with fail
  obtain ⟨wB, hwB⟩ : ∃ wB, wB = w2.alloc (.cells #[.pointer (some ⟨w1.heap.size, 0, none⟩)] 43) := ⟨_, rfl⟩
  have hbB : Below w2.heap.size w2 wB := by rw [hwB]; exact (Below.refl _ _).alloc (Nat.le_refl _) _
  have hsB : wB.heap.size = w1.heap.size + 2 := by rw [hwB]; simp [hs2]
  have hcB : wB.cell? ⟨w1.heap.size + 1, 0, none⟩ = some (.pointer (some ⟨w1.heap.size, 0, none⟩)) := by
    rw [← hs2, hwB]
    rw [cell_of_row _ _ _ #[.pointer (some ⟨w1.heap.size, 0, none⟩)] 43 (0, 0) (by show (w2.heap.push _)[w2.heap.size]? = _; rw [Array.getElem?_push, if_pos rfl])]
    rfl
  have hkB : Dg.Kept wB w1.heap.size [] (Dg.zs 32) := by
    obtain ⟨st, rest, hh, h1⟩ := (unhide HA2).2.2.2
    exact ⟨st, rest, ⟨by rw [hbB.block _ (by omega)]; exact hh.1, hh.2⟩, h1⟩
  have hHas : HasD (HKd (w1.heap.size + 1)) w1.heap.size wB (.slice none 0 0) [] := hasD_of (by omega) ⟨hkB, hcB, by omega, by omega⟩
  have HG := hide (dwriteTree_any (sinkH (w1.heap.size + 1)) w1.heap.size T lo hi _ wB (.slice none 0 0) [] ((unhide HL).kept ((unhide HA2).1.trans (hbB.mono (by omega))) (unhide HWH).2) (by have := (unhide HWH).2; omega) hHas (unhide HN) (unhide HWH).1 (by simp))
  have HBB := hide (And.intro ((unhide HA2).1.trans (hbB.mono (by omega))) (show wB.heap[w.heap.size + 1]? = some (.cells Dg.Z32 32) by rw [hbB.block _ (by omega)]; exact (unhide HA2).2.2.1))
  rw [← hwB]
  clear hwB hcB hHas hbB hkB HA2 y0 y1 y2 y3 y4
  refine (unhide HG).mono ?_
  rintro e w3 ⟨rfl, v3, hg3, hH3⟩
  obtain ⟨_, rfl, _, hk3, hp3, _, hlt3⟩ := hH3
  rw [List.nil_append] at hk3
  have hs3 := hg3.size
  have hr3 : w3.heap[w.heap.size + 1]? = some (.cells Dg.Z32 32) := by
    rw [hg3.keep _ (by omega) (by omega) (by simp [Value.ownBlock])]; exact (unhide HBB).2
  have hb3 : Below w.heap.size w w3 := by
    have hB := (unhide HBB).1
    have hz := hB.size
    exact ⟨hg3.os.trans hB.os, hg3.tape.trans hB.tape, hg3.output.trans hB.output, by omega, fun k hk => by rw [hg3.keep k (by omega) (by omega) (by simp [Value.ownBlock])]; exact hB.block k hk⟩
  have hlen := nodeB_len T
  have hl24 : (txs [wMagic]).length = 24 := by decide
  have HLN : Hid ((narB T).length ≤ 1000000) := by have := (unhide HWH).1; unfold narB; rw [List.length_append]; exact (show _ ≤ _ by omega)
  have HK3 := hide (And.intro hk3 (And.intro hb3 hlt3))
  clear hlen hl24 HG hg3 hk3 hb3 HBB
  go_wp2_with fail
  refine wp_region_noPanic ?_
  refine wp_region_held_drew (S := fun w' => w'.cell? ⟨w1.heap.size + 1, 0, none⟩ = some (.pointer (some ⟨w1.heap.size, 0, none⟩)) ∧ Dg.fits w' (w.heap.size + 1) 32 = true) (by kernel_rfl) ⟨hp3, fits35 hr3⟩ (fun hHeld => ?_)
  refine wpAnyH_take (i := 0) (v := .pointer (some ⟨w1.heap.size, 0, none⟩)) rfl (by kernel_rfl) (by kernel_rfl) (by kernel_rfl) (fun _ _ _ h => h) (Or.inl ⟨by rfl, ?_⟩) hHeld ?_
  · intro w' hS'; have hq := hS'.1; go_simp
  try simp only [Act.put, List.getElem_toArray, List.getElem_cons_zero, List.getElem_cons_succ, List.setIfInBounds_toArray, List.set_cons_zero, List.set_cons_succ]
  refine wpAnyH_take (i := 2) (v := .pointer (some ⟨w1.heap.size, 0, none⟩)) rfl (by kernel_rfl) (by kernel_rfl) (by kernel_rfl) (fun _ _ _ h => h) (Or.inl ⟨by rfl, ?_⟩) hHeld ?_
  · intro w' hS'; have hq := hS'.1; go_simp
  try simp only [Act.put, List.getElem_toArray, List.getElem_cons_zero, List.getElem_cons_succ, List.setIfInBounds_toArray, List.set_cons_zero, List.set_cons_succ]
  refine wpAnyH_ready (rs := [1]) (by kernel_rfl) (by simp) (AllReadyH.cons rfl (fun K hK => ?_) AllReadyH.nil)
  simp only [List.getElem_toArray, List.getElem_cons_zero, List.getElem_cons_succ]
  go_simp
  refine (Dg.hsum_first w1.heap.size (nats (narB T)) (Dg.zs 32) w3.drew (unhide HK3).1 (nats_bytes _) (by rw [nats_length]; have := unhide HLN; omega)).mono ?_
  rintro e w4 ⟨rfl, ht4, hs4'⟩
  have hs4 : Sole w1.heap.size w3 w4 := by have h := sole_dg hs4'; exact ⟨h.1, h.2, h.3, h.4, h.5⟩
  have hz4 := hs4.size
  have hp4 : w4.cell? ⟨w1.heap.size + 1, 0, none⟩ = some (.pointer (some ⟨w1.heap.size, 0, none⟩)) := by
    rw [World.cell?_of_block (w := w3) (a := ⟨w1.heap.size + 1, 0, none⟩) (hs4.block _ (cell_lt hp3) (by omega))]; exact hp3
  have hr4 : w4.heap[w.heap.size + 1]? = some (.cells Dg.Z32 32) := by rw [hs4.block _ (by omega) (by omega)]; exact hr3
  have hn4 : w4.cell? ⟨w1.heap.size, 72, none⟩ = some (.int .i64 (((narB T).length : Nat) : Int)) := by
    obtain ⟨st, rest, hh⟩ := ht4
    have := hh.size
    rw [nats_length] at this
    exact this
  have HB4 := hide ((unhide HK3).2.1.trans (hs4.below (by omega) (by omega)))
  clear hs4 hs4' ht4
  refine hK.out _ _ ⟨hp4, fits35 hr4⟩ (fun hHeld => ?_)
  clear hK K
  try simp only [Act.put, List.getElem_toArray, List.getElem_cons_zero, List.getElem_cons_succ, List.setIfInBounds_toArray, List.set_cons_zero, List.set_cons_succ]
  refine wpAnyH_ready (rs := [3]) (by kernel_rfl) (by simp) (AllReadyH.cons rfl (fun K hK => ?_) AllReadyH.nil)
  simp only [List.getElem_toArray, List.getElem_cons_zero, List.getElem_cons_succ]
  go_simp
  refine (Dg.hlen_any w1.heap.size (narB T).length w4 hn4).mono ?_
  rintro e w5 ⟨rfl, rfl⟩
  refine hK.out _ _ ⟨hp4, fits35 hr4⟩ (fun hHeld => ?_)
  clear hK K
  try simp only [Act.put, List.getElem_toArray, List.getElem_cons_zero, List.getElem_cons_succ, List.setIfInBounds_toArray, List.set_cons_zero, List.set_cons_succ]
  refine wpAnyH_ready (rs := [4]) (by kernel_rfl) (by simp) (AllReadyH.cons rfl (fun K hK => ?_) AllReadyH.nil)
  simp only [List.getElem_toArray, List.getElem_cons_zero, List.getElem_cons_succ]
  have hfr := fits35 hr4
  have hon : Dg.ones (Dg.E8 (Dg.Sha.sum (nats (narB T)))) = true := by simp
  have hsz : (Dg.E8 (Dg.Sha.sum (nats (narB T)))).size = 32 := by have h : (Dg.Sha.sum (nats (narB T))).length = 32 := Dg.Sha.sumBehind_length _ _ _; simp [h]
  go_simp
  have hp5 : (w5.setRow (w.heap.size + 1) (Dg.E8 (Dg.Sha.sum (nats (narB T))))).cell? ⟨w1.heap.size + 1, 0, none⟩ = some (.pointer (some ⟨w1.heap.size, 0, none⟩)) := by
    rw [World.cell?_of_block (w := w5) (a := ⟨w1.heap.size + 1, 0, none⟩) (setRow_other _ _ _ _ (show w1.heap.size + 1 ≠ w.heap.size + 1 by omega))]; exact hp4
  have hf5 : Dg.fits (w5.setRow (w.heap.size + 1) (Dg.E8 (Dg.Sha.sum (nats (narB T))))) (w.heap.size + 1) 32 = true := by
    unfold Dg.fits; rw [setRow_heap w5 _ _ _ 32 _ hr4]; simp [hsz]
  refine hK.out _ _ ⟨hp5, hf5⟩ (fun hHeld => ?_)
  clear hK K
  try simp only [Act.put, List.getElem_toArray, List.getElem_cons_zero, List.getElem_cons_succ, List.setIfInBounds_toArray, List.set_cons_zero, List.set_cons_succ]
  refine wpAnyH_take (i := 5) (v := .int .i64 (((narB T).length : Nat) : Int)) rfl (by kernel_rfl) (by kernel_rfl) (by kernel_rfl) (fun _ _ _ h => h) (Or.inl ⟨by rfl, ?_⟩) hHeld ?_
  · intro w' hS'; go_simp
  try simp only [Act.put, List.getElem_toArray, List.getElem_cons_zero, List.getElem_cons_succ, List.setIfInBounds_toArray, List.set_cons_zero, List.set_cons_succ]
  refine wpAnyH_take (i := 6) (v := .int .i64 0) rfl (by kernel_rfl) (by kernel_rfl) (by kernel_rfl) (fun _ _ _ h => h) (Or.inl ⟨by rfl, ?_⟩) hHeld ?_
  · intro w' hS'; go_simp
  try simp only [Act.put, List.getElem_toArray, List.getElem_cons_zero, List.getElem_cons_succ, List.setIfInBounds_toArray, List.set_cons_zero, List.set_cons_succ]
  refine wpAnyH_done (by kernel_rfl) ?_ _
  refine NoPanic.normal ?_
  clear hHeld
  have HZ : Hid (HashA T w (.returned (.tuple #[.agg (Dg.E8 (Dg.Sha.sum (nats (narB T)))), .int .i64 (((narB T).length : Nat) : Int), .int .i64 0])) (w5.setRow (w.heap.size + 1) (Dg.E8 (Dg.Sha.sum (nats (narB T)))))) := by
    refine ⟨Dg.below_setRow (unhide HB4) (by omega) _, ?_⟩
    unfold hashE; rw [if_pos (unhide Hc), unhide HF, unhide Hc]; rfl
  go_wp2_with fail
  exact bodyPost_ret (res35_three Try.results6 rfl (Dg.rowOf_setRow_at _ _ 32 _ hfr) hsz rfl rfl) rfl (unhide HZ)
end Go.Proofs.Ytikamklgelcnhab
