/- The document's own Hash. -/
import Derived.Test.YtikamklgelcnhaaHsh
import Derived.Test.YtikamklgelcnhaaK9
import Derived.Test.YtikamklgelcnhaaK2
namespace Go.Proofs.Ytikamklgelcnhaa
open Go.RowKit Go.Great
set_option linter.unusedSimpArgs false
theorem narB_len {T : Tr} (h : wt T ≤ 3000) : (narB T).length ≤ 950000 := by
  have hlen := nodeB_len T
  have hl24 : (txs [wMagic]).length = 24 := by decide
  unfold narB; rw [List.length_append]; omega
set_option maxRecDepth 20000 in
set_option maxHeartbeats 2000000 in
theorem rhash_any (T : Tr) (lo hi : Nat) (cs : List Value) (w : World) (hL : Lies lo hi w T cs) (hW : wt T ≤ 3000) (hhi : hi ≤ w.heap.size) :
    Calls Try.prog 14 #[.agg cs.toArray] w (HashA T w) := by
  obtain ⟨kt, xt, at0, nt, ct, bt, mt, dt, et, pt, qt, rfl⟩ := hL.form
  have HC1 := hide (fun W (h : Below w.heap.size w W) => eencode_any T lo hi _ W (hL.kept h hhi) hW (by have := h.size; omega))
  obtain ⟨wA, hwA⟩ : ∃ wA, wA = (w.alloc (.cells #[.int .i64 kt, .bool xt, .slice at0 nt ct, .slice bt mt dt, .slice et pt qt] 26)).alloc (.cells Dg.Z35 35) := ⟨_, rfl⟩
  have hbA : Below w.heap.size w wA := by rw [hwA]; exact ((Below.refl _ _).alloc (Nat.le_refl _) _).alloc (by simp) _
  have hsA : wA.heap.size = w.heap.size + 2 := by rw [hwA]; simp
  have hry : wA.heap[w.heap.size + 1]? = some (.cells Dg.Z35 35) := by
    rw [hwA]
    show (Array.push _ _)[w.heap.size + 1]? = _
    rw [Array.getElem?_push]
    simp
  have HA := hide (And.intro hbA (And.intro hsA hry))
  have HwA := hide hwA
  have HWH := hide (narB_len hW)
  clear hL hwA hbA hsA hry hW hhi
  go_enter Try.func14, Try.ntmps14
  go_wp2_with fail
  rw [← unhide HwA]
  refine (unhide HC1 wA (unhide HA).1).mono ?_
  rintro e w1 ⟨hb1, a1, c1, rfl, hr1⟩
  have hs1 := hb1.size
  have hs0 := (unhide HA).2.1
  have HA1 := hide (And.intro ((unhide HA).1.trans (hb1.mono (by omega))) (And.intro hr1 (show w1.heap[w.heap.size + 1]? = some (.cells Dg.Z35 35) by rw [hb1.block _ (by omega)]; exact (unhide HA).2.2)))
  clear HC1 HwA hb1 HA hr1
  by_cases hc1 : (chk T 1 0).1 = 0
  case neg =>
    have hn1 := ne0 hc1
    have hfr : Dg.fits w1 (w.heap.size + 1) 32 = true := fits35 (unhide HA1).2.2
    have hon : Dg.ones Dg.Z35 = true := by simp [Dg.Z35]
    have HZ : Hid (HashA T w (.returned (.tuple #[.agg Dg.Z35, .int .i64 0, .int .i64 (((chk T 1 0).1 : Nat) : Int)])) (w1.setRow (w.heap.size + 1) Dg.Z35)) := by
      refine ⟨Dg.below_setRow (unhide HA1).1 (by omega) _, ?_⟩
      unfold hashE encS; rw [if_neg hc1, if_neg hc1]; rfl
    clear hc1 HA1
    generalize (chk T 1 0).1 = c1 at *
    generalize (encS T).length = nn at *
    go_wp2_with fail
    exact bodyPost_ret (res35_three Try.results14 rfl (Dg.rowOf_setRow_at _ _ 32 _ hfr) (by simp) rfl rfl) rfl (unhide HZ)
  case pos =>
  have hF : encS T = narB T := by unfold encS; rw [if_pos hc1]
  have HF := hide hF
  have Hc := hide hc1
  rw [hc1, hF]
  have HS := hide (fun (W : World) (h : Below w1.heap.size w1 W) => Dg.refSum_any a1 (narB T).length c1 (nats (narB T)) W (nats_length _) (row_bytes (by have := (unhide HA1).2.1; rw [hF] at this; exact this.below h (Nat.le_refl _)) rfl) (nats_bytes _) (unhide HWH))
  have hl : (Dg.Sha.sum (nats (narB T))).length = 32 := Dg.Sha.sumBehind_length _ _ _
  have HZ : Hid (∀ W : World, Below w.heap.size w W → HashA T w (.returned (.tuple #[.agg (Dg.E8 (Dg.Sha.sum (nats (narB T)))), .int .i64 (((narB T).length : Nat) : Int), .int .i64 0])) W) := by
    intro W h
    refine ⟨h, ?_⟩
    unfold hashE; rw [if_pos hc1, hF, hc1]; rfl
  have HA2 := hide (And.intro (unhide HA1).1 (unhide HA1).2.2)
  clear hc1 hF HF HA1 HWH
  generalize Dg.Sha.sum (nats (narB T)) = S at *
  generalize (narB T).length = nn at *
  go_wp2_with fail
  refine (unhide HS w1 (Below.refl _ _)).mono ?_
  rintro e w2 ⟨rfl, hb2⟩
  have hs2 := hb2.size
  have hr2 : w2.heap[w.heap.size + 1]? = some (.cells Dg.Z35 35) := by rw [hb2.block _ (by omega)]; exact (unhide HA2).2
  have hfr : Dg.fits w2 (w.heap.size + 1) 32 = true := fits35 hr2
  have hon : Dg.ones (Dg.E8 S) = true := by simp
  have hsz : (Dg.E8 S).size = 32 := by simp [hl]
  have HB := hide (unhide HZ _ (Dg.below_setRow ((unhide HA2).1.trans (hb2.mono (by omega))) (show w.heap.size ≤ w.heap.size + 1 by omega) (Dg.E8 S)))
  clear hb2 hr2 HS HA2 HZ
  go_wp2_with fail
  exact bodyPost_ret (res35_three Try.results14 rfl (Dg.rowOf_setRow_at _ _ 32 _ hfr) hsz rfl rfl) rfl (unhide HB)
end Go.Proofs.Ytikamklgelcnhaa
