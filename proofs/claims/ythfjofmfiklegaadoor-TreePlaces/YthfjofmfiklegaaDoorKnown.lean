/- known, in the code. -/
import Derived.Test.YthfjofmfiklegaaDoorKnownS
import Derived.Test.YthfjofmfiklegaaDoorTexts
import Derived.Lib.SlBytesConst
namespace Go.Proofs.YthfjofmfiklegaaDoor
open Go.RowKit
theorem zero_lies (lo hi : Nat) (w : World) : Lies lo hi w zeroTr [.int .i64 0, .bool false, .slice none 0 0, .slice none 0 0, .slice none 0 0] := by
  unfold zeroTr
  have h : ∀ n, n = 0 → ∀ xs, Row lo hi w (.slice none 0 0) n xs := fun n hn xs => by subst hn; exact ⟨none, 0, rfl, Nat.le_refl _, fun h => absurd h (Nat.lt_irrefl 0)⟩
  exact .mk 0 false ⟨#[]⟩ [] [] _ _ _ [] rfl (h _ rfl _) (h _ rfl _) (h _ rfl _) (fun i t c h1 _ => by simp at h1)
theorem fileX_lies (w : World) : Lies w.heap.size (w.heap.size + 1) (w.alloc (.cells #[.int .u8 120] 5 (1, 2))) fileX [.int .i64 1, .bool false, .slice (some ⟨w.heap.size, 0, none⟩) 1 1, .slice none 0 0, .slice none 0 0] := by
  unfold fileX
  have h : ∀ n, n = 0 → ∀ xs, Row w.heap.size (w.heap.size + 1) (w.alloc (.cells #[.int .u8 120] 5 (1, 2))) (.slice none 0 0) n xs := fun n hn xs => by subst hn; exact ⟨none, 0, rfl, Nat.le_refl _, fun h => absurd h (Nat.lt_irrefl 0)⟩
  have hc : (w.alloc (.cells #[.int .u8 120] 5 (1, 2))).heap[w.heap.size]? = some (.cells #[.int .u8 120] 5 (1, 2)) := by
    show (w.heap.push _)[w.heap.size]? = _
    rw [Array.getElem?_push, if_pos rfl]
  refine .mk 1 false ⟨#[120]⟩ [] [] _ _ _ [] rfl ⟨_, 1, rfl, Nat.le_refl _, fun _ => ⟨w.heap.size, 0, rfl, Nat.le_refl _, by omega, fun j u hj => ?_⟩⟩ (h _ rfl _) (h _ rfl _) (fun i t c h1 _ => by simp at h1)
  rw [cell_of_row _ _ _ _ _ _ hc, Nat.zero_add]
  rw [← Array.getElem?_toList]
  exact hj
set_option maxRecDepth 20000 in
set_option maxHeartbeats 1000000 in
theorem known_any (w : World) : Calls Tryd.prog 14 #[] w fun e w' => e = .returned (.bool true) ∧ Below w.heap.size w w' := by
  obtain ⟨wA, hwA⟩ : ∃ wA, wA = w.alloc (.cells #[.int .u8 120] 5 (1, 2)) := ⟨_, rfl⟩
  have hbA : Below w.heap.size w wA := by rw [hwA]; exact (Below.refl _ _).alloc (Nat.le_refl _) _
  have hsA : wA.heap.size = w.heap.size + 1 := by rw [hwA]; simp
  have HP := hide (put_any emptyDir fileX ⟨#[97, 47, 98]⟩ 0 0 w.heap.size (w.heap.size + 1) _ _ wA (empty_lies 0 0 wA) (by rw [hwA]; exact fileX_lies w) (Nat.zero_le _) (by omega) (by rw [wt_empty]; omega) (by rw [wt_fileX]; omega) (by show 3 ≤ _; omega))
  rw [put_known] at HP
  have hcv := Lib.run_convert_bytes_const w 22 5 #[.int .u8 120] 1 1 Tryd.underlying22 Tryd.underlying5
  have HwA := hide hwA
  have HA := hide hbA
  clear hwA hbA
  go_enter Tryd.func14, Tryd.ntmps14
  go_wp2_with fail
  clear hcv
  have hwA' := unhide HwA
  rw [← hwA']
  refine (unhide HP).mono ?_
  rintro e w1 ⟨hb1, hans⟩
  obtain ⟨cs', rfl, hO⟩ : ∃ cs : List Value, e = .returned (.tuple #[.agg cs.toArray, .int .i64 0]) ∧ Own w1 wA.heap.size w1.heap.size knownT cs := hans
  obtain ⟨q0, q1, f4, g4, h4, f5, g5, h5, f6, g6, h6, rfl⟩ := hO.lies.form
  have hs1 := hb1.size
  obtain ⟨w2, hw2⟩ : ∃ w2, w2 = w1.alloc (.cells #[.int .i64 q0, .bool q1, .slice f4 g4 h4, .slice f5 g5 h5, .slice f6 g6 h6] 26) := ⟨_, rfl⟩
  have hb2 : Below w1.heap.size w1 w2 := by rw [hw2]; exact (Below.refl _ _).alloc (Nat.le_refl _) _
  have hs2 : w2.heap.size = w1.heap.size + 1 := by rw [hw2]; simp
  have hbx2 : Bx w2 w1.heap.size (.int .i64 q0) (.bool q1) (.slice f4 g4 h4) (.slice f5 g5 h5) (.slice f6 g6 h6) := by rw [hw2]; exact bx_new _ _ _ _ _ _
  have HL2 := hide (hO.lies.kept hb2 (Nat.le_refl _))
  have HB2 := hide ((unhide HA).trans ((hb1.mono (by omega)).trans (hb2.mono (by omega))))
  have HF := hide (files_any knownT wA.heap.size w1.heap.size _ w2 (unhide HL2) (by rw [wt_known]; omega) (by omega))
  rw [files_known] at HF
  have Hw2 := hide hw2
  clear hO hb1 hb2 hw2 HP HwA
  go_wp2_with fail
  rw [← unhide Hw2]
  refine (unhide HF).mono ?_
  rintro e w3 ⟨hb3, a3, c3, rfl, hR3⟩
  have hs3 := hb3.size
  have e1 : ([⟨#[97, 47, 98]⟩] : List ByteArray).length = 1 := rfl
  rw [e1] at hR3 ⊢
  have HR3 := hide hR3
  have HB3 := hide hb3
  clear e1 hR3 hb3 HF Hw2
  go_wp2_with fail
  obtain ⟨w4, hw4⟩ : ∃ w4, w4 = w3.alloc (.cells #[.string ⟨#[97, 47, 98]⟩] 9) := ⟨_, rfl⟩
  have hb4 : Below w3.heap.size w3 w4 := by rw [hw4]; exact (Below.refl _ _).alloc (Nat.le_refl _) _
  have hs4 : w4.heap.size = w3.heap.size + 1 := by rw [hw4]; simp
  have HX := hide (texts_any w2.heap.size w3.heap.size w3.heap.size (w3.heap.size + 1) a3 (some ⟨w3.heap.size, 0, none⟩) 1 1 c3 1 [⟨#[97, 47, 98]⟩] [⟨#[97, 47, 98]⟩] w4 ((unhide HR3).below hb4 (Nat.le_refl _)) (by rw [hw4]; exact one_row w3 [.string ⟨#[97, 47, 98]⟩] 9) rfl rfl (by omega) (by omega))
  rw [← hw4]
  refine (unhide HX).mono ?_
  rintro e w5 ⟨⟨q, rfl⟩, rfl⟩
  have hd : decide (([⟨#[97, 47, 98]⟩] : List ByteArray) = [⟨#[97, 47, 98]⟩]) = true := decide_eq_true rfl
  rw [hd]
  obtain ⟨w6, hw6⟩ : ∃ w6, w6 = w4.drewN q := ⟨_, rfl⟩
  rw [← hw6]
  have hb6 : Below w2.heap.size w2 w6 := by rw [hw6]; exact below_drewN ((unhide HB3).trans (hb4.mono hs3)) q
  have hs6 := hb6.size
  have hbx6 := hbx2.kept hb6 (by omega)
  obtain ⟨y0, y1, y2, y3, y4⟩ := hbx6.cells
  have HC := hide (check_any knownT wA.heap.size w1.heap.size _ w6 ((unhide HL2).kept hb6 (by omega)) (by rw [wt_known]; omega) (by omega))
  rw [chk_known] at HC
  have HB6 := hide ((unhide HB2).trans (hb6.mono (by omega)))
  clear hd hw6 hw4 HX HR3 HB3 hb4 hb6
  go_wp2_with fail
  refine (unhide HC).mono ?_
  rintro e w7 ⟨rfl, hb7⟩
  have hs7 := hb7.size
  have HB7 := hide ((unhide HB6).trans (hb7.mono (by omega)))
  have HC2 := hide (check_any zeroTr 0 0 _ w7 (zero_lies 0 0 w7) (by rw [wt_zero]; omega) (Nat.zero_le _))
  rw [chk_zero] at HC2
  clear hb7 HC y0 y1 y2 y3 y4
  go_wp2_with fail
  refine (unhide HC2).mono ?_
  rintro e w8 ⟨rfl, hb8⟩
  go_wp2_with fail
  go_ret
  exact ⟨rfl, (unhide HB7).trans (hb8.mono (by omega))⟩
end Go.Proofs.YthfjofmfiklegaaDoor
