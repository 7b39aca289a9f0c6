/- The law's own helpers: heavy, same, known. -/
import Derived.Test.YtikamklgelcnhabK6
import Derived.Test.YtikamklgelcnhabK4
import Derived.Lib.SlBytesConst
namespace Go.Proofs.Ytikamklgelcnhab
open Go.RowKit
set_option linter.unusedSimpArgs false
set_option maxRecDepth 20000 in
set_option maxHeartbeats 1000000 in
theorem heavy_any (T : Tr) (lo hi : Nat) (cs : List Value) (w : World) (hL : Lies lo hi w T cs) (hF : Fit T) (hhi : hi ≤ w.heap.size) :
    Calls Try.prog 4 #[.agg cs.toArray] w fun e w' => Below w.heap.size w w' ∧ (e = .returned (.bool true) ∨ (e = .returned (.bool false) ∧ wt T ≤ 3000)) := by
  obtain ⟨kt, xt, at0, nt, ct, bt, mt, dt, et, pt, qt, rfl⟩ := hL.form
  obtain ⟨wA, hwA⟩ : ∃ wA, wA = (w.alloc (.cells #[.int .i64 kt, .bool xt, .slice at0 nt ct, .slice bt mt dt, .slice et pt qt] 26)).alloc (.cells #[.int .i64 0] 3) := ⟨_, rfl⟩
  have hbA : Below w.heap.size w wA := by rw [hwA]; exact ((Below.refl _ _).alloc (Nat.le_refl _) _).alloc (by simp) _
  have hsA : wA.heap.size = w.heap.size + 1 + 1 := by rw [hwA]; simp
  have hC : Ctr wA (w.heap.size + 1) (.int .i64 ((0 : Nat) : Int)) := by rw [hwA]; exact ⟨by simp [go_sem], by simp [go_sem]⟩
  have HG := hide (great_any T lo hi _ wA (w.heap.size + 1) 0 (hL.kept hbA hhi) hF hC (by omega) (by omega))
  have HB := hide hbA
  have HwA := hide hwA
  clear hL hF hC hbA hwA
  go_enter Try.func4, Try.ntmps4
  go_wp2_with fail
  rw [← unhide HwA]
  refine (unhide HG).mono ?_
  rintro e w1 ⟨hs, hans⟩
  have HB1 := hide ((unhide HB).trans (hs.below (show w.heap.size ≤ w.heap.size + 1 by omega) (by omega)))
  rcases hans with rfl | ⟨rfl, h1, _⟩
  · go_wp2_with fail
    go_ret
    exact ⟨unhide HB1, .inl rfl⟩
  · go_wp2_with fail
    go_ret
    exact ⟨unhide HB1, .inr ⟨rfl, by omega⟩⟩
theorem row_byte {lo hi : Nat} {w : World} {a : Option Addr} {n c : Nat} {xs : List UInt8} (h : Row lo hi w (.slice a n c) n (bv xs)) (hn : xs.length = n) (i : Nat) (hi' : i < n) : ∃ g o, a = some ⟨g, o, none⟩ ∧ w.cell? ⟨g, o + i, none⟩ = some (.int .u8 ((xs.getD i 0).toNat : Int)) := by
  obtain ⟨g, o, rfl, _, _, hcell⟩ := h.at (by omega)
  exact ⟨g, o, rfl, hcell i _ (by unfold bv; rw [List.getElem?_map, List.getElem?_eq_getElem (show i < xs.length by omega), List.getD_eq_getElem?_getD, List.getElem?_eq_getElem (show i < xs.length by omega)]; rfl)⟩
theorem bytes_eq_of {xs ys : List UInt8} (hl : xs.length = ys.length) (h : ∀ j, j < xs.length → xs.getD j 0 = ys.getD j 0) : xs = ys := by
  apply List.ext_getElem hl
  intro i h1 h2
  have := h i h1
  rw [List.getD_eq_getElem?_getD, List.getD_eq_getElem?_getD, List.getElem?_eq_getElem h1, List.getElem?_eq_getElem h2] at this
  exact this
def knownT : Tr := .mk 1 false ⟨#[97]⟩ [] []
theorem chk_known : (chk knownT 1 0).1 = 0 := by
  unfold knownT
  have h : locErr 1 false (⟨#[97]⟩ : ByteArray).size [] ([] : List Tr).length = 0 := (loc_file (x := false) (d := 1) (nk := 0) (ns := []) rfl rfl).trans rfl
  rw [chk, if_neg (by omega), if_pos h, chks]
theorem enc_known : (encS knownT).length = 120 := by
  unfold encS
  rw [if_pos chk_known]
  unfold narB knownT
  rw [nodeB, if_pos rfl]
  decide
set_option maxRecDepth 20000 in
set_option maxHeartbeats 1000000 in
theorem known_any (w : World) : Calls Try.prog 7 #[] w fun e w' => e = .returned (.bool true) ∧ Below w.heap.size w w' := by
  obtain ⟨wA, hwA⟩ : ∃ wA, wA = w.alloc (.cells #[.int .u8 97] 5 (1, 2)) := ⟨_, rfl⟩
  have hb : Below w.heap.size w wA := by rw [hwA]; exact (Below.refl _ _).alloc (Nat.le_refl _) _
  have hsA : wA.heap.size = w.heap.size + 1 := by rw [hwA]; simp
  have hc : wA.heap[w.heap.size]? = some (.cells #[.int .u8 97] 5 (1, 2)) := by
    rw [hwA]
    show (w.heap.push _)[w.heap.size]? = _
    rw [Array.getElem?_push, if_pos rfl]
  have h0 : ∀ n, n = 0 → ∀ xs, Row w.heap.size (w.heap.size + 1) wA (.slice none 0 0) n xs := fun n hn xs => by subst hn; exact ⟨none, 0, rfl, Nat.le_refl _, fun h => absurd h (by simp)⟩
  have hL : Lies w.heap.size (w.heap.size + 1) wA knownT [.int .i64 1, .bool false, .slice (some ⟨w.heap.size, 0, none⟩) 1 1, .slice none 0 0, .slice none 0 0] := by
    refine .mk 1 false ⟨#[97]⟩ [] [] _ _ _ [] rfl ⟨_, 1, rfl, Nat.le_refl _, fun _ => ⟨w.heap.size, 0, rfl, Nat.le_refl _, by omega, fun j u hj => ?_⟩⟩ (h0 _ rfl _) (h0 _ rfl _) (fun i t c h1 _ => by simp at h1)
    rw [cell_of_row _ _ _ _ _ _ hc, Nat.zero_add]
    rw [← Array.getElem?_toList]
    exact hj
  have hcv := Lib.run_convert_bytes_const w 22 5 #[.int .u8 97] 1 1 Try.underlying22 Try.underlying5
  have HwA := hide hwA
  have HE := hide (encode_any knownT _ _ _ _ hL (by unfold knownT; rw [wt]; simp [tenths, wts, ByteArray.size]) (by omega))
  have HB := hide hb
  clear hb h0 hL hc hwA
  go_enter Try.func7, Try.ntmps7
  go_wp2_with fail
  clear hcv
  rw [← unhide HwA]
  refine (unhide HE).mono ?_
  rintro e w2 ⟨hb2, a2, c2, he, hr2⟩
  rw [enc_known, chk_known] at he
  subst he
  have HB2 := hide ((unhide HB).trans (hb2.mono (by omega)))
  clear hb2 hr2 HE
  go_wp2_with fail
  go_ret
  exact ⟨rfl, unhide HB2⟩
end Go.Proofs.Ytikamklgelcnhab
