/- Files, in the code. -/
import Derived.Test.YthfjofmfiklegaaDoorGath
import Derived.Test.YthfjofmfiklegaaDoorSort
import Derived.Test.YthfjofmfiklegaaDoorPut
namespace Go.Proofs.YthfjofmfiklegaaDoor
open Go.RowKit
/-- The places of all files, rising. -/
noncomputable def filesS (T : Tr) : List ByteArray := if (chk T 1 0).1 = 0 then sortB (filesL T ⟨#[]⟩) else []
theorem Gt.below {c : Nat} {w w' : World} {v v' : Value} (h : Gt c w w' v v') {B : Nat} (hB : B ≤ c) (hc : c ≤ w.heap.size) (hv : ∀ g, v.ownBlock = some g → B ≤ g) : Below B w w' :=
  ⟨h.os, h.tape, h.output, h.size, fun k hk => h.keep k (by omega) (by omega) (fun e => by have := hv k e; omega)⟩
set_option maxRecDepth 20000 in
set_option maxHeartbeats 1000000 in
theorem files_any (T : Tr) (lo hi : Nat) (cs : List Value) (w : World) (hL : Lies lo hi w T cs) (hW : wt T ≤ 100000) (hhi : hi ≤ w.heap.size) :
    Calls Tryd.prog 18 #[.agg cs.toArray] w fun e w' => Below w.heap.size w w' ∧ ∃ a c, e = .returned (.slice a (filesS T).length c) ∧ Row w.heap.size w'.heap.size w' (.slice a (filesS T).length c) (filesS T).length ((filesS T).map .string) := by
  obtain ⟨kt, xt, at0, nt, ct, bt, mt, dt, et, pt, qt, rfl⟩ := hL.form
  have HC1 := hide (fun W (h : Below w.heap.size w W) => check_any T lo hi _ W (hL.kept h hhi) hW (by have := h.size; omega))
  have HL := hide hL
  obtain ⟨wA, hwA⟩ : ∃ wA, wA = w.alloc (.cells #[.int .i64 kt, .bool xt, .slice at0 nt ct, .slice bt mt dt, .slice et pt qt] 26) := ⟨_, rfl⟩
  have hbA : Below w.heap.size w wA := by rw [hwA]; exact (Below.refl _ _).alloc (Nat.le_refl _) _
  have hsA : wA.heap.size = w.heap.size + 1 := by rw [hwA]; simp
  have hbx : Bx wA w.heap.size (.int .i64 kt) (.bool xt) (.slice at0 nt ct) (.slice bt mt dt) (.slice et pt qt) := by rw [hwA]; exact bx_new _ _ _ _ _ _
  have HA := hide (And.intro hbA (And.intro hsA hbx))
  have HwA := hide hwA
  have HF : Hid (filesS T = if (chk T 1 0).1 = 0 then sortB (filesL T ⟨#[]⟩) else []) := rfl
  clear hL hwA hbA hsA hbx
  go_enter Tryd.func18, Tryd.ntmps18
  go_wp2_with fail
  rw [← unhide HwA]
  refine (unhide HC1 wA (unhide HA).1).mono ?_
  rintro e w1 ⟨rfl, hb1⟩
  have hs1 := hb1.size
  have HA1 := hide (And.intro ((unhide HA).1.trans (hb1.mono (by have := (unhide HA).2.1; omega))) ((unhide HA).2.2.kept hb1 (by have := (unhide HA).2.1; omega)))
  have hs0 := (unhide HA).2.1
  clear HC1 HwA hb1 HA
  by_cases hc1 : (chk T 1 0).1 = 0
  case neg =>
    have hn1 := ne0 hc1
    rw [if_neg hc1] at HF
    clear hc1
    generalize (chk T 1 0).1 = c1 at *
    go_wp2_with fail
    rw [unhide HF]
    refine bodyPost_ret (v := .slice none 0 0) (by simp [results, Tryd.results18, go_sem]) rfl ⟨(unhide HA1).1, none, 0, rfl, none, 0, rfl, Nat.le_refl _, fun h => absurd h (Nat.lt_irrefl _)⟩
  case pos =>
  have HN := hide (chk_nice T hc1).ev
  rw [if_pos hc1] at HF
  rw [hc1]
  clear hc1
  obtain ⟨y0, y1, y2, y3, y4⟩ := (unhide HA1).2.cells
  have hlt1 : w.heap.size < w1.heap.size := by omega
  go_wp2_with fail
  obtain ⟨wB, hwB⟩ : ∃ wB, wB = w1.alloc (.cells #[.slice none 0 0] 23) := ⟨_, rfl⟩
  have hbB : Below w1.heap.size w1 wB := by rw [hwB]; exact (Below.refl _ _).alloc (Nat.le_refl _) _
  have hsB : wB.heap.size = w1.heap.size + 1 := by rw [hwB]; simp
  have hcB : wB.heap[w1.heap.size]? = some (.cells #[.slice none 0 0] 23) := by
    rw [hwB]
    show (w1.heap.push _)[w1.heap.size]? = _
    rw [Array.getElem?_push, if_pos rfl]
  rw [← hwB]
  clear hwB
  have HG := hide (gather_any T lo hi _ wB w1.heap.size ⟨#[]⟩ none 0 [] ((unhide HL).kept ((unhide HA1).1.trans (hbB.mono (by omega))) hhi) (by omega) (unhide HN) hW (by show 0 + _ ≤ _; omega) (by simp; omega) ⟨by rw [cell_of_row _ _ _ _ _ _ hcB]; rfl, by unfold World.frozen?; rw [hcB]; simp⟩ ⟨by simp, .inl ⟨rfl, rfl⟩⟩)
  refine (unhide HG).mono ?_
  rintro e w2 ⟨rfl, a2, c2, hG2, hC2, hO2⟩
  rw [List.nil_append] at hG2 hC2 hO2
  have hs2 := hG2.size
  have HB2 := hide ((unhide HA1).1.trans ((hbB.mono (by omega)).trans (hG2.below (B := w.heap.size) (by omega) (by omega) (fun g hg => by simp [Value.ownBlock] at hg))))
  have hcc := hC2.cell
  have HS := hide (sort_any (w1.heap.size + 1) a2 c2 (filesL T ⟨#[]⟩) w2 hO2 (by omega) (by have := filesL_len T ⟨#[]⟩; omega))
  have HLen := hide (sortB_length (filesL T ⟨#[]⟩))
  clear HG hG2 hO2 y0 y1 y2 y3 y4 hcB hbB
  generalize hfl : filesL T ⟨#[]⟩ = fl at *
  clear hfl
  go_wp2_with fail
  refine (unhide HS).mono ?_
  rintro e w3 ⟨rfl, hR3, hb3⟩
  have hcc3 : w3.cell? ⟨w1.heap.size, 0, none⟩ = some (.slice a2 fl.length c2) := by rw [hb3.cell (p := ⟨w1.heap.size, 0, none⟩) (by show w1.heap.size < _; omega)]; exact hcc
  have HR3 := hide (And.intro hR3 hb3)
  have hs3 := hb3.size
  clear hR3 hb3 hcc HS
  go_wp2_with fail
  rw [unhide HF]
  refine bodyPost_ret (v := .slice a2 fl.length c2) (by simp [results, Tryd.results18, go_sem]) rfl ⟨(unhide HB2).trans ((unhide HR3).2.mono (by omega)), a2, c2, by rw [unhide HLen], ?_⟩
  rw [unhide HLen]
  exact (unhide HR3).1.mono (by omega) (Nat.le_refl _)
end Go.Proofs.YthfjofmfiklegaaDoor
