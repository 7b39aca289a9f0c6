/- Files, in the document's own answer. -/
import Derived.Test.YthfjofmfiklegaaDoorInsS
import Derived.Test.YthfjofmfiklegaaDoorWalk
import Derived.Test.YthfjofmfiklegaaDoorKp
namespace Go.Proofs.YthfjofmfiklegaaDoor
open Go.RowKit
theorem own_at' {w : World} {base : Nat} {e : TypeId} {size : Nat} {a : Option Addr} {n m c : Nat} {xs : List Value} (h : w.ownsRow base e size (.slice a n c) m xs) (h0 : 0 < m) : ∃ g, a = some ⟨g, 0, none⟩ := by
  rcases h.2 with ⟨h1, h2⟩ | ⟨g, cap, cur, h1, _⟩
  · simp at h1; omega
  · cases h1; exact ⟨g, rfl⟩
/-- What stands while the places are put in order. -/
structure SoW (w2 wr : World) (c : Nat) (a : Option Addr) (N cp : Nat) (ys : List ByteArray) : Prop where
  b : Below (c + 1) w2 wr
  o : wr.ownsRow (c + 1) 9 1 (.slice a N cp) N (ys.map .string)
theorem SoW.drew {w2 wr : World} {c : Nat} {a : Option Addr} {N cp : Nat} {ys : List ByteArray} (h : SoW w2 wr c a N cp ys) : SoW w2 wr.drew c a N cp ys := ⟨h.b.drew, h.o⟩
theorem SoW.drewN {w2 wr : World} {c : Nat} {a : Option Addr} {N cp : Nat} {ys : List ByteArray} (h : SoW w2 wr c a N cp ys) (q : Nat) : SoW w2 (wr.drewN q) c a N cp ys :=
  ⟨below_drewN h.b q, owns_same h.o (fun g hg => (below_drewN (Below.refl wr.heap.size wr) q).block g (owns_lt h.o g hg).2) (fun _ _ h => h)⟩
theorem SoW.at {w2 wr : World} {c g N cp : Nat} {A : List ByteArray} {z : ByteArray} {t : List ByteArray} (h : SoW w2 wr c (some ⟨g, 0, none⟩) N cp (A ++ z :: t)) : wr.cell? ⟨g, A.length, none⟩ = some (.string z) ∧ A.length < N ∧ ∀ j, wr.frozen? ⟨g, j, none⟩ = false := by
  have hl := h.o.1
  rw [List.length_map, List.length_append, List.length_cons] at hl
  refine ⟨?_, by omega, fun j => h.o.frozenAt j⟩
  rw [h.o.cellAt _ (by omega), List.getElem?_map, List.getElem?_append_right (Nat.le_refl _)]
  simp
theorem SoW.swap {w2 wr : World} {c g N cp : Nat} {A : List ByteArray} {p z : ByteArray} {t : List ByteArray} (h : SoW w2 wr c (some ⟨g, 0, none⟩) N cp (A ++ p :: z :: t)) : SoW w2 ((wr.setCell ⟨g, A.length + 1, none⟩ (.string p)).setCell ⟨g, A.length, none⟩ (.string z)) c (some ⟨g, 0, none⟩) N cp (A ++ z :: p :: t) := by
  have hg := (owns_lt h.o g rfl).1
  refine ⟨(h.b.setCell (show c + 1 ≤ g from hg) _).setCell (show c + 1 ≤ g from hg) _, ?_⟩
  have := ((h.o.stored (A.length + 1) (.string p)).1.stored A.length (.string z)).1
  rw [set_swap] at this
  exact this
set_option maxRecDepth 20000 in
set_option maxHeartbeats 4000000 in
theorem refFiles_any (T : Tr) (lo hi : Nat) (cs : List Value) (w : World) (hL : Lies lo hi w T cs) (hW : wt T ≤ 100000) (hhi : hi ≤ w.heap.size) :
    Calls Tryd.prog 19 #[.agg cs.toArray] w fun e w' => Below w.heap.size w w' ∧ ∃ a c, e = .returned (.slice a (filesS T).length c) ∧ Row w.heap.size w'.heap.size w' (.slice a (filesS T).length c) (filesS T).length ((filesS T).map .string) := by
  obtain ⟨kt, xt, at0, nt, ct, bt, mt, dt, et, pt, qt, rfl⟩ := hL.form
  have HC1 := hide (fun W (h : Below w.heap.size w W) => checkR_any T lo hi _ W (hL.kept h hhi) hW (by have := h.size; omega))
  have HL := hide hL
  obtain ⟨wA, hwA⟩ : ∃ wA, wA = w.alloc (.cells #[.int .i64 kt, .bool xt, .slice at0 nt ct, .slice bt mt dt, .slice et pt qt] 26) := ⟨_, rfl⟩
  have hbA : Below w.heap.size w wA := by rw [hwA]; exact (Below.refl _ _).alloc (Nat.le_refl _) _
  have hsA : wA.heap.size = w.heap.size + 1 := by rw [hwA]; simp
  have hbx : Bx wA w.heap.size (.int .i64 kt) (.bool xt) (.slice at0 nt ct) (.slice bt mt dt) (.slice et pt qt) := by rw [hwA]; exact bx_new _ _ _ _ _ _
  have HA := hide (And.intro hbA (And.intro hsA hbx))
  have HwA := hide hwA
  have HF : Hid (filesS T = if (chk T 1 0).1 = 0 then sortB (filesL T ⟨#[]⟩) else []) := rfl
  clear hL hwA hbA hsA hbx
  go_enter Tryd.func19, Tryd.ntmps19
  go_wp2_with fail
  rw [← unhide HwA]
  refine (unhide HC1 wA (unhide HA).1).mono ?_
  rintro e w1 ⟨rfl, hb1⟩
  have hs1 := hb1.size
  have HA1 := hide (And.intro ((unhide HA).1.trans (hb1.mono (by have := (unhide HA).2.1; omega))) ((unhide HA).2.2.kept hb1 (by have := (unhide HA).2.1; omega)))
  have hs0 := (unhide HA).2.1
  clear HC1 HwA hb1 HA
  by_cases hc1 : (chk T 1 0).1 = 0
  case neg =>
    have hn1 := ne0 hc1
    rw [if_neg hc1] at HF
    clear hc1
    generalize (chk T 1 0).1 = c1 at *
    go_wp2_with fail
    rw [unhide HF]
    refine bodyPost_ret (v := .slice none 0 0) (by simp [results, Tryd.results19, go_sem]) rfl ⟨(unhide HA1).1, none, 0, rfl, none, 0, rfl, Nat.le_refl _, fun h => absurd h (Nat.lt_irrefl _)⟩
  case pos =>
  have HN := hide (chk_nice T hc1).ev
  rw [if_pos hc1] at HF
  rw [hc1]
  clear hc1
  obtain ⟨y0, y1, y2, y3, y4⟩ := (unhide HA1).2.cells
  have hlt1 : w.heap.size < w1.heap.size := by omega
  go_wp2_with fail
  obtain ⟨wB, hwB⟩ : ∃ wB, wB = w1.alloc (.cells #[.slice none 0 0] 23) := ⟨_, rfl⟩
  have hbB : Below w1.heap.size w1 wB := by rw [hwB]; exact (Below.refl _ _).alloc (Nat.le_refl _) _
  have hsB : wB.heap.size = w1.heap.size + 1 := by rw [hwB]; simp
  have hcB : wB.heap[w1.heap.size]? = some (.cells #[.slice none 0 0] 23) := by
    rw [hwB]
    show (w1.heap.push _)[w1.heap.size]? = _
    rw [Array.getElem?_push, if_pos rfl]
  rw [← hwB]
  clear hwB
  have HG := hide (walk_any T lo hi _ wB w1.heap.size ⟨#[]⟩ none 0 [] ((unhide HL).kept ((unhide HA1).1.trans (hbB.mono (by omega))) hhi) (by omega) (unhide HN) hW (by show 0 + _ ≤ _; omega) (by simp; omega) ⟨by rw [cell_of_row _ _ _ _ _ _ hcB]; rfl, by unfold World.frozen?; rw [hcB]; simp⟩ ⟨by simp, .inl ⟨rfl, rfl⟩⟩)
  refine (unhide HG).mono ?_
  rintro e w2 ⟨rfl, a2, c2, hG2, hC2, hO2⟩
  rw [List.nil_append] at hG2 hC2 hO2
  have hs2 := hG2.size
  have HB2 := hide ((unhide HA1).1.trans ((hbB.mono (by omega)).trans (hG2.below (B := w.heap.size) (by omega) (by omega) (fun g hg => by simp [Value.ownBlock] at hg))))
  have hcc := hC2.cell
  have hfl0 : (filesL T ⟨#[]⟩).length ≤ 100000 := by have := filesL_len T ⟨#[]⟩; omega
  have HLen := hide (sortB_length (filesL T ⟨#[]⟩))
  have hO3 : SoW w2 w2 w1.heap.size a2 (filesL T ⟨#[]⟩).length c2 (filesL T ⟨#[]⟩) := ⟨Below.refl _ _, hO2⟩
  have HO3 := hide hO3
  have HC2 := hide hC2
  clear HG hG2 hO2 y0 y1 y2 y3 y4 hcB hbB hO3 hC2
  generalize hfl : filesL T ⟨#[]⟩ = fl at *
  clear hfl
  obtain ⟨N, hN⟩ : ∃ N, fl.length = N := ⟨_, rfl⟩
  rw [hN] at hcc HO3 hfl0 HC2
  have HNl := hide hN
  have hcl := (unhide HC2).lt
  clear hN
  go_wp2_with fail
  go_loopw [4] (fun vi wr => ∃ (i : Nat) (ys : List ByteArray), 1 ≤ i ∧ i ≤ N + 1 ∧ vi = .int .i64 (i : Int) ∧ SoW w2 wr w1.heap.size a2 N c2 ys ∧ Hid (ys.Perm fl ∧ (ys.take i).Pairwise leT)) (fun vi _ => N + 1 - (intOf vi).toNat)
  case atStart =>
    refine ⟨1, fl, Nat.le_refl _, by omega, rfl, unhide HO3, List.Perm.refl _, ?_⟩
    cases fl with
    | nil => simp
    | cons a r => simp
  case round =>
    obtain ⟨i, ys, hi1, hiN, rfl, hW, hS⟩ := hrel
    have hcr : wr.cell? ⟨w1.heap.size, 0, none⟩ = some (.slice a2 N c2) := by rw [hW.b.cell (p := ⟨w1.heap.size, 0, none⟩) (by show w1.heap.size < _; omega)]; exact hcc
    have hsr := hW.b.size
    have hyl : ys.length = N := by have := hW.o.1; rw [List.length_map] at this; omega
    by_cases hlt : i < N
    · obtain ⟨A0, z0, R0, hys, hway⟩ := way_start (unhide hS).1 (unhide hS).2 (show i < ys.length by omega)
      subst hys
      obtain ⟨g, ha2⟩ := own_at' hW.o (by omega)
      subst ha2
      have HW := hide hW
      have HY := hide hway
      clear hW hS hway hyl
      go_wp2_with fail
      go_loopw [5] (fun vk wr' => ∃ (k : Nat) (A : List ByteArray) (z : ByteArray) (B R : List ByteArray), k ≤ i ∧ vk = .int .i64 (k : Int) ∧ SoW w2 wr' w1.heap.size (some ⟨g, 0, none⟩) N c2 (A ++ z :: (B ++ R)) ∧ Hid (Way fl i k A z B R)) (fun vk _ => (intOf vk).toNat)
      case atStart => exact ⟨i, A0, z0, [], R0, Nat.le_refl _, rfl, unhide HW, unhide HY⟩
      case round =>
        obtain ⟨k, A, z, B, R, hki, rfl, hW, hY⟩ := hrel
        have hcr' : wr.cell? ⟨w1.heap.size, 0, none⟩ = some (.slice (some ⟨g, 0, none⟩) N c2) := by rw [hW.b.cell (p := ⟨w1.heap.size, 0, none⟩) (by show w1.heap.size < _; omega)]; exact hcc
        have hsr' := hW.b.size
        obtain ⟨yz, hAN, yf⟩ := hW.at
        rw [(unhide hY).a] at yz hAN
        cases k with
        | zero =>
          have HS2 : Hid ((A ++ z :: (B ++ R)).Perm fl ∧ ((A ++ z :: (B ++ R)).take (i + 1)).Pairwise leT) := ⟨(unhide hY).p, way_end (unhide hY) (fun A' p e => by have := (unhide hY).a; rw [e] at this; simp at this)⟩
          have HW2 := hide hW
          clear hW hY yz yf
          go_wp2_with fail
          go_quiet (fail)
          go_wp2_with fail
          go_roundw
          case rel => exact ⟨i + 1, A ++ z :: (B ++ R), by omega, by omega, by go_num, (unhide HW2).drewN _, unhide HS2⟩
          case measure => simp [intOf]; try omega
        | succ m =>
          obtain ⟨A', p, hA⟩ : ∃ A' p, A = A' ++ [p] := by
            rcases List.eq_nil_or_concat A with h | ⟨A', p, h⟩
            · have := (unhide hY).a; rw [h] at this; simp at this
            · exact ⟨A', p, by rw [h, List.concat_eq_append]⟩
          subst hA
          have hAm : A'.length = m := by have := (unhide hY).a; simp at this; exact this
          have e0 : A' ++ [p] ++ z :: (B ++ R) = A' ++ p :: z :: (B ++ R) := by simp
          rw [e0] at hW
          obtain ⟨yp, hAN', yf'⟩ := hW.at
          rw [hAm] at yp hAN'
          have hgc : w1.heap.size + 1 ≤ g := (owns_lt hW.o g rfl).1
          have hgne : w1.heap.size ≠ g := by omega
          have f1 := yf (m + 1)
          have f0 := yf m
          by_cases hls : z.toList < p.toList
          · have hbl : Op.bytesLess z.toList p.toList = true := by rw [Go.Proofs.bytesLess_eq]; exact decide_eq_true hls
            have HY2 := hide (way_step (unhide hY) hls)
            have HW2 := hide hW.swap
            rw [hAm] at HW2
            clear hW hY yf yf' hls e0
            rw [show (((m + 1 : Nat)) : Int) = (m : Int) + 1 by omega]
            go_wp2_with fail
            go_quiet (fail)
            go_wp2_with fail
            go_region
            go_wp2_with fail
            go_roundw
            case rel =>
              have H := unhide HW2
              exact ⟨m, A', z, p :: B, R, by omega, by go_num, ⟨⟨H.b.os, H.b.tape, H.b.output, H.b.size, H.b.block⟩, H.o⟩, unhide HY2⟩
            case measure => simp [intOf]; try omega
          · have hbl : Op.bytesLess z.toList p.toList = false := by rw [Go.Proofs.bytesLess_eq]; exact decide_eq_false hls
            have HS2 : Hid ((A' ++ p :: z :: (B ++ R)).Perm fl ∧ ((A' ++ p :: z :: (B ++ R)).take (i + 1)).Pairwise leT) := by
              have h1 := (unhide hY).p
              have h2 := way_end (unhide hY) (fun A'' p' e => by have := List.append_inj_right' e rfl; simp at this; rw [← this]; exact hls)
              rw [e0] at h1 h2
              exact ⟨h1, h2⟩
            have HW2 := hide hW
            clear hW hY yf yf' hls e0
            rw [show (((m + 1 : Nat)) : Int) = (m : Int) + 1 by omega]
            go_wp2_with fail
            go_quiet (fail)
            go_wp2_with fail
            go_roundw
            case rel => exact ⟨i + 1, A' ++ p :: z :: (B ++ R), by omega, by omega, by go_num, (unhide HW2).drewN _, unhide HS2⟩
            case measure => simp [intOf]; try omega
    · have HR : Hid (ys = sortB fl) := sortB_of (unhide hS).1 (by have h2 := (unhide hS).2; rw [List.take_of_length_le (by omega)] at h2; exact h2)
      have HW2 := hide hW
      clear hW hS
      go_wp2_with fail
      rw [unhide HF]
      refine bodyPost_ret (v := .slice a2 N c2) (by simp [results, Tryd.results19, go_sem]) rfl ⟨?_, a2, c2, ?_, ?_⟩
      · exact (unhide HB2).trans ((unhide HW2).b.mono (by omega))
      · rw [unhide HLen, unhide HNl]
      · rw [unhide HLen, unhide HNl]
        have hR := owns_row (unhide HW2).o (owns_lt (unhide HW2).o)
        rw [unhide HR] at hR
        exact hR.mono (by omega) (Nat.le_refl _)
end Go.Proofs.YthfjofmfiklegaaDoor
